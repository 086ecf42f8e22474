/- SpanGaps: the walk, spans that don't stand in order. -/
import Derived.Test.YtonohpbkbifhnaaGapsM
namespace Go.Proofs.Ytonohpbkbifhnaa
open Go Go.RowKit
set_option linter.unusedVariables false

theorem chk_all (m : Int) (l : List (Int × Int)) (h : chkTo m l = true) : allB l = true := by
  unfold chkTo at h
  unfold allB
  rw [List.all_eq_true] at *
  intro x hx
  have := chkB_iff.1 (h x hx)
  exact mayB_iff.2 this.1
theorem ordB_pair {l : List (Int × Int)} (h : allB l = true) (j : Nat) (hj : j + 1 < l.length) : ordB (l.getD j (0, 0)) (l.getD (j + 1) (0, 0)) = pairB l j := by
  have m1 : mayB (l.getD j (0, 0)).1 (l.getD j (0, 0)).2 = true := by
    rw [getD_get l j (by omega)]; unfold allB at h; exact List.all_eq_true.1 h _ (List.getElem_mem _)
  have m2 : mayB (l.getD (j + 1) (0, 0)).1 (l.getD (j + 1) (0, 0)).2 = true := by
    rw [getD_get l (j + 1) hj]; unfold allB at h; exact List.all_eq_true.1 h _ (List.getElem_mem _)
  unfold ordB pairB apartB
  rw [m1, m2]
  generalize l.getD j (0, 0) = y at *
  generalize l.getD (j + 1) (0, 0) = x at *
  obtain ⟨y1, y2⟩ := y
  obtain ⟨x1, x2⟩ := x
  have q1 := mayB_iff.1 m1
  have q2 := mayB_iff.1 m2
  simp only at q1 q2
  rw [Bool.eq_iff_iff]
  simp
  omega
theorem ordQ_ok {l : List (Int × Int)} (h : allB l = true) : ∀ k, k + 1 ≤ l.length → ordQ l (k + 1) = okTo l k := by
  intro k
  induction k with
  | zero => intro _; rfl
  | succ k ih =>
    intro hk
    have e : ordQ l (k + 1 + 1) = (ordQ l (k + 1) && ordB (l.getD k (0, 0)) (l.getD (k + 1) (0, 0))) := rfl
    rw [e, ih (by omega), ordB_pair h k (by omega), okTo_succ]
theorem ordQ_all {m : Int} {l : List (Int × Int)} (h : chkTo m l = true) (h1 : 1 ≤ l.length) : ordQ l l.length = sortedB l := by
  have ha := chk_all m l h
  have := ordQ_ok ha (l.length - 1) (by omega)
  rw [show l.length - 1 + 1 = l.length by omega] at this
  unfold sortedB
  rw [this, ha, Bool.and_true]

set_option maxRecDepth 100000 in
set_option maxHeartbeats 4000000 in
theorem gapsl_mix (m : Int) (b off n cap : Nat) (l : List (Int × Int)) (w : World) (hl : l.length = n) (h1 : 1 ≤ n) (hn : n ≤ cap) (hcap : cap ≤ maxLen) (hb : b < w.heap.size) (hr : SpanAt w b off l) (h60 : n ≤ 60) (h0 : 0 ≤ m) (hm : m ≤ 3000) (hc : chkTo m l = true) (hs : sortedB l = false) :
    Calls Try.prog 8 #[.int .i64 m, .slice (some ⟨b, off, none⟩) n cap] w fun e w' => e = .returned (.bool true) ∧ Below w.heap.size w w' := by
  have HO := Lib.hid ((ordQ_all hc (by omega)).trans hs)
  have HS := Lib.hid hs
  have SRT := Lib.hid (fun w hb hr => sorted_some b off n cap l w hl h1 hn hcap hb hr)
  clear hs
  have HG := Lib.hid (fun w hb hr => gaps_some m b off n cap l w hl h1 hn hcap hb hr (by omega) (chkB_iff.2 ⟨⟨by omega, by omega, by omega⟩, by omega, by omega⟩))
  have HR := Lib.hid hr
  have HL := Lib.hid hl
  have HC := Lib.hid hcap
  have HF := Lib.hid hc
  unfold maxLen at hcap
  clear hr hl hc
  go_enter Try.func8, Try.ntmps8
  go_wp2_with fail
  refine (spans_any _).mono ?_
  rintro e w1 ⟨rfl, h01⟩
  go_wp2_with fail
  refine (HG.out w1 (Nat.lt_of_lt_of_le hb h01.size) (HR.out.below h01 hb)).mono ?_
  rintro e w2 ⟨h12, hway⟩
  have he : e = .returned (.tuple #[.slice none 0 0, .int .i64 7]) := by
    rcases hway with ⟨h, _⟩ | ⟨_, _, h⟩ | ⟨_, h, _⟩
    · exact absurd (HF.out.symm.trans h) (by simp)
    · exact h
    · exact absurd (HS.out.symm.trans h) (by simp)
  subst he
  have H02 := Lib.hid (after h01 h12)
  clear h01 h12 hway HG
  go_wp2_with fail
  go_loopw [7, 8, 46] (fun p q i wr => ∃ k : Nat, k ≤ n ∧ i = .int .i64 k ∧ p = .bool (chkTo m (l.take k)) ∧ q = .bool (ordQ l k) ∧ Below w.heap.size w wr) (fun _ _ i _ => n - (intOf i).toNat)
  case atStart => exact ⟨0, Nat.zero_le _, rfl, rfl, rfl, H02.out⟩
  case round =>
    obtain ⟨k, hk, rfl, rfl, rfl, hbel⟩ := hrel
    have HB := hbel
    have hsz := hbel.size
    have hbw : b < wr.heap.size := by omega
    by_cases hlt : k < n
    · have hkl : k < l.length := by rw [HL.out]; exact hlt
      obtain ⟨c0, c1⟩ := (HR.out.below hbel hb) k hkl
      have SN := Lib.hid (chkTo_snoc m l k hkl)
      have HBEL := Lib.hid hbel
      clear hbel HB
      cases k with
      | zero =>
        have HQ : Hid (ordQ l (0 + 1) = true) := Lib.hid rfl
        rw [show ordQ l 0 = true from rfl, show chkTo m (l.take 0) = true from rfl]
        rw [show chkTo m (l.take 0) = true from rfl] at SN
        revert c0 c1 SN
        generalize l[0] = x
        obtain ⟨x1, x2⟩ := x
        intro c0 c1 SN
        dsimp only at c0 c1 SN
        rw [show off + 0 * 2 = off by omega] at c0 c1
        clear hkl
        cases hm : mayB x1 x2
        all_goals
          go_wp2_with (go_at_call 15; refine (may_any _ _ _).mono ?_; rintro e w' ⟨rfl, rfl⟩)
          all_goals
            have HB := HBEL.out
            exact ⟨⟨0 + 1, by omega, by go_num, congrArg Value.bool (by rw [SN.out, Bool.eq_iff_iff]; simp [chkB, hm] <;> omega), congrArg Value.bool (by rw [HQ.out]), by repeat (first | exact Below.refl _ _ | apply Below.setCell _ (by first | omega | (simp <;> omega)) | apply Below.alloc _ (by first | omega | (simp <;> omega)) | exact HB | refine after ?_ HB)⟩, by simp [intOf]; omega⟩
      | succ j =>
        obtain ⟨d0, d1⟩ := (HR.out.below HBEL.out hb) j (by omega)
        have HQ : Hid (ordQ l (j + 1 + 1) = (ordQ l (j + 1) && ordB l[j] l[j + 1])) := Lib.hid (by show (ordQ l (j + 1) && ordB (l.getD j (0, 0)) (l.getD (j + 1) (0, 0))) = _; rw [getD_get l j (by omega), getD_get l (j + 1) hkl])
        revert c0 c1 SN d0 d1 HQ
        generalize l[j + 1] = x
        generalize l[j] = y
        obtain ⟨x1, x2⟩ := x
        obtain ⟨y1, y2⟩ := y
        intro c0 c1 SN d0 d1 HQ
        dsimp only at c0 c1 SN d0 d1 HQ
        clear hkl
        cases hO : ordQ l (j + 1) <;> cases hI : chkTo m (l.take (j + 1)) <;> cases hm : mayB x1 x2
        all_goals
          rw [hO] at HQ
          rw [hI] at SN
          go_wp2_with (go_at_call 15; refine (may_any _ _ _).mono ?_; rintro e w' ⟨rfl, rfl⟩)
          all_goals
            have HB := HBEL.out
            exact ⟨⟨j + 1 + 1, by omega, by go_num, congrArg Value.bool (by rw [SN.out, Bool.eq_iff_iff]; simp [chkB, hm] <;> omega), congrArg Value.bool (by rw [HQ.out, Bool.eq_iff_iff]; simp [ordB] <;> omega), by repeat (first | exact Below.refl _ _ | apply Below.setCell _ (by first | omega | (simp <;> omega)) | apply Below.alloc _ (by first | omega | (simp <;> omega)) | exact HB | refine after ?_ HB)⟩, by simp [intOf]; omega⟩
    · have hk' : k = l.length := by have := HL.out; omega
      have E : chkTo m (l.take k) = true := by rw [hk', List.take_length]; exact HF.out
      have E2 : ordQ l k = false := by rw [hk']; exact HO.out
      rw [E, E2]
      have HR1 := Lib.hid (HR.out.below HB hb)
      have HB1 := Lib.hid HB
      clear E E2 hk' HB hbel
      go_wp2_with fail
      refine (SRT.out wr hbw HR1.out).mono ?_
      rw [HS.out]
      rintro e w3 ⟨rfl, h23⟩
      go_wp2_with fail
      go_ret
      exact ⟨rfl, after HB1.out h23⟩

end Go.Proofs.Ytonohpbkbifhnaa
