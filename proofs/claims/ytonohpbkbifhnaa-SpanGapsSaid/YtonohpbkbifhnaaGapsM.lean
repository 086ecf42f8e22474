/- SpanGaps: the walk, spans that don't all lie in the text, or don't stand in order. -/
import Derived.Test.YtonohpbkbifhnaaGapsL
namespace Go.Proofs.Ytonohpbkbifhnaa
open Go Go.RowKit
set_option linter.unusedVariables false

/-- do two spans stand in order, as the statement asks? -/
def ordB (y x : Int × Int) : Bool := decide (y.2 ≤ x.1) && !(decide (y = x) && decide (y.1 = y.2))
def ordQ (l : List (Int × Int)) : Nat → Bool
  | 0 => true
  | 1 => true
  | k + 2 => ordQ l (k + 1) && ordB (l.getD k (0, 0)) (l.getD (k + 1) (0, 0))

set_option maxRecDepth 100000 in
set_option maxHeartbeats 4000000 in
theorem gapsl_out (m : Int) (b off n cap : Nat) (l : List (Int × Int)) (w : World) (hl : l.length = n) (h1 : 1 ≤ n) (hn : n ≤ cap) (hcap : cap ≤ maxLen) (hb : b < w.heap.size) (hr : SpanAt w b off l) (h60 : n ≤ 60) (h0 : 0 ≤ m) (hm : m ≤ 3000) (hc : chkTo m l = false) :
    Calls Try.prog 8 #[.int .i64 m, .slice (some ⟨b, off, none⟩) n cap] w fun e w' => e = .returned (.bool true) ∧ Below w.heap.size w w' := by
  have HG := Lib.hid (fun w hb hr => gaps_some m b off n cap l w hl h1 hn hcap hb hr (by omega) (chkB_iff.2 ⟨⟨by omega, by omega, by omega⟩, by omega, by omega⟩))
  have HR := Lib.hid hr
  have HL := Lib.hid hl
  have HC := Lib.hid hcap
  have HF := Lib.hid hc
  unfold maxLen at hcap
  clear hr hl hc
  go_enter Try.func8, Try.ntmps8
  go_wp2_with fail
  refine (spans_any _).mono ?_
  rintro e w1 ⟨rfl, h01⟩
  go_wp2_with fail
  refine (HG.out w1 (Nat.lt_of_lt_of_le hb h01.size) (HR.out.below h01 hb)).mono ?_
  rintro e w2 ⟨h12, hway⟩
  have he : e = .returned (.tuple #[.slice none 0 0, .int .i64 1]) := by
    rcases hway with ⟨_, h⟩ | ⟨h, _⟩ | ⟨h, _⟩
    · exact h
    · exact absurd (HF.out.symm.trans h) (by simp)
    · exact absurd (HF.out.symm.trans h) (by simp)
  subst he
  have H02 := Lib.hid (after h01 h12)
  clear h01 h12 hway HG
  go_wp2_with fail
  go_loopw [7, 8, 46] (fun p q i wr => ∃ k : Nat, k ≤ n ∧ i = .int .i64 k ∧ p = .bool (chkTo m (l.take k)) ∧ q = .bool (ordQ l k) ∧ Below w.heap.size w wr) (fun _ _ i _ => n - (intOf i).toNat)
  case atStart => exact ⟨0, Nat.zero_le _, rfl, rfl, rfl, H02.out⟩
  case round =>
    obtain ⟨k, hk, rfl, rfl, rfl, hbel⟩ := hrel
    have HB := hbel
    have hsz := hbel.size
    have hbw : b < wr.heap.size := by omega
    by_cases hlt : k < n
    · have hkl : k < l.length := by rw [HL.out]; exact hlt
      obtain ⟨c0, c1⟩ := (HR.out.below hbel hb) k hkl
      have SN := Lib.hid (chkTo_snoc m l k hkl)
      have HBEL := Lib.hid hbel
      clear hbel HB
      cases k with
      | zero =>
        have HQ : Hid (ordQ l (0 + 1) = true) := Lib.hid rfl
        rw [show ordQ l 0 = true from rfl, show chkTo m (l.take 0) = true from rfl]
        rw [show chkTo m (l.take 0) = true from rfl] at SN
        revert c0 c1 SN
        generalize l[0] = x
        obtain ⟨x1, x2⟩ := x
        intro c0 c1 SN
        dsimp only at c0 c1 SN
        rw [show off + 0 * 2 = off by omega] at c0 c1
        clear hkl
        cases hm : mayB x1 x2
        all_goals
          go_wp2_with (go_at_call 15; refine (may_any _ _ _).mono ?_; rintro e w' ⟨rfl, rfl⟩)
          all_goals
            have HB := HBEL.out
            exact ⟨⟨0 + 1, by omega, by go_num, congrArg Value.bool (by rw [SN.out, Bool.eq_iff_iff]; simp [chkB, hm] <;> omega), congrArg Value.bool (by rw [HQ.out]), by repeat (first | exact Below.refl _ _ | apply Below.setCell _ (by first | omega | (simp <;> omega)) | apply Below.alloc _ (by first | omega | (simp <;> omega)) | exact HB | refine after ?_ HB)⟩, by simp [intOf]; omega⟩
      | succ j =>
        obtain ⟨d0, d1⟩ := (HR.out.below HBEL.out hb) j (by omega)
        have HQ : Hid (ordQ l (j + 1 + 1) = (ordQ l (j + 1) && ordB l[j] l[j + 1])) := Lib.hid (by show (ordQ l (j + 1) && ordB (l.getD j (0, 0)) (l.getD (j + 1) (0, 0))) = _; rw [getD_get l j (by omega), getD_get l (j + 1) hkl])
        revert c0 c1 SN d0 d1 HQ
        generalize l[j + 1] = x
        generalize l[j] = y
        obtain ⟨x1, x2⟩ := x
        obtain ⟨y1, y2⟩ := y
        intro c0 c1 SN d0 d1 HQ
        dsimp only at c0 c1 SN d0 d1 HQ
        clear hkl
        cases hO : ordQ l (j + 1) <;> cases hI : chkTo m (l.take (j + 1)) <;> cases hm : mayB x1 x2
        all_goals
          rw [hO] at HQ
          rw [hI] at SN
          go_wp2_with (go_at_call 15; refine (may_any _ _ _).mono ?_; rintro e w' ⟨rfl, rfl⟩)
          all_goals
            have HB := HBEL.out
            exact ⟨⟨j + 1 + 1, by omega, by go_num, congrArg Value.bool (by rw [SN.out, Bool.eq_iff_iff]; simp [chkB, hm] <;> omega), congrArg Value.bool (by rw [HQ.out, Bool.eq_iff_iff]; simp [ordB] <;> omega), by repeat (first | exact Below.refl _ _ | apply Below.setCell _ (by first | omega | (simp <;> omega)) | apply Below.alloc _ (by first | omega | (simp <;> omega)) | exact HB | refine after ?_ HB)⟩, by simp [intOf]; omega⟩
    · have hk' : k = l.length := by have := HL.out; omega
      have E : chkTo m (l.take k) = false := by rw [hk', List.take_length]; exact HF.out
      rw [E]
      clear E hk'
      go_wp2_with fail
      go_ret
      exact ⟨rfl, HB⟩

end Go.Proofs.Ytonohpbkbifhnaa
