/- DiffTidy: the walk. -/
import Derived.Test.YtepoiedophggkaaDiffM
import Derived.Test.YtepoiedophggkaaEditN
namespace Go.Proofs.Ytepoiedophggkaa
open Go Go.RowKit
set_option linter.unusedVariables false

theorem DInv.row {w w' : World} {l : List IEd} {v : Value} {n : Nat} (h : DInv w w' l v) (hn : l.length = n) : ∃ src cap, v = .slice src n cap ∧ (0 < n → ∃ g, src = some ⟨g, 0, none⟩ ∧ g < w'.heap.size ∧ EditAt w' g 0 l) := by
  obtain ⟨src, cap, hv, hr⟩ := h.shape hn
  refine ⟨src, cap, hv, fun h0 => ?_⟩
  obtain ⟨b, off, hs, hb, he⟩ := hr (by omega)
  have ho := h.2.1.2
  rcases ho with ⟨_, h1⟩ | ⟨g, c2, cur, h1, _⟩
  · omega
  · rw [hv, hs] at h1
    injection h1 with h1 _ _
    injection h1 with h1
    injection h1 with h1 h2 _
    subst h2
    exact ⟨b, hs, hb, he⟩

set_option maxRecDepth 100000 in
set_option maxHeartbeats 4000000 in
theorem diffTidy_in (a b : ByteArray) (w : World) (ha : a.size ≤ 300) (hb : b.size ≤ 200) :
    Calls Try.prog 10 #[.string a, .string b] w fun e w' => e = .returned (.bool true) ∧ Below w.heap.size w w' := by
  have hle := farN_le a b
  have HB := Lib.hid (fun w => bytes_near a b w (by omega) (by omega) (by omega))
  have k1 : ¬ 300 < (a.size : Int) := by omega
  have k2 : ¬ 200 < (b.size : Int) := by omega
  go_enter Try.func10, Try.ntmps10
  go_wp2_with fail
  refine (finds_any _).mono ?_
  rintro e w1 ⟨rfl, h01⟩
  have H1 := Lib.hid h01
  clear h01
  go_wp2_with fail
  refine (HB.out _).mono ?_
  rintro e w2 ⟨v2, wz, L, rfl, h12, hz, hfe, -, hd⟩
  obtain ⟨src, cap, rfl, hrow⟩ := hd.row (show (L.map toI).length = L.length by simp)
  have H2 := Lib.hid (after H1.out h12)
  obtain ⟨q1, q2, q3, q4, q5, q6⟩ := hfe.fits (by omega) (by omega) (by omega)
  obtain ⟨f1, f2, f3, f4, f5, f6⟩ := hfe
  have hll : (L.map toI).length = L.length := by simp
  have hr : EdsIn w2 src (L.map toI) := fun h0 => by
    obtain ⟨g, h1, h2, h3⟩ := hrow (by omega)
    exact ⟨g, 0, h1, h2, h3⟩
  have HCK := Lib.hid (fun w hr => echeck_any (a.size : Int) src L.length cap (L.map toI) w hll (by unfold maxLen; omega) hr)
  rw [q5] at HCK
  have HC := Lib.hid (fun w hr => cost_any src L.length cap (L.map toI) w hll (by omega) (fun e he => by
    obtain ⟨x, hx, rfl⟩ := List.mem_map.1 he
    exact q2 x hx) hr)
  rw [q4] at HC
  have HT := Lib.hid (fun w hr => tidy_ok a src L.length cap L w rfl (by omega) (by omega) f1 q1 q3 q2 hr)
  have HTC : Hid (∀ D, TidyOf a L D → D.length ≤ 4096 ∧ costE (D.map toI) = (farN a b : Nat) ∧ ∀ e ∈ D, e.2.2.size ≤ 65536) := Lib.hid (fun D hD => by
    obtain ⟨t1, t2, t3, t4, t5, t6⟩ := tidy_facts hD f1 (by omega) (by omega) q1
    refine ⟨t1, ?_, t4⟩
    rw [t6]
    obtain ⟨u1, u2, u3, u4, u5, u6⟩ := hD
    have hw := farN_least (way_of_edits t2 (t := b) (by first | (rw [u3]; exact f2) | (rw [u2]; exact f2) | (rw [u4]; exact f2)))
    omega)
  have HROW := Lib.hid hrow
  have HR2 := Lib.hid hr
  have HPW := Lib.hid f5
  have HCH := Lib.hid f4
  have HOK := Lib.hid f1
  have hm : L.length ≤ 514 := f6
  clear h12 hz hd q1 q2 q3 q4 q5 q6 f1 f2 f3 f4 f5 f6 hr hrow HB
  obtain ⟨m, hmm⟩ : ∃ m, m = L.length := ⟨_, rfl⟩
  have HM := Lib.hid hmm
  rw [← hmm] at hm HT HC HCK HROW ⊢
  clear hmm hll
  generalize farN a b = n at *
  go_wp2_with fail
  refine (HCK.out _ HR2.out).mono ?_
  rintro e w3 ⟨rfl, h23⟩
  have HR3 := Lib.hid (HR2.out.step h23)
  have H3 := Lib.hid (after H2.out h23)
  have HB3 := Lib.hid h23
  clear h23
  go_wp2_with fail
  go_loopw [40] (fun i wr => ∃ k : Nat, k ≤ m ∧ i = .int .i64 k ∧ Below w3.heap.size w3 wr) (fun i _ => m - (intOf i).toNat)
  case atStart => exact ⟨0, Nat.zero_le _, rfl, Below.refl _ _⟩
  case round =>
    obtain ⟨k, hk, rfl, hbel⟩ := hrel
    have HBEL := Lib.hid hbel
    by_cases hlt : k < m
    · have hkl : k < L.length := by rw [← HM.out]; exact hlt
      obtain ⟨g, hs, hg, hrow⟩ := HROW.out (by omega)
      subst hs
      have hg3 : g < w3.heap.size := Nat.lt_of_lt_of_le hg HB3.out.size
      have hrow := (hrow.below HB3.out hg).below hbel hg3
      have hgr := Nat.lt_of_lt_of_le hg3 hbel.size
      obtain ⟨c0, c1, c2⟩ := hrow k (by simpa using hkl)
      rw [Nat.zero_add, toI_get L k (by simpa using hkl)] at c0 c1 c2
      have dat := HOK.out.at hkl
      have tch := HCH.out _ (List.getElem_mem hkl)
      have hpr : 0 < k → ∃ p : Nat, wr.cell? ⟨g, (k - 1) * 3 + 1, none⟩ = some (.int .i64 (p : Nat)) ∧ p < L[k].1 := fun h0 => by
        have hk1 : k - 1 < L.length := by omega
        have := (hrow (k - 1) (by simpa using hk1)).2.1
        rw [Nat.zero_add, toI_get L (k - 1) (by simpa using hk1)] at this
        have tin := List.pairwise_iff_getElem.1 HPW.out (k - 1) k hk1 hkl (by omega)
        exact ⟨_, this, tin⟩
      have hgd : L.getD k (0, 0, ByteArray.empty) = L[k] := by rw [List.getD_eq_getElem?_getD, List.getElem?_eq_getElem hkl]; rfl
      try rw [hgd] at dat
      clear hgd hrow hbel hg
      revert c0 c1 c2 dat tch hpr
      generalize L[k] = x
      obtain ⟨x1, x2, x3⟩ := x
      intro c0 c1 c2 dat tch hpr
      unfold toI at c0 c1 c2
      dsimp only at c0 c1 c2 dat tch hpr
      obtain ⟨-, t1, t2⟩ := dat
      unfold Changes at tch
      dsimp only at tch
      clear hkl
      rcases k with _ | j
      · rw [Nat.zero_mul] at c0
        rw [Nat.zero_mul, Nat.zero_add] at c1 c2
        clear hpr
        by_cases hA : x1 < x2
        · have e1 : ((x1 : Int) == (x2 : Int)) = false := by rw [beq_eq_false_iff_ne]; omega
          go_wp2_with fail
          go_quiet (fail)
          go_wp2_with fail
          first
            | exact ⟨⟨j + 2, by omega, by go_num, below_drewN (HBEL.out.alloc HBEL.out.size _) _⟩, by simp [intOf] <;> omega⟩
            | exact ⟨⟨1, by omega, by go_num, below_drewN (HBEL.out.alloc HBEL.out.size _) _⟩, by simp [intOf] <;> omega⟩
        · have e1 : ((x1 : Int) == (x2 : Int)) = true := by rw [beq_iff_eq]; omega
          have u2 := txt_some (t := x3) (by omega)
          go_wp2_with fail
          go_quiet (fail)
          go_wp2_with fail
          first
            | exact ⟨⟨j + 2, by omega, by go_num, below_drewN (HBEL.out.alloc HBEL.out.size _) _⟩, by simp [intOf] <;> omega⟩
            | exact ⟨⟨1, by omega, by go_num, below_drewN (HBEL.out.alloc HBEL.out.size _) _⟩, by simp [intOf] <;> omega⟩
      · obtain ⟨p, hp, hpx⟩ := hpr (by omega)
        rw [show j + 1 - 1 = j by omega] at hp
        clear hpr
        have j0 : ((j + 1 : Nat) : Int) = (j : Int) + 1 := by omega
        rw [j0]
        have j1 : (j : Int) + 1 - 1 = (j : Int) := by omega
        have j2 : decide (0 < (j : Int) + 1) = true := decide_eq_true (by omega)
        have j3 : (j : Int) < (m : Int) := by omega
        have j4 : (0 : Int) ≤ (j : Int) := by omega
        have j5 : IntKind.i64.wrap ((j : Int) + 1 - 1) = (j : Int) := by rw [j1]; exact IntWalk.i64_in _ ⟨by omega, by omega⟩
        have j6 : ((j : Int) + 1).toNat = j + 1 := by omega
        have j7 : (j : Int) + 1 < (m : Int) := by omega
        have j8 : decide ((x1 : Int) ≤ (p : Int)) = false := decide_eq_false (by omega)
        by_cases hA : x1 < x2
        · have e1 : ((x1 : Int) == (x2 : Int)) = false := by rw [beq_eq_false_iff_ne]; omega
          go_wp2_with fail
          go_quiet (fail)
          go_wp2_with fail
          first
            | exact ⟨⟨j + 2, by omega, by go_num, below_drewN (HBEL.out.alloc HBEL.out.size _) _⟩, by simp [intOf] <;> omega⟩
            | exact ⟨⟨1, by omega, by go_num, below_drewN (HBEL.out.alloc HBEL.out.size _) _⟩, by simp [intOf] <;> omega⟩
        · have e1 : ((x1 : Int) == (x2 : Int)) = true := by rw [beq_iff_eq]; omega
          have u2 := txt_some (t := x3) (by omega)
          go_wp2_with fail
          go_quiet (fail)
          go_wp2_with fail
          first
            | exact ⟨⟨j + 2, by omega, by go_num, below_drewN (HBEL.out.alloc HBEL.out.size _) _⟩, by simp [intOf] <;> omega⟩
            | exact ⟨⟨1, by omega, by go_num, below_drewN (HBEL.out.alloc HBEL.out.size _) _⟩, by simp [intOf] <;> omega⟩
    · have hk' : k = m := by omega
      subst hk'
      have H4 := Lib.hid (after H3.out hbel)
      have HR4 := Lib.hid (HR3.out.step hbel)
      clear hbel HBEL
      go_wp2_with fail
      refine (HT.out _ HR4.out).mono ?_
      rintro e w5 ⟨g2, D, rfl, h45, hg2, hrow2, hq2⟩
      obtain ⟨d1, d2, d3⟩ := HTC.out D hq2
      have HC2 := Lib.hid (fun w hr => cost_any (some ⟨g2, 0, none⟩) D.length k (D.map toI) w (by simp) (by omega) (fun e he => by
        obtain ⟨x, hx, rfl⟩ := List.mem_map.1 he
        exact d3 x hx) hr)
      rw [d2] at HC2
      have HRD : Hid (EdsIn w5 (some ⟨g2, 0, none⟩) (D.map toI)) := Lib.hid (fun _ => ⟨g2, 0, rfl, hg2, hrow2⟩)
      have HR5 := Lib.hid (HR4.out.step h45)
      have H5 := Lib.hid (after H4.out h45)
      clear h45 hq2 hrow2 d2 d3
      go_wp2_with fail
      refine (HC2.out _ HRD.out).mono ?_
      rintro e w6 ⟨rfl, h56⟩
      have HR6 := Lib.hid (HR5.out.step h56)
      have H6 := Lib.hid (after H5.out h56)
      clear h56
      go_wp2_with fail
      refine (HC.out _ HR6.out).mono ?_
      rintro e w7 ⟨rfl, h67⟩
      have H7 := Lib.hid (after H6.out h67)
      clear h67
      go_wp2_with fail
      go_ret
      exact ⟨by simp, H7.out⟩

theorem diffTidy_any (a : ByteArray) (ha : a.size ≤ maxLen) (b : ByteArray) (hb : b.size ≤ maxLen) (w : World) :
    Calls Try.prog 10 #[.string a, .string b] w fun e w' => e = .returned (.bool true) ∧ Below w.heap.size w w' := by
  unfold maxLen at ha hb
  by_cases h1 : 300 < a.size
  · have k1 : 300 < (a.size : Int) := by omega
    go_enter Try.func10, Try.ntmps10
    go_wp2_with (go_at_call 26; refine (finds_any _).mono ?_; rintro e w1 ⟨rfl, h01⟩)
    go_ret
    exact ⟨rfl, h01⟩
  · have k1 : ¬ 300 < (a.size : Int) := by omega
    by_cases h2 : 200 < b.size
    · have k2 : 200 < (b.size : Int) := by omega
      go_enter Try.func10, Try.ntmps10
      go_wp2_with (go_at_call 26; refine (finds_any _).mono ?_; rintro e w1 ⟨rfl, h01⟩)
      go_ret
      exact ⟨rfl, h01⟩
    · exact diffTidy_in a b w (by omega) (by omega)

end Go.Proofs.Ytepoiedophggkaa
