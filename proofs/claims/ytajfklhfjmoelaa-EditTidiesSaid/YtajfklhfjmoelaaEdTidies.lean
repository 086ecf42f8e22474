/- EditTidies: the walk. -/
import Derived.Test.YtajfklhfjmoelaaEditN
import Derived.Test.YtajfklhfjmoelaaEdApply
namespace Go.Proofs.Ytajfklhfjmoelaa
open Go Go.RowKit
set_option linter.unusedVariables false

set_option maxRecDepth 100000 in
set_option maxHeartbeats 1000000 in
theorem etidies_far (s : ByteArray) (src : Option Addr) (n cap : Nat) (l : List IEd) (w : World) (hl : l.length = n) (hr : EdsIn w src l) (hb : smallB s l = false) :
    Calls Try.prog 5 #[.string s, .slice src n cap] w fun e w' => e = .returned (.bool true) ∧ Below w.heap.size w w' := by
  have SM := Lib.hid (fun w hr => small_any s src n cap l w hl hr)
  rw [hb] at SM
  go_enter Try.func5, Try.ntmps5
  go_wp2_with fail
  refine (edits_any _).mono ?_
  rintro e w1 ⟨rfl, h01⟩
  go_wp2_with fail
  refine (SM.out _ (hr.step h01)).mono ?_
  rintro e w2 ⟨rfl, h12⟩
  go_wp2_with fail
  go_ret
  exact ⟨rfl, after h01 h12⟩

set_option maxRecDepth 100000 in
set_option maxHeartbeats 1000000 in
theorem etidies_no (s : ByteArray) (src : Option Addr) (n cap : Nat) (l : List IEd) (w : World) (hl : l.length = n) (hn : n ≤ maxLen) (hr : EdsIn w src l) (hb : smallB s l = true) (hf : fitsE s.size l ≠ 0) :
    Calls Try.prog 5 #[.string s, .slice src n cap] w fun e w' => e = .returned (.bool true) ∧ Below w.heap.size w w' := by
  have SM := Lib.hid (fun w hr => small_any s src n cap l w hl hr)
  rw [hb] at SM
  have RA := Lib.hid (fun w h => rapply_no s src n cap l w hl hn h hf)
  have IN := Lib.hid (fun w h => tidy_no s src n cap l w hl hn hf h)
  generalize fitsE s.size l = c at *
  have hc : (c == 0) = false := by simp; exact hf
  have hc2 : (c != 0) = true := by simp; exact hf
  go_enter Try.func5, Try.ntmps5
  go_wp2_with fail
  refine (edits_any _).mono ?_
  rintro e w1 ⟨rfl, h01⟩
  have r1 := Lib.hid (hr.step h01)
  go_wp2_with fail
  refine (SM.out _ r1.out).mono ?_
  rintro e w2 ⟨rfl, h12⟩
  have r2 := Lib.hid (r1.out.step h12)
  have b2 := Lib.hid (after h01 h12)
  clear h01 h12 r1
  go_wp2_with fail
  refine (RA.out _ r2.out).mono ?_
  rintro e w3 ⟨rfl, h23⟩
  have r3 := Lib.hid (r2.out.step h23)
  have b3 := Lib.hid (after b2.out h23)
  clear h23 b2 r2
  go_wp2_with fail
  refine (IN.out _ r3.out).mono ?_
  rintro e w4 ⟨rfl, h34⟩
  go_wp2_with fail
  go_ret
  exact ⟨by simp, after b3.out h34⟩

theorem by_ext {s : ByteArray} {a b j : Nat} (hb : b ≤ s.size) (h : a + j < b) : by' (s.extract a b) j = by' s (a + j) := by
  unfold by'
  have hz : (s.extract a b).size = min b s.size - a := by simp
  rw [dif_pos (by omega), dif_pos (by omega)]
  congr 1
  simp [ByteArray.getElem_extract]

set_option maxRecDepth 100000 in
set_option maxHeartbeats 4000000 in
theorem etidies_ok (s : ByteArray) (src : Option Addr) (n cap : Nat) (L : List NEd) (w : World) (hl : L.length = n) (hn : n ≤ 60) (hr : EdsIn w src (L.map toI)) (hb : smallB s (L.map toI) = true)
    (hok : EdOk s.size 0 L) (hs : s.size ≤ 65536) (hg : (s.size : Int) + growN L ≤ 65536) (ht : ∀ e ∈ L, e.2.2.size ≤ 65536) (hf : fitsE s.size (L.map toI) = 0) :
    Calls Try.prog 5 #[.string s, .slice src n cap] w fun e w' => e = .returned (.bool true) ∧ Below w.heap.size w w' := by
  have SM := Lib.hid (fun w hr => small_any s src n cap (L.map toI) w (by simpa using hl) hr)
  rw [hb] at SM
  have RA := Lib.hid (fun w h => rapply_ok s src n cap L w hl (by omega) hs hok hg hf ht h)
  have TY := Lib.hid (fun w h => tidy_ok s src n cap L w hl (by omega) hs hok hg hf ht h)
  have CO := Lib.hid (fun w (h : EdsIn w src (L.map toI)) => cost_any src n cap (L.map toI) w (by simpa using hl) (by omega) (toI_size ht) h)
  have e1 := (valid_fits hok (by omega) hs hg ht).2.1
  rw [e1] at CO
  have TF := Lib.hid (fun D (hq : TidyOf s L D) => tidy_facts hq hok (by omega) hs hg)
  have HL := Lib.hid hl
  go_enter Try.func5, Try.ntmps5
  clear hf ht hg hok hb e1 hl
  go_wp2_with fail
  refine (edits_any _).mono ?_
  rintro e w1 ⟨rfl, h01⟩
  have r1 := Lib.hid (hr.step h01)
  go_wp2_with fail
  refine (SM.out _ r1.out).mono ?_
  rintro e w2 ⟨rfl, h12⟩
  have r2 := Lib.hid (r1.out.step h12)
  have b2 := Lib.hid (after h01 h12)
  clear h01 h12 r1
  go_wp2_with fail
  refine (RA.out _ r2.out).mono ?_
  rintro e w3 ⟨rfl, h23⟩
  have r3 := Lib.hid (r2.out.step h23)
  have b3 := Lib.hid (after b2.out h23)
  clear h23 b2 r2
  go_wp2_with fail
  refine (TY.out _ r3.out).mono ?_
  rintro e w4 ⟨g, D, rfl, h34, hgw, hrow, hq⟩
  have r4 := Lib.hid (r3.out.step h34)
  have b4 := Lib.hid (after b3.out h34)
  have v4 := Lib.hid (show EdsIn w4 (some ⟨g, 0, none⟩) (D.map toI) from fun _ => ⟨g, 0, rfl, hgw, hrow⟩)
  have HM := Lib.hid hrow
  obtain ⟨d1, d2, d3, d4, d5, d6⟩ := TF.out D hq
  obtain ⟨q1, q2, q3, q4, q5, q6⟩ := hq
  rw [HL.out] at q5
  have AP := Lib.hid (fun w h => rapply_ok s (some ⟨g, 0, none⟩) D.length n D w rfl d1 hs d2 d3 d5 d4 h)
  have CD := Lib.hid (fun w (h : EdsIn w (some ⟨g, 0, none⟩) (D.map toI)) => cost_any (some ⟨g, 0, none⟩) D.length n (D.map toI) w (by simp) (by omega) (toI_size d4) h)
  have TD := Lib.hid (fun w h => tidy_ok s (some ⟨g, 0, none⟩) D.length n D w rfl d1 hs d2 d3 d5 d4 h)
  have TI := Lib.hid q2
  have DO := Lib.hid d2
  have DT := Lib.hid d4
  rw [q3] at AP
  rw [d6] at CD
  generalize costN L = cl at *
  generalize costN D = cd at *
  obtain ⟨m, hm⟩ : ∃ m, m = D.length := ⟨_, rfl⟩
  have HDL : Hid (D.length = m) := Lib.hid hm.symm
  rw [← hm] at AP CD TD q5
  rw [← hm]
  have DL : Hid (∀ D2 : List NEd, TidyOf s D D2 → D2 = D) := Lib.hid (fun D2 h => h.2.2.2.2.2 q2)
  clear h34 b3 r3 hgw hm d1 d2 d3 d4 d5 d6 q1 q2 q3 q6
  have hcd : (cd : Int) ≤ (cl : Int) := by omega
  have hmn : (m : Int) ≤ (n : Int) := by omega
  go_wp2_with fail
  refine (AP.out _ v4.out).mono ?_
  rintro e w5 ⟨rfl, h45⟩
  have r5 := Lib.hid (r4.out.step h45)
  have b5 := Lib.hid (after b4.out h45)
  have v5 := Lib.hid (v4.out.step h45)
  clear h45 b4 r4 
  go_wp2_with fail
  refine (CD.out _ v5.out).mono ?_
  rintro e w6 ⟨rfl, h56⟩
  have r6 := Lib.hid (r5.out.step h56)
  have b6 := Lib.hid (after b5.out h56)
  have v6 := Lib.hid (v5.out.step h56)
  clear h56 b5 r5 v5
  go_wp2_with fail
  refine (CO.out _ r6.out).mono ?_
  rintro e w7 ⟨rfl, h67⟩
  have b7 := Lib.hid (after b6.out h67)
  have v7 := Lib.hid (v6.out.step h67)
  clear h67 b6 r6 v6
  go_wp2_with fail
  go_loopw [78] (fun i wr => ∃ k : Nat, k ≤ m ∧ i = .int .i64 k ∧ Below w7.heap.size w7 wr) (fun i _ => m - (intOf i).toNat)
  case atStart => exact ⟨0, Nat.zero_le _, rfl, Below.refl _ _⟩
  case round =>
    obtain ⟨k, hk, rfl, hbel⟩ := hrel
    have HBEL := Lib.hid hbel
    by_cases hlt : k < m
    · have hkl : k < D.length := by rw [HDL.out]; exact hlt
      obtain ⟨b, off, heq, hb, hrow⟩ := (v7.out.step hbel) (by simp; omega)
      obtain ⟨rfl, rfl⟩ : g = b ∧ 0 = off := by injection heq with h; injection h with h1 h2; exact ⟨h1, h2⟩
      obtain ⟨c0, c1, c2⟩ := hrow k (by simpa using hkl)
      rw [Nat.zero_add, toI_get D k (by simpa using hkl)] at c0 c1 c2
      have dat := DO.out.at hkl
      have tch := TI.out.1 k hkl
      have dsz := DT.out _ (List.getElem_mem hkl)
      have hgd : D.getD k (0, 0, ByteArray.empty) = D[k] := by rw [List.getD_eq_getElem?_getD, List.getElem?_eq_getElem hkl]; rfl
      have hpr : 0 < k → ∃ p : Nat, wr.cell? ⟨g, (k - 1) * 3 + 1, none⟩ = some (.int .i64 (p : Nat)) ∧ p < D[k].1 := fun h0 => by
        have hk1 : k - 1 < D.length := by omega
        have := (hrow (k - 1) (by simpa using hk1)).2.1
        rw [Nat.zero_add, toI_get D (k - 1) (by simpa using hk1)] at this
        have tin := TI.out.2 (k - 1) (by omega)
        rw [show k - 1 + 1 = k by omega, hgd, List.getD_eq_getElem?_getD, List.getElem?_eq_getElem hk1] at tin
        exact ⟨_, this, tin⟩
      rw [hgd] at tch dat
      clear hgd hrow heq hr
      revert c0 c1 c2 dat tch hpr dsz
      generalize D[k] = x
      obtain ⟨x1, x2, x3⟩ := x
      intro c0 c1 c2 dat tch dsz hpr
      unfold toI at c0 c1 c2
      dsimp only at c0 c1 c2 dat tch hpr dsz
      obtain ⟨-, t1, t2⟩ := dat
      obtain ⟨tc, te⟩ := tch
      unfold Changes at tc
      unfold EndsDiffer at te
      dsimp only at tc te
      obtain ⟨o, ho⟩ : ∃ o, o = s.extract x1 x2 := ⟨_, rfl⟩
      have oz : o.size = x2 - x1 := by rw [ho, ByteArray.size_extract]; omega
      have o0 : x1 < x2 → by' o 0 = by' s x1 := fun h => by rw [ho, by_ext t2 (by omega), Nat.add_zero]
      have o1 : x1 < x2 → by' o (o.size - 1) = by' s (x2 - 1) := fun h => by rw [oz, ho, by_ext t2 (by omega)]; congr 1; omega
      have HO := Lib.hid ho.symm
      have go := get_by o
      have gt := get_by x3
      have HTE := Lib.hid te
      have HO1 := Lib.hid o1
      have HO0 := Lib.hid o0
      have OZ := Lib.hid oz
      clear ho te o0 o1 oz
      clear hkl
      rcases k with _ | j
      · rw [Nat.zero_mul] at c0
        rw [Nat.zero_mul, Nat.zero_add] at c1 c2
        clear hpr
        go_wp2_with fail
        rw [HO.out]
        by_cases hA : x1 < x2
        · have oz0 : 0 < o.size := by have := OZ.out; omega
          have u1 := txt_some (t := o) oz0
          by_cases hB : 0 < x3.size
          · have u2 := txt_some hB
            have d1 : ((by' o 0 : Int) == (by' x3 0 : Int)) = false := by
              rw [Bool.eq_false_iff]; intro h; simp at h; rw [HO0.out hA] at h; exact (HTE.out hA hB).1 (by omega)
            have d2 : ((by' o (o.size - 1) : Int) == (by' x3 (x3.size - 1) : Int)) = false := by
              rw [Bool.eq_false_iff]; intro h; simp at h; rw [HO1.out hA] at h; exact (HTE.out hA hB).2 (by omega)
            have i3 : ((x3.size : Int) - 1).toNat = x3.size - 1 := by omega
            have i6 : (0 : Int) ≤ (x3.size : Int) - 1 := by omega
            have i7 : (x3.size : Int) - 1 < (x3.size : Int) := by omega
            have i8 : x3.size - 1 < x3.size := by omega
            have iw2 : IntKind.i64.wrap ((x3.size : Int) - 1) = (x3.size : Int) - 1 := IntWalk.i64_in _ ⟨by omega, by omega⟩
            have h3 : ((o.size : Int) - 1).toNat = o.size - 1 := by omega
            have h6 : (0 : Int) ≤ (o.size : Int) - 1 := by omega
            have h7 : (o.size : Int) - 1 < (o.size : Int) := by omega
            have h8 : o.size - 1 < o.size := by omega
            have hw2 : IntKind.i64.wrap ((o.size : Int) - 1) = (o.size : Int) - 1 := by have := OZ.out; exact IntWalk.i64_in _ ⟨by omega, by omega⟩
            go_wp2_with fail
            go_quiet (fail)
            go_wp2_with fail
            go_quiet (fail)
            go_wp2_with fail
            exact ⟨⟨1, by omega, by go_num, below_drewN (HBEL.out.alloc HBEL.out.size _) _⟩, by simp [intOf]; omega⟩
          · have u2 := txt_none hB
            go_wp2_with fail
            go_quiet (fail)
            go_wp2_with fail
            go_quiet (fail)
            go_wp2_with fail
            exact ⟨⟨1, by omega, by go_num, below_drewN (HBEL.out.alloc HBEL.out.size _) _⟩, by simp [intOf]; omega⟩
        · have u1 := txt_none (t := o) (by have := OZ.out; omega)
          have u2 := txt_some (t := x3) (by omega)
          go_wp2_with fail
          go_quiet (fail)
          go_wp2_with fail
          go_quiet (fail)
          go_wp2_with fail
          exact ⟨⟨1, by omega, by go_num, below_drewN (HBEL.out.alloc HBEL.out.size _) _⟩, by simp [intOf]; omega⟩
      · obtain ⟨p, hp, hpx⟩ := hpr (by omega)
        rw [show j + 1 - 1 = j by omega] at hp
        clear hpr
        have j0 : ((j + 1 : Nat) : Int) = (j : Int) + 1 := by omega
        rw [j0]
        have j1 : (j : Int) + 1 - 1 = (j : Int) := by omega
        have j2 : decide (0 < (j : Int) + 1) = true := decide_eq_true (by omega)
        have j3 : (j : Int) < (m : Int) := by omega
        have j4 : (0 : Int) ≤ (j : Int) := by omega
        have j5 : IntKind.i64.wrap ((j : Int) + 1 - 1) = (j : Int) := by rw [j1]; exact IntWalk.i64_in _ ⟨by omega, by omega⟩
        have j6 : ((j : Int) + 1).toNat = j + 1 := by omega
        have j7 : (j : Int) + 1 < (m : Int) := by omega
        have j8 : decide ((x1 : Int) ≤ (p : Int)) = false := decide_eq_false (by omega)
        go_wp2_with fail
        rw [HO.out]
        by_cases hA : x1 < x2
        · have oz0 : 0 < o.size := by have := OZ.out; omega
          have u1 := txt_some (t := o) oz0
          by_cases hB : 0 < x3.size
          · have u2 := txt_some hB
            have d1 : ((by' o 0 : Int) == (by' x3 0 : Int)) = false := by
              rw [Bool.eq_false_iff]; intro h; simp at h; rw [HO0.out hA] at h; exact (HTE.out hA hB).1 (by omega)
            have d2 : ((by' o (o.size - 1) : Int) == (by' x3 (x3.size - 1) : Int)) = false := by
              rw [Bool.eq_false_iff]; intro h; simp at h; rw [HO1.out hA] at h; exact (HTE.out hA hB).2 (by omega)
            have i3 : ((x3.size : Int) - 1).toNat = x3.size - 1 := by omega
            have i6 : (0 : Int) ≤ (x3.size : Int) - 1 := by omega
            have i7 : (x3.size : Int) - 1 < (x3.size : Int) := by omega
            have i8 : x3.size - 1 < x3.size := by omega
            have iw2 : IntKind.i64.wrap ((x3.size : Int) - 1) = (x3.size : Int) - 1 := IntWalk.i64_in _ ⟨by omega, by omega⟩
            have h3 : ((o.size : Int) - 1).toNat = o.size - 1 := by omega
            have h6 : (0 : Int) ≤ (o.size : Int) - 1 := by omega
            have h7 : (o.size : Int) - 1 < (o.size : Int) := by omega
            have h8 : o.size - 1 < o.size := by omega
            have hw2 : IntKind.i64.wrap ((o.size : Int) - 1) = (o.size : Int) - 1 := by have := OZ.out; exact IntWalk.i64_in _ ⟨by omega, by omega⟩
            go_wp2_with fail
            go_quiet (fail)
            go_wp2_with fail
            go_quiet (fail)
            go_wp2_with fail
            exact ⟨⟨j + 2, by omega, by go_num, below_drewN (HBEL.out.alloc HBEL.out.size _) _⟩, by simp [intOf]; omega⟩
          · have u2 := txt_none hB
            go_wp2_with fail
            go_quiet (fail)
            go_wp2_with fail
            go_quiet (fail)
            go_wp2_with fail
            exact ⟨⟨j + 2, by omega, by go_num, below_drewN (HBEL.out.alloc HBEL.out.size _) _⟩, by simp [intOf]; omega⟩
        · have u1 := txt_none (t := o) (by have := OZ.out; omega)
          have u2 := txt_some (t := x3) (by omega)
          go_wp2_with fail
          go_quiet (fail)
          go_wp2_with fail
          go_quiet (fail)
          go_wp2_with fail
          exact ⟨⟨j + 2, by omega, by go_num, below_drewN (HBEL.out.alloc HBEL.out.size _) _⟩, by simp [intOf]; omega⟩
    · have hk' : k = m := by omega
      subst hk'
      have b8 := Lib.hid (after b7.out hbel)
      have v8 := Lib.hid (v7.out.step hbel)
      clear hbel HBEL hrow
      go_wp2_with fail
      refine (TD.out _ v8.out).mono ?_
      rintro e w9 ⟨g2, D2, rfl, h89, hgw2, hrow2, hq2⟩
      have hD2 := DL.out D2 hq2
      subst hD2
      have v9 := Lib.hid (v8.out.step h89)
      have b9 := Lib.hid (after b8.out h89)
      have H2 := Lib.hid hrow2
      clear h89 hq2 hrow2 b8 v8 hr
      rw [HDL.out]
      go_wp2_with fail
      go_loopw [163] (fun i wr => ∃ j : Nat, j ≤ k ∧ i = .int .i64 j ∧ Below w9.heap.size w9 wr) (fun i _ => k - (intOf i).toNat)
      case atStart => exact ⟨0, Nat.zero_le _, rfl, Below.refl _ _⟩
      case round =>
        obtain ⟨j, hj, rfl, hbel⟩ := hrel
        have HBEL := Lib.hid hbel
        by_cases hjt : j < k
        · have hjl : j < (D2.map toI).length := by simp; rw [HDL.out]; exact hjt
          obtain ⟨c0, c1, c2⟩ := (H2.out.below hbel hgw2) j hjl
          obtain ⟨b, off, heq, hb, hrow⟩ := (v9.out.step hbel) (by simp; rw [HDL.out]; omega)
          obtain ⟨rfl, rfl⟩ : g = b ∧ 0 = off := by injection heq with h; injection h with h1 h2; exact ⟨h1, h2⟩
          obtain ⟨d0, d1, d2⟩ := hrow j hjl
          rw [Nat.zero_add] at c0 c1 c2 d0 d1 d2
          clear hbel hrow heq
          revert c0 c1 c2 d0 d1 d2
          generalize (D2.map toI)[j] = x
          obtain ⟨x1, x2, x3⟩ := x
          intro c0 c1 c2 d0 d1 d2
          dsimp only at c0 c1 c2 d0 d1 d2
          have i1 : (j : Int) < (k : Int) := by omega
          have i0 : (0 : Int) ≤ (j : Int) := by omega
          clear hjl
          go_wp2_with fail
          go_quiet (fail)
          go_wp2_with fail
          exact ⟨⟨j + 1, by omega, by go_num, below_drewN HBEL.out _⟩, by simp [intOf]; omega⟩
        · have hj' : j = k := by omega
          subst hj'
          go_wp2_with fail
          go_ret
          exact ⟨by simp, after b9.out hbel⟩

theorem etidies_any {w : World} (s : ByteArray) (hs : s.size ≤ maxLen) (v : Value) (l : List IEd) (h : Eds w v l) :
    Calls Try.prog 5 #[.string s, v] w fun e w' => e = .returned (.bool true) ∧ Below w.heap.size w w' := by
  obtain ⟨src, n, cap, rfl, hl, hn, hr⟩ := h
  cases hb : smallB s l
  · exact etidies_far s src n cap l w hl hr hb
  · obtain ⟨b1, b2, b3⟩ := smallB_true hb
    by_cases hf : fitsE s.size l = 0
    · obtain ⟨L, rfl, v1, v2, v3, v4, v5, v6, v7⟩ := fits_valid hf
      exact etidies_ok s src n cap L w (by simpa using hl) (by omega) hr hb v1 v3 v6 v7 hf
    · exact etidies_no s src n cap l w hl hn hr hb hf

end Go.Proofs.Ytajfklhfjmoelaa
