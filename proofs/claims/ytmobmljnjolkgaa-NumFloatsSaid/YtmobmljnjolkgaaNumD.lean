/- num.Float; num.Op; the statements' own first question. -/
import Derived.Test.YtmobmljnjolkgaaNumC
namespace Go.Proofs.Ytmobmljnjolkgaa
open Go.RowKit
set_option linter.unusedVariables false

theorem ret_ui {x y : Nat} {i j : Int} (h : x = y) (k : i = j) : Ending.returned (.tuple #[.int .u64 (x : Int), .int .i64 i]) = Ending.returned (.tuple #[.int .u64 (y : Int), .int .i64 j]) := by rw [h, k]
theorem ext_size (s : ByteArray) (i j : Nat) (h : j ≤ s.size) : (s.extract i j).size = j - i := by
  rw [ByteArray.size_extract]; omega

set_option maxHeartbeats 1000000 in
theorem float_any (s : ByteArray) (w : World) (hs : s.size < 9223372036854775807) :
    Calls Try.prog 19 #[.string s] w fun e w' => e = .returned (.tuple #[.int .u64 ((fltR s).1 : Nat), .int .i64 (fltR s).2]) ∧ ∃ n, w' = w.drewN n := by
  cases hp : posOf s.data.toList 46 with
  | none =>
    have H := Lib.hid (show fltR s = (0, 5) by unfold fltR; rw [hp])
    have HC := Lib.hid (fun w => cut_no s 46 w hp)
    clear hp
    go_enter Try.func19, Try.ntmps19
    go_wp2_with (go_at_call 52; refine (HC.out _).mono ?_; rintro e w' ⟨rfl, rfl⟩)
    go_ret2
    exact ⟨by rw [H.out]; rfl, 0, rfl⟩
  | some k =>
    have hk : k < s.size := by have := posOf_lt _ _ _ hp; simpa using this
    have HF := Lib.hid (show fltR s = fltOf (s.extract 0 k) (s.extract (k + 1) s.size) by unfold fltR; rw [hp])
    have HC := Lib.hid (fun w => cut_yes s 46 k w hs hp)
    have za : (s.extract 0 k).size < 9223372036854775807 := by rw [ext_size _ _ _ (by omega)]; omega
    have zb : (s.extract (k + 1) s.size).size < 9223372036854775807 := by rw [ext_size _ _ _ (Nat.le_refl _)]; omega
    have zc : (s.extract 0 k).size + (s.extract (k + 1) s.size).size ≤ s.size := by rw [ext_size _ _ _ (by omega), ext_size _ _ _ (Nat.le_refl _)]; omega
    clear hp
    generalize s.extract 0 k = a at *
    generalize s.extract (k + 1) s.size = b at *
    have HW := Lib.hid (fun w => whole_any a w za)
    have HG := Lib.hid (fun w => digits_any b w zb)
    cases hw : wholeS a
    · have H := Lib.hid (fltOf_no (a := a) (b := b) (by rw [hw]; rfl))
      rw [hw] at HW
      clear hw
      go_enter Try.func19, Try.ntmps19
      go_wp2_with (first | (go_at_call 52; refine (HC.out _).mono ?_; rintro e w' ⟨rfl, n, rfl⟩) | (go_at_call 49; refine (HW.out _).mono ?_; rintro e w' ⟨rfl, rfl⟩) | (go_at_call 53; refine (HG.out _).mono ?_; rintro e w' ⟨rfl, rfl⟩))
      go_ret2
      exact ⟨by rw [HF.out, H.out]; rfl, _, rfl⟩
    · cases hg : digS b
      · have H := Lib.hid (fltOf_no (a := a) (b := b) (by rw [hw, hg]; rfl))
        rw [hw] at HW
        rw [hg] at HG
        clear hw hg
        go_enter Try.func19, Try.ntmps19
        go_wp2_with (first | (go_at_call 52; refine (HC.out _).mono ?_; rintro e w' ⟨rfl, n, rfl⟩) | (go_at_call 49; refine (HW.out _).mono ?_; rintro e w' ⟨rfl, rfl⟩) | (go_at_call 53; refine (HG.out _).mono ?_; rintro e w' ⟨rfl, rfl⟩))
        go_ret2
        exact ⟨by rw [HF.out, H.out]; rfl, _, rfl⟩
      · have hy : (wholeS a && digS b) = true := by rw [hw, hg]; rfl
        rw [hw] at HW
        rw [hg] at HG
        by_cases hl : 15 < a.size + b.size
        · have H := Lib.hid (fltOf_long hy hl)
          have hl2 : 15 < (a.size : Int) + (b.size : Int) := by omega
          have zc2 : (a.size : Int) + (b.size : Int) ≤ 9223372036854775807 := by omega
          clear hw hg hy hl
          go_enter Try.func19, Try.ntmps19
          go_wp2_with (first | (go_at_call 52; refine (HC.out _).mono ?_; rintro e w' ⟨rfl, n, rfl⟩) | (go_at_call 49; refine (HW.out _).mono ?_; rintro e w' ⟨rfl, rfl⟩) | (go_at_call 53; refine (HG.out _).mono ?_; rintro e w' ⟨rfl, rfl⟩))
          go_ret2
          exact ⟨by rw [HF.out, H.out]; rfl, _, rfl⟩
        · have H := Lib.hid (fltOf_yes hy hl)
          have hl2 : ¬ 15 < (a.size : Int) + (b.size : Int) := by omega
          have zc2 : (a.size : Int) + (b.size : Int) ≤ 9223372036854775807 := by omega
          obtain ⟨hd, hv⟩ := fltV_small a b hy hl
          have hb15 : b.size ≤ 15 := by omega
          have zn : ¬ 9223372036854775807 < a.size + b.size := by omega
          have hvr := valR_yes (show valL (a ++ b).data.toList ≤ 9223372036854775807 by omega)
          have hva := fun w => value_any (a ++ b) w (by rw [app_size]; omega) hd
          rw [hvr] at hva
          have HV := Lib.hid hva
          have HT := Lib.hid (fun w => tens_any b.size w hb15)
          have HL := Lib.hid (app_list a b)
          obtain ⟨f1, f2, _, _⟩ := flt_bits (valL (a ++ b).data.toList) b.size hv hb15
          have HD := Lib.hid (fun w => run_float_arith (P := Try.prog) w .quo 53 .f64 _ _ _ f1)
          have HI := Lib.hid (floatOfInt_eq ((valL (a ++ b).data.toList : Nat) : Int))
          have HN := Lib.hid (norm_of f2)
          rw [← app_list] at H
          clear hw hg hy hl hva hvr hd hv f1 f2 hb15
          generalize valL (a ++ b).data.toList = v at *
          generalize hfd : fDiv (toF (v : Int)) (tensF b.size) = f at *
          generalize tensF b.size = tb at *
          have hdd := HD.out
          have hii := HI.out
          clear hfd
          go_enter Try.func19, Try.ntmps19
          go_wp2_with (first | (go_at_call 52; refine (HC.out _).mono ?_; rintro e w' ⟨rfl, n, rfl⟩) | (go_at_call 49; refine (HW.out _).mono ?_; rintro e w' ⟨rfl, rfl⟩) | (go_at_call 53; refine (HG.out _).mono ?_; rintro e w' ⟨rfl, rfl⟩) | (go_at_call 50; refine (HV.out _).mono ?_; rintro e w' ⟨rfl, rfl⟩) | (go_at_call 55; refine (HT.out _).mono ?_; rintro e w' ⟨rfl, rfl⟩) | (go_at_call 54; refine (bitsOf_any _ _).mono ?_; rintro e w' ⟨rfl, rfl⟩))
          go_ret2
          exact ⟨by rw [HF.out, H.out]; exact ret_ui HN.out rfl, _, rfl⟩

/-! ### Whole numbers by a sign -/
def wr64 (x : Int) : Int := wrap64 x
def partR (c : ByteArray) (a b : Int) : Int × Int := if b = 0 then (0, 1) else if (c.toList == [47]) = true then (wr64 (a.tdiv b), 0) else (a.tmod b, 0)
def opR (c : ByteArray) (a b : Int) : Int × Int :=
  if (c.toList == [43]) = true then (wr64 (a + b), 0) else if (c.toList == [45]) = true then (wr64 (a - b), 0) else if (c.toList == [42]) = true then (wr64 (a * b), 0)
  else if (c.toList == [47]) = true then partR c a b else if (c.toList == [37]) = true then partR c a b else (0, 3)

theorem ret_ii {x y i j : Int} (h : x = y) (k : i = j) : Ending.returned (.tuple #[.int .i64 x, .int .i64 i]) = Ending.returned (.tuple #[.int .i64 y, .int .i64 j]) := by rw [h, k]

set_option maxHeartbeats 1000000 in
theorem part_any (c : ByteArray) (a b : Int) (w : World) :
    Calls Try.prog 57 #[.string c, .int .i64 a, .int .i64 b] w fun e w' => e = .returned (.tuple #[.int .i64 (partR c a b).1, .int .i64 (partR c a b).2]) ∧ w = w' := by
  by_cases hb : b = 0
  · have H := Lib.hid (show partR c a b = (0, 1) from if_pos hb)
    have hb2 : (b == 0) = true := by simpa using hb
    clear hb
    go_enter Try.func57, Try.ntmps57
    go_wp2_with fail
    go_ret2
    exact ⟨by rw [H.out]; rfl, rfl⟩
  · have hb2 : (b == 0) = false := by simpa using hb
    cases hc : (c.toList == [47])
    · have H := Lib.hid (show partR c a b = (a.tmod b, 0) by unfold partR; rw [if_neg hb, if_neg (by rw [hc]; decide)])
      go_enter Try.func57, Try.ntmps57
      go_wp2_with fail
      go_ret2
      exact ⟨by rw [H.out]; rfl, rfl⟩
    · have H := Lib.hid (show partR c a b = (wr64 (a.tdiv b), 0) by unfold partR; rw [if_neg hb, if_pos hc])
      go_enter Try.func57, Try.ntmps57
      go_wp2_with fail
      go_ret2
      exact ⟨by rw [H.out]; rfl, rfl⟩

set_option maxHeartbeats 1000000 in
theorem op_any (c : ByteArray) (a b : Int) (w : World) :
    Calls Try.prog 21 #[.string c, .int .i64 a, .int .i64 b] w fun e w' => e = .returned (.tuple #[.int .i64 (opR c a b).1, .int .i64 (opR c a b).2]) ∧ w = w' := by
  generalize hX : opR c a b = X
  unfold opR at hX
  cases c1 : (c.toList == [43])
  · cases c2 : (c.toList == [45])
    · cases c3 : (c.toList == [42])
      · cases c4 : (c.toList == [47])
        · cases c5 : (c.toList == [37])
          · simp only [c1, c2, c3, c4, c5, Bool.false_eq_true, if_false] at hX
            have HX := Lib.hid hX.symm
            clear hX
            go_enter Try.func21, Try.ntmps21
            go_wp2_with (go_at_call 57; refine (part_any _ _ _ _).mono ?_; rintro e w' ⟨rfl, rfl⟩)
            go_ret2
            exact ⟨by rw [HX.out]; rfl, rfl⟩
          · simp only [c1, c2, c3, c4, c5, Bool.false_eq_true, if_false, if_true] at hX
            have HX := Lib.hid hX.symm
            clear hX
            go_enter Try.func21, Try.ntmps21
            go_wp2_with (go_at_call 57; refine (part_any _ _ _ _).mono ?_; rintro e w' ⟨rfl, rfl⟩)
            go_ret2
            exact ⟨by rw [HX.out]; rfl, rfl⟩
        · simp only [c1, c2, c3, c4, Bool.false_eq_true, if_false, if_true] at hX
          have HX := Lib.hid hX.symm
          clear hX
          go_enter Try.func21, Try.ntmps21
          go_wp2_with (go_at_call 57; refine (part_any _ _ _ _).mono ?_; rintro e w' ⟨rfl, rfl⟩)
          go_ret2
          exact ⟨by rw [HX.out]; rfl, rfl⟩
      · simp only [c1, c2, c3, Bool.false_eq_true, if_false, if_true] at hX
        have HX := Lib.hid hX.symm
        clear hX
        go_enter Try.func21, Try.ntmps21
        go_wp2_with (go_at_call 57; refine (part_any _ _ _ _).mono ?_; rintro e w' ⟨rfl, rfl⟩)
        go_ret2
        exact ⟨by rw [HX.out]; rfl, rfl⟩
    · simp only [c1, c2, Bool.false_eq_true, if_false, if_true] at hX
      have HX := Lib.hid hX.symm
      clear hX
      go_enter Try.func21, Try.ntmps21
      go_wp2_with (go_at_call 57; refine (part_any _ _ _ _).mono ?_; rintro e w' ⟨rfl, rfl⟩)
      go_ret2
      exact ⟨by rw [HX.out]; rfl, rfl⟩
  · simp only [c1, if_true] at hX
    have HX := Lib.hid hX.symm
    clear hX
    go_enter Try.func21, Try.ntmps21
    go_wp2_with (go_at_call 57; refine (part_any _ _ _ _).mono ?_; rintro e w' ⟨rfl, rfl⟩)
    go_ret2
    exact ⟨by rw [HX.out]; rfl, rfl⟩

theorem neg_any (a : Int) (w : World) :
    Calls Try.prog 22 #[.int .i64 a] w fun e w' => e = .returned (.int .i64 (wr64 (-a))) ∧ w = w' := by
  go_enter Try.func22, Try.ntmps22
  go_wp2_with fail
  go_ret
  exact ⟨rfl, rfl⟩

theorem quarter : fltR ⟨#[48, 46, 50, 53]⟩ = (4598175219545276416, 0) := by decide +kernel
theorem forty : intR ⟨#[52, 48]⟩ = (40, 0) := by decide +kernel
theorem by_nought : fDiv (toF (-1)) 0 = 18442240474082181120 := by decide +kernel
theorem seven : toI (toF 7) = 7 := toI_toF 7 (by decide)
set_option maxHeartbeats 2000000 in
theorem reckons_any (w : World) : Calls Try.prog 16 #[] w fun e w' => e = .returned (.bool true) ∧ ∃ n, w' = w.drewN n := by
  have hq := fun w => float_any ⟨#[48, 46, 50, 53]⟩ w (by decide)
  rw [quarter] at hq
  have HQ := Lib.hid hq
  have hf := fun w => int_any ⟨#[52, 48]⟩ w (by decide)
  rw [forty] at hf
  have HF := Lib.hid hf
  have hd := fun w => fdiv_any (toF (-1)) 0 w
  rw [by_nought] at hd
  have HD := Lib.hid hd
  have ht := fun w => tofloat_any (-1) w
  have HT := Lib.hid ht
  have hc := fun w => fcompare_any ⟨#[60]⟩ 9221120237041090561 9221120237041090561 w (by decide) (by decide)
  rw [show holdsB ⟨#[60]⟩ (lessB 9221120237041090561 9221120237041090561) (sameB 9221120237041090561 9221120237041090561) (lessB 9221120237041090561 9221120237041090561) = (false, 0) by decide +kernel] at hc
  have HC := Lib.hid hc
  have ho := fun w => op_any ⟨#[47]⟩ 1 0 w
  rw [show opR ⟨#[47]⟩ 1 0 = (0, 1) by decide +kernel] at ho
  have HO := Lib.hid ho
  have HS := Lib.hid (fun w => tofloat_any 7 w)
  have hi := fun w => toint_any (toF 7) w
  rw [seven] at hi
  have HI := Lib.hid hi
  clear hq hf hd ht hc ho hi
  go_enter Try.func16, Try.ntmps16
  go_wp2_with fail
  refine (HQ.out _).mono ?_
  rintro e w1 ⟨rfl, n1, rfl⟩
  go_wp2_with fail
  refine (HF.out _).mono ?_
  rintro e w2 ⟨rfl, rfl⟩
  go_wp2_with fail
  refine (HT.out _).mono ?_
  rintro e w3 ⟨rfl, rfl⟩
  go_wp2_with fail
  refine (HD.out _).mono ?_
  rintro e w4 ⟨rfl, n2, rfl⟩
  go_wp2_with fail
  refine (HC.out _).mono ?_
  rintro e w5 ⟨rfl, rfl⟩
  go_wp2_with fail
  refine (HO.out _).mono ?_
  rintro e w6 ⟨rfl, rfl⟩
  go_wp2_with fail
  refine (HS.out _).mono ?_
  rintro e w7 ⟨rfl, rfl⟩
  go_wp2_with fail
  refine (HI.out _).mono ?_
  rintro e w8 ⟨rfl, rfl⟩
  go_wp2_with fail
  go_ret
  exact ⟨rfl, _, rfl⟩

end Go.Proofs.Ytmobmljnjolkgaa
