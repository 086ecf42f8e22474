/- The document's own answers on doubles, by bits. -/
import Derived.Test.YtmobmljnjolkgaaNumA
import Derived.Outline
import Derived.Laws.ShiftsVarLaws
namespace Go.Proofs.Ytmobmljnjolkgaa
open Go.RowKit
set_option linter.unusedVariables false

theorem ret_b {x y : Bool} (h : x = y) : Ending.returned (.bool x) = Ending.returned (.bool y) := by rw [h]
theorem val_i {k : IntKind} {a b : Int} (h : a = b) : Value.int k a = Value.int k b := by rw [h]
theorem ret_i {k : IntKind} {x y : Int} (h : x = y) : Ending.returned (.int k x) = Ending.returned (.int k y) := by rw [h]
def expN (a : Nat) : Nat := RW a / 4503599627370496
def fracN (a : Nat) : Nat := RW a % 4503599627370496
theorem parts_bits (a : Nat) (h : a < 18446744073709551616) : (((a : Int) / 9223372036854775808 == 1) = SG a) ∧ ((a : Int) / 4503599627370496) % 2048 = (expN a : Nat) ∧ (a : Int) % 4503599627370496 = (fracN a : Nat) := by
  refine ⟨?_, ?_, ?_⟩
  · unfold SG; rw [Bool.eq_iff_iff]; simp only [beq_iff_eq]; omega
  · unfold expN RW; omega
  · unfold fracN RW; omega

theorem parts_any (a : Nat) (w : World) (h : a < 18446744073709551616) :
    Calls Try.prog 35 #[.int .u64 (a : Nat)] w fun e w' => e = .returned (.tuple #[.bool (SG a), .int .i64 (expN a : Nat), .int .u64 (fracN a : Nat)]) ∧ w = w' := by
  obtain ⟨h1, h2, h3⟩ := parts_bits a h
  have H1 := Lib.hid h1
  have H2 := Lib.hid h2
  have H3 := Lib.hid h3
  clear h1 h2 h3
  go_enter Try.func35, Try.ntmps35
  go_wp2_with fail
  go_ret3
  refine ⟨?_, rfl⟩
  rw [← H1.out, ← H2.out, ← H3.out]
  rfl

theorem nan_parts (a : Nat) : nanB a = (decide (expN a = 2047) && !decide (fracN a = 0)) := by
  unfold nanB expN fracN RW; rw [Bool.eq_iff_iff]; simp; omega
def infB (a : Nat) : Bool := decide (RW a = 9218868437227405312)
def zeroB (a : Nat) : Bool := decide (RW a = 0)
theorem inf_parts (a : Nat) : infB a = (decide (expN a = 2047) && decide (fracN a = 0)) := by
  unfold infB expN fracN RW; rw [Bool.eq_iff_iff]; simp; omega
theorem rnone_any (a : Nat) (w : World) (h : a < 18446744073709551616) :
    Calls Try.prog 32 #[.int .u64 (a : Nat)] w fun e w' => e = .returned (.bool (nanB a)) ∧ w = w' := by
  have HP := Lib.hid (fun w => parts_any a w h)
  have hn := nan_parts a
  generalize expN a = x at *
  generalize fracN a = y at *
  clear h
  by_cases hx : x = 2047
  · subst hx
    by_cases hy : y = 0
    · subst hy
      have H := Lib.hid (show nanB a = false by rw [hn]; rfl)
      clear hn
      go_enter Try.func32, Try.ntmps32
      go_wp2_with (go_at_call 35; refine (HP.out _).mono ?_; rintro e w' ⟨rfl, rfl⟩)
      go_ret
      exact ⟨by rw [H.out]; rfl, rfl⟩
    · have H := Lib.hid (show nanB a = true by rw [hn, decide_eq_false hy]; rfl)
      have hb : ((y : Int) != 0) = true := by simp; omega
      clear hn hy
      go_enter Try.func32, Try.ntmps32
      go_wp2_with (go_at_call 35; refine (HP.out _).mono ?_; rintro e w' ⟨rfl, rfl⟩)
      go_ret
      exact ⟨by rw [H.out]; rfl, rfl⟩
  · have H := Lib.hid (show nanB a = false by rw [hn, decide_eq_false hx]; rfl)
    have hb : ((x : Int) == 2047) = false := by simp; omega
    clear hn hx
    go_enter Try.func32, Try.ntmps32
    go_wp2_with (go_at_call 35; refine (HP.out _).mono ?_; rintro e w' ⟨rfl, rfl⟩)
    go_ret
    exact ⟨by rw [H.out]; rfl, rfl⟩
theorem rinf_any (a : Nat) (w : World) (h : a < 18446744073709551616) :
    Calls Try.prog 36 #[.int .u64 (a : Nat)] w fun e w' => e = .returned (.bool (infB a)) ∧ w = w' := by
  have HP := Lib.hid (fun w => parts_any a w h)
  have hn := inf_parts a
  generalize expN a = x at *
  generalize fracN a = y at *
  clear h
  by_cases hx : x = 2047
  · subst hx
    by_cases hy : y = 0
    · subst hy
      have H := Lib.hid (show infB a = true by rw [hn]; rfl)
      clear hn
      go_enter Try.func36, Try.ntmps36
      go_wp2_with (go_at_call 35; refine (HP.out _).mono ?_; rintro e w' ⟨rfl, rfl⟩)
      go_ret
      exact ⟨by rw [H.out]; rfl, rfl⟩
    · have H := Lib.hid (show infB a = false by rw [hn, decide_eq_false hy]; rfl)
      have hb : ((y : Int) == 0) = false := by simp; omega
      clear hn hy
      go_enter Try.func36, Try.ntmps36
      go_wp2_with (go_at_call 35; refine (HP.out _).mono ?_; rintro e w' ⟨rfl, rfl⟩)
      go_ret
      exact ⟨by rw [H.out]; rfl, rfl⟩
  · have H := Lib.hid (show infB a = false by rw [hn, decide_eq_false hx]; rfl)
    have hb : ((x : Int) == 2047) = false := by simp; omega
    clear hn hx
    go_enter Try.func36, Try.ntmps36
    go_wp2_with (go_at_call 35; refine (HP.out _).mono ?_; rintro e w' ⟨rfl, rfl⟩)
    go_ret
    exact ⟨by rw [H.out]; rfl, rfl⟩
theorem rzero_any (a : Nat) (w : World) (h : a < 18446744073709551616) :
    Calls Try.prog 37 #[.int .u64 (a : Nat)] w fun e w' => e = .returned (.bool (zeroB a)) ∧ w = w' := by
  go_enter Try.func37, Try.ntmps37
  go_wp2_with fail
  go_ret
  refine ⟨ret_b ?_, rfl⟩
  unfold zeroB RW
  rw [Bool.eq_iff_iff]
  simp [IntKind.wrap_u64]
  omega

set_option maxHeartbeats 1000000 in
theorem rsame_any (a b : Nat) (w : World) (ha : a < 18446744073709551616) (hb : b < 18446744073709551616) :
    Calls Try.prog 26 #[.int .u64 (a : Nat), .int .u64 (b : Nat)] w fun e w' => e = .returned (.bool (sameB a b)) ∧ w = w' := by
  have hs : sameB a b = (!nanB a && (!nanB b && (decide (a = b) || (zeroB a && zeroB b)))) := by
    unfold sameB nanB zeroB; rw [Bool.eq_iff_iff]; simp
  cases na : nanB a
  · cases nb : nanB b
    · by_cases he : a = b
      · have H := Lib.hid (show sameB a b = true by rw [hs, na, nb, decide_eq_true he]; rfl)
        have hq : ((a : Int) == (b : Int)) = true := by simp; omega
        clear hs he
        go_enter Try.func26, Try.ntmps26
        go_wp2_with (first | (go_at_call 32; refine (rnone_any _ _ (by assumption)).mono ?_; rintro e w' ⟨rfl, rfl⟩) | (go_at_call 37; refine (rzero_any _ _ (by assumption)).mono ?_; rintro e w' ⟨rfl, rfl⟩))
        go_ret
        exact ⟨by rw [H.out]; rfl, rfl⟩
      · have H := Lib.hid (show sameB a b = (zeroB a && zeroB b) by rw [hs, na, nb, decide_eq_false he]; rfl)
        have hq : ((a : Int) == (b : Int)) = false := by simp; omega
        clear hs he
        cases za : zeroB a
        · go_enter Try.func26, Try.ntmps26
          go_wp2_with (first | (go_at_call 32; refine (rnone_any _ _ (by assumption)).mono ?_; rintro e w' ⟨rfl, rfl⟩) | (go_at_call 37; refine (rzero_any _ _ (by assumption)).mono ?_; rintro e w' ⟨rfl, rfl⟩))
          go_ret
          exact ⟨by rw [H.out, za]; rfl, rfl⟩
        · go_enter Try.func26, Try.ntmps26
          go_wp2_with (first | (go_at_call 32; refine (rnone_any _ _ (by assumption)).mono ?_; rintro e w' ⟨rfl, rfl⟩) | (go_at_call 37; refine (rzero_any _ _ (by assumption)).mono ?_; rintro e w' ⟨rfl, rfl⟩))
          go_ret
          exact ⟨by rw [H.out, za]; rfl, rfl⟩
    · have H := Lib.hid (show sameB a b = false by rw [hs, na, nb]; rfl)
      clear hs
      go_enter Try.func26, Try.ntmps26
      go_wp2_with (first | (go_at_call 32; refine (rnone_any _ _ (by assumption)).mono ?_; rintro e w' ⟨rfl, rfl⟩) | (go_at_call 37; refine (rzero_any _ _ (by assumption)).mono ?_; rintro e w' ⟨rfl, rfl⟩))
      go_ret
      exact ⟨by rw [H.out]; rfl, rfl⟩
  · have H := Lib.hid (show sameB a b = false by rw [hs, na]; rfl)
    clear hs
    go_enter Try.func26, Try.ntmps26
    go_wp2_with (first | (go_at_call 32; refine (rnone_any _ _ (by assumption)).mono ?_; rintro e w' ⟨rfl, rfl⟩) | (go_at_call 37; refine (rzero_any _ _ (by assumption)).mono ?_; rintro e w' ⟨rfl, rfl⟩))
    go_ret
    exact ⟨by rw [H.out]; rfl, rfl⟩

set_option maxHeartbeats 2000000 in
theorem rless_any (a b : Nat) (w : World) (ha : a < 18446744073709551616) (hb : b < 18446744073709551616) :
    Calls Try.prog 25 #[.int .u64 (a : Nat), .int .u64 (b : Nat)] w fun e w' => e = .returned (.bool (lessB a b)) ∧ w = w' := by
  have hs : lessB a b = if (nanB a || (nanB b || (zeroB a && zeroB b))) = true then false else if SG a ≠ SG b then SG a else if SG a then decide (b < a) else decide (a < b) := by
    unfold lessB nanB zeroB
    congr 1
    simp
  have lt1 : ((b : Int) < (a : Int)) = (b < a) := by simp
  have lt2 : ((a : Int) < (b : Int)) = (a < b) := by simp
  cases na : nanB a
  · cases nb : nanB b
    · cases za : zeroB a
      · rw [na, nb, za] at hs
        rw [if_neg (by simp)] at hs
        cases hsa : SG a <;> cases hsb : SG b
        all_goals
          rw [hsa, hsb] at hs
          simp only [ne_eq, not_true_eq_false, if_false, if_true, Bool.false_eq_true, Bool.true_eq_false, not_false_eq_true] at hs
          have H := Lib.hid hs
          clear hs
          go_enter Try.func25, Try.ntmps25
          go_wp2_with (first | (go_at_call 32; refine (rnone_any _ _ (by assumption)).mono ?_; rintro e w' ⟨rfl, rfl⟩) | (go_at_call 37; refine (rzero_any _ _ (by assumption)).mono ?_; rintro e w' ⟨rfl, rfl⟩) | (go_at_call 35; refine (parts_any _ _ (by assumption)).mono ?_; rintro e w' ⟨rfl, rfl⟩))
          go_ret
          refine ⟨ret_b ?_, rfl⟩
          refine Eq.trans ?_ H.out.symm
          first | rfl | (rw [Bool.eq_iff_iff]; simp)
      · cases zb : zeroB b
        · rw [na, nb, za, zb] at hs
          rw [if_neg (by simp)] at hs
          cases hsa : SG a <;> cases hsb : SG b
          all_goals
            rw [hsa, hsb] at hs
            simp only [ne_eq, not_true_eq_false, if_false, if_true, Bool.false_eq_true, Bool.true_eq_false, not_false_eq_true] at hs
            have H := Lib.hid hs
            clear hs
            go_enter Try.func25, Try.ntmps25
            go_wp2_with (first | (go_at_call 32; refine (rnone_any _ _ (by assumption)).mono ?_; rintro e w' ⟨rfl, rfl⟩) | (go_at_call 37; refine (rzero_any _ _ (by assumption)).mono ?_; rintro e w' ⟨rfl, rfl⟩) | (go_at_call 35; refine (parts_any _ _ (by assumption)).mono ?_; rintro e w' ⟨rfl, rfl⟩))
            go_ret
            refine ⟨ret_b ?_, rfl⟩
            refine Eq.trans ?_ H.out.symm
            first | rfl | (rw [Bool.eq_iff_iff]; simp)
        · have H := Lib.hid (show lessB a b = false by rw [hs, na, nb, za, zb]; rfl)
          clear hs
          go_enter Try.func25, Try.ntmps25
          go_wp2_with (first | (go_at_call 32; refine (rnone_any _ _ (by assumption)).mono ?_; rintro e w' ⟨rfl, rfl⟩) | (go_at_call 37; refine (rzero_any _ _ (by assumption)).mono ?_; rintro e w' ⟨rfl, rfl⟩))
          go_ret
          exact ⟨by rw [H.out]; rfl, rfl⟩
    · have H := Lib.hid (show lessB a b = false by rw [hs, na, nb]; rfl)
      clear hs
      go_enter Try.func25, Try.ntmps25
      go_wp2_with (first | (go_at_call 32; refine (rnone_any _ _ (by assumption)).mono ?_; rintro e w' ⟨rfl, rfl⟩) | (go_at_call 37; refine (rzero_any _ _ (by assumption)).mono ?_; rintro e w' ⟨rfl, rfl⟩))
      go_ret
      exact ⟨by rw [H.out]; rfl, rfl⟩
  · have H := Lib.hid (show lessB a b = false by rw [hs, na]; rfl)
    clear hs
    go_enter Try.func25, Try.ntmps25
    go_wp2_with (first | (go_at_call 32; refine (rnone_any _ _ (by assumption)).mono ?_; rintro e w' ⟨rfl, rfl⟩) | (go_at_call 37; refine (rzero_any _ _ (by assumption)).mono ?_; rintro e w' ⟨rfl, rfl⟩))
    go_ret
    exact ⟨by rw [H.out]; rfl, rfl⟩


theorem shr_int (m d : Nat) : ((m : Int) / ((2 ^ d : Nat) : Int)) = ((m / 2 ^ d : Nat) : Int) := (Int.natCast_ediv _ _).symm
set_option maxRecDepth 100000 in
set_option maxHeartbeats 2000000 in
theorem rtoint_any (a : Nat) (w : World) (ha : a < 18446744073709551616) :
    Calls Try.prog 29 #[.int .u64 (a : Nat)] w fun e w' => e = .returned (.int .i64 (toI a)) ∧ w = w' := by
  have ht : toI a = if nanB a = true then 0 else if 1086 ≤ expN a then (if SG a then -9223372036854775808 else 9223372036854775807) else sgn (SG a) (intN (RW a)) := by
    unfold toI nanB expN
    congr 1
    · simp
    · congr 1
      rw [eq_iff_iff]
      omega
  have hi : intN (RW a) = if expN a < 1023 then 0 else if 1075 ≤ expN a then (fracN a + 4503599627370496) * 2 ^ (expN a - 1075) else (fracN a + 4503599627370496) / 2 ^ (1075 - expN a) := rfl
  have hf : fracN a < 4503599627370496 := by unfold fracN; omega
  have he : expN a < 2048 := by unfold expN RW; omega
  cases na : nanB a
  · rw [na, if_neg (by decide)] at ht
    by_cases h1 : expN a < 1023
    · have H := Lib.hid (show toI a = 0 by rw [ht, if_neg (by omega), hi, if_pos h1]; unfold sgn; split <;> rfl)
      have h1' : (expN a : Int) < 1023 := by omega
      clear ht hi h1
      go_enter Try.func29, Try.ntmps29
      go_wp2_with (first | (go_at_call 32; refine (rnone_any _ _ (by assumption)).mono ?_; rintro e w' ⟨rfl, rfl⟩) | (go_at_call 35; refine (parts_any _ _ (by assumption)).mono ?_; rintro e w' ⟨rfl, rfl⟩))
      go_ret
      exact ⟨by rw [H.out]; rfl, rfl⟩
    · have h1' : ¬ (expN a : Int) < 1023 := by omega
      rw [if_neg h1] at hi
      by_cases h2 : 1086 ≤ expN a
      · have h2' : 1086 ≤ (expN a : Int) := by omega
        rw [if_pos h2] at ht
        cases hs : SG a <;> rw [hs] at ht
        all_goals
          have H := Lib.hid ht
          clear ht hi h1 h2
          go_enter Try.func29, Try.ntmps29
          go_wp2_with (first | (go_at_call 32; refine (rnone_any _ _ (by assumption)).mono ?_; rintro e w' ⟨rfl, rfl⟩) | (go_at_call 35; refine (parts_any _ _ (by assumption)).mono ?_; rintro e w' ⟨rfl, rfl⟩))
          go_ret
          exact ⟨by rw [H.out]; rfl, rfl⟩
      · have h2' : ¬ 1086 ≤ (expN a : Int) := by omega
        rw [if_neg h2] at ht
        by_cases h3 : 1075 ≤ expN a
        · have h3' : 1075 ≤ (expN a : Int) := by omega
          rw [if_pos h3] at hi
          have hq : ((fracN a : Int) + 4503599627370496) * 2 ^ (expN a - 1023 - 52) = ((fracN a + 4503599627370496) * 2 ^ (expN a - 1075) : Nat) := by
            rw [Int.natCast_mul, Int.natCast_add, Int.natCast_pow, show expN a - 1023 - 52 = expN a - 1075 by omega]; rfl
          have hl : (fracN a + 4503599627370496) * 2 ^ (expN a - 1075) < 9007199254740992 * 1024 :=
            Nat.lt_of_lt_of_le (Nat.mul_lt_mul_of_pos_right (show fracN a + 4503599627370496 < 9007199254740992 by omega) (Nat.two_pow_pos _)) (Nat.mul_le_mul_left _ (by
              have : 2 ^ (expN a - 1075) ≤ 2 ^ 10 := Nat.pow_le_pow_right (by decide) (by omega)
              exact this))
          rw [← hi] at hq hl
          have HQ := Lib.hid hq
          have HL := Lib.hid hl
          cases hs : SG a <;> rw [hs] at ht
          all_goals
            have H := Lib.hid ht
            clear ht hi hq hl
            go_enter Try.func29, Try.ntmps29
            go_wp2_with (first | (go_at_call 32; refine (rnone_any _ _ (by assumption)).mono ?_; rintro e w' ⟨rfl, rfl⟩) | (go_at_call 35; refine (parts_any _ _ (by assumption)).mono ?_; rintro e w' ⟨rfl, rfl⟩))
            go_ret
            refine ⟨ret_i ?_, rfl⟩
            rw [H.out, HQ.out]
            have h5 := HL.out
            unfold sgn wrap64
            simp only [if_true, if_false, Bool.false_eq_true, IntKind.wrap_u64]
            omega
        · have h3' : ¬ 1075 ≤ (expN a : Int) := by omega
          rw [if_neg h3] at hi
          have hq : ((fracN a : Int) + 4503599627370496) / 2 ^ (1075 - expN a) = ((fracN a + 4503599627370496) / 2 ^ (1075 - expN a) : Nat) := by
            rw [Int.natCast_ediv, Int.natCast_add, Int.natCast_pow]; rfl
          have hl : (fracN a + 4503599627370496) / 2 ^ (1075 - expN a) ≤ fracN a + 4503599627370496 := Nat.div_le_self _ _
          rw [← hi] at hq hl
          have HQ := Lib.hid hq
          have HL := Lib.hid hl
          cases hs : SG a <;> rw [hs] at ht
          all_goals
            have H := Lib.hid ht
            clear ht hi hq hl
            go_enter Try.func29, Try.ntmps29
            go_wp2_with (first | (go_at_call 32; refine (rnone_any _ _ (by assumption)).mono ?_; rintro e w' ⟨rfl, rfl⟩) | (go_at_call 35; refine (parts_any _ _ (by assumption)).mono ?_; rintro e w' ⟨rfl, rfl⟩))
            go_ret
            refine ⟨ret_i ?_, rfl⟩
            rw [H.out, HQ.out]
            have h5 := HL.out
            unfold sgn wrap64
            simp only [if_true, if_false, Bool.false_eq_true]
            omega
  · have H := Lib.hid (show toI a = 0 by rw [ht, na]; rfl)
    clear ht hi
    go_enter Try.func29, Try.ntmps29
    go_wp2_with (first | (go_at_call 32; refine (rnone_any _ _ (by assumption)).mono ?_; rintro e w' ⟨rfl, rfl⟩) | (go_at_call 35; refine (parts_any _ _ (by assumption)).mono ?_; rintro e w' ⟨rfl, rfl⟩))
    go_ret
    exact ⟨by rw [H.out]; rfl, rfl⟩


end Go.Proofs.Ytmobmljnjolkgaa
