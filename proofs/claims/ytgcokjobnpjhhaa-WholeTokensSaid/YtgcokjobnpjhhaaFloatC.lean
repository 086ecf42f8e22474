/- Doubles: made whole numbers and made of these, by bits; what the operations give at infinities and noughts. -/
import Derived.Test.YtgcokjobnpjhhaaFloatB
import Derived.Laws.FloatArith
namespace Go.Proofs.Ytgcokjobnpjhhaa
open Ieee

theorem cut_toward_zero (s : Bool) (n d : Nat) : Toward.zero.cut s n d = n / 2 ^ d := by
  unfold Toward.cut
  simp only [Bool.toNat_false, Nat.add_zero, shl_eq, Nat.one_mul]
  by_cases h : d ≤ n.log2 + 2
  · rw [Nat.min_eq_left h]
  · rw [Nat.min_eq_right (by omega)]
    have h1 : n < 2 ^ (n.log2 + 1) := Nat.lt_log2_self
    have h2 : 2 ^ (n.log2 + 1) ≤ 2 ^ (n.log2 + 2) := Nat.pow_le_pow_right (by decide) (by omega)
    have h3 : 2 ^ (n.log2 + 1) ≤ 2 ^ d := Nat.pow_le_pow_right (by decide) (by omega)
    rw [Nat.div_eq_of_lt (by omega), Nat.div_eq_of_lt (by omega)]

/-- a rung's whole number: what is behind the point is left out -/
def intN (r : Nat) : Nat :=
  if r / 4503599627370496 < 1023 then 0
  else if 1075 ≤ r / 4503599627370496 then (r % 4503599627370496 + 4503599627370496) * 2 ^ (r / 4503599627370496 - 1075)
  else (r % 4503599627370496 + 4503599627370496) / 2 ^ (1075 - r / 4503599627370496)

theorem intN_eq (r u : Nat) (hu : u = 1074) : magN r / 2 ^ u = intN r := by
  unfold magN intN
  by_cases h : r < 4503599627370496
  · rw [if_pos h, if_pos (by omega)]
    have e52 : (2 : Nat) ^ 52 = 4503599627370496 := by decide
    have : (2 : Nat) ^ 52 ≤ 2 ^ u := Nat.pow_le_pow_right (by decide) (by omega)
    exact Nat.div_eq_of_lt (by omega)
  · rw [if_neg h]
    obtain ⟨e, he⟩ : ∃ e, e = r / 4503599627370496 := ⟨_, rfl⟩
    obtain ⟨M, hM⟩ : ∃ M, M = r % 4503599627370496 + 4503599627370496 := ⟨_, rfl⟩
    have he1 : 1 ≤ e := by omega
    have hM2 : M < 9007199254740992 := by omega
    rw [Nat.add_comm 4503599627370496 (r % 4503599627370496), ← he, ← hM]
    by_cases h1 : e < 1023
    · rw [if_pos h1]
      have e53 : (2 : Nat) ^ 53 = 9007199254740992 := by decide
      have h2 : M * 2 ^ (e - 1) < 2 ^ 53 * 2 ^ (e - 1) := Nat.mul_lt_mul_of_pos_right (by omega) (Nat.two_pow_pos _)
      have h3 : 2 ^ (53 + (e - 1)) ≤ 2 ^ u := Nat.pow_le_pow_right (by decide) (by omega)
      rw [Nat.pow_add] at h3
      exact Nat.div_eq_of_lt (by omega)
    · rw [if_neg h1]
      by_cases h2 : 1075 ≤ e
      · rw [if_pos h2, show e - 1 = (e - 1075) + u by omega, Nat.pow_add, ← Nat.mul_assoc, Nat.mul_div_cancel _ (Nat.two_pow_pos u)]
      · rw [if_neg h2, show u = (1075 - e) + (e - 1) by omega, Nat.pow_add, Nat.mul_div_mul_right _ _ (Nat.two_pow_pos _)]

abbrev sgn (s : Bool) (n : Nat) : Int := if s then -(n : Int) else (n : Int)
theorem toInt_fin (a : Nat) (h : RW a < 9218868437227405312) : (Ieee.double.read a).toInt .zero = some (sgn (SG a) (intN (RW a))) := by
  obtain ⟨u, hu⟩ : ∃ u : Nat, u = 1074 := ⟨_, rfl⟩
  obtain ⟨m, p, e, v, _⟩ := read_fin a h
  rw [e, ← intN_eq _ u hu, v]
  unfold Datum.toInt Datum.integral
  simp only
  rw [cut_toward_zero, shl_eq, signed_eq, Nat.pow_zero, Nat.mul_one]
  have key : m * 2 ^ (-1074 + (p : Int)).toNat / 2 ^ (-(-1074 + (p : Int))).toNat = m * 2 ^ p / 2 ^ u := by
    by_cases hp : u ≤ p
    · have h1 : (-1074 + (p : Int)).toNat = p - u := by omega
      have h2 : (-(-1074 + (p : Int))).toNat = 0 := by omega
      have h3 : 2 ^ p = 2 ^ (p - u) * 2 ^ u := by rw [← Nat.pow_add, Nat.sub_add_cancel hp]
      rw [h1, h2, Nat.pow_zero, Nat.div_one, h3, ← Nat.mul_assoc, Nat.mul_div_cancel _ (Nat.two_pow_pos u)]
    · have h1 : (-1074 + (p : Int)).toNat = 0 := by omega
      have h2 : (-(-1074 + (p : Int))).toNat = u - p := by omega
      have h3 : 2 ^ u = 2 ^ (u - p) * 2 ^ p := by rw [← Nat.pow_add, Nat.sub_add_cancel (by omega)]
      rw [h1, h2, Nat.pow_zero, Nat.mul_one, h3, Nat.mul_div_mul_right _ _ (Nat.two_pow_pos p)]
  rw [key]

theorem intN_mono {r s : Nat} (h : r ≤ s) : intN r ≤ intN s := by
  obtain ⟨u, hu⟩ : ∃ u : Nat, u = 1074 := ⟨_, rfl⟩
  rw [← intN_eq r u hu, ← intN_eq s u hu]
  rcases Nat.lt_or_ge r s with h1 | h1
  · exact Nat.div_le_div_right (Nat.le_of_lt (magN_mono h1))
  · rw [show r = s by omega]; exact Nat.le_refl _
/-- below the least double that no whole number reaches -/
theorem intN_small {r : Nat} (h : r < 4890909195324358656) : intN r ≤ 9223372036854774784 := by
  have h1 := intN_mono (show r ≤ 4890909195324358655 by omega)
  have h2 : intN 4890909195324358655 = 9223372036854774784 := by decide
  omega
theorem intN_beyond : intN 4890909195324358656 = 9223372036854775808 := by decide
theorem intN_big {r : Nat} (h : 4890909195324358656 ≤ r) : 9223372036854775808 ≤ intN r := by have := intN_mono h; rw [intN_beyond] at this; exact this

/-- 'ToInt' by bits -/
def toI (a : Nat) : Int :=
  if 9218868437227405312 < RW a then 0
  else if 4890909195324358656 ≤ RW a then (if SG a then -9223372036854775808 else 9223372036854775807)
  else sgn (SG a) (intN (RW a))

theorem svI_neg (a : Nat) (h : SG a = true) : svI a = -(magN (RW a) : Int) := by unfold svI; rw [h]; rfl
theorem svI_pos (a : Nat) (h : SG a = false) : svI a = (magN (RW a) : Int) := by unfold svI; rw [h]; rfl

theorem cmp_ge {x y : Int} : ((some (compare x y) == some Ordering.gt) || (some (compare x y) == some Ordering.eq)) = decide (y ≤ x) := by
  rcases Int.lt_trichotomy x y with h | h | h
  · rw [compare_lt h]; simp; omega
  · subst h; simp [compare, compareOfLessAndEq]
  · rw [compare_gt h]; simp; omega
theorem cmp_lt {x y : Int} : (some (compare x y) == some Ordering.lt) = decide (x < y) := by
  rcases Int.lt_trichotomy x y with h | h | h
  · rw [compare_lt h]; simp [h]
  · subst h; simp [compare, compareOfLessAndEq]
  · rw [compare_gt h]; simp; omega
theorem cmp_gt {x y : Int} : (some (compare x y) == some Ordering.gt) = decide (y < x) := by
  rcases Int.lt_trichotomy x y with h | h | h
  · rw [compare_lt h]; simp; omega
  · subst h; simp [compare, compareOfLessAndEq]
  · rw [compare_gt h]; simp [h]
theorem cmp_le {x y : Int} : ((some (compare x y) == some Ordering.lt) || (some (compare x y) == some Ordering.eq)) = decide (x ≤ y) := by
  rcases Int.lt_trichotomy x y with h | h | h
  · rw [compare_lt h]; simp; omega
  · subst h; simp [compare, compareOfLessAndEq]
  · rw [compare_gt h]; simp; omega
theorem cmp_eq {x y : Int} : (some (compare x y) == some Ordering.eq) = decide (x = y) := by
  rcases Int.lt_trichotomy x y with h | h | h
  · rw [compare_lt h]; simp; omega
  · subst h; simp [compare, compareOfLessAndEq]
  · rw [compare_gt h]; simp; omega

theorem ge_beyond (a : Nat) (h : ¬ isNaN a) : ((Ieee.double.order a 4890909195324358656 == some .gt) || (Ieee.double.order a 4890909195324358656 == some .eq)) = (!SG a && decide (4890909195324358656 ≤ RW a)) := by
  rw [order_eq a _ h (by unfold isNaN RW; decide), cmp_ge]
  have e : svI 4890909195324358656 = (magN 4890909195324358656 : Int) := svI_pos _ (by decide)
  have p := magN_pos (show 0 < 4890909195324358656 by decide)
  have m := magN_lt_iff (RW a) 4890909195324358656
  rw [e]
  cases hs : SG a with
  | true => rw [svI_neg a hs]; simp; omega
  | false => rw [svI_pos a hs]; simp; omega
theorem lt_beyond (a : Nat) (h : ¬ isNaN a) : (Ieee.double.order a 14114281232179134464 == some .lt) = (SG a && decide (4890909195324358656 < RW a)) := by
  rw [order_eq a _ h (by unfold isNaN RW; decide), cmp_lt]
  have e : svI 14114281232179134464 = -(magN 4890909195324358656 : Int) := svI_neg _ (by decide)
  have p := magN_pos (show 0 < 4890909195324358656 by decide)
  have m := magN_lt_iff 4890909195324358656 (RW a)
  rw [e]
  cases hs : SG a with
  | true => rw [svI_neg a hs]; simp; omega
  | false => rw [svI_pos a hs]; simp <;> omega

theorem toIntVal_of (a : Nat) (h : RW a < 9218868437227405312) (hb : RW a < 4890909195324358656 ∨ SG a = true ∧ RW a = 4890909195324358656) :
    floatToIntVal .f64 a .i64 = some (toI a) := by
  have hd : FloatKind.f64.decode a = Ieee.double.read a := rfl
  unfold floatToIntVal toI
  rw [hd, toInt_fin a h, if_neg (by omega)]
  have hmin : IntKind.i64.min = -9223372036854775808 := rfl
  have hmax : IntKind.i64.max = 9223372036854775807 := rfl
  rcases hb with hb | ⟨hs, hb⟩
  · have hi := intN_small hb
    have hl : -9223372036854775808 ≤ sgn (SG a) (intN (RW a)) ∧ sgn (SG a) (intN (RW a)) ≤ 9223372036854775807 := by
      unfold sgn; split <;> omega
    rw [if_neg (Nat.not_le.2 hb)]
    simp only
    rw [if_pos ⟨by rw [hmin]; exact hl.1, by rw [hmax]; exact hl.2⟩]
  · rw [if_pos (by omega), hs, hb, intN_beyond]
    rfl

/-- the nearest word's rung of a whole number above nought: of two that are as near the even one -/
def rungF (m : Nat) : Nat :=
  if m.log2 ≤ 52 then (m.log2 + 1022) * 4503599627370496 + m * 2 ^ (52 - m.log2)
  else (m.log2 + 1022) * 4503599627370496 + (m / 2 ^ (m.log2 - 52) +
    (decide (2 ^ (m.log2 - 52) < 2 * (m % 2 ^ (m.log2 - 52))) || (2 ^ (m.log2 - 52) == 2 * (m % 2 ^ (m.log2 - 52)) && m / 2 ^ (m.log2 - 52) % 2 == 1)).toNat)
theorem half_bounds {m d : Nat} (h1 : 2 ^ (52 + d) ≤ m) (h2 : m < 2 ^ (53 + d)) : 4503599627370496 ≤ m / 2 ^ d ∧ m / 2 ^ d < 9007199254740992 := by
  have e52 : (2 : Nat) ^ 52 = 4503599627370496 := by decide
  have e53 : (2 : Nat) ^ 53 = 9007199254740992 := by decide
  rw [Nat.pow_add, e52] at h1
  rw [Nat.pow_add, e53] at h2
  exact ⟨(Nat.le_div_iff_mul_le (Nat.two_pow_pos d)).2 h1, (Nat.div_lt_iff_lt_mul (Nat.two_pow_pos d)).2 h2⟩
theorem nearest_whole (s : Bool) (m : Nat) (h0 : 0 < m) (h : m < 18446744073709551616) : Ieee.double.nearest s m 0 = Ieee.double.word s (rungF m) := by
  obtain ⟨b1, b2⟩ := log2_bounds h0
  have hk : m.log2 < 64 := (Nat.log2_lt (by omega)).2 (by have e : (2 : Nat) ^ 64 = 18446744073709551616 := by decide
                                                          omega)
  unfold Format.nearest rungF
  rw [if_neg (by omega)]
  have hfb : (Ieee.double.fractionBits : Int) = 52 := rfl
  have hlp : Ieee.double.leastPlace = -1074 := rfl
  have hbi : Ieee.double.binade = 4503599627370496 := rfl
  have hin : Ieee.double.infRung = 9218868437227405312 := rfl
  simp only [hfb, hlp, hbi, hin]
  obtain ⟨k, hk'⟩ : ∃ k, k = m.log2 := ⟨_, rfl⟩
  rw [← hk'] at b1 b2 hk ⊢
  have hlast : max ((0 : Int) + (k : Int) - 52) (-1074) = (k : Int) - 52 := by omega
  rw [hlast]
  have e3 : ((k : Int) - 52 - -1074).toNat = k + 1022 := by omega
  rw [e3]
  by_cases h1 : k ≤ 52
  · have e1 : ((0 : Int) - ((k : Int) - 52)).toNat = 52 - k := by omega
    have e2 : ((k : Int) - 52 - 0).toNat = 0 := by omega
    rw [if_pos h1, e1, e2, cut_zero, shl_eq]
    have h3 : m * 2 ^ (52 - k) < 9007199254740992 := by
      have : m * 2 ^ (52 - k) < 2 ^ (k + 1) * 2 ^ (52 - k) := Nat.mul_lt_mul_of_pos_right b2 (Nat.two_pow_pos _)
      rw [← Nat.pow_add, show k + 1 + (52 - k) = 53 by omega] at this
      exact this
    congr 1
    exact Nat.min_eq_left (by omega)
  · have e1 : ((0 : Int) - ((k : Int) - 52)).toNat = 0 := by omega
    have e2 : ((k : Int) - 52 - 0).toNat = k - 52 := by omega
    rw [if_neg h1, e1, e2, shl_eq, Nat.pow_zero, Nat.mul_one]
    have hb := half_bounds (m := m) (d := k - 52) (by rw [show 52 + (k - 52) = k by omega]; exact b1) (by rw [show 53 + (k - 52) = k + 1 by omega]; exact b2)
    have hc : Toward.even.cut s m (k - 52) = m / 2 ^ (k - 52) +
        (decide (2 ^ (k - 52) < 2 * (m % 2 ^ (k - 52))) || (2 ^ (k - 52) == 2 * (m % 2 ^ (k - 52)) && m / 2 ^ (k - 52) % 2 == 1)).toNat := by
      unfold Toward.cut
      rw [← hk', Nat.min_eq_left (show k - 52 ≤ k + 2 by omega)]
      simp only [shl_eq, Nat.one_mul]
    rw [hc]
    congr 1
    have ht : ∀ b : Bool, b.toNat ≤ 1 := fun b => by cases b <;> decide
    have := ht (decide (2 ^ (k - 52) < 2 * (m % 2 ^ (k - 52))) || (2 ^ (k - 52) == 2 * (m % 2 ^ (k - 52)) && m / 2 ^ (k - 52) % 2 == 1))
    exact Nat.min_eq_left (by omega)

/-- 'ToFloat' by bits -/
def toF (n : Int) : Nat := Ieee.double.nearest (decide (n < 0)) n.natAbs 0
theorem floatOfInt_eq (n : Int) : floatOfInt .f64 n = toF n := rfl
theorem toF_lt (n : Int) : toF n < 18446744073709551616 := Ieee.double.nearest_lt _ _ _
theorem toF_notNaN (n : Int) : ¬ isNaN (toF n) := by
  obtain ⟨r, hr, e⟩ := nearest_form (decide (n < 0)) n.natAbs 0
  unfold toF; rw [e]; exact notNaN_word _ _ hr
theorem toF_small (n : Int) (h : n.natAbs ≤ 9007199254740992) : toF n = Ieee.double.word (decide (n < 0)) (rungOf n.natAbs) := nearest_int _ _ h
theorem toF_whole (n : Int) (h0 : n ≠ 0) (h : n.natAbs < 18446744073709551616) : toF n = Ieee.double.word (decide (n < 0)) (rungF n.natAbs) := nearest_whole _ _ (by omega) h

theorem intN_rungOf (n : Nat) (h : n ≤ 9007199254740992) : intN (rungOf n) = n := by
  obtain ⟨u, hu⟩ : ∃ u : Nat, u = 52 + 1022 := ⟨_, rfl⟩
  obtain ⟨_, h2, _⟩ := rungOf_spec n u h hu
  rw [← intN_eq _ u (by omega), h2, Nat.mul_div_cancel _ (Nat.two_pow_pos u)]
/-- what is whole and not too great comes back -/
theorem toI_toF (n : Int) (h : n.natAbs ≤ 9007199254740992) : toI (toF n) = n := by
  obtain ⟨u, hu⟩ : ∃ u : Nat, u = 52 + 1022 := ⟨_, rfl⟩
  obtain ⟨h1, _, h3⟩ := rungOf_spec n.natAbs u h hu
  rw [toF_small n h]
  unfold toI
  rw [rw_word _ _ (by omega), sg_word _ _ (by omega), if_neg (by omega), if_neg (by omega), intN_rungOf _ h]
  unfold sgn
  by_cases hn : n < 0
  · rw [decide_eq_true hn, if_pos rfl]; omega
  · rw [decide_eq_false hn, if_neg (by decide)]; omega
theorem svI_toF (n : Int) (h : n.natAbs ≤ 9007199254740992) (u : Nat) (hu : u = 52 + 1022) : svI (toF n) = n * ((2 ^ u : Nat) : Int) ∧ RW (toF n) < 9218868437227405312 ∧ magN (RW (toF n)) = n.natAbs * 2 ^ u ∧ SG (toF n) = decide (n < 0) := by
  obtain ⟨h1, h2, _⟩ := rungOf_spec n.natAbs u h hu
  rw [toF_small n h]
  refine ⟨?_, ?_, ?_, ?_⟩
  · unfold svI
    rw [rw_word _ _ (by omega), sg_word _ _ (by omega), h2]
    by_cases hn : n < 0
    · rw [decide_eq_true hn, if_pos rfl, Int.natCast_mul, ← Int.neg_mul]; congr 1; omega
    · rw [decide_eq_false hn, if_neg (by decide), Int.natCast_mul]; congr 1; omega
  · rw [rw_word _ _ (by omega)]; exact h1
  · rw [rw_word _ _ (by omega)]; exact h2
  · rw [sg_word _ _ (by omega)]

/-- whole numbers that aren't too great come to what they come to -/
theorem add_toF (i j : Int) (hi : i.natAbs ≤ 4503599627370496) (hj : j.natAbs ≤ 4503599627370496) : fAdd (toF i) (toF j) = toF (i + j) := by
  obtain ⟨u, hu⟩ : ∃ u : Nat, u = 52 + 1022 := ⟨_, rfl⟩
  obtain ⟨a1, a2, a3, a4⟩ := svI_toF i (by omega) u hu
  obtain ⟨b1, b2, b3, b4⟩ := svI_toF j (by omega) u hu
  have hp : (0 : Int) < ((2 ^ u : Nat) : Int) := by exact_mod_cast Nat.two_pow_pos u
  obtain ⟨c1, c2, _⟩ := rungOf_spec (i + j).natAbs u (by omega) hu
  have hs : svI (toF i) + svI (toF j) = (i + j) * ((2 ^ u : Nat) : Int) := by rw [a1, b1, Int.add_mul]
  unfold fAdd
  rw [add_exact _ _ (rungOf (i + j).natAbs) a2 b2 c1 (by rw [hs, c2, Int.natAbs_mul, Int.natAbs_natCast])]
  simp only [Option.getD_some]
  rw [toF_small (i + j) (by omega), hs, a4, b4]
  congr 1
  by_cases h0 : i + j = 0
  · rw [if_pos (by rw [h0, Int.zero_mul]), decide_eq_false (show ¬ i + j < 0 by omega)]
    by_cases hn : i < 0
    · rw [decide_eq_false (show ¬ j < 0 by omega), Bool.and_false]
    · rw [decide_eq_false hn, Bool.false_and]
  · rw [if_neg (fun e => by rcases Int.mul_eq_zero.1 e with e | e <;> omega)]
    by_cases hn : i + j < 0
    · rw [decide_eq_true hn, decide_eq_true (Int.mul_neg_of_neg_of_pos hn hp)]
    · rw [decide_eq_false hn, decide_eq_false]
      have := Int.mul_nonneg (show 0 ≤ i + j by omega) (Int.le_of_lt hp)
      omega
theorem mul_toF (i j : Int) (hi : i.natAbs ≤ 9007199254740992) (hj : j.natAbs ≤ 9007199254740992) (hij : i.natAbs * j.natAbs ≤ 9007199254740992) : toI (fMul (toF i) (toF j)) = i * j := by
  obtain ⟨u, hu⟩ : ∃ u : Nat, u = 52 + 1022 := ⟨_, rfl⟩
  obtain ⟨a1, a2, a3, a4⟩ := svI_toF i hi u hu
  obtain ⟨b1, b2, b3, b4⟩ := svI_toF j hj u hu
  obtain ⟨c1, c2, c3⟩ := rungOf_spec (i.natAbs * j.natAbs) u hij hu
  have one : ∀ n : Nat, 2 ^ u ≤ n * 2 ^ u ∨ n * 2 ^ u = 0 := by
    intro n
    rcases Nat.eq_zero_or_pos n with h | h
    · right; rw [h, Nat.zero_mul]
    · left; exact Nat.le_mul_of_pos_left _ h
  unfold fMul
  rw [mul_exact _ _ (rungOf (i.natAbs * j.natAbs)) a2 b2 c1 u (by omega) (by rw [a3]; exact one _) (by rw [b3]; exact one _) (by rw [c2, a3, b3, Nat.mul_mul_mul_comm, Nat.mul_assoc])]
  simp only [Option.getD_some]
  unfold toI
  rw [rw_word _ _ (by omega), sg_word _ _ (by omega), if_neg (by omega), if_neg (by omega), intN_rungOf _ hij, a4, b4]
  unfold sgn
  have hn : (i.natAbs : Int) * (j.natAbs : Int) = ((i.natAbs * j.natAbs : Nat) : Int) := (Int.natCast_mul _ _).symm
  rcases Int.lt_or_le i 0 with h1 | h1 <;> rcases Int.lt_or_le j 0 with h2 | h2
  · rw [decide_eq_true h1, decide_eq_true h2]
    simp only [Bool.xor_self, Bool.false_eq_true, if_false]
    rw [← hn, show (i.natAbs : Int) = -i by omega, show (j.natAbs : Int) = -j by omega, Int.neg_mul_neg]
  · rw [decide_eq_true h1, decide_eq_false (show ¬ j < 0 by omega)]
    simp only [Bool.xor_false, if_true]
    rw [← hn, show (i.natAbs : Int) = -i by omega, show (j.natAbs : Int) = j by omega, Int.neg_mul, Int.neg_neg]
  · rw [decide_eq_false (show ¬ i < 0 by omega), decide_eq_true h2]
    simp only [Bool.xor_true, Bool.not_false, if_true]
    rw [← hn, show (i.natAbs : Int) = i by omega, show (j.natAbs : Int) = -j by omega, Int.mul_neg, Int.neg_neg]
  · rw [decide_eq_false (show ¬ i < 0 by omega), decide_eq_false (show ¬ j < 0 by omega)]
    simp only [Bool.xor_self, Bool.false_eq_true, if_false]
    rw [← hn, show (i.natAbs : Int) = i by omega, show (j.natAbs : Int) = j by omega]

end Go.Proofs.Ytgcokjobnpjhhaa
