/- Doubles at their edges: infinities, noughts, and what is no number; which of two is less. -/
import Derived.Test.YtgcokjobnpjhhaaFloatC
namespace Go.Proofs.Ytgcokjobnpjhhaa
open Ieee

abbrev isInf (a : Nat) : Prop := RW a = 9218868437227405312
abbrev isZero (a : Nat) : Prop := RW a = 0
theorem read_zero (a : Nat) (h : isZero a) : Ieee.double.read a = .number (SG a) 0 (-1074) := by
  rw [read_eq, if_pos (by unfold isZero at h; omega)]
  unfold isZero at h; rw [h]
/-- a finite one that isn't nought -/
theorem read_num (a : Nat) (h : RW a < 9218868437227405312) (h0 : ¬ isZero a) : ∃ m p, Ieee.double.read a = .number (SG a) m p ∧ 0 < m := by
  obtain ⟨m, p, e, v, _⟩ := read_fin a h
  refine ⟨m, _, e, ?_⟩
  rcases Nat.eq_zero_or_pos m with hm | hm
  · rw [hm, Nat.zero_mul] at v
    have := magN_pos (show 0 < RW a by unfold isZero at h0; omega)
    omega
  · exact hm

theorem add_nan (a b : Nat) (h : isNaN a ∨ isNaN b) : fAdd a b = 9221120237041090561 := by
  rcases h with h | h
  · exact add_nan_left h
  · exact add_nan_right h
theorem sub_nan (a b : Nat) (hb : b < 18446744073709551616) (h : isNaN a ∨ isNaN b) : fSub a b = 9221120237041090561 := by
  rw [fSub_flip a hb]; exact add_nan _ _ (h.imp id (isNaN_flip hb).2)
theorem mul_nan (a b : Nat) (h : isNaN a ∨ isNaN b) : fMul a b = 9221120237041090561 := by
  unfold fMul Format.mul
  rcases h with h | h
  · obtain ⟨n, e⟩ := read_nan a h; rw [e]; rfl
  · obtain ⟨n, e⟩ := read_nan b h; rw [e]; cases Ieee.double.read a <;> rfl
theorem div_nan (a b : Nat) (h : isNaN a ∨ isNaN b) : fDiv a b = 9221120237041090561 := by
  unfold fDiv Format.div
  rcases h with h | h
  · obtain ⟨n, e⟩ := read_nan a h; rw [e]; rfl
  · obtain ⟨n, e⟩ := read_nan b h; rw [e]; cases Ieee.double.read a <;> rfl

theorem inf_word (a : Nat) (h : a < 18446744073709551616) (hi : isInf a) : Ieee.double.word (SG a) 9218868437227405312 = a := by
  have := word_of a h; rw [hi] at this; exact this

theorem add_inf_inf (a b : Nat) (ha : a < 18446744073709551616) (h1 : isInf a) (h2 : isInf b) : fAdd a b = if SG a = SG b then a else 9221120237041090561 := by
  unfold fAdd Format.add
  rw [read_inf a h1, read_inf b h2]
  simp only [Datum.sum]
  by_cases h : SG a = SG b
  · rw [if_pos h, if_pos h]; exact inf_word a ha h1
  · rw [if_neg h, if_neg h]; rfl
theorem add_inf_left (a b : Nat) (ha : a < 18446744073709551616) (h1 : isInf a) (h2 : RW b < 9218868437227405312) : fAdd a b = a := by
  obtain ⟨m, p, e, _⟩ := read_fin b h2
  unfold fAdd Format.add
  rw [read_inf a h1, e]
  exact inf_word a ha h1
theorem add_inf_right (a b : Nat) (hb : b < 18446744073709551616) (h1 : isInf b) (h2 : RW a < 9218868437227405312) : fAdd a b = b := by
  rw [fAdd_comm]; exact add_inf_left b a hb h1 h2
theorem sub_same (a : Nat) (h : a < 18446744073709551616) (h1 : RW a < 9218868437227405312) : fSub a a = 0 := by
  rw [fSub_flip a h]
  unfold fAdd
  rw [add_exact a (flip a) 0 h1 (by rw [RW_flip h]; exact h1) (by decide) (by rw [svI_flip h, Int.add_right_neg]; rfl), svI_flip h, Int.add_right_neg, if_pos rfl, SG_flip h]
  cases SG a <;> rfl
theorem zero_bits (a : Nat) (h : a < 18446744073709551616) (h0 : isZero a) : a = Ieee.double.word (SG a) 0 := by
  have := word_of a h; rw [h0] at this; exact this.symm
theorem svI_zero (a : Nat) (h : isZero a) : svI a = 0 := by
  unfold svI; rw [h, magN_zero]; cases SG a <;> rfl
theorem add_zeros (a b : Nat) (ha : a < 18446744073709551616) (hb : b < 18446744073709551616) (h1 : isZero a) (h2 : isZero b) : fAdd a b = a &&& b := by
  unfold fAdd
  rw [add_exact a b 0 (by rw [h1]; decide) (by rw [h2]; decide) (by decide) (by rw [svI_zero a h1, svI_zero b h2]; rfl), svI_zero a h1, svI_zero b h2, Int.add_zero, if_pos rfl]
  simp only [Option.getD_some]
  conv => rhs; rw [zero_bits a ha h1, zero_bits b hb h2]
  cases SG a <;> cases SG b <;> decide

theorem mul_inf_zero (a b : Nat) (h : isInf a ∧ isZero b ∨ isZero a ∧ isInf b) : fMul a b = 9221120237041090561 := by
  unfold fMul Format.mul
  rcases h with ⟨h1, h2⟩ | ⟨h1, h2⟩
  · rw [read_inf a h1, read_zero b h2]; rfl
  · rw [read_zero a h1, read_inf b h2]; rfl
theorem mul_inf (a b : Nat) (ha : ¬ isNaN a) (hb : ¬ isNaN b) (h : isInf a ∧ ¬ isZero b ∨ ¬ isZero a ∧ isInf b) : fMul a b = Ieee.double.word (SG a ^^ SG b) 9218868437227405312 := by
  unfold fMul Format.mul
  rcases h with ⟨h1, h2⟩ | ⟨h1, h2⟩
  · rw [read_inf a h1]
    by_cases hi : isInf b
    · rw [read_inf b hi]; rfl
    · obtain ⟨m, p, e, hm⟩ := read_num b (by unfold isNaN at hb; unfold isInf at hi; omega) h2
      rw [e]; simp only [Datum.product]; rw [if_neg (by omega)]; rfl
  · rw [read_inf b h2]
    by_cases hi : isInf a
    · rw [read_inf a hi]; rfl
    · obtain ⟨m, p, e, hm⟩ := read_num a (by unfold isNaN at ha; unfold isInf at hi; omega) h1
      rw [e]; simp only [Datum.product]; rw [if_neg (by omega), Bool.xor_comm]; rfl
theorem nearest_zero (s : Bool) (p : Int) : Ieee.double.nearest s 0 p = Ieee.double.word s 0 := by unfold Format.nearest; rw [if_pos rfl]
theorem mul_zero (a b : Nat) (ha : RW a < 9218868437227405312) (hb : RW b < 9218868437227405312) (h : isZero a ∨ isZero b) : fMul a b = Ieee.double.word (SG a ^^ SG b) 0 := by
  unfold fMul Format.mul
  rcases h with h | h
  · obtain ⟨m, p, e, _⟩ := read_fin b hb
    rw [read_zero a h, e]
    simp only [Datum.product, Option.map_some, Option.getD_some, Nat.zero_mul]
    exact nearest_zero _ _
  · obtain ⟨m, p, e, _⟩ := read_fin a ha
    rw [read_zero b h, e]
    simp only [Datum.product, Option.map_some, Option.getD_some, Nat.mul_zero]
    exact nearest_zero _ _

theorem div_none (a b : Nat) (h : isInf a ∧ isInf b ∨ isZero a ∧ isZero b) : fDiv a b = 9221120237041090561 := by
  unfold fDiv Format.div
  rcases h with ⟨h1, h2⟩ | ⟨h1, h2⟩
  · rw [read_inf a h1, read_inf b h2]; rfl
  · rw [read_zero a h1, read_zero b h2]; rfl
theorem div_inf (a b : Nat) (ha : ¬ isNaN a) (hb : ¬ isNaN b) (h : isInf a ∧ ¬ isInf b ∨ ¬ isZero a ∧ isZero b) : fDiv a b = Ieee.double.word (SG a ^^ SG b) 9218868437227405312 := by
  unfold fDiv Format.div
  rcases h with ⟨h1, h2⟩ | ⟨h1, h2⟩
  · obtain ⟨m, p, e, _⟩ := read_fin b (by unfold isNaN at hb; unfold isInf at h2; omega)
    rw [read_inf a h1, e]; rfl
  · by_cases hi : isInf a
    · rw [read_inf a hi, read_zero b h2]; rfl
    · obtain ⟨m, p, e, hm⟩ := read_num a (by unfold isNaN at ha; unfold isInf at hi; omega) h1
      rw [e, read_zero b h2]; simp only [Datum.quotient]; rw [if_pos trivial, if_neg (by omega)]; rfl
theorem div_zero (a b : Nat) (ha : RW a < 9218868437227405312) (hb : ¬ isNaN b) (h : isInf b ∨ isZero a ∧ ¬ isZero b) : fDiv a b = Ieee.double.word (SG a ^^ SG b) 0 := by
  unfold fDiv Format.div
  by_cases hi : isInf b
  · obtain ⟨m, p, e, _⟩ := read_fin a ha
    rw [read_inf b hi, e]
    simp only [Datum.quotient, Option.map_some, Option.getD_some]
    exact nearest_zero _ _
  · obtain ⟨h1, h2⟩ : isZero a ∧ ¬ isZero b := h.resolve_left hi
    obtain ⟨m, p, e, hm⟩ := read_num b (by unfold isNaN at hb; unfold isInf at hi; omega) h2
    rw [read_zero a h1, e]
    simp only [Datum.quotient]
    rw [if_neg (by omega)]
    simp only [Option.map_some, Option.getD_some]
    have e0 : 2 * (0 <<< (Ieee.double.fractionBits + 2 + m.log2 - Nat.log2 0) / m) + (0 <<< (Ieee.double.fractionBits + 2 + m.log2 - Nat.log2 0) % m != 0).toNat = 0 := by
      rw [Nat.zero_shiftLeft, Nat.zero_div, Nat.zero_mod]; rfl
    rw [e0]
    exact nearest_zero _ _

/-- of finite ones a quotient by one that isn't nought is a number: its sign, its bits aren't NaN's -/
theorem div_fin (a b : Nat) (ha : RW a < 9218868437227405312) (hb : RW b < 9218868437227405312) (h : ¬ isZero b) : ∃ r, r ≤ 9218868437227405312 ∧ Ieee.double.div a b = some (Ieee.double.word (SG a ^^ SG b) r) := by
  obtain ⟨m, p, e1, _⟩ := read_fin a ha
  obtain ⟨n, q, e2, hn⟩ := read_num b hb h
  unfold Format.div
  rw [e1, e2]
  simp only [Datum.quotient]
  rw [if_neg (by omega)]
  simp only [Option.map_some]
  obtain ⟨r, hr, e⟩ := nearest_form (SG a ^^ SG b) (2 * (m <<< (Ieee.double.fractionBits + 2 + n.log2 - m.log2) / n) + (m <<< (Ieee.double.fractionBits + 2 + n.log2 - m.log2) % n != 0).toNat) ((-1074 + (p : Int)) - q - ((Ieee.double.fractionBits + 2 + n.log2 - m.log2 : Nat) : Int) - 1)
  exact ⟨r, hr, congrArg some e⟩

/-! ### Which of two is less -/
def lessB (a b : Nat) : Bool :=
  if 9218868437227405312 < RW a ∨ 9218868437227405312 < RW b ∨ RW a = 0 ∧ RW b = 0 then false
  else if SG a ≠ SG b then SG a else if SG a then decide (b < a) else decide (a < b)
def sameB (a b : Nat) : Bool := decide (¬ 9218868437227405312 < RW a ∧ ¬ 9218868437227405312 < RW b ∧ (a = b ∨ RW a = 0 ∧ RW b = 0))
theorem lt_of_RW (a b : Nat) (ha : a < 18446744073709551616) (hb : b < 18446744073709551616) (h : SG a = SG b) : (a < b ↔ RW a < RW b) ∧ (a = b ↔ RW a = RW b) := by
  have h1 := word_of a ha
  have h2 := word_of b hb
  rw [word_eq] at h1 h2
  rw [h] at h1
  cases hs : SG b <;> rw [hs] at h1 h2 <;> simp only [Bool.false_eq_true, if_false, if_true] at h1 h2 <;> omega
theorem sv_lt (a b : Nat) (ha : a < 18446744073709551616) (hb : b < 18446744073709551616) (h1 : ¬ isNaN a) (h2 : ¬ isNaN b) : decide (svI a < svI b) = lessB a b := by
  unfold lessB
  unfold isNaN at h1 h2
  have m1 := magN_lt_iff (RW a) (RW b)
  have m2 := magN_lt_iff (RW b) (RW a)
  have z1 : magN (RW a) = 0 ↔ RW a = 0 := ⟨fun h => by rcases Nat.eq_zero_or_pos (RW a) with h3 | h3; exact h3; have := magN_pos h3; omega, fun h => by rw [h, magN_zero]⟩
  have z2 : magN (RW b) = 0 ↔ RW b = 0 := ⟨fun h => by rcases Nat.eq_zero_or_pos (RW b) with h3 | h3; exact h3; have := magN_pos h3; omega, fun h => by rw [h, magN_zero]⟩
  by_cases hz : RW a = 0 ∧ RW b = 0
  · rw [if_pos (by omega), svI_zero a hz.1, svI_zero b hz.2]; rfl
  · rw [if_neg (by omega)]
    by_cases hs : SG a = SG b
    · have hl := lt_of_RW a b ha hb hs
      have hl2 := lt_of_RW b a hb ha hs.symm
      rw [if_neg (by simp [hs])]
      cases h3 : SG a
      · rw [svI_pos a h3, svI_pos b (by rw [← hs]; exact h3)]; simp; omega
      · rw [svI_neg a h3, svI_neg b (by rw [← hs]; exact h3)]; simp; omega
    · rw [if_pos hs]
      cases h3 : SG a
      · have h4 : SG b = true := by cases h5 : SG b <;> simp_all
        rw [svI_pos a h3, svI_neg b h4]; simp <;> omega
      · have h4 : SG b = false := by cases h5 : SG b <;> simp_all
        rw [svI_neg a h3, svI_pos b h4]; simp <;> omega
theorem sv_same (a b : Nat) (ha : a < 18446744073709551616) (hb : b < 18446744073709551616) (h1 : ¬ isNaN a) (h2 : ¬ isNaN b) : decide (svI a = svI b) = sameB a b := by
  unfold sameB
  unfold isNaN at h1 h2
  have m1 : magN (RW a) = magN (RW b) ↔ RW a = RW b := ⟨magN_inj, fun h => by rw [h]⟩
  have z1 : magN (RW a) = 0 ↔ RW a = 0 := ⟨fun h => by rcases Nat.eq_zero_or_pos (RW a) with h3 | h3; exact h3; have := magN_pos h3; omega, fun h => by rw [h, magN_zero]⟩
  have z2 : magN (RW b) = 0 ↔ RW b = 0 := ⟨fun h => by rcases Nat.eq_zero_or_pos (RW b) with h3 | h3; exact h3; have := magN_pos h3; omega, fun h => by rw [h, magN_zero]⟩
  apply decide_eq_decide.2
  by_cases hs : SG a = SG b
  · have hl := lt_of_RW a b ha hb hs
    cases h3 : SG a
    · rw [svI_pos a h3, svI_pos b (by rw [← hs]; exact h3)]; omega
    · rw [svI_neg a h3, svI_neg b (by rw [← hs]; exact h3)]; omega
  · have hne : a ≠ b := fun e => hs (by rw [e])
    cases h3 : SG a
    · have h4 : SG b = true := by cases h5 : SG b <;> simp_all
      rw [svI_pos a h3, svI_neg b h4]; omega
    · have h4 : SG b = false := by cases h5 : SG b <;> simp_all
      rw [svI_neg a h3, svI_pos b h4]; omega

theorem less_order (a b : Nat) (ha : a < 18446744073709551616) (hb : b < 18446744073709551616) : (Ieee.double.order a b == some .lt) = lessB a b := by
  by_cases h1 : isNaN a
  · rw [order_nan_left a b h1]; unfold lessB; rw [if_pos (.inl h1)]; rfl
  · by_cases h2 : isNaN b
    · rw [order_nan_right a b h2]; unfold lessB; rw [if_pos (.inr (.inl h2))]; rfl
    · rw [order_eq a b h1 h2, cmp_lt, sv_lt a b ha hb h1 h2]
theorem more_order (a b : Nat) (ha : a < 18446744073709551616) (hb : b < 18446744073709551616) : (Ieee.double.order a b == some .gt) = lessB b a := by
  by_cases h1 : isNaN a
  · rw [order_nan_left a b h1]; unfold lessB; rw [if_pos (.inr (.inl h1))]; rfl
  · by_cases h2 : isNaN b
    · rw [order_nan_right a b h2]; unfold lessB; rw [if_pos (.inl h2)]; rfl
    · rw [order_eq a b h1 h2, cmp_gt, sv_lt b a hb ha h2 h1]
theorem same_order (a b : Nat) (ha : a < 18446744073709551616) (hb : b < 18446744073709551616) : (Ieee.double.order a b == some .eq) = sameB a b := by
  by_cases h1 : isNaN a
  · rw [order_nan_left a b h1]; unfold sameB; rw [decide_eq_false (fun h => h.1 h1)]; rfl
  · by_cases h2 : isNaN b
    · rw [order_nan_right a b h2]; unfold sameB; rw [decide_eq_false (fun h => h.2.1 h2)]; rfl
    · rw [order_eq a b h1 h2, cmp_eq, sv_same a b ha hb h1 h2]

/-- what isn't below nought is not less than what is left of it without what is behind the point -/
theorem not_less_whole (a : Nat) (ha : a < 18446744073709551616) (h1 : ¬ isNaN a) (hs : SG a = false) : (Ieee.double.order a (toF (toI a)) == some .lt) = false := by
  rw [order_eq a _ h1 (toF_notNaN _), cmp_lt]
  apply decide_eq_false
  unfold isNaN at h1
  obtain ⟨u, hu⟩ : ∃ u : Nat, u = 52 + 1022 := ⟨_, rfl⟩
  have hi := intN_eq (RW a) u (by omega)
  by_cases hb : 4890909195324358656 ≤ RW a
  · have e : toF (toI a) = 4890909195324358656 := by
      unfold toI; rw [if_neg h1, if_pos hb, hs]; decide +kernel
    rw [e, svI_pos a hs, svI_pos 4890909195324358656 (by decide)]
    have := magN_lt_iff (RW a) 4890909195324358656
    have e2 : RW 4890909195324358656 = 4890909195324358656 := by decide
    rw [e2]; omega
  · have e : toI a = (intN (RW a) : Int) := by unfold toI; rw [if_neg h1, if_neg hb, hs]; rfl
    rw [e]
    by_cases hn : intN (RW a) ≤ 9007199254740992
    · obtain ⟨_, _, m, s⟩ := svI_toF (intN (RW a) : Int) (by omega) u hu
      rw [svI_pos a hs, svI_pos _ (by rw [s]; exact decide_eq_false (by omega)), m]
      have : intN (RW a) * 2 ^ u ≤ magN (RW a) := by rw [← hi]; exact Nat.div_mul_le_self _ _
      simp only [Int.natAbs_natCast]
      omega
    · -- its last digit is whole: it is what it was
      have hr : toF (intN (RW a) : Int) = a := by
        have hx : magN (RW a) = intN (RW a) * 2 ^ u := by
          unfold magN intN at *
          obtain ⟨ex, he⟩ : ∃ ex, ex = RW a / 4503599627370496 := ⟨_, rfl⟩
          rw [← he] at hn hi ⊢
          by_cases c1 : ex < 1023
          · rw [if_pos c1] at hn; omega
          · rw [if_neg c1] at hn ⊢
            rw [if_neg (by omega)]
            by_cases c2 : 1075 ≤ ex
            · rw [if_pos c2, Nat.add_comm 4503599627370496, show ex - 1 = (ex - 1075) + u by omega, Nat.pow_add, ← Nat.mul_assoc]
            · rw [if_neg c2] at hn
              have : (RW a % 4503599627370496 + 4503599627370496) / 2 ^ (1075 - ex) ≤ RW a % 4503599627370496 + 4503599627370496 := Nat.div_le_self _ _
              omega
        have := write_of false (intN (RW a)) (RW a) u (by omega) hx
        unfold toF
        rw [decide_eq_false (by omega), Int.natAbs_natCast]
        have e0 : (0 : Int) = -1074 + (u : Int) := by omega
        have e1 : Ieee.double.nearest false (intN (RW a)) (-1074 + (u : Int)) = Ieee.double.word false (RW a) := this
        rw [← e0] at e1
        rw [e1, ← hs]; exact word_of a ha
      rw [hr]; omega

end Go.Proofs.Ytgcokjobnpjhhaa
