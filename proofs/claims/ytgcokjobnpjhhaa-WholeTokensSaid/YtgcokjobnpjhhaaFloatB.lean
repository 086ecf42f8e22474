/- Doubles: the four operations, the other sign, made whole numbers and made of these, as functions of bits. -/
import Derived.Test.YtgcokjobnpjhhaaFloat
namespace Go.Proofs.Ytgcokjobnpjhhaa
open Ieee

/-! ### What is written is no NaN -/
theorem notNaN_word (s : Bool) (r : Nat) (h : r ≤ 9218868437227405312) : ¬ isNaN (Ieee.double.word s r) := by
  unfold isNaN; rw [rw_word s r (by omega)]; omega
theorem word_lt (s : Bool) (r : Nat) (h : r < 9223372036854775808) : Ieee.double.word s r < 18446744073709551616 := by
  rw [word_eq]; cases s <;> simp <;> omega
theorem nearest_form (s : Bool) (m : Nat) (p : Int) : ∃ r, r ≤ 9218868437227405312 ∧ Ieee.double.nearest s m p = Ieee.double.word s r := by
  unfold Format.nearest
  by_cases h : m = 0
  · rw [if_pos h]; exact ⟨0, by decide, rfl⟩
  · rw [if_neg h]; exact ⟨_, Nat.min_le_right _ _, rfl⟩
/-- the word of a datum that is a number or infinite -/
theorem write_form (d : Datum) (h : d.isNaN = false) : ∃ r, r ≤ 9218868437227405312 ∧ Ieee.double.write d = Ieee.double.word d.neg r := by
  cases d with
  | number s m p => exact nearest_form s m p
  | infinity s => exact ⟨_, Nat.le_refl _, rfl⟩
  | nan s n => simp [Datum.isNaN] at h
theorem write_notNaN (d : Datum) (h : d.isNaN = false) : ¬ isNaN (Ieee.double.write d) := by
  obtain ⟨r, hr, e⟩ := write_form d h
  rw [e]; exact notNaN_word _ _ hr
theorem write_lt (d : Datum) : Ieee.double.write d < 18446744073709551616 := Ieee.double.write_lt d

theorem sum_notNaN {x y d : Datum} (h : x.sum y = some d) : d.isNaN = false := by
  cases x <;> cases y <;> simp only [Datum.sum] at h <;> first | (cases h; done) | skip
  · cases h; rfl
  · cases h; rfl
  · cases h; rfl
  · split at h <;> cases h; rfl
theorem product_notNaN {x y d : Datum} (h : x.product y = some d) : d.isNaN = false := by
  cases x <;> cases y <;> simp only [Datum.product] at h <;> first | (cases h; done) | skip
  · cases h; rfl
  · split at h <;> cases h; rfl
  · split at h <;> cases h; rfl
  · cases h; rfl
theorem quotient_notNaN {k : Nat} {x y d : Datum} (h : x.quotient k y = some d) : d.isNaN = false := by
  cases x <;> cases y <;> simp only [Datum.quotient] at h <;> first | (cases h; done) | skip
  · split at h
    · split at h <;> cases h; rfl
    · cases h; rfl
  · cases h; rfl
  · cases h; rfl

abbrev NAN : Nat := 9221120237041090561
def fAdd (a b : Nat) : Nat := (Ieee.double.add a b).getD 9221120237041090561
def fSub (a b : Nat) : Nat := (Ieee.double.sub a b).getD 9221120237041090561
def fMul (a b : Nat) : Nat := (Ieee.double.mul a b).getD 9221120237041090561
def fDiv (a b : Nat) : Nat := (Ieee.double.div a b).getD 9221120237041090561
theorem getD_lt {o : Option Datum} : (o.map Ieee.double.write).getD 9221120237041090561 < 18446744073709551616 := by
  cases o with
  | none => decide
  | some d => exact write_lt d
theorem fAdd_lt (a b : Nat) : fAdd a b < 18446744073709551616 := getD_lt
theorem fSub_lt (a b : Nat) : fSub a b < 18446744073709551616 := getD_lt
theorem fMul_lt (a b : Nat) : fMul a b < 18446744073709551616 := getD_lt
theorem fDiv_lt (a b : Nat) : fDiv a b < 18446744073709551616 := getD_lt
theorem add_notNaN {a b r : Nat} (h : Ieee.double.add a b = some r) : ¬ isNaN r := by
  unfold Format.add at h
  cases hs : (Ieee.double.read a).sum (Ieee.double.read b) with
  | none => rw [hs] at h; cases h
  | some d => rw [hs] at h; cases h; exact write_notNaN d (sum_notNaN hs)
theorem sub_notNaN {a b r : Nat} (h : Ieee.double.sub a b = some r) : ¬ isNaN r := by
  unfold Format.sub at h
  cases hs : (Ieee.double.read a).sum (Ieee.double.read b).opposite with
  | none => rw [hs] at h; cases h
  | some d => rw [hs] at h; cases h; exact write_notNaN d (sum_notNaN hs)
theorem mul_notNaN {a b r : Nat} (h : Ieee.double.mul a b = some r) : ¬ isNaN r := by
  unfold Format.mul at h
  cases hs : (Ieee.double.read a).product (Ieee.double.read b) with
  | none => rw [hs] at h; cases h
  | some d => rw [hs] at h; cases h; exact write_notNaN d (product_notNaN hs)
theorem div_notNaN {a b r : Nat} (h : Ieee.double.div a b = some r) : ¬ isNaN r := by
  unfold Format.div at h
  cases hs : (Ieee.double.read a).quotient (Ieee.double.fractionBits + 2) (Ieee.double.read b) with
  | none => rw [hs] at h; cases h
  | some d => rw [hs] at h; cases h; exact write_notNaN d (quotient_notNaN hs)

/-! ### The laws of each sign, by data -/
theorem sum_comm (x y : Datum) : x.sum y = y.sum x := by
  cases x with
  | nan s n => cases y <;> rfl
  | infinity s => cases y with
    | nan t m => rfl
    | number t m p => rfl
    | infinity t =>
      simp only [Datum.sum]
      by_cases h : s = t
      · subst h; rfl
      · rw [if_neg h, if_neg (fun e => h e.symm)]
  | number s m p => cases y with
    | nan t m => rfl
    | infinity t => rfl
    | number t n q =>
      simp only [Datum.sum]
      rw [show min p q = min q p by omega, Int.add_comm (signed s m _) (signed t n _), Bool.and_comm s t]
theorem product_comm (x y : Datum) : x.product y = y.product x := by
  cases x with
  | nan s n => cases y <;> rfl
  | infinity s => cases y with
    | nan t m => rfl
    | number t m p => rfl
    | infinity t => simp only [Datum.product]; rw [Bool.xor_comm]
  | number s m p => cases y with
    | nan t m => rfl
    | infinity t => rfl
    | number t n q => simp only [Datum.product]; rw [Bool.xor_comm, Nat.mul_comm, Int.add_comm]
theorem fAdd_comm (a b : Nat) : fAdd a b = fAdd b a := by unfold fAdd Format.add; rw [sum_comm]
theorem fMul_comm (a b : Nat) : fMul a b = fMul b a := by unfold fMul Format.mul; rw [product_comm]

def flip (b : Nat) : Nat := if b < 9223372036854775808 then b + 9223372036854775808 else b - 9223372036854775808
theorem flip_lt {b : Nat} (h : b < 18446744073709551616) : flip b < 18446744073709551616 := by unfold flip; split <;> omega
theorem flip_flip {b : Nat} (h : b < 18446744073709551616) : flip (flip b) = b := by unfold flip; split <;> split <;> omega
theorem RW_flip {b : Nat} (h : b < 18446744073709551616) : RW (flip b) = RW b := by unfold flip RW; split <;> omega
theorem SG_lo {b : Nat} (h : b < 9223372036854775808) : SG b = false := by
  unfold SG; rw [show b / 9223372036854775808 = 0 by omega]; rfl
theorem SG_hi {b : Nat} (h : b < 18446744073709551616) (h2 : 9223372036854775808 ≤ b) : SG b = true := by
  unfold SG; rw [show b / 9223372036854775808 = 1 by omega]; rfl
theorem SG_flip {b : Nat} (h : b < 18446744073709551616) : SG (flip b) = !SG b := by
  unfold flip
  by_cases h1 : b < 9223372036854775808
  · rw [if_pos h1, SG_lo h1, SG_hi (by omega) (by omega)]; rfl
  · rw [if_neg h1, SG_hi h (by omega), SG_lo (by omega)]; rfl
theorem xor_flip {b : Nat} (h : b < 18446744073709551616) : b ^^^ 9223372036854775808 = flip b := by
  have e63 : (9223372036854775808 : Nat) = 2 ^ 63 := by decide
  have small : ∀ c, c < 9223372036854775808 → c ^^^ 9223372036854775808 = c + 9223372036854775808 := by
    intro c hc
    rw [e63] at hc ⊢
    apply Nat.eq_of_testBit_eq
    intro i
    rw [Nat.testBit_xor, Nat.testBit_two_pow, Nat.add_comm c]
    rcases Nat.lt_trichotomy i 63 with hi | hi | hi
    · have hd : decide (63 = i) = false := decide_eq_false (by omega)
      rw [Nat.testBit_two_pow_add_gt hi, hd, Bool.xor_false]
    · subst hi; rw [Nat.testBit_two_pow_add_eq, decide_eq_true rfl, Bool.xor_true]
    · have h1 : c.testBit i = false := Nat.testBit_lt_two_pow (Nat.lt_of_lt_of_le hc (Nat.pow_le_pow_right (by decide) (by omega)))
      have h2 : (2 ^ 63 + c).testBit i = false := Nat.testBit_lt_two_pow (by
        have : 2 ^ 63 + c < 2 ^ 64 := by rw [Nat.pow_succ 2 63]; omega
        exact Nat.lt_of_lt_of_le this (Nat.pow_le_pow_right (by decide) (by omega)))
      have hd : decide (63 = i) = false := decide_eq_false (by omega)
      rw [h1, h2, hd]; rfl
  unfold flip
  by_cases h1 : b < 9223372036854775808
  · rw [if_pos h1]; exact small b h1
  · rw [if_neg h1]
    have h2 := small (b - 9223372036854775808) (by omega)
    have h3 : b - 9223372036854775808 + 9223372036854775808 = b := by omega
    rw [h3] at h2
    obtain ⟨c, hc⟩ : ∃ c, c = b - 9223372036854775808 := ⟨_, rfl⟩
    rw [← hc] at h2 ⊢
    rw [← h2, Nat.xor_assoc, Nat.xor_self, Nat.xor_zero]

theorem isNaN_flip {b : Nat} (h : b < 18446744073709551616) : isNaN (flip b) ↔ isNaN b := by unfold isNaN; rw [RW_flip h]
theorem read_flip {b : Nat} (h : b < 18446744073709551616) : Ieee.double.read (flip b) = (Ieee.double.read b).opposite := by
  rw [read_eq, read_eq, RW_flip h, SG_flip h]
  split
  · rfl
  · split
    · rfl
    · split <;> rfl
theorem svI_flip {b : Nat} (h : b < 18446744073709551616) : svI (flip b) = - svI b := by
  unfold svI; rw [RW_flip h, SG_flip h]; cases SG b <;> simp
/-- taking one away is putting its other sign to it -/
theorem fSub_flip (a : Nat) {b : Nat} (h : b < 18446744073709551616) : fSub a b = fAdd a (flip b) := by
  unfold fSub fAdd Format.sub Format.add; rw [read_flip h]

/-- NaN for what is none -/
def norm (a : Nat) : Nat := if 9218868437227405312 < RW a then 9221120237041090561 else a
theorem norm_lt {a : Nat} (h : a < 18446744073709551616) : norm a < 18446744073709551616 := by unfold norm; split <;> omega
theorem norm_of {a : Nat} (h : ¬ isNaN a) : norm a = a := by unfold norm; exact if_neg h
theorem norm_nan {a : Nat} (h : isNaN a) : norm a = 9221120237041090561 := by unfold norm; exact if_pos h
theorem nan_isNaN : isNaN 9221120237041090561 := by unfold isNaN RW; decide
theorem add_nan_left {a b : Nat} (h : isNaN a) : fAdd a b = 9221120237041090561 := by
  obtain ⟨n, e⟩ := read_nan a h
  unfold fAdd Format.add; rw [e]; rfl
theorem add_nan_right {a b : Nat} (h : isNaN b) : fAdd a b = 9221120237041090561 := by rw [fAdd_comm]; exact add_nan_left h
theorem sub_norm (a : Nat) {b : Nat} (h : b < 18446744073709551616) : fSub a b = fAdd a (norm (flip b)) := by
  by_cases hn : isNaN b
  · rw [norm_nan ((isNaN_flip h).2 hn), fSub_flip a h, add_nan_right ((isNaN_flip h).2 hn), add_nan_right nan_isNaN]
  · rw [norm_of (fun e => hn ((isNaN_flip h).1 e)), fSub_flip a h]

/-! ### Sums and products that the format has -/
theorem svI_zero_iff (a : Nat) (h : svI a = 0) : RW a = 0 := by
  unfold svI at h
  rcases Nat.eq_zero_or_pos (RW a) with h0 | h0
  · exact h0
  · have := magN_pos h0
    cases SG a <;> simp at h <;> omega

/-- two finite ones together, if the format has what they come to -/
theorem add_exact (a b r : Nat) (ha : RW a < 9218868437227405312) (hb : RW b < 9218868437227405312) (hr : r < 9218868437227405312) (h : magN r = (svI a + svI b).natAbs) :
    Ieee.double.add a b = some (Ieee.double.word (if svI a + svI b = 0 then SG a && SG b else decide (svI a + svI b < 0)) r) := by
  obtain ⟨m, p, e1, v1, _⟩ := read_fin a ha
  obtain ⟨n, q, e2, v2, _⟩ := read_fin b hb
  unfold Format.add
  rw [e1, e2]
  simp only [Datum.sum, Option.map_some]
  have hb2 : min (-1074 + (p : Int)) (-1074 + (q : Int)) = -1074 + ((min p q : Nat) : Int) := by omega
  rw [hb2]
  have h1 : (-1074 + (p : Int) - (-1074 + ((min p q : Nat) : Int))).toNat = p - min p q := by omega
  have h2 : (-1074 + (q : Int) - (-1074 + ((min p q : Nat) : Int))).toNat = q - min p q := by omega
  rw [h1, h2]
  obtain ⟨T, hT⟩ : ∃ T, T = signed (SG a) m (p - min p q) + signed (SG b) n (q - min p q) := ⟨_, rfl⟩
  rw [← hT]
  have hk : (0 : Int) < ((2 ^ (min p q) : Nat) : Int) := by exact_mod_cast Nat.two_pow_pos _
  have hv : svI a + svI b = T * ((2 ^ (min p q) : Nat) : Int) := by
    rw [hT, Int.add_mul, signed_scale _ _ _ _ (Nat.min_le_left p q), signed_scale _ _ _ _ (Nat.min_le_right p q)]
    unfold svI
    rw [v1, v2]
  have hz : svI a + svI b = 0 ↔ T = 0 := by
    rw [hv]
    constructor
    · intro e
      rcases Int.mul_eq_zero.1 e with e | e
      · exact e
      · omega
    · intro e; rw [e, Int.zero_mul]
  have hl : svI a + svI b < 0 ↔ T < 0 := by
    rw [hv]
    constructor
    · intro e
      rcases Int.lt_or_le T 0 with h3 | h3
      · exact h3
      · have := Int.mul_nonneg h3 (Int.le_of_lt hk); omega
    · intro e; exact Int.mul_neg_of_neg_of_pos e hk
  have hm : magN r = T.natAbs * 2 ^ (min p q) := by rw [h, hv, Int.natAbs_mul, Int.natAbs_natCast]
  congr 1
  rw [write_of _ _ r _ hr hm]
  congr 1
  by_cases e : T = 0
  · rw [if_pos e, if_pos (hz.2 e)]
  · rw [if_neg e, if_neg (fun x => e (hz.1 x))]
    simp only [hl]

/-- two finite ones by each other, if the format has what they come to -/
theorem mul_exact (a b r : Nat) (ha : RW a < 9218868437227405312) (hb : RW b < 9218868437227405312) (hr : r < 9218868437227405312) (u : Nat) (hu : u = 1074)
    (hp : 2 ^ u ≤ magN (RW a) ∨ magN (RW a) = 0) (hq : 2 ^ u ≤ magN (RW b) ∨ magN (RW b) = 0) (h : magN r * 2 ^ u = magN (RW a) * magN (RW b)) :
    Ieee.double.mul a b = some (Ieee.double.word (SG a ^^ SG b) r) := by
  obtain ⟨m, p, e1, v1, l1⟩ := read_fin a ha
  obtain ⟨n, q, e2, v2, l2⟩ := read_fin b hb
  unfold Format.mul
  rw [e1, e2]
  simp only [Datum.product, Option.map_some]
  congr 1
  show Ieee.double.nearest _ _ _ = _
  rcases Nat.eq_zero_or_pos (m * n) with h0 | h0
  · have hr0 : r = 0 := by
      rcases Nat.eq_zero_or_pos r with h3 | h3
      · exact h3
      · have h4 := magN_pos h3
        have h5 : magN (RW a) * magN (RW b) = 0 := by
          rw [v1, v2, Nat.mul_mul_mul_comm, h0, Nat.zero_mul]
        rw [h5] at h
        have := Nat.mul_pos h4 (Nat.two_pow_pos u)
        omega
    rw [h0, hr0]; unfold Format.nearest; rw [if_pos rfl]
  · have hm : 0 < m := Nat.pos_of_mul_pos_right h0
    have hn : 0 < n := Nat.pos_of_mul_pos_left h0
    have big : ∀ x k : Nat, 0 < x → x < 9007199254740992 → 2 ^ u ≤ x * 2 ^ k → u ≤ k + 53 := by
      intro x k hx hx2 hle
      rcases Nat.lt_or_ge (k + 53) u with hlt | hge
      · exfalso
        have e53 : (2 : Nat) ^ 53 = 9007199254740992 := by decide
        have : x * 2 ^ k < 2 ^ 53 * 2 ^ k := Nat.mul_lt_mul_of_pos_right (by rw [e53]; exact hx2) (Nat.two_pow_pos k)
        have h6 : 2 ^ (53 + k) ≤ 2 ^ u := Nat.pow_le_pow_right (by decide) (by omega)
        rw [Nat.pow_add] at h6
        omega
      · exact hge
    have z1 : 0 < magN (RW a) := by rw [v1]; exact Nat.mul_pos hm (Nat.two_pow_pos p)
    have z2 : 0 < magN (RW b) := by rw [v2]; exact Nat.mul_pos hn (Nat.two_pow_pos q)
    have bp := big m p hm l1 (by rw [← v1]; omega)
    have bq := big n q hn l2 (by rw [← v2]; omega)
    obtain ⟨k, hk⟩ : ∃ k : Nat, p + q = u + k := ⟨p + q - u, by omega⟩
    have e3 : (-1074 + (p : Int) + (-1074 + (q : Int))) = -1074 + (k : Int) := by omega
    rw [e3]
    refine nearest_exact _ (m * n) r k h0 hr ?_
    have h7 : magN r * 2 ^ u = m * n * 2 ^ k * 2 ^ u := by
      rw [h, v1, v2, Nat.mul_mul_mul_comm, ← Nat.pow_add, hk, Nat.pow_add, Nat.mul_comm (2 ^ u), ← Nat.mul_assoc]
    exact Nat.eq_of_mul_eq_mul_right (Nat.two_pow_pos u) h7

end Go.Proofs.Ytgcokjobnpjhhaa
