/- What the array of a type is, without a program. -/
import Derived.Test.YtdkpmpkoelckoaaDoorTyR
namespace Go.Proofs.YtdkpmpkoelckoaaDoor
set_option linter.unusedVariables false
set_option linter.unusedSimpArgs false

theorem blank1 : blankS 1 = ⟨#[32]⟩ := rfl
theorem snoc_size (M : ByteArray) : (M ++ ⟨#[32]⟩).size = M.size + 1 := by rw [ByteArray.size_append]; rfl
theorem snoc_in (M : ByteArray) (i : Nat) (h : i < M.size) : byS (M ++ ⟨#[32]⟩) i = byS M i := by rw [byS_app, if_pos h]
theorem snoc_last (M : ByteArray) : byS (M ++ ⟨#[32]⟩) M.size = 32 := by rw [byS_app, if_neg (by omega), Nat.sub_self]; rfl
theorem snoc_back (M : ByteArray) (n : Nat) (h : M.size = n) : (M ++ ⟨#[32]⟩).extract 0 n = M := by
  apply ext_by
  · rw [ByteArray.size_extract, snoc_size]; omega
  · intro k hk
    rw [ByteArray.size_extract, snoc_size] at hk
    rw [byS_extract _ 0 n k (by rw [snoc_size]; omega) (by omega), Nat.zero_add, snoc_in _ _ (by omega)]

theorem array_right {B : Int} {N : ByteArray} {d : Nat} {M : ByteArray} (h : rightB B N d M = true) (h6 : ¬ B = 6) (ho : byS M d ≠ 111) (hd : d < 4) : rightB B N ((d : Int) + 1) (M ++ ⟨#[32]⟩) = true := by
  obtain ⟨d', hd', hd4, hm⟩ := right_bounds h
  obtain rfl : d = d' := by omega
  unfold rightB marksB innerM lastM at h ⊢
  simp only [Bool.and_eq_true, Bool.or_eq_true, decide_eq_true_iff, Int.toNat_natCast] at h
  obtain ⟨⟨⟨h1, h2⟩, h3⟩, ⟨⟨h4, h5⟩, h7⟩, h8⟩ := h
  have e : ((d : Int) + 1).toNat = d + 1 := by omega
  simp only [Bool.and_eq_true, Bool.or_eq_true, decide_eq_true_iff, e]
  refine ⟨⟨⟨h1, h2⟩, by omega, by omega, fun h => absurd h h6⟩, ⟨⟨by rw [snoc_size]; omega, ?_⟩, ?_⟩, ?_⟩
  · rw [snoc_in _ _ (by omega)]; exact h5
  · intro i hi
    rw [snoc_in _ _ (by omega)]
    by_cases hid : i = d
    · subst hid; omega
    · exact h7 i (by omega)
  · rw [show d + 1 = M.size by omega, snoc_last]; omega
theorem array_out {B : Int} {N : ByteArray} {d : Nat} {M : ByteArray} (h : rightB B N d M = true) (h6 : ¬ B = 6) (ho : byS M d ≠ 111) (hd : d < 4) : outS B N ((d : Int) + 1) (M ++ ⟨#[32]⟩) = 32 := by
  obtain ⟨d', hd', hd4, hm⟩ := right_bounds h
  obtain rfl : d = d' := by omega
  rw [out_right (array_right h h6 ho hd), show ((d : Int) + 1).toNat = M.size by omega, snoc_last]
theorem arrayV_yes {B : Int} {N : ByteArray} {d : Nat} {M : ByteArray} (h : rightB B N d M = true) (h6 : ¬ B = 6) (ho : byS M d ≠ 111) (hd : d < 4) :
    arrayV B N d M = .tuple #[.agg #[.int .i64 B, .string N, .int .i64 ((d : Int) + 1), .string (M ++ ⟨#[32]⟩)], .int .i64 0] := by
  unfold arrayV
  rw [blank1, array_right h h6 ho hd]; rfl
theorem arrayV_long {B : Int} {N : ByteArray} {M : ByteArray} : arrayV B N 4 M = .tuple #[.agg #[.int .i64 0, .string ⟨#[]⟩, .int .i64 0, .string ⟨#[]⟩], .int .i64 2] := by
  unfold arrayV
  rw [rightB_no3 (by omega)]; rfl
end Go.Proofs.YtdkpmpkoelckoaaDoor
