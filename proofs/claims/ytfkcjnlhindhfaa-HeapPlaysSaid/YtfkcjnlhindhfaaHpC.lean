/- Contract of the statements' own empty value. -/
import Derived.Test.YtfkcjnlhindhfaaHpB
namespace Go.Proofs.Ytfkcjnlhindhfaa
open Go Go.RowKit
set_option linter.unusedVariables false
set_option linter.unusedSimpArgs false

theorem tl_nil (s : ByteArray) : s.toList = [] ↔ s.size = 0 := by
  rw [ByteArray.toList_eq]
  constructor
  · intro h
    have : s.data.toList.length = 0 := by rw [h]; rfl
    rw [Array.length_toList] at this
    exact this
  · intro h
    apply List.eq_nil_of_length_eq_zero
    rw [Array.length_toList]
    exact h
theorem tl_ne (s : ByteArray) (h : s.size ≠ 0) : ¬ s.toList = [] ∧ (s.toList == []) = false := by
  have h1 : ¬ s.toList = [] := fun e => h ((tl_nil s).1 e)
  exact ⟨h1, by simpa using h1⟩
theorem empty_of (s : ByteArray) (h : s.size = 0) : s = ⟨#[]⟩ := by
  apply ByteArray.ext
  apply Array.eq_empty_of_size_eq_zero
  exact h
theorem u8c (x : UInt8) (q : (x.toNat : Int) = 111) : x = 111 := by
  apply UInt8.toNat_inj.1
  show x.toNat = 111
  omega
theorem lastO_nil : lastO ⟨#[]⟩ = false := by decide
theorem lastO_at (M : ByteArray) (m : Nat) (h : M.size = m + 1) : lastO M = (((M[m]'(by omega)).toNat : Int) == 111) := by
  have hl : M.data.toList.length = m + 1 := by rw [Array.length_toList]; exact h
  have e := Lib.hasSuffix_of_drop M.data.toList [111]
  unfold lastO
  rw [← e, hl]
  simp only [List.length_cons, List.length_nil, Nat.zero_add, Nat.add_sub_cancel]
  rw [List.drop_eq_getElem_cons (by omega), List.drop_eq_nil_of_le (by omega)]
  have h2 : M.data.toList[m]'(by omega) = M[m]'(by omega) := rfl
  rw [h2]
  generalize M[m]'(by omega) = x
  by_cases hx : x = 111
  · subst hx; simp
  · have : ¬ (x.toNat : Int) = 111 := fun q => hx (u8c x q)
    have h3 : (x == 111) = false := by simpa using hx
    have h4 : ((x.toNat : Int) == 111) = false := by simpa using this
    rw [h4]
    simpa using h3

set_option maxHeartbeats 4000000 in
theorem lempty_some (B : Int) (N : ByteArray) (D : Int) (M : ByteArray) (w : World) (m : Nat) (h : M.size = m + 1) (hm : m ≤ 9223372036854775806) (ho : lastO M = true) :
    Calls Try.prog 7 #[.agg #[.int .i64 B, .string N, .int .i64 D, .string M]] w fun e w' => e = .returned (.agg #[.int .i64 (emptyV B D M).1, .int .i64 (emptyV B D M).2.1, .string (emptyV B D M).2.2]) ∧ Below w.heap.size w w' := by
  have hlt : m < M.size := by omega
  have hc : ((M[m]'hlt).toNat : Int) = 111 := by have := lastO_at M m h; rw [ho] at this; simpa using this.symm
  obtain ⟨g1, g2⟩ := tl_ne M (by omega)
  have E := Lib.hid (show emptyV B D M = (8, 0, ⟨#[]⟩) by unfold emptyV; rw [if_pos ho])
  have hs : ((M.size : Int) - 1) = (m : Int) := by omega
  clear ho
  go_enter Try.func7, Try.ntmps7
  go_wp2_with fail
  refine bodyPost_ret (v := .agg #[.int .i64 8, .int .i64 0, .string ⟨#[]⟩]) (by simp [results, Try.results7, go_sem]) rfl ?_
  exact ⟨by rw [E.out], by repeat (first | exact Below.refl _ _ | apply Below.setCell _ (by first | omega | (simp <;> omega)) | apply Below.alloc _ (by first | omega | (simp <;> omega)))⟩

set_option maxHeartbeats 8000000 in
theorem lempty_no (B : Int) (N : ByteArray) (D : Int) (M : ByteArray) (w : World) (m : Nat) (h : M.size = m + 1) (hm : m ≤ 9223372036854775806) (ho : ¬ lastO M = true) :
    Calls Try.prog 7 #[.agg #[.int .i64 B, .string N, .int .i64 D, .string M]] w fun e w' => e = .returned (.agg #[.int .i64 (emptyV B D M).1, .int .i64 (emptyV B D M).2.1, .string (emptyV B D M).2.2]) ∧ Below w.heap.size w w' := by
  have hlt : m < M.size := by omega
  have hc : (((M[m]'hlt).toNat : Int) == 111) = false := by have := lastO_at M m h; rw [← this]; simpa using ho
  obtain ⟨g1, g2⟩ := tl_ne M (by omega)
  have hs : ((M.size : Int) - 1) = (m : Int) := by omega
  by_cases h7 : 0 < D ∨ B = 5 ∨ B = 7 ∨ B = 8
  · have E := Lib.hid (show emptyV B D M = (7, 0, ⟨#[]⟩) by unfold emptyV; rw [if_neg ho, if_pos h7])
    clear ho
    by_cases hd : 0 < D
    · clear h7
      go_enter Try.func7, Try.ntmps7
      go_wp2_with fail
      refine bodyPost_ret (v := .agg #[.int .i64 7, .int .i64 0, .string ⟨#[]⟩]) (by simp [results, Try.results7, go_sem]) rfl ?_
      exact ⟨by rw [E.out], by repeat (first | exact Below.refl _ _ | apply Below.setCell _ (by first | omega | (simp <;> omega)) | apply Below.alloc _ (by first | omega | (simp <;> omega)))⟩
    · have h5 : B = 5 ∨ B = 7 ∨ B = 8 := by omega
      clear h7
      rcases h5 with rfl | rfl | rfl
      all_goals go_enter Try.func7, Try.ntmps7
      all_goals go_wp2_with fail
      all_goals refine bodyPost_ret (v := .agg #[.int .i64 7, .int .i64 0, .string ⟨#[]⟩]) (by simp [results, Try.results7, go_sem]) rfl ?_
      all_goals exact ⟨by rw [E.out], by repeat (first | exact Below.refl _ _ | apply Below.setCell _ (by first | omega | (simp <;> omega)) | apply Below.alloc _ (by first | omega | (simp <;> omega)))⟩
  · have hd : ¬ 0 < D := by omega
    have b5 : ¬ B = 5 := by omega
    have b7 : ¬ B = 7 := by omega
    have b8 : ¬ B = 8 := by omega
    by_cases h0 : B = 0 ∨ B = 6
    · have E := Lib.hid (show emptyV B D M = (0, 0, ⟨#[]⟩) by unfold emptyV; rw [if_neg ho, if_neg h7, if_pos h0])
      clear ho h7 b5 b7 b8
      rcases h0 with rfl | rfl
      all_goals go_enter Try.func7, Try.ntmps7
      all_goals go_wp2_with fail
      all_goals refine bodyPost_ret (v := .agg #[.int .i64 0, .int .i64 0, .string ⟨#[]⟩]) (by simp [results, Try.results7, go_sem]) rfl ?_
      all_goals exact ⟨by rw [E.out], by repeat (first | exact Below.refl _ _ | apply Below.setCell _ (by first | omega | (simp <;> omega)) | apply Below.alloc _ (by first | omega | (simp <;> omega)))⟩
    · have E := Lib.hid (show emptyV B D M = (B, 0, ⟨#[]⟩) by unfold emptyV; rw [if_neg ho, if_neg h7, if_neg h0])
      have e5 : (B == 5) = false := by simpa using b5
      have e7 : (B == 7) = false := by simpa using b7
      have e8 : (B == 8) = false := by simpa using b8
      have e0 : (B == 0) = false := by simp; omega
      have e6 : (B == 6) = false := by simp; omega
      clear ho h7 h0
      go_enter Try.func7, Try.ntmps7
      go_wp2_with fail
      refine bodyPost_ret (v := .agg #[.int .i64 B, .int .i64 0, .string ⟨#[]⟩]) (by simp [results, Try.results7, go_sem]) rfl ?_
      exact ⟨by rw [E.out], by repeat (first | exact Below.refl _ _ | apply Below.setCell _ (by first | omega | (simp <;> omega)) | apply Below.alloc _ (by first | omega | (simp <;> omega)))⟩

set_option maxHeartbeats 8000000 in
theorem lempty_nil (B : Int) (N : ByteArray) (D : Int) (w : World) :
    Calls Try.prog 7 #[.agg #[.int .i64 B, .string N, .int .i64 D, .string ⟨#[]⟩]] w fun e w' => e = .returned (.agg #[.int .i64 (emptyV B D ⟨#[]⟩).1, .int .i64 (emptyV B D ⟨#[]⟩).2.1, .string (emptyV B D ⟨#[]⟩).2.2]) ∧ Below w.heap.size w w' := by
  have ho : ¬ lastO ⟨#[]⟩ = true := by rw [lastO_nil]; decide
  by_cases h7 : 0 < D ∨ B = 5 ∨ B = 7 ∨ B = 8
  · have E := Lib.hid (show emptyV B D ⟨#[]⟩ = (7, 0, ⟨#[]⟩) by unfold emptyV; rw [if_neg ho, if_pos h7])
    clear ho
    by_cases hd : 0 < D
    · clear h7
      go_enter Try.func7, Try.ntmps7
      go_wp2_with fail
      refine bodyPost_ret (v := .agg #[.int .i64 7, .int .i64 0, .string ⟨#[]⟩]) (by simp [results, Try.results7, go_sem]) rfl ?_
      exact ⟨by rw [E.out], by repeat (first | exact Below.refl _ _ | apply Below.setCell _ (by first | omega | (simp <;> omega)) | apply Below.alloc _ (by first | omega | (simp <;> omega)))⟩
    · have h5 : B = 5 ∨ B = 7 ∨ B = 8 := by omega
      clear h7
      rcases h5 with rfl | rfl | rfl
      all_goals go_enter Try.func7, Try.ntmps7
      all_goals go_wp2_with fail
      all_goals refine bodyPost_ret (v := .agg #[.int .i64 7, .int .i64 0, .string ⟨#[]⟩]) (by simp [results, Try.results7, go_sem]) rfl ?_
      all_goals exact ⟨by rw [E.out], by repeat (first | exact Below.refl _ _ | apply Below.setCell _ (by first | omega | (simp <;> omega)) | apply Below.alloc _ (by first | omega | (simp <;> omega)))⟩
  · have hd : ¬ 0 < D := by omega
    have b5 : ¬ B = 5 := by omega
    have b7 : ¬ B = 7 := by omega
    have b8 : ¬ B = 8 := by omega
    by_cases h0 : B = 0 ∨ B = 6
    · have E := Lib.hid (show emptyV B D ⟨#[]⟩ = (0, 0, ⟨#[]⟩) by unfold emptyV; rw [if_neg ho, if_neg h7, if_pos h0])
      clear ho h7 b5 b7 b8
      rcases h0 with rfl | rfl
      all_goals go_enter Try.func7, Try.ntmps7
      all_goals go_wp2_with fail
      all_goals refine bodyPost_ret (v := .agg #[.int .i64 0, .int .i64 0, .string ⟨#[]⟩]) (by simp [results, Try.results7, go_sem]) rfl ?_
      all_goals exact ⟨by rw [E.out], by repeat (first | exact Below.refl _ _ | apply Below.setCell _ (by first | omega | (simp <;> omega)) | apply Below.alloc _ (by first | omega | (simp <;> omega)))⟩
    · have E := Lib.hid (show emptyV B D ⟨#[]⟩ = (B, 0, ⟨#[]⟩) by unfold emptyV; rw [if_neg ho, if_neg h7, if_neg h0])
      have e5 : (B == 5) = false := by simpa using b5
      have e7 : (B == 7) = false := by simpa using b7
      have e8 : (B == 8) = false := by simpa using b8
      have e0 : (B == 0) = false := by simp; omega
      have e6 : (B == 6) = false := by simp; omega
      clear ho h7 h0
      go_enter Try.func7, Try.ntmps7
      go_wp2_with fail
      refine bodyPost_ret (v := .agg #[.int .i64 B, .int .i64 0, .string ⟨#[]⟩]) (by simp [results, Try.results7, go_sem]) rfl ?_
      exact ⟨by rw [E.out], by repeat (first | exact Below.refl _ _ | apply Below.setCell _ (by first | omega | (simp <;> omega)) | apply Below.alloc _ (by first | omega | (simp <;> omega)))⟩

theorem lempty_any (B : Int) (N : ByteArray) (D : Int) (M : ByteArray) (w : World) (hM : M.size ≤ 9223372036854775807) :
    Calls Try.prog 7 #[.agg #[.int .i64 B, .string N, .int .i64 D, .string M]] w fun e w' => e = .returned (.agg #[.int .i64 (emptyV B D M).1, .int .i64 (emptyV B D M).2.1, .string (emptyV B D M).2.2]) ∧ Below w.heap.size w w' := by
  by_cases h : M.size = 0
  · obtain rfl := empty_of M h
    exact lempty_nil B N D w
  · by_cases ho : lastO M = true
    · exact lempty_some B N D M w (M.size - 1) (by omega) (by omega) ho
    · exact lempty_no B N D M w (M.size - 1) (by omega) (by omega) ho
end Go.Proofs.Ytfkcjnlhindhfaa
