/- The document's own Kept. Written by gen_lexk.py. -/
import Derived.Test.YtgcokjobnpjhhaaLexJ
namespace Go.Proofs.Ytgcokjobnpjhhaa
open Go Go.RowKit
set_option linter.unusedVariables false

def keptTo (x : ByteArray) (k : Nat) : Prop := ∀ j (h : j < keptL.length), j < k → (keptL[j] == x.toList) = false
theorem keptTo_zero (x : ByteArray) : keptTo x 0 := fun j h hj => by omega
theorem keptTo_succ {x : ByteArray} {k : Nat} (hk : k < keptL.length) (h : keptTo x k) (h1 : (keptL[k] == x.toList) = false) : keptTo x (k + 1) := fun j hj hjk => by
  by_cases e : j = k
  · subst e; exact h1
  · exact h j hj (by omega)
theorem keptTo_all {x : ByteArray} (h : keptTo x 32) : keptS x = false := kept_no x fun k hk => by
  have h1 := h k hk hk
  rw [Bool.eq_false_iff] at h1 ⊢
  intro h2
  exact h1 (by rw [beq_iff_eq] at h2 ⊢; exact h2.symm)
theorem kept_flip (x : ByteArray) (k : Nat) (hk : k < keptL.length) (h : (keptL[k] == x.toList) = true) : keptS x = true := kept_yes x k hk (by rw [beq_iff_eq] at h ⊢; exact h.symm)
set_option maxRecDepth 100000 in
set_option maxHeartbeats 16000000 in
theorem rkept_any (x : ByteArray) (w : World) :
    Calls Try.prog 16 #[.string x] w fun e w' => e = .returned (.bool (keptS x)) ∧ Below w.heap.size w w' := by
  go_enter Try.func16, Try.ntmps16
  go_wp2_with fail
  go_loop [4] (fun t => ∃ k : Nat, k ≤ 32 ∧ t = .int .i64 k ∧ keptTo x k) (fun t => 32 - (intOf t).toNat)
  case atStart => exact ⟨0, by omega, rfl, keptTo_zero x⟩
  case round =>
    obtain ⟨k, hk, rfl, hto⟩ := hrel
    have HT := Lib.hid hto
    clear hto
    have : k = 0 ∨ k = 1 ∨ k = 2 ∨ k = 3 ∨ k = 4 ∨ k = 5 ∨ k = 6 ∨ k = 7 ∨ k = 8 ∨ k = 9 ∨ k = 10 ∨ k = 11 ∨ k = 12 ∨ k = 13 ∨ k = 14 ∨ k = 15 ∨ k = 16 ∨ k = 17 ∨ k = 18 ∨ k = 19 ∨ k = 20 ∨ k = 21 ∨ k = 22 ∨ k = 23 ∨ k = 24 ∨ k = 25 ∨ k = 26 ∨ k = 27 ∨ k = 28 ∨ k = 29 ∨ k = 30 ∨ k = 31 ∨ k = 32 := by omega
    rcases this with rfl | rfl | rfl | rfl | rfl | rfl | rfl | rfl | rfl | rfl | rfl | rfl | rfl | rfl | rfl | rfl | rfl | rfl | rfl | rfl | rfl | rfl | rfl | rfl | rfl | rfl | rfl | rfl | rfl | rfl | rfl | rfl | rfl
    · go_wp2_with fail
      · go_ret
        exact ⟨ret_bo (kept_flip x 0 (by decide) (show ([99, 108, 97, 115, 115] == x.toList) = true by assumption)).symm, by repeat (first | exact Below.refl _ _ | apply Below.setCell _ (by first | omega | (simp <;> omega)) | apply Below.alloc _ (by first | omega | (simp <;> omega)))⟩
      · exact ⟨⟨1, by omega, by go_num, keptTo_succ (k := 0) (by decide) HT.out (show ([99, 108, 97, 115, 115] == x.toList) = false by assumption)⟩, by simp [intOf]⟩
    · go_wp2_with fail
      · go_ret
        exact ⟨ret_bo (kept_flip x 1 (by decide) (show ([101, 120, 116, 101, 110, 100, 115] == x.toList) = true by assumption)).symm, by repeat (first | exact Below.refl _ _ | apply Below.setCell _ (by first | omega | (simp <;> omega)) | apply Below.alloc _ (by first | omega | (simp <;> omega)))⟩
      · exact ⟨⟨2, by omega, by go_num, keptTo_succ (k := 1) (by decide) HT.out (show ([101, 120, 116, 101, 110, 100, 115] == x.toList) = false by assumption)⟩, by simp [intOf]⟩
    · go_wp2_with fail
      · go_ret
        exact ⟨ret_bo (kept_flip x 2 (by decide) (show ([105, 110, 105, 116] == x.toList) = true by assumption)).symm, by repeat (first | exact Below.refl _ _ | apply Below.setCell _ (by first | omega | (simp <;> omega)) | apply Below.alloc _ (by first | omega | (simp <;> omega)))⟩
      · exact ⟨⟨3, by omega, by go_num, keptTo_succ (k := 2) (by decide) HT.out (show ([105, 110, 105, 116] == x.toList) = false by assumption)⟩, by simp [intOf]⟩
    · go_wp2_with fail
      · go_ret
        exact ⟨ret_bo (kept_flip x 3 (by decide) (show ([105, 110, 116] == x.toList) = true by assumption)).symm, by repeat (first | exact Below.refl _ _ | apply Below.setCell _ (by first | omega | (simp <;> omega)) | apply Below.alloc _ (by first | omega | (simp <;> omega)))⟩
      · exact ⟨⟨4, by omega, by go_num, keptTo_succ (k := 3) (by decide) HT.out (show ([105, 110, 116] == x.toList) = false by assumption)⟩, by simp [intOf]⟩
    · go_wp2_with fail
      · go_ret
        exact ⟨ret_bo (kept_flip x 4 (by decide) (show ([98, 111, 111, 108] == x.toList) = true by assumption)).symm, by repeat (first | exact Below.refl _ _ | apply Below.setCell _ (by first | omega | (simp <;> omega)) | apply Below.alloc _ (by first | omega | (simp <;> omega)))⟩
      · exact ⟨⟨5, by omega, by go_num, keptTo_succ (k := 4) (by decide) HT.out (show ([98, 111, 111, 108] == x.toList) = false by assumption)⟩, by simp [intOf]⟩
    · go_wp2_with fail
      · go_ret
        exact ⟨ret_bo (kept_flip x 5 (by decide) (show ([100, 111, 117, 98, 108, 101] == x.toList) = true by assumption)).symm, by repeat (first | exact Below.refl _ _ | apply Below.setCell _ (by first | omega | (simp <;> omega)) | apply Below.alloc _ (by first | omega | (simp <;> omega)))⟩
      · exact ⟨⟨6, by omega, by go_num, keptTo_succ (k := 5) (by decide) HT.out (show ([100, 111, 117, 98, 108, 101] == x.toList) = false by assumption)⟩, by simp [intOf]⟩
    · go_wp2_with fail
      · go_ret
        exact ⟨ret_bo (kept_flip x 6 (by decide) (show ([115, 116, 114] == x.toList) = true by assumption)).symm, by repeat (first | exact Below.refl _ _ | apply Below.setCell _ (by first | omega | (simp <;> omega)) | apply Below.alloc _ (by first | omega | (simp <;> omega)))⟩
      · exact ⟨⟨7, by omega, by go_num, keptTo_succ (k := 6) (by decide) HT.out (show ([115, 116, 114] == x.toList) = false by assumption)⟩, by simp [intOf]⟩
    · go_wp2_with fail
      · go_ret
        exact ⟨ret_bo (kept_flip x 7 (by decide) (show ([118, 111, 105, 100] == x.toList) = true by assumption)).symm, by repeat (first | exact Below.refl _ _ | apply Below.setCell _ (by first | omega | (simp <;> omega)) | apply Below.alloc _ (by first | omega | (simp <;> omega)))⟩
      · exact ⟨⟨8, by omega, by go_num, keptTo_succ (k := 7) (by decide) HT.out (show ([118, 111, 105, 100] == x.toList) = false by assumption)⟩, by simp [intOf]⟩
    · go_wp2_with fail
      · go_ret
        exact ⟨ret_bo (kept_flip x 8 (by decide) (show ([79, 112, 116, 105, 111, 110] == x.toList) = true by assumption)).symm, by repeat (first | exact Below.refl _ _ | apply Below.setCell _ (by first | omega | (simp <;> omega)) | apply Below.alloc _ (by first | omega | (simp <;> omega)))⟩
      · exact ⟨⟨9, by omega, by go_num, keptTo_succ (k := 8) (by decide) HT.out (show ([79, 112, 116, 105, 111, 110] == x.toList) = false by assumption)⟩, by simp [intOf]⟩
    · go_wp2_with fail
      · go_ret
        exact ⟨ret_bo (kept_flip x 9 (by decide) (show ([105, 102] == x.toList) = true by assumption)).symm, by repeat (first | exact Below.refl _ _ | apply Below.setCell _ (by first | omega | (simp <;> omega)) | apply Below.alloc _ (by first | omega | (simp <;> omega)))⟩
      · exact ⟨⟨10, by omega, by go_num, keptTo_succ (k := 9) (by decide) HT.out (show ([105, 102] == x.toList) = false by assumption)⟩, by simp [intOf]⟩
    · go_wp2_with fail
      · go_ret
        exact ⟨ret_bo (kept_flip x 10 (by decide) (show ([101, 108, 115, 101] == x.toList) = true by assumption)).symm, by repeat (first | exact Below.refl _ _ | apply Below.setCell _ (by first | omega | (simp <;> omega)) | apply Below.alloc _ (by first | omega | (simp <;> omega)))⟩
      · exact ⟨⟨11, by omega, by go_num, keptTo_succ (k := 10) (by decide) HT.out (show ([101, 108, 115, 101] == x.toList) = false by assumption)⟩, by simp [intOf]⟩
    · go_wp2_with fail
      · go_ret
        exact ⟨ret_bo (kept_flip x 11 (by decide) (show ([119, 104, 105, 108, 101] == x.toList) = true by assumption)).symm, by repeat (first | exact Below.refl _ _ | apply Below.setCell _ (by first | omega | (simp <;> omega)) | apply Below.alloc _ (by first | omega | (simp <;> omega)))⟩
      · exact ⟨⟨12, by omega, by go_num, keptTo_succ (k := 11) (by decide) HT.out (show ([119, 104, 105, 108, 101] == x.toList) = false by assumption)⟩, by simp [intOf]⟩
    · go_wp2_with fail
      · go_ret
        exact ⟨ret_bo (kept_flip x 12 (by decide) (show ([98, 114, 101, 97, 107] == x.toList) = true by assumption)).symm, by repeat (first | exact Below.refl _ _ | apply Below.setCell _ (by first | omega | (simp <;> omega)) | apply Below.alloc _ (by first | omega | (simp <;> omega)))⟩
      · exact ⟨⟨13, by omega, by go_num, keptTo_succ (k := 12) (by decide) HT.out (show ([98, 114, 101, 97, 107] == x.toList) = false by assumption)⟩, by simp [intOf]⟩
    · go_wp2_with fail
      · go_ret
        exact ⟨ret_bo (kept_flip x 13 (by decide) (show ([99, 111, 110, 116, 105, 110, 117, 101] == x.toList) = true by assumption)).symm, by repeat (first | exact Below.refl _ _ | apply Below.setCell _ (by first | omega | (simp <;> omega)) | apply Below.alloc _ (by first | omega | (simp <;> omega)))⟩
      · exact ⟨⟨14, by omega, by go_num, keptTo_succ (k := 13) (by decide) HT.out (show ([99, 111, 110, 116, 105, 110, 117, 101] == x.toList) = false by assumption)⟩, by simp [intOf]⟩
    · go_wp2_with fail
      · go_ret
        exact ⟨ret_bo (kept_flip x 14 (by decide) (show ([114, 101, 116, 117, 114, 110] == x.toList) = true by assumption)).symm, by repeat (first | exact Below.refl _ _ | apply Below.setCell _ (by first | omega | (simp <;> omega)) | apply Below.alloc _ (by first | omega | (simp <;> omega)))⟩
      · exact ⟨⟨15, by omega, by go_num, keptTo_succ (k := 14) (by decide) HT.out (show ([114, 101, 116, 117, 114, 110] == x.toList) = false by assumption)⟩, by simp [intOf]⟩
    · go_wp2_with fail
      · go_ret
        exact ⟨ret_bo (kept_flip x 15 (by decide) (show ([112, 114, 105, 110, 116] == x.toList) = true by assumption)).symm, by repeat (first | exact Below.refl _ _ | apply Below.setCell _ (by first | omega | (simp <;> omega)) | apply Below.alloc _ (by first | omega | (simp <;> omega)))⟩
      · exact ⟨⟨16, by omega, by go_num, keptTo_succ (k := 15) (by decide) HT.out (show ([112, 114, 105, 110, 116] == x.toList) = false by assumption)⟩, by simp [intOf]⟩
    · go_wp2_with fail
      · go_ret
        exact ⟨ret_bo (kept_flip x 16 (by decide) (show ([115, 117, 112, 101, 114] == x.toList) = true by assumption)).symm, by repeat (first | exact Below.refl _ _ | apply Below.setCell _ (by first | omega | (simp <;> omega)) | apply Below.alloc _ (by first | omega | (simp <;> omega)))⟩
      · exact ⟨⟨17, by omega, by go_num, keptTo_succ (k := 16) (by decide) HT.out (show ([115, 117, 112, 101, 114] == x.toList) = false by assumption)⟩, by simp [intOf]⟩
    · go_wp2_with fail
      · go_ret
        exact ⟨ret_bo (kept_flip x 17 (by decide) (show ([116, 104, 105, 115] == x.toList) = true by assumption)).symm, by repeat (first | exact Below.refl _ _ | apply Below.setCell _ (by first | omega | (simp <;> omega)) | apply Below.alloc _ (by first | omega | (simp <;> omega)))⟩
      · exact ⟨⟨18, by omega, by go_num, keptTo_succ (k := 17) (by decide) HT.out (show ([116, 104, 105, 115] == x.toList) = false by assumption)⟩, by simp [intOf]⟩
    · go_wp2_with fail
      · go_ret
        exact ⟨ret_bo (kept_flip x 18 (by decide) (show ([110, 117, 108, 108] == x.toList) = true by assumption)).symm, by repeat (first | exact Below.refl _ _ | apply Below.setCell _ (by first | omega | (simp <;> omega)) | apply Below.alloc _ (by first | omega | (simp <;> omega)))⟩
      · exact ⟨⟨19, by omega, by go_num, keptTo_succ (k := 18) (by decide) HT.out (show ([110, 117, 108, 108] == x.toList) = false by assumption)⟩, by simp [intOf]⟩
    · go_wp2_with fail
      · go_ret
        exact ⟨ret_bo (kept_flip x 19 (by decide) (show ([110, 111, 110, 101] == x.toList) = true by assumption)).symm, by repeat (first | exact Below.refl _ _ | apply Below.setCell _ (by first | omega | (simp <;> omega)) | apply Below.alloc _ (by first | omega | (simp <;> omega)))⟩
      · exact ⟨⟨20, by omega, by go_num, keptTo_succ (k := 19) (by decide) HT.out (show ([110, 111, 110, 101] == x.toList) = false by assumption)⟩, by simp [intOf]⟩
    · go_wp2_with fail
      · go_ret
        exact ⟨ret_bo (kept_flip x 20 (by decide) (show ([115, 111, 109, 101] == x.toList) = true by assumption)).symm, by repeat (first | exact Below.refl _ _ | apply Below.setCell _ (by first | omega | (simp <;> omega)) | apply Below.alloc _ (by first | omega | (simp <;> omega)))⟩
      · exact ⟨⟨21, by omega, by go_num, keptTo_succ (k := 20) (by decide) HT.out (show ([115, 111, 109, 101] == x.toList) = false by assumption)⟩, by simp [intOf]⟩
    · go_wp2_with fail
      · go_ret
        exact ⟨ret_bo (kept_flip x 21 (by decide) (show ([105, 115] == x.toList) = true by assumption)).symm, by repeat (first | exact Below.refl _ _ | apply Below.setCell _ (by first | omega | (simp <;> omega)) | apply Below.alloc _ (by first | omega | (simp <;> omega)))⟩
      · exact ⟨⟨22, by omega, by go_num, keptTo_succ (k := 21) (by decide) HT.out (show ([105, 115] == x.toList) = false by assumption)⟩, by simp [intOf]⟩
    · go_wp2_with fail
      · go_ret
        exact ⟨ret_bo (kept_flip x 22 (by decide) (show ([116, 114, 117, 101] == x.toList) = true by assumption)).symm, by repeat (first | exact Below.refl _ _ | apply Below.setCell _ (by first | omega | (simp <;> omega)) | apply Below.alloc _ (by first | omega | (simp <;> omega)))⟩
      · exact ⟨⟨23, by omega, by go_num, keptTo_succ (k := 22) (by decide) HT.out (show ([116, 114, 117, 101] == x.toList) = false by assumption)⟩, by simp [intOf]⟩
    · go_wp2_with fail
      · go_ret
        exact ⟨ret_bo (kept_flip x 23 (by decide) (show ([102, 97, 108, 115, 101] == x.toList) = true by assumption)).symm, by repeat (first | exact Below.refl _ _ | apply Below.setCell _ (by first | omega | (simp <;> omega)) | apply Below.alloc _ (by first | omega | (simp <;> omega)))⟩
      · exact ⟨⟨24, by omega, by go_num, keptTo_succ (k := 23) (by decide) HT.out (show ([102, 97, 108, 115, 101] == x.toList) = false by assumption)⟩, by simp [intOf]⟩
    · go_wp2_with fail
      · go_ret
        exact ⟨ret_bo (kept_flip x 24 (by decide) (show ([110, 101, 119] == x.toList) = true by assumption)).symm, by repeat (first | exact Below.refl _ _ | apply Below.setCell _ (by first | omega | (simp <;> omega)) | apply Below.alloc _ (by first | omega | (simp <;> omega)))⟩
      · exact ⟨⟨25, by omega, by go_num, keptTo_succ (k := 24) (by decide) HT.out (show ([110, 101, 119] == x.toList) = false by assumption)⟩, by simp [intOf]⟩
    · go_wp2_with fail
      · go_ret
        exact ⟨ret_bo (kept_flip x 25 (by decide) (show ([99, 97, 115, 116] == x.toList) = true by assumption)).symm, by repeat (first | exact Below.refl _ _ | apply Below.setCell _ (by first | omega | (simp <;> omega)) | apply Below.alloc _ (by first | omega | (simp <;> omega)))⟩
      · exact ⟨⟨26, by omega, by go_num, keptTo_succ (k := 25) (by decide) HT.out (show ([99, 97, 115, 116] == x.toList) = false by assumption)⟩, by simp [intOf]⟩
    · go_wp2_with fail
      · go_ret
        exact ⟨ret_bo (kept_flip x 26 (by decide) (show ([116, 111, 105, 110, 116] == x.toList) = true by assumption)).symm, by repeat (first | exact Below.refl _ _ | apply Below.setCell _ (by first | omega | (simp <;> omega)) | apply Below.alloc _ (by first | omega | (simp <;> omega)))⟩
      · exact ⟨⟨27, by omega, by go_num, keptTo_succ (k := 26) (by decide) HT.out (show ([116, 111, 105, 110, 116] == x.toList) = false by assumption)⟩, by simp [intOf]⟩
    · go_wp2_with fail
      · go_ret
        exact ⟨ret_bo (kept_flip x 27 (by decide) (show ([116, 111, 100, 111, 117, 98, 108, 101] == x.toList) = true by assumption)).symm, by repeat (first | exact Below.refl _ _ | apply Below.setCell _ (by first | omega | (simp <;> omega)) | apply Below.alloc _ (by first | omega | (simp <;> omega)))⟩
      · exact ⟨⟨28, by omega, by go_num, keptTo_succ (k := 27) (by decide) HT.out (show ([116, 111, 100, 111, 117, 98, 108, 101] == x.toList) = false by assumption)⟩, by simp [intOf]⟩
    · go_wp2_with fail
      · go_ret
        exact ⟨ret_bo (kept_flip x 28 (by decide) (show ([105, 110, 112, 117, 116] == x.toList) = true by assumption)).symm, by repeat (first | exact Below.refl _ _ | apply Below.setCell _ (by first | omega | (simp <;> omega)) | apply Below.alloc _ (by first | omega | (simp <;> omega)))⟩
      · exact ⟨⟨29, by omega, by go_num, keptTo_succ (k := 28) (by decide) HT.out (show ([105, 110, 112, 117, 116] == x.toList) = false by assumption)⟩, by simp [intOf]⟩
    · go_wp2_with fail
      · go_ret
        exact ⟨ret_bo (kept_flip x 29 (by decide) (show ([97, 115, 107] == x.toList) = true by assumption)).symm, by repeat (first | exact Below.refl _ _ | apply Below.setCell _ (by first | omega | (simp <;> omega)) | apply Below.alloc _ (by first | omega | (simp <;> omega)))⟩
      · exact ⟨⟨30, by omega, by go_num, keptTo_succ (k := 29) (by decide) HT.out (show ([97, 115, 107] == x.toList) = false by assumption)⟩, by simp [intOf]⟩
    · go_wp2_with fail
      · go_ret
        exact ⟨ret_bo (kept_flip x 30 (by decide) (show ([108, 101, 110, 103, 116, 104] == x.toList) = true by assumption)).symm, by repeat (first | exact Below.refl _ _ | apply Below.setCell _ (by first | omega | (simp <;> omega)) | apply Below.alloc _ (by first | omega | (simp <;> omega)))⟩
      · exact ⟨⟨31, by omega, by go_num, keptTo_succ (k := 30) (by decide) HT.out (show ([108, 101, 110, 103, 116, 104] == x.toList) = false by assumption)⟩, by simp [intOf]⟩
    · go_wp2_with fail
      · go_ret
        exact ⟨ret_bo (kept_flip x 31 (by decide) (show ([118, 97, 108] == x.toList) = true by assumption)).symm, by repeat (first | exact Below.refl _ _ | apply Below.setCell _ (by first | omega | (simp <;> omega)) | apply Below.alloc _ (by first | omega | (simp <;> omega)))⟩
      · exact ⟨⟨32, by omega, by go_num, keptTo_succ (k := 31) (by decide) HT.out (show ([118, 97, 108] == x.toList) = false by assumption)⟩, by simp [intOf]⟩
    · have E := Lib.hid (keptTo_all HT.out)
      go_wp2_with fail
      go_ret
      exact ⟨ret_bo E.out.symm, by repeat (first | exact Below.refl _ _ | apply Below.setCell _ (by first | omega | (simp <;> omega)) | apply Below.alloc _ (by first | omega | (simp <;> omega)))⟩

end Go.Proofs.Ytgcokjobnpjhhaa
