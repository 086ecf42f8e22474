/- Contracts of the kinds' names, and the walk of the law on them. -/
import Derived.Test.YtljojfeiehkpeaaDoorTrGrow
namespace Go.Proofs.YtljojfeiehkpeaaDoor
open Go Go.RowKit
set_option linter.unusedVariables false
set_option linter.unusedSimpArgs false

def nmS (k : Int) : ByteArray := if 0 < k ∧ k < 46 then nameL.getD k.toNat ⟨#[]⟩ else ⟨#[]⟩
theorem nmS_nat {k : Nat} (h0 : 0 < k) (h1 : k < 46) : nmS (k : Int) = nameL.getD k ⟨#[]⟩ := by unfold nmS; rw [if_pos (by omega)]; rfl
theorem nmS_no {k : Int} (h : ¬ (0 < k ∧ k < 46)) : nmS k = ⟨#[]⟩ := by unfold nmS; rw [if_neg h]

set_option maxRecDepth 100000 in
set_option maxHeartbeats 2000000 in
theorem name_any (k : Int) (w : World) (hT : ShTab w) : Calls Tryd.prog 12 #[.int .i64 k] w fun e w' => e = .returned (.string (nmS k)) ∧ Below w.heap.size w w' := by
  by_cases h : 0 < k ∧ k < 46
  · obtain ⟨n, rfl⟩ : ∃ n : Nat, k = n := ⟨k.toNat, by omega⟩
    have h0 : 0 < n := by omega
    have h1 : n < 46 := by omega
    rw [nmS_nat h0 h1]
    have HK := Lib.hid (fun w => known_yes n w h0 h1)
    obtain ⟨s0, -, -, -, -, sl⟩ := hT.cells h1
    clear hT h
    generalize nameL.getD n ⟨#[]⟩ = X at *
    go_enter Tryd.func12, Tryd.ntmps12
    go_wp2_with (go_at_call 31; refine (HK.out _).mono ?_; rintro e w1 ⟨rfl, rfl⟩)
    all_goals go_ret
    all_goals exact ⟨rfl, by repeat (first | exact Below.refl _ _ | apply Below.setCell _ (by first | omega | (simp <;> omega)) | apply Below.alloc _ (by first | omega | (simp <;> omega)))⟩
  · rw [nmS_no h]
    have HK := Lib.hid (fun w => known_no k w h)
    clear h hT
    go_enter Tryd.func12, Tryd.ntmps12
    go_wp2_with (go_at_call 31; refine (HK.out _).mono ?_; rintro e w1 ⟨rfl, rfl⟩)
    all_goals go_ret
    all_goals exact ⟨rfl, by repeat (first | exact Below.refl _ _ | apply Below.setCell _ (by first | omega | (simp <;> omega)) | apply Below.alloc _ (by first | omega | (simp <;> omega)))⟩

theorem names_at (n : Nat) (h : n < ([Value.string { data := #[] }, Value.string { data := #[112, 114, 111, 103, 114, 97, 109] }, Value.string { data := #[99, 108, 97, 115, 115] }, Value.string { data := #[101, 120, 116, 101, 110, 100, 115] }, Value.string { data := #[102, 105, 101, 108, 100] }, Value.string { data := #[105, 110, 105, 116] }, Value.string { data := #[109, 101, 116, 104, 111, 100] }, Value.string { data := #[112, 97, 114, 97, 109] }, Value.string { data := #[98, 108, 111, 99, 107] }, Value.string { data := #[100, 101, 99, 108] }, Value.string { data := #[97, 115, 115, 105, 103, 110] }, Value.string { data := #[105, 102] }, Value.string { data := #[119, 104, 105, 108, 101] }, Value.string { data := #[98, 114, 101, 97, 107] }, Value.string { data := #[99, 111, 110, 116, 105, 110, 117, 101] }, Value.string { data := #[114, 101, 116, 117, 114, 110] }, Value.string { data := #[112, 114, 105, 110, 116] }, Value.string { data := #[115, 117, 112, 101, 114] }, Value.string { data := #[101, 120, 112, 114] }, Value.string { data := #[105, 110, 116] }, Value.string { data := #[100, 111, 117, 98, 108, 101] }, Value.string { data := #[98, 111, 111, 108] }, Value.string { data := #[115, 116, 114] }, Value.string { data := #[110, 117, 108, 108] }, Value.string { data := #[116, 104, 105, 115] }, Value.string { data := #[118, 97, 114] }, Value.string { data := #[103, 101, 116] }, Value.string { data := #[105, 110, 100, 101, 120] }, Value.string { data := #[108, 101, 110, 103, 116, 104] }, Value.string { data := #[99, 97, 108, 108] }, Value.string { data := #[110, 101, 119] }, Value.string { data := #[97, 114, 114, 97, 121] }, Value.string { data := #[110, 101, 103] }, Value.string { data := #[110, 111, 116] }, Value.string { data := #[98, 105, 110, 97, 114, 121] }, Value.string { data := #[99, 97, 115, 116] }, Value.string { data := #[116, 111, 105, 110, 116] }, Value.string { data := #[116, 111, 100, 111, 117, 98, 108, 101] }, Value.string { data := #[105, 110, 112, 117, 116] }, Value.string { data := #[97, 115, 107] }, Value.string { data := #[103, 117, 97, 114, 100] }, Value.string { data := #[115, 111, 109, 101] }, Value.string { data := #[110, 111, 110, 101] }, Value.string { data := #[105, 115, 115, 111, 109, 101] }, Value.string { data := #[105, 115, 110, 111, 110, 101] }, Value.string { data := #[118, 97, 108] }] : List Value).length) : ([Value.string { data := #[] }, Value.string { data := #[112, 114, 111, 103, 114, 97, 109] }, Value.string { data := #[99, 108, 97, 115, 115] }, Value.string { data := #[101, 120, 116, 101, 110, 100, 115] }, Value.string { data := #[102, 105, 101, 108, 100] }, Value.string { data := #[105, 110, 105, 116] }, Value.string { data := #[109, 101, 116, 104, 111, 100] }, Value.string { data := #[112, 97, 114, 97, 109] }, Value.string { data := #[98, 108, 111, 99, 107] }, Value.string { data := #[100, 101, 99, 108] }, Value.string { data := #[97, 115, 115, 105, 103, 110] }, Value.string { data := #[105, 102] }, Value.string { data := #[119, 104, 105, 108, 101] }, Value.string { data := #[98, 114, 101, 97, 107] }, Value.string { data := #[99, 111, 110, 116, 105, 110, 117, 101] }, Value.string { data := #[114, 101, 116, 117, 114, 110] }, Value.string { data := #[112, 114, 105, 110, 116] }, Value.string { data := #[115, 117, 112, 101, 114] }, Value.string { data := #[101, 120, 112, 114] }, Value.string { data := #[105, 110, 116] }, Value.string { data := #[100, 111, 117, 98, 108, 101] }, Value.string { data := #[98, 111, 111, 108] }, Value.string { data := #[115, 116, 114] }, Value.string { data := #[110, 117, 108, 108] }, Value.string { data := #[116, 104, 105, 115] }, Value.string { data := #[118, 97, 114] }, Value.string { data := #[103, 101, 116] }, Value.string { data := #[105, 110, 100, 101, 120] }, Value.string { data := #[108, 101, 110, 103, 116, 104] }, Value.string { data := #[99, 97, 108, 108] }, Value.string { data := #[110, 101, 119] }, Value.string { data := #[97, 114, 114, 97, 121] }, Value.string { data := #[110, 101, 103] }, Value.string { data := #[110, 111, 116] }, Value.string { data := #[98, 105, 110, 97, 114, 121] }, Value.string { data := #[99, 97, 115, 116] }, Value.string { data := #[116, 111, 105, 110, 116] }, Value.string { data := #[116, 111, 100, 111, 117, 98, 108, 101] }, Value.string { data := #[105, 110, 112, 117, 116] }, Value.string { data := #[97, 115, 107] }, Value.string { data := #[103, 117, 97, 114, 100] }, Value.string { data := #[115, 111, 109, 101] }, Value.string { data := #[110, 111, 110, 101] }, Value.string { data := #[105, 115, 115, 111, 109, 101] }, Value.string { data := #[105, 115, 110, 111, 110, 101] }, Value.string { data := #[118, 97, 108] }] : List Value)[n]'h = .string (nameL.getD n ⟨#[]⟩) := by
  have e : ([Value.string { data := #[] }, Value.string { data := #[112, 114, 111, 103, 114, 97, 109] }, Value.string { data := #[99, 108, 97, 115, 115] }, Value.string { data := #[101, 120, 116, 101, 110, 100, 115] }, Value.string { data := #[102, 105, 101, 108, 100] }, Value.string { data := #[105, 110, 105, 116] }, Value.string { data := #[109, 101, 116, 104, 111, 100] }, Value.string { data := #[112, 97, 114, 97, 109] }, Value.string { data := #[98, 108, 111, 99, 107] }, Value.string { data := #[100, 101, 99, 108] }, Value.string { data := #[97, 115, 115, 105, 103, 110] }, Value.string { data := #[105, 102] }, Value.string { data := #[119, 104, 105, 108, 101] }, Value.string { data := #[98, 114, 101, 97, 107] }, Value.string { data := #[99, 111, 110, 116, 105, 110, 117, 101] }, Value.string { data := #[114, 101, 116, 117, 114, 110] }, Value.string { data := #[112, 114, 105, 110, 116] }, Value.string { data := #[115, 117, 112, 101, 114] }, Value.string { data := #[101, 120, 112, 114] }, Value.string { data := #[105, 110, 116] }, Value.string { data := #[100, 111, 117, 98, 108, 101] }, Value.string { data := #[98, 111, 111, 108] }, Value.string { data := #[115, 116, 114] }, Value.string { data := #[110, 117, 108, 108] }, Value.string { data := #[116, 104, 105, 115] }, Value.string { data := #[118, 97, 114] }, Value.string { data := #[103, 101, 116] }, Value.string { data := #[105, 110, 100, 101, 120] }, Value.string { data := #[108, 101, 110, 103, 116, 104] }, Value.string { data := #[99, 97, 108, 108] }, Value.string { data := #[110, 101, 119] }, Value.string { data := #[97, 114, 114, 97, 121] }, Value.string { data := #[110, 101, 103] }, Value.string { data := #[110, 111, 116] }, Value.string { data := #[98, 105, 110, 97, 114, 121] }, Value.string { data := #[99, 97, 115, 116] }, Value.string { data := #[116, 111, 105, 110, 116] }, Value.string { data := #[116, 111, 100, 111, 117, 98, 108, 101] }, Value.string { data := #[105, 110, 112, 117, 116] }, Value.string { data := #[97, 115, 107] }, Value.string { data := #[103, 117, 97, 114, 100] }, Value.string { data := #[115, 111, 109, 101] }, Value.string { data := #[110, 111, 110, 101] }, Value.string { data := #[105, 115, 115, 111, 109, 101] }, Value.string { data := #[105, 115, 110, 111, 110, 101] }, Value.string { data := #[118, 97, 108] }] : List Value) = nameL.map Value.string := by rfl
  have h1 : n < 46 := h
  rw [List.getElem_of_eq e, List.getElem_map, List.getD_eq_getElem?_getD, List.getElem?_eq_getElem (by rw [show nameL.length = 46 from rfl]; exact h1)]
  rfl

set_option maxRecDepth 100000 in
set_option maxHeartbeats 2000000 in
theorem rname_any (k : Int) (w : World) : Calls Tryd.prog 13 #[.int .i64 k] w fun e w' => e = .returned (.string (nmS k)) ∧ Below w.heap.size w w' := by
  by_cases h : 0 < k ∧ k < 46
  · obtain ⟨n, rfl⟩ : ∃ n : Nat, k = n := ⟨k.toNat, by omega⟩
    have h0 : 0 < n := by omega
    have h1 : n < 46 := by omega
    rw [nmS_nat h0 h1]
    have HX := Lib.hid (names_at n)
    have q0 : decide ((n : Int) < 1) = false := decide_eq_false (by omega)
    have q1 : decide ((46 : Int) ≤ (n : Int)) = false := decide_eq_false (by omega)
    clear h
    generalize nameL.getD n ⟨#[]⟩ = X at *
    go_enter Tryd.func13, Tryd.ntmps13
    go_wp2_with fail
    go_ret
    exact ⟨congrArg Ending.returned (HX.out _), by repeat (first | exact Below.refl _ _ | apply Below.setCell _ (by first | omega | (simp <;> omega)) | apply Below.alloc _ (by first | omega | (simp <;> omega)))⟩
  · rw [nmS_no h]
    by_cases h0 : 0 < k
    · have q0 : decide (k < 1) = false := decide_eq_false (by omega)
      have q1 : decide ((46 : Int) ≤ k) = true := decide_eq_true (by omega)
      clear h
      go_enter Tryd.func13, Tryd.ntmps13
      go_wp2_with fail
      go_ret
      exact ⟨rfl, by repeat (first | exact Below.refl _ _ | apply Below.setCell _ (by first | omega | (simp <;> omega)) | apply Below.alloc _ (by first | omega | (simp <;> omega)))⟩
    · have q0 : decide (k < 1) = true := decide_eq_true (by omega)
      clear h
      go_enter Tryd.func13, Tryd.ntmps13
      go_wp2_with fail
      go_ret
      exact ⟨rfl, by repeat (first | exact Below.refl _ _ | apply Below.setCell _ (by first | omega | (simp <;> omega)) | apply Below.alloc _ (by first | omega | (simp <;> omega)))⟩
end Go.Proofs.YtljojfeiehkpeaaDoor
