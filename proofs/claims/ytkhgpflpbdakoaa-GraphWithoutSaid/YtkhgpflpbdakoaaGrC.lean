/- Contracts of a graph's New, Len, has and comes. -/
import Derived.Test.YtkhgpflpbdakoaaGrB
namespace Go.Proofs.Ytkhgpflpbdakoaa
open Go Go.RowKit
set_option linter.unusedVariables false
set_option linter.unusedSimpArgs false

theorem new_no (z : Int) (w : World) (h : z < 0 ∨ 8192 < z) :
    Calls Try.prog 9 #[.int .i64 z] w fun e w' => e = .returned (.tuple #[.pointer none, .int .i64 1]) ∧ Below w.heap.size w w' := by
  by_cases h1 : z < 0
  · clear h
    go_enter Try.func9, Try.ntmps9
    go_wp2_with fail
    go_ret2
    exact ⟨rfl, by repeat (first | exact Below.refl _ _ | apply Below.setCell _ (by first | omega | (simp <;> omega)) | apply Below.alloc _ (by first | omega | (simp <;> omega)))⟩
  · have h2 : (8192 : Int) < z := by omega
    clear h
    go_enter Try.func9, Try.ntmps9
    go_wp2_with fail
    go_ret2
    exact ⟨rfl, by repeat (first | exact Below.refl _ _ | apply Below.setCell _ (by first | omega | (simp <;> omega)) | apply Below.alloc _ (by first | omega | (simp <;> omega)))⟩
theorem GrM.new (n : Nat) (w : World) : GrM (((w.alloc (.map #[] 0)).alloc (.map #[] 0)).alloc (.cells #[.int .i64 n, .slice none 0 0, .map (some w.heap.size), .map (some (w.heap.size + 1))] 57)) w.heap.size n [] ⟨w.heap.size + 2, w.heap.size, w.heap.size + 1, .slice none 0 0, fun _ => none⟩ := by
  have hb1 : Below w.heap.size w (w.alloc (.map #[] 0)) := (Below.refl _ _).alloc (Nat.le_refl _) _
  refine ⟨by simp, by simp, by simp, by simp, ?_, World.ownsRow_nil _ _ _ _, ?_, ?_, (fun z v hv => by cases hv), (fun _ _ => rfl), (fun y z u v hu _ _ => by cases hu), (fun e he => by cases he)⟩
  · have := Bx.new 57 ((w.alloc (.map #[] 0)).alloc (.map #[] 0)) #[.int .i64 n, .slice none 0 0, .map (some w.heap.size), .map (some (w.heap.size + 1))]
    simpa using this
  · exact ((MapIs.made Try.prog 3 w).keep ((Below.refl _ _).alloc (Nat.le_refl _) _)).keep ((Below.refl _ _).alloc (Nat.le_refl _) _)
  · have h := (MapIs.made Try.prog 29 (w.alloc (.map #[] 0))).keep ((Below.refl _ _).alloc (Nat.le_refl _) (.cells #[.int .i64 n, .slice none 0 0, .map (some w.heap.size), .map (some (w.heap.size + 1))] 57))
    have e : setF [] = fun _ => none := by funext v; unfold setF; rw [if_neg]; rintro ⟨x, hx, _⟩; cases hx
    dsimp only
    rw [e]
    simpa using h
theorem new_yes (n : Nat) (w : World) (h : n ≤ 8192) :
    Calls Try.prog 9 #[.int .i64 n] w fun e w' => ∃ S, e = .returned (.tuple #[(.pointer (some ⟨S.g, 0, none⟩)), .int .i64 0]) ∧ Below w.heap.size w w' ∧ GrM w' w.heap.size n [] S := by
  have hmm := @run_makeMap Try.prog
  have h1 : ¬ (n : Int) < 0 := by omega
  have h2 : ¬ (8192 : Int) < (n : Int) := by omega
  have HN := Lib.hid (GrM.new n w)
  go_enter Try.func9, Try.ntmps9
  go_wp2_with fail
  go_ret2
  exact ⟨_, rfl, by repeat (first | exact Below.refl _ _ | apply Below.setCell _ (by first | omega | (simp <;> omega)) | apply Below.alloc _ (by first | omega | (simp <;> omega))), HN.out⟩

theorem GrP.cells {w : World} {B n : Nat} {L Lo Lt : List Eg} {S : GrS} (h : GrP w B n L Lo Lt S) :
    w.cell? ⟨S.g, 0, none⟩ = some (.int .i64 n) ∧ w.cell? ⟨S.g, 1, none⟩ = some S.ev ∧ w.cell? ⟨S.g, 2, none⟩ = some (.map (some S.mo)) ∧ w.cell? ⟨S.g, 3, none⟩ = some (.map (some S.mt)) ∧ S.g < w.heap.size ∧ ∀ j, w.frozen? ⟨S.g, j, none⟩ = false := h.box.four
theorem len_any {w : World} {B n : Nat} {L : List Eg} {S : GrS} (h : GrM w B n L S) :
    Calls Try.prog 12 #[(.pointer (some ⟨S.g, 0, none⟩))] w fun e w' => e = .returned (.int .i64 n) ∧ w' = w := by
  obtain ⟨c0, c1, c2, c3, cl, cf⟩ := h.cells
  go_enter Try.func12, Try.ntmps12
  go_wp2_with fail
  go_ret
  exact ⟨rfl, rfl⟩
theorem has_any {w : World} {B n : Nat} {L : List Eg} {S : GrS} (h : GrM w B n L S) (z : Int) :
    Calls Try.prog 24 #[(.pointer (some ⟨S.g, 0, none⟩)), .int .i64 z] w fun e w' => e = .returned (.bool (decide (0 ≤ z ∧ z < n))) ∧ w' = w := by
  obtain ⟨c0, c1, c2, c3, cl, cf⟩ := h.cells
  by_cases h1 : 0 ≤ z
  · by_cases h2 : z < n
    · have e : decide (0 ≤ z ∧ z < n) = true := by simp; omega
      rw [e]
      go_enter Try.func24, Try.ntmps24
      go_wp2_with fail
      go_ret
      exact ⟨rfl, rfl⟩
    · have e : decide (0 ≤ z ∧ z < n) = false := by simp; omega
      rw [e]
      go_enter Try.func24, Try.ntmps24
      go_wp2_with fail
      go_ret
      exact ⟨rfl, rfl⟩
  · have e : decide (0 ≤ z ∧ z < n) = false := by simp; omega
    rw [e]
    go_enter Try.func24, Try.ntmps24
    go_wp2_with fail
    go_ret
    exact ⟨rfl, rfl⟩
end Go.Proofs.Ytkhgpflpbdakoaa
