/- Contracts of Text, and of the statements' own first question (spans). -/
import Derived.Test.YtdhbcmbajbgblaaSpanB
import Derived.Test.YtdhbcmbajbgblaaShelf
namespace Go.Proofs.Ytdhbcmbajbgblaa
open Go.RowKit
set_option linter.unusedVariables false

theorem clone_any (s : ByteArray) (w : World) (h : s.size ≤ 281474976710656) :
    Calls Try.prog 32 #[.string s] w fun e w' => e = .returned (.string s) ∧ Below w.heap.size w w' := by
  go_enter Try.func32, Try.ntmps32
  go_wp2_with (go_at_call 53; refine (Try.stringslite_Clone _ _ h).mono ?_; rintro e w' ⟨rfl, hb1⟩)
  go_ret
  exact ⟨rfl, hb1⟩

theorem chkB_iff {f t n : Int} : chkB f t n = true ↔ (0 ≤ f ∧ f ≤ t ∧ t ≤ 65536) ∧ t ≤ n ∧ n ≤ 65536 := by
  unfold chkB; rw [Bool.and_eq_true, mayB_iff]; simp



/-- a new box of two cells, and a call behind it -/
theorem box2 {w w1 : World} {a b : Value} {T : TypeId} (h : Below (w.alloc (.cells #[a, b] T)).heap.size (w.alloc (.cells #[a, b] T)) w1) :
    Below w.heap.size w w1 ∧ w1.cell? ⟨w.heap.size, 0, none⟩ = some a ∧ w1.cell? ⟨w.heap.size, 1, none⟩ = some b ∧ w.heap.size < w1.heap.size := by
  obtain ⟨hc, hf⟩ := bcell h
  have hz := h.size
  simp at hz
  refine ⟨after ((Below.refl _ _).alloc (Nat.le_refl _) _) h, ?_, ?_, by omega⟩
  · rw [hc _ _ (by simp)]; simp [go_sem]
  · rw [hc _ _ (by simp)]; simp [go_sem]
/-- the same behind another new block -/
theorem box3 {w w1 : World} {o : Obj} {a b : Value} {T : TypeId} (h : Below ((w.alloc o).alloc (.cells #[a, b] T)).heap.size ((w.alloc o).alloc (.cells #[a, b] T)) w1) :
    Below w.heap.size w w1 ∧ w1.cell? ⟨w.heap.size + 1, 0, none⟩ = some a ∧ w1.cell? ⟨w.heap.size + 1, 1, none⟩ = some b ∧ w.heap.size + 1 < w1.heap.size := by
  obtain ⟨h1, h2, h3, h4⟩ := box2 h
  simp only [World.size_alloc] at h2 h3 h4
  exact ⟨after ((Below.refl _ _).alloc (Nat.le_refl _) _) h1, h2, h3, h4⟩
/-- an older cell, behind a call -/
theorem keep {w w1 : World} {B o : Nat} {v : Value} (h : Below w.heap.size w w1) (hB : B < w.heap.size) (c : w.cell? ⟨B, o, none⟩ = some v) : w1.cell? ⟨B, o, none⟩ = some v :=
  (h.cell (p := ⟨B, o, none⟩) hB).trans c


end Go.Proofs.Ytdhbcmbajbgblaa
