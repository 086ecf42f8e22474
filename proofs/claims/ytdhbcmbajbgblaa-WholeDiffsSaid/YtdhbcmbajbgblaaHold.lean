/- What a call keeps while it calls others: its own cells. -/
import Derived.Test.YtdhbcmbajbgblaaSpanG
namespace Go.Proofs.Ytdhbcmbajbgblaa
open Go Go.RowKit
set_option linter.unusedVariables false

/-- some cells, each its block, its place in it, and what it holds -/
def CellsAre (w : World) (L : List (Nat × Nat × Value)) : Prop := ∀ x ∈ L, x.1 < w.heap.size ∧ w.cell? ⟨x.1, x.2.1, none⟩ = some x.2.2
def HC (w0 : World) (L : List (Nat × Nat × Value)) (w : World) : Prop := Below w0.heap.size w0 w ∧ CellsAre w L
theorem CellsAre.step {w w' : World} {L : List (Nat × Nat × Value)} (h : CellsAre w L) (hb : Below w.heap.size w w') : CellsAre w' L := fun x hx =>
  ⟨by have := hb.size; have := (h x hx).1; omega, keep hb (h x hx).1 (h x hx).2⟩
theorem HC.step {w0 w w' : World} {L : List (Nat × Nat × Value)} (h : HC w0 L w) (hb : Below w.heap.size w w') : HC w0 L w' := ⟨after h.1 hb, h.2.step hb⟩
theorem HC.bel {w0 w : World} {L : List (Nat × Nat × Value)} (h : HC w0 L w) : Below w0.heap.size w0 w := h.1
theorem HC.cell {w0 w : World} {L : List (Nat × Nat × Value)} (h : HC w0 L w) {b o : Nat} {v : Value} (hx : (b, o, v) ∈ L) : w.cell? ⟨b, o, none⟩ = some v := (h.2 _ hx).2
theorem HC.lt {w0 w : World} {L : List (Nat × Nat × Value)} (h : HC w0 L w) {b o : Nat} {v : Value} (hx : (b, o, v) ∈ L) : b < w.heap.size := (h.2 _ hx).1
theorem HC.start (w0 : World) : HC w0 [] w0 := ⟨Below.refl _ _, fun x hx => absurd hx (by simp)⟩
theorem HC.from {w0 w : World} (h : Below w0.heap.size w0 w) : HC w0 [] w := ⟨h, fun x hx => absurd hx (by simp)⟩
theorem HC.drew {w0 w : World} {L : List (Nat × Nat × Value)} (h : HC w0 L w) : HC w0 L w.drew := ⟨h.1.drew, h.2⟩
theorem HC.drewN {w0 w : World} {L : List (Nat × Nat × Value)} (h : HC w0 L w) (n : Nat) : HC w0 L (w.drewN n) := ⟨below_drewN h.1 n, h.2⟩
/-- one more cell that is known -/
theorem HC.also {w0 w : World} {L : List (Nat × Nat × Value)} (h : HC w0 L w) {b o : Nat} {v : Value} (hb : b < w.heap.size) (hc : w.cell? ⟨b, o, none⟩ = some v) : HC w0 ((b, o, v) :: L) w :=
  ⟨h.1, fun x hx => by
    rcases List.mem_cons.1 hx with rfl | hx
    · exact ⟨hb, hc⟩
    · exact h.2 x hx⟩
/-- a new box of two cells, of three -/
theorem HC.box {w0 w : World} {L : List (Nat × Nat × Value)} (h : HC w0 L w) (a b : Value) (T : TypeId) : HC w0 ((w.heap.size, 0, a) :: (w.heap.size, 1, b) :: L) (w.alloc (.cells #[a, b] T)) := by
  have hb : Below w.heap.size w (w.alloc (.cells #[a, b] T)) := (Below.refl _ _).alloc (Nat.le_refl _) _
  obtain ⟨h1, h2⟩ := h.step hb
  refine ⟨h1, fun x hx => ?_⟩
  rcases List.mem_cons.1 hx with rfl | hx
  · exact ⟨by simp, by simp [go_sem]⟩
  · rcases List.mem_cons.1 hx with rfl | hx
    · exact ⟨by simp, by simp [go_sem]⟩
    · exact h2 x hx
theorem HC.boxc {w0 w : World} {L : List (Nat × Nat × Value)} (h : HC w0 L w) (a b c : Value) (T : TypeId) : HC w0 ((w.heap.size, 0, a) :: (w.heap.size, 1, b) :: (w.heap.size, 2, c) :: L) (w.alloc (.cells #[a, b, c] T)) := by
  have hb : Below w.heap.size w (w.alloc (.cells #[a, b, c] T)) := (Below.refl _ _).alloc (Nat.le_refl _) _
  obtain ⟨h1, h2⟩ := h.step hb
  refine ⟨h1, fun x hx => ?_⟩
  rcases List.mem_cons.1 hx with rfl | hx
  · exact ⟨by simp, by simp [go_sem]⟩
  · rcases List.mem_cons.1 hx with rfl | hx
    · exact ⟨by simp, by simp [go_sem]⟩
    · rcases List.mem_cons.1 hx with rfl | hx
      · exact ⟨by simp, by simp [go_sem]⟩
      · exact h2 x hx
/-- the three cells of such a box, and all that is held -/
theorem HC.three {w0 w : World} {B : Nat} {a b c : Value} {L : List (Nat × Nat × Value)} (h : HC w0 ((B, 0, a) :: (B, 1, b) :: (B, 2, c) :: L) w) :
    w.cell? ⟨B, 0, none⟩ = some a ∧ w.cell? ⟨B, 1, none⟩ = some b ∧ w.cell? ⟨B, 2, none⟩ = some c ∧ B < w.heap.size ∧ HC w0 ((B, 0, a) :: (B, 1, b) :: (B, 2, c) :: L) w :=
  ⟨h.cell (by simp), h.cell (by simp), h.cell (by simp), h.lt (o := 0) (v := a) (by simp), h⟩

end Go.Proofs.Ytdhbcmbajbgblaa
