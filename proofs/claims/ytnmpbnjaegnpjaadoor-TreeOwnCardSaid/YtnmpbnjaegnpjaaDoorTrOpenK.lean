/- How an argument that is a list of whole numbers is opened. -/
import Derived.Test.YtnmpbnjaegnpjaaDoorTrOwn
import Derived.Test.YtnmpbnjaegnpjaaDoorTrFrame
namespace Go.Proofs.YtnmpbnjaegnpjaaDoor
open Go.ChangeShapes Go.WideShapes Go.ChangeAt Go.RowKit
set_option linter.unusedVariables false

open Go.Joins Go.Deep in
theorem open_kids {H : Type} {enc : TypeId × Value → H} {P : Program} {w : World} {base : Nat} {spare : Nat → Bool} {held : Bool} {r : Reach} {b0 : Nat} {t e : TypeId} {v : Value} {d : DataW H} {p : List MemPlace}
    (ht : P.underlying t = some (.slice e)) (he : P.underlying e = some (.int .i64)) (hC : P.cellsOf e = 1)
    (hv : Value.okWide P w r b0 t v) (h : DataW.Trod enc P w base spare held t v d p) : ∃ l, KidsV w v l := by
  obtain ⟨a0, len0, cap0, rfl⟩ := okWide_slice ht hv
  obtain ⟨fuel, hf⟩ := h
  rcases open_slice ht hf with ⟨hcs, -⟩ | ⟨a, len, cap, m, n, D, Pl, hcs', hb, hl, hm, hmm, -, hall⟩
  · simp [Value.cells] at hcs
    obtain ⟨rfl, rfl, rfl⟩ := hcs
    exact ⟨[], none, 0, rfl, (fun h => absurd h (by simp)), fun _ => rfl⟩
  · simp [Value.cells] at hcs'
    obtain ⟨rfl, rfl, rfl⟩ := hcs'
    have hml : len0 ≤ m := by rw [hmm]; split <;> omega
    have key : ∀ j, j < len0 → ∃ x : Int, w.cell? (a.add (j * 1)) = some (.int .i64 x) := by
      intro j hj
      obtain ⟨cs', hc, ht'⟩ := hall j (by omega)
      rw [hC] at hc
      obtain ⟨-, hcl, hat⟩ := World.cells?_some hc
      match cs', hcl with
      | [c0], _ =>
        obtain ⟨x, r0, -, -⟩ := DataW.trod_int he ht'
        simp at r0
        subst r0
        have w0 := hat 0 (by omega)
        exact ⟨x, w0⟩
    by_cases h0 : len0 = 0
    · subst h0
      exact ⟨[], some a, cap0, rfl, (fun h => absurd h (by simp)), fun h => by cases h⟩
    · obtain ⟨b, off, spot⟩ := a
      obtain ⟨x0, z0⟩ := key 0 (by omega)
      have hs : spot = none := by simpa [Addr.add] using World.cell?_spot z0
      subst hs
      have hlt : b < w.heap.size := by
        by_cases hb : b < w.heap.size
        · exact hb
        · simp [World.cell?, Addr.add, Array.getElem?_eq_none (show w.heap.size ≤ b by omega)] at z0
      obtain ⟨l, hll, hq⟩ := row_list (Q := fun j (x : Int) => w.cell? ⟨b, off + j, none⟩ = some (.int .i64 x)) len0 (fun j hj => by
        obtain ⟨x, g0⟩ := key j hj
        rw [add_at, Nat.mul_one] at g0
        exact ⟨x, g0⟩)
      exact ⟨l, some ⟨b, off, none⟩, cap0, by rw [hll], (fun _ => ⟨b, off, rfl, hlt, fun i hi => hq i hi⟩), fun h => by cases h⟩

end Go.Proofs.YtnmpbnjaegnpjaaDoor
