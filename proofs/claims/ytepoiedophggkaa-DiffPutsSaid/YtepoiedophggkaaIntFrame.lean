/- How an argument that is a list of whole numbers is opened. -/
import Derived.Test.YtepoiedophggkaaFrame
namespace Go.Proofs.Ytepoiedophggkaa
open Go.ChangeShapes Go.WideShapes Go.ChangeAt Go.RowKit
set_option linter.unusedVariables false

/-- a list of whole numbers, nil or not -/
def IntsIn (w : World) (src : Option Addr) (l : List Int) : Prop := 0 < l.length → ∃ b off, src = some ⟨b, off, none⟩ ∧ b < w.heap.size ∧ ∀ i (h : i < l.length), w.cell? ⟨b, off + i, none⟩ = some (.int .i64 l[i])
theorem IntsIn.step {w w' : World} {src : Option Addr} {l : List Int} (h : IntsIn w src l) (hb : Below w.heap.size w w') : IntsIn w' src l := fun h0 => by
  obtain ⟨b, off, h1, h2, h3⟩ := h h0
  exact ⟨b, off, h1, Nat.lt_of_lt_of_le h2 hb.size, fun i hi => (hb.cell (p := ⟨b, off + i, none⟩) h2).trans (h3 i hi)⟩
/-- a list of whole numbers that came in, as a value -/
def Ints (w : World) (v : Value) (l : List Int) : Prop := ∃ src n cap, v = .slice src n cap ∧ l.length = n ∧ n ≤ maxLen ∧ IntsIn w src l

open Go.Joins Go.Deep in
theorem open_ints {H : Type} {enc : TypeId × Value → H} {P : Program} {w : World} {base : Nat} {spare : Nat → Bool} {held : Bool} {r : Reach} {b0 : Nat} {t e : TypeId} {v : Value} {d : DataW H} {p : List MemPlace}
    (ht : P.underlying t = some (.slice e)) (he : P.underlying e = some (.int .i64)) (hC : P.cellsOf e = 1)
    (hv : Value.okWide P w r b0 t v) (h : DataW.Trod enc P w base spare held t v d p) : ∃ l, Ints w v l := by
  obtain ⟨a0, len0, cap0, rfl⟩ := okWide_slice ht hv
  obtain ⟨fuel, hf⟩ := h
  rcases open_slice ht hf with ⟨hcs, -⟩ | ⟨a, len, cap, m, n, D, Pl, hcs', hb, hl, hm, hmm, -, hall⟩
  · simp [Value.cells] at hcs
    obtain ⟨rfl, rfl, rfl⟩ := hcs
    exact ⟨[], none, 0, 0, rfl, rfl, Nat.zero_le _, fun h => absurd h (by simp)⟩
  · simp [Value.cells] at hcs'
    obtain ⟨rfl, rfl, rfl⟩ := hcs'
    have hml : len0 ≤ m := by rw [hmm]; split <;> omega
    have key : ∀ j, j < len0 → ∃ x : Int, w.cell? (a.add (j * 1)) = some (.int .i64 x) := by
      intro j hj
      obtain ⟨cs', hc, ht'⟩ := hall j (by omega)
      rw [hC] at hc
      obtain ⟨-, hcl, hat⟩ := World.cells?_some hc
      match cs', hcl with
      | [c0], _ =>
        obtain ⟨x, r0, -, -⟩ := DataW.trod_int he ht'
        simp at r0
        subst r0
        have w0 := hat 0 (by omega)
        exact ⟨x, w0⟩
    by_cases h0 : len0 = 0
    · subst h0
      exact ⟨[], some a, 0, cap0, rfl, rfl, Nat.zero_le _, fun h => absurd h (by simp)⟩
    · obtain ⟨b, off, spot⟩ := a
      obtain ⟨x0, z0⟩ := key 0 (by omega)
      have hs : spot = none := by simpa [Addr.add] using World.cell?_spot z0
      subst hs
      have hlt : b < w.heap.size := by
        by_cases hb : b < w.heap.size
        · exact hb
        · simp [World.cell?, Addr.add, Array.getElem?_eq_none (show w.heap.size ≤ b by omega)] at z0
      obtain ⟨l, hll, hq⟩ := list_of (fun j (x : Int) => w.cell? ⟨b, off + j, none⟩ = some (.int .i64 x)) len0 (fun j hj => by
        obtain ⟨x, g0⟩ := key j hj
        rw [add_none, Nat.mul_one] at g0
        exact ⟨x, g0⟩)
      exact ⟨l, some ⟨b, off, none⟩, len0, cap0, rfl, hll, Nat.le_trans hl hm, fun _ => ⟨b, off, rfl, hlt, hq⟩⟩

end Go.Proofs.Ytepoiedophggkaa
