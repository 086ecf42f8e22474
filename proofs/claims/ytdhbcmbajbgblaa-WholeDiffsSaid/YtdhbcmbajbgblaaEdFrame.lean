/- How an argument that is a list of edits is opened. -/
import Derived.Test.YtdhbcmbajbgblaaFrame
import Derived.Test.YtdhbcmbajbgblaaEditA
namespace Go.Proofs.Ytdhbcmbajbgblaa
open Go.ChangeShapes Go.WideShapes Go.ChangeAt Go.RowKit
set_option linter.unusedVariables false

/-- a list of edits that came in, as a value -/
def Eds (w : World) (v : Value) (l : List IEd) : Prop := ∃ src n cap, v = .slice src n cap ∧ l.length = n ∧ n ≤ maxLen ∧ EdsIn w src l

open Go.Joins Go.Deep in
theorem open_edits {H : Type} {enc : TypeId × Value → H} {P : Program} {w : World} {base : Nat} {spare : Nat → Bool} {held : Bool} {r : Reach} {b0 : Nat} {t e sp i st : TypeId} {f0 f1 g0 g1 : Field} {v : Value} {d : DataW H} {p : List MemPlace}
    (ht : P.underlying t = some (.slice e)) (he : P.underlying e = some (.struct #[f0, f1])) (hsp : P.underlying sp = some (.struct #[g0, g1])) (hi : P.underlying i = some (.int .i64)) (hst : P.underlying st = some .string)
    (hC : P.cellsOf e = 3) (hone : oneCellFields P #[g0, g1] = true) (hcs : P.cellsOf sp = 2 ∧ P.cellsOf st = 1) (hf0 : f0.type = sp) (hf1 : f1.type = st) (ho0 : f0.offset = 0) (ho1 : f1.offset = 2) (hg0 : g0.type = i) (hg1 : g1.type = i) (hq0 : g0.offset = 0) (hq1 : g1.offset = 1)
    (hv : Value.okWide P w r b0 t v) (h : DataW.Trod enc P w base spare held t v d p) : ∃ l, Eds w v l := by
  obtain ⟨a0, len0, cap0, rfl⟩ := okWide_slice ht hv
  obtain ⟨fuel, hf⟩ := h
  rcases open_slice ht hf with ⟨hcs, -⟩ | ⟨a, len, cap, m, n, D, Pl, hcs', hb, hl, hm, hmm, -, hall⟩
  · simp [Value.cells] at hcs
    obtain ⟨rfl, rfl, rfl⟩ := hcs
    exact ⟨[], none, 0, 0, rfl, rfl, Nat.zero_le _, fun h => absurd h (by simp)⟩
  · simp [Value.cells] at hcs'
    obtain ⟨rfl, rfl, rfl⟩ := hcs'
    have hml : len0 ≤ m := by rw [hmm]; split <;> omega
    have key : ∀ j, j < len0 → ∃ x : IEd, w.cell? (a.add (j * 3)) = some (.int .i64 x.1) ∧ w.cell? (a.add (j * 3 + 1)) = some (.int .i64 x.2.1) ∧ w.cell? (a.add (j * 3 + 2)) = some (.string x.2.2) := by
      intro j hj
      obtain ⟨cs', hc, ht'⟩ := hall j (by omega)
      rw [hC] at hc
      obtain ⟨-, hcl, hat⟩ := World.cells?_some hc
      obtain ⟨y0, y1, n', -, -, k0, k1⟩ := trod_struct2 he ht'
      rw [ho0, hf0, hcs.1] at k0
      rw [ho1, hf1, hcs.2] at k1
      match cs', hcl with
      | [c0, c1, c2], _ =>
        simp only [List.drop_zero, List.take_succ_cons, List.take_zero] at k0
        simp only [List.drop_succ_cons, List.drop_zero, List.take_succ_cons, List.take_zero] at k1
        obtain ⟨z0, z1, n'', -, -, q0, q1⟩ := trod_struct2 hsp k0
        obtain ⟨-, e0⟩ := hone_of hone 0 g0 rfl
        obtain ⟨-, e1⟩ := hone_of hone 1 g1 rfl
        rw [hq0, e0, hg0] at q0
        rw [hq1, e1, hg1] at q1
        obtain ⟨x, r0, -, -⟩ := DataW.trod_int hi q0
        obtain ⟨y, r1, -, -⟩ := DataW.trod_int hi q1
        obtain ⟨s, r2, -⟩ := DataW.trod_string hst k1
        simp at r0 r1 r2
        subst r0 r1 r2
        have w0 := hat 0 (by omega)
        have w1 := hat 1 (by omega)
        have w2 := hat 2 (by omega)
        exact ⟨(x, y, s), w0, by rw [← Go.Deep.add_add]; exact w1, by rw [← Go.Deep.add_add]; exact w2⟩
    by_cases h0 : len0 = 0
    · subst h0
      exact ⟨[], some a, 0, cap0, rfl, rfl, Nat.zero_le _, fun h => absurd h (by simp)⟩
    · obtain ⟨b, off, spot⟩ := a
      obtain ⟨x0, z0, -⟩ := key 0 (by omega)
      have hs : spot = none := by simpa [Addr.add] using World.cell?_spot z0
      subst hs
      have hlt : b < w.heap.size := by
        by_cases hb : b < w.heap.size
        · exact hb
        · simp [World.cell?, Addr.add, Array.getElem?_eq_none (show w.heap.size ≤ b by omega)] at z0
      obtain ⟨l, hll, hq⟩ := list_of (fun j (x : IEd) => w.cell? ⟨b, off + j * 3, none⟩ = some (.int .i64 x.1) ∧ w.cell? ⟨b, off + j * 3 + 1, none⟩ = some (.int .i64 x.2.1) ∧ w.cell? ⟨b, off + j * 3 + 2, none⟩ = some (.string x.2.2)) len0 (fun j hj => by
        obtain ⟨x, g0, g1, g2⟩ := key j hj
        rw [add_none] at g0 g1 g2
        exact ⟨x, g0, by simpa [Nat.add_assoc] using g1, by simpa [Nat.add_assoc] using g2⟩)
      exact ⟨l, some ⟨b, off, none⟩, len0, cap0, rfl, hll, Nat.le_trans hl hm, fun _ => ⟨b, off, rfl, hlt, hq⟩⟩

end Go.Proofs.Ytdhbcmbajbgblaa
