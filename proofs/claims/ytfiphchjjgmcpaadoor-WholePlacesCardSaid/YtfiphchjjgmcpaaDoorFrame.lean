/- What the frames of the laws' proofs share: how an argument of two whole numbers, and a list of such, is opened. -/
import Derived.Test.YtfiphchjjgmcpaaDoorRows
import Derived.Test.YtfiphchjjgmcpaaDoorSpanE
import Derived.ProofKit
import Derived.OpenShut
import Derived.ChangeOld
import Derived.Below
import Derived.Lib.SmallJoins
import Derived.Deep.Slices
import Derived.Deep.Fields
import Derived.ChangeSame
namespace Go.Proofs.YtfiphchjjgmcpaaDoor
open Go.ChangeShapes Go.WideShapes Go.ChangeAt Go.RowKit
set_option linter.unusedVariables false

/-- a list of spans that came in, as a value: nil, empty, or in memory -/
def Spans (w : World) (v : Value) (l : List (Int × Int)) : Prop :=
  (v = .slice none 0 0 ∧ l = []) ∨ (∃ a cap, v = .slice (some a) 0 cap ∧ l = []) ∨
  (∃ b off n cap, v = .slice (some ⟨b, off, none⟩) n cap ∧ l.length = n ∧ 1 ≤ n ∧ n ≤ cap ∧ cap ≤ maxLen ∧ b < w.heap.size ∧ SpanAt w b off l)

theorem own : ownKnob Tryd.prog.godebug = none := by kernel_rfl
theorem laidOut : laidOutB Tryd.prog = true := by kernel_rfl

open Go.Joins Go.Deep in
/-- a struct of two whole numbers, by value -/
theorem open_two {H : Type} {enc : TypeId × Value → H} {P : Program} {w : World} {base : Nat} {spare : Nat → Bool} {held : Bool} {r : Reach} {b0 : Nat} {t e : TypeId} {f0 f1 : Field} {v : Value} {d : DataW H} {p : List MemPlace}
    (hs : P.underlying t = some (.struct #[f0, f1])) (he : P.underlying e = some (.int .i64)) (hone : oneCellFields P #[f0, f1] = true) (hC : P.cellsOf t = 2) (hf0 : f0.type = e) (hf1 : f1.type = e)
    (hv : Value.okWide P w r b0 t v) (h : DataW.Trod enc P w base spare held t v d p) :
    ∃ (a b : Int), (Lit.int .i64 a).wf = true ∧ (Lit.int .i64 b).wf = true ∧ v = .agg #[.int .i64 a, .int .i64 b] := by
  obtain ⟨c0, c1, y0, y1, n, rfl, -, -, h0, h1⟩ := open_agg2 hs hone hC hv h
  rw [hf0] at h0
  rw [hf1] at h1
  obtain ⟨a, e0, -, wa⟩ := DataW.trod_int he h0
  obtain ⟨b, e1, -, wb⟩ := DataW.trod_int he h1
  simp at e0 e1
  subst e0 e1
  exact ⟨a, b, wa, wb, rfl⟩

theorem add_none (b off n : Nat) : (⟨b, off, none⟩ : Addr).add n = ⟨b, off + n, none⟩ := by
  unfold Addr.add
  by_cases h : n = 0 <;> simp [h]

theorem list_of {α : Type} (Q : Nat → α → Prop) (n : Nat) (h : ∀ i, i < n → ∃ x, Q i x) : ∃ l : List α, l.length = n ∧ ∀ i (hi : i < l.length), Q i l[i] := by
  induction n with
  | zero => exact ⟨[], rfl, fun i hi => absurd hi (by simp)⟩
  | succ n ih =>
    obtain ⟨l, hl, hq⟩ := ih fun i hi => h i (by omega)
    obtain ⟨x, hx⟩ := h n (by omega)
    refine ⟨l ++ [x], by simp [hl], fun i hi => ?_⟩
    by_cases hlt : i < l.length
    · rw [List.getElem_append_left hlt]; exact hq i hlt
    · have hin : i = n := by simp at hi; omega
      subst hin
      rw [List.getElem_append_right (by omega)]
      simpa [hl] using hx

open Go.Joins Go.Deep in
/-- a list of structs of two whole numbers -/
theorem open_spans {H : Type} {enc : TypeId × Value → H} {P : Program} {w : World} {base : Nat} {spare : Nat → Bool} {held : Bool} {r : Reach} {b0 : Nat} {t e i : TypeId} {f0 f1 : Field} {v : Value} {d : DataW H} {p : List MemPlace}
    (ht : P.underlying t = some (.slice e)) (he : P.underlying e = some (.struct #[f0, f1])) (hi : P.underlying i = some (.int .i64)) (hone : oneCellFields P #[f0, f1] = true) (hC : P.cellsOf e = 2) (hf0 : f0.type = i) (hf1 : f1.type = i)
    (hv : Value.okWide P w r b0 t v) (h : DataW.Trod enc P w base spare held t v d p) : ∃ l, Spans w v l := by
  obtain ⟨a0, len0, cap0, rfl⟩ := okWide_slice ht hv
  obtain ⟨fuel, hf⟩ := h
  rcases open_slice ht hf with ⟨hcs, -⟩ | ⟨a, len, cap, m, n, D, Pl, hcs, hb, hl, hm, hmm, -, hall⟩
  · simp [Value.cells] at hcs
    obtain ⟨rfl, rfl, rfl⟩ := hcs
    exact ⟨[], .inl ⟨rfl, rfl⟩⟩
  · simp [Value.cells] at hcs
    obtain ⟨rfl, rfl, rfl⟩ := hcs
    by_cases h0 : len0 = 0
    · subst h0
      exact ⟨[], .inr (.inl ⟨a, cap0, rfl, rfl⟩)⟩
    · have hml : len0 ≤ m := by rw [hmm]; split <;> omega
      have key : ∀ j, j < len0 → ∃ x : Int × Int, w.cell? (a.add (j * 2)) = some (.int .i64 x.1) ∧ w.cell? (a.add (j * 2 + 1)) = some (.int .i64 x.2) := by
        intro j hj
        obtain ⟨cs', hc, ht'⟩ := hall j (by omega)
        rw [hC] at hc
        obtain ⟨-, hcl, hat⟩ := World.cells?_some hc
        obtain ⟨y0, y1, n', -, -, g0, g1⟩ := trod_struct2 he ht'
        obtain ⟨o0, k0⟩ := hone_of hone 0 f0 rfl
        obtain ⟨o1, k1⟩ := hone_of hone 1 f1 rfl
        rw [o0, k0, hf0] at g0
        rw [o1, k1, hf1] at g1
        match cs', hcl with
        | [c0, c1], _ =>
          obtain ⟨x, e0, -, -⟩ := DataW.trod_int hi g0
          obtain ⟨y, e1, -, -⟩ := DataW.trod_int hi g1
          simp at e0 e1
          subst e0 e1
          have q0 := hat 0 (by omega)
          have q1 := hat 1 (by omega)
          exact ⟨(x, y), q0, by rw [← Go.Deep.add_add]; exact q1⟩
      obtain ⟨b, off, spot⟩ := a
      obtain ⟨x0, z0, -⟩ := key 0 (by omega)
      have hs : spot = none := by simpa [Addr.add] using World.cell?_spot z0
      subst hs
      have hlt : b < w.heap.size := by
        by_cases hb : b < w.heap.size
        · exact hb
        · simp [World.cell?, Addr.add, Array.getElem?_eq_none (show w.heap.size ≤ b by omega)] at z0
      obtain ⟨l, hll, hq⟩ := list_of (fun j (x : Int × Int) => w.cell? ⟨b, off + j * 2, none⟩ = some (.int .i64 x.1) ∧ w.cell? ⟨b, off + j * 2 + 1, none⟩ = some (.int .i64 x.2)) len0 (fun j hj => by
        obtain ⟨x, g0, g1⟩ := key j hj
        rw [add_none] at g0 g1
        exact ⟨x, g0, by simpa [Nat.add_assoc] using g1⟩)
      exact ⟨l, .inr (.inr ⟨b, off, len0, cap0, rfl, hll, by omega, hl, hm, hlt, hq⟩)⟩

end Go.Proofs.YtfiphchjjgmcpaaDoor
