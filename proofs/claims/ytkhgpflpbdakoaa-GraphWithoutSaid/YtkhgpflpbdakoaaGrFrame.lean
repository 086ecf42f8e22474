/- How arguments of layer 21's laws are opened: lists of edges, of yes and no, of numbers. -/
import Derived.Test.YtkhgpflpbdakoaaGrWs
import Derived.ProofKit
import Derived.OpenShut
import Derived.ChangeOld
import Derived.Below
import Derived.Lib.SmallJoins
import Derived.Deep.Slices
import Derived.Deep.Fields
import Derived.Deep.Strs
import Derived.ChangeSame
namespace Go.Proofs.Ytkhgpflpbdakoaa
open Go Go.RowKit
open Go.ChangeShapes Go.WideShapes Go.ChangeAt Go.Joins Go.Deep
set_option linter.unusedVariables false
set_option linter.unusedSimpArgs false

theorem own : ownKnob Try.prog.godebug = none := by kernel_rfl
theorem laidOut : laidOutB Try.prog = true := by kernel_rfl
theorem in_of_wf {z : Int} (h : (Lit.int .i64 z).wf = true) : In64 z := by
  have h' : -9223372036854775808 ≤ z ∧ z ≤ 9223372036854775807 := bounds_i64 h
  exact h'
theorem list_of {α : Type} (Q : Nat → α → Prop) (n : Nat) (h : ∀ i, i < n → ∃ x, Q i x) : ∃ l : List α, l.length = n ∧ ∀ i (hi : i < l.length), Q i l[i] := by
  induction n with
  | zero => exact ⟨[], rfl, fun i hi => absurd hi (by simp)⟩
  | succ n ih =>
    obtain ⟨l, hl, hq⟩ := ih fun i hi => h i (by omega)
    obtain ⟨x, hx⟩ := h n (by omega)
    refine ⟨l ++ [x], by simp [hl], fun i hi => ?_⟩
    by_cases hlt : i < l.length
    · rw [List.getElem_append_left hlt]; exact hq i hlt
    · have hin : i = n := by simp at hi; omega
      subst hin
      rw [List.getElem_append_right (by omega)]
      simpa [hl] using hx
section
variable {H : Type} {enc : TypeId × Value → H} {P : Program} {w : World} {base : Nat} {spare : Nat → Bool} {held : Bool}
/-- where the row of a slice that was read lies -/
theorem row_place {a : Addr} {len sz : Nat} (h0 : 0 < len) (hsz : 0 < sz) (hall : ∀ j, j < len → ∃ cs' : List Value, cs'.length = sz ∧ ∀ i, i < sz → w.cell? ((a.add (j * sz)).add i) = cs'[i]?) : ∃ b off, a = ⟨b, off, none⟩ ∧ b < w.heap.size := by
  obtain ⟨b, off, spot⟩ := a
  obtain ⟨cs', hcl, hat⟩ := hall 0 h0
  have z0 : w.cell? (((⟨b, off, spot⟩ : Addr).add (0 * sz)).add 0) = some (cs'[0]'(by omega)) := by rw [hat 0 hsz]; exact List.getElem?_eq_getElem _
  have hs : spot = none := by simpa [Addr.add] using World.cell?_spot z0
  subst hs
  refine ⟨b, off, rfl, ?_⟩
  by_cases hb : b < w.heap.size
  · exact hb
  · simp [World.cell?, Addr.add, Array.getElem?_eq_none (show w.heap.size ≤ b by omega)] at z0
theorem trod_eg {tY tI : TypeId} {g0 g1 g2 g3 : Field} (hY : P.underlying tY = some (.struct #[g0, g1, g2, g3])) (hI : P.underlying tI = some (.int .i64)) (hC : P.cellsOf tI = 1)
    (h0 : g0.type = tI) (h1 : g1.type = tI) (h2 : g2.type = tI) (h3 : g3.type = tI) (o0 : g0.offset = 0) (o1 : g1.offset = 1) (o2 : g2.offset = 2) (o3 : g3.offset = 3)
    {n : Nat} {c0 c1 c2 c3 : Value} {y : DataW H × List MemPlace} (h : DataW.trod enc P w base spare held n tY [c0, c1, c2, c3] = some y) :
    ∃ x : Eg, c0 = .int .i64 x.1 ∧ c1 = .int .i64 x.2.1 ∧ c2 = .int .i64 x.2.2.1 ∧ c3 = .int .i64 x.2.2.2 ∧ EgIn x := by
  obtain ⟨xs, n', -, hy, hcl, hxl, hf⟩ := DataW.trod_struct hY h
  match xs, hxl with
  | [z0, z1, z2, z3], _ =>
    have q0 := hf 0 g0 rfl
    have q1 := hf 1 g1 rfl
    have q2 := hf 2 g2 rfl
    have q3 := hf 3 g3 rfl
    rw [o0, h0, hC] at q0
    rw [o1, h1, hC] at q1
    rw [o2, h2, hC] at q2
    rw [o3, h3, hC] at q3
    simp only [List.drop_zero, List.drop_succ_cons, List.take_succ_cons, List.take_zero, List.getElem?_cons_zero, List.getElem?_cons_succ] at q0 q1 q2 q3
    obtain ⟨a, r0, -, w0⟩ := DataW.trod_int hI q0
    obtain ⟨b, r1, -, w1⟩ := DataW.trod_int hI q1
    obtain ⟨c, r2, -, w2⟩ := DataW.trod_int hI q2
    obtain ⟨d, r3, -, w3⟩ := DataW.trod_int hI q3
    simp at r0 r1 r2 r3
    exact ⟨(a, b, c, d), r0, r1, r2, r3, in_of_wf w0, in_of_wf w1, in_of_wf w2, in_of_wf w3⟩
/-- edges that came in -/
def EgArg (w : World) (v : Value) (l : List Eg) : Prop := EgV w v l ∧ (∀ e ∈ l, EgIn e) ∧ l.length ≤ maxLen
theorem open_egs {tYs tY tI : TypeId} {g0 g1 g2 g3 : Field} (hYs : P.underlying tYs = some (.slice tY)) (hY : P.underlying tY = some (.struct #[g0, g1, g2, g3])) (hI : P.underlying tI = some (.int .i64)) (hC : P.cellsOf tI = 1) (hCY : P.cellsOf tY = 4)
    (h0 : g0.type = tI) (h1 : g1.type = tI) (h2 : g2.type = tI) (h3 : g3.type = tI) (o0 : g0.offset = 0) (o1 : g1.offset = 1) (o2 : g2.offset = 2) (o3 : g3.offset = 3)
    {r : Reach} {b0 : Nat} {v : Value} {d : DataW H} {p : List MemPlace} (hv : Value.okWide P w r b0 tYs v) (h : DataW.Trod enc P w base spare held tYs v d p) : ∃ l, EgArg w v l := by
  obtain ⟨a0, len0, cap0, rfl⟩ := okWide_slice hYs hv
  obtain ⟨fuel, hf⟩ := h
  rcases open_slice hYs hf with ⟨hcs, -⟩ | ⟨a, len, cap, m, k, D, Pl, hcs, hb, hl, hm, hmm, -, hall⟩
  · simp [Value.cells] at hcs
    obtain ⟨rfl, rfl, rfl⟩ := hcs
    exact ⟨[], ⟨none, 0, rfl, fun j hj => absurd hj (by simp)⟩, fun x hx => (by cases hx), Nat.zero_le _⟩
  · simp [Value.cells] at hcs
    obtain ⟨rfl, rfl, rfl⟩ := hcs
    have hml : len0 ≤ m := by rw [hmm]; split <;> omega
    by_cases hz : len0 = 0
    · subst hz
      exact ⟨[], ⟨some a, cap0, rfl, fun j hj => absurd hj (by simp)⟩, fun x hx => (by cases hx), Nat.zero_le _⟩
    · have hrow : ∀ j, j < len0 → ∃ cs' : List Value, cs'.length = 4 ∧ (∀ i, i < 4 → w.cell? ((a.add (j * 4)).add i) = cs'[i]?) ∧ DataW.trod enc P w base spare held k tY cs' = some (D j, Pl j) := fun j hj => by
        obtain ⟨cs', hc, ht'⟩ := hall j (by omega)
        rw [hCY] at hc
        obtain ⟨-, hcl, hat⟩ := World.cells?_some hc
        exact ⟨cs', hcl, hat, ht'⟩
      obtain ⟨b, off, rfl, hlt⟩ := row_place (w := w) (a := a) (len := len0) (sz := 4) (Nat.pos_of_ne_zero hz) (by omega) (fun j hj => by obtain ⟨cs', q1, q2, -⟩ := hrow j hj; exact ⟨cs', q1, q2⟩)
      obtain ⟨l, hll, hq⟩ := list_of (fun j (x : Eg) => EgAt w b (off + j * 4) x ∧ EgIn x) len0 (fun j hj => by
        obtain ⟨cs', hcl, hat, ht'⟩ := hrow j hj
        match cs', hcl with
        | [c0, c1, c2, c3], _ =>
          obtain ⟨x, r0, r1, r2, r3, hx⟩ := trod_eg hY hI hC h0 h1 h2 h3 o0 o1 o2 o3 ht'
          subst r0 r1 r2 r3
          have z : ∀ i, i < 4 → w.cell? ⟨b, off + j * 4 + i, none⟩ = [Value.int .i64 x.1, .int .i64 x.2.1, .int .i64 x.2.2.1, .int .i64 x.2.2.2][i]? := fun i hi => by have := hat i hi; rwa [add_at, add_at] at this
          exact ⟨x, ⟨z 0 (by omega), z 1 (by omega), z 2 (by omega), z 3 (by omega)⟩, hx⟩)
      refine ⟨l, ⟨some ⟨b, off, none⟩, cap0, by rw [hll], fun j hj => ⟨b, off, rfl, hlt, (hq j hj).1⟩⟩, fun x hx => ?_, by omega⟩
      obtain ⟨i, hi, rfl⟩ := List.getElem_of_mem hx
      exact (hq i hi).2
/-- yes and no that came in -/
def BlArg (w : World) (v : Value) (m : Nat) (F : Nat → Bool) : Prop := BlV w v m F ∧ m ≤ maxLen
theorem open_bools {t e : TypeId} (ht : P.underlying t = some (.slice e)) (he : P.underlying e = some .bool) (hC : P.cellsOf e = 1) {r : Reach} {b0 : Nat} {v : Value} {d : DataW H} {p : List MemPlace}
    (hv : Value.okWide P w r b0 t v) (h : DataW.Trod enc P w base spare held t v d p) : ∃ m F, BlArg w v m F := by
  obtain ⟨a0, len0, cap0, rfl⟩ := okWide_slice ht hv
  obtain ⟨fuel, hf⟩ := h
  rcases open_slice ht hf with ⟨hcs, -⟩ | ⟨a, len, cap, m, k, D, Pl, hcs, hb, hl, hm, hmm, -, hall⟩
  · simp [Value.cells] at hcs
    obtain ⟨rfl, rfl, rfl⟩ := hcs
    exact ⟨0, fun _ => false, ⟨none, 0, rfl, fun j hj => absurd hj (by simp)⟩, Nat.zero_le _⟩
  · simp [Value.cells] at hcs
    obtain ⟨rfl, rfl, rfl⟩ := hcs
    have hml : len0 ≤ m := by rw [hmm]; split <;> omega
    by_cases hz : len0 = 0
    · subst hz
      exact ⟨0, fun _ => false, ⟨some a, cap0, rfl, fun j hj => absurd hj (by simp)⟩, Nat.zero_le _⟩
    · have hrow : ∀ j, j < len0 → ∃ cs' : List Value, cs'.length = 1 ∧ (∀ i, i < 1 → w.cell? ((a.add (j * 1)).add i) = cs'[i]?) ∧ DataW.trod enc P w base spare held k e cs' = some (D j, Pl j) := fun j hj => by
        obtain ⟨cs', hc, ht'⟩ := hall j (by omega)
        rw [hC] at hc
        obtain ⟨-, hcl, hat⟩ := World.cells?_some hc
        exact ⟨cs', hcl, hat, ht'⟩
      obtain ⟨b, off, rfl, hlt⟩ := row_place (w := w) (a := a) (len := len0) (sz := 1) (Nat.pos_of_ne_zero hz) (by omega) (fun j hj => by obtain ⟨cs', q1, q2, -⟩ := hrow j hj; exact ⟨cs', q1, q2⟩)
      obtain ⟨l, hll, hq⟩ := list_of (fun j (x : Bool) => w.cell? ⟨b, off + j, none⟩ = some (.bool x)) len0 (fun j hj => by
        obtain ⟨cs', hcl, hat, ht'⟩ := hrow j hj
        match cs', hcl with
        | [c0], _ =>
          obtain ⟨x, r0, -⟩ := DataW.trod_bool he ht'
          simp at r0
          subst r0
          have := hat 0 (by omega)
          rw [add_at, add_at, Nat.mul_one, Nat.add_zero] at this
          exact ⟨x, this⟩)
      refine ⟨len0, fun j => l.getD j false, ⟨some ⟨b, off, none⟩, cap0, rfl, fun j hj => ⟨b, off, rfl, hlt, ?_⟩⟩, by omega⟩
      have := hq j (by omega)
      show w.cell? _ = some (.bool (l.getD j false))
      rw [List.getD_eq_getElem?_getD, List.getElem?_eq_getElem (by omega)]
      exact this
/-- numbers that came in -/
def InArg (w : World) (v : Value) (l : List Int) : Prop := InV w v l ∧ l.length ≤ maxLen ∧ ∀ z ∈ l, In64 z
theorem open_nums {t e : TypeId} (ht : P.underlying t = some (.slice e)) (he : P.underlying e = some (.int .i64)) (hC : P.cellsOf e = 1) {r : Reach} {b0 : Nat} {v : Value} {d : DataW H} {p : List MemPlace}
    (hv : Value.okWide P w r b0 t v) (h : DataW.Trod enc P w base spare held t v d p) : ∃ l, InArg w v l := by
  obtain ⟨a0, len0, cap0, rfl⟩ := okWide_slice ht hv
  obtain ⟨fuel, hf⟩ := h
  rcases open_slice ht hf with ⟨hcs, -⟩ | ⟨a, len, cap, m, k, D, Pl, hcs, hb, hl, hm, hmm, -, hall⟩
  · simp [Value.cells] at hcs
    obtain ⟨rfl, rfl, rfl⟩ := hcs
    exact ⟨[], ⟨none, 0, rfl, fun j hj => absurd hj (by simp)⟩, Nat.zero_le _, fun z hz => by cases hz⟩
  · simp [Value.cells] at hcs
    obtain ⟨rfl, rfl, rfl⟩ := hcs
    have hml : len0 ≤ m := by rw [hmm]; split <;> omega
    by_cases hz : len0 = 0
    · subst hz
      exact ⟨[], ⟨some a, cap0, rfl, fun j hj => absurd hj (by simp)⟩, Nat.zero_le _, fun z hz => by cases hz⟩
    · have hrow : ∀ j, j < len0 → ∃ cs' : List Value, cs'.length = 1 ∧ (∀ i, i < 1 → w.cell? ((a.add (j * 1)).add i) = cs'[i]?) ∧ DataW.trod enc P w base spare held k e cs' = some (D j, Pl j) := fun j hj => by
        obtain ⟨cs', hc, ht'⟩ := hall j (by omega)
        rw [hC] at hc
        obtain ⟨-, hcl, hat⟩ := World.cells?_some hc
        exact ⟨cs', hcl, hat, ht'⟩
      obtain ⟨b, off, rfl, hlt⟩ := row_place (w := w) (a := a) (len := len0) (sz := 1) (Nat.pos_of_ne_zero hz) (by omega) (fun j hj => by obtain ⟨cs', q1, q2, -⟩ := hrow j hj; exact ⟨cs', q1, q2⟩)
      obtain ⟨l, hll, hq⟩ := list_of (fun j (x : Int) => w.cell? ⟨b, off + j, none⟩ = some (.int .i64 x) ∧ In64 x) len0 (fun j hj => by
        obtain ⟨cs', hcl, hat, ht'⟩ := hrow j hj
        match cs', hcl with
        | [c0], _ =>
          obtain ⟨x, r0, -, hw⟩ := DataW.trod_int he ht'
          simp at r0
          subst r0
          have := hat 0 (by omega)
          rw [add_at, add_at, Nat.mul_one, Nat.add_zero] at this
          exact ⟨x, this, in_of_wf hw⟩)
      refine ⟨l, ⟨some ⟨b, off, none⟩, cap0, by rw [hll], fun j hj => ⟨b, off, rfl, hlt, (hq j hj).1⟩⟩, by omega, fun z hz => ?_⟩
      obtain ⟨i, hi, rfl⟩ := List.getElem_of_mem hz
      exact (hq i hi).2
end
end Go.Proofs.Ytkhgpflpbdakoaa
