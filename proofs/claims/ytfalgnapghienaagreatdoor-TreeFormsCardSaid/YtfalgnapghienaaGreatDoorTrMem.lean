/- Nodes in memory: lists of whole numbers, nodes one behind the other; what a call makes anew. -/
import Derived.Test.YtfalgnapghienaaGreatDoorTyB
import Derived.Test.YtfalgnapghienaaGreatDoorTrFacts
import Derived.Laws.IdiomCopy
import Derived.Laws.MakeOwn
import Derived.Laws.AppendOwn
namespace Go.Proofs.YtfalgnapghienaaGreatDoor
open Go Go.RowKit
set_option linter.unusedVariables false
set_option linter.unusedSimpArgs false

theorem keep {w w1 : World} {B o : Nat} {v : Value} (h : Below w.heap.size w w1) (hB : B < w.heap.size) (c : w.cell? ⟨B, o, none⟩ = some v) : w1.cell? ⟨B, o, none⟩ = some v :=
  (h.cell (p := ⟨B, o, none⟩) hB).trans c
theorem add_at (b off j : Nat) : (⟨b, off, none⟩ : Addr).add j = ⟨b, off + j, none⟩ := by unfold Addr.add; by_cases h : j = 0 <;> simp [h]
theorem lt_block {w : World} {b : Nat} {o : Obj} (h : w.heap[b]? = some o) : b < w.heap.size := (Array.getElem?_eq_some_iff.1 h).1
theorem cell_at {w : World} {g : Nat} {cur : Array Value} {T : TypeId} {fz : Nat × Nat} (h : w.heap[g]? = some (.cells cur T fz)) (j : Nat) : w.cell? ⟨g, j, none⟩ = cur[j]? := cell_of_row w g j cur T fz h

/-- whole numbers in memory, from a place on -/
def NumsAt (w : World) (b off : Nat) (l : List Int) : Prop := ∀ i (h : i < l.length), w.cell? ⟨b, off + i, none⟩ = some (.int .i64 l[i])
/-- a list of whole numbers, nil or not -/
def NumsIn (w : World) (src : Option Addr) (l : List Int) : Prop := 0 < l.length → ∃ b off, src = some ⟨b, off, none⟩ ∧ b < w.heap.size ∧ NumsAt w b off l
/-- .. as a value -/
def NumsV (w : World) (v : Value) (l : List Int) : Prop := ∃ src cap, v = .slice src l.length cap ∧ NumsIn w src l
theorem NumsIn.step {w w' : World} {src : Option Addr} {l : List Int} (h : NumsIn w src l) (hb : Below w.heap.size w w') : NumsIn w' src l := fun h0 => by
  obtain ⟨b, off, h1, h2, h3⟩ := h h0
  exact ⟨b, off, h1, Nat.lt_of_lt_of_le h2 hb.size, fun i hi => keep hb h2 (h3 i hi)⟩
theorem NumsV.step {w w' : World} {v : Value} {l : List Int} (h : NumsV w v l) (hb : Below w.heap.size w w') : NumsV w' v l := by
  obtain ⟨src, cap, h1, h2⟩ := h
  exact ⟨src, cap, h1, h2.step hb⟩

/-- a node's cells, its two lists as values -/
def ndL (x : Nd) (kv ev : Value) : List Value := [.int .i64 x.kind, .int .i64 x.sf, .int .i64 x.st, kv, .string x.text, .int .i64 x.B, .string x.N, .int .i64 x.D, .string x.M, .int .i64 x.num, .int .i64 x.wf, .int .i64 x.wt, ev]
/-- a node in memory, from a place on -/
structure NdAt (w : World) (b o : Nat) (x : Nd) (kv ev : Value) : Prop where
  kids : NumsV w kv x.kids
  ends : NumsV w ev x.ends
  c0 : w.cell? ⟨b, o, none⟩ = some (.int .i64 x.kind)
  c1 : w.cell? ⟨b, o + 1, none⟩ = some (.int .i64 x.sf)
  c2 : w.cell? ⟨b, o + 2, none⟩ = some (.int .i64 x.st)
  c3 : w.cell? ⟨b, o + 3, none⟩ = some kv
  c4 : w.cell? ⟨b, o + 4, none⟩ = some (.string x.text)
  c5 : w.cell? ⟨b, o + 5, none⟩ = some (.int .i64 x.B)
  c6 : w.cell? ⟨b, o + 6, none⟩ = some (.string x.N)
  c7 : w.cell? ⟨b, o + 7, none⟩ = some (.int .i64 x.D)
  c8 : w.cell? ⟨b, o + 8, none⟩ = some (.string x.M)
  c9 : w.cell? ⟨b, o + 9, none⟩ = some (.int .i64 x.num)
  c10 : w.cell? ⟨b, o + 10, none⟩ = some (.int .i64 x.wf)
  c11 : w.cell? ⟨b, o + 11, none⟩ = some (.int .i64 x.wt)
  c12 : w.cell? ⟨b, o + 12, none⟩ = some ev
theorem NdAt.step {w w' : World} {b o : Nat} {x : Nd} {kv ev : Value} (h : NdAt w b o x kv ev) (hB : b < w.heap.size) (hb : Below w.heap.size w w') : NdAt w' b o x kv ev :=
  ⟨h.kids.step hb, h.ends.step hb, keep hb hB h.c0, keep hb hB h.c1, keep hb hB h.c2, keep hb hB h.c3, keep hb hB h.c4, keep hb hB h.c5, keep hb hB h.c6, keep hb hB h.c7, keep hb hB h.c8, keep hb hB h.c9, keep hb hB h.c10, keep hb hB h.c11, keep hb hB h.c12⟩
theorem NdAt.of_list {w : World} {b o : Nat} {x : Nd} {kv ev : Value} (h1 : NumsV w kv x.kids) (h2 : NumsV w ev x.ends) (h : ∀ j u, (ndL x kv ev)[j]? = some u → w.cell? ⟨b, o + j, none⟩ = some u) : NdAt w b o x kv ev :=
  ⟨h1, h2, h 0 _ rfl, h 1 _ rfl, h 2 _ rfl, h 3 _ rfl, h 4 _ rfl, h 5 _ rfl, h 6 _ rfl, h 7 _ rfl, h 8 _ rfl, h 9 _ rfl, h 10 _ rfl, h 11 _ rfl, h 12 _ rfl⟩
theorem NdAt.list {w : World} {b o : Nat} {x : Nd} {kv ev : Value} (h : NdAt w b o x kv ev) : ∀ j u, (ndL x kv ev)[j]? = some u → w.cell? ⟨b, o + j, none⟩ = some u := by
  intro j u hj
  obtain ⟨-, -, c0, c1, c2, c3, c4, c5, c6, c7, c8, c9, c10, c11, c12⟩ := h
  unfold ndL at hj
  match j, hj with
  | 0, hj => simp at hj; subst hj; exact c0
  | 1, hj => simp at hj; subst hj; exact c1
  | 2, hj => simp at hj; subst hj; exact c2
  | 3, hj => simp at hj; subst hj; exact c3
  | 4, hj => simp at hj; subst hj; exact c4
  | 5, hj => simp at hj; subst hj; exact c5
  | 6, hj => simp at hj; subst hj; exact c6
  | 7, hj => simp at hj; subst hj; exact c7
  | 8, hj => simp at hj; subst hj; exact c8
  | 9, hj => simp at hj; subst hj; exact c9
  | 10, hj => simp at hj; subst hj; exact c10
  | 11, hj => simp at hj; subst hj; exact c11
  | 12, hj => simp at hj; subst hj; exact c12
  | j + 13, hj => simp at hj
/-- nodes one behind the other -/
def NdsAt (w : World) (b off : Nat) (l : List Nd) : Prop := ∀ i (h : i < l.length), ∃ kv ev, NdAt w b (off + i * 13) l[i] kv ev
def NdsIn (w : World) (src : Option Addr) (l : List Nd) : Prop := 0 < l.length → ∃ b off, src = some ⟨b, off, none⟩ ∧ b < w.heap.size ∧ NdsAt w b off l
def NdsV (w : World) (v : Value) (l : List Nd) : Prop := ∃ src cap, v = .slice src l.length cap ∧ NdsIn w src l
theorem NdsAt.step {w w' : World} {b off : Nat} {l : List Nd} (h : NdsAt w b off l) (hB : b < w.heap.size) (hb : Below w.heap.size w w') : NdsAt w' b off l := fun i hi => by
  obtain ⟨kv, ev, h1⟩ := h i hi
  exact ⟨kv, ev, h1.step hB hb⟩
theorem NdsIn.step {w w' : World} {src : Option Addr} {l : List Nd} (h : NdsIn w src l) (hb : Below w.heap.size w w') : NdsIn w' src l := fun h0 => by
  obtain ⟨b, off, h1, h2, h3⟩ := h h0
  exact ⟨b, off, h1, Nat.lt_of_lt_of_le h2 hb.size, h3.step h2 hb⟩
theorem NdsV.step {w w' : World} {v : Value} {l : List Nd} (h : NdsV w v l) (hb : Below w.heap.size w w') : NdsV w' v l := by
  obtain ⟨src, cap, h1, h2⟩ := h
  exact ⟨src, cap, h1, h2.step hb⟩
theorem NdsV.nil (w : World) : NdsV w (.slice none 0 0) [] := ⟨none, 0, rfl, fun h => absurd h (by simp)⟩

/-- whole numbers as cells -/
def numC (l : List Int) : List Value := l.map (Value.int .i64)
/-- a list of whole numbers that a call made, in a block of its own, from block B on; nil, if it is empty -/
def NewNums (w : World) (B : Nat) (v : Value) (l : List Int) : Prop :=
  (l = [] ∧ v = .slice none 0 0) ∨ (0 < l.length ∧ ∃ g, v = .slice (some ⟨g, 0, none⟩) l.length l.length ∧ B ≤ g ∧ w.heap[g]? = some (.cells (numC l).toArray 3 (0, 0)))
theorem NewNums.nums {w : World} {B : Nat} {v : Value} {l : List Int} (h : NewNums w B v l) : NumsV w v l := by
  rcases h with ⟨rfl, rfl⟩ | ⟨h0, g, rfl, hB, hg⟩
  · exact ⟨none, 0, rfl, fun h => absurd h (by simp)⟩
  · refine ⟨some ⟨g, 0, none⟩, l.length, rfl, fun _ => ⟨g, 0, rfl, lt_block hg, fun i hi => ?_⟩⟩
    rw [cell_at hg, Nat.zero_add]
    simp [numC, hi]
theorem NewNums.mono {w : World} {B B' : Nat} {v : Value} {l : List Int} (h : NewNums w B v l) (hB : B' ≤ B) : NewNums w B' v l := by
  rcases h with h | ⟨h0, g, h1, h2, h3⟩
  · exact .inl h
  · exact .inr ⟨h0, g, h1, Nat.le_trans hB h2, h3⟩
/-- it stays where its block stays -/
theorem NewNums.kept {w w' : World} {B : Nat} {v : Value} {l : List Int} (h : NewNums w B v l) (hk : ∀ g cur, w.heap[g]? = some (.cells cur 3 (0, 0)) → B ≤ g → w'.heap[g]? = w.heap[g]?) : NewNums w' B v l := by
  rcases h with h | ⟨h0, g, h1, h2, h3⟩
  · exact .inl h
  · exact .inr ⟨h0, g, h1, h2, by rw [hk g _ h3 h2]; exact h3⟩
theorem NewNums.step {w w' : World} {B : Nat} {v : Value} {l : List Int} (h : NewNums w B v l) (hb : Below w.heap.size w w') : NewNums w' B v l :=
  h.kept fun g cur hg _ => hb.block g (lt_block hg)

/-- 'setCells' over a whole row -/
theorem row_set {T : TypeId} {fz : Nat × Nat} (g : Nat) : ∀ (vs : List Value) (o : Nat) (w : World) (cur : Array Value), w.heap[g]? = some (.cells cur T fz) →
    ∃ cur', (w.setCells g o vs).heap[g]? = some (.cells cur' T fz) ∧ cur'.size = cur.size ∧ (∀ j, j < vs.length → o + j < cur.size → cur'[o + j]? = vs[j]?) ∧ (∀ i, (i < o ∨ o + vs.length ≤ i) → cur'[i]? = cur[i]?)
  | [], o, w, cur, h => ⟨cur, h, rfl, fun j hj => absurd hj (by simp), fun i _ => rfl⟩
  | v :: vs, o, w, cur, h => by
    have h1 : (w.setCell ⟨g, o, none⟩ v).heap[g]? = some (.cells (cur.setIfInBounds o v) T fz) := by
      simp only [World.setCell, Array.getElem?_modify, if_pos, h, Option.map_some]
      rfl
    obtain ⟨cur', a1, a2, a3, a4⟩ := row_set g vs (o + 1) (w.setCell ⟨g, o, none⟩ v) _ h1
    refine ⟨cur', a1, by rw [a2]; simp, ?_, ?_⟩
    · intro j hj hjs
      match j with
      | 0 =>
        rw [a4 _ (.inl (by omega)), Nat.add_zero, Array.getElem?_setIfInBounds, if_pos rfl, if_pos (by omega)]
        rfl
      | j + 1 =>
        have := a3 j (by simpa using hj) (by rw [Array.size_setIfInBounds]; omega)
        rw [show o + (j + 1) = o + 1 + j by omega, this]
        simp
    · intro i hi
      rw [a4 i (by simp at hi; omega)]
      rw [Array.getElem?_setIfInBounds, if_neg (by simp at hi; omega)]
theorem row_fill {T : TypeId} {fz : Nat × Nat} (g : Nat) (vs : List Value) (w : World) (cur : Array Value) (h : w.heap[g]? = some (.cells cur T fz)) (hn : cur.size = vs.length) :
    (w.setCells g 0 vs).heap[g]? = some (.cells vs.toArray T fz) := by
  obtain ⟨cur', a1, a2, a3, -⟩ := row_set g vs 0 w cur h
  rw [a1]
  congr 2
  apply Array.ext_getElem?
  intro i
  by_cases hi : i < vs.length
  · have := a3 i hi (by omega)
    rw [Nat.zero_add] at this
    rw [this]; simp
  · rw [Array.getElem?_eq_none (by omega), Array.getElem?_eq_none (by simp; omega)]
theorem fill_below {B : Nat} (g : Nat) (hg : B ≤ g) : ∀ (vs : List Value) (o : Nat) (w : World), Below B w (w.setCells g o vs)
  | [], o, w => Below.refl _ _
  | v :: vs, o, w => ((Below.refl B w).setCell (p := ⟨g, o, none⟩) hg v).trans (fill_below g hg vs (o + 1) _)
end Go.Proofs.YtfalgnapghienaaGreatDoor
