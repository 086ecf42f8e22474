/- A heap of objects and arrays, without a program and in memory: values, things, blocks of a call's own. -/
import Derived.Test.YtfkcjnlhindhfaaRows
import Derived.Test.YtfkcjnlhindhfaaShelf
import Derived.WalkKit
import Derived.WalkSpells
import Derived.WalkLawsBesides
import Derived.Lib.Hide
import Derived.Deep.QuietTactic
import Derived.BigQuiet
import Derived.Laws.IdiomCopy
import Derived.Laws.MakeOwn
import Derived.Laws.AppendOwn
import Derived.Outline
import Derived.Deep.RegionWith
import Derived.Deep.RegionLaw
import Derived.Deep.Onto
import Derived.Lib.AppendZeros
namespace Go.Proofs.Ytfkcjnlhindhfaa
open Go Go.RowKit
set_option linter.unusedVariables false
set_option linter.unusedSimpArgs false

theorem after {w b c : World} (h : Below w.heap.size w b) (k : Below b.heap.size b c) : Below w.heap.size w c := h.trans (k.mono h.size)
theorem keep {w w1 : World} {B o : Nat} {v : Value} (h : Below w.heap.size w w1) (hB : B < w.heap.size) (c : w.cell? ⟨B, o, none⟩ = some v) : w1.cell? ⟨B, o, none⟩ = some v :=
  (h.cell (p := ⟨B, o, none⟩) hB).trans c
theorem add_at (b off j : Nat) : (⟨b, off, none⟩ : Addr).add j = ⟨b, off + j, none⟩ := by unfold Addr.add; by_cases h : j = 0 <;> simp [h]
theorem lt_block {w : World} {b : Nat} {o : Obj} (h : w.heap[b]? = some o) : b < w.heap.size := (Array.getElem?_eq_some_iff.1 h).1
theorem cell_at {w : World} {g : Nat} {cur : Array Value} {T : TypeId} {fz : Nat × Nat} (h : w.heap[g]? = some (.cells cur T fz)) (j : Nat) : w.cell? ⟨g, j, none⟩ = cur[j]? := cell_of_row w g j cur T fz h

section
variable {α : Type} (c : α → List Value) (s : Nat) (hc : ∀ x, (c x).length = s)
include hc
theorem fm_len : ∀ L : List α, (L.flatMap c).length = L.length * s
  | [] => by simp
  | y :: L => by rw [List.flatMap_cons, List.length_append, fm_len L, hc, List.length_cons, Nat.add_mul]; omega
theorem fm_at : ∀ (L : List α) (i : Nat) (h : i < L.length) (j : Nat), j < s → (L.flatMap c)[i * s + j]? = (c L[i])[j]?
  | [], i, h, j, hj => absurd h (by simp)
  | y :: L, 0, h, j, hj => by
    rw [List.flatMap_cons, Nat.zero_mul, Nat.zero_add, List.getElem?_append_left (by rw [hc]; exact hj)]; rfl
  | y :: L, i + 1, h, j, hj => by
    have := fm_at L i (by simpa using h) j hj
    rw [List.flatMap_cons, List.getElem?_append_right (by rw [hc, Nat.add_mul]; omega), hc, show (i + 1) * s + j - s = i * s + j by rw [Nat.add_mul]; omega, this]
    rfl
theorem fm_parts (L : List α) (i : Nat) (h : i < L.length) : L.flatMap c = (L.take i).flatMap c ++ c L[i] ++ (L.drop (i + 1)).flatMap c ∧ ((L.take i).flatMap c).length = i * s := by
  refine ⟨?_, by rw [fm_len c s hc, List.length_take]; congr 1; omega⟩
  have e : L = L.take i ++ L[i] :: L.drop (i + 1) := by rw [List.getElem_cons_drop, List.take_append_drop]
  have := congrArg (List.flatMap c) e
  rw [List.flatMap_append, List.flatMap_cons, ← List.append_assoc] at this
  exact this
omit hc in
theorem fm_set (L : List α) (i : Nat) (h : i < L.length) (x : α) : (L.set i x).flatMap c = (L.take i).flatMap c ++ c x ++ (L.drop (i + 1)).flatMap c := by
  rw [List.set_eq_take_append_cons_drop, if_pos h]
  simp [List.flatMap_append, List.flatMap_cons, List.append_assoc]
end

/-- a value: kind, number, text -/
abbrev Vl := Int × Int × ByteArray
def vC (x : Vl) : List Value := [.int .i64 x.1, .int .i64 x.2.1, .string x.2.2]
def vA (x : Vl) : Value := .agg #[.int .i64 x.1, .int .i64 x.2.1, .string x.2.2]
def flatV (l : List Vl) : List Value := l.flatMap vC
theorem flatV_len (l : List Vl) : (flatV l).length = l.length * 3 := fm_len vC 3 (fun _ => rfl) l
theorem flatV_one (l : List Vl) : ∀ u ∈ flatV l, u.oneCell' = true := by
  intro u hu
  obtain ⟨y, hy, hu⟩ := List.mem_flatMap.1 hu
  unfold vC at hu
  simp only [List.mem_cons, List.not_mem_nil, or_false] at hu
  rcases hu with rfl | rfl | rfl <;> rfl

/-- does a type's last mark say that it is an option? -/
def lastO (M : ByteArray) : Bool := Lib.hasSuffix M.data.toList [111]
/-- the value that a type's fields have at first -/
def emptyV (B D : Int) (M : ByteArray) : Vl :=
  if lastO M = true then (8, 0, ⟨#[]⟩) else if 0 < D ∨ B = 5 ∨ B = 7 ∨ B = 8 then (7, 0, ⟨#[]⟩) else if B = 0 ∨ B = 6 then (0, 0, ⟨#[]⟩) else (B, 0, ⟨#[]⟩)
theorem emptyV_text (B D : Int) (M : ByteArray) : (emptyV B D M).2.2 = ⟨#[]⟩ ∧ (emptyV B D M).2.1 = 0 := by
  unfold emptyV
  split
  · exact ⟨rfl, rfl⟩
  · split
    · exact ⟨rfl, rfl⟩
    · split <;> exact ⟨rfl, rfl⟩

/-- a type: base, name, dims, marks -/
abbrev Ty4 := Int × ByteArray × Int × ByteArray
def tyC (t : Ty4) : List Value := [.int .i64 t.1, .string t.2.1, .int .i64 t.2.2.1, .string t.2.2.2]
def tyA (t : Ty4) : Value := .agg #[.int .i64 t.1, .string t.2.1, .int .i64 t.2.2.1, .string t.2.2.2]
def flatY (l : List Ty4) : List Value := l.flatMap tyC
def emptyT (t : Ty4) : Vl := emptyV t.1 t.2.2.1 t.2.2.2
/-- an object or an array -/
structure Th where
  arr : Bool
  cls : ByteArray
  ty : Ty4
  vs : List Vl
/-- .. and the block of its cells -/
abbrev ThR := Th × Nat
def thC (y : ThR) : List Value := [.bool y.1.arr, .string y.1.cls, .int .i64 y.1.ty.1, .string y.1.ty.2.1, .int .i64 y.1.ty.2.2.1, .string y.1.ty.2.2.2, .slice (some ⟨y.2, 0, none⟩) y.1.vs.length y.1.vs.length]
def flatT (L : List ThR) : List Value := L.flatMap thC
theorem flatT_len (l : List ThR) : (flatT l).length = l.length * 7 := fm_len thC 7 (fun _ => rfl) l
/-- a text that memory has room for -/
abbrev maxS : Nat := 281474976710656
structure ThFit (t : Th) : Prop where
  cls : t.cls.size ≤ maxS
  N : t.ty.2.1.size ≤ maxS
  M : t.ty.2.2.2.size ≤ maxS
  len : t.vs.length ≤ 65536
  vs : ∀ x ∈ t.vs, x.2.2.size ≤ maxS

/-- a block of some type that holds just these cells -/
def Bx (T : TypeId) (w : World) (b : Nat) (cs : List Value) : Prop := w.heap[b]? = some (.cells cs.toArray T (0, 0))
section
variable {T : TypeId} {w w' : World} {b : Nat} {cs : List Value}
theorem Bx.keep (h : Bx T w b cs) (hb : Below w.heap.size w w') : Bx T w' b cs := by
  unfold Bx at *; rw [hb.block b (lt_block h)]; exact h
theorem Bx.set (h : Bx T w b cs) (o : Nat) (v : Value) : Bx T (w.setCell ⟨b, o, none⟩ v) b (cs.set o v) := by
  unfold Bx at *
  rw [heap_setCell_same w b o _ _ v h]
  simp
theorem Bx.other (h : Bx T w b cs) {b' : Nat} (hne : b ≠ b') (o : Nat) (v : Value) : Bx T (w.setCell ⟨b', o, none⟩ v) b cs := by
  unfold Bx at *
  rw [heap_setCell_other w _ b v (by simpa using hne)]; exact h
theorem Bx.lt (h : Bx T w b cs) : b < w.heap.size := lt_block h
theorem Bx.cell (h : Bx T w b cs) (j : Nat) : w.cell? ⟨b, j, none⟩ = cs[j]? := by
  rw [cell_at h]; simp
theorem Bx.frozen (h : Bx T w b cs) (j : Nat) : w.frozen? ⟨b, j, none⟩ = false := by
  unfold World.frozen?
  rw [h]
  simp
theorem Bx.alloc (h : Bx T w b cs) (o : Obj) : Bx T (w.alloc o) b cs := h.keep ((Below.refl _ _).alloc (Nat.le_refl _) _)
theorem Bx.new (T : TypeId) (w : World) (cs : Array Value) : Bx T (w.alloc (.cells cs T)) w.heap.size cs.toList := by
  unfold Bx; rw [heap_alloc_new]
theorem Bx.two {u v : Value} (h : Bx T w b [u, v]) : w.cell? ⟨b, 0, none⟩ = some u ∧ w.cell? ⟨b, 1, none⟩ = some v ∧ b < w.heap.size ∧ ∀ j, w.frozen? ⟨b, j, none⟩ = false := ⟨h.cell 0, h.cell 1, h.lt, h.frozen⟩
theorem Bx.three {u v x : Value} (h : Bx T w b [u, v, x]) : w.cell? ⟨b, 0, none⟩ = some u ∧ w.cell? ⟨b, 1, none⟩ = some v ∧ w.cell? ⟨b, 2, none⟩ = some x ∧ b < w.heap.size ∧ ∀ j, w.frozen? ⟨b, j, none⟩ = false := ⟨h.cell 0, h.cell 1, h.cell 2, h.lt, h.frozen⟩
theorem Bx.four {u v x y : Value} (h : Bx T w b [u, v, x, y]) : w.cell? ⟨b, 0, none⟩ = some u ∧ w.cell? ⟨b, 1, none⟩ = some v ∧ w.cell? ⟨b, 2, none⟩ = some x ∧ w.cell? ⟨b, 3, none⟩ = some y ∧ b < w.heap.size ∧ ∀ j, w.frozen? ⟨b, j, none⟩ = false := ⟨h.cell 0, h.cell 1, h.cell 2, h.cell 3, h.lt, h.frozen⟩
theorem Bx.at_ (h : Bx T w b cs) {k : Nat} (hk : w'.heap[b]? = w.heap[b]?) : Bx T w' b cs := by unfold Bx at *; rw [hk]; exact h
theorem Bx.ne {T' : TypeId} {b' : Nat} {cs' : List Value} (h : Bx T w b cs) (h' : Bx T' w b' cs') (hT : T ≠ T') : b ≠ b' := fun e => by
  subst e
  unfold Bx at h h'
  rw [h] at h'
  simp at h'
  exact hT h'.2
end

/-- 'setCells' over a part of a row -/
theorem row_set {T : TypeId} {fz : Nat × Nat} (g : Nat) : ∀ (vs : List Value) (o : Nat) (w : World) (cur : Array Value), w.heap[g]? = some (.cells cur T fz) →
    ∃ cur', (w.setCells g o vs).heap[g]? = some (.cells cur' T fz) ∧ cur'.size = cur.size ∧ (∀ j, j < vs.length → o + j < cur.size → cur'[o + j]? = vs[j]?) ∧ (∀ i, (i < o ∨ o + vs.length ≤ i) → cur'[i]? = cur[i]?)
  | [], o, w, cur, h => ⟨cur, h, rfl, fun j hj => absurd hj (by simp), fun i _ => rfl⟩
  | v :: vs, o, w, cur, h => by
    have h1 : (w.setCell ⟨g, o, none⟩ v).heap[g]? = some (.cells (cur.setIfInBounds o v) T fz) := by
      simp only [World.setCell, Array.getElem?_modify, if_pos, h, Option.map_some]
      rfl
    obtain ⟨cur', a1, a2, a3, a4⟩ := row_set g vs (o + 1) (w.setCell ⟨g, o, none⟩ v) _ h1
    refine ⟨cur', a1, by rw [a2]; simp, ?_, ?_⟩
    · intro j hj hjs
      match j with
      | 0 =>
        rw [a4 _ (.inl (by omega)), Nat.add_zero, Array.getElem?_setIfInBounds, if_pos rfl, if_pos (by omega)]
        rfl
      | j + 1 =>
        have := a3 j (by simpa using hj) (by rw [Array.size_setIfInBounds]; omega)
        rw [show o + (j + 1) = o + 1 + j by omega, this]
        simp
    · intro i hi
      rw [a4 i (by simp at hi; omega)]
      rw [Array.getElem?_setIfInBounds, if_neg (by simp at hi; omega)]
theorem fill_below {B : Nat} (g : Nat) (hg : B ≤ g) : ∀ (vs : List Value) (o : Nat) (w : World), Below B w (w.setCells g o vs)
  | [], o, w => Below.refl _ _
  | v :: vs, o, w => ((Below.refl B w).setCell (p := ⟨g, o, none⟩) hg v).trans (fill_below g hg vs (o + 1) _)
theorem set_other (g k : Nat) (hk : k ≠ g) : ∀ (vs : List Value) (o : Nat) (w : World), (w.setCells g o vs).heap[k]? = w.heap[k]?
  | [], o, w => rfl
  | v :: vs, o, w => (set_other g k hk vs (o + 1) _).trans (heap_setCell_other w _ k v (by simpa using hk))
theorem set_size (g : Nat) : ∀ (vs : List Value) (o : Nat) (w : World), (w.setCells g o vs).heap.size = w.heap.size
  | [], o, w => rfl
  | v :: vs, o, w => (set_size g vs (o + 1) _).trans (by simp [World.setCell])
/-- cells over a part of a row -/
theorem Bx.part {T : TypeId} {w : World} {g : Nat} {A X C : List Value} (h : Bx T w g (A ++ X ++ C)) (Y : List Value) (hl : Y.length = X.length) : Bx T (w.setCells g A.length Y) g (A ++ Y ++ C) := by
  unfold Bx at *
  obtain ⟨cur, a1, a2, a3, a4⟩ := row_set g Y A.length w _ h
  rw [a1]
  congr 2
  have hs : cur.size = A.length + X.length + C.length := by rw [a2]; simp; omega
  apply Array.ext_getElem?
  intro i
  by_cases h1 : i < A.length
  · rw [a4 i (.inl h1)]
    simp only [List.getElem?_toArray]
    rw [List.append_assoc, List.append_assoc, List.getElem?_append_left h1, List.getElem?_append_left h1]
  · by_cases h2 : i < A.length + Y.length
    · have := a3 (i - A.length) (by omega) (by simp; omega)
      rw [show A.length + (i - A.length) = i by omega] at this
      rw [this]
      simp only [List.getElem?_toArray]
      rw [List.append_assoc, List.getElem?_append_right (by omega), List.getElem?_append_left (by omega)]
    · rw [a4 i (.inr (by omega))]
      simp only [List.getElem?_toArray]
      rw [List.getElem?_append_right (by simp; omega), List.getElem?_append_right (by simp; omega)]
      simp [hl]
/-- one value of a row over another -/
theorem Bx.vset {T : TypeId} {w : World} {g : Nat} {l : List Vl} (h : Bx T w g (flatV l)) (i : Nat) (hi : i < l.length) (x : Vl) : Bx T (w.setCells g (i * 3) (vC x)) g (flatV (l.set i x)) := by
  obtain ⟨e, el⟩ := fm_parts vC 3 (fun _ => rfl) l i hi
  unfold flatV at *
  rw [e] at h
  have := h.part (vC x) rfl
  rw [el] at this
  rw [fm_set vC l i hi]
  exact this
theorem Bx.vcells {T : TypeId} {w : World} {g : Nat} {l : List Vl} (h : Bx T w g (flatV l)) (i : Nat) (hi : i < l.length) :
    w.cell? ⟨g, i * 3, none⟩ = some (.int .i64 l[i].1) ∧ w.cell? ⟨g, i * 3 + 1, none⟩ = some (.int .i64 l[i].2.1) ∧ w.cell? ⟨g, i * 3 + 2, none⟩ = some (.string l[i].2.2) := by
  have k : ∀ j, j < 3 → w.cell? ⟨g, i * 3 + j, none⟩ = (vC l[i])[j]? := fun j hj => by rw [h.cell]; exact fm_at vC 3 (fun _ => rfl) l i hi j hj
  exact ⟨k 0 (by omega), k 1 (by omega), k 2 (by omega)⟩
/-- no values yet: so many zero ones -/
def zeroV (n : Nat) : List Vl := List.replicate n (0, 0, ⟨#[]⟩)
theorem ownsRow_step {w w' : World} {B : Nat} {e : TypeId} {s : Nat} {v : Value} {n : Nat} {xs : List Value} (h : w.ownsRow B e s v n xs) (hb : Below w.heap.size w w') : w'.ownsRow B e s v n xs :=
  h.kept (row := none) ⟨hb.os, hb.tape, hb.output, hb.size, fun k hk _ => hb.block k hk⟩ (by cases v.ownBlock <;> simp)
theorem own_shape {w : World} {B n : Nat} {e : TypeId} {s : Nat} {v : Value} {xs : List Value} (h : w.ownsRow B e s v (n + 1) xs) : ∃ g c, v = .slice (some ⟨g, 0, none⟩) (n + 1) c := by
  rcases h.2 with ⟨_, q⟩ | ⟨g, cap, cur, hv, _⟩
  · omega
  · exact ⟨g, cap, hv⟩
theorem own_any_shape {w : World} {B n : Nat} {e : TypeId} {s : Nat} {v : Value} {xs : List Value} (h : w.ownsRow B e s v n xs) : ∃ g c, v = .slice g n c := by
  rcases h.2 with ⟨hv, h0⟩ | ⟨g, cap, cur, hv, _⟩
  · exact ⟨none, 0, by rw [hv, h0]⟩
  · exact ⟨_, cap, hv⟩
/-- a row is behind a block of another type -/
theorem own_ne {w : World} {B n : Nat} {e T : TypeId} {s : Nat} {v : Value} {xs : List Value} {k : Nat} {c : Array Value} {fz : Nat × Nat} (h : w.ownsRow B e s v n xs) (hk : w.heap[k]? = some (.cells c T fz)) (hT : T ≠ e) : some k ≠ v.ownBlock := by
  rcases h.2 with ⟨rfl, _⟩ | ⟨g, cap, cur, rfl, _, hg, _⟩
  · simp [Value.ownBlock]
  · intro q
    simp [Value.ownBlock] at q
    subst q
    rw [hk] at hg
    simp at hg
    exact hT hg.2.1

/-- a heap in memory: its box, the row of its things, their cells -/
structure HpM (w : World) (B b : Nat) (L : List ThR) (n : Nat) (v : Value) : Prop where
  base : B ≤ b
  box : Bx 26 w b [v, .int .i64 n]
  own : w.ownsRow B 69 7 v L.length (flatT L)
  cells : ∀ y ∈ L, B ≤ y.2 ∧ Bx 32 w y.2 (flatV y.1.vs)
  nod : (L.map (·.2)).Nodup
  ll : L.length ≤ 4096
  ln : n ≤ 65536
  fit : ∀ y ∈ L, ThFit y.1
theorem HpM.step {w w' : World} {B b : Nat} {L : List ThR} {n : Nat} {v : Value} (h : HpM w B b L n v) (hb : Below w.heap.size w w') : HpM w' B b L n v :=
  ⟨h.base, h.box.keep hb, ownsRow_step h.own hb, fun y hy => ⟨(h.cells y hy).1, (h.cells y hy).2.keep hb⟩, h.nod, h.ll, h.ln, h.fit⟩
theorem HpM.new (w : World) : HpM (w.alloc (.cells #[.slice none 0 0, .int .i64 0] 26)) w.heap.size w.heap.size [] 0 (.slice none 0 0) :=
  ⟨Nat.le_refl _, Bx.new 26 w _, World.ownsRow_nil _ _ _ _, (fun y hy => by cases hy), by simp, by simp, by omega, (fun y hy => by cases hy)⟩
/-- only a heap's box and its row have changed -/
def KeptT (w w' : World) (b : Nat) : Prop := w.heap.size ≤ w'.heap.size ∧ ∀ k c U fz, w.heap[k]? = some (.cells c U fz) → U ≠ 69 → k ≠ b → w'.heap[k]? = w.heap[k]?
theorem KeptT.refl (w : World) (b : Nat) : KeptT w w b := ⟨Nat.le_refl _, fun _ _ _ _ _ _ _ => rfl⟩
theorem KeptT.of_below {w w' : World} (b : Nat) (h : Below w.heap.size w w') : KeptT w w' b := ⟨h.size, fun k c U fz hk hU hb => h.block k (lt_block hk)⟩
theorem KeptT.trans {w w1 w2 : World} {b : Nat} (h : KeptT w w1 b) (h2 : KeptT w1 w2 b) : KeptT w w2 b := ⟨Nat.le_trans h.1 h2.1, fun k c U fz hk hU hb => by
  have e1 := h.2 k c U fz hk hU hb
  exact (h2.2 k c U fz (by rw [e1]; exact hk) hU hb).trans e1⟩
theorem KeptT.bx {w w' : World} {b k : Nat} {T : TypeId} {cs : List Value} (h : KeptT w w' b) (hk : Bx T w k cs) (hT : T ≠ 69) (hb : k ≠ b) : Bx T w' k cs := by
  unfold Bx at *; rw [h.2 k _ T _ hk hT hb]; exact hk
end Go.Proofs.Ytfkcjnlhindhfaa
