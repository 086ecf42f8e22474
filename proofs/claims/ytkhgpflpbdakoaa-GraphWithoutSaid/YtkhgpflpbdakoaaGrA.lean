/- Graphs in memory: maps as functions of their keys, edges, the graph's own blocks. -/
import Derived.Test.YtkhgpflpbdakoaaRows
import Derived.WalkKit
import Derived.WalkSpells
import Derived.WalkLawsBesides
import Derived.Lib.Hide
import Derived.Deep.QuietTactic
import Derived.BigQuiet
import Derived.Laws.IdiomCopy
import Derived.Laws.MakeOwn
import Derived.Laws.AppendOwn
import Derived.Outline
import Derived.Deep.RegionWith
import Derived.Deep.RegionLaw
import Derived.Deep.RegionHeld3
import Derived.Deep.AppendLies
import Derived.Deep.Onto
import Derived.Lib.AppendZeros
import Derived.Maps.OwnSet
import Derived.Maps.AppendAt
import Derived.DeepKeys5
namespace Go.Proofs.Ytkhgpflpbdakoaa
open Go Go.RowKit
set_option linter.unusedVariables false
set_option linter.unusedSimpArgs false

theorem after {w b c : World} (h : Below w.heap.size w b) (k : Below b.heap.size b c) : Below w.heap.size w c := h.trans (k.mono h.size)
theorem keep {w w1 : World} {B o : Nat} {v : Value} (h : Below w.heap.size w w1) (hB : B < w.heap.size) (c : w.cell? ⟨B, o, none⟩ = some v) : w1.cell? ⟨B, o, none⟩ = some v :=
  (h.cell (p := ⟨B, o, none⟩) hB).trans c
theorem add_at (b off j : Nat) : (⟨b, off, none⟩ : Addr).add j = ⟨b, off + j, none⟩ := by unfold Addr.add; by_cases h : j = 0 <;> simp [h]
theorem lt_block {w : World} {b : Nat} {o : Obj} (h : w.heap[b]? = some o) : b < w.heap.size := (Array.getElem?_eq_some_iff.1 h).1
theorem cell_at {w : World} {g : Nat} {cur : Array Value} {T : TypeId} {fz : Nat × Nat} (h : w.heap[g]? = some (.cells cur T fz)) (j : Nat) : w.cell? ⟨g, j, none⟩ = cur[j]? := cell_of_row w g j cur T fz h

section
variable {α : Type} (c : α → List Value) (s : Nat) (hc : ∀ x, (c x).length = s)
include hc
theorem fm_len : ∀ L : List α, (L.flatMap c).length = L.length * s
  | [] => by simp
  | y :: L => by rw [List.flatMap_cons, List.length_append, fm_len L, hc, List.length_cons, Nat.add_mul]; omega
theorem fm_at : ∀ (L : List α) (i : Nat) (h : i < L.length) (j : Nat), j < s → (L.flatMap c)[i * s + j]? = (c L[i])[j]?
  | [], i, h, j, hj => absurd h (by simp)
  | y :: L, 0, h, j, hj => by
    rw [List.flatMap_cons, Nat.zero_mul, Nat.zero_add, List.getElem?_append_left (by rw [hc]; exact hj)]; rfl
  | y :: L, i + 1, h, j, hj => by
    have := fm_at L i (by simpa using h) j hj
    rw [List.flatMap_cons, List.getElem?_append_right (by rw [hc, Nat.add_mul]; omega), hc, show (i + 1) * s + j - s = i * s + j by rw [Nat.add_mul]; omega, this]
    rfl
theorem fm_parts (L : List α) (i : Nat) (h : i < L.length) : L.flatMap c = (L.take i).flatMap c ++ c L[i] ++ (L.drop (i + 1)).flatMap c ∧ ((L.take i).flatMap c).length = i * s := by
  refine ⟨?_, by rw [fm_len c s hc, List.length_take]; congr 1; omega⟩
  have e : L = L.take i ++ L[i] :: L.drop (i + 1) := by rw [List.getElem_cons_drop, List.take_append_drop]
  have := congrArg (List.flatMap c) e
  rw [List.flatMap_append, List.flatMap_cons, ← List.append_assoc] at this
  exact this
omit hc in
theorem fm_set (L : List α) (i : Nat) (h : i < L.length) (x : α) : (L.set i x).flatMap c = (L.take i).flatMap c ++ c x ++ (L.drop (i + 1)).flatMap c := by
  rw [List.set_eq_take_append_cons_drop, if_pos h]
  simp [List.flatMap_append, List.flatMap_cons, List.append_assoc]
end

/-- a block of some type that holds just these cells -/
def Bx (T : TypeId) (w : World) (b : Nat) (cs : List Value) : Prop := w.heap[b]? = some (.cells cs.toArray T (0, 0))
section
variable {T : TypeId} {w w' : World} {b : Nat} {cs : List Value}
theorem Bx.keep (h : Bx T w b cs) (hb : Below w.heap.size w w') : Bx T w' b cs := by
  unfold Bx at *; rw [hb.block b (lt_block h)]; exact h
theorem Bx.set (h : Bx T w b cs) (o : Nat) (v : Value) : Bx T (w.setCell ⟨b, o, none⟩ v) b (cs.set o v) := by
  unfold Bx at *
  rw [heap_setCell_same w b o _ _ v h]
  simp
theorem Bx.other (h : Bx T w b cs) {b' : Nat} (hne : b ≠ b') (o : Nat) (v : Value) : Bx T (w.setCell ⟨b', o, none⟩ v) b cs := by
  unfold Bx at *
  rw [heap_setCell_other w _ b v (by simpa using hne)]; exact h
theorem Bx.lt (h : Bx T w b cs) : b < w.heap.size := lt_block h
theorem Bx.cell (h : Bx T w b cs) (j : Nat) : w.cell? ⟨b, j, none⟩ = cs[j]? := by
  rw [cell_at h]; simp
theorem Bx.frozen (h : Bx T w b cs) (j : Nat) : w.frozen? ⟨b, j, none⟩ = false := by
  unfold World.frozen?
  rw [h]
  simp
theorem Bx.alloc (h : Bx T w b cs) (o : Obj) : Bx T (w.alloc o) b cs := h.keep ((Below.refl _ _).alloc (Nat.le_refl _) _)
theorem Bx.new (T : TypeId) (w : World) (cs : Array Value) : Bx T (w.alloc (.cells cs T)) w.heap.size cs.toList := by
  unfold Bx; rw [heap_alloc_new]
theorem Bx.two {u v : Value} (h : Bx T w b [u, v]) : w.cell? ⟨b, 0, none⟩ = some u ∧ w.cell? ⟨b, 1, none⟩ = some v ∧ b < w.heap.size ∧ ∀ j, w.frozen? ⟨b, j, none⟩ = false := ⟨h.cell 0, h.cell 1, h.lt, h.frozen⟩
theorem Bx.three {u v x : Value} (h : Bx T w b [u, v, x]) : w.cell? ⟨b, 0, none⟩ = some u ∧ w.cell? ⟨b, 1, none⟩ = some v ∧ w.cell? ⟨b, 2, none⟩ = some x ∧ b < w.heap.size ∧ ∀ j, w.frozen? ⟨b, j, none⟩ = false := ⟨h.cell 0, h.cell 1, h.cell 2, h.lt, h.frozen⟩
theorem Bx.four {u v x y : Value} (h : Bx T w b [u, v, x, y]) : w.cell? ⟨b, 0, none⟩ = some u ∧ w.cell? ⟨b, 1, none⟩ = some v ∧ w.cell? ⟨b, 2, none⟩ = some x ∧ w.cell? ⟨b, 3, none⟩ = some y ∧ b < w.heap.size ∧ ∀ j, w.frozen? ⟨b, j, none⟩ = false := ⟨h.cell 0, h.cell 1, h.cell 2, h.cell 3, h.lt, h.frozen⟩
theorem Bx.at_ (h : Bx T w b cs) {k : Nat} (hk : w'.heap[b]? = w.heap[b]?) : Bx T w' b cs := by unfold Bx at *; rw [hk]; exact h
theorem Bx.ne {T' : TypeId} {b' : Nat} {cs' : List Value} (h : Bx T w b cs) (h' : Bx T' w b' cs') (hT : T ≠ T') : b ≠ b' := fun e => by
  subst e
  unfold Bx at h h'
  rw [h] at h'
  simp at h'
  exact hT h'.2
end

/-- 'setCells' over a part of a row -/
theorem row_set {T : TypeId} {fz : Nat × Nat} (g : Nat) : ∀ (vs : List Value) (o : Nat) (w : World) (cur : Array Value), w.heap[g]? = some (.cells cur T fz) →
    ∃ cur', (w.setCells g o vs).heap[g]? = some (.cells cur' T fz) ∧ cur'.size = cur.size ∧ (∀ j, j < vs.length → o + j < cur.size → cur'[o + j]? = vs[j]?) ∧ (∀ i, (i < o ∨ o + vs.length ≤ i) → cur'[i]? = cur[i]?)
  | [], o, w, cur, h => ⟨cur, h, rfl, fun j hj => absurd hj (by simp), fun i _ => rfl⟩
  | v :: vs, o, w, cur, h => by
    have h1 : (w.setCell ⟨g, o, none⟩ v).heap[g]? = some (.cells (cur.setIfInBounds o v) T fz) := by
      simp only [World.setCell, Array.getElem?_modify, if_pos, h, Option.map_some]
      rfl
    obtain ⟨cur', a1, a2, a3, a4⟩ := row_set g vs (o + 1) (w.setCell ⟨g, o, none⟩ v) _ h1
    refine ⟨cur', a1, by rw [a2]; simp, ?_, ?_⟩
    · intro j hj hjs
      match j with
      | 0 =>
        rw [a4 _ (.inl (by omega)), Nat.add_zero, Array.getElem?_setIfInBounds, if_pos rfl, if_pos (by omega)]
        rfl
      | j + 1 =>
        have := a3 j (by simpa using hj) (by rw [Array.size_setIfInBounds]; omega)
        rw [show o + (j + 1) = o + 1 + j by omega, this]
        simp
    · intro i hi
      rw [a4 i (by simp at hi; omega)]
      rw [Array.getElem?_setIfInBounds, if_neg (by simp at hi; omega)]
theorem fill_below {B : Nat} (g : Nat) (hg : B ≤ g) : ∀ (vs : List Value) (o : Nat) (w : World), Below B w (w.setCells g o vs)
  | [], o, w => Below.refl _ _
  | v :: vs, o, w => ((Below.refl B w).setCell (p := ⟨g, o, none⟩) hg v).trans (fill_below g hg vs (o + 1) _)
theorem set_other (g k : Nat) (hk : k ≠ g) : ∀ (vs : List Value) (o : Nat) (w : World), (w.setCells g o vs).heap[k]? = w.heap[k]?
  | [], o, w => rfl
  | v :: vs, o, w => (set_other g k hk vs (o + 1) _).trans (heap_setCell_other w _ k v (by simpa using hk))
theorem set_size (g : Nat) : ∀ (vs : List Value) (o : Nat) (w : World), (w.setCells g o vs).heap.size = w.heap.size
  | [], o, w => rfl
  | v :: vs, o, w => (set_size g vs (o + 1) _).trans (by simp [World.setCell])
/-- cells over a part of a row -/
theorem Bx.part {T : TypeId} {w : World} {g : Nat} {A X C : List Value} (h : Bx T w g (A ++ X ++ C)) (Y : List Value) (hl : Y.length = X.length) : Bx T (w.setCells g A.length Y) g (A ++ Y ++ C) := by
  unfold Bx at *
  obtain ⟨cur, a1, a2, a3, a4⟩ := row_set g Y A.length w _ h
  rw [a1]
  congr 2
  have hs : cur.size = A.length + X.length + C.length := by rw [a2]; simp; omega
  apply Array.ext_getElem?
  intro i
  by_cases h1 : i < A.length
  · rw [a4 i (.inl h1)]
    simp only [List.getElem?_toArray]
    rw [List.append_assoc, List.append_assoc, List.getElem?_append_left h1, List.getElem?_append_left h1]
  · by_cases h2 : i < A.length + Y.length
    · have := a3 (i - A.length) (by omega) (by simp; omega)
      rw [show A.length + (i - A.length) = i by omega] at this
      rw [this]
      simp only [List.getElem?_toArray]
      rw [List.append_assoc, List.getElem?_append_right (by omega), List.getElem?_append_left (by omega)]
    · rw [a4 i (.inr (by omega))]
      simp only [List.getElem?_toArray]
      rw [List.getElem?_append_right (by simp; omega), List.getElem?_append_right (by simp; omega)]
      simp [hl]
theorem ownsRow_step {w w' : World} {B : Nat} {e : TypeId} {s : Nat} {v : Value} {n : Nat} {xs : List Value} (h : w.ownsRow B e s v n xs) (hb : Below w.heap.size w w') : w'.ownsRow B e s v n xs :=
  h.kept (row := none) ⟨hb.os, hb.tape, hb.output, hb.size, fun k hk _ => hb.block k hk⟩ (by cases v.ownBlock <;> simp)
theorem own_shape {w : World} {B n : Nat} {e : TypeId} {s : Nat} {v : Value} {xs : List Value} (h : w.ownsRow B e s v (n + 1) xs) : ∃ g c, v = .slice (some ⟨g, 0, none⟩) (n + 1) c := by
  rcases h.2 with ⟨_, q⟩ | ⟨g, cap, cur, hv, _⟩
  · omega
  · exact ⟨g, cap, hv⟩
theorem own_any_shape {w : World} {B n : Nat} {e : TypeId} {s : Nat} {v : Value} {xs : List Value} (h : w.ownsRow B e s v n xs) : ∃ g c, v = .slice g n c := by
  rcases h.2 with ⟨hv, h0⟩ | ⟨g, cap, cur, hv, _⟩
  · exact ⟨none, 0, by rw [hv, h0]⟩
  · exact ⟨_, cap, hv⟩
/-- a row is behind a block of another type -/
theorem own_ne {w : World} {B n : Nat} {e T : TypeId} {s : Nat} {v : Value} {xs : List Value} {k : Nat} {c : Array Value} {fz : Nat × Nat} (h : w.ownsRow B e s v n xs) (hk : w.heap[k]? = some (.cells c T fz)) (hT : T ≠ e) : some k ≠ v.ownBlock := by
  rcases h.2 with ⟨rfl, _⟩ | ⟨g, cap, cur, rfl, _, hg, _⟩
  · simp [Value.ownBlock]
  · intro q
    simp [Value.ownBlock] at q
    subst q
    rw [hk] at hg
    simp at hg
    exact hT hg.2.1


/-! ### maps as functions of their keys -/
open Go.Maps (Keyed)
open Go.WideElems (Fit rd rg pl rd_val rd_key)
open Go.ChangeMaps Go.MapKept Go.WideShapes
/-- any element reads (as nothing in particular) -/
def anyElem (_ : Value) : Option (DataW Unit × List MemPlace) := some (.nil, [])
/-- block b is a map of at most n entries; f: which element stands at a key -/
def MapIs (P : Program) (k : TypeId) (w : World) (b n : Nat) (f : Value → Option Value) : Prop :=
  ∃ es clock, w.heap[b]? = some (.map es clock) ∧ Fit P k anyElem es clock ∧ es.size ≤ n ∧ (∀ x ∈ es.toList, f x.key = some x.val) ∧ ∀ key v, f key = some v → ∃ x ∈ es.toList, x.key = key
section
variable {P : Program} {k t e : TypeId} {w : World} {b n : Nat} {f : Value → Option Value}
theorem MapIs.lt (h : MapIs P k w b n f) : b < w.heap.size := by
  obtain ⟨es, clock, hb, _⟩ := h
  exact (Array.getElem?_eq_some_iff.1 hb).1
theorem MapIs.at_ {w' : World} (h : MapIs P k w b n f) (hb : w'.heap[b]? = w.heap[b]?) : MapIs P k w' b n f := by
  obtain ⟨es, clock, h1, r⟩ := h
  exact ⟨es, clock, hb.trans h1, r⟩
theorem MapIs.keep {w' : World} (h : MapIs P k w b n f) (hb : Below w.heap.size w w') : MapIs P k w' b n f := h.at_ (hb.block b h.lt)
theorem MapIs.ne_cells (h : MapIs P k w b n f) {g : Nat} {c : Array Value} {T : TypeId} {fz : Nat × Nat} (hg : w.heap[g]? = some (.cells c T fz)) : b ≠ g := fun q => by
  obtain ⟨es, clock, h1, _⟩ := h
  rw [q, hg] at h1
  cases h1
theorem MapIs.mono (h : MapIs P k w b n f) {m : Nat} (hm : n ≤ m) : MapIs P k w b m f := by
  obtain ⟨es, clock, h1, h2, h3, r⟩ := h
  exact ⟨es, clock, h1, h2, Nat.le_trans h3 hm, r⟩
theorem MapIs.made (P : Program) (k : TypeId) (w : World) : MapIs P k (w.alloc (.map #[] 0)) w.heap.size 0 (fun _ => none) :=
  ⟨#[], 0, (MapKept.heap_alloc w _).1, ⟨by simp, MapKept.stamped_empty 0, by simp⟩, Nat.le_refl _, by simp, fun key v hv => by cases hv⟩
/-- 'm[k]' and 'v, ok := m[k]' -/
theorem MapIs.look (h : MapIs P k w b n f) (K : Keyed P k) (ht : P.underlying t = some (.map k e)) {z : Value} (hz : (zeroValue e).run P w = .ok z w) {key : Value} (hkey : ∃ kl, keyOf P k key = some kl) (c : Bool) :
    (Instr.lookup t (.map (some b)) key c).run P w = .ok (if c then .tuple #[(f key).getD z, .bool (f key).isSome] else (f key).getD z) w := by
  obtain ⟨kl, hkey⟩ := hkey
  obtain ⟨es, clock, hb, F, _, h1, h2⟩ := h
  rcases Maps.fit_look c K ht hz hb F hkey with ⟨hrun, hno, _⟩ | ⟨e0, y, hm, hk, hrun, _⟩
  · have : f key = none := by
      cases hf : f key with
      | none => rfl
      | some v =>
        obtain ⟨x, hx, hxk⟩ := h2 key v hf
        exact absurd hxk (hno x hx)
    rw [this]
    exact hrun
  · have : f key = some e0.val := by rw [← hk]; exact h1 e0 hm
    rw [this]
    exact hrun
open Classical in
/-- f with another element at a key -/
noncomputable def putF (f : Value → Option Value) (key val : Value) : Value → Option Value := fun x => if x = key then some val else f x
theorem putF_same (f : Value → Option Value) (key val : Value) : putF f key val key = some val := by unfold putF; rw [if_pos rfl]
theorem putF_other (f : Value → Option Value) (key val : Value) {x : Value} (h : x ≠ key) : putF f key val x = f x := by unfold putF; rw [if_neg h]
/-- 'm[k] = v' -/
theorem MapIs.store (h : MapIs P k w b n f) (K : Keyed P k) (ht : P.underlying t = some (.map k e)) (hn : n < maxLen) {key : Value} (hkey : ∃ kl, keyOf P k key = some kl) (val : Value) :
    ∃ w', (Instr.mapUpdate t (.map (some b)) key val).run P w = .ok () w' ∧ MapIs P k w' b (n + 1) (putF f key val) ∧ w.grownBy w' (some b) := by
  obtain ⟨kl, hkey⟩ := hkey
  obtain ⟨es, clock, hb, F, hs, h1, h2⟩ := h
  obtain ⟨es', clock', hrun, F', hput, _, _, hwho⟩ := Maps.fit_store (R' := anyElem) K ht hb F (Nat.lt_of_le_of_lt hs hn) (fun _ _ _ _ hz => hz) hkey (yv := (.nil, [])) rfl (val := val)
  have hin : ∀ y, y ≠ key → ∀ v, f y = some v → ∃ x ∈ es'.toList, x.key = y := by
    intro y hy v hv
    obtain ⟨x, hx, hxk⟩ := h2 y v hv
    obtain ⟨r, hr⟩ := F.reads x hx
    have hmem : rg P k anyElem x ∈ (es'.toList.map (rg P k anyElem)) := by
      have m0 : rg P k anyElem x ∈ es.toList.map (rg P k anyElem) := List.mem_map.2 ⟨x, hx, rfl⟩
      have m1 := (WideShapes.sorted_perm (es.toList.map (rg P k anyElem))).mem_iff.2 m0
      have m2 : rg P k anyElem x ∈ putKey kl (DataW.nil : DataW Unit) ((es.toList.map (rg P k anyElem)).foldr DataW.insert []) := by
        unfold putKey
        refine mem_insert_iff.2 (Or.inr (List.mem_filter.2 ⟨m1, ?_⟩))
        refine (Maps.notKey_iff (K.key hkey)).2 (fun q => ?_)
        rw [Go.WideElems.rg_of hr] at q
        exact hy (by rw [← hxk]; exact K.inj (rd_key hr) (by rw [q]; exact hkey))
      rw [← hput] at m2
      exact (WideShapes.sorted_perm _).mem_iff.1 m2
    obtain ⟨x', hx', he⟩ := List.mem_map.1 hmem
    obtain ⟨r', hr'⟩ := F'.reads x' hx'
    refine ⟨x', hx', ?_⟩
    rw [← hxk]
    rw [Go.WideElems.rg_of hr', Go.WideElems.rg_of hr] at he
    exact K.inj (rd_key hr') (by rw [he]; exact rd_key hr)
  have hnew : ∃ x ∈ es'.toList, x.key = key := by
    have m2 : (kl, (DataW.nil : DataW Unit)) ∈ putKey kl (DataW.nil : DataW Unit) ((es.toList.map (rg P k anyElem)).foldr DataW.insert []) := by
      unfold putKey
      exact mem_insert_iff.2 (Or.inl rfl)
    rw [← hput] at m2
    obtain ⟨x', hx', he⟩ := List.mem_map.1 ((WideShapes.sorted_perm _).mem_iff.1 m2)
    obtain ⟨r', hr'⟩ := F'.reads x' hx'
    refine ⟨x', hx', ?_⟩
    rw [Go.WideElems.rg_of hr'] at he
    exact K.inj (rd_key hr') (by rw [he]; exact hkey)
  refine ⟨_, hrun, ⟨es', clock', heap_setBlock_same hb _, F', ?_, ?_, ?_⟩, ⟨rfl, rfl, rfl, by simp [setBlock], fun i _ hi => heap_setBlock_other hb _ (fun e => hi (by rw [e]))⟩⟩
  · have e1 : es'.size = ((es'.toList.map (rg P k anyElem)).foldr DataW.insert []).length := by rw [length_sorted]; simp
    rw [e1, hput]
    unfold putKey
    rw [length_insert]
    have e2 := List.length_filter_le (notKey kl) ((es.toList.map (rg P k anyElem)).foldr DataW.insert [])
    rw [length_sorted] at e2
    simp at e2
    omega
  · intro x hx
    rcases hwho x hx with ⟨hx0, hne⟩ | ⟨hk, hv⟩
    · rw [putF_other _ _ _ hne]; exact h1 x hx0
    · rw [hk, putF_same, hv]
  · intro y v hv
    by_cases hy : y = key
    · rw [hy]; exact hnew
    · rw [putF_other _ _ _ hy] at hv
      exact hin y hy v hv
end

/-! ### edges -/
/-- an edge: from, to, why, at -/
abbrev Eg := Int × Int × Int × Int
def egC (x : Eg) : List Value := [.int .i64 x.1, .int .i64 x.2.1, .int .i64 x.2.2.1, .int .i64 x.2.2.2]
def egA (x : Eg) : Value := .agg #[.int .i64 x.1, .int .i64 x.2.1, .int .i64 x.2.2.1, .int .i64 x.2.2.2]
def flatG (l : List Eg) : List Value := l.flatMap egC
theorem flatG_len (l : List Eg) : (flatG l).length = l.length * 4 := fm_len egC 4 (fun _ => rfl) l
theorem egA_inj {x y : Eg} (h : egA x = egA y) : x = y := by
  obtain ⟨a, b, c, d⟩ := x
  obtain ⟨a', b', c', d'⟩ := y
  unfold egA at h
  simp at h
  obtain ⟨h1, h2, h3, h4⟩ := h
  rw [h1, h2, h3, h4]
/-- within whole numbers -/
def In64 (z : Int) : Prop := -9223372036854775808 ≤ z ∧ z ≤ 9223372036854775807
def EgIn (x : Eg) : Prop := In64 x.1 ∧ In64 x.2.1 ∧ In64 x.2.2.1 ∧ In64 x.2.2.2
theorem in_wf {z : Int} (h : In64 z) : (Lit.int .i64 z).wf = true := by
  obtain ⟨h1, h2⟩ := h
  exact WalkArith.wf_i64 ⟨by omega, by omega⟩
theorem edge_keyed : Keyed Try.prog 29 := Keyed.of_law (deep_law_gate (by kernel_rfl) (of_decide_eq_true (by kernel_rfl)) (of_decide_eq_true (by kernel_rfl)) (by kernel_rfl) (by kernel_rfl))
theorem int_keyed' : Keyed Try.prog 3 := Maps.int_keyed Try.underlying3

end Go.Proofs.Ytkhgpflpbdakoaa
