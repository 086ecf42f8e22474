/- HeapPlays' own memory: a list of lists beside the heap; the acts that come in. -/
import Derived.Test.YtfkcjnlhindhfaaHpJ
import Derived.Test.YtfkcjnlhindhfaaHpC
namespace Go.Proofs.Ytfkcjnlhindhfaa
open Go Go.RowKit
set_option linter.unusedVariables false
set_option linter.unusedSimpArgs false

/-- an object or array of the statement's own list, its values' slice -/
abbrev CeR := Th × Value
def ceC (y : CeR) : List Value := [.string y.1.cls, .int .i64 y.1.ty.1, .string y.1.ty.2.1, .int .i64 y.1.ty.2.2.1, .string y.1.ty.2.2.2, .bool y.1.arr, y.2]
def flatC (A : List CeR) : List Value := A.flatMap ceC
theorem flatC_len (A : List CeR) : (flatC A).length = A.length * 7 := fm_len ceC 7 (fun _ => rfl) A

/-- what owns a row stays where its block stays -/
theorem own_stay {w w' : World} {B n : Nat} {e : TypeId} {s : Nat} {v : Value} {xs : List Value} (h : w.ownsRow B e s v n xs) (hk : ∀ g, v.ownBlock = some g → w'.heap[g]? = w.heap[g]?) : w'.ownsRow B e s v n xs := by
  obtain ⟨q1, q2⟩ := h
  refine ⟨q1, ?_⟩
  rcases q2 with q | ⟨g, cap, cur, rfl, hBg, hg2, q⟩
  · exact .inl q
  · exact .inr ⟨g, cap, cur, rfl, hBg, by rw [hk g rfl]; exact hg2, q⟩
theorem own_type {w : World} {B n : Nat} {e : TypeId} {s : Nat} {v : Value} {xs : List Value} (h : w.ownsRow B e s v n xs) {g : Nat} (hg : v.ownBlock = some g) : ∃ c, w.heap[g]? = some (Obj.cells c e (0, 0)) := by
  rcases h.2 with ⟨rfl, _⟩ | ⟨g', cap, cur, rfl, hBg, hg2, q⟩
  · simp [Value.ownBlock] at hg
  · simp [Value.ownBlock] at hg
    subst hg
    exact ⟨cur, hg2⟩
theorem own_base {w : World} {B B' n : Nat} {e : TypeId} {s : Nat} {v : Value} {xs : List Value} (h : w.ownsRow B e s v n xs) (hB : B' ≤ B) : w.ownsRow B' e s v n xs := by
  obtain ⟨q1, q2⟩ := h
  refine ⟨q1, ?_⟩
  rcases q2 with q | ⟨g, cap, cur, rfl, hBg, q⟩
  · exact .inl q
  · exact .inr ⟨g, cap, cur, rfl, Nat.le_trans hB hBg, q⟩
theorem own_cells {w : World} {B n : Nat} {e : TypeId} {s : Nat} {v : Value} {xs : List Value} (h : w.ownsRow B e s v (n + 1) xs) : ∃ g cap, v = .slice (some ⟨g, 0, none⟩) (n + 1) cap ∧ B ≤ g ∧ g < w.heap.size ∧ ∀ j u, xs[j]? = some u → w.cell? ⟨g, j, none⟩ = some u := by
  obtain ⟨g, c, rfl⟩ := own_shape h
  refine ⟨g, c, rfl, (h.lt g rfl).1, (h.lt g rfl).2, fun j u hj => ?_⟩
  have := h.cells (g := g) rfl j u hj
  rwa [add_at, Nat.zero_add] at this
theorem KeptT.own {w w' : World} {b B n : Nat} {e : TypeId} {s : Nat} {v : Value} {xs : List Value} (h : KeptT w w' b) (ho : w.ownsRow B e s v n xs) (he : e ≠ 69) {hcs : List Value} (hb : Bx 26 w b hcs) (he2 : e ≠ 26) : w'.ownsRow B e s v n xs :=
  own_stay ho fun g hg => by
    obtain ⟨c, hc⟩ := own_type ho hg
    refine h.2 g c e _ hc he fun q => ?_
    subst q
    unfold Bx at hb
    rw [hb] at hc
    simp at hc
    exact he2 hc.2.symm

/-- the heap, and the statement's own list -/
structure PM (w0 W : World) (B : Nat) (L : List ThR) (n : Nat) (v : Value) (A : List CeR) (av : Value) : Prop where
  low : w0.heap.size ≤ B
  bel : Below w0.heap.size w0 W
  hp : HpM W B B L n v
  row : W.ownsRow B 40 7 av A.length (flatC A)
  vals : ∀ y ∈ A, W.ownsRow B 32 3 y.2 y.1.vs.length (flatV y.1.vs)
  dis : ∀ y ∈ A, ∀ x ∈ L, y.2.ownBlock ≠ some x.2
  dis2 : A.Pairwise fun y z => ∀ g, y.2.ownBlock = some g → z.2.ownBlock ≠ some g
theorem PM.step {w0 W W' : World} {B n : Nat} {L : List ThR} {v av : Value} {A : List CeR} (h : PM w0 W B L n v A av) (hb : Below W.heap.size W W') : PM w0 W' B L n v A av :=
  ⟨h.low, h.bel.trans (hb.mono h.bel.size), h.hp.step hb, ownsRow_step h.row hb, fun y hy => ownsRow_step (h.vals y hy) hb, h.dis, h.dis2⟩
theorem PM.size {w0 W : World} {B n : Nat} {L : List ThR} {v av : Value} {A : List CeR} (h : PM w0 W B L n v A av) : B < W.heap.size := h.hp.box.lt
theorem PM.made {w0 W W' : World} {B n : Nat} {L : List ThR} {v av : Value} {A : List CeR} {t : Th} {e : Ending} (h : PM w0 W B L n v A av) (hm : MadeH W B B L n t e W') : ∃ g v', PM w0 W' B (L ++ [(t, g)]) (n + t.vs.length) v' A av ∧ W.heap.size ≤ g := by
  obtain ⟨-, h1, ⟨g, v', h2, h3⟩, h4⟩ := hm
  refine ⟨g, v', ⟨h.low, h.bel.trans (h1.mono h.low), h2, h4.own h.row (by decide) h.hp.box (by decide), fun y hy => h4.own (h.vals y hy) (by decide) h.hp.box (by decide), fun y hy x hx => ?_, h.dis2⟩, h3⟩
  rcases List.mem_append.1 hx with hx | hx
  · exact h.dis y hy x hx
  · rw [List.mem_singleton] at hx
    subst hx
    intro q
    have := ((h.vals y hy).lt _ q).2
    simp at this
    omega
theorem PM.stored {w0 W W' : World} {B n : Nat} {L : List ThR} {v av : Value} {A : List CeR} {i : Nat} {hi : i < L.length} {j : Nat} {x : Vl} {e : Ending} (h : PM w0 W B L n v A av) (hm : StoreH W B B L n v i hi j x e W') : PM w0 W' B (L.set i (setT L[i] j x)) n v A av := by
  obtain ⟨-, h1, h2, h4⟩ := hm
  have hc := (h.hp.cells _ (List.getElem_mem hi)).2
  refine ⟨h.low, h.bel.trans (h1.mono h.low), h2, own_stay h.row fun g hg => ?_, fun y hy => own_stay (h.vals y hy) fun g hg => ?_, fun y hy z hz => ?_, h.dis2⟩
  · refine h4 g (h.row.lt g hg).2 fun q => ?_
    obtain ⟨c, hc2⟩ := own_type h.row hg
    rw [q] at hc2
    unfold Bx at hc
    rw [hc] at hc2
    simp at hc2
  · exact h4 g ((h.vals y hy).lt g hg).2 fun q => h.dis y hy _ (List.getElem_mem hi) (by rw [hg, q])
  · rcases List.mem_or_eq_of_mem_set hz with hz | rfl
    · exact h.dis y hy z hz
    · exact h.dis y hy L[i] (List.getElem_mem hi)
/-- the heap stays where only the statement's own rows grow -/
theorem HpM.besides {w w' : World} {B b n : Nat} {L : List ThR} {v : Value} (h : HpM w B b L n v) (hk : ∀ (k : Nat) (c : Array Value) (U : TypeId) (fz : Nat × Nat), w.heap[k]? = some (Obj.cells c U fz) → U ≠ 40 → w'.heap[k]? = w.heap[k]?) : HpM w' B b L n v :=
  ⟨h.base, h.box.at_ (k := 0) (hk _ _ _ _ h.box (by decide)), own_stay h.own fun g hg => (by
    obtain ⟨c, hc⟩ := own_type h.own hg
    exact hk _ _ _ _ hc (by decide)), fun y hy => ⟨(h.cells y hy).1, (h.cells y hy).2.at_ (k := 0) (hk _ _ _ _ (h.cells y hy).2 (by decide))⟩, h.nod, h.ll, h.ln, h.fit⟩
theorem PM.grow {w0 W w' : World} {B n : Nat} {L : List ThR} {v av av' : Value} {A : List CeR} {y : CeR} {o' : Obj} (h : PM w0 W B L n v A av) (hy : W.ownsRow B 32 3 y.2 y.1.vs.length (flatV y.1.vs)) (hd : ∀ x ∈ L, y.2.ownBlock ≠ some x.2) (hd2 : ∀ z ∈ A, ∀ g, z.2.ownBlock = some g → y.2.ownBlock ≠ some g)
    (hown : w'.ownsRow B 40 7 av' (A.length + 1) (flatC A ++ ceC y)) (hg : (W.alloc o').grownBy w' av.ownBlock) : PM w0 w' B L n v (A ++ [y]) av' := by
  have hk : ∀ (k : Nat) (c : Array Value) (U : TypeId) (fz : Nat × Nat), W.heap[k]? = some (Obj.cells c U fz) → U ≠ 40 → w'.heap[k]? = W.heap[k]? := fun k c U fz hk hU => by
    rw [hg.block k (by simp; have := lt_block hk; omega) (own_ne h.row hk hU), Below.heap_alloc W _ k (lt_block hk)]
  have hv : ∀ z : CeR, W.ownsRow B 32 3 z.2 z.1.vs.length (flatV z.1.vs) → w'.ownsRow B 32 3 z.2 z.1.vs.length (flatV z.1.vs) := fun z hz => own_stay hz fun g hg => by
    obtain ⟨c, hc⟩ := own_type hz hg
    exact hk _ _ _ _ hc (by decide)
  have hbl : Below w0.heap.size w0 w' := Below.grown (h.bel.alloc h.bel.size o') hg (by have := h.bel.size; simp; omega) (fun j hj => Nat.le_trans h.low (h.row.lt j hj).1)
  refine ⟨h.low, hbl, h.hp.besides hk, ?_, fun z hz => ?_, fun z hz x hx => ?_, ?_⟩
  · rw [show flatC (A ++ [y]) = flatC A ++ ceC y by unfold flatC; simp, List.length_append]; exact hown
  · rcases List.mem_append.1 hz with hz | hz
    · exact hv z (h.vals z hz)
    · rw [List.mem_singleton] at hz
      subst hz
      exact hv z hy
  · rcases List.mem_append.1 hz with hz | hz
    · exact h.dis z hz x hx
    · rw [List.mem_singleton] at hz
      subst hz
      exact hd x hx
  · rw [List.pairwise_append]
    refine ⟨h.dis2, by simp, fun z hz u hu g hg => ?_⟩
    rw [List.mem_singleton] at hu
    subst hu
    exact hd2 z hz g hg
/-- one of the own list's values is something else -/
def setA (y : CeR) (j : Nat) (x : Vl) : CeR := (⟨y.1.arr, y.1.cls, y.1.ty, y.1.vs.set j x⟩, y.2)
theorem flatC_set (A : List CeR) (i : Nat) (hi : i < A.length) (j : Nat) (x : Vl) : flatC (A.set i (setA A[i] j x)) = flatC A := by
  unfold flatC
  rw [fm_set ceC A i hi, show ceC (setA A[i] j x) = ceC A[i] from rfl, ← (fm_parts ceC 7 (fun _ => rfl) A i hi).1]
theorem own_vset {w : World} {B g cap : Nat} {l : List Vl} (h : w.ownsRow B 32 3 (.slice (some ⟨g, 0, none⟩) l.length cap) l.length (flatV l)) (j : Nat) (hj : j < l.length) (x : Vl) :
    (w.setCells g (j * 3) (vC x)).ownsRow B 32 3 (.slice (some ⟨g, 0, none⟩) l.length cap) l.length (flatV (l.set j x)) := by
  obtain ⟨q1, q2⟩ := h
  rcases q2 with ⟨hv, _⟩ | ⟨g', cap', cur, hv, hBg, hg2, hc1, hc2, hc3, hc4⟩
  · simp at hv
  · simp only [Value.slice.injEq, Option.some.injEq, Addr.mk.injEq, and_true, true_and] at hv
    obtain ⟨rfl, rfl⟩ := hv
    refine ⟨by rw [flatV_len, List.length_set], .inr ⟨g, cap, ?_⟩⟩
    have hcur : cur = (flatV l ++ cur.toList.drop (l.length * 3)).toArray := by
      apply Array.toList_inj.1
      rw [← hc4, List.take_append_drop]
    have hbx : Bx 32 w g (flatV l ++ cur.toList.drop (l.length * 3)) := by unfold Bx; rw [← hcur]; exact hg2
    obtain ⟨e, el⟩ := fm_parts vC 3 (fun _ => rfl) l j hj
    have hbx2 : Bx 32 w g ((l.take j).flatMap vC ++ vC l[j] ++ ((l.drop (j + 1)).flatMap vC ++ cur.toList.drop (l.length * 3))) := by
      have h0 := hbx
      unfold flatV at h0
      rw [e, List.append_assoc] at h0
      exact h0
    have hp := hbx2.part (vC x) rfl
    rw [el, ← List.append_assoc, ← fm_set vC l j hj] at hp
    have hcl : cur.toList.length = cap * 3 := by
      have := Array.length_toList (xs := cur)
      omega
    have hl1 : (flatV (l.set j x) ++ cur.toList.drop (l.length * 3)).length = cap * 3 := by
      rw [List.length_append, flatV_len, List.length_set, List.length_drop, hcl]; omega
    refine ⟨_, rfl, hBg, hp, hc1, hc2, hl1, ?_⟩
    simp only [List.toList_toArray]
    rw [List.take_append_of_le_length (by rw [show ((l.set j x).flatMap vC).length = _ from flatV_len _, List.length_set]; exact Nat.le_refl _)]
    exact List.take_of_length_le (by rw [show ((l.set j x).flatMap vC).length = _ from flatV_len _, List.length_set]; exact Nat.le_refl _)
theorem setA_blocks (A : List CeR) (i : Nat) (hi : i < A.length) (j : Nat) (x : Vl) : (A.set i (setA A[i] j x)).map (·.2) = A.map (·.2) := by
  rw [List.map_set]
  apply List.ext_getElem?
  intro q
  rw [List.getElem?_set]
  split
  · rename_i h
    subst h
    split
    · rename_i h
      rw [List.getElem?_eq_getElem h, List.getElem_map]; rfl
    · rename_i h
      rw [List.getElem?_eq_none (by omega)]
  · rfl
theorem PM.lawset {w0 W : World} {B n : Nat} {L : List ThR} {v av : Value} {A : List CeR} (h : PM w0 W B L n v A av) (i : Nat) (hi : i < A.length) (j : Nat) (hj : j < A[i].1.vs.length) (x : Vl) (g cap : Nat) (hv : A[i].2 = .slice (some ⟨g, 0, none⟩) A[i].1.vs.length cap) :
    PM w0 (W.setCells g (j * 3) (vC x)) B L n v (A.set i (setA A[i] j x)) av := by
  have hmem := List.getElem_mem hi
  have ho := h.vals _ hmem
  have hob : A[i].2.ownBlock = some g := by rw [hv]; rfl
  obtain ⟨c, hc⟩ := own_type ho hob
  have hs := Same.sets g (vC x) (j * 3) W
  have hgB := (ho.lt g hob).1
  have hne : ∀ {T : TypeId} {b : Nat} {cs : List Value}, Bx T W b cs → T ≠ 32 → b ≠ g := fun hb hT e => by
    subst e
    unfold Bx at hb
    rw [hb] at hc
    simp at hc
    exact hT hc.2
  refine ⟨h.low, h.bel.trans (fill_below g (Nat.le_trans h.low hgB) _ _ _), h.hp.same hs (hne h.hp.box (by decide)) (own_ne h.hp.own hc (by decide)) (fun y hy e => h.dis _ hmem y hy (by rw [hob, e])), ?_, ?_, ?_, ?_⟩
  · rw [flatC_set, List.length_set]
    exact own_stay h.row fun q hq => hs.2 q fun e => by
      obtain ⟨c2, hc2⟩ := own_type h.row hq
      rw [e, hc] at hc2
      simp at hc2
  · intro y hy
    obtain ⟨q, hq, rfl⟩ := List.getElem_of_mem hy
    rw [List.length_set] at hq
    by_cases hqi : q = i
    · subst hqi
      rw [List.getElem_set_self]
      have h1 := ho
      rw [hv] at h1
      have h2 := own_vset h1 j hj x
      show World.ownsRow _ B 32 3 A[q].2 (A[q].1.vs.set j x).length (flatV (A[q].1.vs.set j x))
      rw [List.length_set, hv]
      exact h2
    · rw [List.getElem_set_ne (fun e => hqi e.symm)]
      refine own_stay (h.vals _ (List.getElem_mem hq)) fun k hk => hs.2 k fun e => ?_
      subst e
      have hp := List.pairwise_iff_getElem.1 h.dis2
      rcases Nat.lt_or_gt_of_ne hqi with h1 | h1
      · exact hp q i hq hi h1 k hk hob
      · exact hp i q hi hq h1 k hob hk
  · intro y hy z hz
    rcases List.mem_or_eq_of_mem_set hy with hy | rfl
    · exact h.dis y hy z hz
    · exact h.dis A[i] hmem z hz
  · have h1 : (A.map (·.2)).Pairwise fun a b => ∀ k, a.ownBlock = some k → b.ownBlock ≠ some k := List.pairwise_map.2 h.dis2
    rw [← setA_blocks A i hi j x] at h1
    exact List.pairwise_map.1 h1
/-- one of the own list's objects and arrays, its cells -/
theorem PM.acell {w0 W : World} {B n : Nat} {L : List ThR} {v av : Value} {A : List CeR} (h : PM w0 W B L n v A av) (i : Nat) (hi : i < A.length) : ∃ g c, av = .slice (some ⟨g, 0, none⟩) A.length c ∧ g < W.heap.size ∧
    W.cell? ⟨g, i * 7, none⟩ = some (.string A[i].1.cls) ∧ W.cell? ⟨g, i * 7 + 1, none⟩ = some (.int .i64 A[i].1.ty.1) ∧ W.cell? ⟨g, i * 7 + 2, none⟩ = some (.string A[i].1.ty.2.1) ∧ W.cell? ⟨g, i * 7 + 3, none⟩ = some (.int .i64 A[i].1.ty.2.2.1) ∧
    W.cell? ⟨g, i * 7 + 4, none⟩ = some (.string A[i].1.ty.2.2.2) ∧ W.cell? ⟨g, i * 7 + 5, none⟩ = some (.bool A[i].1.arr) ∧ W.cell? ⟨g, i * 7 + 6, none⟩ = some A[i].2 := by
  rcases h.row.2 with ⟨_, h0⟩ | ⟨g, cap, cur, hv, _, hg, _⟩
  · omega
  · have k : ∀ j, j < 7 → W.cell? ⟨g, i * 7 + j, none⟩ = (ceC A[i])[j]? := fun j hj => by
      have e := fm_at ceC 7 (fun _ => rfl) A i hi j hj
      have hl : j < (ceC A[i]).length := hj
      rw [List.getElem?_eq_getElem hl] at e ⊢
      have := h.row.cells (g := g) (by rw [hv]; rfl) (i * 7 + j) _ e
      rwa [add_at, Nat.zero_add] at this
    exact ⟨g, cap, hv, lt_block hg, k 0 (by omega), k 1 (by omega), k 2 (by omega), k 3 (by omega), k 4 (by omega), k 5 (by omega), k 6 (by omega)⟩
/-- .. and one of its values -/
theorem PM.vcell {w0 W : World} {B n : Nat} {L : List ThR} {v av : Value} {A : List CeR} (h : PM w0 W B L n v A av) (i : Nat) (hi : i < A.length) (j : Nat) (hj : j < A[i].1.vs.length) : ∃ g c, A[i].2 = .slice (some ⟨g, 0, none⟩) A[i].1.vs.length c ∧ g < W.heap.size ∧
    W.cell? ⟨g, j * 3, none⟩ = some (.int .i64 A[i].1.vs[j].1) ∧ W.cell? ⟨g, j * 3 + 1, none⟩ = some (.int .i64 A[i].1.vs[j].2.1) ∧ W.cell? ⟨g, j * 3 + 2, none⟩ = some (.string A[i].1.vs[j].2.2) ∧ ∀ q, W.frozen? ⟨g, q, none⟩ = false := by
  have ho := h.vals _ (List.getElem_mem hi)
  rcases ho.2 with ⟨_, h0⟩ | ⟨g, cap, cur, hv, _, hg, _⟩
  · omega
  · have k : ∀ q, q < 3 → W.cell? ⟨g, j * 3 + q, none⟩ = (vC A[i].1.vs[j])[q]? := fun q hq => by
      have e := fm_at vC 3 (fun _ => rfl) A[i].1.vs j hj q hq
      have hl : q < (vC A[i].1.vs[j]).length := hq
      rw [List.getElem?_eq_getElem hl] at e ⊢
      have := ho.cells (g := g) (by rw [hv]; rfl) (j * 3 + q) _ e
      rwa [add_at, Nat.zero_add] at this
    refine ⟨g, cap, hv, lt_block hg, k 0 (by omega), k 1 (by omega), k 2 (by omega), fun q => ?_⟩
    unfold World.frozen?
    rw [hg]
    simp
theorem PM.vshape {w0 W : World} {B n : Nat} {L : List ThR} {v av : Value} {A : List CeR} (h : PM w0 W B L n v A av) (i : Nat) (hi : i < A.length) : ∃ g c, A[i].2 = .slice g A[i].1.vs.length c := own_any_shape (h.vals _ (List.getElem_mem hi))

/-- an act -/
structure OpM where
  kind : Int
  text : ByteArray
  types : List Ty4
  ty : Ty4
  n : Int
  at_ : Vl
  to : Vl
def opC (x : OpM) (tv : Value) : List Value := [.int .i64 x.kind, .string x.text, tv, .int .i64 x.ty.1, .string x.ty.2.1, .int .i64 x.ty.2.2.1, .string x.ty.2.2.2, .int .i64 x.n, .int .i64 x.at_.1, .int .i64 x.at_.2.1, .string x.at_.2.2, .int .i64 x.to.1, .int .i64 x.to.2.1, .string x.to.2.2]
def TysV (w : World) (tv : Value) (l : List Ty4) : Prop := ∃ src cap, tv = .slice src l.length cap ∧ TysIn w src l
/-- acts in memory -/
def OpsIn (w : World) (src : Option Addr) (l : List OpM) : Prop := 0 < l.length → ∃ b off, src = some ⟨b, off, none⟩ ∧ b < w.heap.size ∧ ∀ i (h : i < l.length), ∃ tv, TysV w tv l[i].types ∧ ∀ j u, (opC l[i] tv)[j]? = some u → w.cell? ⟨b, off + i * 14 + j, none⟩ = some u
/-- an act whose texts memory has room for -/
structure OpFit (x : OpM) : Prop where
  text : x.text.size ≤ maxLen
  M : x.ty.2.2.2.size ≤ maxLen
  N : x.ty.2.1.size ≤ 281474976710656
  to : x.to.2.2.size ≤ 281474976710656
  tys : ∀ t ∈ x.types, t.2.2.2.size ≤ maxLen
end Go.Proofs.Ytfkcjnlhindhfaa
