/- Rows of whole numbers that are written, and what is left alone by it. -/
import Derived.Test.YtnmpbnjaegnpjaaDoorTrAdd3
import Derived.Test.YtnmpbnjaegnpjaaDoorTrAt
import Derived.Laws.AppendOwnNone
namespace Go.Proofs.YtnmpbnjaegnpjaaDoor
open Go Go.RowKit
set_option linter.unusedVariables false
set_option linter.unusedSimpArgs false

/-- a list of whole numbers that may be written, each in its place -/
def Rw (w : World) (B : Nat) (v : Value) (n : Nat) : Prop := 0 < n → ∃ g cap, v = .slice (some ⟨g, 0, none⟩) n cap ∧ B ≤ g ∧ g < w.heap.size ∧ (∃ c, w.heap[g]? = some (.cells c 3 (0, 0))) ∧ ∀ i, i < n → ∃ x : Int, w.cell? ⟨g, i, none⟩ = some (.int .i64 x)
theorem NewNums.rw {w : World} {B : Nat} {v : Value} {l : List Int} (h : NewNums w B v l) : Rw w B v l.length := fun h0 => by
  rcases h with ⟨rfl, rfl⟩ | ⟨h1, g, rfl, hB, hg⟩
  · simp at h0
  · exact ⟨g, _, rfl, hB, lt_block hg, ⟨_, hg⟩, fun i hi => ⟨l[i], by rw [cell_at hg]; simp [numC, hi]⟩⟩
theorem int_block {w : World} {g i : Nat} {c : Array Value} {T : TypeId} (h : w.heap[g]? = some (.cells c T (0, 0))) : w.frozen? ⟨g, i, none⟩ = false := by
  unfold World.frozen?
  rw [h]
  simp
theorem block_set {w : World} {g : Nat} {c : Array Value} {T : TypeId} {fz : Nat × Nat} (p : Addr) (v : Value) (h : w.heap[g]? = some (.cells c T fz)) : ∃ c', (w.setCell p v).heap[g]? = some (.cells c' T fz) := by
  by_cases hg : p.block = g
  · subst hg
    obtain ⟨b, o, s⟩ := p
    cases s with
    | none => exact ⟨c.setIfInBounds o v, by simp only [World.setCell, Array.getElem?_modify, if_pos, h, Option.map_some]; rfl⟩
    | some s => simp only [World.setCell, Array.getElem?_modify, if_pos, h, Option.map_some]; exact ⟨_, rfl⟩
  · exact ⟨c, by rw [heap_setCell_other w p g v (fun e => hg e.symm)]; exact h⟩
theorem int_set {w : World} {a : Addr} (h : ∃ m : Int, w.cell? a = some (.int .i64 m)) (b : Addr) (x : Int) : ∃ m : Int, (w.setCell b (.int .i64 x)).cell? a = some (.int .i64 m) := by
  obtain ⟨m, hm⟩ := h
  by_cases e : b = a
  · subst e
    exact ⟨x, World.cell?_setCell_same _ _ _ hm⟩
  · exact ⟨m, (World.cell?_setCell_other _ _ _ _ e).trans hm⟩
theorem Rw.set {w : World} {B : Nat} {v : Value} {n : Nat} (h : Rw w B v n) (p : Addr) (x : Int) : Rw (w.setCell p (.int .i64 x)) B v n := fun h0 => by
  obtain ⟨g, cap, h1, h2, h3, ⟨c, h4⟩, h5⟩ := h h0
  exact ⟨g, cap, h1, h2, by simpa using h3, block_set p _ h4, fun i hi => int_set (h5 i hi) p x⟩
theorem Rw.step {w w' : World} {B : Nat} {v : Value} {n : Nat} (h : Rw w B v n) (hb : Below w.heap.size w w') : Rw w' B v n := fun h0 => by
  obtain ⟨g, cap, h1, h2, h3, ⟨c, h4⟩, h5⟩ := h h0
  refine ⟨g, cap, h1, h2, Nat.lt_of_lt_of_le h3 hb.size, ⟨c, by rw [hb.block g h3]; exact h4⟩, fun i hi => ?_⟩
  obtain ⟨x, hx⟩ := h5 i hi
  exact ⟨x, keep hb h3 hx⟩

/-- but for some blocks all is as it was -/
structure Fix (S : Nat → Prop) (W w : World) : Prop where
  size : W.heap.size ≤ w.heap.size
  block : ∀ k, k < W.heap.size → ¬ S k → w.heap[k]? = W.heap[k]?
theorem Fix.refl (S : Nat → Prop) (W : World) : Fix S W W := ⟨Nat.le_refl _, fun _ _ _ => rfl⟩
theorem Fix.set {S : Nat → Prop} {W w : World} (h : Fix S W w) {p : Addr} (v : Value) (hp : S p.block) : Fix S W (w.setCell p v) :=
  ⟨by simpa using h.size, fun k hk hs => by rw [heap_setCell_other w p k v (fun e => hs (e ▸ hp)), h.block k hk hs]⟩
theorem Fix.step {S : Nat → Prop} {W w w' : World} (h : Fix S W w) (hb : Below w.heap.size w w') : Fix S W w' :=
  ⟨Nat.le_trans h.size hb.size, fun k hk hs => by rw [hb.block k (Nat.lt_of_lt_of_le hk h.size), h.block k hk hs]⟩
theorem Fix.cell {S : Nat → Prop} {W w : World} (h : Fix S W w) {b o : Nat} (hb : b < W.heap.size) (hs : ¬ S b) : w.cell? ⟨b, o, none⟩ = W.cell? ⟨b, o, none⟩ := World.cell?_of_block (a := ⟨b, o, none⟩) (h.block b hb hs)
theorem Fix.nums {S : Nat → Prop} {W w : World} {B : Nat} {v : Value} {l : List Int} (h : Fix S W w) (hn : NewNums W B v l) (hs : ∀ g, v.ownBlock = some g → ¬ S g) : NewNums w B v l := by
  rcases hn with hn | ⟨h0, g, rfl, h2, h3⟩
  · exact .inl hn
  · exact .inr ⟨h0, g, rfl, h2, by rw [h.block g (lt_block h3) (hs g rfl)]; exact h3⟩
/-- blocks of whole numbers alone change -/
structure Only (S : Nat → Prop) (W : World) : Prop where
  ints : ∀ k, S k → ∃ c, W.heap[k]? = some (.cells c 3 (0, 0))
theorem Only.not {S : Nat → Prop} {W : World} (h : Only S W) {k : Nat} {c : Array Value} {T : TypeId} {fz : Nat × Nat} (hk : W.heap[k]? = some (.cells c T fz)) (hT : T ≠ 3) : ¬ S k := fun hs => by
  obtain ⟨c', e⟩ := h.ints k hs
  rw [e] at hk
  simp at hk
  exact hT hk.2.1.symm
theorem Fix.bld {S : Nat → Prop} {W w : World} {B b : Nat} {y : NdR} {v : Value} (h : Fix S W w) (ho : Only S W) (hb : Bld 26 [] W B b [y] v) (h1 : ∀ g, y.2.1.ownBlock = some g → ¬ S g) (h2 : ∀ g, y.2.2.ownBlock = some g → ¬ S g) : Bld 26 [] w B b [y] v := by
  refine ⟨hb.base, ?_, ⟨hb.own.1, ?_⟩, fun z hz => ?_⟩
  · have := hb.box
    unfold Bx at this ⊢
    rw [h.block b (lt_block this) (ho.not this (by decide))]; exact this
  · rcases hb.own.2 with h0 | ⟨g, cap, cur, r1, r2, r3, r4⟩
    · exact .inl h0
    · exact .inr ⟨g, cap, cur, r1, r2, by rw [h.block g (lt_block r3) (ho.not r3 (by decide))]; exact r3, r4⟩
  · have hn := hb.new_ z hz
    simp only [List.mem_cons, List.not_mem_nil, or_false] at hz
    subst hz
    exact ⟨h.nums hn.1 h1, h.nums hn.2 h2⟩
/-- a list of nodes, its blocks apart from those that change -/
theorem Fix.nds {S : Nat → Prop} {W w : World} {B : Nat} {v : Value} {l : List Nd} (h : Fix S W w) (hn : NewNds W B v l) (hs : ∀ k, B ≤ k → k < W.heap.size → ¬ S k) : NewNds w B v l := by
  rcases hn with h0 | ⟨h0, g, L, r1, r2, r3, r4, r5⟩
  · exact .inl h0
  · refine .inr ⟨h0, g, L, r1, r2, r3, ?_, fun y hy => ?_⟩
    · unfold BoxN at r4 ⊢
      rw [h.block g (lt_block r4) (hs g r2 (lt_block r4))]; exact r4
    · have key : ∀ (u : Value) (l : List Int), NewNums W B u l → NewNums w B u l := fun u l hu => h.nums hu (fun g' hg' => by
        rcases hu with ⟨rfl, rfl⟩ | ⟨_, g2, rfl, q1, q2⟩
        · simp [Value.ownBlock] at hg'
        · simp [Value.ownBlock] at hg'
          subst hg'
          exact hs g2 q1 (lt_block q2))
      exact ⟨key _ _ (r5 y hy).1, key _ _ (r5 y hy).2⟩
theorem Fix.before {S : Nat → Prop} {W V w : World} (h : Fix S W w) (hb : Below V.heap.size V W) : Fix S V w :=
  ⟨Nat.le_trans hb.size h.size, fun k hk hs => by rw [h.block k (Nat.lt_of_lt_of_le hk hb.size) hs, hb.block k hk]⟩
theorem NewNums.in_ {W : World} {B : Nat} {v : Value} {l : List Int} (h : NewNums W B v l) : ∀ k, v.ownBlock = some k → B ≤ k ∧ k < W.heap.size ∧ ∃ c, W.heap[k]? = some (.cells c 3 (0, 0)) := fun k hk => by
  rcases h with ⟨rfl, rfl⟩ | ⟨_, g, rfl, q1, q2⟩
  · simp [Value.ownBlock] at hk
  · simp [Value.ownBlock] at hk
    subst hk
    exact ⟨q1, lt_block q2, _, q2⟩
theorem owns_in {W : World} {B n : Nat} {v : Value} {xs : List Value} (h : W.ownsRow B 3 1 v n xs) : ∀ k, v.ownBlock = some k → B ≤ k ∧ k < W.heap.size ∧ ∃ c, W.heap[k]? = some (.cells c 3 (0, 0)) := fun k hk => by
  rcases h.2 with ⟨rfl, -⟩ | ⟨g, cap, cur, rfl, q1, q2, -⟩
  · simp [Value.ownBlock] at hk
  · simp [Value.ownBlock] at hk
    subst hk
    exact ⟨q1, lt_block q2, _, q2⟩
theorem owns_shape {W : World} {B n : Nat} {v : Value} {xs : List Value} (h : W.ownsRow B 3 1 v n xs) : ∃ s c, v = .slice s n c := by
  rcases h.2 with ⟨rfl, rfl⟩ | ⟨g, cap, cur, rfl, -⟩
  · exact ⟨none, 0, rfl⟩
  · exact ⟨_, cap, rfl⟩
theorem Bx.grown {T : TypeId} {w w' : World} {b : Nat} {cs : List Value} {r : Option Nat} (h : Bx T w b cs) (hg : w.grownBy w' r) (hr : some b ≠ r) : Bx T w' b cs := by
  unfold Bx at h ⊢
  rw [hg.block b (lt_block h) hr]; exact h
theorem bld_nil {W : World} {b : Nat} (h : Bx 26 W b [.slice none 0 0]) : Bld 26 [] W b b [] (.slice none 0 0) :=
  ⟨Nat.le_refl _, h, World.ownsRow_nil _ _ _ _, fun y hy => by cases hy⟩
/-- one node's list that a call made: its row, and its lists -/
theorem NewNds.one {W : World} {B : Nat} {v : Value} {x : Nd} (h : NewNds W B v [x]) : ∃ (g : Nat) (y : NdR), v = .slice (some ⟨g, 0, none⟩) 1 1 ∧ y.1 = x ∧ BoxN W g (ndC y) ∧ NewNums W B y.2.1 x.kids ∧ NewNums W B y.2.2 x.ends := by
  rcases h with ⟨h0, -⟩ | ⟨h0, g, L, rfl, hB, hL, hx, hn⟩
  · simp at h0
  · match L, hL with
    | [y], hL =>
      simp at hL
      refine ⟨g, y, rfl, hL, ?_, ?_, ?_⟩
      · unfold BoxN at hx ⊢
        rw [hx]; simp [flatN]
      · have := (hn y (by simp)).1; rwa [hL] at this
      · have := (hn y (by simp)).2; rwa [hL] at this
/-- a list of whole numbers that came in -/
def KidsV (w : World) (v : Value) (l : List Int) : Prop := ∃ src cap, v = .slice src l.length cap ∧ NumsIn w src l ∧ (src = none → cap = 0)
theorem KidsV.step {w w' : World} {v : Value} {l : List Int} (h : KidsV w v l) (hb : Below w.heap.size w w') : KidsV w' v l := by
  obtain ⟨src, cap, h1, h2, h3⟩ := h
  exact ⟨src, cap, h1, h2.step hb, h3⟩
theorem KidsV.nums {w : World} {v : Value} {l : List Int} (h : KidsV w v l) : NumsV w v l := by
  obtain ⟨src, cap, h1, h2, h3⟩ := h
  exact ⟨src, cap, h1, h2⟩
theorem append_nums (ty : TypeId) (w : World) (base n : Nat) (v : Value) (xs : List Value) (hown : w.ownsRow base 3 1 v n xs) (sv : Value) (l : List Int) (hs : KidsV w sv l) (hn : n + l.length ≤ 1099511627776) (hb : base ≤ w.heap.size) :
    ∃ v' w', (Builtin.append_ #[22, 22] ty #[v, sv]).run Tryd.prog w = .ok v' w' ∧ w'.ownsRow base 3 1 v' (n + l.length) (xs ++ numC l) ∧ w.grownBy w' v.ownBlock := by
  obtain ⟨i0, hi, hz0, hz1, hz2⟩ := info_parts infoInt
  obtain ⟨src, cap, rfl, hr, hc⟩ := hs
  cases src with
  | none =>
    have h0 : l.length = 0 := by
      by_cases h : l.length = 0
      · exact h
      · obtain ⟨b, off, h1, -⟩ := hr (by omega)
        cases h1
    have hl := List.eq_nil_of_length_eq_zero h0
    subst hl
    rw [hc rfl]
    exact ⟨v, w, run_append_owned_none (P := Tryd.prog) (w := w) base 22 ty 3 i0 1 Tryd.underlying22 hi v n xs hown, by simpa [numC] using hown, rfl, rfl, rfl, Nat.le_refl _, fun _ _ _ => rfl⟩
  | some a =>
    obtain ⟨v', w', h1, h2, h3, -⟩ := run_append_own (P := Tryd.prog) w base 22 ty 3 i0 (.int .i64 0) 1 8 Tryd.underlying22 hi hz0 hz1 hz2 rfl (by decide) v n xs hown a l.length cap (numC l) (by simp [numC])
      (fun j u hj => by
        obtain ⟨hj1, hj2⟩ := List.getElem?_eq_some_iff.1 hj
        have hj3 : j < l.length := by simpa [numC] using hj1
        obtain ⟨b, off, h1, h2, h3⟩ := hr (by omega)
        cases h1
        rw [add_at, h3 j hj3, ← hj2]
        simp [numC])
      (fun u hu => by
        obtain ⟨x, -, rfl⟩ := List.mem_map.1 hu
        rfl) (by unfold maxLen; omega) (by omega) hb
    exact ⟨v', w', h1, h2, h3⟩
theorem step_append_nums {ops : Array Oper} {o : Oper} {a : Act} {w : World} {K : Act → World → Prop} {Q : Exit → Act → World → Prop} {E : Prop}
    (hg : o.guard = none) (s x : Operand) (hop : o.op = Op.call { callee := Callee.builtin Builtin.append, args := #[s, x], argTypes := #[22, 22] })
    (base n : Nat) (v : Value) (xs : List Value) (hs : a.eval s = v) (hown : w.ownsRow base 3 1 v n xs) (sv : Value) (l : List Int) (hx : a.eval x = sv) (hk : KidsV w sv l) (hn : n + l.length ≤ 1099511627776) (hb : base ≤ w.heap.size)
    (hK : ∀ v' w', w'.ownsRow base 3 1 v' (n + l.length) (xs ++ numC l) → w.grownBy w' v.ownBlock → K (a.put o.dst v') w') :
    if Region.wanted o (yielded ops a.tmps) = true then Oper.wp Tryd.prog o a w K Q else E := by
  have hw : Region.wanted o (yielded ops a.tmps) = true := by simp [Region.wanted, hg]
  rw [if_pos hw]
  obtain ⟨v', w', hrun, r1, r2⟩ := append_nums o.type w base n v xs hown sv l hk hn hb
  unfold Oper.wp
  simp [execOp, hop, resolve, invoke, builtin, hs, hx, hrun, Result.andThen]
  exact hK v' w' r1 r2

theorem wpList_append_run {P : Program} {w : World} {ops : Array Oper} {rest : List Oper} {o : Oper} {a : Act} {Q : Exit → Act → World → Prop} (hgd : o.guard = none) (s x : Operand) (t : TypeId)
    (ho : o.op = .call { callee := .builtin .append, args := #[s, x], argTypes := #[t, t] }) (v sv v' : Value) (w' : World) (hs : a.eval s = v) (hx : a.eval x = sv) (hrun : (Builtin.append_ #[t, t] o.type #[v, sv]).run P w = .ok v' w')
    (h : wpList P ops Q rest (a.put o.dst v') w') : wpList P ops Q (o :: rest) a w := by
  refine wpList_plain hgd fun K hK => ?_
  unfold Oper.wp
  simp [execOp, ho, resolve, invoke, builtin, hs, hx, hrun, Result.andThen]
  exact hK _ _ h
/-- a row of a call's own, as numbers that may be written -/
theorem owns_rw {w : World} {B n : Nat} {v : Value} {l : List Int} (h : w.ownsRow B 3 1 v n (numC l)) (hn : n = l.length) : Rw w B v n := fun h0 => by
  rcases h.2 with ⟨-, h1⟩ | ⟨g, cap, cur, rfl, hB, hg, hnc, hcm, hcs, htake⟩
  · omega
  · refine ⟨g, cap, rfl, hB, lt_block hg, ⟨_, hg⟩, fun i hi => ⟨l[i]'(by omega), ?_⟩⟩
    have := h.cells (g := g) rfl i (.int .i64 (l[i]'(by omega))) (by simp [numC])
    rwa [add_at, Nat.zero_add] at this
theorem owns_nums {w : World} {B n : Nat} {v : Value} {l : List Int} (h : w.ownsRow B 3 1 v n (numC l)) (hn : n = l.length) : NumsV w v l := by
  subst hn
  rcases h.2 with ⟨rfl, h1⟩ | ⟨g, cap, cur, rfl, hB, hg, hnc, hcm, hcs, htake⟩
  · exact ⟨none, 0, by rw [h1], fun h => absurd h (by omega)⟩
  · refine ⟨_, cap, rfl, fun _ => ⟨g, 0, rfl, lt_block hg, fun i hi => ?_⟩⟩
    have := h.cells (g := g) rfl i (.int .i64 l[i]) (by simp [numC])
    rwa [add_at] at this
end Go.Proofs.YtnmpbnjaegnpjaaDoor
