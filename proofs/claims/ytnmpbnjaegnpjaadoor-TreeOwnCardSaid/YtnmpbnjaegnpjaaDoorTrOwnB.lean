/- The walk of the law on whose memory it is. -/
import Derived.Test.YtnmpbnjaegnpjaaDoorTrOwn
import Derived.Test.YtnmpbnjaegnpjaaDoorTrTree
namespace Go.Proofs.YtnmpbnjaegnpjaaDoor
open Go Go.RowKit
set_option linter.unusedVariables false
set_option linter.unusedSimpArgs false

def ownX (l0 l1 : List Int) : Nd := ⟨8, 0, 0, l0, ⟨#[]⟩, 0, ⟨#[]⟩, 0, ⟨#[]⟩, 0, 0, 0, l1⟩
theorem own_fit {l0 l1 : List Int} (h0 : l0.length ≤ 20) (h1 : l1.length ≤ 20) : NdFit (ownX l0 l1) :=
  ⟨by show l0.length ≤ _; omega, by show l1.length ≤ _; omega, (show (0 : Nat) ≤ 281474976710656 by decide), (show (0 : Nat) ≤ 281474976710656 by decide), (show (0 : Nat) ≤ 281474976710656 by decide)⟩
/-- the blocks that are written -/
def SW (m0 m1 nv tk : Value) (k : Nat) : Prop := m0.ownBlock = some k ∨ m1.ownBlock = some k ∨ nv.ownBlock = some k ∨ tk.ownBlock = some k
/-- what the loops keep -/
structure OI (w W : World) (m0 m1 nv tk : Value) (n0 n1 : Nat) (w' : World) : Prop where
  fix : Fix (SW m0 m1 nv tk) W w'
  bel : Below w.heap.size w w'
  r0 : Rw w' w.heap.size m0 n0
  r1 : Rw w' w.heap.size m1 n1
  r2 : Rw w' w.heap.size nv n0
  r3 : Rw w' w.heap.size tk n0
theorem OI.set {w W w' : World} {m0 m1 nv tk : Value} {n0 n1 : Nat} (h : OI w W m0 m1 nv tk n0 n1 w') (g o : Nat) (x : Int) (hg : SW m0 m1 nv tk g) (hb : w.heap.size ≤ g) : OI w W m0 m1 nv tk n0 n1 (w'.setCell ⟨g, o, none⟩ (.int .i64 x)) :=
  ⟨h.fix.set _ hg, h.bel.setCell hb _, h.r0.set _ _, h.r1.set _ _, h.r2.set _ _, h.r3.set _ _⟩

/-- the laws' things, made -/
structure OW (w W : World) (gb gt gc gn : Nat) (l0 l1 : List Int) (m0 m1 nv tk tv cv : Value) : Prop where
  only : Only (SW m0 m1 nv tk) W
  from_ : ∀ k, SW m0 m1 nv tk k → w.heap.size ≤ k
  bld : ∃ (y : NdR) (v : Value), y.1 = ownX l0 l1 ∧ Bld 26 [] W gb gb [y] v ∧ (∀ g, y.2.1.ownBlock = some g → ¬ SW m0 m1 nv tk g) ∧ (∀ g, y.2.2.ownBlock = some g → ¬ SW m0 m1 nv tk g)
  tbox : Bx 36 W gt [tv, .int .i64 0]
  trow : ∃ g cap, tv = .slice (some ⟨g, 0, none⟩) 1 cap ∧ W.cell? ⟨g, 3, none⟩ = some tk ∧ ∃ c, W.heap[g]? = some (.cells c 34 (0, 0))
  cbox : Bx 36 W gc [cv, .int .i64 0]
  crow : ∃ V B, Below V.heap.size V W ∧ NewNds V B cv [ownX l0 l1] ∧ ∀ k, B ≤ k → k < V.heap.size → ¬ SW m0 m1 nv tk k
  nbox : ∃ c, W.heap[gn]? = some (.cells c 34 (0, 0))
  ncell : W.cell? ⟨gn, 3, none⟩ = some nv
  start : OI w W m0 m1 nv tk l0.length l1.length W

/-- of the six things that are made, which blocks are written -/
theorem ow_make {w W3 W4 W5 W7 W8 W9 W : World} {gb gt gc gn : Nat} {l0 l1 : List Int} {m0 m1 nv tv cv evn : Value} {y : NdR} {v : Value}
    (b0 : w.heap.size ≤ W3.heap.size) (o0 : W3.ownsRow w.heap.size 3 1 m0 l0.length (numC l0)) (o1 : W3.ownsRow w.heap.size 3 1 m1 l1.length (numC l1))
    (hy : y.1 = ownX l0 l1) (bd : Bld 26 [] W4 gb gb [y] v) (ny0 : NewNums W4 W3.heap.size y.2.1 l0) (ny1 : NewNums W4 W3.heap.size y.2.2 l1) (k34 : ∀ k, k < W3.heap.size → k ≠ gb → W4.heap[k]? = W3.heap[k]?) (hgb : ∃ c, W3.heap[gb]? = some (.cells c 26 (0, 0)))
    (s34 : W3.heap.size ≤ W4.heap.size) (s45 : W4.heap.size ≤ W5.heap.size) (s57 : W5.heap.size < W7.heap.size) (s78 : W7.heap.size ≤ W8.heap.size) (s89 : W8.heap.size ≤ W9.heap.size)
    (n5 : NewNds W5 W4.heap.size tv [ownX l0 l1]) (n7 : NewNds W7 (W5.heap.size + 1) cv [ownX l0 l1]) (n9 : NewNums W9 W8.heap.size nv l0)
    (t4 : Below W4.heap.size W4 W) (t5 : Below W5.heap.size W5 W) (t7 : Below W7.heap.size W7 W) (t9 : Below W9.heap.size W9 W) (tw : Below w.heap.size w W)
    (tb : Bx 36 W gt [tv, .int .i64 0]) (cb : Bx 36 W gc [cv, .int .i64 0]) (nb : BoxN W gn (ndL (ownX l0 l1) nv evn)) :
    ∃ tk, OW w W gb gt gc gn l0 l1 m0 m1 nv tk tv cv := by
  obtain ⟨gt0, yt, rfl, hyt, hxt, nt0, nt1⟩ := n5.one
  have keep3 : ∀ (k : Nat) (c : Array Value), W3.heap[k]? = some (Obj.cells c 3 (0, 0)) → W.heap[k]? = some (Obj.cells c 3 (0, 0)) := fun k c hk => by
    have hlt := lt_block hk
    have hne : k ≠ gb := fun e => by
      subst e
      obtain ⟨c', e'⟩ := hgb
      rw [e'] at hk; simp at hk
    rw [t4.block k (Nat.lt_of_lt_of_le hlt s34), k34 k hlt hne, hk]
  have i0 := owns_in o0
  have i1 := owns_in o1
  have i2 := n9.in_
  have i3 := nt0.in_
  have j0 := ny0.in_
  have j1 := ny1.in_
  have hx5 := hxt
  unfold BoxN at hx5
  have hxW : W.heap[gt0]? = some (.cells (ndC yt).toArray 34 (0, 0)) := by rw [t5.block gt0 (lt_block hx5)]; exact hx5
  have cnt : ∀ k, SW m0 m1 nv yt.2.1 k → (w.heap.size ≤ k) ∧ ((k < W3.heap.size) ∨ (W4.heap.size ≤ k ∧ k < W5.heap.size) ∨ W8.heap.size ≤ k) ∧ ∃ c : Array Value, W.heap[k]? = some (Obj.cells c 3 (0, 0)) := by
    intro k hk
    rcases hk with h | h | h | h
    · obtain ⟨q1, q2, c, q3⟩ := i0 k h
      exact ⟨q1, .inl q2, c, keep3 k c q3⟩
    · obtain ⟨q1, q2, c, q3⟩ := i1 k h
      exact ⟨q1, .inl q2, c, keep3 k c q3⟩
    · obtain ⟨q1, q2, c, q3⟩ := i2 k h
      exact ⟨by omega, .inr (.inr q1), c, by rw [t9.block k q2]; exact q3⟩
    · obtain ⟨q1, q2, c, q3⟩ := i3 k h
      exact ⟨by omega, .inr (.inl ⟨q1, q2⟩), c, by rw [t5.block k q2]; exact q3⟩
  have l0x : (ownX l0 l1).kids = l0 := rfl
  have nb' := nb
  unfold BoxN at nb'
  refine ⟨yt.2.1, ⟨⟨fun k hk => (cnt k hk).2.2⟩, fun k hk => (cnt k hk).1, ⟨y, v, hy, bd.step t4, ?_, ?_⟩, tb, ⟨gt0, 1, rfl, ?_, ⟨_, hxW⟩⟩, cb, ⟨W7, _, t7, n7, ?_⟩, ⟨_, nb'⟩, ?_, ?_⟩⟩
  · intro g hg hs
    obtain ⟨q1, q2, -⟩ := j0 g hg
    have := (cnt g hs).2.1
    omega
  · intro g hg hs
    obtain ⟨q1, q2, -⟩ := j1 g hg
    have := (cnt g hs).2.1
    omega
  · rw [cell_at hxW]; rfl
  · intro k q1 q2 hs
    have := (cnt k hs).2.1
    omega
  · rw [nb.cell]; rfl
  · have r3 : Rw W w.heap.size yt.2.1 l0.length := (((nt0.mono (B' := w.heap.size) (by omega)).step t5).rw)
    have r2 : Rw W w.heap.size nv l0.length := (((n9.mono (B' := w.heap.size) (by omega)).step t9).rw)
    have rr : ∀ (m : Value) (l : List Int), W3.ownsRow w.heap.size 3 1 m l.length (numC l) → Rw W w.heap.size m l.length := fun m l ho hl => by
      obtain ⟨g, cap, h1, h2, h3, ⟨c, h4⟩, h5⟩ := owns_rw ho rfl hl
      refine ⟨g, cap, h1, h2, ?_, ⟨c, keep3 g c h4⟩, fun i hi => ?_⟩
      · have := t4.size; omega
      · obtain ⟨x, hx⟩ := h5 i hi
        exact ⟨x, by rw [← hx]; exact World.cell?_of_block (a := ⟨g, i, none⟩) (by rw [keep3 g c h4, h4])⟩
    exact ⟨Fix.refl _ _, tw, rr m0 l0 o0, rr m1 l1 o1, r2, r3⟩

/-- what is read again -/
structure RS (w : World) (gb gc : Nat) (l0 l1 : List Int) (cv : Value) (w' : World) : Prop where
  bel : Below w.heap.size w w'
  bld : ∃ (y : NdR) (v : Value), y.1 = ownX l0 l1 ∧ Bld 26 [] w' gb gb [y] v
  cbox : Bx 36 w' gc [cv, .int .i64 0]
  crow : ∃ B, NewNds w' B cv [ownX l0 l1]
theorem RS.keep {w w' w2 : World} {gb gc : Nat} {l0 l1 : List Int} {cv : Value} (h : RS w gb gc l0 l1 cv w') (hb : Below w'.heap.size w' w2) : RS w gb gc l0 l1 cv w2 := by
  obtain ⟨h1, ⟨y, v, h2, h3⟩, h4, B, h5⟩ := h
  exact ⟨after h1 hb, ⟨y, v, h2, h3.step hb⟩, h4.keep hb, B, h5.step hb⟩
theorem OW.rs {w W w' : World} {gb gt gc gn : Nat} {l0 l1 : List Int} {m0 m1 nv tk tv cv : Value} {n0 n1 : Nat} (h : OW w W gb gt gc gn l0 l1 m0 m1 nv tk tv cv) (hi : OI w W m0 m1 nv tk n0 n1 w') : RS w gb gc l0 l1 cv w' := by
  obtain ⟨y, v, h1, h2, h3, h4⟩ := h.bld
  obtain ⟨V, B, h5, h6, h7⟩ := h.crow
  refine ⟨hi.bel, ⟨y, v, h1, hi.fix.bld h.only h2 h3 h4⟩, ?_, B, (hi.fix.before h5).nds h6 h7⟩
  have := h.cbox
  unfold Bx at this ⊢
  rw [hi.fix.block gc (lt_block this) (h.only.not this (by decide))]; exact this
theorem NewNums.at_ {W : World} {B k : Nat} {v : Value} {l : List Int} (h : NewNums W B v l) (hk : k < l.length) : ∃ g, v = .slice (some ⟨g, 0, none⟩) l.length l.length ∧ W.cell? ⟨g, k, none⟩ = some (.int .i64 l[k]) := by
  rcases h with ⟨rfl, -⟩ | ⟨h0, g, rfl, q1, q2⟩
  · simp at hk
  · exact ⟨g, rfl, by rw [cell_at q2]; simp [numC, hk]⟩
/-- what is read of the copy -/
theorem RS.copy {w w' : World} {gb gc k : Nat} {l0 l1 : List Int} {cv : Value} (h : RS w gb gc l0 l1 cv w') : ∃ (g : Nat) (kv ev : Value), cv = .slice (some ⟨g, 0, none⟩) 1 1 ∧ w'.cell? ⟨gc, 0, none⟩ = some cv ∧ w'.cell? ⟨gc, 1, none⟩ = some (.int .i64 0) ∧ w'.cell? ⟨g, 3, none⟩ = some kv ∧ w'.cell? ⟨g, 12, none⟩ = some ev ∧
    (k < l0.length → ∃ q, kv = .slice (some ⟨q, 0, none⟩) l0.length l0.length ∧ ∃ hk : k < l0.length, w'.cell? ⟨q, k, none⟩ = some (.int .i64 l0[k])) ∧ (k < l1.length → ∃ q, ev = .slice (some ⟨q, 0, none⟩) l1.length l1.length ∧ ∃ hk : k < l1.length, w'.cell? ⟨q, k, none⟩ = some (.int .i64 l1[k])) := by
  obtain ⟨B, hc⟩ := h.crow
  obtain ⟨g, y, rfl, hy, hx, n1, n2⟩ := hc.one
  refine ⟨g, y.2.1, y.2.2, rfl, h.cbox.two.1, h.cbox.two.2.1, by rw [hx.cell]; rfl, by rw [hx.cell]; rfl, fun hk => ?_, fun hk => ?_⟩
  · obtain ⟨q, q1, q2⟩ := n1.at_ (k := k) hk
    exact ⟨q, q1, hk, q2⟩
  · obtain ⟨q, q1, q2⟩ := n2.at_ (k := k) hk
    exact ⟨q, q1, hk, q2⟩
theorem RS.at_ {w w' : World} {gb gc : Nat} {l0 l1 : List Int} {cv : Value} (h : RS w gb gc l0 l1 cv w') (h0 : l0.length ≤ 20) (h1 : l1.length ≤ 20) :
    Calls Tryd.prog 8 #[.pointer (some ⟨gb, 0, none⟩), .int .i64 0] w' fun e w2 => ∃ kv ev, e = .returned (.agg #[.int .i64 8, .int .i64 0, .int .i64 0, kv, .string ⟨#[]⟩, .int .i64 0, .string ⟨#[]⟩, .int .i64 0, .string ⟨#[]⟩, .int .i64 0, .int .i64 0, .int .i64 0, ev]) ∧ RS w gb gc l0 l1 cv w2 ∧ NewNums w2 w'.heap.size kv l0 ∧ NewNums w2 w'.heap.size ev l1 := by
  obtain ⟨y, v, hy, hb⟩ := h.bld
  have hat := at_any 26 [] gb gb [y] v 0 w' hb (by simp) (by rw [show ([y] : List NdR)[0] = y from rfl, hy]; exact own_fit h0 h1) (by simp)
  rw [show ([y] : List NdR)[0] = y from rfl, hy] at hat
  refine hat.mono ?_
  rintro e w9 ⟨se, ce, sf, cf, rfl, hb9, n9, n8⟩
  exact ⟨_, _, rfl, h.keep hb9, n9, n8⟩
set_option maxRecDepth 100000 in
theorem field_kids (w : World) (a3 b3 : Value) : Sem.run Tryd.prog (Instr.field 34 (.agg #[.int .i64 8, .int .i64 0, .int .i64 0, a3, .string ⟨#[]⟩, .int .i64 0, .string ⟨#[]⟩, .int .i64 0, .string ⟨#[]⟩, .int .i64 0, .int .i64 0, .int .i64 0, b3]) 2) w = Result.ok a3 w := by
  kernel_rfl
set_option maxRecDepth 100000 in
theorem field_ends (w : World) (a3 b3 : Value) : Sem.run Tryd.prog (Instr.field 34 (.agg #[.int .i64 8, .int .i64 0, .int .i64 0, a3, .string ⟨#[]⟩, .int .i64 0, .string ⟨#[]⟩, .int .i64 0, .string ⟨#[]⟩, .int .i64 0, .int .i64 0, .int .i64 0, b3]) 7) w = Result.ok b3 w := by
  kernel_rfl
end Go.Proofs.YtnmpbnjaegnpjaaDoor
