/- Contracts that the document's Check wants (merged of XTrAdd3 XTrOwn XTrRDepth XTrRWalk XTrSmall XTrRKinds). -/
import Derived.Test.YtfalgnapghienaaGreatDoorTrAdd2
import Derived.Test.YtfalgnapghienaaGreatDoorTrAt
import Derived.Test.YtfalgnapghienaaGreatDoorTrDepth
import Derived.Test.YtfalgnapghienaaGreatDoorTrMark
import Derived.Laws.AppendOwnNone
import Derived.Deep.RegionHeld3
namespace Go.Proofs.YtfalgnapghienaaGreatDoor
open Go Go.RowKit
set_option linter.unusedVariables false
set_option linter.unusedSimpArgs false

def AddPost3 (T : TypeId) (rest : List Value) (w : World) (B b : Nat) (L : List NdR) (v : Value) (x : Nd) (e : Ending) (w' : World) : Prop :=
  e = .returned (.tuple #[.int .i64 (L.length : Nat), .bool true]) ∧ Below B w w' ∧ (∃ y v', y.1 = x ∧ Bld T rest w' B b (L ++ [y]) v' ∧ NewNums w' w.heap.size y.2.1 x.kids ∧ NewNums w' w.heap.size y.2.2 x.ends) ∧ KeptN w w' b ∧ (∀ k, k < w.heap.size → k ≠ b → some k ≠ v.ownBlock → w'.heap[k]? = w.heap[k]?)

set_option maxRecDepth 100000 in
set_option maxHeartbeats 4000000 in
theorem add3_any (T : TypeId) (hT1 : T ≠ 3) (hT2 : T ≠ 46) (rest : List Value) (bB b : Nat) (L : List NdR) (v : Value) (kind sf st : Int) (kids : List Int) (text : ByteArray) (B : Int) (N : ByteArray) (D : Int) (M : ByteArray) (num wf wt : Int) (ends : List Int) (kv ev : Value) (w : World)
    (hb : Bld T rest w bB b L v) (hB : bB ≤ w.heap.size) (hL : L.length < 16384) (hk : NumsV w kv kids) (he : NumsV w ev ends) (lk : kids.length ≤ 17592186044416) (le : ends.length ≤ 17592186044416) (st1 : text.size ≤ 281474976710656) (sn : N.size ≤ 281474976710656) (sm : M.size ≤ 281474976710656) :
    Calls Tryz.prog 20 #[.pointer (some ⟨b, 0, none⟩), .agg #[.int .i64 kind, .int .i64 sf, .int .i64 st, kv, .string text, .int .i64 B, .string N, .int .i64 D, .string M, .int .i64 num, .int .i64 wf, .int .i64 wt, ev]] w (AddPost3 T rest w bB b L v ⟨kind, sf, st, kids, text, B, N, D, M, num, wf, wt, ends⟩) := by
  obtain ⟨ks, kc, rfl, hks⟩ := hk
  obtain ⟨es, ec, rfl, hes⟩ := he
  have HC := Lib.hid (fun (w2 : World) (hb : Below w.heap.size w w2) => nclone_any kind sf st kids text B N D M num wf wt ends (.slice ks kids.length kc) (.slice es ends.length ec) w2 ⟨ks, kc, rfl, hks.step hb⟩ ⟨es, ec, rfl, hes.step hb⟩ lk le st1 sn sm)
  clear hks hes lk le st1 sn sm
  obtain ⟨vs, vc, rfl⟩ := hb.shape
  obtain ⟨j0, hj, jz0, jz1, jz2⟩ := info_parts infoNode
  have HB := Lib.hid hb
  have c0 := hb.box.cell 0
  have hbl := hb.box.lt
  simp only [List.getElem?_cons_zero] at c0
  clear hb
  generalize hn : L.length = n at *
  have HNL := Lib.hid hn
  clear hn
  have i1 : ((n : Int) == 16384) = false := by simp; omega
  go_enter Tryz.func20, Tryz.ntmps20
  go_wp2_with fail
  have hB3 : Below w.heap.size w (w.alloc (.cells #[.int .i64 kind, .int .i64 sf, .int .i64 st, .slice ks kids.length kc, .string text, .int .i64 B, .string N, .int .i64 D, .string M, .int .i64 num, .int .i64 wf, .int .i64 wt, .slice es ends.length ec] 46)) := (Below.refl _ _).alloc (Nat.le_refl _) _
  obtain ⟨W3, hW3⟩ : ∃ W3, W3 = w.alloc (.cells #[.int .i64 kind, .int .i64 sf, .int .i64 st, .slice ks kids.length kc, .string text, .int .i64 B, .string N, .int .i64 D, .string M, .int .i64 num, .int .i64 wf, .int .i64 wt, .slice es ends.length ec] 46) := ⟨_, rfl⟩
  have X3 : Hid (BoxN W3 w.heap.size [.int .i64 kind, .int .i64 sf, .int .i64 st, .slice ks kids.length kc, .string text, .int .i64 B, .string N, .int .i64 D, .string M, .int .i64 num, .int .i64 wf, .int .i64 wt, .slice es ends.length ec]) := Lib.hid (by rw [hW3]; exact BoxN.new w #[.int .i64 kind, .int .i64 sf, .int .i64 st, .slice ks kids.length kc, .string text, .int .i64 B, .string N, .int .i64 D, .string M, .int .i64 num, .int .i64 wf, .int .i64 wt, .slice es ends.length ec])
  have HB3 : Hid (Below w.heap.size w W3) := Lib.hid (by rw [hW3]; exact hB3)
  rw [← hW3]
  clear hW3 hB3
  have BD3 := Lib.hid (HB.out.step HB3.out)
  obtain ⟨⟨a0, a1, a2, a3, a4, a5, a6, a7, a8, a9, a10, a11, a12⟩, al, af⟩ := X3.out.all
  have d0 := BD3.out.box.cell 0
  have df := BD3.out.box.frozen 0
  simp only [List.getElem?_cons_zero] at d0
  clear c0 hbl
  have N1 : Hid (L.length + 1 ≤ maxLen) := Lib.hid (by have := HNL.out; unfold maxLen; omega)
  have N2 : Hid ((L.length + 1) * 160 ≤ 140737488355328) := Lib.hid (by have := HNL.out; omega)
  have RW : Hid (∀ (s1 : Option Addr) (c1 : Nat) (s2 : Option Addr) (c2 : Nat) (W4 : World), ∀ j u, ([.int .i64 kind, .int .i64 sf, .int .i64 st, .slice s1 kids.length c1, .string text, .int .i64 B, .string N, .int .i64 D, .string M, .int .i64 num, .int .i64 wf, .int .i64 wt, .slice s2 ends.length c2] : List Value)[j]? = some u → (W4.alloc (.cells #[.int .i64 kind, .int .i64 sf, .int .i64 st, .slice s1 kids.length c1, .string text, .int .i64 B, .string N, .int .i64 D, .string M, .int .i64 num, .int .i64 wf, .int .i64 wt, .slice s2 ends.length c2] 46)).cell? ((⟨W4.heap.size, 0, none⟩ : Addr).add j) = some u) := Lib.hid (by
    intro s1 c1 s2 c2 W4 j u hj
    rw [add_at, Nat.zero_add, (BoxN.new W4 #[.int .i64 kind, .int .i64 sf, .int .i64 st, .slice s1 kids.length c1, .string text, .int .i64 B, .string N, .int .i64 D, .string M, .int .i64 num, .int .i64 wf, .int .i64 wt, .slice s2 ends.length c2]).cell]; exact hj)
  have R1 : Hid (∀ (s1 : Option Addr) (c1 : Nat) (s2 : Option Addr) (c2 : Nat), ∀ u ∈ ([.int .i64 kind, .int .i64 sf, .int .i64 st, .slice s1 kids.length c1, .string text, .int .i64 B, .string N, .int .i64 D, .string M, .int .i64 num, .int .i64 wf, .int .i64 wt, .slice s2 ends.length c2] : List Value), u.oneCell' = true) := Lib.hid (by
    intro s1 c1 s2 c2 u hu
    simp only [List.mem_cons, List.not_mem_nil, or_false] at hu
    rcases hu with rfl | rfl | rfl | rfl | rfl | rfl | rfl | rfl | rfl | rfl | rfl | rfl | rfl <;> rfl)
  go_region_law (first
    | (refine step_append_n rfl (.tmp 16) (.tmp 19) 22 rfl bB 46 j0 _ 13 160 Tryz.underlying22 hj jz0 jz1 jz2 rfl (by decide) (.slice vs n vc) L.length (flatN L) (by simp [Act.eval]) (HW.out.own.alloc _) ⟨W4.heap.size, 0, none⟩ 1 1 ([.int .i64 kind, .int .i64 sf, .int .i64 st, .slice s1 kids.length c1, .string text, .int .i64 B, .string N, .int .i64 D, .string M, .int .i64 num, .int .i64 wf, .int .i64 wt, .slice s2 ends.length c2]) (by simp [Act.eval]) rfl (RW.out _ _ _ _ W4) (R1.out _ _ _ _) N1.out N2.out (HB4.out _) ?_
       intro v' w5 hown' hgrow
       obtain ⟨g, gc, rfl⟩ := own_shape hown'
       have HG := Lib.hid (HW.out.grow2 (y := (⟨kind, sf, st, kids, text, B, N, D, M, num, wf, wt, ends⟩, .slice s1 kids.length c1, .slice s2 ends.length c2)) hT1 hT2 HBW.out ⟨M1.out, M2.out⟩ hown' hgrow)
       have e0 := HG.out.2.2.2.1.cell 0
       have ef := HG.out.2.2.2.1.frozen 0
       simp only [List.getElem?_cons_zero] at e0
       clear hown' hgrow)
    | (go_simp
       go_at_call 44
       refine (HC.out _ (HB3.out.drew)).mono ?_
       rintro e W4 ⟨s1, c1, s2, c2, rfl, h34, n1, n2⟩
       have HW : Hid (Bld T rest W4 bB b L (.slice vs n vc)) := Lib.hid ((HB.out.step HB3.out.drew).step h34)
       have HB4 : Hid (∀ o : Obj, bB ≤ (W4.alloc o).heap.size) := Lib.hid (fun o => by have := h34.size; have := HB3.out.size; simp at *; omega)
       have HBW : Hid (bB ≤ W4.heap.size) := Lib.hid (by have := h34.size; have := HB3.out.size; simp at *; omega)
       have H4 := Lib.hid (after HB3.out.drew h34)
       have M1 := Lib.hid (n1.mono (B' := bB) (by have := HB3.out.size; simp at *; omega))
       have M2 := Lib.hid (n2.mono (B' := bB) (by have := HB3.out.size; simp at *; omega))
       have M3 := Lib.hid (n1.mono (B' := w.heap.size) (by have := HB3.out.size; simp at *; omega))
       have M4 := Lib.hid (n2.mono (B' := w.heap.size) (by have := HB3.out.size; simp at *; omega))
       have g0 := HW.out.box.cell 0
       simp only [List.getElem?_cons_zero] at g0
       have gl := HW.out.box.lt
       clear h34 n1 n2))
  all_goals
    have HZ := Lib.hid (KeptN.trans (KeptN.of_below b H4.out) HG.out.2.2.1)
    have HZ2 := Lib.hid ((H4.out.mono hB).trans HG.out.2.1)
    have HZ3 := Lib.hid HG.out.1
    have HZ5 := Lib.hid (HG.out.2.2.1.nums M3.out (HW.out.notInt hT1))
    have HZ6 := Lib.hid (HG.out.2.2.1.nums M4.out (HW.out.notInt hT1))
    have HZ4 : Hid (∀ k, k < w.heap.size → k ≠ b → some k ≠ (Value.slice vs n vc).ownBlock → (w5.setCell ⟨b, 0, none⟩ _).heap[k]? = w.heap[k]?) := Lib.hid (fun k hk h1 h2 => (HG.out.2.2.2.2 k (Nat.lt_of_lt_of_le hk H4.out.size) h1 h2).trans (H4.out.block k hk))
    clear HG HW HB4 H4 M1 M2 M3 M4 HC HB3 BD3 X3 HB N1 N2 RW R1
    generalize hln : L.length = ln at *
    have hl2 : ln < 16384 := by have := HNL.out; omega
    have HLN := Lib.hid hln
    clear hln
    go_wp2_with fail
    go_ret2
    exact ⟨by rw [HLN.out]; rfl, HZ2.out, ⟨_, _, rfl, HZ3.out, HZ5.out, HZ6.out⟩, HZ.out, HZ4.out⟩
end Go.Proofs.YtfalgnapghienaaGreatDoor
namespace Go.Proofs.YtfalgnapghienaaGreatDoor
open Go Go.RowKit
set_option linter.unusedVariables false
set_option linter.unusedSimpArgs false

/-- a list of whole numbers that may be written, each in its place -/
def Rw (w : World) (B : Nat) (v : Value) (n : Nat) : Prop := 0 < n → ∃ g cap, v = .slice (some ⟨g, 0, none⟩) n cap ∧ B ≤ g ∧ g < w.heap.size ∧ (∃ c, w.heap[g]? = some (.cells c 3 (0, 0))) ∧ ∀ i, i < n → ∃ x : Int, w.cell? ⟨g, i, none⟩ = some (.int .i64 x)
theorem NewNums.rw {w : World} {B : Nat} {v : Value} {l : List Int} (h : NewNums w B v l) : Rw w B v l.length := fun h0 => by
  rcases h with ⟨rfl, rfl⟩ | ⟨h1, g, rfl, hB, hg⟩
  · simp at h0
  · exact ⟨g, _, rfl, hB, lt_block hg, ⟨_, hg⟩, fun i hi => ⟨l[i], by rw [cell_at hg]; simp [numC, hi]⟩⟩
theorem int_block {w : World} {g i : Nat} {c : Array Value} {T : TypeId} (h : w.heap[g]? = some (.cells c T (0, 0))) : w.frozen? ⟨g, i, none⟩ = false := by
  unfold World.frozen?
  rw [h]
  simp
theorem block_set {w : World} {g : Nat} {c : Array Value} {T : TypeId} {fz : Nat × Nat} (p : Addr) (v : Value) (h : w.heap[g]? = some (.cells c T fz)) : ∃ c', (w.setCell p v).heap[g]? = some (.cells c' T fz) := by
  by_cases hg : p.block = g
  · subst hg
    obtain ⟨b, o, s⟩ := p
    cases s with
    | none => exact ⟨c.setIfInBounds o v, by simp only [World.setCell, Array.getElem?_modify, if_pos, h, Option.map_some]; rfl⟩
    | some s => simp only [World.setCell, Array.getElem?_modify, if_pos, h, Option.map_some]; exact ⟨_, rfl⟩
  · exact ⟨c, by rw [heap_setCell_other w p g v (fun e => hg e.symm)]; exact h⟩
theorem int_set {w : World} {a : Addr} (h : ∃ m : Int, w.cell? a = some (.int .i64 m)) (b : Addr) (x : Int) : ∃ m : Int, (w.setCell b (.int .i64 x)).cell? a = some (.int .i64 m) := by
  obtain ⟨m, hm⟩ := h
  by_cases e : b = a
  · subst e
    exact ⟨x, World.cell?_setCell_same _ _ _ hm⟩
  · exact ⟨m, (World.cell?_setCell_other _ _ _ _ e).trans hm⟩
theorem Rw.set {w : World} {B : Nat} {v : Value} {n : Nat} (h : Rw w B v n) (p : Addr) (x : Int) : Rw (w.setCell p (.int .i64 x)) B v n := fun h0 => by
  obtain ⟨g, cap, h1, h2, h3, ⟨c, h4⟩, h5⟩ := h h0
  exact ⟨g, cap, h1, h2, by simpa using h3, block_set p _ h4, fun i hi => int_set (h5 i hi) p x⟩
theorem Rw.step {w w' : World} {B : Nat} {v : Value} {n : Nat} (h : Rw w B v n) (hb : Below w.heap.size w w') : Rw w' B v n := fun h0 => by
  obtain ⟨g, cap, h1, h2, h3, ⟨c, h4⟩, h5⟩ := h h0
  refine ⟨g, cap, h1, h2, Nat.lt_of_lt_of_le h3 hb.size, ⟨c, by rw [hb.block g h3]; exact h4⟩, fun i hi => ?_⟩
  obtain ⟨x, hx⟩ := h5 i hi
  exact ⟨x, keep hb h3 hx⟩

/-- but for some blocks all is as it was -/
structure Fix (S : Nat → Prop) (W w : World) : Prop where
  size : W.heap.size ≤ w.heap.size
  block : ∀ k, k < W.heap.size → ¬ S k → w.heap[k]? = W.heap[k]?
theorem Fix.refl (S : Nat → Prop) (W : World) : Fix S W W := ⟨Nat.le_refl _, fun _ _ _ => rfl⟩
theorem Fix.set {S : Nat → Prop} {W w : World} (h : Fix S W w) {p : Addr} (v : Value) (hp : S p.block) : Fix S W (w.setCell p v) :=
  ⟨by simpa using h.size, fun k hk hs => by rw [heap_setCell_other w p k v (fun e => hs (e ▸ hp)), h.block k hk hs]⟩
theorem Fix.step {S : Nat → Prop} {W w w' : World} (h : Fix S W w) (hb : Below w.heap.size w w') : Fix S W w' :=
  ⟨Nat.le_trans h.size hb.size, fun k hk hs => by rw [hb.block k (Nat.lt_of_lt_of_le hk h.size), h.block k hk hs]⟩
theorem Fix.cell {S : Nat → Prop} {W w : World} (h : Fix S W w) {b o : Nat} (hb : b < W.heap.size) (hs : ¬ S b) : w.cell? ⟨b, o, none⟩ = W.cell? ⟨b, o, none⟩ := World.cell?_of_block (a := ⟨b, o, none⟩) (h.block b hb hs)
theorem Fix.nums {S : Nat → Prop} {W w : World} {B : Nat} {v : Value} {l : List Int} (h : Fix S W w) (hn : NewNums W B v l) (hs : ∀ g, v.ownBlock = some g → ¬ S g) : NewNums w B v l := by
  rcases hn with hn | ⟨h0, g, rfl, h2, h3⟩
  · exact .inl hn
  · exact .inr ⟨h0, g, rfl, h2, by rw [h.block g (lt_block h3) (hs g rfl)]; exact h3⟩
/-- blocks of whole numbers alone change -/
structure Only (S : Nat → Prop) (W : World) : Prop where
  ints : ∀ k, S k → ∃ c, W.heap[k]? = some (.cells c 3 (0, 0))
theorem Only.not {S : Nat → Prop} {W : World} (h : Only S W) {k : Nat} {c : Array Value} {T : TypeId} {fz : Nat × Nat} (hk : W.heap[k]? = some (.cells c T fz)) (hT : T ≠ 3) : ¬ S k := fun hs => by
  obtain ⟨c', e⟩ := h.ints k hs
  rw [e] at hk
  simp at hk
  exact hT hk.2.1.symm
theorem Fix.bld {S : Nat → Prop} {W w : World} {B b : Nat} {y : NdR} {v : Value} (h : Fix S W w) (ho : Only S W) (hb : Bld 48 [] W B b [y] v) (h1 : ∀ g, y.2.1.ownBlock = some g → ¬ S g) (h2 : ∀ g, y.2.2.ownBlock = some g → ¬ S g) : Bld 48 [] w B b [y] v := by
  refine ⟨hb.base, ?_, ⟨hb.own.1, ?_⟩, fun z hz => ?_⟩
  · have := hb.box
    unfold Bx at this ⊢
    rw [h.block b (lt_block this) (ho.not this (by decide))]; exact this
  · rcases hb.own.2 with h0 | ⟨g, cap, cur, r1, r2, r3, r4⟩
    · exact .inl h0
    · exact .inr ⟨g, cap, cur, r1, r2, by rw [h.block g (lt_block r3) (ho.not r3 (by decide))]; exact r3, r4⟩
  · have hn := hb.new_ z hz
    simp only [List.mem_cons, List.not_mem_nil, or_false] at hz
    subst hz
    exact ⟨h.nums hn.1 h1, h.nums hn.2 h2⟩
/-- a list of nodes, its blocks apart from those that change -/
theorem Fix.nds {S : Nat → Prop} {W w : World} {B : Nat} {v : Value} {l : List Nd} (h : Fix S W w) (hn : NewNds W B v l) (hs : ∀ k, B ≤ k → k < W.heap.size → ¬ S k) : NewNds w B v l := by
  rcases hn with h0 | ⟨h0, g, L, r1, r2, r3, r4, r5⟩
  · exact .inl h0
  · refine .inr ⟨h0, g, L, r1, r2, r3, ?_, fun y hy => ?_⟩
    · unfold BoxN at r4 ⊢
      rw [h.block g (lt_block r4) (hs g r2 (lt_block r4))]; exact r4
    · have key : ∀ (u : Value) (l : List Int), NewNums W B u l → NewNums w B u l := fun u l hu => h.nums hu (fun g' hg' => by
        rcases hu with ⟨rfl, rfl⟩ | ⟨_, g2, rfl, q1, q2⟩
        · simp [Value.ownBlock] at hg'
        · simp [Value.ownBlock] at hg'
          subst hg'
          exact hs g2 q1 (lt_block q2))
      exact ⟨key _ _ (r5 y hy).1, key _ _ (r5 y hy).2⟩
theorem Fix.before {S : Nat → Prop} {W V w : World} (h : Fix S W w) (hb : Below V.heap.size V W) : Fix S V w :=
  ⟨Nat.le_trans hb.size h.size, fun k hk hs => by rw [h.block k (Nat.lt_of_lt_of_le hk hb.size) hs, hb.block k hk]⟩
theorem NewNums.in_ {W : World} {B : Nat} {v : Value} {l : List Int} (h : NewNums W B v l) : ∀ k, v.ownBlock = some k → B ≤ k ∧ k < W.heap.size ∧ ∃ c, W.heap[k]? = some (.cells c 3 (0, 0)) := fun k hk => by
  rcases h with ⟨rfl, rfl⟩ | ⟨_, g, rfl, q1, q2⟩
  · simp [Value.ownBlock] at hk
  · simp [Value.ownBlock] at hk
    subst hk
    exact ⟨q1, lt_block q2, _, q2⟩
theorem owns_in {W : World} {B n : Nat} {v : Value} {xs : List Value} (h : W.ownsRow B 3 1 v n xs) : ∀ k, v.ownBlock = some k → B ≤ k ∧ k < W.heap.size ∧ ∃ c, W.heap[k]? = some (.cells c 3 (0, 0)) := fun k hk => by
  rcases h.2 with ⟨rfl, -⟩ | ⟨g, cap, cur, rfl, q1, q2, -⟩
  · simp [Value.ownBlock] at hk
  · simp [Value.ownBlock] at hk
    subst hk
    exact ⟨q1, lt_block q2, _, q2⟩
theorem owns_shape {W : World} {B n : Nat} {v : Value} {xs : List Value} (h : W.ownsRow B 3 1 v n xs) : ∃ s c, v = .slice s n c := by
  rcases h.2 with ⟨rfl, rfl⟩ | ⟨g, cap, cur, rfl, -⟩
  · exact ⟨none, 0, rfl⟩
  · exact ⟨_, cap, rfl⟩
theorem Bx.grown {T : TypeId} {w w' : World} {b : Nat} {cs : List Value} {r : Option Nat} (h : Bx T w b cs) (hg : w.grownBy w' r) (hr : some b ≠ r) : Bx T w' b cs := by
  unfold Bx at h ⊢
  rw [hg.block b (lt_block h) hr]; exact h
theorem bld_nil {W : World} {b : Nat} (h : Bx 48 W b [.slice none 0 0]) : Bld 48 [] W b b [] (.slice none 0 0) :=
  ⟨Nat.le_refl _, h, World.ownsRow_nil _ _ _ _, fun y hy => by cases hy⟩
/-- one node's list that a call made: its row, and its lists -/
theorem NewNds.one {W : World} {B : Nat} {v : Value} {x : Nd} (h : NewNds W B v [x]) : ∃ (g : Nat) (y : NdR), v = .slice (some ⟨g, 0, none⟩) 1 1 ∧ y.1 = x ∧ BoxN W g (ndC y) ∧ NewNums W B y.2.1 x.kids ∧ NewNums W B y.2.2 x.ends := by
  rcases h with ⟨h0, -⟩ | ⟨h0, g, L, rfl, hB, hL, hx, hn⟩
  · simp at h0
  · match L, hL with
    | [y], hL =>
      simp at hL
      refine ⟨g, y, rfl, hL, ?_, ?_, ?_⟩
      · unfold BoxN at hx ⊢
        rw [hx]; simp [flatN]
      · have := (hn y (by simp)).1; rwa [hL] at this
      · have := (hn y (by simp)).2; rwa [hL] at this
/-- a list of whole numbers that came in -/
def KidsV (w : World) (v : Value) (l : List Int) : Prop := ∃ src cap, v = .slice src l.length cap ∧ NumsIn w src l ∧ (src = none → cap = 0)
theorem KidsV.step {w w' : World} {v : Value} {l : List Int} (h : KidsV w v l) (hb : Below w.heap.size w w') : KidsV w' v l := by
  obtain ⟨src, cap, h1, h2, h3⟩ := h
  exact ⟨src, cap, h1, h2.step hb, h3⟩
theorem KidsV.nums {w : World} {v : Value} {l : List Int} (h : KidsV w v l) : NumsV w v l := by
  obtain ⟨src, cap, h1, h2, h3⟩ := h
  exact ⟨src, cap, h1, h2⟩
theorem append_nums (ty : TypeId) (w : World) (base n : Nat) (v : Value) (xs : List Value) (hown : w.ownsRow base 3 1 v n xs) (sv : Value) (l : List Int) (hs : KidsV w sv l) (hn : n + l.length ≤ 1099511627776) (hb : base ≤ w.heap.size) :
    ∃ v' w', (Builtin.append_ #[35, 35] ty #[v, sv]).run Tryz.prog w = .ok v' w' ∧ w'.ownsRow base 3 1 v' (n + l.length) (xs ++ numC l) ∧ w.grownBy w' v.ownBlock := by
  obtain ⟨i0, hi, hz0, hz1, hz2⟩ := info_parts infoInt
  obtain ⟨src, cap, rfl, hr, hc⟩ := hs
  cases src with
  | none =>
    have h0 : l.length = 0 := by
      by_cases h : l.length = 0
      · exact h
      · obtain ⟨b, off, h1, -⟩ := hr (by omega)
        cases h1
    have hl := List.eq_nil_of_length_eq_zero h0
    subst hl
    rw [hc rfl]
    exact ⟨v, w, run_append_owned_none (P := Tryz.prog) (w := w) base 35 ty 3 i0 1 Tryz.underlying35 hi v n xs hown, by simpa [numC] using hown, rfl, rfl, rfl, Nat.le_refl _, fun _ _ _ => rfl⟩
  | some a =>
    obtain ⟨v', w', h1, h2, h3, -⟩ := run_append_own (P := Tryz.prog) w base 35 ty 3 i0 (.int .i64 0) 1 8 Tryz.underlying35 hi hz0 hz1 hz2 rfl (by decide) v n xs hown a l.length cap (numC l) (by simp [numC])
      (fun j u hj => by
        obtain ⟨hj1, hj2⟩ := List.getElem?_eq_some_iff.1 hj
        have hj3 : j < l.length := by simpa [numC] using hj1
        obtain ⟨b, off, h1, h2, h3⟩ := hr (by omega)
        cases h1
        rw [add_at, h3 j hj3, ← hj2]
        simp [numC])
      (fun u hu => by
        obtain ⟨x, -, rfl⟩ := List.mem_map.1 hu
        rfl) (by unfold maxLen; omega) (by omega) hb
    exact ⟨v', w', h1, h2, h3⟩
theorem step_append_nums {ops : Array Oper} {o : Oper} {a : Act} {w : World} {K : Act → World → Prop} {Q : Exit → Act → World → Prop} {E : Prop}
    (hg : o.guard = none) (s x : Operand) (hop : o.op = Op.call { callee := Callee.builtin Builtin.append, args := #[s, x], argTypes := #[35, 35] })
    (base n : Nat) (v : Value) (xs : List Value) (hs : a.eval s = v) (hown : w.ownsRow base 3 1 v n xs) (sv : Value) (l : List Int) (hx : a.eval x = sv) (hk : KidsV w sv l) (hn : n + l.length ≤ 1099511627776) (hb : base ≤ w.heap.size)
    (hK : ∀ v' w', w'.ownsRow base 3 1 v' (n + l.length) (xs ++ numC l) → w.grownBy w' v.ownBlock → K (a.put o.dst v') w') :
    if Region.wanted o (yielded ops a.tmps) = true then Oper.wp Tryz.prog o a w K Q else E := by
  have hw : Region.wanted o (yielded ops a.tmps) = true := by simp [Region.wanted, hg]
  rw [if_pos hw]
  obtain ⟨v', w', hrun, r1, r2⟩ := append_nums o.type w base n v xs hown sv l hk hn hb
  unfold Oper.wp
  simp [execOp, hop, resolve, invoke, builtin, hs, hx, hrun, Result.andThen]
  exact hK v' w' r1 r2

theorem wpList_append_run {P : Program} {w : World} {ops : Array Oper} {rest : List Oper} {o : Oper} {a : Act} {Q : Exit → Act → World → Prop} (hgd : o.guard = none) (s x : Operand) (t : TypeId)
    (ho : o.op = .call { callee := .builtin .append, args := #[s, x], argTypes := #[t, t] }) (v sv v' : Value) (w' : World) (hs : a.eval s = v) (hx : a.eval x = sv) (hrun : (Builtin.append_ #[t, t] o.type #[v, sv]).run P w = .ok v' w')
    (h : wpList P ops Q rest (a.put o.dst v') w') : wpList P ops Q (o :: rest) a w := by
  refine wpList_plain hgd fun K hK => ?_
  unfold Oper.wp
  simp [execOp, ho, resolve, invoke, builtin, hs, hx, hrun, Result.andThen]
  exact hK _ _ h
/-- a row of a call's own, as numbers that may be written -/
theorem owns_rw {w : World} {B n : Nat} {v : Value} {l : List Int} (h : w.ownsRow B 3 1 v n (numC l)) (hn : n = l.length) : Rw w B v n := fun h0 => by
  rcases h.2 with ⟨-, h1⟩ | ⟨g, cap, cur, rfl, hB, hg, hnc, hcm, hcs, htake⟩
  · omega
  · refine ⟨g, cap, rfl, hB, lt_block hg, ⟨_, hg⟩, fun i hi => ⟨l[i]'(by omega), ?_⟩⟩
    have := h.cells (g := g) rfl i (.int .i64 (l[i]'(by omega))) (by simp [numC])
    rwa [add_at, Nat.zero_add] at this
theorem owns_nums {w : World} {B n : Nat} {v : Value} {l : List Int} (h : w.ownsRow B 3 1 v n (numC l)) (hn : n = l.length) : NumsV w v l := by
  subst hn
  rcases h.2 with ⟨rfl, h1⟩ | ⟨g, cap, cur, rfl, hB, hg, hnc, hcm, hcs, htake⟩
  · exact ⟨none, 0, by rw [h1], fun h => absurd h (by omega)⟩
  · refine ⟨_, cap, rfl, fun _ => ⟨g, 0, rfl, lt_block hg, fun i hi => ?_⟩⟩
    have := h.cells (g := g) rfl i (.int .i64 l[i]) (by simp [numC])
    rwa [add_at] at this
end Go.Proofs.YtfalgnapghienaaGreatDoor
namespace Go.Proofs.YtfalgnapghienaaGreatDoor
open Go Go.RowKit
set_option linter.unusedVariables false
set_option linter.unusedSimpArgs false

/-- a program's box, and that all else is kept -/
structure DS (w0 : World) (g : Nat) (nv : Value) (root : Int) (w : World) : Prop where
  bel : Below w0.heap.size w0 w
  box : Bx 24 w g [nv, .int .i64 root]
  at_ : w0.heap.size ≤ g
theorem DS.keep {w0 w w1 : World} {g : Nat} {nv : Value} {root : Int} (h : DS w0 g nv root w) (hb : Below w.heap.size w w1) : DS w0 g nv root w1 := ⟨after h.bel hb, h.box.keep hb, h.at_⟩
theorem DS.new (w0 : World) (nv : Value) (root : Int) : DS w0 w0.heap.size nv root (w0.alloc (.cells #[nv, .int .i64 root] 24)) :=
  ⟨(Below.refl _ _).alloc (Nat.le_refl _) _, Bx.new 24 w0 _, Nat.le_refl _⟩
theorem DS.kid {w0 w : World} {g : Nat} {nv : Value} {root : Int} (h : DS w0 g nv root w) {b o kb ko : Nat} {kv u : Value} (hb : b < w0.heap.size) (c3 : w0.cell? ⟨b, o, none⟩ = some kv) (hk : kb < w0.heap.size) (ck : w0.cell? ⟨kb, ko, none⟩ = some u) :
    w.cell? ⟨g, 0, none⟩ = some nv ∧ w.cell? ⟨g, 1, none⟩ = some (.int .i64 root) ∧ w.cell? ⟨b, o, none⟩ = some kv ∧ w.cell? ⟨kb, ko, none⟩ = some u ∧ DS w0 g nv root w :=
  ⟨h.box.two.1, h.box.two.2.1, (h.bel.cell (p := ⟨b, o, none⟩) hb).trans c3, (h.bel.cell (p := ⟨kb, ko, none⟩) hk).trans ck, h⟩

set_option maxRecDepth 100000 in
set_option maxHeartbeats 4000000 in
theorem rdepth_any {l : List Nd} {rt : Int} (P : ProgOk l rt) (nv : Value) (root : Int) : ∀ (a : Nat), a < l.length → ∀ w : World, NdsV w nv l →
    Calls Tryz.prog 14 #[.agg #[nv, .int .i64 root], .int .i64 (a : Nat)] w fun e w' => e = .returned (.int .i64 (deepS l a : Nat)) ∧ Below w.heap.size w w' := by
  intro a
  induction a using Nat.strongRecOn with
  | _ a ih =>
    intro ha w hn
    have HN := Lib.hid hn
    obtain ⟨src, cap, rfl, hrow⟩ := hn
    obtain ⟨b, off, rfl, hb, hrow⟩ := hrow (by omega)
    obtain ⟨kv, ev, hnd⟩ := hrow a ha
    have c3 := hnd.c3
    obtain ⟨ks, kc, hkv, hks⟩ := hnd.kids
    subst hkv
    have HDE : Hid (deepS l a = dpTo l (kidsOf l a) (kidsOf l a).length + 1) := Lib.hid (by
      rw [deep_eq P ha]; unfold dpTo; rw [List.take_length])
    have HKO := Lib.hid (kidsOf_get l a ha)
    have HLE := Lib.hid (fun t ht => dpTo_le P ha (kidsOf l a) (fun k hk => kidsOf_lt P ha hk) t ht)
    have hkb : l[a].kids.length = (kidsOf l a).length := by rw [HKO.out]; simp
    have HKS := Lib.hid hks
    have HKA := Lib.hid (P.ahead a ha)
    have HIH : Hid (∀ q, q < a → ∀ w2, DS w w.heap.size (.slice (some ⟨b, off, none⟩) l.length cap) root w2 → Calls Tryz.prog 14 #[.agg #[.slice (some ⟨b, off, none⟩) l.length cap, .int .i64 root], .int .i64 (q : Nat)] w2 fun e w' => e = .returned (.int .i64 (deepS l q : Nat)) ∧ Below w2.heap.size w2 w') := Lib.hid (fun q hq w2 h2 => ih q hq (by omega) w2 (HN.out.step h2.bel))
    have hal := P.long
    have hmb : (kidsOf l a).length ≤ 16384 := Nat.le_trans (nodup_len a _ (kids_nodup l P.once a) (fun x hx => kidsOf_lt P ha hx)) (by omega)
    obtain ⟨n, hnn⟩ : ∃ n, l.length = n := ⟨_, rfl⟩
    rw [hnn] at ha hal HIH ⊢
    generalize l[a].kids = kids at *
    obtain ⟨m, hm⟩ : ∃ m, kids.length = m := ⟨_, rfl⟩
    have HM := Lib.hid hm
    rw [hm] at c3 hkb
    rw [← hkb] at hmb
    have HKL := Lib.hid hkb
    have D0 := Lib.hid (DS.new w (.slice (some ⟨b, off, none⟩) n cap) root)
    have C3 := Lib.hid c3
    obtain ⟨W0, hW0⟩ : ∃ W0, W0 = w.alloc (.cells #[.slice (some ⟨b, off, none⟩) n cap, .int .i64 root] 24) := ⟨_, rfl⟩
    rw [← hW0] at D0
    have HW0 := Lib.hid hW0
    clear hnd hks hrow ih hkb hm hW0 c3
    go_enter Tryz.func14, Tryz.ntmps14
    go_wp2_with fail
    try rw [← HW0.out]
    clear HW0
    go_loopw [5, 6] (fun u i wr => ∃ k : Nat, k ≤ m ∧ i = .int .i64 k ∧ u = .int .i64 (dpTo l (kidsOf l a) k : Nat) ∧ DS w w.heap.size (.slice (some ⟨b, off, none⟩) n cap) root wr) (fun _ i _ => m - (intOf i).toNat)
    case atStart => exact ⟨0, Nat.zero_le _, rfl, rfl, D0.out⟩
    case round =>
      clear D0
      obtain ⟨k, hk, rfl, rfl, hd⟩ := hrel
      have HD := Lib.hid hd
      obtain ⟨a0, a1, al, af⟩ := hd.box.two
      have c3 := keep hd.bel hb C3.out
      clear hd
      by_cases hlt : k < m
      · have hkl : k < kids.length := by have := HM.out; omega
        obtain ⟨kb, ko, rfl, hkb, hkrow⟩ := HKS.out (by omega)
        have ck := hkrow k hkl
        have hq := HKA.out kids[k] (List.getElem_mem hkl)
        have HST : Hid (dpTo l (kidsOf l a) (k + 1) = max (dpTo l (kidsOf l a) k) (deepS l kids[k].toNat)) := Lib.hid (by
          rw [dpTo_succ l _ k (by have := HKL.out; omega)]; congr 2; simp only [HKO.out]; rw [List.getElem_map])
        have HL2 := HLE.out (k + 1) (by have := HKL.out; omega)
        clear hkrow
        generalize kids[k] = q0 at *
        obtain ⟨q, rfl⟩ : ∃ q : Nat, q0 = q := ⟨q0.toNat, by omega⟩
        have hqa : q < a := by omega
        have HC := Lib.hid (HIH.out q hqa)
        have HALL := Lib.hid (fun (w2 : World) (h : DS w w.heap.size (.slice (some ⟨b, off, none⟩) n cap) root w2) => h.kid hb C3.out hkb ck)
        have hst := HST.out
        simp only [Int.toNat_natCast] at hst
        generalize hx1 : dpTo l (kidsOf l a) (k + 1) = x1 at *
        have HX1 := Lib.hid hx1
        clear hx1
        generalize dpTo l (kidsOf l a) k = x0 at *
        generalize deepS l q = x2 at *
        have HX := Lib.hid hst
        clear ck hst HST hq HIH
        have hx0 : x0 ≤ 16384 := by have := HX.out; omega
        go_wp2_with fail
        clear a0 a1 al af c3
        go_region_held3 (fun w' => w'.cell? ⟨w.heap.size, 0, none⟩ = some (.slice (some ⟨b, off, none⟩) n cap) ∧ w'.cell? ⟨w.heap.size, 1, none⟩ = some (.int .i64 root) ∧ w'.cell? ⟨b, off + a * 13 + 3, none⟩ = some (.slice (some ⟨kb, ko, none⟩) m kc) ∧ w'.cell? ⟨kb, ko + k, none⟩ = some (.int .i64 (q : Nat)) ∧ DS w w.heap.size (.slice (some ⟨b, off, none⟩) n cap) root w') (first | exact HALL.out _ HD.out | exact HALL.out _ (HD.out.keep ((Below.refl _ _).drew)) | exact HALL.out _ (DS.keep (by assumption) hb2)) (first | (go_at_call 14; go_split_ands; refine (HC.out _ (by assumption)).mono ?_; rintro e w2 ⟨rfl, hb2⟩))
        all_goals go_split_ands
        all_goals go_wp2_with fail
        all_goals go_roundw
        all_goals (first | (case' rel => refine ⟨k + 1, by omega, by go_num, ?_, by assumption⟩; rw [HX1.out, HX.out]; congr 2; omega) | skip)
        all_goals (simp [intOf]; omega)
      · have hkm : m = k := by omega
        subst hkm
        have E : Hid (deepS l a = dpTo l (kidsOf l a) m + 1) := Lib.hid (by rw [HDE.out, HKL.out])
        have hle := HLE.out m (by rw [HKL.out]; exact Nat.le_refl _)
        generalize dpTo l (kidsOf l a) m = x0 at *
        clear hlt hk
        go_wp2_with fail
        go_ret
        exact ⟨by rw [E.out]; rfl, HD.out.bel⟩
end Go.Proofs.YtfalgnapghienaaGreatDoor
namespace Go.Proofs.YtfalgnapghienaaGreatDoor
open Go Go.RowKit
set_option linter.unusedVariables false
set_option linter.unusedSimpArgs false

theorem own_one (W : World) (a : Int) {B : Nat} (hB : B ≤ W.heap.size) : (W.alloc (.cells #[.int .i64 a] 3)).ownsRow B 3 1 (.slice (some ⟨W.heap.size, 0, none⟩) 1 1) 1 [.int .i64 a] :=
  ⟨rfl, .inr ⟨W.heap.size, 1, #[.int .i64 a], rfl, hB, heap_alloc_new W _, Nat.le_refl _, by unfold maxLen; decide, rfl, rfl⟩⟩
theorem owns_kids {w : World} {B n : Nat} {v : Value} {l : List Int} (h : w.ownsRow B 3 1 v n (numC l)) (hn : n = l.length) (h0 : 0 < n) : KidsV w v l := by
  subst hn
  rcases h.2 with ⟨rfl, h1⟩ | ⟨g, cap, cur, rfl, hB, hg, hnc, hcm, hcs, htake⟩
  · omega
  · refine ⟨_, cap, rfl, (fun _ => ⟨g, 0, rfl, lt_block hg, fun i hi => ?_⟩), fun h => by cases h⟩
    have := h.cells (g := g) rfl i (.int .i64 l[i]) (by simp [numC])
    rwa [add_at] at this

/-- a program's box, and a row of nodes' numbers of the call's own -/
structure RW (w0 : World) (g : Nat) (nv : Value) (root : Int) (L : List Nat) (v : Value) (w : World) : Prop where
  ds : DS w0 g nv root w
  own : w.ownsRow w0.heap.size 3 1 v L.length (numC (natI L))
theorem RW.keep {w0 w w1 : World} {g : Nat} {nv v : Value} {root : Int} {L : List Nat} (h : RW w0 g nv root L v w) (hb : Below w.heap.size w w1) : RW w0 g nv root L v w1 := ⟨h.ds.keep hb, ownsRow_step h.own hb⟩
theorem numC_app (a b : List Nat) : numC (natI (a ++ b)) = numC (natI a) ++ numC (natI b) := by simp [numC, natI]
/-- more behind it -/
theorem RW.more {w0 w w1 : World} {g : Nat} {nv v v' : Value} {root : Int} {L K : List Nat} (h : RW w0 g nv root L v w) (ho : w1.ownsRow w0.heap.size 3 1 v' (L.length + (natI K).length) (numC (natI L) ++ numC (natI K))) (hg : w.grownBy w1 v.ownBlock) : RW w0 g nv root (L ++ K) v' w1 := by
  have hv : v.ownBlock ≠ some g := by
    rcases h.own.2 with ⟨rfl, -⟩ | ⟨k, cap, cur, rfl, hB, hk, -⟩
    · simp [Value.ownBlock]
    · intro e
      simp [Value.ownBlock] at e
      subst e
      have := h.ds.box
      unfold Bx at this
      rw [this] at hk
      simp at hk
  refine ⟨⟨?_, ?_, h.ds.at_⟩, ?_⟩
  · exact Below.grown h.ds.bel hg h.ds.bel.size (fun k hk => (h.own.lt k hk).1)
  · have := h.ds.box
    unfold Bx at this ⊢
    rw [hg.block g (lt_block this) (fun e => hv e.symm)]; exact this
  · rw [List.length_append, numC_app]
    have e : (natI K).length = K.length := by simp [natI]
    rw [e] at ho
    exact ho

set_option maxRecDepth 100000 in
set_option maxHeartbeats 4000000 in
theorem rwalk_any {l : List Nd} {rt : Int} (P : ProgOk l rt) (nv : Value) (root : Int) : ∀ (a : Nat), a < l.length → ∀ w : World, NdsV w nv l →
    Calls Tryz.prog 17 #[.agg #[nv, .int .i64 root], .int .i64 (a : Nat)] w fun e w' => ∃ v, e = .returned v ∧ Below w.heap.size w w' ∧ w'.ownsRow w.heap.size 3 1 v (walkS l a).length (numC (natI (walkS l a))) := by
  intro a
  induction a using Nat.strongRecOn with
  | _ a ih =>
    intro ha w hn
    have HN := Lib.hid hn
    obtain ⟨src, cap, rfl, hrow⟩ := hn
    obtain ⟨b, off, rfl, hb, hrow⟩ := hrow (by omega)
    obtain ⟨kv, ev, hnd⟩ := hrow a ha
    have c3 := hnd.c3
    obtain ⟨ks, kc, hkv, hks⟩ := hnd.kids
    subst hkv
    have HWE := Lib.hid (walk_eq P ha)
    have HLE : Hid (∀ t, (a :: ((kidsOf l a).take t).flatMap (walkS l)).length ≤ 16384) := Lib.hid (fun t => by
      have h1 : (walkS l a).length ≤ l.length := nodup_len l.length _ (walk_once P a ha) (fun x hx => by have := walk_le P a ha x hx; omega)
      have h2 := P.long
      rw [walk_eq P ha] at h1
      have h3 : (kidsOf l a).flatMap (walkS l) = ((kidsOf l a).take t).flatMap (walkS l) ++ ((kidsOf l a).drop t).flatMap (walkS l) := by rw [← List.flatMap_append, List.take_append_drop]
      rw [h3] at h1
      simp only [List.length_cons, List.length_append] at h1 ⊢
      omega)
    have HKO := Lib.hid (kidsOf_get l a ha)
    have hkb : l[a].kids.length = (kidsOf l a).length := by rw [HKO.out]; simp
    have HKS := Lib.hid hks
    have HKA := Lib.hid (P.ahead a ha)
    have HIH : Hid (∀ q, q < a → ∀ w2, DS w w.heap.size (.slice (some ⟨b, off, none⟩) l.length cap) root w2 → Calls Tryz.prog 17 #[.agg #[.slice (some ⟨b, off, none⟩) l.length cap, .int .i64 root], .int .i64 (q : Nat)] w2 fun e w' => ∃ v, e = .returned v ∧ Below w2.heap.size w2 w' ∧ w'.ownsRow w2.heap.size 3 1 v (walkS l q).length (numC (natI (walkS l q)))) := Lib.hid (fun q hq w2 h2 => ih q hq (by omega) w2 (HN.out.step h2.bel))
    have HP := Lib.hid P
    have hal := P.long
    have hmb : (kidsOf l a).length ≤ 16384 := Nat.le_trans (nodup_len a _ (kids_nodup l P.once a) (fun x hx => kidsOf_lt P ha hx)) (by omega)
    obtain ⟨n, hnn⟩ : ∃ n, l.length = n := ⟨_, rfl⟩
    have HNN := Lib.hid hnn
    rw [hnn] at ha hal HIH ⊢
    generalize l[a].kids = kids at *
    obtain ⟨m, hm⟩ : ∃ m, kids.length = m := ⟨_, rfl⟩
    have HM := Lib.hid hm
    rw [hm] at c3 hkb
    rw [← hkb] at hmb
    have HKL := Lib.hid hkb
    have C3 := Lib.hid c3
    have D0 := Lib.hid (DS.new w (.slice (some ⟨b, off, none⟩) n cap) root)
    obtain ⟨W0, hW0⟩ : ∃ W0, W0 = w.alloc (.cells #[.slice (some ⟨b, off, none⟩) n cap, .int .i64 root] 24) := ⟨_, rfl⟩
    rw [← hW0] at D0
    have R0 : Hid (RW w w.heap.size (.slice (some ⟨b, off, none⟩) n cap) root [a] (.slice (some ⟨w.heap.size + 1, 0, none⟩) 1 1) (W0.alloc (.cells #[.int .i64 (a : Nat)] 3))) := Lib.hid (by
      have hs : W0.heap.size = w.heap.size + 1 := by rw [hW0]; simp
      rw [← hs]
      exact ⟨D0.out.keep ((Below.refl _ _).alloc (Nat.le_refl _) _), own_one W0 _ D0.out.bel.size⟩)
    have HW0 := Lib.hid hW0
    clear hnd hks hrow ih hkb hm hW0 c3 hnn
    go_enter Tryz.func17, Tryz.ntmps17
    go_wp2_with fail
    try rw [← HW0.out]
    clear HW0 D0
    go_loopw [5, 6] (fun u i wr => ∃ (k : Nat) (v : Value), k ≤ m ∧ i = .int .i64 k ∧ u = v ∧ RW w w.heap.size (.slice (some ⟨b, off, none⟩) n cap) root (a :: ((kidsOf l a).take k).flatMap (walkS l)) v wr) (fun _ i _ => m - (intOf i).toNat)
    case atStart => exact ⟨0, _, Nat.zero_le _, rfl, rfl, by simpa using R0.out⟩
    case round =>
      clear R0
      obtain ⟨k, v, hk, rfl, rfl, hd⟩ := hrel
      have HD := Lib.hid hd
      obtain ⟨a0, a1, al, af⟩ := hd.ds.box.two
      have c3 := keep hd.ds.bel hb C3.out
      clear hd
      by_cases hlt : k < m
      · have hkl : k < kids.length := by have := HM.out; omega
        obtain ⟨kb, ko, rfl, hkb, hkrow⟩ := HKS.out (by omega)
        have ck := keep HD.out.ds.bel hkb (hkrow k hkl)
        have hq := HKA.out kids[k] (List.getElem_mem hkl)
        have HST : Hid (a :: ((kidsOf l a).take (k + 1)).flatMap (walkS l) = (a :: ((kidsOf l a).take k).flatMap (walkS l)) ++ walkS l kids[k].toNat) := Lib.hid (by
          rw [List.take_succ_eq_append_getElem (by have := HKL.out; omega), List.flatMap_append]
          simp [HKO.out])
        have hkx : kids[k] = kids[k] := rfl
        clear hkx
        have HCK := Lib.hid (hkrow k hkl)
        clear hkrow
        generalize kids[k] = q0 at *
        obtain ⟨q, rfl⟩ : ∃ q : Nat, q0 = q := ⟨q0.toNat, by omega⟩
        have hqa : q < a := by omega
        have HC := Lib.hid (HIH.out q hqa)
        have HPOS : Hid (0 < (walkS l q).length) := Lib.hid (by rw [walk_eq HP.out (by have := HNN.out; omega)]; simp)
        have hst := HST.out
        simp only [Int.toNat_natCast] at hst
        have hb2 := HLE.out (k + 1)
        rw [hst] at hb2
        have HB2 := Lib.hid hb2
        have HSU := Lib.hid hst
        clear hst hb2 HST
        clear hq HIH
        go_wp2_with fail
        clear a0 a1 al af c3 ck
        have HALL := Lib.hid (fun (w2 : World) (h : DS w w.heap.size (.slice (some ⟨b, off, none⟩) n cap) root w2) => h.kid hb C3.out hkb HCK.out)
        obtain ⟨a0, a1, c3, ck, -⟩ := HALL.out _ HD.out.ds
        go_region_law (first
          | (refine step_append_nums rfl _ _ rfl w.heap.size _ u5 _ (by simp [Act.eval]) HW.out.own rv _ (by simp [Act.eval]) HKV.out (by have := HB2.out; rw [List.length_append] at this; rw [natI_len]; omega) HW.out.ds.bel.size ?_
             intro v' w5 hown' hgrow
             have HF := Lib.hid (HW.out.more hown' hgrow)
             clear hown' hgrow)
          | (go_simp
             go_at_call 17
             refine (HC.out _ (HD.out.ds.keep ((Below.refl _ _).drew))).mono ?_
             rintro e W4 ⟨rv, rfl, hb4, ho4⟩
             have HKV := Lib.hid (owns_kids (l := natI (walkS l q)) (by simpa [natI_len] using ho4) rfl (by rw [natI_len]; exact HPOS.out))
             have HW := Lib.hid (HD.out.keep ((Below.refl _ _).drew) |>.keep hb4)
             clear hb4 ho4))
        all_goals
          have HF2 := HF.out
          rw [← HSU.out] at HF2
          have HF3 := Lib.hid HF2
          clear a0 a1 c3 ck HALL HW HKV HF HF2
          go_wp2_with fail
          go_roundw
          case rel => exact ⟨k + 1, _, by omega, by go_num, rfl, HF3.out⟩
          case measure => simp [intOf]; omega
      · have hkm : m = k := by omega
        subst hkm
        have HEQ : Hid (a :: ((kidsOf l a).take m).flatMap (walkS l) = walkS l a) := Lib.hid (by rw [HWE.out, HKL.out, List.take_length])
        rw [HEQ.out] at HD
        clear hlt hk
        go_wp2_with fail
        go_ret
        exact ⟨_, rfl, HD.out.ds.bel, HD.out.own⟩
end Go.Proofs.YtfalgnapghienaaGreatDoor
namespace Go.Proofs.YtfalgnapghienaaGreatDoor
open Go Go.RowKit
set_option linter.unusedVariables false
set_option linter.unusedSimpArgs false

def smallN (x : Nd) : Bool := decide (x.kids.length ≤ 100) && decide (x.text.size ≤ 200) && decide (x.N.size ≤ 200) && decide (x.M.size ≤ 50)
def smallB (l : List Nd) : Bool := decide (l.length ≤ 300) && l.all smallN
theorem small_no {l : List Nd} {i : Nat} (h : i < l.length) (hn : smallN l[i] = false) : smallB l = false := by
  unfold smallB
  rw [Bool.and_eq_false_iff]
  right
  rw [List.all_eq_false]
  exact ⟨l[i], List.getElem_mem h, by rw [hn]; simp⟩
theorem small_yes {l : List Nd} (h0 : l.length ≤ 300) (h : ∀ i (h : i < l.length), smallN l[i] = true) : smallB l = true := by
  unfold smallB
  rw [Bool.and_eq_true]
  refine ⟨decide_eq_true h0, List.all_eq_true.2 fun x hx => ?_⟩
  obtain ⟨i, hi, rfl⟩ := List.getElem_of_mem hx
  exact h i hi
theorem small_get {l : List Nd} (h : smallB l = true) : l.length ≤ 300 ∧ ∀ x ∈ l, x.kids.length ≤ 100 ∧ x.text.size ≤ 200 ∧ x.N.size ≤ 200 ∧ x.M.size ≤ 50 := by
  unfold smallB at h
  rw [Bool.and_eq_true, decide_eq_true_iff, List.all_eq_true] at h
  refine ⟨h.1, fun x hx => ?_⟩
  have := h.2 x hx
  unfold smallN at this
  simp only [Bool.and_eq_true, decide_eq_true_iff] at this
  exact ⟨this.1.1.1, this.1.1.2, this.1.2, this.2⟩

set_option maxRecDepth 100000 in
set_option maxHeartbeats 4000000 in
theorem small_any (l : List Nd) (nv : Value) (root : Int) (w : World) (hn : NdsV w nv l) :
    Calls Tryz.prog 8 #[.agg #[nv, .int .i64 root]] w fun e w' => e = .returned (.bool (smallB l)) ∧ Below w.heap.size w w' := by
  obtain ⟨src, cap, rfl, hrow⟩ := hn
  have HROW := Lib.hid hrow
  obtain ⟨n, hn⟩ : ∃ n, n = l.length := ⟨_, rfl⟩
  have HN := Lib.hid hn
  rw [← hn]
  clear hrow hn
  obtain ⟨W0, hW0⟩ : ∃ W0, W0 = w.alloc (.cells #[.slice src n cap, .int .i64 root] 24) := ⟨_, rfl⟩
  have HW0 := Lib.hid hW0
  have HB0 : Hid (Below w.heap.size w W0) := Lib.hid (by rw [hW0]; exact (Below.refl _ _).alloc (Nat.le_refl _) _)
  have HX0 : Hid (Bx 24 W0 w.heap.size [.slice src n cap, .int .i64 root]) := Lib.hid (by rw [hW0]; exact Bx.new 24 w _)
  clear hW0
  by_cases g : 300 < n
  · have q : decide ((300 : Int) < (n : Int)) = true := decide_eq_true (by omega)
    have E : Hid (smallB l = false) := Lib.hid (by
      unfold smallB
      rw [decide_eq_false (by have := HN.out; omega)]; rfl)
    go_enter Tryz.func8, Tryz.ntmps8
    go_wp2_with fail
    go_ret
    exact ⟨by rw [E.out]; rfl, by repeat (first | exact Below.refl _ _ | apply Below.setCell _ (by first | omega | (simp <;> omega)) | apply Below.alloc _ (by first | omega | (simp <;> omega)))⟩
  · have q : decide ((300 : Int) < (n : Int)) = false := decide_eq_false (by omega)
    go_enter Tryz.func8, Tryz.ntmps8
    go_wp2_with fail
    rw [← HW0.out]
    clear HW0
    obtain ⟨a0, a1, al, af⟩ := HX0.out.two
    try go_wp2_with fail
    clear a0 a1 al af
    go_loopw [12] (fun i wr => ∃ k : Nat, k ≤ n ∧ i = .int .i64 k ∧ (∀ j (h : j < l.length), j < k → smallN l[j] = true) ∧ Below w.heap.size w wr) (fun i _ => n - (intOf i).toNat)
    case atStart => exact ⟨0, Nat.zero_le _, rfl, (fun j _ h => absurd h (by omega)), HB0.out⟩
    case round =>
      obtain ⟨k, hk, rfl, hs, hb⟩ := hrel
      have HS := Lib.hid hs
      have HB := Lib.hid hb
      clear hs hb
      by_cases hlt : k < n
      · have hkl : k < l.length := by have := HN.out; omega
        obtain ⟨b, off, rfl, hbb, hrow⟩ := HROW.out (by omega)
        obtain ⟨kv, ev, hnd0⟩ := hrow k hkl
        have hnd := hnd0.step hbb HB.out
        have HNO := Lib.hid (fun (h : smallN l[k] = false) => small_no hkl h)
        have HYES : Hid (smallN l[k] = true → ∀ j (h : j < l.length), j < k + 1 → smallN l[j] = true) := Lib.hid (fun h j hj hjk => by
          by_cases e : j = k
          · subst e; exact h
          · exact HS.out j hj (by omega))
        clear hnd0 hrow
        generalize l[k] = y at *
        obtain ⟨kind, sf, st, kids, text, B, N, D, M, num, wf, wt, ends⟩ := y
        obtain ⟨⟨ks, kc, hkv, -⟩, ⟨es, ec, hev, -⟩, e0, e1, e2, e3, e4, e5, e6, e7, e8, e9, e10, e11, e12⟩ := hnd
        simp only at hkv hev e0 e1 e2 e3 e4 e5 e6 e7 e8 e9 e10 e11 e12
        subst hkv hev
        by_cases h1 : 100 < kids.length
        · have p1 : decide ((100 : Int) < (kids.length : Int)) = true := decide_eq_true (by omega)
          have E : Hid (smallB l = false) := Lib.hid (HNO.out (by unfold smallN; simp; omega))
          go_wp2_with fail
          go_ret
          exact ⟨by rw [E.out]; rfl, HB.out.alloc HB.out.size _⟩
        · have p1 : decide ((100 : Int) < (kids.length : Int)) = false := decide_eq_false (by omega)
          by_cases h2 : 200 < text.size
          · have p2 : decide ((200 : Int) < (text.size : Int)) = true := decide_eq_true (by omega)
            have E : Hid (smallB l = false) := Lib.hid (HNO.out (by unfold smallN; simp; omega))
            go_wp2_with fail
            go_ret
            exact ⟨by rw [E.out]; rfl, HB.out.alloc HB.out.size _⟩
          · have p2 : decide ((200 : Int) < (text.size : Int)) = false := decide_eq_false (by omega)
            by_cases h3 : 200 < N.size
            · have p3 : decide ((200 : Int) < (N.size : Int)) = true := decide_eq_true (by omega)
              have E : Hid (smallB l = false) := Lib.hid (HNO.out (by unfold smallN; simp; omega))
              go_wp2_with fail
              go_ret
              exact ⟨by rw [E.out]; rfl, HB.out.alloc HB.out.size _⟩
            · have p3 : decide ((200 : Int) < (N.size : Int)) = false := decide_eq_false (by omega)
              by_cases h4 : 50 < M.size
              · have p4 : decide ((50 : Int) < (M.size : Int)) = true := decide_eq_true (by omega)
                have E : Hid (smallB l = false) := Lib.hid (HNO.out (by unfold smallN; simp; omega))
                go_wp2_with fail
                go_ret
                exact ⟨by rw [E.out]; rfl, HB.out.alloc HB.out.size _⟩
              · have p4 : decide ((50 : Int) < (M.size : Int)) = false := decide_eq_false (by omega)
                have E := Lib.hid (HYES.out (by unfold smallN; simp; omega))
                clear HYES HNO HS
                go_wp2_with fail
                go_roundw
                case rel => exact ⟨k + 1, by omega, by go_num, E.out, HB.out.alloc HB.out.size _⟩
                case measure => simp [intOf]; omega
      · have E : Hid (smallB l = true) := Lib.hid (small_yes (by have := HN.out; omega) (fun i hi => HS.out i hi (by have := HN.out; omega)))
        clear HS
        go_wp2_with fail
        go_ret
        exact ⟨by rw [E.out]; rfl, HB.out⟩
end Go.Proofs.YtfalgnapghienaaGreatDoor
namespace Go.Proofs.YtfalgnapghienaaGreatDoor
open Go Go.RowKit
set_option linter.unusedVariables false
set_option linter.unusedSimpArgs false
def nmS (k : Int) : ByteArray := if 0 < k ∧ k < 46 then nameL.getD k.toNat ⟨#[]⟩ else ⟨#[]⟩
theorem nmS_nat {k : Nat} (h0 : 0 < k) (h1 : k < 46) : nmS (k : Int) = nameL.getD k ⟨#[]⟩ := by unfold nmS; rw [if_pos (by omega)]; rfl
theorem nmS_no {k : Int} (h : ¬ (0 < k ∧ k < 46)) : nmS k = ⟨#[]⟩ := by unfold nmS; rw [if_neg h]


theorem names_at (n : Nat) (h : n < ([Value.string { data := #[] }, Value.string { data := #[112, 114, 111, 103, 114, 97, 109] }, Value.string { data := #[99, 108, 97, 115, 115] }, Value.string { data := #[101, 120, 116, 101, 110, 100, 115] }, Value.string { data := #[102, 105, 101, 108, 100] }, Value.string { data := #[105, 110, 105, 116] }, Value.string { data := #[109, 101, 116, 104, 111, 100] }, Value.string { data := #[112, 97, 114, 97, 109] }, Value.string { data := #[98, 108, 111, 99, 107] }, Value.string { data := #[100, 101, 99, 108] }, Value.string { data := #[97, 115, 115, 105, 103, 110] }, Value.string { data := #[105, 102] }, Value.string { data := #[119, 104, 105, 108, 101] }, Value.string { data := #[98, 114, 101, 97, 107] }, Value.string { data := #[99, 111, 110, 116, 105, 110, 117, 101] }, Value.string { data := #[114, 101, 116, 117, 114, 110] }, Value.string { data := #[112, 114, 105, 110, 116] }, Value.string { data := #[115, 117, 112, 101, 114] }, Value.string { data := #[101, 120, 112, 114] }, Value.string { data := #[105, 110, 116] }, Value.string { data := #[100, 111, 117, 98, 108, 101] }, Value.string { data := #[98, 111, 111, 108] }, Value.string { data := #[115, 116, 114] }, Value.string { data := #[110, 117, 108, 108] }, Value.string { data := #[116, 104, 105, 115] }, Value.string { data := #[118, 97, 114] }, Value.string { data := #[103, 101, 116] }, Value.string { data := #[105, 110, 100, 101, 120] }, Value.string { data := #[108, 101, 110, 103, 116, 104] }, Value.string { data := #[99, 97, 108, 108] }, Value.string { data := #[110, 101, 119] }, Value.string { data := #[97, 114, 114, 97, 121] }, Value.string { data := #[110, 101, 103] }, Value.string { data := #[110, 111, 116] }, Value.string { data := #[98, 105, 110, 97, 114, 121] }, Value.string { data := #[99, 97, 115, 116] }, Value.string { data := #[116, 111, 105, 110, 116] }, Value.string { data := #[116, 111, 100, 111, 117, 98, 108, 101] }, Value.string { data := #[105, 110, 112, 117, 116] }, Value.string { data := #[97, 115, 107] }, Value.string { data := #[103, 117, 97, 114, 100] }, Value.string { data := #[115, 111, 109, 101] }, Value.string { data := #[110, 111, 110, 101] }, Value.string { data := #[105, 115, 115, 111, 109, 101] }, Value.string { data := #[105, 115, 110, 111, 110, 101] }, Value.string { data := #[118, 97, 108] }] : List Value).length) : ([Value.string { data := #[] }, Value.string { data := #[112, 114, 111, 103, 114, 97, 109] }, Value.string { data := #[99, 108, 97, 115, 115] }, Value.string { data := #[101, 120, 116, 101, 110, 100, 115] }, Value.string { data := #[102, 105, 101, 108, 100] }, Value.string { data := #[105, 110, 105, 116] }, Value.string { data := #[109, 101, 116, 104, 111, 100] }, Value.string { data := #[112, 97, 114, 97, 109] }, Value.string { data := #[98, 108, 111, 99, 107] }, Value.string { data := #[100, 101, 99, 108] }, Value.string { data := #[97, 115, 115, 105, 103, 110] }, Value.string { data := #[105, 102] }, Value.string { data := #[119, 104, 105, 108, 101] }, Value.string { data := #[98, 114, 101, 97, 107] }, Value.string { data := #[99, 111, 110, 116, 105, 110, 117, 101] }, Value.string { data := #[114, 101, 116, 117, 114, 110] }, Value.string { data := #[112, 114, 105, 110, 116] }, Value.string { data := #[115, 117, 112, 101, 114] }, Value.string { data := #[101, 120, 112, 114] }, Value.string { data := #[105, 110, 116] }, Value.string { data := #[100, 111, 117, 98, 108, 101] }, Value.string { data := #[98, 111, 111, 108] }, Value.string { data := #[115, 116, 114] }, Value.string { data := #[110, 117, 108, 108] }, Value.string { data := #[116, 104, 105, 115] }, Value.string { data := #[118, 97, 114] }, Value.string { data := #[103, 101, 116] }, Value.string { data := #[105, 110, 100, 101, 120] }, Value.string { data := #[108, 101, 110, 103, 116, 104] }, Value.string { data := #[99, 97, 108, 108] }, Value.string { data := #[110, 101, 119] }, Value.string { data := #[97, 114, 114, 97, 121] }, Value.string { data := #[110, 101, 103] }, Value.string { data := #[110, 111, 116] }, Value.string { data := #[98, 105, 110, 97, 114, 121] }, Value.string { data := #[99, 97, 115, 116] }, Value.string { data := #[116, 111, 105, 110, 116] }, Value.string { data := #[116, 111, 100, 111, 117, 98, 108, 101] }, Value.string { data := #[105, 110, 112, 117, 116] }, Value.string { data := #[97, 115, 107] }, Value.string { data := #[103, 117, 97, 114, 100] }, Value.string { data := #[115, 111, 109, 101] }, Value.string { data := #[110, 111, 110, 101] }, Value.string { data := #[105, 115, 115, 111, 109, 101] }, Value.string { data := #[105, 115, 110, 111, 110, 101] }, Value.string { data := #[118, 97, 108] }] : List Value)[n]'h = .string (nameL.getD n ⟨#[]⟩) := by
  have e : ([Value.string { data := #[] }, Value.string { data := #[112, 114, 111, 103, 114, 97, 109] }, Value.string { data := #[99, 108, 97, 115, 115] }, Value.string { data := #[101, 120, 116, 101, 110, 100, 115] }, Value.string { data := #[102, 105, 101, 108, 100] }, Value.string { data := #[105, 110, 105, 116] }, Value.string { data := #[109, 101, 116, 104, 111, 100] }, Value.string { data := #[112, 97, 114, 97, 109] }, Value.string { data := #[98, 108, 111, 99, 107] }, Value.string { data := #[100, 101, 99, 108] }, Value.string { data := #[97, 115, 115, 105, 103, 110] }, Value.string { data := #[105, 102] }, Value.string { data := #[119, 104, 105, 108, 101] }, Value.string { data := #[98, 114, 101, 97, 107] }, Value.string { data := #[99, 111, 110, 116, 105, 110, 117, 101] }, Value.string { data := #[114, 101, 116, 117, 114, 110] }, Value.string { data := #[112, 114, 105, 110, 116] }, Value.string { data := #[115, 117, 112, 101, 114] }, Value.string { data := #[101, 120, 112, 114] }, Value.string { data := #[105, 110, 116] }, Value.string { data := #[100, 111, 117, 98, 108, 101] }, Value.string { data := #[98, 111, 111, 108] }, Value.string { data := #[115, 116, 114] }, Value.string { data := #[110, 117, 108, 108] }, Value.string { data := #[116, 104, 105, 115] }, Value.string { data := #[118, 97, 114] }, Value.string { data := #[103, 101, 116] }, Value.string { data := #[105, 110, 100, 101, 120] }, Value.string { data := #[108, 101, 110, 103, 116, 104] }, Value.string { data := #[99, 97, 108, 108] }, Value.string { data := #[110, 101, 119] }, Value.string { data := #[97, 114, 114, 97, 121] }, Value.string { data := #[110, 101, 103] }, Value.string { data := #[110, 111, 116] }, Value.string { data := #[98, 105, 110, 97, 114, 121] }, Value.string { data := #[99, 97, 115, 116] }, Value.string { data := #[116, 111, 105, 110, 116] }, Value.string { data := #[116, 111, 100, 111, 117, 98, 108, 101] }, Value.string { data := #[105, 110, 112, 117, 116] }, Value.string { data := #[97, 115, 107] }, Value.string { data := #[103, 117, 97, 114, 100] }, Value.string { data := #[115, 111, 109, 101] }, Value.string { data := #[110, 111, 110, 101] }, Value.string { data := #[105, 115, 115, 111, 109, 101] }, Value.string { data := #[105, 115, 110, 111, 110, 101] }, Value.string { data := #[118, 97, 108] }] : List Value) = nameL.map Value.string := by rfl
  have h1 : n < 46 := h
  rw [List.getElem_of_eq e, List.getElem_map, List.getD_eq_getElem?_getD, List.getElem?_eq_getElem (by rw [show nameL.length = 46 from rfl]; exact h1)]
  rfl

set_option maxRecDepth 100000 in
set_option maxHeartbeats 2000000 in
theorem rname_any (k : Int) (w : World) : Calls Tryz.prog 26 #[.int .i64 k] w fun e w' => e = .returned (.string (nmS k)) ∧ Below w.heap.size w w' := by
  by_cases h : 0 < k ∧ k < 46
  · obtain ⟨n, rfl⟩ : ∃ n : Nat, k = n := ⟨k.toNat, by omega⟩
    have h0 : 0 < n := by omega
    have h1 : n < 46 := by omega
    rw [nmS_nat h0 h1]
    have HX := Lib.hid (names_at n)
    have q0 : decide ((n : Int) < 1) = false := decide_eq_false (by omega)
    have q1 : decide ((46 : Int) ≤ (n : Int)) = false := decide_eq_false (by omega)
    clear h
    generalize nameL.getD n ⟨#[]⟩ = X at *
    go_enter Tryz.func26, Tryz.ntmps26
    go_wp2_with fail
    go_ret
    exact ⟨congrArg Ending.returned (HX.out _), by repeat (first | exact Below.refl _ _ | apply Below.setCell _ (by first | omega | (simp <;> omega)) | apply Below.alloc _ (by first | omega | (simp <;> omega)))⟩
  · rw [nmS_no h]
    by_cases h0 : 0 < k
    · have q0 : decide (k < 1) = false := decide_eq_false (by omega)
      have q1 : decide ((46 : Int) ≤ k) = true := decide_eq_true (by omega)
      clear h
      go_enter Tryz.func26, Tryz.ntmps26
      go_wp2_with fail
      go_ret
      exact ⟨rfl, by repeat (first | exact Below.refl _ _ | apply Below.setCell _ (by first | omega | (simp <;> omega)) | apply Below.alloc _ (by first | omega | (simp <;> omega)))⟩
    · have q0 : decide (k < 1) = true := decide_eq_true (by omega)
      clear h
      go_enter Tryz.func26, Tryz.ntmps26
      go_wp2_with fail
      go_ret
      exact ⟨rfl, by repeat (first | exact Below.refl _ _ | apply Below.setCell _ (by first | omega | (simp <;> omega)) | apply Below.alloc _ (by first | omega | (simp <;> omega)))⟩

theorem least_at (n : Nat) (h : n < ([Value.int IntKind.i64 0, Value.int IntKind.i64 0, Value.int IntKind.i64 0, Value.int IntKind.i64 0, Value.int IntKind.i64 0, Value.int IntKind.i64 1, Value.int IntKind.i64 1, Value.int IntKind.i64 0, Value.int IntKind.i64 0, Value.int IntKind.i64 0, Value.int IntKind.i64 2, Value.int IntKind.i64 2, Value.int IntKind.i64 2, Value.int IntKind.i64 0, Value.int IntKind.i64 0, Value.int IntKind.i64 0, Value.int IntKind.i64 1, Value.int IntKind.i64 0, Value.int IntKind.i64 1, Value.int IntKind.i64 0, Value.int IntKind.i64 0, Value.int IntKind.i64 0, Value.int IntKind.i64 0, Value.int IntKind.i64 0, Value.int IntKind.i64 0, Value.int IntKind.i64 0, Value.int IntKind.i64 1, Value.int IntKind.i64 2, Value.int IntKind.i64 1, Value.int IntKind.i64 1, Value.int IntKind.i64 0, Value.int IntKind.i64 1, Value.int IntKind.i64 1, Value.int IntKind.i64 1, Value.int IntKind.i64 2, Value.int IntKind.i64 1, Value.int IntKind.i64 1, Value.int IntKind.i64 1, Value.int IntKind.i64 0, Value.int IntKind.i64 1, Value.int IntKind.i64 1, Value.int IntKind.i64 1, Value.int IntKind.i64 0, Value.int IntKind.i64 1, Value.int IntKind.i64 1, Value.int IntKind.i64 1] : List Value).length) : ([Value.int IntKind.i64 0, Value.int IntKind.i64 0, Value.int IntKind.i64 0, Value.int IntKind.i64 0, Value.int IntKind.i64 0, Value.int IntKind.i64 1, Value.int IntKind.i64 1, Value.int IntKind.i64 0, Value.int IntKind.i64 0, Value.int IntKind.i64 0, Value.int IntKind.i64 2, Value.int IntKind.i64 2, Value.int IntKind.i64 2, Value.int IntKind.i64 0, Value.int IntKind.i64 0, Value.int IntKind.i64 0, Value.int IntKind.i64 1, Value.int IntKind.i64 0, Value.int IntKind.i64 1, Value.int IntKind.i64 0, Value.int IntKind.i64 0, Value.int IntKind.i64 0, Value.int IntKind.i64 0, Value.int IntKind.i64 0, Value.int IntKind.i64 0, Value.int IntKind.i64 0, Value.int IntKind.i64 1, Value.int IntKind.i64 2, Value.int IntKind.i64 1, Value.int IntKind.i64 1, Value.int IntKind.i64 0, Value.int IntKind.i64 1, Value.int IntKind.i64 1, Value.int IntKind.i64 1, Value.int IntKind.i64 2, Value.int IntKind.i64 1, Value.int IntKind.i64 1, Value.int IntKind.i64 1, Value.int IntKind.i64 0, Value.int IntKind.i64 1, Value.int IntKind.i64 1, Value.int IntKind.i64 1, Value.int IntKind.i64 0, Value.int IntKind.i64 1, Value.int IntKind.i64 1, Value.int IntKind.i64 1] : List Value)[n] = .int .i64 ((shp (n : Int)).least : Nat) := by
  have e : ([Value.int IntKind.i64 0, Value.int IntKind.i64 0, Value.int IntKind.i64 0, Value.int IntKind.i64 0, Value.int IntKind.i64 0, Value.int IntKind.i64 1, Value.int IntKind.i64 1, Value.int IntKind.i64 0, Value.int IntKind.i64 0, Value.int IntKind.i64 0, Value.int IntKind.i64 2, Value.int IntKind.i64 2, Value.int IntKind.i64 2, Value.int IntKind.i64 0, Value.int IntKind.i64 0, Value.int IntKind.i64 0, Value.int IntKind.i64 1, Value.int IntKind.i64 0, Value.int IntKind.i64 1, Value.int IntKind.i64 0, Value.int IntKind.i64 0, Value.int IntKind.i64 0, Value.int IntKind.i64 0, Value.int IntKind.i64 0, Value.int IntKind.i64 0, Value.int IntKind.i64 0, Value.int IntKind.i64 1, Value.int IntKind.i64 2, Value.int IntKind.i64 1, Value.int IntKind.i64 1, Value.int IntKind.i64 0, Value.int IntKind.i64 1, Value.int IntKind.i64 1, Value.int IntKind.i64 1, Value.int IntKind.i64 2, Value.int IntKind.i64 1, Value.int IntKind.i64 1, Value.int IntKind.i64 1, Value.int IntKind.i64 0, Value.int IntKind.i64 1, Value.int IntKind.i64 1, Value.int IntKind.i64 1, Value.int IntKind.i64 0, Value.int IntKind.i64 1, Value.int IntKind.i64 1, Value.int IntKind.i64 1] : List Value) = (List.range 46).map (fun i => Value.int .i64 ((shp ((i : Nat) : Int)).least : Nat)) := by rfl
  have h1 : n < 46 := h
  rw [List.getElem_of_eq e, List.getElem_map, List.getElem_range]

set_option maxRecDepth 100000 in
set_option maxHeartbeats 2000000 in
theorem rleast_any (n : Nat) (h : n < 46) (w : World) : Calls Tryz.prog 27 #[.int .i64 (n : Nat)] w fun e w' => e = .returned (.int .i64 ((shp (n : Int)).least : Nat)) ∧ Below w.heap.size w w' := by
  have HX := Lib.hid (least_at n)
  have q1 : decide ((46 : Int) ≤ (n : Int)) = false := decide_eq_false (by omega)
  generalize (shp (n : Int)).least = X at *
  go_enter Tryz.func27, Tryz.ntmps27
  go_wp2_with fail
  go_ret
  exact ⟨congrArg Ending.returned (HX.out _), by repeat (first | exact Below.refl _ _ | apply Below.setCell _ (by first | omega | (simp <;> omega)) | apply Below.alloc _ (by first | omega | (simp <;> omega)))⟩

def rtextB (k : Int) : Bool := k == 2 || k == 3 || k == 4 || k == 6 || k == 7 || k == 9 || k == 20 || k == 22 || k == 25 || k == 26 || k == 29 || k == 34
set_option maxRecDepth 100000 in
set_option maxHeartbeats 4000000 in
theorem rtext_any (k : Int) (w : World) : Calls Tryz.prog 29 #[.int .i64 k] w fun e w' => e = .returned (.bool (rtextB k)) ∧ w' = w := by
  by_cases h0 : k = 2
  · subst h0
    go_enter Tryz.func29, Tryz.ntmps29
    go_wp2_with fail
    go_ret
    exact ⟨rfl, rfl⟩
  have q0 : (k == 2) = false := by simpa using h0
  by_cases h1 : k = 3
  · subst h1
    clear h0 q0
    go_enter Tryz.func29, Tryz.ntmps29
    go_wp2_with fail
    go_ret
    exact ⟨rfl, rfl⟩
  have q1 : (k == 3) = false := by simpa using h1
  by_cases h2 : k = 4
  · subst h2
    clear h0 q0 h1 q1
    go_enter Tryz.func29, Tryz.ntmps29
    go_wp2_with fail
    go_ret
    exact ⟨rfl, rfl⟩
  have q2 : (k == 4) = false := by simpa using h2
  by_cases h3 : k = 6
  · subst h3
    clear h0 q0 h1 q1 h2 q2
    go_enter Tryz.func29, Tryz.ntmps29
    go_wp2_with fail
    go_ret
    exact ⟨rfl, rfl⟩
  have q3 : (k == 6) = false := by simpa using h3
  by_cases h4 : k = 7
  · subst h4
    clear h0 q0 h1 q1 h2 q2 h3 q3
    go_enter Tryz.func29, Tryz.ntmps29
    go_wp2_with fail
    go_ret
    exact ⟨rfl, rfl⟩
  have q4 : (k == 7) = false := by simpa using h4
  by_cases h5 : k = 9
  · subst h5
    clear h0 q0 h1 q1 h2 q2 h3 q3 h4 q4
    go_enter Tryz.func29, Tryz.ntmps29
    go_wp2_with fail
    go_ret
    exact ⟨rfl, rfl⟩
  have q5 : (k == 9) = false := by simpa using h5
  by_cases h6 : k = 20
  · subst h6
    clear h0 q0 h1 q1 h2 q2 h3 q3 h4 q4 h5 q5
    go_enter Tryz.func29, Tryz.ntmps29
    go_wp2_with fail
    go_ret
    exact ⟨rfl, rfl⟩
  have q6 : (k == 20) = false := by simpa using h6
  by_cases h7 : k = 22
  · subst h7
    clear h0 q0 h1 q1 h2 q2 h3 q3 h4 q4 h5 q5 h6 q6
    go_enter Tryz.func29, Tryz.ntmps29
    go_wp2_with fail
    go_ret
    exact ⟨rfl, rfl⟩
  have q7 : (k == 22) = false := by simpa using h7
  by_cases h8 : k = 25
  · subst h8
    clear h0 q0 h1 q1 h2 q2 h3 q3 h4 q4 h5 q5 h6 q6 h7 q7
    go_enter Tryz.func29, Tryz.ntmps29
    go_wp2_with fail
    go_ret
    exact ⟨rfl, rfl⟩
  have q8 : (k == 25) = false := by simpa using h8
  by_cases h9 : k = 26
  · subst h9
    clear h0 q0 h1 q1 h2 q2 h3 q3 h4 q4 h5 q5 h6 q6 h7 q7 h8 q8
    go_enter Tryz.func29, Tryz.ntmps29
    go_wp2_with fail
    go_ret
    exact ⟨rfl, rfl⟩
  have q9 : (k == 26) = false := by simpa using h9
  by_cases h10 : k = 29
  · subst h10
    clear h0 q0 h1 q1 h2 q2 h3 q3 h4 q4 h5 q5 h6 q6 h7 q7 h8 q8 h9 q9
    go_enter Tryz.func29, Tryz.ntmps29
    go_wp2_with fail
    go_ret
    exact ⟨rfl, rfl⟩
  have q10 : (k == 29) = false := by simpa using h10
  by_cases h11 : k = 34
  · subst h11
    clear h0 q0 h1 q1 h2 q2 h3 q3 h4 q4 h5 q5 h6 q6 h7 q7 h8 q8 h9 q9 h10 q10
    go_enter Tryz.func29, Tryz.ntmps29
    go_wp2_with fail
    go_ret
    exact ⟨rfl, rfl⟩
  have q11 : (k == 34) = false := by simpa using h11
  have E : Hid (rtextB k = false) := Lib.hid (by unfold rtextB; simp only [q0, q1, q2, q3, q4, q5, q6, q7, q8, q9, q10, q11]; rfl)
  clear h0 h1 h2 h3 h4 h5 h6 h7 h8 h9 h10 h11
  go_enter Tryz.func29, Tryz.ntmps29
  go_wp2_with fail
  go_ret
  exact ⟨by rw [E.out]; rfl, rfl⟩

def rtypedB (k : Int) : Bool := k == 4 || k == 6 || k == 7 || k == 9 || k == 30 || k == 31 || k == 35
set_option maxRecDepth 100000 in
set_option maxHeartbeats 4000000 in
theorem rtyped_any (k : Int) (w : World) : Calls Tryz.prog 30 #[.int .i64 k] w fun e w' => e = .returned (.bool (rtypedB k)) ∧ w' = w := by
  by_cases h0 : k = 4
  · subst h0
    go_enter Tryz.func30, Tryz.ntmps30
    go_wp2_with fail
    go_ret
    exact ⟨rfl, rfl⟩
  have q0 : (k == 4) = false := by simpa using h0
  by_cases h1 : k = 6
  · subst h1
    clear h0 q0
    go_enter Tryz.func30, Tryz.ntmps30
    go_wp2_with fail
    go_ret
    exact ⟨rfl, rfl⟩
  have q1 : (k == 6) = false := by simpa using h1
  by_cases h2 : k = 7
  · subst h2
    clear h0 q0 h1 q1
    go_enter Tryz.func30, Tryz.ntmps30
    go_wp2_with fail
    go_ret
    exact ⟨rfl, rfl⟩
  have q2 : (k == 7) = false := by simpa using h2
  by_cases h3 : k = 9
  · subst h3
    clear h0 q0 h1 q1 h2 q2
    go_enter Tryz.func30, Tryz.ntmps30
    go_wp2_with fail
    go_ret
    exact ⟨rfl, rfl⟩
  have q3 : (k == 9) = false := by simpa using h3
  by_cases h4 : k = 30
  · subst h4
    clear h0 q0 h1 q1 h2 q2 h3 q3
    go_enter Tryz.func30, Tryz.ntmps30
    go_wp2_with fail
    go_ret
    exact ⟨rfl, rfl⟩
  have q4 : (k == 30) = false := by simpa using h4
  by_cases h5 : k = 31
  · subst h5
    clear h0 q0 h1 q1 h2 q2 h3 q3 h4 q4
    go_enter Tryz.func30, Tryz.ntmps30
    go_wp2_with fail
    go_ret
    exact ⟨rfl, rfl⟩
  have q5 : (k == 31) = false := by simpa using h5
  by_cases h6 : k = 35
  · subst h6
    clear h0 q0 h1 q1 h2 q2 h3 q3 h4 q4 h5 q5
    go_enter Tryz.func30, Tryz.ntmps30
    go_wp2_with fail
    go_ret
    exact ⟨rfl, rfl⟩
  have q6 : (k == 35) = false := by simpa using h6
  have E : Hid (rtypedB k = false) := Lib.hid (by unfold rtypedB; simp only [q0, q1, q2, q3, q4, q5, q6]; rfl)
  clear h0 h1 h2 h3 h4 h5 h6
  go_enter Tryz.func30, Tryz.ntmps30
  go_wp2_with fail
  go_ret
  exact ⟨by rw [E.out]; rfl, rfl⟩

theorem rtext_shp (n : Nat) (h : n < 46) : rtextB (n : Int) = (shp (n : Int)).text := by
  have : ∀ i : Fin 46, rtextB ((i.1 : Nat) : Int) = (shp ((i.1 : Nat) : Int)).text := by decide
  exact this ⟨n, h⟩
theorem rtyped_shp (n : Nat) (h : n < 46) : rtypedB (n : Int) = (shp (n : Int)).typ := by
  have : ∀ i : Fin 46, rtypedB ((i.1 : Nat) : Int) = (shp ((i.1 : Nat) : Int)).typ := by decide
  exact this ⟨n, h⟩
/-- of how many nodes at most; -1: of any number -/
def rmostI (s : Shp) : Int := match s.most with | none => -1 | some m => (m : Int)
set_option maxRecDepth 100000 in
set_option maxHeartbeats 4000000 in
theorem rmost_any (n : Nat) (hn : n < 46) (w : World) : Calls Tryz.prog 28 #[.int .i64 (n : Nat)] w fun e w' => e = .returned (.int .i64 (rmostI (shp (n : Int)))) ∧ Below w.heap.size w w' := by
  by_cases h0 : n = 1
  · subst h0
    go_enter Tryz.func28, Tryz.ntmps28
    go_wp2_with fail
    go_ret
    exact ⟨rfl, by repeat (first | exact Below.refl _ _ | apply Below.setCell _ (by first | omega | (simp <;> omega)) | apply Below.alloc _ (by first | omega | (simp <;> omega)))⟩
  have q0 : ((n : Int) == 1) = false := by simp; omega
  by_cases h1 : n = 2
  · subst h1
    clear h0 q0
    go_enter Tryz.func28, Tryz.ntmps28
    go_wp2_with fail
    go_ret
    exact ⟨rfl, by repeat (first | exact Below.refl _ _ | apply Below.setCell _ (by first | omega | (simp <;> omega)) | apply Below.alloc _ (by first | omega | (simp <;> omega)))⟩
  have q1 : ((n : Int) == 2) = false := by simp; omega
  by_cases h2 : n = 5
  · subst h2
    clear h0 q0 h1 q1
    go_enter Tryz.func28, Tryz.ntmps28
    go_wp2_with fail
    go_ret
    exact ⟨rfl, by repeat (first | exact Below.refl _ _ | apply Below.setCell _ (by first | omega | (simp <;> omega)) | apply Below.alloc _ (by first | omega | (simp <;> omega)))⟩
  have q2 : ((n : Int) == 5) = false := by simp; omega
  by_cases h3 : n = 6
  · subst h3
    clear h0 q0 h1 q1 h2 q2
    go_enter Tryz.func28, Tryz.ntmps28
    go_wp2_with fail
    go_ret
    exact ⟨rfl, by repeat (first | exact Below.refl _ _ | apply Below.setCell _ (by first | omega | (simp <;> omega)) | apply Below.alloc _ (by first | omega | (simp <;> omega)))⟩
  have q3 : ((n : Int) == 6) = false := by simp; omega
  by_cases h4 : n = 8
  · subst h4
    clear h0 q0 h1 q1 h2 q2 h3 q3
    go_enter Tryz.func28, Tryz.ntmps28
    go_wp2_with fail
    go_ret
    exact ⟨rfl, by repeat (first | exact Below.refl _ _ | apply Below.setCell _ (by first | omega | (simp <;> omega)) | apply Below.alloc _ (by first | omega | (simp <;> omega)))⟩
  have q4 : ((n : Int) == 8) = false := by simp; omega
  by_cases h5 : n = 17
  · subst h5
    clear h0 q0 h1 q1 h2 q2 h3 q3 h4 q4
    go_enter Tryz.func28, Tryz.ntmps28
    go_wp2_with fail
    go_ret
    exact ⟨rfl, by repeat (first | exact Below.refl _ _ | apply Below.setCell _ (by first | omega | (simp <;> omega)) | apply Below.alloc _ (by first | omega | (simp <;> omega)))⟩
  have q5 : ((n : Int) == 17) = false := by simp; omega
  by_cases h6 : n = 29
  · subst h6
    clear h0 q0 h1 q1 h2 q2 h3 q3 h4 q4 h5 q5
    go_enter Tryz.func28, Tryz.ntmps28
    go_wp2_with fail
    go_ret
    exact ⟨rfl, by repeat (first | exact Below.refl _ _ | apply Below.setCell _ (by first | omega | (simp <;> omega)) | apply Below.alloc _ (by first | omega | (simp <;> omega)))⟩
  have q6 : ((n : Int) == 29) = false := by simp; omega
  by_cases h7 : n = 30
  · subst h7
    clear h0 q0 h1 q1 h2 q2 h3 q3 h4 q4 h5 q5 h6 q6
    go_enter Tryz.func28, Tryz.ntmps28
    go_wp2_with fail
    go_ret
    exact ⟨rfl, by repeat (first | exact Below.refl _ _ | apply Below.setCell _ (by first | omega | (simp <;> omega)) | apply Below.alloc _ (by first | omega | (simp <;> omega)))⟩
  have q7 : ((n : Int) == 30) = false := by simp; omega
  by_cases h8 : n = 9
  · subst h8
    clear h0 q0 h1 q1 h2 q2 h3 q3 h4 q4 h5 q5 h6 q6 h7 q7
    go_enter Tryz.func28, Tryz.ntmps28
    go_wp2_with fail
    go_ret
    exact ⟨rfl, by repeat (first | exact Below.refl _ _ | apply Below.setCell _ (by first | omega | (simp <;> omega)) | apply Below.alloc _ (by first | omega | (simp <;> omega)))⟩
  have q8 : ((n : Int) == 9) = false := by simp; omega
  by_cases h9 : n = 15
  · subst h9
    clear h0 q0 h1 q1 h2 q2 h3 q3 h4 q4 h5 q5 h6 q6 h7 q7 h8 q8
    go_enter Tryz.func28, Tryz.ntmps28
    go_wp2_with fail
    go_ret
    exact ⟨rfl, by repeat (first | exact Below.refl _ _ | apply Below.setCell _ (by first | omega | (simp <;> omega)) | apply Below.alloc _ (by first | omega | (simp <;> omega)))⟩
  have q9 : ((n : Int) == 15) = false := by simp; omega
  by_cases h10 : n = 11
  · subst h10
    clear h0 q0 h1 q1 h2 q2 h3 q3 h4 q4 h5 q5 h6 q6 h7 q7 h8 q8 h9 q9
    go_enter Tryz.func28, Tryz.ntmps28
    go_wp2_with fail
    go_ret
    exact ⟨rfl, by repeat (first | exact Below.refl _ _ | apply Below.setCell _ (by first | omega | (simp <;> omega)) | apply Below.alloc _ (by first | omega | (simp <;> omega)))⟩
  have q10 : ((n : Int) == 11) = false := by simp; omega
  have E : Hid (rmostI (shp (n : Int)) = ((shp (n : Int)).least : Nat)) := Lib.hid (by
    have : ∀ i : Fin 46, (i.1 == 1 || i.1 == 2 || i.1 == 5 || i.1 == 6 || i.1 == 8 || i.1 == 17 || i.1 == 29 || i.1 == 30 || i.1 == 9 || i.1 == 15 || i.1 == 11 || (rmostI (shp ((i.1 : Nat) : Int)) == ((shp ((i.1 : Nat) : Int)).least : Nat))) = true := by decide
    have h := this ⟨n, hn⟩
    simp only [show (n == 1) = false from by simpa using h0, show (n == 2) = false from by simpa using h1, show (n == 5) = false from by simpa using h2, show (n == 6) = false from by simpa using h3, show (n == 8) = false from by simpa using h4, show (n == 17) = false from by simpa using h5, show (n == 29) = false from by simpa using h6, show (n == 30) = false from by simpa using h7, show (n == 9) = false from by simpa using h8, show (n == 15) = false from by simpa using h9, show (n == 11) = false from by simpa using h10, Bool.false_or, beq_iff_eq] at h
    exact h)
  have HC := Lib.hid (rleast_any n hn w)
  clear h0 h1 h2 h3 h4 h5 h6 h7 h8 h9 h10
  go_enter Tryz.func28, Tryz.ntmps28
  go_wp2_with fail
  refine HC.out.mono ?_
  rintro e w1 ⟨rfl, hb⟩
  go_wp2_with fail
  go_ret
  exact ⟨by rw [E.out]; rfl, hb⟩
end Go.Proofs.YtfalgnapghienaaGreatDoor
