/- Contract of a builder's Add. -/
import Derived.Test.YtfalgnapghienaaGreatDoorTrCopy
import Derived.Deep.RegionLaw
import Derived.Deep.Onto
namespace Go.Proofs.YtfalgnapghienaaGreatDoor
open Go Go.RowKit
set_option linter.unusedVariables false
set_option linter.unusedSimpArgs false

theorem step_append_n {P : Program} {ops : Array Oper} {o : Oper} {a : Act} {w : World} {K : Act → World → Prop} {Q : Exit → Act → World → Prop} {E : Prop}
    (hg : o.guard = none) (s x : Operand) (t : TypeId) (hop : o.op = Op.call { callee := Callee.builtin Builtin.append, args := #[s, x], argTypes := #[t, t] })
    (base : Nat) (e : TypeId) (i : TypeInfo) (z : Value) (size bytes : Nat) (h1 : P.underlying t = some (.slice e)) (h2 : P.info? e = some i) (h3 : i.zero = some z) (h4 : i.size = size) (h5 : i.bytes = bytes) (h6 : z.cells.size = size) (h7 : 0 < size)
    (v : Value) (n : Nat) (xs : List Value) (hs : a.eval s = v) (hown : w.ownsRow base e size v n xs)
    (ad : Addr) (m c : Nat) (news : List Value) (hx : a.eval x = .slice (some ad) m c) (hn : news.length = m * size) (hc : ∀ j u, news[j]? = some u → w.cell? (ad.add j) = some u) (h1c : ∀ u ∈ news, u.oneCell' = true)
    (b1 : n + m ≤ maxLen) (b2 : (n + m) * bytes ≤ 140737488355328) (hb : base ≤ w.heap.size)
    (hK : ∀ v' w', w'.ownsRow base e size v' (n + m) (xs ++ news) → w.grownBy w' v.ownBlock → K (a.put o.dst v') w') :
    if Region.wanted o (yielded ops a.tmps) = true then Oper.wp P o a w K Q else E := by
  have hw : Region.wanted o (yielded ops a.tmps) = true := by simp [Region.wanted, hg]
  rw [if_pos hw]
  obtain ⟨v', w', hrun, r1, r2, _⟩ := run_append_own (P := P) w base t o.type e i z size bytes h1 h2 h3 h4 h5 h6 h7 v n xs hown ad m c news hn hc h1c b1 b2 hb
  unfold Oper.wp
  simp [execOp, hop, resolve, invoke, builtin, hs, hx, hrun, Result.andThen]
  exact hK v' w' r1 r2

/-- a builder: a block whose first cell is the row of its nodes -/
structure Bld (T : TypeId) (rest : List Value) (w : World) (B b : Nat) (L : List NdR) (v : Value) : Prop where
  base : B ≤ b
  box : Bx T w b (v :: rest)
  own : w.ownsRow B 46 13 v L.length (flatN L)
  new_ : RowNew w B L
theorem Bld.shape {T : TypeId} {rest : List Value} {w : World} {B b : Nat} {L : List NdR} {v : Value} (h : Bld T rest w B b L v) : ∃ s c, v = .slice s L.length c := by
  rcases h.own.2 with ⟨hv, h0⟩ | ⟨g, cap, cur, hv, _⟩
  · exact ⟨none, 0, by rw [hv, h0]⟩
  · exact ⟨_, cap, hv⟩
/-- only a builder's block, and blocks of nodes, have changed -/
def KeptN (w w' : World) (b : Nat) : Prop := ∀ k c U fz, w.heap[k]? = some (.cells c U fz) → U ≠ 46 → k ≠ b → w'.heap[k]? = w.heap[k]?
theorem KeptN.nums {w w' : World} {b B : Nat} {v : Value} {l : List Int} (h : KeptN w w' b) (hn : NewNums w B v l) (hb : ∀ c, w.heap[b]? ≠ some (.cells c 3 (0, 0))) : NewNums w' B v l :=
  hn.kept fun g cur hg _ => h g cur 3 (0, 0) hg (by decide) (fun e => by subst e; exact hb _ hg)
theorem KeptN.refl (w : World) (b : Nat) : KeptN w w b := fun _ _ _ _ _ _ _ => rfl
theorem KeptN.trans {w w1 w2 : World} {b : Nat} (h : KeptN w w1 b) (h2 : KeptN w1 w2 b) : KeptN w w2 b := fun k c U fz hk hU hb => by
  have e1 := h k c U fz hk hU hb
  exact (h2 k c U fz (by rw [e1]; exact hk) hU hb).trans e1
theorem KeptN.of_below {w w' : World} (b : Nat) (h : Below w.heap.size w w') : KeptN w w' b := fun k c U fz hk hU hb => h.block k (lt_block hk)
theorem Bld.notInt {T : TypeId} {rest : List Value} {w : World} {B b : Nat} {L : List NdR} {v : Value} (h : Bld T rest w B b L v) (hT : T ≠ 3) : ∀ c, w.heap[b]? ≠ some (.cells c 3 (0, 0)) := fun c hc => by
  have := h.box
  unfold Bx at this
  rw [this] at hc
  simp at hc
  exact hT hc.2
theorem Bld.row_ne {T : TypeId} {rest : List Value} {w : World} {B b : Nat} {L : List NdR} {v : Value} (h : Bld T rest w B b L v) (hT : T ≠ 46) : v.ownBlock ≠ some b := by
  rcases h.own.2 with ⟨rfl, _⟩ | ⟨g, cap, cur, rfl, _, hg, _⟩
  · simp [Value.ownBlock]
  · intro e
    simp [Value.ownBlock] at e
    subst e
    have := h.box
    unfold Bx at this
    rw [this] at hg
    simp at hg
    exact hT hg.2
theorem ownsRow_step {w w' : World} {B : Nat} {e : TypeId} {s : Nat} {v : Value} {n : Nat} {xs : List Value} (h : w.ownsRow B e s v n xs) (hb : Below w.heap.size w w') : w'.ownsRow B e s v n xs :=
  h.kept (row := none) ⟨hb.os, hb.tape, hb.output, hb.size, fun k hk _ => hb.block k hk⟩ (by cases v.ownBlock <;> simp)
theorem Bld.step {T : TypeId} {rest : List Value} {w w' : World} {B b : Nat} {L : List NdR} {v : Value} (h : Bld T rest w B b L v) (hb : Below w.heap.size w w') : Bld T rest w' B b L v :=
  ⟨h.base, h.box.keep hb, ownsRow_step h.own hb, h.new_.step hb⟩
/-- one node more behind the row -/
theorem Bld.grow {T : TypeId} {rest : List Value} {w w' : World} {B b : Nat} {L : List NdR} {v v' : Value} {y : NdR} {o' : Obj} (h : Bld T rest w B b L v) (hT1 : T ≠ 3) (hT2 : T ≠ 46) (hB : B ≤ w.heap.size) (hy : NewNums w B y.2.1 y.1.kids ∧ NewNums w B y.2.2 y.1.ends)
    (hown : w'.ownsRow B 46 13 v' (L.length + 1) (flatN L ++ ndC y)) (hg : (w.alloc o').grownBy w' v.ownBlock) :
    Bld T rest (w'.setCell ⟨b, 0, none⟩ v') B b (L ++ [y]) v' ∧ Below B w (w'.setCell ⟨b, 0, none⟩ v') ∧ KeptN w (w'.setCell ⟨b, 0, none⟩ v') b ∧ Bx T w' b (v :: rest) := by
  have hrow := h.row_ne hT2
  have hbl := h.box.lt
  have hbx : Bx T w' b (v :: rest) := by
    have := h.box
    unfold Bx at *
    rw [hg.block b (by simp; omega) (fun e => hrow e.symm), Below.heap_alloc w _ b hbl]; exact this
  have hkeep : KeptN w (w'.setCell ⟨b, 0, none⟩ v') b := fun k c U fz hk hU hkb => by
    rw [heap_setCell_other _ _ k v' (by simpa using hkb)]
    have hkl := lt_block hk
    rw [hg.block k (by simp; omega) (fun e => ?_), Below.heap_alloc w _ k hkl]
    rcases h.own.2 with ⟨rfl, _⟩ | ⟨g, cap, cur, rfl, _, hg2, _⟩
    · simp [Value.ownBlock] at e
    · simp [Value.ownBlock] at e
      subst e
      rw [hg2] at hk
      simp at hk
      exact hU hk.2.1.symm
  refine ⟨⟨h.base, by simpa using hbx.set 0 v', ?_, ?_⟩, ?_, hkeep, hbx⟩
  · obtain ⟨q1, q2⟩ := hown
    rw [flatN_app, List.length_append]
    refine ⟨by simpa [flatN] using q1, ?_⟩
    rcases q2 with ⟨_, q⟩ | ⟨g, cap, cur, hv, hBg, hg2, q⟩
    · omega
    · refine .inr ⟨g, cap, cur, hv, hBg, ?_, by simpa [flatN] using q⟩
      rw [heap_setCell_other _ _ g v' (fun e => ?_)]
      · exact hg2
      · simp at e
        subst e
        unfold Bx at hbx
        rw [hbx] at hg2
        simp at hg2
        exact hT2 hg2.2
  · intro z hz
    have hni := h.notInt hT1
    rcases List.mem_append.1 hz with hz | hz
    · exact ⟨hkeep.nums (h.new_ z hz).1 hni, hkeep.nums (h.new_ z hz).2 hni⟩
    · rw [List.mem_singleton] at hz
      subst hz
      exact ⟨hkeep.nums hy.1 hni, hkeep.nums hy.2 hni⟩
  · have h1 : Below B w w' := Below.grown ((Below.refl B w).alloc hB o') hg (by simp; omega) (fun j hj => (h.own.lt j hj).1)
    exact h1.setCell (p := ⟨b, 0, none⟩) h.base v'

theorem own_shape {w : World} {B n : Nat} {e : TypeId} {s : Nat} {v : Value} {xs : List Value} (h : w.ownsRow B e s v (n + 1) xs) : ∃ g c, v = .slice (some ⟨g, 0, none⟩) (n + 1) c := by
  rcases h.2 with ⟨_, q⟩ | ⟨g, cap, cur, hv, _⟩
  · omega
  · exact ⟨g, cap, hv⟩
def AddPost (T : TypeId) (rest : List Value) (w : World) (B b : Nat) (L : List NdR) (x : Nd) (e : Ending) (w' : World) : Prop :=
  e = .returned (.tuple #[.int .i64 (L.length : Nat), .bool true]) ∧ Below B w w' ∧ (∃ y v', y.1 = x ∧ Bld T rest w' B b (L ++ [y]) v') ∧ KeptN w w' b

set_option maxRecDepth 100000 in
set_option maxHeartbeats 4000000 in
theorem add_any (T : TypeId) (hT1 : T ≠ 3) (hT2 : T ≠ 46) (rest : List Value) (bB b : Nat) (L : List NdR) (v : Value) (kind sf st : Int) (kids : List Int) (text : ByteArray) (B : Int) (N : ByteArray) (D : Int) (M : ByteArray) (num wf wt : Int) (ends : List Int) (kv ev : Value) (w : World)
    (hb : Bld T rest w bB b L v) (hB : bB ≤ w.heap.size) (hL : L.length < 16384) (hk : NumsV w kv kids) (he : NumsV w ev ends) (lk : kids.length ≤ 17592186044416) (le : ends.length ≤ 17592186044416) (st1 : text.size ≤ 281474976710656) (sn : N.size ≤ 281474976710656) (sm : M.size ≤ 281474976710656) :
    Calls Tryz.prog 20 #[.pointer (some ⟨b, 0, none⟩), .agg #[.int .i64 kind, .int .i64 sf, .int .i64 st, kv, .string text, .int .i64 B, .string N, .int .i64 D, .string M, .int .i64 num, .int .i64 wf, .int .i64 wt, ev]] w (AddPost T rest w bB b L ⟨kind, sf, st, kids, text, B, N, D, M, num, wf, wt, ends⟩) := by
  obtain ⟨ks, kc, rfl, hks⟩ := hk
  obtain ⟨es, ec, rfl, hes⟩ := he
  have HC := Lib.hid (fun (w2 : World) (hb : Below w.heap.size w w2) => nclone_any kind sf st kids text B N D M num wf wt ends (.slice ks kids.length kc) (.slice es ends.length ec) w2 ⟨ks, kc, rfl, hks.step hb⟩ ⟨es, ec, rfl, hes.step hb⟩ lk le st1 sn sm)
  clear hks hes lk le st1 sn sm
  obtain ⟨vs, vc, rfl⟩ := hb.shape
  obtain ⟨j0, hj, jz0, jz1, jz2⟩ := info_parts infoNode
  have HB := Lib.hid hb
  have c0 := hb.box.cell 0
  have hbl := hb.box.lt
  simp only [List.getElem?_cons_zero] at c0
  clear hb
  generalize hn : L.length = n at *
  have HNL := Lib.hid hn
  clear hn
  have i1 : ((n : Int) == 16384) = false := by simp; omega
  go_enter Tryz.func20, Tryz.ntmps20
  go_wp2_with fail
  have hB3 : Below w.heap.size w (w.alloc (.cells #[.int .i64 kind, .int .i64 sf, .int .i64 st, .slice ks kids.length kc, .string text, .int .i64 B, .string N, .int .i64 D, .string M, .int .i64 num, .int .i64 wf, .int .i64 wt, .slice es ends.length ec] 46)) := (Below.refl _ _).alloc (Nat.le_refl _) _
  obtain ⟨W3, hW3⟩ : ∃ W3, W3 = w.alloc (.cells #[.int .i64 kind, .int .i64 sf, .int .i64 st, .slice ks kids.length kc, .string text, .int .i64 B, .string N, .int .i64 D, .string M, .int .i64 num, .int .i64 wf, .int .i64 wt, .slice es ends.length ec] 46) := ⟨_, rfl⟩
  have X3 : Hid (BoxN W3 w.heap.size [.int .i64 kind, .int .i64 sf, .int .i64 st, .slice ks kids.length kc, .string text, .int .i64 B, .string N, .int .i64 D, .string M, .int .i64 num, .int .i64 wf, .int .i64 wt, .slice es ends.length ec]) := Lib.hid (by rw [hW3]; exact BoxN.new w #[.int .i64 kind, .int .i64 sf, .int .i64 st, .slice ks kids.length kc, .string text, .int .i64 B, .string N, .int .i64 D, .string M, .int .i64 num, .int .i64 wf, .int .i64 wt, .slice es ends.length ec])
  have HB3 : Hid (Below w.heap.size w W3) := Lib.hid (by rw [hW3]; exact hB3)
  rw [← hW3]
  clear hW3 hB3
  have BD3 := Lib.hid (HB.out.step HB3.out)
  obtain ⟨⟨a0, a1, a2, a3, a4, a5, a6, a7, a8, a9, a10, a11, a12⟩, al, af⟩ := X3.out.all
  have d0 := BD3.out.box.cell 0
  have df := BD3.out.box.frozen 0
  simp only [List.getElem?_cons_zero] at d0
  clear c0 hbl
  have N1 : Hid (L.length + 1 ≤ maxLen) := Lib.hid (by have := HNL.out; unfold maxLen; omega)
  have N2 : Hid ((L.length + 1) * 160 ≤ 140737488355328) := Lib.hid (by have := HNL.out; omega)
  have RW : Hid (∀ (s1 : Option Addr) (c1 : Nat) (s2 : Option Addr) (c2 : Nat) (W4 : World), ∀ j u, ([.int .i64 kind, .int .i64 sf, .int .i64 st, .slice s1 kids.length c1, .string text, .int .i64 B, .string N, .int .i64 D, .string M, .int .i64 num, .int .i64 wf, .int .i64 wt, .slice s2 ends.length c2] : List Value)[j]? = some u → (W4.alloc (.cells #[.int .i64 kind, .int .i64 sf, .int .i64 st, .slice s1 kids.length c1, .string text, .int .i64 B, .string N, .int .i64 D, .string M, .int .i64 num, .int .i64 wf, .int .i64 wt, .slice s2 ends.length c2] 46)).cell? ((⟨W4.heap.size, 0, none⟩ : Addr).add j) = some u) := Lib.hid (by
    intro s1 c1 s2 c2 W4 j u hj
    rw [add_at, Nat.zero_add, (BoxN.new W4 #[.int .i64 kind, .int .i64 sf, .int .i64 st, .slice s1 kids.length c1, .string text, .int .i64 B, .string N, .int .i64 D, .string M, .int .i64 num, .int .i64 wf, .int .i64 wt, .slice s2 ends.length c2]).cell]; exact hj)
  have R1 : Hid (∀ (s1 : Option Addr) (c1 : Nat) (s2 : Option Addr) (c2 : Nat), ∀ u ∈ ([.int .i64 kind, .int .i64 sf, .int .i64 st, .slice s1 kids.length c1, .string text, .int .i64 B, .string N, .int .i64 D, .string M, .int .i64 num, .int .i64 wf, .int .i64 wt, .slice s2 ends.length c2] : List Value), u.oneCell' = true) := Lib.hid (by
    intro s1 c1 s2 c2 u hu
    simp only [List.mem_cons, List.not_mem_nil, or_false] at hu
    rcases hu with rfl | rfl | rfl | rfl | rfl | rfl | rfl | rfl | rfl | rfl | rfl | rfl | rfl <;> rfl)
  go_region_law (first
    | (refine step_append_n rfl (.tmp 16) (.tmp 19) 22 rfl bB 46 j0 _ 13 160 Tryz.underlying22 hj jz0 jz1 jz2 rfl (by decide) (.slice vs n vc) L.length (flatN L) (by simp [Act.eval]) (HW.out.own.alloc _) ⟨W4.heap.size, 0, none⟩ 1 1 ([.int .i64 kind, .int .i64 sf, .int .i64 st, .slice s1 kids.length c1, .string text, .int .i64 B, .string N, .int .i64 D, .string M, .int .i64 num, .int .i64 wf, .int .i64 wt, .slice s2 ends.length c2]) (by simp [Act.eval]) rfl (RW.out _ _ _ _ W4) (R1.out _ _ _ _) N1.out N2.out (HB4.out _) ?_
       intro v' w5 hown' hgrow
       obtain ⟨g, gc, rfl⟩ := own_shape hown'
       have HG := Lib.hid (HW.out.grow (y := (⟨kind, sf, st, kids, text, B, N, D, M, num, wf, wt, ends⟩, .slice s1 kids.length c1, .slice s2 ends.length c2)) hT1 hT2 HBW.out ⟨M1.out, M2.out⟩ hown' hgrow)
       have e0 := HG.out.2.2.2.cell 0
       have ef := HG.out.2.2.2.frozen 0
       simp only [List.getElem?_cons_zero] at e0
       clear hown' hgrow)
    | (go_simp
       go_at_call 44
       refine (HC.out _ (HB3.out.drew)).mono ?_
       rintro e W4 ⟨s1, c1, s2, c2, rfl, h34, n1, n2⟩
       have HW : Hid (Bld T rest W4 bB b L (.slice vs n vc)) := Lib.hid ((HB.out.step HB3.out.drew).step h34)
       have HB4 : Hid (∀ o : Obj, bB ≤ (W4.alloc o).heap.size) := Lib.hid (fun o => by have := h34.size; have := HB3.out.size; simp at *; omega)
       have HBW : Hid (bB ≤ W4.heap.size) := Lib.hid (by have := h34.size; have := HB3.out.size; simp at *; omega)
       have H4 := Lib.hid (after HB3.out.drew h34)
       have M1 := Lib.hid (n1.mono (B' := bB) (by have := HB3.out.size; simp at *; omega))
       have M2 := Lib.hid (n2.mono (B' := bB) (by have := HB3.out.size; simp at *; omega))
       have g0 := HW.out.box.cell 0
       simp only [List.getElem?_cons_zero] at g0
       have gl := HW.out.box.lt
       clear h34 n1 n2))
  all_goals
    have HZ := Lib.hid (KeptN.trans (KeptN.of_below b H4.out) HG.out.2.2.1)
    have HZ2 := Lib.hid ((H4.out.mono hB).trans HG.out.2.1)
    have HZ3 := Lib.hid HG.out.1
    clear HG HW HB4 H4 M1 M2 HC HB3 BD3 X3 HB N1 N2 RW R1
    generalize hln : L.length = ln at *
    have hl2 : ln < 16384 := by have := HNL.out; omega
    have HLN := Lib.hid hln
    clear hln
    go_wp2_with fail
    go_ret2
    exact ⟨by rw [HLN.out]; rfl, HZ2.out, ⟨_, _, rfl, HZ3.out⟩, HZ.out⟩
end Go.Proofs.YtfalgnapghienaaGreatDoor
