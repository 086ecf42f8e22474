/- Contract of a builder's Add, once more: it says which blocks alone change. -/
import Derived.Test.YtfalgnapghienaaGreatDoorTrAdd
namespace Go.Proofs.YtfalgnapghienaaGreatDoor
open Go Go.RowKit
set_option linter.unusedVariables false
set_option linter.unusedSimpArgs false

/-- one node more behind the row -/
theorem Bld.grow2 {T : TypeId} {rest : List Value} {w w' : World} {B b : Nat} {L : List NdR} {v v' : Value} {y : NdR} {o' : Obj} (h : Bld T rest w B b L v) (hT1 : T ≠ 3) (hT2 : T ≠ 46) (hB : B ≤ w.heap.size) (hy : NewNums w B y.2.1 y.1.kids ∧ NewNums w B y.2.2 y.1.ends)
    (hown : w'.ownsRow B 46 13 v' (L.length + 1) (flatN L ++ ndC y)) (hg : (w.alloc o').grownBy w' v.ownBlock) :
    Bld T rest (w'.setCell ⟨b, 0, none⟩ v') B b (L ++ [y]) v' ∧ Below B w (w'.setCell ⟨b, 0, none⟩ v') ∧ KeptN w (w'.setCell ⟨b, 0, none⟩ v') b ∧ Bx T w' b (v :: rest) ∧ (∀ k, k < w.heap.size → k ≠ b → some k ≠ v.ownBlock → (w'.setCell ⟨b, 0, none⟩ v').heap[k]? = w.heap[k]?) := by
  obtain ⟨g1, g2, g3, g4⟩ := h.grow hT1 hT2 hB hy hown hg
  refine ⟨g1, g2, g3, g4, fun k hk hkb hkr => ?_⟩
  rw [heap_setCell_other _ _ k v' (by simpa using hkb), hg.block k (by simp; omega) hkr, Below.heap_alloc w _ k hk]

def AddPost2 (T : TypeId) (rest : List Value) (w : World) (B b : Nat) (L : List NdR) (v : Value) (x : Nd) (e : Ending) (w' : World) : Prop :=
  e = .returned (.tuple #[.int .i64 (L.length : Nat), .bool true]) ∧ Below B w w' ∧ (∃ y v', y.1 = x ∧ Bld T rest w' B b (L ++ [y]) v') ∧ KeptN w w' b ∧ (∀ k, k < w.heap.size → k ≠ b → some k ≠ v.ownBlock → w'.heap[k]? = w.heap[k]?)

set_option maxRecDepth 100000 in
set_option maxHeartbeats 4000000 in
theorem add2_any (T : TypeId) (hT1 : T ≠ 3) (hT2 : T ≠ 46) (rest : List Value) (bB b : Nat) (L : List NdR) (v : Value) (kind sf st : Int) (kids : List Int) (text : ByteArray) (B : Int) (N : ByteArray) (D : Int) (M : ByteArray) (num wf wt : Int) (ends : List Int) (kv ev : Value) (w : World)
    (hb : Bld T rest w bB b L v) (hB : bB ≤ w.heap.size) (hL : L.length < 16384) (hk : NumsV w kv kids) (he : NumsV w ev ends) (lk : kids.length ≤ 17592186044416) (le : ends.length ≤ 17592186044416) (st1 : text.size ≤ 281474976710656) (sn : N.size ≤ 281474976710656) (sm : M.size ≤ 281474976710656) :
    Calls Tryz.prog 20 #[.pointer (some ⟨b, 0, none⟩), .agg #[.int .i64 kind, .int .i64 sf, .int .i64 st, kv, .string text, .int .i64 B, .string N, .int .i64 D, .string M, .int .i64 num, .int .i64 wf, .int .i64 wt, ev]] w (AddPost2 T rest w bB b L v ⟨kind, sf, st, kids, text, B, N, D, M, num, wf, wt, ends⟩) := by
  obtain ⟨ks, kc, rfl, hks⟩ := hk
  obtain ⟨es, ec, rfl, hes⟩ := he
  have HC := Lib.hid (fun (w2 : World) (hb : Below w.heap.size w w2) => nclone_any kind sf st kids text B N D M num wf wt ends (.slice ks kids.length kc) (.slice es ends.length ec) w2 ⟨ks, kc, rfl, hks.step hb⟩ ⟨es, ec, rfl, hes.step hb⟩ lk le st1 sn sm)
  clear hks hes lk le st1 sn sm
  obtain ⟨vs, vc, rfl⟩ := hb.shape
  obtain ⟨j0, hj, jz0, jz1, jz2⟩ := info_parts infoNode
  have HB := Lib.hid hb
  have c0 := hb.box.cell 0
  have hbl := hb.box.lt
  simp only [List.getElem?_cons_zero] at c0
  clear hb
  generalize hn : L.length = n at *
  have HNL := Lib.hid hn
  clear hn
  have i1 : ((n : Int) == 16384) = false := by simp; omega
  go_enter Tryz.func20, Tryz.ntmps20
  go_wp2_with fail
  have hB3 : Below w.heap.size w (w.alloc (.cells #[.int .i64 kind, .int .i64 sf, .int .i64 st, .slice ks kids.length kc, .string text, .int .i64 B, .string N, .int .i64 D, .string M, .int .i64 num, .int .i64 wf, .int .i64 wt, .slice es ends.length ec] 46)) := (Below.refl _ _).alloc (Nat.le_refl _) _
  obtain ⟨W3, hW3⟩ : ∃ W3, W3 = w.alloc (.cells #[.int .i64 kind, .int .i64 sf, .int .i64 st, .slice ks kids.length kc, .string text, .int .i64 B, .string N, .int .i64 D, .string M, .int .i64 num, .int .i64 wf, .int .i64 wt, .slice es ends.length ec] 46) := ⟨_, rfl⟩
  have X3 : Hid (BoxN W3 w.heap.size [.int .i64 kind, .int .i64 sf, .int .i64 st, .slice ks kids.length kc, .string text, .int .i64 B, .string N, .int .i64 D, .string M, .int .i64 num, .int .i64 wf, .int .i64 wt, .slice es ends.length ec]) := Lib.hid (by rw [hW3]; exact BoxN.new w #[.int .i64 kind, .int .i64 sf, .int .i64 st, .slice ks kids.length kc, .string text, .int .i64 B, .string N, .int .i64 D, .string M, .int .i64 num, .int .i64 wf, .int .i64 wt, .slice es ends.length ec])
  have HB3 : Hid (Below w.heap.size w W3) := Lib.hid (by rw [hW3]; exact hB3)
  rw [← hW3]
  clear hW3 hB3
  have BD3 := Lib.hid (HB.out.step HB3.out)
  obtain ⟨⟨a0, a1, a2, a3, a4, a5, a6, a7, a8, a9, a10, a11, a12⟩, al, af⟩ := X3.out.all
  have d0 := BD3.out.box.cell 0
  have df := BD3.out.box.frozen 0
  simp only [List.getElem?_cons_zero] at d0
  clear c0 hbl
  have N1 : Hid (L.length + 1 ≤ maxLen) := Lib.hid (by have := HNL.out; unfold maxLen; omega)
  have N2 : Hid ((L.length + 1) * 160 ≤ 140737488355328) := Lib.hid (by have := HNL.out; omega)
  have RW : Hid (∀ (s1 : Option Addr) (c1 : Nat) (s2 : Option Addr) (c2 : Nat) (W4 : World), ∀ j u, ([.int .i64 kind, .int .i64 sf, .int .i64 st, .slice s1 kids.length c1, .string text, .int .i64 B, .string N, .int .i64 D, .string M, .int .i64 num, .int .i64 wf, .int .i64 wt, .slice s2 ends.length c2] : List Value)[j]? = some u → (W4.alloc (.cells #[.int .i64 kind, .int .i64 sf, .int .i64 st, .slice s1 kids.length c1, .string text, .int .i64 B, .string N, .int .i64 D, .string M, .int .i64 num, .int .i64 wf, .int .i64 wt, .slice s2 ends.length c2] 46)).cell? ((⟨W4.heap.size, 0, none⟩ : Addr).add j) = some u) := Lib.hid (by
    intro s1 c1 s2 c2 W4 j u hj
    rw [add_at, Nat.zero_add, (BoxN.new W4 #[.int .i64 kind, .int .i64 sf, .int .i64 st, .slice s1 kids.length c1, .string text, .int .i64 B, .string N, .int .i64 D, .string M, .int .i64 num, .int .i64 wf, .int .i64 wt, .slice s2 ends.length c2]).cell]; exact hj)
  have R1 : Hid (∀ (s1 : Option Addr) (c1 : Nat) (s2 : Option Addr) (c2 : Nat), ∀ u ∈ ([.int .i64 kind, .int .i64 sf, .int .i64 st, .slice s1 kids.length c1, .string text, .int .i64 B, .string N, .int .i64 D, .string M, .int .i64 num, .int .i64 wf, .int .i64 wt, .slice s2 ends.length c2] : List Value), u.oneCell' = true) := Lib.hid (by
    intro s1 c1 s2 c2 u hu
    simp only [List.mem_cons, List.not_mem_nil, or_false] at hu
    rcases hu with rfl | rfl | rfl | rfl | rfl | rfl | rfl | rfl | rfl | rfl | rfl | rfl | rfl <;> rfl)
  go_region_law (first
    | (refine step_append_n rfl (.tmp 16) (.tmp 19) 22 rfl bB 46 j0 _ 13 160 Tryz.underlying22 hj jz0 jz1 jz2 rfl (by decide) (.slice vs n vc) L.length (flatN L) (by simp [Act.eval]) (HW.out.own.alloc _) ⟨W4.heap.size, 0, none⟩ 1 1 ([.int .i64 kind, .int .i64 sf, .int .i64 st, .slice s1 kids.length c1, .string text, .int .i64 B, .string N, .int .i64 D, .string M, .int .i64 num, .int .i64 wf, .int .i64 wt, .slice s2 ends.length c2]) (by simp [Act.eval]) rfl (RW.out _ _ _ _ W4) (R1.out _ _ _ _) N1.out N2.out (HB4.out _) ?_
       intro v' w5 hown' hgrow
       obtain ⟨g, gc, rfl⟩ := own_shape hown'
       have HG := Lib.hid (HW.out.grow2 (y := (⟨kind, sf, st, kids, text, B, N, D, M, num, wf, wt, ends⟩, .slice s1 kids.length c1, .slice s2 ends.length c2)) hT1 hT2 HBW.out ⟨M1.out, M2.out⟩ hown' hgrow)
       have e0 := HG.out.2.2.2.1.cell 0
       have ef := HG.out.2.2.2.1.frozen 0
       simp only [List.getElem?_cons_zero] at e0
       clear hown' hgrow)
    | (go_simp
       go_at_call 44
       refine (HC.out _ (HB3.out.drew)).mono ?_
       rintro e W4 ⟨s1, c1, s2, c2, rfl, h34, n1, n2⟩
       have HW : Hid (Bld T rest W4 bB b L (.slice vs n vc)) := Lib.hid ((HB.out.step HB3.out.drew).step h34)
       have HB4 : Hid (∀ o : Obj, bB ≤ (W4.alloc o).heap.size) := Lib.hid (fun o => by have := h34.size; have := HB3.out.size; simp at *; omega)
       have HBW : Hid (bB ≤ W4.heap.size) := Lib.hid (by have := h34.size; have := HB3.out.size; simp at *; omega)
       have H4 := Lib.hid (after HB3.out.drew h34)
       have M1 := Lib.hid (n1.mono (B' := bB) (by have := HB3.out.size; simp at *; omega))
       have M2 := Lib.hid (n2.mono (B' := bB) (by have := HB3.out.size; simp at *; omega))
       have g0 := HW.out.box.cell 0
       simp only [List.getElem?_cons_zero] at g0
       have gl := HW.out.box.lt
       clear h34 n1 n2))
  all_goals
    have HZ := Lib.hid (KeptN.trans (KeptN.of_below b H4.out) HG.out.2.2.1)
    have HZ2 := Lib.hid ((H4.out.mono hB).trans HG.out.2.1)
    have HZ3 := Lib.hid HG.out.1
    have HZ4 : Hid (∀ k, k < w.heap.size → k ≠ b → some k ≠ (Value.slice vs n vc).ownBlock → (w5.setCell ⟨b, 0, none⟩ _).heap[k]? = w.heap[k]?) := Lib.hid (fun k hk h1 h2 => (HG.out.2.2.2.2 k (Nat.lt_of_lt_of_le hk H4.out.size) h1 h2).trans (H4.out.block k hk))
    clear HG HW HB4 H4 M1 M2 HC HB3 BD3 X3 HB N1 N2 RW R1
    generalize hln : L.length = ln at *
    have hl2 : ln < 16384 := by have := HNL.out; omega
    have HLN := Lib.hid hln
    clear hln
    go_wp2_with fail
    go_ret2
    exact ⟨by rw [HLN.out]; rfl, HZ2.out, ⟨_, _, rfl, HZ3.out⟩, HZ.out, HZ4.out⟩
end Go.Proofs.YtfalgnapghienaaGreatDoor
