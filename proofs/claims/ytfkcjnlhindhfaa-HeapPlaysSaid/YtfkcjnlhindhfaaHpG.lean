/- Contract of a heap's add: one thing more. -/
import Derived.Test.YtfkcjnlhindhfaaHpF
namespace Go.Proofs.Ytfkcjnlhindhfaa
open Go Go.RowKit
set_option linter.unusedVariables false
set_option linter.unusedSimpArgs false

theorem infoThing : (Try.prog.info? 69).map (fun i => (i.zero, i.size, i.bytes)) = some (some (.agg #[.bool false, .string ⟨#[]⟩, .int .i64 0, .string ⟨#[]⟩, .int .i64 0, .string ⟨#[]⟩, .slice none 0 0]), 7, 96) := by kernel_rfl
theorem info_parts {P : Program} {e : TypeId} {z : Value} {s b : Nat} (h : (P.info? e).map (fun i => (i.zero, i.size, i.bytes)) = some (some z, s, b)) : ∃ i, P.info? e = some i ∧ i.zero = some z ∧ i.size = s ∧ i.bytes = b := by
  cases hq : P.info? e with
  | none => simp [hq] at h
  | some i =>
    simp [hq] at h
    exact ⟨i, rfl, h.1, h.2.1, h.2.2⟩
theorem step_append_n {P : Program} {ops : Array Oper} {o : Oper} {a : Act} {w : World} {K : Act → World → Prop} {Q : Exit → Act → World → Prop} {E : Prop}
    (hg : o.guard = none) (s x : Operand) (t : TypeId) (hop : o.op = Op.call { callee := Callee.builtin Builtin.append, args := #[s, x], argTypes := #[t, t] })
    (base : Nat) (e : TypeId) (i : TypeInfo) (z : Value) (size bytes : Nat) (h1 : P.underlying t = some (.slice e)) (h2 : P.info? e = some i) (h3 : i.zero = some z) (h4 : i.size = size) (h5 : i.bytes = bytes) (h6 : z.cells.size = size) (h7 : 0 < size)
    (v : Value) (n : Nat) (xs : List Value) (hs : a.eval s = v) (hown : w.ownsRow base e size v n xs)
    (ad : Addr) (m c : Nat) (news : List Value) (hx : a.eval x = .slice (some ad) m c) (hn : news.length = m * size) (hc : ∀ j u, news[j]? = some u → w.cell? (ad.add j) = some u) (h1c : ∀ u ∈ news, u.oneCell' = true)
    (b1 : n + m ≤ maxLen) (b2 : (n + m) * bytes ≤ 140737488355328) (hb : base ≤ w.heap.size)
    (hK : ∀ v' w', w'.ownsRow base e size v' (n + m) (xs ++ news) → w.grownBy w' v.ownBlock → K (a.put o.dst v') w') :
    if Region.wanted o (yielded ops a.tmps) = true then Oper.wp P o a w K Q else E := by
  have hw : Region.wanted o (yielded ops a.tmps) = true := by simp [Region.wanted, hg]
  rw [if_pos hw]
  obtain ⟨v', w', hrun, r1, r2, _⟩ := run_append_own (P := P) w base t o.type e i z size bytes h1 h2 h3 h4 h5 h6 h7 v n xs hown ad m c news hn hc h1c b1 b2 hb
  unfold Oper.wp
  simp [execOp, hop, resolve, invoke, builtin, hs, hx, hrun, Result.andThen]
  exact hK v' w' r1 r2

theorem HpM.count {w : World} {B b n : Nat} {L : List ThR} {v : Value} (h : HpM w B b L n v) (n' : Nat) (hn : n' ≤ 65536) : HpM (w.setCell ⟨b, 1, none⟩ (.int .i64 n')) B b L n' v ∧ Below B w (w.setCell ⟨b, 1, none⟩ (.int .i64 n')) ∧ KeptT w (w.setCell ⟨b, 1, none⟩ (.int .i64 n')) b := by
  have hk : ∀ k, k ≠ b → (w.setCell ⟨b, 1, none⟩ (.int .i64 n')).heap[k]? = w.heap[k]? := fun k hk => heap_setCell_other _ _ k _ (by simpa using hk)
  refine ⟨⟨h.base, by simpa using h.box.set 1 (.int .i64 n'), ?_, fun y hy => ⟨(h.cells y hy).1, (h.cells y hy).2.other ((h.cells y hy).2.ne h.box (by decide)) _ _⟩, h.nod, h.ll, hn, h.fit⟩, (Below.refl _ _).setCell (p := ⟨b, 1, none⟩) h.base _, ⟨by simp [World.setCell], fun k c U fz hc hU hb => hk k hb⟩⟩
  obtain ⟨q1, q2⟩ := h.own
  refine ⟨q1, ?_⟩
  rcases q2 with q | ⟨g, cap, cur, hv, hBg, hg2, q⟩
  · exact .inl q
  · refine .inr ⟨g, cap, cur, hv, hBg, ?_, q⟩
    rw [hk g (fun e => ?_)]
    · exact hg2
    · subst e
      have := h.box
      unfold Bx at this
      rw [this] at hg2
      simp at hg2
theorem HpM.grow {w w' : World} {B b n : Nat} {L : List ThR} {v v' : Value} {y : ThR} {o' : Obj} (h : HpM w B b L n v) (hB : B ≤ w.heap.size) (hl : L.length < 4096) (hy : B ≤ y.2 ∧ Bx 32 w y.2 (flatV y.1.vs)) (hnew : ∀ x ∈ L, x.2 ≠ y.2) (hf : ThFit y.1)
    (hown : w'.ownsRow B 69 7 v' (L.length + 1) (flatT L ++ thC y)) (hg : (w.alloc o').grownBy w' v.ownBlock) :
    HpM (w'.setCell ⟨b, 0, none⟩ v') B b (L ++ [y]) n v' ∧ Below B w (w'.setCell ⟨b, 0, none⟩ v') ∧ KeptT w (w'.setCell ⟨b, 0, none⟩ v') b ∧ Bx 26 w' b [v, .int .i64 n] ∧ (∀ k, k < w.heap.size → k ≠ b → some k ≠ v.ownBlock → (w'.setCell ⟨b, 0, none⟩ v').heap[k]? = w.heap[k]?) := by
  have hrow : some b ≠ v.ownBlock := own_ne h.own h.box (by decide)
  have hbl := h.box.lt
  have hbx : Bx 26 w' b [v, .int .i64 n] := h.box.at_ (k := 0) (by rw [hg.block b (by simp; omega) hrow, Below.heap_alloc w _ b hbl])
  have hk : ∀ k c U fz, w.heap[k]? = some (.cells c U fz) → U ≠ 69 → k ≠ b → (w'.setCell ⟨b, 0, none⟩ v').heap[k]? = w.heap[k]? := fun k c U fz hk hU hkb => by
    rw [heap_setCell_other _ _ k v' (by simpa using hkb), hg.block k (by simp; have := lt_block hk; omega) (own_ne h.own hk hU), Below.heap_alloc w _ k (lt_block hk)]
  have hb1 : Below B w w' := Below.grown ((Below.refl B w).alloc hB o') hg (by simp; omega) (fun j hj => (h.own.lt j hj).1)
  have hcell : ∀ x : ThR, Bx 32 w x.2 (flatV x.1.vs) → Bx 32 (w'.setCell ⟨b, 0, none⟩ v') x.2 (flatV x.1.vs) := fun x hx => hx.at_ (k := 0) (hk _ _ _ _ hx (by decide) (hx.ne h.box (by decide)))
  refine ⟨⟨h.base, by simpa using hbx.set 0 v', ?_, ?_, ?_, by simp; omega, h.ln, ?_⟩, hb1.setCell (p := ⟨b, 0, none⟩) h.base v', ⟨by have := hb1.size; simpa [World.setCell] using this, hk⟩, hbx, fun k hk1 hkb hkr => by rw [heap_setCell_other _ _ k v' (by simpa using hkb), hg.block k (by simp; omega) hkr, Below.heap_alloc w _ k hk1]⟩
  · obtain ⟨q1, q2⟩ := hown
    rw [show flatT (L ++ [y]) = flatT L ++ thC y by unfold flatT; simp, List.length_append]
    refine ⟨by simpa using q1, ?_⟩
    rcases q2 with ⟨_, q⟩ | ⟨g, cap, cur, hv, hBg, hg2, q⟩
    · omega
    · refine .inr ⟨g, cap, cur, hv, hBg, ?_, by simpa using q⟩
      rw [heap_setCell_other _ _ g v' (fun e => ?_)]
      · exact hg2
      · simp at e
        subst e
        unfold Bx at hbx
        rw [hbx] at hg2
        simp at hg2
  · intro x hx
    rcases List.mem_append.1 hx with hx | hx
    · exact ⟨(h.cells x hx).1, hcell x (h.cells x hx).2⟩
    · rw [List.mem_singleton] at hx
      subst hx
      exact ⟨hy.1, hcell _ hy.2⟩
  · rw [List.map_append, List.nodup_append]
    refine ⟨h.nod, by simp, ?_⟩
    intro a ha c hc e
    simp at hc
    obtain ⟨x, hx, rfl⟩ := List.mem_map.1 ha
    exact hnew x hx (e.trans hc)
  · intro x hx
    rcases List.mem_append.1 hx with hx | hx
    · exact h.fit x hx
    · rw [List.mem_singleton] at hx
      subst hx
      exact hf

/-- all but one block stays -/
def Same (k : Nat) (w w' : World) : Prop := w.heap.size ≤ w'.heap.size ∧ ∀ q, q ≠ k → w'.heap[q]? = w.heap[q]?
theorem Same.sets (g : Nat) (vs : List Value) (o : Nat) (w : World) : Same g w (w.setCells g o vs) := ⟨by rw [set_size]; exact Nat.le_refl _, fun q hq => set_other g q hq vs o w⟩
theorem HpM.same {w w' : World} {B b n k : Nat} {L : List ThR} {v : Value} (h : HpM w B b L n v) (hs : Same k w w') (hb : b ≠ k) (hr : some k ≠ v.ownBlock) (hc : ∀ y ∈ L, y.2 ≠ k) : HpM w' B b L n v := by
  refine ⟨h.base, h.box.at_ (k := 0) (hs.2 b hb), ?_, fun y hy => ⟨(h.cells y hy).1, (h.cells y hy).2.at_ (k := 0) (hs.2 _ (hc y hy))⟩, h.nod, h.ll, h.ln, h.fit⟩
  obtain ⟨q1, q2⟩ := h.own
  refine ⟨q1, ?_⟩
  rcases q2 with q | ⟨g, cap, cur, rfl, hBg, hg2, q⟩
  · exact .inl q
  · refine .inr ⟨g, cap, cur, rfl, hBg, ?_, q⟩
    rw [hs.2 g (fun e => hr (by rw [e]; rfl))]
    exact hg2
theorem KeptT.out {w w1 w2 : World} {b k : Nat} (h : KeptT w w1 b) (hs : Same k w1 w2) (hk : w.heap.size ≤ k) : KeptT w w2 b := ⟨Nat.le_trans h.1 hs.1, fun q c U fz hc hU hb => by
  rw [hs.2 q (fun e => by have := lt_block hc; omega)]
  exact h.2 q c U fz hc hU hb⟩
def AddH (w : World) (B b : Nat) (L : List ThR) (n : Nat) (y : ThR) (e : Ending) (w' : World) : Prop :=
  e = .returned (.agg #[.int .i64 5, .int .i64 (L.length : Nat), .string ⟨#[]⟩]) ∧ Below B w w' ∧ (∃ v', HpM w' B b (L ++ [y]) (n + y.1.vs.length) v') ∧ KeptT w w' b

set_option maxRecDepth 100000 in
set_option maxHeartbeats 4000000 in
theorem add_any (b bB n : Nat) (L : List ThR) (v : Value) (arr : Bool) (cls : ByteArray) (B : Int) (N : ByteArray) (D : Int) (M : ByteArray) (vs : List Vl) (g : Nat) (w : World)
    (h : HpM w bB b L n v) (hB : bB ≤ w.heap.size) (hL : L.length < 4096) (hn : n + vs.length ≤ 65536) (hg : bB ≤ g) (hx : Bx 32 w g (flatV vs)) (hnew : ∀ x ∈ L, x.2 ≠ g) (hf : ThFit ⟨arr, cls, (B, N, D, M), vs⟩) :
    Calls Try.prog 27 #[.pointer (some ⟨b, 0, none⟩), .agg #[.bool arr, .string cls, .int .i64 B, .string N, .int .i64 D, .string M, .slice (some ⟨g, 0, none⟩) vs.length vs.length]] w (AddH w bB b L n (⟨arr, cls, (B, N, D, M), vs⟩, g)) := by
  obtain ⟨vg, vc, rfl⟩ := h.shape
  obtain ⟨j0, hj, jz0, jz1, jz2⟩ := info_parts infoThing
  have HB := Lib.hid h
  obtain ⟨c0, c1, cl, cf⟩ := h.two
  have HN := Lib.hid hn
  have HL := Lib.hid hL
  have HY := Lib.hid (And.intro hx (And.intro hnew (And.intro hf hg)))
  clear h hx hnew hf
  generalize hm : L.length = m at *
  have HM := Lib.hid hm
  clear hm
  go_enter Try.func27, Try.ntmps27
  go_wp2_with fail
  obtain ⟨W3, hW3⟩ : ∃ W3, W3 = (w.alloc (.cells #[.bool arr, .string cls, .int .i64 B, .string N, .int .i64 D, .string M, .slice (some ⟨g, 0, none⟩) vs.length vs.length] 69)).alloc (.cells #[.int .i64 0, .int .i64 0, .string ⟨#[]⟩] 32) := ⟨_, rfl⟩
  have HB3 : Hid (Below w.heap.size w W3) := Lib.hid (by rw [hW3]; repeat (first | exact Below.refl _ _ | apply Below.setCell _ (by first | omega | (simp <;> omega)) | apply Below.alloc _ (by first | omega | (simp <;> omega))))
  have X3 : Hid (Bx 69 W3 w.heap.size [.bool arr, .string cls, .int .i64 B, .string N, .int .i64 D, .string M, .slice (some ⟨g, 0, none⟩) vs.length vs.length] ∧ Bx 32 W3 (w.heap.size + 1) [.int .i64 0, .int .i64 0, .string ⟨#[]⟩]) := Lib.hid (by
    have := (Below.refl W3.heap.size W3)
    rw [hW3] at this
    obtain ⟨-, x1, x2⟩ := box2 this
    rw [hW3]
    exact ⟨x1, x2⟩)
  rw [← hW3]
  clear hW3
  have BD3 := Lib.hid (HB.out.step HB3.out)
  have BDD := Lib.hid (HB.out.step HB3.out.drew)
  have a0 := X3.out.1.cell 0
  have a1 := X3.out.1.cell 1
  have a2 := X3.out.1.cell 2
  have a3 := X3.out.1.cell 3
  have a4 := X3.out.1.cell 4
  have a5 := X3.out.1.cell 5
  have a6 := X3.out.1.cell 6
  have al := X3.out.1.lt
  simp only [List.getElem?_cons_zero, List.getElem?_cons_succ] at a0 a1 a2 a3 a4 a5 a6
  obtain ⟨d0, d1, dl, df⟩ := BD3.out.two
  clear c0 c1 cl cf
  have N1 : Hid (L.length + 1 ≤ maxLen) := Lib.hid (by have := HL.out; have := HM.out; unfold maxLen; omega)
  have N2 : Hid ((L.length + 1) * 96 ≤ 140737488355328) := Lib.hid (by have := HL.out; have := HM.out; omega)
  have HB4 : Hid (bB ≤ (W3.drew.alloc (.cells #[.bool arr, .string cls, .int .i64 B, .string N, .int .i64 D, .string M, .slice (some ⟨g, 0, none⟩) vs.length vs.length] 69)).heap.size) := Lib.hid (by have := HB3.out.size; simp; omega)
  have RW : Hid (∀ j u, ([.bool arr, .string cls, .int .i64 B, .string N, .int .i64 D, .string M, .slice (some ⟨g, 0, none⟩) vs.length vs.length] : List Value)[j]? = some u → (W3.drew.alloc (.cells #[.bool arr, .string cls, .int .i64 B, .string N, .int .i64 D, .string M, .slice (some ⟨g, 0, none⟩) vs.length vs.length] 69)).cell? ((⟨W3.heap.size, 0, none⟩ : Addr).add j) = some u) := Lib.hid (by
    intro j u hj
    rw [add_at, Nat.zero_add]
    refine Eq.trans (show (W3.drew.alloc (.cells #[.bool arr, .string cls, .int .i64 B, .string N, .int .i64 D, .string M, .slice (some ⟨g, 0, none⟩) vs.length vs.length] 69)).cell? ⟨W3.drew.heap.size, j, none⟩ = _ from (Bx.new 69 W3.drew #[.bool arr, .string cls, .int .i64 B, .string N, .int .i64 D, .string M, .slice (some ⟨g, 0, none⟩) vs.length vs.length]).cell j) hj)
  have R1 : Hid (∀ u ∈ ([.bool arr, .string cls, .int .i64 B, .string N, .int .i64 D, .string M, .slice (some ⟨g, 0, none⟩) vs.length vs.length] : List Value), u.oneCell' = true) := Lib.hid (by
    intro u hu
    simp only [List.mem_cons, List.not_mem_nil, or_false] at hu
    rcases hu with rfl | rfl | rfl | rfl | rfl | rfl | rfl <;> rfl)
  go_region_law (first
    | (refine step_append_n rfl (.tmp 9) (.tmp 11) 24 rfl bB 69 j0 _ 7 96 Try.underlying24 hj jz0 jz1 jz2 rfl (by decide) (.slice vg m vc) L.length (flatT L) (by simp [Act.eval]) (BDD.out.own.alloc _) ⟨W3.heap.size, 0, none⟩ 1 1 ([.bool arr, .string cls, .int .i64 B, .string N, .int .i64 D, .string M, .slice (some ⟨g, 0, none⟩) vs.length vs.length]) (by simp [Act.eval]) rfl (RW.out) (R1.out) N1.out N2.out (HB4.out) ?_
       intro v' w5 hown' hgrow
       obtain ⟨g2, gc, rfl⟩ := own_shape hown'
       have HG := Lib.hid (BDD.out.grow (y := (⟨arr, cls, (B, N, D, M), vs⟩, g)) (by have := HB3.out.size; simp; omega) (by have := HL.out; have := HM.out; omega) ⟨HY.out.2.2.2, HY.out.1.keep HB3.out.drew⟩ HY.out.2.1 HY.out.2.2.1 hown' hgrow)
       have e0 := HG.out.2.2.2.1.cell 0
       have ef := HG.out.2.2.2.1.frozen 0
       have el := HG.out.2.2.2.1.lt
       simp only [List.getElem?_cons_zero] at e0
       clear hown' hgrow))
  all_goals
    have hne1 : some w.heap.size ≠ (Value.slice vg m vc).ownBlock := fun e => by have := (HB.out.own.lt _ e.symm).2; omega
    have hne2 : some (w.heap.size + 1) ≠ (Value.slice vg m vc).ownBlock := fun e => by have := (HB.out.own.lt _ e.symm).2; omega
    have hbw := HB.out.box.lt
    have hs3 : w.heap.size + 1 < W3.drew.heap.size := X3.out.2.lt
    have Y1 := Lib.hid (X3.out.1.at_ (k := 0) (HG.out.2.2.2.2 w.heap.size (by omega) (by omega) hne1))
    have Y2 := Lib.hid (X3.out.2.at_ (k := 0) (HG.out.2.2.2.2 (w.heap.size + 1) hs3 (by omega) hne2))
    have Y3 := Lib.hid HG.out.1
    have Y4 := Lib.hid ((HB3.out.drew.mono hB).trans HG.out.2.1)
    have Y5 := Lib.hid (KeptT.trans (KeptT.of_below b HB3.out.drew) HG.out.2.2.1)
    clear HG BDD BD3 X3 HB3 a0 a1 a2 a3 a4 a5 a6 al d0 d1 dl df e0 ef el RW R1 HB4 N1 N2 hne1 hne2 hs3
    generalize w5.setCell { block := b, off := 0 } (Value.slice (some { block := g2, off := 0 }) (L.length + 1) gc) = W6 at *
    have a6 := Y1.out.cell 6
    have al := Y1.out.lt
    obtain ⟨q0, q1, q2, ql, qf⟩ := Y2.out.three
    obtain ⟨d0, d1, dl, df⟩ := Y3.out.two
    simp only [List.getElem?_cons_zero, List.getElem?_cons_succ] at a6
    have hm2 : L.length = m := HM.out
    have hm3 : m ≤ 4096 := by omega
    have wr1 : IntKind.i64.wrap ((n : Int) + (vs.length : Int)) = (n : Int) + (vs.length : Int) := IntWalk.i64_in _ ⟨by omega, by omega⟩
    go_wp2_with fail
    go_region
    have HK := Lib.hid (Y3.out.count (n + vs.length) HN.out)
    rw [show ((n + vs.length : Nat) : Int) = (n : Int) + (vs.length : Int) by omega] at HK
    have Z2 := Lib.hid (Y2.out.other (show w.heap.size + 1 ≠ b by omega) 1 (.int .i64 ((n : Int) + (vs.length : Int))))
    clear a6 al q0 q1 q2 ql qf d0 d1 dl df wr1 Y1 Y2 Y3
    generalize W6.setCell { block := b, off := 1 } (Value.int IntKind.i64 ((n : Int) + (vs.length : Int))) = W7 at *
    have HD : Hid (HpM W7.drew bB b (L ++ [(⟨arr, cls, (B, N, D, M), vs⟩, g)]) (n + vs.length) (Value.slice (some { block := g2, off := 0 }) (L.length + 1) gc)) := Lib.hid (HK.out.1.step ((Below.refl _ _).drew))
    obtain ⟨d0, d1, dl, df⟩ := HK.out.1.two
    have dl2 : w.heap.size + 1 < W7.heap.size := Z2.out.lt
    have wr2 : (L.length : Int) + 1 - 1 = (L.length : Int) := by omega
    have hm4 : (L.length : Int) ≤ 4096 := by omega
    go_wp2_with fail
    refine (at_any _ _).mono ?_
    rintro e W8 ⟨rfl, h8⟩
    obtain ⟨q0, q1, q2, ql, qf⟩ := (Z2.out.keep ((Below.refl _ _).drew.trans h8)).three
    go_wp2_with fail
    refine bodyPost_ret (v := .agg #[.int .i64 5, .int .i64 (m : Nat), .string ⟨#[]⟩]) (by simp [results, Try.results27, go_sem, q0, q1, q2]) rfl ?_
    have HS := Lib.hid (Same.sets (w.heap.size + 1) [.int .i64 5, .int .i64 (m : Nat), .string ⟨#[]⟩] 0 W8)
    have hbs : bB ≤ W7.drew.heap.size := by have : W7.drew.heap.size = W7.heap.size := rfl; omega
    have HW8 := Lib.hid (HD.out.step h8)
    have hr : some (w.heap.size + 1) ≠ (Value.slice (some { block := g2, off := 0 }) (L.length + 1) gc).ownBlock := own_ne HK.out.1.own Z2.out (by decide)
    refine ⟨by rw [HM.out], ?_, ⟨_, HW8.out.same HS.out (by omega) hr ?_⟩, KeptT.out (KeptT.trans (KeptT.trans Y5.out HK.out.2.2) (KeptT.of_below b ((Below.refl _ _).drew.trans h8))) HS.out (by omega)⟩
    · exact (((Y4.out.trans HK.out.2.1).trans ((Below.refl _ _).drew)).trans (h8.mono hbs)).trans (fill_below (w.heap.size + 1) (by omega) [.int .i64 5, .int .i64 (m : Nat), .string ⟨#[]⟩] 0 _)
    · intro y hy e
      rcases List.mem_append.1 hy with hy | hy
      · have := (HB.out.cells y hy).2.lt
        omega
      · rw [List.mem_singleton] at hy
        subst hy
        have := HY.out.1.lt
        simp at e
        omega
end Go.Proofs.Ytfkcjnlhindhfaa
