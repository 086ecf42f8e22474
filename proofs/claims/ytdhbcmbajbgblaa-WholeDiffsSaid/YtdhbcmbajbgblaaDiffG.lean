/- Contract of diff's edits: what makes one text of the other, if some stretches stay. -/
import Derived.Test.YtdhbcmbajbgblaaDiffF
import Derived.Deep.RegionLaw
import Derived.Deep.Onto
namespace Go.Proofs.Ytdhbcmbajbgblaa
open Go Go.RowKit
set_option linter.unusedVariables false

theorem step_append_d {P : Program} {ops : Array Oper} {o : Oper} {a : Act} {w : World} {K : Act → World → Prop} {Q : Exit → Act → World → Prop} {E : Prop}
    (hg : o.guard = none) (s x : Operand) (t : TypeId) (hop : o.op = Op.call { callee := Callee.builtin Builtin.append, args := #[s, x], argTypes := #[t, t] })
    (base : Nat) (e : TypeId) (i : TypeInfo) (z : Value) (size bytes : Nat) (h1 : P.underlying t = some (.slice e)) (h2 : P.info? e = some i) (h3 : i.zero = some z) (h4 : i.size = size) (h5 : i.bytes = bytes) (h6 : z.cells.size = size) (h7 : 0 < size)
    (v : Value) (n : Nat) (xs : List Value) (hs : a.eval s = v) (hown : w.ownsRow base e size v n xs)
    (ad : Addr) (m c : Nat) (news : List Value) (hx : a.eval x = .slice (some ad) m c) (hn : news.length = m * size) (hc : ∀ j u, news[j]? = some u → w.cell? (ad.add j) = some u) (h1c : ∀ u ∈ news, u.oneCell' = true)
    (b1 : n + m ≤ maxLen) (b2 : (n + m) * bytes ≤ 140737488355328) (hb : base ≤ w.heap.size)
    (hK : ∀ v' w', w'.ownsRow base e size v' (n + m) (xs ++ news) → w.grownBy w' v.ownBlock → (v' = .slice none 0 0 ↔ v = .slice none 0 0 ∧ m = 0) → K (a.put o.dst v') w') :
    if Region.wanted o (yielded ops a.tmps) = true then Oper.wp P o a w K Q else E := by
  have hw : Region.wanted o (yielded ops a.tmps) = true := by simp [Region.wanted, hg]
  rw [if_pos hw]
  obtain ⟨v', w', hrun, r1, r2, r3⟩ := run_append_own (P := P) w base t o.type e i z size bytes h1 h2 h3 h4 h5 h6 h7 v n xs hown ad m c news hn hc h1c b1 b2 hb
  unfold Oper.wp
  simp [execOp, hop, resolve, invoke, builtin, hs, hx, hrun, Result.andThen]
  exact hK v' w' r1 r2 r3

/-- the edits ahead of some stretches -/
def dGo (t : ByteArray) : Nat → Nat → List Run → List NEd
  | _, _, [] => []
  | w, i, r :: M => (if w < r.1 ∨ i < r.2.1 then [(w, r.1, t.extract i r.2.1)] else []) ++ dGo t (r.1 + r.2.2) (r.2.1 + r.2.2) M
theorem dGo_all (s t : ByteArray) : ∀ (M : List Run) (w i : Nat), dGo t w i (M ++ [(s.size, t.size, 0)]) = diffE s t w i M
  | [], w, i => by simp [dGo, diffE]
  | r :: M, w, i => by
    rw [List.cons_append, dGo, diffE, dGo_all s t M]
def endR (s t : ByteArray) (M : List Run) : List Run := M ++ [(s.size, t.size, 0)]
/-- what is known of a stretch when it is met -/
theorem rest_step (s t : ByteArray) (M : List Run) (k x y : Nat) (hk : k < M.length + 1) (h : RunOk s t x y (M.drop k)) : ∃ r, (endR s t M)[k]? = some r ∧ x ≤ r.1 ∧ y ≤ r.2.1 ∧ r.1 + r.2.2 ≤ s.size ∧ r.2.1 + r.2.2 ≤ t.size ∧
    RunOk s t (r.1 + r.2.2) (r.2.1 + r.2.2) (M.drop (k + 1)) ∧ dGo t x y ((endR s t M).drop k) = (if x < r.1 ∨ y < r.2.1 then [(x, r.1, t.extract y r.2.1)] else []) ++ dGo t (r.1 + r.2.2) (r.2.1 + r.2.2) ((endR s t M).drop (k + 1)) := by
  unfold endR
  by_cases hlt : k < M.length
  · rw [List.drop_eq_getElem_cons hlt] at h
    obtain ⟨h1, h2, h3, h4⟩ := h
    have hle := h4.le
    refine ⟨M[k], by rw [List.getElem?_append_left hlt, List.getElem?_eq_getElem hlt], h1, h2, by omega, by omega, h4, ?_⟩
    rw [List.drop_append_of_le_length (by omega), List.drop_append_of_le_length (by omega), List.drop_eq_getElem_cons hlt, List.cons_append, dGo]
  · have hke : k = M.length := by omega
    subst hke
    rw [List.drop_length] at h
    obtain ⟨h1, h2⟩ := h
    refine ⟨(s.size, t.size, 0), by rw [List.getElem?_append_right (Nat.le_refl _)]; simp, h1, h2, by simp, by simp, ?_, ?_⟩
    · rw [List.drop_of_length_le (by omega)]; exact ⟨by simp, by simp⟩
    · rw [List.drop_append_of_le_length (Nat.le_refl _), List.drop_length, List.nil_append, List.drop_of_length_le (by simp), dGo]
      rfl

theorem flatD_snoc (l : List IEd) (x : IEd) : flatE (l ++ [x]) = flatE l ++ [.int .i64 x.1, .int .i64 x.2.1, .string x.2.2] := by simp [flatE]
/-- a list of edits that grows -/
def DInv (w wr : World) (l : List IEd) (v : Value) : Prop := Below w.heap.size w wr ∧ wr.ownsRow w.heap.size 27 3 v l.length (flatE l) ∧ (l.length = 0 → v = .slice none 0 0)
theorem DInv.alloc {w wr : World} {v : Value} {l : List IEd} (h : DInv w wr l v) (o : Obj) : DInv w (wr.alloc o) l v := ⟨h.1.alloc h.1.size o, h.2.1.alloc o, h.2.2⟩
theorem DInv.drew {w wr : World} {v : Value} {l : List IEd} (h : DInv w wr l v) : DInv w wr.drew l v := ⟨h.1.drew, h.2⟩
theorem DInv.drewN {w wr : World} {v : Value} {l : List IEd} (h : DInv w wr l v) (n : Nat) : DInv w (wr.drewN n) l v := ⟨below_drewN h.1 n, h.2⟩
theorem DInv.step {w wr w2 : World} {v : Value} {l : List IEd} (h : DInv w wr l v) (hb : Below wr.heap.size wr w2) : DInv w w2 l v :=
  ⟨after h.1 hb, h.2.1.kept (grown_below (B := 0) hb) (by cases v.ownBlock <;> simp), h.2.2⟩
theorem DInv.yes {w wr w2 : World} {v v' : Value} {l : List IEd} {x : IEd} {o' : Obj} (h : DInv w wr l v)
    (hown' : w2.ownsRow w.heap.size 27 3 v' (l.length + 1) (flatE l ++ [.int .i64 x.1, .int .i64 x.2.1, .string x.2.2])) (hg : (wr.alloc o').grownBy w2 v.ownBlock) : DInv w w2 (l ++ [x]) v' := by
  obtain ⟨hbel, ho, _⟩ := h
  refine ⟨Below.grown (hbel.alloc hbel.size o') hg (by simp; have := hbel.size; omega) (fun j hj => (ho.lt j hj).1), ?_, fun h => by simp at h⟩
  rw [flatD_snoc]; simpa using hown'
theorem cell_grownD {W w3 : World} {o' : Obj} {row : Option Nat} {P j : Nat} {u : Value} (hg : (W.alloc o').grownBy w3 row) (hP : P < W.heap.size) (hne : some P ≠ row) (hu : W.cell? ⟨P, j, none⟩ = some u) : w3.cell? ⟨P, j, none⟩ = some u := by
  have h1 : w3.heap[P]? = (W.alloc o').heap[P]? := hg.block _ (by simp; omega) hne
  have h2 : (W.alloc o').cell? ⟨P, j, none⟩ = some u := by
    have hb := (Below.refl W.heap.size W).alloc (Nat.le_refl _) o'
    exact keep hb hP hu
  unfold World.cell? at h2 ⊢
  simp only [h1]
  exact h2

theorem infoEditD : (Try.prog.info? 27).map (fun i => (i.zero, i.size, i.bytes)) = some (some (.agg #[.int .i64 0, .int .i64 0, .string ⟨#[]⟩]), 3, 32) := by kernel_rfl

set_option maxRecDepth 100000 in
set_option maxHeartbeats 4000000 in
theorem diffEdits_any (s t : ByteArray) (M : List Run) (v : Value) (B : Nat) (w : World) (hB : B ≤ w.heap.size) (ho : w.ownsRow B 84 3 v M.length (flatT M)) (hM : M.length ≤ 1000) (hs : s.size ≤ 65536) (ht : t.size ≤ 65536) (hok : RunOk s t 0 0 M) :
    Calls Try.prog 20 #[.string s, .string t, v] w fun e w' => ∃ v' w2, e = .returned v' ∧ Below B w w' ∧ B ≤ w2.heap.size ∧ DInv w2 w' ((diffE s t 0 0 M).map toI) v' := by
  obtain ⟨i0, hi, hz0, hz1, hz2⟩ := info_parts infoTri
  obtain ⟨j0, hj, jz0, jz1, jz2⟩ := info_parts infoEditD
  have HO := Lib.hid ho
  have HOK := Lib.hid hok
  have HDA := Lib.hid (dGo_all s t M 0 0)
  clear ho hok
  go_enter Try.func20, Try.ntmps20
  go_wp2_with (at_builtin; refine wpList_append_own _ rfl _ _ 56 rfl B 84 i0 (.agg #[.int .i64 0, .int .i64 0, .int .i64 0]) 3 24 Try.underlying56 hi hz0 hz1 hz2 rfl (by decide) _ _ _ rfl (HO.out.alloc _) ⟨w.heap.size, 0, none⟩ 1 1 [.int .i64 (s.size : Int), .int .i64 (t.size : Int), .int .i64 0] rfl rfl ?c1 ?c2 ?c3 ?c4 ?c5 ?_)
  case c1 =>
    intro j u hj
    match j, hj with
    | 0, hj => simp at hj; subst hj; simp [Addr.add, go_sem]
    | 1, hj => simp at hj; subst hj; simp [Addr.add, go_sem]
    | 2, hj => simp at hj; subst hj; simp [Addr.add, go_sem]
  case c2 => intro u hu; simp at hu; rcases hu with rfl | rfl | rfl <;> rfl
  case c3 => unfold maxLen; omega
  case c4 => omega
  case c5 => simp; omega
  intro v1 w2 hown' hgrow _
  have hlt1 := HO.out.lt
  have B2 := Lib.hid (Below.grown ((Below.refl B w).alloc hB _) hgrow (by simp; omega) (fun j hj => (hlt1 j hj).1))
  have hBw2 : B ≤ w2.heap.size := Nat.le_trans hB (by have := hgrow.size; simp at this; omega)
  have hML : (endR s t M).length = M.length + 1 := by unfold endR; simp
  have hown2 : w2.ownsRow B 84 3 v1 (endR s t M).length (flatT (endR s t M)) := by
    rw [hML]; unfold endR; rw [flatT_snoc]; exact hown'
  obtain ⟨gv, cap, hv⟩ : ∃ gv cap, v1 = .slice (some ⟨gv, 0, none⟩) (M.length + 1) cap := by
    rcases hown'.2 with ⟨_, h0⟩ | ⟨g0, cap, cur, h0, _⟩
    · omega
    · exact ⟨g0, cap, h0⟩
  subst hv
  have hgw : gv < w2.heap.size := (hown2.lt gv rfl).2
  have HROW := Lib.hid (own_tri (by rw [hML] at hown2; exact hown2) hML)
  have HML := Lib.hid hML
  clear hown' hgrow hlt1 hML hown2
  go_wp2_with fail
  go_loopw [7, 8, 9, 21] (fun u x y i wr => ∃ (k X Y : Nat) (G : List NEd) (v : Value), k ≤ M.length + 1 ∧ i = .int .i64 k ∧ x = .int .i64 X ∧ y = .int .i64 Y ∧ u = v ∧ DInv w2 wr (G.map toI) v ∧ RunOk s t X Y (M.drop k) ∧ diffE s t 0 0 M = G ++ dGo t X Y ((endR s t M).drop k) ∧ G.length ≤ k) (fun _ _ _ i _ => M.length + 1 - (intOf i).toNat)
  case atStart => exact ⟨0, 0, 0, [], _, Nat.zero_le _, rfl, rfl, rfl, rfl, ⟨Below.refl _ _, World.ownsRow_nil _ _ _ _, fun _ => rfl⟩, HOK.out, by rw [List.drop_zero, List.nil_append]; exact HDA.out.symm, Nat.le_refl _⟩
  case round =>
    obtain ⟨k, X, Y, G, v, hk, rfl, rfl, rfl, rfl, hinv, hrok, heq, hlen⟩ := hrel
    by_cases hlt : k < M.length + 1
    · have hkl : k < (endR s t M).length := by rw [HML.out]; exact hlt
      have hsz := hinv.1.size
      have hgr := Nat.lt_of_lt_of_le hgw hsz
      obtain ⟨t0, t1, t2⟩ := HROW.out k hkl
      have c0 := keep hinv.1 hgw t0
      have c1 := keep hinv.1 hgw t1
      have c2 := keep hinv.1 hgw t2
      clear t0 t1 t2
      obtain ⟨r, hr, o1, o2, o3, o4, hrest, hstep⟩ := rest_step s t M k X Y hlt hrok
      have hrk : (endR s t M)[k] = r := by rw [List.getElem?_eq_getElem hkl] at hr; exact Option.some.inj hr
      rw [hrk] at c0 c1 c2
      have HEQ := Lib.hid heq
      have HRS := Lib.hid hrest
      have HST := Lib.hid hstep
      have HI := Lib.hid hinv
      clear hr hrk hkl hrok heq hrest hstep hinv
      obtain ⟨r1, r2, r3⟩ := r
      dsimp only at c0 c1 c2 o1 o2 o3 o4 HRS HST
      have i1 : (k : Int) < (M.length : Int) + 1 := by omega
      have NW := Lib.hid (fun j hj => (HI.out.2.1.lt j hj).2)
      have hez : (t.extract Y r2).size ≤ 281474976710656 := by rw [ByteArray.size_extract]; omega
      by_cases hq : X < r1 ∨ Y < r2
      · have HN : Hid (diffE s t 0 0 M = (G ++ [(X, r1, t.extract Y r2)]) ++ dGo t (r1 + r3) (r2 + r3) ((endR s t M).drop (k + 1))) := Lib.hid (by rw [HEQ.out, HST.out, if_pos hq, List.append_assoc])
        have HGM : Hid ((G ++ [(X, r1, t.extract Y r2)]).map toI = G.map toI ++ [((X : Int), (r1 : Int), t.extract Y r2)]) := Lib.hid (by rw [List.map_append]; rfl)
        have bl : (G.map toI).length = G.length := by simp
        by_cases hX : X < r1
        · have d1 : (X : Int) < (r1 : Int) := by omega
          clear hq HEQ HST
          go_wp2_with fail
          obtain ⟨W3, hW3⟩ : ∃ W3, W3 = wr.alloc (Obj.cells #[Value.int IntKind.i64 (r1 : Int), Value.int IntKind.i64 (r2 : Int), Value.int IntKind.i64 (r3 : Int)] 84) := ⟨_, rfl⟩
          have p0 : W3.cell? ⟨wr.heap.size, 0, none⟩ = some (.int .i64 (r1 : Int)) := by rw [hW3]; simp [go_sem]
          have p1 : W3.cell? ⟨wr.heap.size, 1, none⟩ = some (.int .i64 (r2 : Int)) := by rw [hW3]; simp [go_sem]
          have p2 : W3.cell? ⟨wr.heap.size, 2, none⟩ = some (.int .i64 (r3 : Int)) := by rw [hW3]; simp [go_sem]
          have H3 : Hid (DInv w2 W3.drew (G.map toI) u7) := Lib.hid (by rw [hW3]; exact (HI.out.alloc _).drew)
          have hP3 : wr.heap.size < W3.heap.size := by rw [hW3]; simp
          have hown : some wr.heap.size ≠ u7.ownBlock := fun e => by have := NW.out _ e.symm; omega
          have HOWN := Lib.hid hown
          rw [← hW3]
          clear hW3 c0 c1 c2 HI hown
          generalize hP : wr.heap.size = P at *
          generalize hLG : G.map toI = LG at *
          have RW : Hid (∀ W4 : World, ∀ j u, ([Value.int .i64 (X : Int), .int .i64 (r1 : Int), .string (t.extract Y r2)] : List Value)[j]? = some u → (W4.alloc (.cells #[.int .i64 (X : Int), .int .i64 (r1 : Int), .string (t.extract Y r2)] 27)).cell? ((⟨W4.heap.size, 0, none⟩ : Addr).add j) = some u) := Lib.hid (by
            intro W4 j u hj
            match j, hj with
            | 0, hj => simp at hj; subst hj; simp [Addr.add, go_sem]
            | 1, hj => simp at hj; subst hj; simp [Addr.add, go_sem]
            | 2, hj => simp at hj; subst hj; simp [Addr.add, go_sem])
          have R1 : Hid (∀ u ∈ ([Value.int .i64 (X : Int), .int .i64 (r1 : Int), .string (t.extract Y r2)] : List Value), u.oneCell' = true) := Lib.hid (by intro u hu; simp at hu; rcases hu with rfl | rfl | rfl <;> rfl)
          have N1 : Hid (LG.length + 1 ≤ maxLen) := Lib.hid (by unfold maxLen; omega)
          have N2 : Hid ((LG.length + 1) * 32 ≤ 140737488355328) := Lib.hid (by omega)
          have s1 : Y ≤ r2 := o2
          have s2 : r2 ≤ t.size := by omega
          have s3 : (Y : Int) ≤ (r2 : Int) := by omega
          have s4 : (r2 : Int) ≤ (t.size : Int) := by omega
          have LB := Lib.hid bl
          clear bl hLG
          go_region_law (first
            | (refine step_append_d rfl (.tmp 35) (.tmp 47) 22 rfl w2.heap.size 27 j0 (.agg #[.int .i64 0, .int .i64 0, .string ⟨#[]⟩]) 3 32 Try.underlying22 hj jz0 jz1 jz2 rfl (by decide) u7 LG.length (flatE LG) (by simp [Act.eval]) (H4.out.2.1.alloc _) ⟨W4.heap.size, 0, none⟩ 1 1 [.int .i64 (X : Int), .int .i64 (r1 : Int), .string (t.extract Y r2)] (by simp [Act.eval]) rfl (RW.out W4) R1.out N1.out N2.out (HB4.out _) ?_
               intro v' w5 hown' hgrow _
               have HV := Lib.hid (H4.out.yes (x := ((X : Int), (r1 : Int), t.extract Y r2)) hown' hgrow)
               have e0 := cell_grownD hgrow hP4 HOWN.out g0
               have e1 := cell_grownD hgrow hP4 HOWN.out g1
               have e2 := cell_grownD hgrow hP4 HOWN.out g2
               clear hown' hgrow)
            | (go_simp
               go_at_call 32
               refine (clone_any _ _ hez).mono ?_
               rintro e W4 ⟨rfl, h34⟩
               have H4 := Lib.hid (H3.out.step h34)
               have HB4 : Hid (∀ o : Obj, w2.heap.size ≤ (W4.alloc o).heap.size) := Lib.hid (fun o => by have := H4.out.1.size; simp; omega)
               have hP4 : P < W4.heap.size := Nat.lt_of_lt_of_le hP3 h34.size
               have g0 := keep h34 hP3 (show W3.drew.cell? ⟨P, 0, none⟩ = _ from p0)
               have g1 := keep h34 hP3 (show W3.drew.cell? ⟨P, 1, none⟩ = _ from p1)
               have g2 := keep h34 hP3 (show W3.drew.cell? ⟨P, 2, none⟩ = _ from p2)
               clear h34))
          all_goals
            clear p0 p1 p2 g0 g1 g2
            have HW : Hid (DInv w2 w5 ((G ++ [(X, r1, t.extract Y r2)]).map toI) v') := Lib.hid (by rw [HGM.out]; exact HV.out)
            have m1 : IntKind.i64.wrap ((r1 : Int) + r3) = (r1 : Int) + r3 := IntWalk.i64_in _ ⟨by omega, by omega⟩
            have m2 : IntKind.i64.wrap ((r2 : Int) + r3) = (r2 : Int) + r3 := IntWalk.i64_in _ ⟨by omega, by omega⟩
            go_wp2_with fail
            go_quiet (fail)
            go_wp2_with fail
            exact ⟨⟨k + 1, _, _, G ++ [(X, r1, t.extract Y r2)], _, by omega, by go_num, by go_num, by go_num, rfl, HW.out.drewN _, HRS.out, HN.out, by simp; omega⟩, by simp [intOf]; omega⟩
        · have d1 : ¬ (X : Int) < (r1 : Int) := by omega
          have d2 : (Y : Int) < (r2 : Int) := by omega
          clear hq HEQ HST
          go_wp2_with fail
          obtain ⟨W3, hW3⟩ : ∃ W3, W3 = wr.alloc (Obj.cells #[Value.int IntKind.i64 (r1 : Int), Value.int IntKind.i64 (r2 : Int), Value.int IntKind.i64 (r3 : Int)] 84) := ⟨_, rfl⟩
          have p0 : W3.cell? ⟨wr.heap.size, 0, none⟩ = some (.int .i64 (r1 : Int)) := by rw [hW3]; simp [go_sem]
          have p1 : W3.cell? ⟨wr.heap.size, 1, none⟩ = some (.int .i64 (r2 : Int)) := by rw [hW3]; simp [go_sem]
          have p2 : W3.cell? ⟨wr.heap.size, 2, none⟩ = some (.int .i64 (r3 : Int)) := by rw [hW3]; simp [go_sem]
          have H3 : Hid (DInv w2 W3.drew (G.map toI) u7) := Lib.hid (by rw [hW3]; exact (HI.out.alloc _).drew)
          have hP3 : wr.heap.size < W3.heap.size := by rw [hW3]; simp
          have hown : some wr.heap.size ≠ u7.ownBlock := fun e => by have := NW.out _ e.symm; omega
          have HOWN := Lib.hid hown
          rw [← hW3]
          clear hW3 c0 c1 c2 HI hown
          generalize hP : wr.heap.size = P at *
          generalize hLG : G.map toI = LG at *
          have RW : Hid (∀ W4 : World, ∀ j u, ([Value.int .i64 (X : Int), .int .i64 (r1 : Int), .string (t.extract Y r2)] : List Value)[j]? = some u → (W4.alloc (.cells #[.int .i64 (X : Int), .int .i64 (r1 : Int), .string (t.extract Y r2)] 27)).cell? ((⟨W4.heap.size, 0, none⟩ : Addr).add j) = some u) := Lib.hid (by
            intro W4 j u hj
            match j, hj with
            | 0, hj => simp at hj; subst hj; simp [Addr.add, go_sem]
            | 1, hj => simp at hj; subst hj; simp [Addr.add, go_sem]
            | 2, hj => simp at hj; subst hj; simp [Addr.add, go_sem])
          have R1 : Hid (∀ u ∈ ([Value.int .i64 (X : Int), .int .i64 (r1 : Int), .string (t.extract Y r2)] : List Value), u.oneCell' = true) := Lib.hid (by intro u hu; simp at hu; rcases hu with rfl | rfl | rfl <;> rfl)
          have N1 : Hid (LG.length + 1 ≤ maxLen) := Lib.hid (by unfold maxLen; omega)
          have N2 : Hid ((LG.length + 1) * 32 ≤ 140737488355328) := Lib.hid (by omega)
          have s1 : Y ≤ r2 := o2
          have s2 : r2 ≤ t.size := by omega
          have s3 : (Y : Int) ≤ (r2 : Int) := by omega
          have s4 : (r2 : Int) ≤ (t.size : Int) := by omega
          have LB := Lib.hid bl
          clear bl hLG
          go_region_law (first
            | (refine step_append_d rfl (.tmp 35) (.tmp 47) 22 rfl w2.heap.size 27 j0 (.agg #[.int .i64 0, .int .i64 0, .string ⟨#[]⟩]) 3 32 Try.underlying22 hj jz0 jz1 jz2 rfl (by decide) u7 LG.length (flatE LG) (by simp [Act.eval]) (H4.out.2.1.alloc _) ⟨W4.heap.size, 0, none⟩ 1 1 [.int .i64 (X : Int), .int .i64 (r1 : Int), .string (t.extract Y r2)] (by simp [Act.eval]) rfl (RW.out W4) R1.out N1.out N2.out (HB4.out _) ?_
               intro v' w5 hown' hgrow _
               have HV := Lib.hid (H4.out.yes (x := ((X : Int), (r1 : Int), t.extract Y r2)) hown' hgrow)
               have e0 := cell_grownD hgrow hP4 HOWN.out g0
               have e1 := cell_grownD hgrow hP4 HOWN.out g1
               have e2 := cell_grownD hgrow hP4 HOWN.out g2
               clear hown' hgrow)
            | (go_simp
               go_at_call 32
               refine (clone_any _ _ hez).mono ?_
               rintro e W4 ⟨rfl, h34⟩
               have H4 := Lib.hid (H3.out.step h34)
               have HB4 : Hid (∀ o : Obj, w2.heap.size ≤ (W4.alloc o).heap.size) := Lib.hid (fun o => by have := H4.out.1.size; simp; omega)
               have hP4 : P < W4.heap.size := Nat.lt_of_lt_of_le hP3 h34.size
               have g0 := keep h34 hP3 (show W3.drew.cell? ⟨P, 0, none⟩ = _ from p0)
               have g1 := keep h34 hP3 (show W3.drew.cell? ⟨P, 1, none⟩ = _ from p1)
               have g2 := keep h34 hP3 (show W3.drew.cell? ⟨P, 2, none⟩ = _ from p2)
               clear h34))
          all_goals
            clear p0 p1 p2 g0 g1 g2
            have HW : Hid (DInv w2 w5 ((G ++ [(X, r1, t.extract Y r2)]).map toI) v') := Lib.hid (by rw [HGM.out]; exact HV.out)
            have m1 : IntKind.i64.wrap ((r1 : Int) + r3) = (r1 : Int) + r3 := IntWalk.i64_in _ ⟨by omega, by omega⟩
            have m2 : IntKind.i64.wrap ((r2 : Int) + r3) = (r2 : Int) + r3 := IntWalk.i64_in _ ⟨by omega, by omega⟩
            go_wp2_with fail
            go_quiet (fail)
            go_wp2_with fail
            exact ⟨⟨k + 1, _, _, G ++ [(X, r1, t.extract Y r2)], _, by omega, by go_num, by go_num, by go_num, rfl, HW.out.drewN _, HRS.out, HN.out, by simp; omega⟩, by simp [intOf]; omega⟩
      · have d1 : ¬ (X : Int) < (r1 : Int) := by omega
        have d2 : ¬ (Y : Int) < (r2 : Int) := by omega
        have HN : Hid (diffE s t 0 0 M = G ++ dGo t (r1 + r3) (r2 + r3) ((endR s t M).drop (k + 1))) := Lib.hid (by rw [HEQ.out, HST.out, if_neg hq, List.nil_append])
        clear hq
        have m1 : IntKind.i64.wrap ((r1 : Int) + r3) = (r1 : Int) + r3 := IntWalk.i64_in _ ⟨by omega, by omega⟩
        have m2 : IntKind.i64.wrap ((r2 : Int) + r3) = (r2 : Int) + r3 := IntWalk.i64_in _ ⟨by omega, by omega⟩
        clear HEQ HST
        go_wp2_with fail
        go_quiet (fail)
        go_wp2_with fail
        exact ⟨⟨k + 1, _, _, G, _, by omega, by go_num, by go_num, by go_num, rfl, (HI.out.alloc _).drewN _, HRS.out, HN.out, by omega⟩, by simp [intOf]; omega⟩
    · have hk' : k = M.length + 1 := by omega
      subst hk'
      have HF : Hid (DInv w2 wr ((diffE s t 0 0 M).map toI) u7) := Lib.hid (by
        rw [List.drop_of_length_le (by rw [HML.out]; exact Nat.le_refl _)] at heq
        rw [heq]; simpa [dGo] using hinv)
      have BF := Lib.hid (B2.out.trans (hinv.1.mono hBw2))
      clear hinv heq hrok
      go_wp2_with fail
      go_ret
      exact ⟨_, w2, rfl, BF.out, hBw2, HF.out⟩

end Go.Proofs.Ytdhbcmbajbgblaa
