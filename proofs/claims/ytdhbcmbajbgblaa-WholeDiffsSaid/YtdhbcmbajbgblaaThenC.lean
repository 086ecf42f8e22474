/- Contract of between: the edits that change all but what stays. -/
import Derived.Test.YtdhbcmbajbgblaaThenB
import Derived.Test.YtdhbcmbajbgblaaEdLimits
import Derived.Deep.RegionLaw
import Derived.Deep.Onto
namespace Go.Proofs.Ytdhbcmbajbgblaa
open Go Go.RowKit
set_option linter.unusedVariables false

theorem step_append_own {P : Program} {ops : Array Oper} {o : Oper} {a : Act} {w : World} {K : Act → World → Prop} {Q : Exit → Act → World → Prop} {E : Prop}
    (hg : o.guard = none) (s x : Operand) (t : TypeId) (hop : o.op = Op.call { callee := Callee.builtin Builtin.append, args := #[s, x], argTypes := #[t, t] })
    (base : Nat) (e : TypeId) (i : TypeInfo) (z : Value) (size bytes : Nat) (h1 : P.underlying t = some (.slice e)) (h2 : P.info? e = some i) (h3 : i.zero = some z) (h4 : i.size = size) (h5 : i.bytes = bytes) (h6 : z.cells.size = size) (h7 : 0 < size)
    (v : Value) (n : Nat) (xs : List Value) (hs : a.eval s = v) (hown : w.ownsRow base e size v n xs)
    (ad : Addr) (m c : Nat) (news : List Value) (hx : a.eval x = .slice (some ad) m c) (hn : news.length = m * size) (hc : ∀ j u, news[j]? = some u → w.cell? (ad.add j) = some u) (h1c : ∀ u ∈ news, u.oneCell' = true)
    (b1 : n + m ≤ maxLen) (b2 : (n + m) * bytes ≤ 140737488355328) (hb : base ≤ w.heap.size)
    (hK : ∀ v' w', w'.ownsRow base e size v' (n + m) (xs ++ news) → w.grownBy w' v.ownBlock → K (a.put o.dst v') w') :
    if Region.wanted o (yielded ops a.tmps) = true then Oper.wp P o a w K Q else E := by
  have hw : Region.wanted o (yielded ops a.tmps) = true := by simp [Region.wanted, hg]
  rw [if_pos hw]
  obtain ⟨v', w', hrun, r1, r2, _⟩ := run_append_own (P := P) w base t o.type e i z size bytes h1 h2 h3 h4 h5 h6 h7 v n xs hown ad m c news hn hc h1c b1 b2 hb
  unfold Oper.wp
  simp [execOp, hop, resolve, invoke, builtin, hs, hx, hrun, Result.andThen]
  exact hK v' w' r1 r2

abbrev noR : Run := (0, 0, 0)
/-- where the first k runs end -/
def wasK (M : List Run) : Nat → Nat
  | 0 => 0
  | k + 1 => (M.getD k noR).1 + (M.getD k noR).2.2
def isK (M : List Run) : Nat → Nat
  | 0 => 0
  | k + 1 => (M.getD k noR).2.1 + (M.getD k noR).2.2
/-- the edits ahead of the first k -/
def betwK (t : ByteArray) (M : List Run) : Nat → List NEd
  | 0 => []
  | k + 1 => betwK t M k ++ [(wasK M k, (M.getD k noR).1, t.extract (isK M k) (M.getD k noR).2.1)]
theorem betwK_len (t : ByteArray) (M : List Run) : ∀ k, (betwK t M k).length = k
  | 0 => rfl
  | k + 1 => by simp [betwK, betwK_len t M k]
theorem getR_left {M : List Run} {r : Run} {k : Nat} (h : k < M.length) : (M ++ [r]).getD k noR = M.getD k noR := by
  rw [List.getD_eq_getElem?_getD, List.getD_eq_getElem?_getD, List.getElem?_append_left h]
theorem getR_mid (M : List Run) (r : Run) : (M ++ [r]).getD M.length noR = r := by
  rw [List.getD_eq_getElem?_getD]; simp
theorem betwK_betw (s t : ByteArray) (M : List Run) : ∀ k, k ≤ M.length →
    betwK t (M ++ [(s.size, t.size, 0)]) k ++ betw s t (wasK (M ++ [(s.size, t.size, 0)]) k) (isK (M ++ [(s.size, t.size, 0)]) k) (M.drop k) = betw s t 0 0 M := by
  intro k
  induction k with
  | zero => intro _; simp [betwK, wasK, isK]
  | succ k ih =>
    intro h
    have := ih (by omega)
    rw [List.drop_eq_getElem_cons (show k < M.length by omega)] at this
    simp only [betw] at this
    rw [← this]
    have hg : (M ++ [(s.size, t.size, 0)]).getD k noR = M[k] := by
      rw [getR_left (by omega), List.getD_eq_getElem?_getD, List.getElem?_eq_getElem (show k < M.length by omega)]; rfl
    simp only [betwK, wasK, isK, hg, List.append_assoc, List.singleton_append]
theorem betwK_all (s t : ByteArray) (M : List Run) : betwK t (M ++ [(s.size, t.size, 0)]) (M.length + 1) = betw s t 0 0 M := by
  have := betwK_betw s t M M.length (Nat.le_refl _)
  rw [List.drop_length] at this
  simp only [betw] at this
  rw [← this, betwK, getR_mid]

theorem InInv.alloc {w wr : World} {v : Value} {l : List IEd} (h : InInv w wr l v) (o : Obj) : InInv w (wr.alloc o) l v := ⟨h.1.alloc h.1.size o, h.2.alloc o⟩
theorem InInv.drew {w wr : World} {v : Value} {l : List IEd} (h : InInv w wr l v) : InInv w wr.drew l v := ⟨h.1.drew, h.2⟩
theorem InInv.drewN {w wr : World} {v : Value} {l : List IEd} (h : InInv w wr l v) (n : Nat) : InInv w (wr.drewN n) l v := ⟨below_drewN h.1 n, h.2⟩
theorem InInv.step {w wr w2 : World} {v : Value} {l : List IEd} (h : InInv w wr l v) (hb : Below wr.heap.size wr w2) : InInv w w2 l v :=
  ⟨h.1.trans (hb.mono h.1.size), h.2.kept (row := none) ⟨hb.os, hb.tape, hb.output, hb.size, fun k hk _ => hb.block k hk⟩ (by cases v.ownBlock <;> simp)⟩
theorem runs_at (s t : ByteArray) : ∀ (M : List Run) (w i : Nat), RunOk s t w i M → ∀ k, k ≤ M.length →
    (if k = 0 then i else isK (M ++ [(s.size, t.size, 0)]) k) ≤ ((M ++ [(s.size, t.size, 0)]).getD k noR).2.1 ∧ ((M ++ [(s.size, t.size, 0)]).getD k noR).2.1 + ((M ++ [(s.size, t.size, 0)]).getD k noR).2.2 ≤ t.size ∧ ((M ++ [(s.size, t.size, 0)]).getD k noR).1 + ((M ++ [(s.size, t.size, 0)]).getD k noR).2.2 ≤ s.size
  | [], w, i, h, k, hk => by
    have hk0 : k = 0 := by simpa using hk
    subst hk0
    simp
    exact h.2
  | r :: M, w, i, h, k, hk => by
    obtain ⟨h1, h2, h3, h4⟩ := h
    have hle := h4.le
    cases k with
    | zero => simp; omega
    | succ k =>
      have := runs_at s t M _ _ h4 k (by simpa using hk)
      rw [if_neg (by omega)]
      have e : ∀ j, ((r :: M) ++ [(s.size, t.size, 0)]).getD (j + 1) noR = (M ++ [(s.size, t.size, 0)]).getD j noR := fun j => by simp
      rw [e]
      cases k with
      | zero => simpa [isK] using this
      | succ j =>
        rw [if_neg (by omega)] at this
        simp only [isK] at this ⊢
        rw [e]; exact this

set_option maxRecDepth 100000 in
set_option maxHeartbeats 4000000 in
theorem ebetween_any (s t : ByteArray) (M : List Run) (v : Value) (B : Nat) (w : World) (hB : B ≤ w.heap.size) (ho : w.ownsRow B 91 3 v M.length (flatR M)) (hM : M.length ≤ 10000) (hs : s.size ≤ 65536) (ht : t.size ≤ 65536) (hok : RunOk s t 0 0 M) :
    Calls Try.prog 26 #[.string s, .string t, v] w fun e w' => ∃ v', e = .returned v' ∧ Below B w w' ∧ w'.ownsRow B 27 3 v' (M.length + 1) (flatE ((betw s t 0 0 M).map toI)) := by
  obtain ⟨i0, hi, hz0, hz1, hz2⟩ := info_parts infoRun
  obtain ⟨j0, hj, jz0, jz1, jz2⟩ := info_parts infoEdit
  have HO := Lib.hid ho
  have RA := Lib.hid (runs_at s t M 0 0 hok)
  have ALL := Lib.hid (betwK_all s t M)
  have FL : Hid (flatR M ++ [.int .i64 (s.size : Nat), .int .i64 (t.size : Nat), .int .i64 0] = flatR (M ++ [(s.size, t.size, 0)])) := Lib.hid (by rw [flatR_snoc]; rfl)
  obtain ⟨m, hm⟩ : ∃ m, m = M.length := ⟨_, rfl⟩
  have HML : Hid ((M ++ [(s.size, t.size, 0)]).length = m + 1) := Lib.hid (by simp [hm])
  rw [← hm] at HO RA ALL hM
  rw [← hm]
  generalize M ++ [(s.size, t.size, 0)] = M' at *
  generalize betw s t 0 0 M = RES at *
  generalize flatR M = FM at *
  clear ho hok hm
  go_enter Try.func26, Try.ntmps26
  go_wp2_with (at_builtin; refine wpList_append_own _ rfl _ _ 58 rfl B 91 i0 (.agg #[.int .i64 0, .int .i64 0, .int .i64 0]) 3 24 Try.underlying58 hi hz0 hz1 hz2 rfl (by decide) _ _ _ rfl (HO.out.alloc _) ⟨w.heap.size, 0, none⟩ 1 1 [.int .i64 (s.size : Nat), .int .i64 (t.size : Nat), .int .i64 0] rfl rfl ?c1 ?c2 ?c3 ?c4 ?c5 ?_)
  case c1 =>
    intro j u hj
    match j, hj with
    | 0, hj => simp at hj; subst hj; simp [Addr.add, go_sem]
    | 1, hj => simp at hj; subst hj; simp [Addr.add, go_sem]
    | 2, hj => simp at hj; subst hj; simp [Addr.add, go_sem]
  case c2 => intro u hu; simp at hu; rcases hu with rfl | rfl | rfl <;> rfl
  case c3 => unfold maxLen; omega
  case c4 => omega
  case c5 => simp; omega
  intro v1 w2 hown1 hgrow1 _
  have B2 : Hid (Below B w w2) := Lib.hid (Below.grown ((Below.refl B w).alloc hB _) hgrow1 (by simp; omega) (fun j hj => (HO.out.lt j hj).1))
  rw [FL.out] at hown1
  rcases hown1.2 with ⟨_, q⟩ | ⟨g, cap, cur, rfl, q2, q3, q4, q5, q6⟩
  · omega
  have hgw : g < w2.heap.size := (hown1.lt g rfl).2
  have HC := Lib.hid (hown1.cells (g := g) rfl)
  have HROW : Hid (RunAt w2 g 0 M') := Lib.hid (fun i hi => by
    obtain ⟨f0, f1, f2⟩ := flatR_get M' i hi
    have c0 := HC.out _ _ f0
    have c1 := HC.out _ _ f1
    have c2 := HC.out _ _ f2
    rw [add_at, Nat.zero_add] at c0 c1 c2
    rw [Nat.zero_add]
    exact ⟨c0, c1, c2⟩)
  have hB2 := B2.out.size
  clear hown1 hgrow1 HC q2 q3 q6 FL HO
  unfold maxLen at q5
  go_wp2_with fail
  go_loopw [7, 8, 9, 21] (fun u a_ b_ i wr => ∃ (k : Nat) (v : Value), k ≤ m + 1 ∧ i = .int .i64 k ∧ a_ = .int .i64 (wasK M' k : Nat) ∧ b_ = .int .i64 (isK M' k : Nat) ∧ u = v ∧ InInv w2 wr ((betwK t M' k).map toI) v) (fun _ _ _ i _ => m + 1 - (intOf i).toNat)
  case atStart => exact ⟨0, _, Nat.zero_le _, rfl, rfl, rfl, rfl, Below.refl _ _, rfl, .inl ⟨rfl, rfl⟩⟩
  case round =>
    obtain ⟨k, v, hk, rfl, rfl, rfl, rfl, hinv⟩ := hrel
    by_cases hlt : k < m + 1
    · have hkl : k < M'.length := by rw [HML.out]; exact hlt
      have hsz := hinv.1.size
      have hgr := Nat.lt_of_lt_of_le hgw hsz
      obtain ⟨c0, c1, c2⟩ := (HROW.out.below hinv.1 hgw) k hkl
      rw [Nat.zero_add] at c0 c1 c2
      obtain ⟨o1, o2, o3⟩ := RA.out k (by omega)
      have hgd : M'.getD k noR = M'[k] := by rw [List.getD_eq_getElem?_getD, List.getElem?_eq_getElem hkl]; rfl
      have o1' : isK M' k ≤ M'[k].2.1 := by
        rw [hgd] at o1
        cases k with
        | zero => exact Nat.zero_le _
        | succ k => rwa [if_neg (by omega)] at o1
      rw [hgd] at o2 o3
      have WS : Hid (wasK M' (k + 1) = M'[k].1 + M'[k].2.2) := Lib.hid (by rw [← hgd]; rfl)
      have IS : Hid (isK M' (k + 1) = M'[k].2.1 + M'[k].2.2) := Lib.hid (by rw [← hgd]; rfl)
      have BK : Hid (betwK t M' (k + 1) = betwK t M' k ++ [(wasK M' k, M'[k].1, t.extract (isK M' k) M'[k].2.1)]) := Lib.hid (by rw [← hgd]; rfl)
      have bl : ((betwK t M' k).map toI).length = k := by simp [betwK_len]
      have HI := Lib.hid hinv
      clear o1 hgd hinv
      revert c0 c1 c2 o1' o2 o3 WS IS BK
      generalize M'[k] = x
      obtain ⟨r1, r2, r3⟩ := x
      intro c0 c1 c2 o2 o3 o1' WS IS BK
      dsimp only at c0 c1 c2 o1' o2 o3 WS IS BK
      generalize wasK M' k = a at *
      generalize isK M' k = b at *
      generalize hG : (betwK t M' k).map toI = G at *
      have HG := Lib.hid hG
      clear hkl hG
      have hez : (t.extract b r2).size ≤ 281474976710656 := by rw [ByteArray.size_extract]; omega
      have NW := Lib.hid (fun j hj => (HI.out.2.lt j hj).2)
      go_wp2_with fail
      obtain ⟨W3, hW3⟩ : ∃ W3, W3 = wr.alloc (Obj.cells #[Value.int IntKind.i64 (r1 : Int), Value.int IntKind.i64 (r2 : Int), Value.int IntKind.i64 (r3 : Int)] 91) := ⟨_, rfl⟩
      have p0 : W3.cell? ⟨wr.heap.size, 0, none⟩ = some (.int .i64 (r1 : Int)) := by rw [hW3]; simp [go_sem]
      have p1 : W3.cell? ⟨wr.heap.size, 1, none⟩ = some (.int .i64 (r2 : Int)) := by rw [hW3]; simp [go_sem]
      have p2 : W3.cell? ⟨wr.heap.size, 2, none⟩ = some (.int .i64 (r3 : Int)) := by rw [hW3]; simp [go_sem]
      have H3 : Hid (InInv w2 W3.drew G u7) := Lib.hid (by rw [hW3]; exact (HI.out.alloc _).drew)
      have hP3 : wr.heap.size < W3.heap.size := by rw [hW3]; simp
      have hown : some wr.heap.size ≠ u7.ownBlock := fun e => by have := NW.out _ e.symm; omega
      have HOWN := Lib.hid hown
      rw [← hW3]
      clear hW3 c0 c1 c2 HI hown
      generalize hP : wr.heap.size = P at *
      have RW : Hid (∀ W4 : World, ∀ j u, ([Value.int .i64 (a : Int), .int .i64 (r1 : Int), .string (t.extract b r2)] : List Value)[j]? = some u → (W4.alloc (.cells #[.int .i64 (a : Int), .int .i64 (r1 : Int), .string (t.extract b r2)] 27)).cell? ((⟨W4.heap.size, 0, none⟩ : Addr).add j) = some u) := Lib.hid (by
        intro W4 j u hj
        match j, hj with
        | 0, hj => simp at hj; subst hj; simp [Addr.add, go_sem]
        | 1, hj => simp at hj; subst hj; simp [Addr.add, go_sem]
        | 2, hj => simp at hj; subst hj; simp [Addr.add, go_sem])
      have R1 : Hid (∀ u ∈ ([Value.int .i64 (a : Int), .int .i64 (r1 : Int), .string (t.extract b r2)] : List Value), u.oneCell' = true) := Lib.hid (by intro u hu; simp at hu; rcases hu with rfl | rfl | rfl <;> rfl)
      have N1 : Hid (G.length + 1 ≤ maxLen) := Lib.hid (by unfold maxLen; omega)
      have N2 : Hid ((G.length + 1) * 32 ≤ 140737488355328) := Lib.hid (by omega)
      have s1 : b ≤ r2 := o1'
      have s2 : r2 ≤ t.size := by omega
      have s3 : (b : Int) ≤ (r2 : Int) := by omega
      have s4 : (r2 : Int) ≤ (t.size : Int) := by omega
      go_region_law (first
        | (refine step_append_own rfl (.tmp 25) (.tmp 37) 22 rfl w2.heap.size 27 j0 (.agg #[.int .i64 0, .int .i64 0, .string ⟨#[]⟩]) 3 32 Try.underlying22 hj jz0 jz1 jz2 rfl (by decide) u7 G.length (flatE G) (by simp [Act.eval]) (H4.out.2.alloc _) ⟨W4.heap.size, 0, none⟩ 1 1 [.int .i64 (a : Int), .int .i64 (r1 : Int), .string (t.extract b r2)] (by simp [Act.eval]) rfl (RW.out W4) R1.out N1.out N2.out (HB4.out _) ?_
           intro v' w5 hown' hgrow
           have HV := Lib.hid (H4.out.yes (x := ((a : Int), (r1 : Int), t.extract b r2)) hown' hgrow)
           have e0 := cell_grown hgrow hP4 HOWN.out g0
           have e1 := cell_grown hgrow hP4 HOWN.out g1
           have e2 := cell_grown hgrow hP4 HOWN.out g2
           clear hown' hgrow)
        | (go_simp
           go_at_call 32
           refine (clone_any _ _ hez).mono ?_
           rintro e W4 ⟨rfl, h34⟩
           have H4 := Lib.hid (H3.out.step h34)
           have HB4 : Hid (∀ o : Obj, w2.heap.size ≤ (W4.alloc o).heap.size) := Lib.hid (fun o => by have := H4.out.1.size; simp; omega)
           have hP4 : P < W4.heap.size := Nat.lt_of_lt_of_le hP3 h34.size
           have g0 := keep h34 hP3 (show W3.drew.cell? ⟨P, 0, none⟩ = _ from p0)
           have g1 := keep h34 hP3 (show W3.drew.cell? ⟨P, 1, none⟩ = _ from p1)
           have g2 := keep h34 hP3 (show W3.drew.cell? ⟨P, 2, none⟩ = _ from p2)
           clear h34))
      all_goals
        clear p0 p1 p2 g0 g1 g2
        have HW : Hid (InInv w2 w5 ((betwK t M' (k + 1)).map toI) v') := Lib.hid (by rw [BK.out, List.map_append, HG.out]; exact HV.out)
        have m1 : IntKind.i64.wrap ((r1 : Int) + r3) = (r1 : Int) + r3 := IntWalk.i64_in _ ⟨by omega, by omega⟩
        have m2 : IntKind.i64.wrap ((r2 : Int) + r3) = (r2 : Int) + r3 := IntWalk.i64_in _ ⟨by omega, by omega⟩
        go_wp2_with fail
        go_quiet (fail)
        go_wp2_with fail
        exact ⟨⟨k + 1, _, by omega, by go_num, by rw [WS.out]; go_num, by rw [IS.out]; go_num, rfl, HW.out.drewN _⟩, by simp [intOf]; omega⟩
    · have hk' : k = m + 1 := by omega
      subst hk'
      have HF : Hid (wr.ownsRow B 27 3 u7 (m + 1) (flatE (RES.map toI))) := Lib.hid (by
        have := hinv.2
        have bl : ((betwK t M' (m + 1)).map toI).length = m + 1 := by simp [betwK_len]
        rw [bl, ALL.out] at this
        exact this.mono (by omega))
      have BF := Lib.hid (B2.out.trans (hinv.1.mono (by omega)))
      clear hinv
      go_wp2_with fail
      go_ret
      exact ⟨_, rfl, BF.out, HF.out⟩

end Go.Proofs.Ytdhbcmbajbgblaa
