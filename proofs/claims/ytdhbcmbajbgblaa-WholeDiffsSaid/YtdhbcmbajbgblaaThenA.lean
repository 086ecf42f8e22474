/- Contract of kept: what edits leave of a text. -/
import Derived.Test.YtdhbcmbajbgblaaEditN
import Derived.Test.YtdhbcmbajbgblaaThenFacts
import Derived.OneCell
namespace Go.Proofs.Ytdhbcmbajbgblaa
open Go Go.RowKit
set_option linter.unusedVariables false

theorem infoRun : (Try.prog.info? 91).map (fun i => (i.zero, i.size, i.bytes)) = some (some (.agg #[.int .i64 0, .int .i64 0, .int .i64 0]), 3, 24) := by kernel_rfl
def flatR (l : List Run) : List Value := l.flatMap fun x => [.int .i64 (x.1 : Nat), .int .i64 (x.2.1 : Nat), .int .i64 (x.2.2 : Nat)]
theorem flatR_snoc (l : List Run) (x : Run) : flatR (l ++ [x]) = flatR l ++ [.int .i64 (x.1 : Nat), .int .i64 (x.2.1 : Nat), .int .i64 (x.2.2 : Nat)] := by simp [flatR]
theorem flatR_get (l : List Run) : ∀ i (h : i < l.length), (flatR l)[i * 3]? = some (.int .i64 (l[i].1 : Nat)) ∧ (flatR l)[i * 3 + 1]? = some (.int .i64 (l[i].2.1 : Nat)) ∧ (flatR l)[i * 3 + 2]? = some (.int .i64 (l[i].2.2 : Nat)) := by
  induction l with
  | nil => intro i h; exact absurd h (by simp)
  | cons x l ih =>
    intro i h
    have e : flatR (x :: l) = .int .i64 (x.1 : Nat) :: .int .i64 (x.2.1 : Nat) :: .int .i64 (x.2.2 : Nat) :: flatR l := by simp [flatR]
    rw [e]
    cases i with
    | zero => simp
    | succ i =>
      have := ih i (by simpa using h)
      rw [show (i + 1) * 3 = i * 3 + 3 by omega, show i * 3 + 3 + 1 = (i * 3 + 1) + 3 by omega, show i * 3 + 3 + 2 = (i * 3 + 2) + 3 by omega]
      simpa using this

/-- some runs in memory -/
def RunAt (w : World) (b off : Nat) (l : List Run) : Prop :=
  ∀ i (h : i < l.length), w.cell? ⟨b, off + i * 3, none⟩ = some (.int .i64 (l[i].1 : Nat)) ∧ w.cell? ⟨b, off + i * 3 + 1, none⟩ = some (.int .i64 (l[i].2.1 : Nat)) ∧ w.cell? ⟨b, off + i * 3 + 2, none⟩ = some (.int .i64 (l[i].2.2 : Nat))
theorem RunAt.below {w w' : World} {B b off : Nat} {l : List Run} (h : RunAt w b off l) (hb : Below B w w') (hB : b < B) : RunAt w' b off l := fun i hi =>
  ⟨(hb.cell (p := ⟨b, off + i * 3, none⟩) hB).trans (h i hi).1, (hb.cell (p := ⟨b, off + i * 3 + 1, none⟩) hB).trans (h i hi).2.1, (hb.cell (p := ⟨b, off + i * 3 + 2, none⟩) hB).trans (h i hi).2.2⟩
/-- a list of runs that grows -/
def RnInv (w wr : World) (l : List Run) (v : Value) : Prop :=
  Below w.heap.size w wr ∧ wr.ownsRow w.heap.size 91 3 v l.length (flatR l)
theorem RnInv.alloc {w wr : World} {v : Value} {l : List Run} (h : RnInv w wr l v) (o : Obj) : RnInv w (wr.alloc o) l v := ⟨h.1.alloc h.1.size o, h.2.alloc o⟩
theorem RnInv.step {w wr w2 : World} {v : Value} {l : List Run} (h : RnInv w wr l v) (hb : Below wr.heap.size wr w2) : RnInv w w2 l v :=
  ⟨h.1.trans (hb.mono h.1.size), h.2.kept (row := none) ⟨hb.os, hb.tape, hb.output, hb.size, fun k hk _ => hb.block k hk⟩ (by cases v.ownBlock <;> simp)⟩
theorem RnInv.yes {w wr w2 : World} {v v' : Value} {l : List Run} {x : Run} {o o' : Obj} (h : RnInv w wr l v)
    (hown' : w2.ownsRow w.heap.size 91 3 v' (l.length + 1) (flatR l ++ [.int .i64 (x.1 : Nat), .int .i64 (x.2.1 : Nat), .int .i64 (x.2.2 : Nat)])) (hg : ((wr.alloc o).alloc o').grownBy w2 v.ownBlock) : RnInv w w2 (l ++ [x]) v' := by
  obtain ⟨hbel, ho⟩ := h
  refine ⟨Below.grown ((hbel.alloc hbel.size o).alloc (by have := hbel.size; simp; omega) o') hg (by simp; have := hbel.size; omega) (fun j hj => (ho.lt j hj).1), ?_⟩
  rw [flatR_snoc]; simpa using hown'
theorem RnInv.box {w wr w2 : World} {v : Value} {l : List Run} {o o' : Obj} (h : RnInv w wr l v)
    (hg : ((wr.alloc o).alloc o').grownBy w2 v.ownBlock) {j : Nat} {u : Value} (hu : (wr.alloc o).cell? ⟨wr.heap.size, j, none⟩ = some u) : w2.cell? ⟨wr.heap.size, j, none⟩ = some u := by
  obtain ⟨hbel, ho⟩ := h
  have h1 : w2.heap[wr.heap.size]? = ((wr.alloc o).alloc o').heap[wr.heap.size]? := hg.block _ (by simp; omega) (fun e => by
    have := (ho.lt _ e.symm).2; omega)
  have h2 : ((wr.alloc o).alloc o').cell? ⟨wr.heap.size, j, none⟩ = some u := by
    have hb := (Below.refl (wr.alloc o).heap.size (wr.alloc o)).alloc (Nat.le_refl _) o'
    exact keep hb (by simp) hu
  unfold World.cell? at h2 ⊢
  simp only [h1]
  exact h2
/-- a list of runs, nil or in memory -/
def RunsIn (w : World) (v : Value) (l : List Run) : Prop := ∃ src cap, v = .slice src l.length cap ∧ l.length ≤ cap ∧ cap ≤ maxLen ∧ (0 < l.length → ∃ b off, src = some ⟨b, off, none⟩ ∧ b < w.heap.size ∧ RunAt w b off l)
theorem RnInv.in {w wr : World} {l : List Run} {v : Value} (h : RnInv w wr l v) : RunsIn wr v l := by
  obtain ⟨h1, h2⟩ := h
  rcases h2.2 with ⟨q1, q2⟩ | ⟨b, cap, cur, q1, q2⟩
  · exact ⟨none, 0, by rw [q1, q2], by omega, by unfold maxLen; omega, fun h0 => by omega⟩
  · refine ⟨some ⟨b, 0, none⟩, cap, q1, q2.2.2.1, q2.2.2.2.1, fun h0 => ⟨b, 0, rfl, (h2.lt b (by rw [q1]; rfl)).2, fun i hi => ?_⟩⟩
    have hc := h2.cells (g := b) (by rw [q1]; rfl)
    obtain ⟨f0, f1, f2⟩ := flatR_get l i hi
    have c0 := hc _ _ f0
    have c1 := hc _ _ f1
    have c2 := hc _ _ f2
    rw [add_at, Nat.zero_add] at c0 c1 c2
    rw [Nat.zero_add]
    exact ⟨c0, c1, c2⟩
theorem RunsIn.step {w w' : World} {v : Value} {l : List Run} (h : RunsIn w v l) (hb : Below w.heap.size w w') : RunsIn w' v l := by
  obtain ⟨src, cap, h1, h3, h4, h2⟩ := h
  refine ⟨src, cap, h1, h3, h4, fun h0 => ?_⟩
  obtain ⟨b, off, q1, q2, q3⟩ := h2 h0
  exact ⟨b, off, q1, Nat.lt_of_lt_of_le q2 hb.size, q3.below hb q2⟩

/-- where the first k of some edits end in the text that they make -/
def posK (l : List NEd) : Nat → Nat
  | 0 => 0
  | k + 1 => posK l k + ((l.getD k noN).1 - edTo l k) + (l.getD k noN).2.2.size
/-- what the first k leave -/
def keepK (l : List NEd) : Nat → List Run
  | 0 => []
  | k + 1 => keepK l k ++ (if edTo l k < (l.getD k noN).1 then [(edTo l k, posK l k, (l.getD k noN).1 - edTo l k)] else [])
theorem keepK_keepE (l : List NEd) : ∀ k, k ≤ l.length → keepK l k ++ keepE (edTo l k) (posK l k) (l.drop k) = keepE 0 0 l := by
  intro k
  induction k with
  | zero => intro _; simp [keepK, edTo, posK]
  | succ k ih =>
    intro h
    have := ih (by omega)
    rw [getD_drop (show k < l.length by omega)] at this
    simp only [keepE] at this
    rw [← this]
    simp only [keepK, posK, edTo, List.append_assoc]
theorem keepK_all (l : List NEd) : keepK l l.length = keepE 0 0 l := by
  have := keepK_keepE l l.length (Nat.le_refl _)
  rw [List.drop_length] at this
  simpa [keepE] using this
theorem keepK_len (l : List NEd) : ∀ k, (keepK l k).length ≤ k
  | 0 => by simp [keepK]
  | k + 1 => by
    have := keepK_len l k
    unfold keepK
    split <;> simp <;> omega
theorem posK_le (l : List NEd) (h : ∀ e ∈ l, e.1 ≤ 65536 ∧ e.2.2.size ≤ 65536) : ∀ k, k ≤ l.length → posK l k ≤ k * 131072
  | 0, _ => by simp [posK]
  | k + 1, hk => by
    have := posK_le l h k (by omega)
    have hm : l.getD k noN ∈ l := by rw [List.getD_eq_getElem?_getD, List.getElem?_eq_getElem (show k < l.length by omega)]; exact List.getElem_mem _
    have := h _ hm
    unfold posK
    omega

set_option maxRecDepth 100000 in
set_option maxHeartbeats 2000000 in
theorem kept_any (s : ByteArray) (src : Option Addr) (n cap : Nat) (L : List NEd) (w : World) (hl : L.length = n) (hn : n ≤ 4096) (hs : s.size ≤ 65536) (hok : EdOk s.size 0 L) (ht : ∀ e ∈ L, e.2.2.size ≤ 65536) (hr : EdsIn w src (L.map toI)) :
    Calls Try.prog 24 #[.int .i64 (s.size : Nat), .slice src n cap] w fun e w' => ∃ v, e = .returned v ∧ Below w.heap.size w w' ∧ RunsIn w' v (keepE 0 0 (endE s L)) := by
  obtain ⟨i0, hi, hz0, hz1, hz2⟩ := info_parts infoRun
  have WE := Lib.hid (fun w hr => ewithEnd_any src n cap (L.map toI) (s.size : Int) w (by simpa using hl) hn hr)
  have HR := Lib.hid hr
  have HN : Hid ((endE s L).length = n + 1) := Lib.hid (by simp [endE, hl])
  have HOK := Lib.hid (endE_ok hok)
  have HT : Hid (∀ e ∈ endE s L, e.2.2.size ≤ 65536) := Lib.hid (by
    intro e he
    rcases List.mem_append.1 he with he | he
    · exact ht e he
    · simp at he; subst he; simp)
  have HM := Lib.hid (endE_map s L)
  generalize endE s L = LN at *
  have HKL := Lib.hid (keepK_all LN)
  have HP : Hid (∀ k, k ≤ n + 1 → posK LN k ≤ k * 131072) := Lib.hid (fun k hk => posK_le LN (fun e he => ⟨by
    obtain ⟨i, hi, rfl⟩ := List.mem_iff_getElem.1 he
    have := HOK.out.at' hi
    omega, HT.out e he⟩) k (by rw [HN.out]; exact hk))
  clear hr hl hok ht
  go_enter Try.func24, Try.ntmps24
  go_wp2_with fail
  refine (WE.out _ HR.out).mono ?_
  rintro e w2 ⟨rfl, h12, hsz2, hrow, hT⟩
  rw [← HM.out] at hrow
  have HROW := Lib.hid hrow
  have H12 := Lib.hid h12
  generalize hb0 : w.heap.size = b at *
  clear hrow h12 hT WE HR HM
  go_wp2_with fail
  go_loopw [5, 6, 7, 14] (fun u at_ by_ i wr => ∃ (k : Nat) (v : Value) (y : Int), k ≤ n + 1 ∧ i = .int .i64 k ∧ at_ = .int .i64 (edTo LN k : Nat) ∧ by_ = .int .i64 y ∧ (edTo LN k : Int) + y = (posK LN k : Nat) ∧ u = v ∧ RnInv w2 wr (keepK LN k) v) (fun _ _ _ i _ => n + 1 - (intOf i).toNat)
  case atStart => exact ⟨0, _, 0, Nat.zero_le _, rfl, rfl, rfl, rfl, rfl, Below.refl _ _, rfl, .inl ⟨rfl, rfl⟩⟩
  case round =>
    obtain ⟨k, v, y, hk, rfl, rfl, rfl, hy, rfl, hinv⟩ := hrel
    by_cases hlt : k < n + 1
    · have hkl : k < LN.length := by rw [HN.out]; exact hlt
      have hsz := hinv.1.size
      obtain ⟨c0, c1, c2⟩ := (HROW.out.below hinv.1 hsz2) k (by simpa using hkl)
      rw [toI_get, Nat.zero_add] at c0 c1 c2
      obtain ⟨o1, o2, o3⟩ := HOK.out.at' hkl
      have x3s := HT.out _ (List.getElem_mem hkl)
      have hgd : LN.getD k noN = LN[k] := by rw [List.getD_eq_getElem?_getD, List.getElem?_eq_getElem hkl]; rfl
      have ES : Hid (edTo LN (k + 1) = LN[k].2.1) := Lib.hid (by rw [← hgd]; rfl)
      have PS : Hid (posK LN (k + 1) = posK LN k + (LN[k].1 - edTo LN k) + LN[k].2.2.size) := Lib.hid (by rw [← hgd]; rfl)
      have KS : Hid (keepK LN (k + 1) = keepK LN k ++ (if edTo LN k < LN[k].1 then [(edTo LN k, posK LN k, LN[k].1 - edTo LN k)] else [])) := Lib.hid (by rw [← hgd]; rfl)
      have pk := HP.out k (by omega)
      have klen := keepK_len LN k
      have HI := Lib.hid hinv
      have HY := Lib.hid hy
      clear hgd hinv
      revert c0 c1 c2 o1 o2 o3 x3s ES PS KS
      generalize LN[k] = x
      obtain ⟨x1, x2, x3⟩ := x
      intro c0 c1 c2 o1 o2 o3 x3s ES PS KS
      unfold toI at c0 c1 c2
      dsimp only at c0 c1 c2 o1 o2 o3 x3s ES PS KS
      generalize edTo LN k = a at *
      generalize posK LN k = p at *
      generalize keepK LN k = G at *
      clear hkl
      have HLG := Lib.hid (lenI_nat o2 (by omega))
      have lbd := lenI_bd (x1 : Int) (x2 : Int)
      generalize hlg : lenI (x1 : Int) (x2 : Int) = lg at *
      have HLI := Lib.hid hlg
      have ybd : -131072 ≤ y ∧ y ≤ 1000000000 := by omega
      clear hlg hy
      by_cases hq : a < x1
      · have KE := Lib.hid (show keepK LN (k + 1) = G ++ [(a, p, x1 - a)] by rw [KS.out, if_pos hq])
        have d1 : ((x1 - a : Nat) : Int) = (x1 : Int) - a := by omega
        have HO := Lib.hid HI.out.2
        have q1 : IntKind.i64.wrap ((a : Int) + y) = (a : Int) + y := IntWalk.i64_in _ ⟨by omega, by omega⟩
        have q2 : IntKind.i64.wrap ((x1 : Int) - a) = (x1 : Int) - a := IntWalk.i64_in _ ⟨by omega, by omega⟩
        go_wp2_with (at_builtin; refine wpList_append_own _ rfl _ _ 58 rfl w2.heap.size 91 i0 (.agg #[.int .i64 0, .int .i64 0, .int .i64 0]) 3 24 Try.underlying58 hi hz0 hz1 hz2 rfl (by decide) _ _ _ rfl ((HO.out.alloc _).alloc _) ⟨wr.heap.size + 1, 0, none⟩ 1 1 [.int .i64 a, .int .i64 (a + y), .int .i64 (x1 - a)] rfl rfl ?c1 ?c2 ?c3 ?c4 ?c5 ?_)
        case c1 =>
          intro j u hj
          match j, hj with
          | 0, hj => simp at hj; subst hj; simp [Addr.add, go_sem]
          | 1, hj => simp at hj; subst hj; simp [Addr.add, go_sem]
          | 2, hj => simp at hj; subst hj; simp [Addr.add, go_sem]
        case c2 => intro u hu; simp at hu; rcases hu with rfl | rfl | rfl <;> rfl
        case c3 => unfold maxLen; omega
        case c4 => omega
        case c5 => simp; omega
        intro v' w3 hown' hgrow _
        have e0 := HI.out.box hgrow (j := 0) (u := .int .i64 (x1 : Int)) (by simp [go_sem])
        have e1 := HI.out.box hgrow (j := 1) (u := .int .i64 (x2 : Int)) (by simp [go_sem])
        have e2 := HI.out.box hgrow (j := 2) (u := .string x3) (by simp [go_sem])
        have HV : Hid (RnInv w2 w3 (keepK LN (k + 1)) v') := Lib.hid (by
          rw [KE.out]
          refine HI.out.yes (x := (a, p, x1 - a)) ?_ hgrow
          rw [← HY.out, d1]; exact hown')
        clear hown' hgrow c0 c1 c2
        go_wp2_with fail
        refine (growth_any _ _ _ _ (by omega)).mono ?_
        rw [HLI.out]
        rintro e w4 ⟨rfl, h34⟩
        have HV2 := Lib.hid (HV.out.step h34)
        clear h34
        go_wp2_with fail
        refine ⟨⟨k + 1, _, _, by omega, by go_num, by rw [ES.out], rfl, ?_, rfl, HV2.out⟩, by simp [intOf]; omega⟩
        have := HLG.out
        have := HY.out
        rw [PS.out, ES.out]
        omega
      · have HV : Hid (RnInv w2 (wr.alloc (.cells #[.int .i64 (x1 : Int), .int .i64 (x2 : Int), .string x3] 27)) (keepK LN (k + 1)) u5) := Lib.hid (by
          rw [KS.out, if_neg hq, List.append_nil]
          exact HI.out.alloc _)
        go_wp2_with fail
        refine (growth_any _ _ _ _ (by omega)).mono ?_
        rw [HLI.out]
        rintro e w4 ⟨rfl, h34⟩
        have HV2 := Lib.hid (HV.out.step h34)
        clear h34
        go_wp2_with fail
        refine ⟨⟨k + 1, _, _, by omega, by go_num, by rw [ES.out], rfl, ?_, rfl, HV2.out⟩, by simp [intOf]; omega⟩
        have := HLG.out
        have := HY.out
        rw [PS.out, ES.out]
        omega
    · have hk' : k = n + 1 := by omega
      subst hk'
      have HRI := Lib.hid hinv.in
      have B2 := Lib.hid (H12.out.trans (hinv.1.mono (by omega)))
      clear hinv
      go_wp2_with fail
      go_ret
      refine ⟨_, rfl, by rw [hb0]; exact B2.out, ?_⟩
      rw [← HKL.out, HN.out]; exact HRI.out

end Go.Proofs.Ytdhbcmbajbgblaa
