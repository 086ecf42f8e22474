/- Contract of the eraser's node: what stands for a node (written by gen_node.py). -/
import Derived.Test.YtfalgnapghienaaGreatDoorTrHeld
import Derived.Test.YtfalgnapghienaaGreatDoorTrDepth
namespace Go.Proofs.YtfalgnapghienaaGreatDoor
open Go Go.RowKit
set_option linter.unusedVariables false
set_option linter.unusedSimpArgs false

/-- what stands for those that a node is made of; those behind are 0 -/
def rowK (tw : List Nat) (kids : List Int) (j : Nat) : List Value := (List.range kids.length).map fun i => .int .i64 (if i < j then toOf tw (kids.getD i 0) else 0)
theorem rowK_len (tw : List Nat) (kids : List Int) (j : Nat) : (rowK tw kids j).length = kids.length := by simp [rowK]
theorem rowK_at {tw : List Nat} {kids : List Int} {j i : Nat} (h : i < kids.length) : (rowK tw kids j)[i]? = some (.int .i64 (if i < j then toOf tw (kids.getD i 0) else 0)) := by simp [rowK, h]
theorem rowK_zero (tw : List Nat) (kids : List Int) : rowK tw kids 0 = List.replicate kids.length (.int .i64 0) := by
  unfold rowK
  apply List.ext_getElem?
  intro i
  by_cases h : i < kids.length
  · simp [h]
  · simp [h]
theorem rowK_set {tw : List Nat} {kids : List Int} {j : Nat} (h : j < kids.length) (v : Int) (hv : v = toOf tw kids[j]) : (rowK tw kids j).set j (.int .i64 v) = rowK tw kids (j + 1) := by
  apply List.ext_getElem?
  intro i
  by_cases hi : i < kids.length
  · by_cases hk : j = i
    · subst hk
      rw [List.getElem?_set_self (by rw [rowK_len]; exact hi), rowK_at hi, if_pos (by omega), hv]
      simp [hi]
    · rw [List.getElem?_set_ne hk, rowK_at hi, rowK_at hi]
      by_cases h2 : i < j
      · rw [if_pos h2, if_pos (by omega)]
      · rw [if_neg h2, if_neg (by omega)]
  · rw [List.getElem?_eq_none (by rw [List.length_set, rowK_len]; omega), List.getElem?_eq_none (by rw [rowK_len]; omega)]
theorem rowK_all (tw : List Nat) (kids : List Int) : rowK tw kids kids.length = numC (kids.map (toOf tw)) := by
  apply List.ext_getElem?
  intro i
  by_cases hi : i < kids.length
  · rw [rowK_at hi, if_pos hi]; simp [numC, hi]
  · rw [List.getElem?_eq_none (by rw [rowK_len]; omega), List.getElem?_eq_none (by simp [numC]; omega)]
theorem made_kids (tw : List Nat) (kids : List Int) (W : World) (hn : kids.length ≤ 17592186044416) : (Instr.makeSlice 35 (.int .i64 (kids.length : Int)) (.int .i64 (kids.length : Int))).run Tryz.prog W = .ok (.slice (some ⟨W.heap.size, 0, none⟩) kids.length kids.length) (W.alloc (.cells (rowK tw kids 0).toArray 3)) := by
  obtain ⟨i0, hi, hz0, hz1, hz2⟩ := info_parts infoInt
  have := run_make (P := Tryz.prog) W 35 3 i0 (.int .i64 0) Tryz.underlying35 hi hz0 .i64 .i64 kids.length kids.length (by omega) (Int.le_refl _) (by rw [hz2]; omega) (by omega)
  simp only [Int.toNat_natCast] at this
  have e : madeCells (Value.int .i64 0).cells (kids.length * i0.size) = (rowK tw kids 0).toArray := by
    rw [hz1, Nat.mul_one]
    apply Array.ext'
    rw [rowK_zero]
    exact toList_madeCells_one (.int .i64 0) kids.length
  rw [this, e]
/-- what stands for each node, so far; those behind are 0 -/
def toL (n : Nat) (tw : List Nat) : List Value := (List.range n).map fun i => .int .i64 ((tw.getD i 0 : Nat) : Int)
theorem toL_len (n : Nat) (tw : List Nat) : (toL n tw).length = n := by simp [toL]
theorem toL_at {n : Nat} {tw : List Nat} {i : Nat} (h : i < n) : (toL n tw)[i]? = some (.int .i64 ((tw.getD i 0 : Nat) : Int)) := by simp [toL, h]
theorem repeat_blank (n : Nat) : (⟨(Lib.repeatL [32] n).toArray⟩ : ByteArray) = blankT n := by
  unfold blankT
  congr 2
  induction n with
  | zero => rfl
  | succ n ih => rw [Lib.repeatL, ih]; rfl

def NodePost (tov : Value) (w : World) (bB b : Nat) (mk : List Nd) (r : Nat) (e : Ending) (w' : World) : Prop :=
  e = .returned (.tuple #[.int .i64 (r : Int), .bool true]) ∧ Below bB w w' ∧ (∃ L' v', L'.map (·.1) = mk ∧ Bld 74 [tov] w' bB b L' v') ∧ KeptN w w' b
theorem numsV_row {w : World} {g : Nat} {tw : List Nat} {kids : List Int} (h : Bx 3 w g (rowK tw kids kids.length)) : NumsV w (.slice (some ⟨g, 0, none⟩) kids.length kids.length) (kids.map (toOf tw)) := by
  refine ⟨some ⟨g, 0, none⟩, kids.length, by simp, fun _ => ⟨g, 0, rfl, h.lt, fun i hi => ?_⟩⟩
  rw [Nat.zero_add, h.cell, rowK_all]
  simp [numC] at hi ⊢
  simp [hi]

set_option maxRecDepth 100000 in
set_option maxHeartbeats 4000000 in
theorem node40_any (bB b tb n : Nat) (tw : List Nat) (L : List NdR) (v : Value) (sf st : Int) (kids : List Int) (text : ByteArray) (B : Int) (N : ByteArray) (D : Int) (M : ByteArray) (num wf wt : Int) (ends : List Int) (kv ev : Value) (w : World) (hk0 : Hid (0 < kids.length))
    (hb : Bld 74 [.slice (some ⟨tb, 0, none⟩) n n] w bB b L v) (hB : bB ≤ w.heap.size) (hL : L.length + 1 < 16384) (htb : tb < bB) (hto : Bx 3 w tb (toL n tw)) (hn : n ≤ 16384) (hka : ∀ k ∈ kids, 0 ≤ k ∧ k < (n : Nat))
    (hk : NumsB w bB kv kids) (he : NumsB w bB ev ends) (lk : kids.length ≤ 17592186044416) (le : ends.length ≤ 17592186044416) (sx : text.size ≤ 281474976710656) (sn : N.size ≤ 281474976710656) (sm : M.size ≤ 140737488355328) :
    Calls Tryz.prog 42 #[.pointer (some ⟨b, 0, none⟩), .agg #[.int .i64 40, .int .i64 sf, .int .i64 st, kv, .string text, .int .i64 B, .string N, .int .i64 D, .string M, .int .i64 num, .int .i64 wf, .int .i64 wt, ev]] w
      (NodePost (.slice (some ⟨tb, 0, none⟩) n n) w bB b (L.map (·.1)) (toOf tw (kids.headD 0)).toNat) := by
  have HEB := Lib.hid he
  obtain ⟨ks, kc, rfl, hks⟩ := hk
  obtain ⟨es, ec, rfl, -⟩ := he
  have HKS := Lib.hid hks
  have HKA := Lib.hid hka
  obtain ⟨W0, hW0⟩ : ∃ W0, W0 = w.alloc (.cells #[.int .i64 40, .int .i64 sf, .int .i64 st, .slice ks kids.length kc, .string text, .int .i64 B, .string N, .int .i64 D, .string M, .int .i64 num, .int .i64 wf, .int .i64 wt, .slice es ends.length ec] 46) := ⟨_, rfl⟩
  have HB0 : Hid (Below w.heap.size w W0) := Lib.hid (by rw [hW0]; exact (Below.refl _ _).alloc (Nat.le_refl _) _)
  have HS0 : Hid (W0.heap.size = w.heap.size + 1) := Lib.hid (by rw [hW0]; simp)
  have X0 : Hid (BoxN W0 w.heap.size [.int .i64 40, .int .i64 sf, .int .i64 st, .slice ks kids.length kc, .string text, .int .i64 B, .string N, .int .i64 D, .string M, .int .i64 num, .int .i64 wf, .int .i64 wt, .slice es ends.length ec]) := Lib.hid (by rw [hW0]; exact BoxN.new w #[.int .i64 40, .int .i64 sf, .int .i64 st, .slice ks kids.length kc, .string text, .int .i64 B, .string N, .int .i64 D, .string M, .int .i64 num, .int .i64 wf, .int .i64 wt, .slice es ends.length ec])
  have HW0 := Lib.hid hW0
  have HBD := Lib.hid (hb.step HB0.out)
  have HTO := Lib.hid (hto.keep HB0.out)
  have hbl := hb.box.lt
  have HMK := Lib.hid (fun W => made_kids tw kids W lk)
  have HBB : Hid (Below bB w W0) := Lib.hid (HB0.out.mono hB)
  obtain ⟨m, hm⟩ : ∃ m, m = kids.length := ⟨_, rfl⟩
  have HM := Lib.hid hm
  have HMN : Hid (∀ W : World, (Instr.makeSlice 35 (.int .i64 (m : Int)) (.int .i64 (m : Int))).run Tryz.prog W = .ok (.slice (some ⟨W.heap.size, 0, none⟩) m m) (W.alloc (.cells (rowK tw kids 0).toArray 3))) := Lib.hid (fun W => by have := HMK.out W; rwa [← hm] at this)
  rw [← hm] at HW0 X0 lk
  clear hW0 hb hto hks hka HMK
  obtain ⟨⟨a0, a1, a2, a3, a4, a5, a6, a7, a8, a9, a10, a11, a12⟩, al, af⟩ := X0.out.all
  rw [← hm]
  clear hm
  go_enter Tryz.func42, Tryz.ntmps42
  go_wp2_with fail
  rw [← HW0.out]
  go_wp2_with fail
  rw [HMN.out]
  simp only [Result.andThen_ok]
  rw [Oper.upon_value]
  clear a0 a1 a2 a3 a4 a5 a6 a7 a8 a9 a10 a11 a12 al af HW0
  have b3 : (W0.alloc (.cells (rowK tw kids 0).toArray 3)).cell? ⟨w.heap.size, 3, none⟩ = some (.slice ks m kc) := by
    have := (X0.out.alloc (.cells (rowK tw kids 0).toArray 3)).cell 3
    simpa using this
  go_wp2_with fail
  clear b3
  obtain ⟨g, hg⟩ : ∃ g, g = W0.heap.size := ⟨_, rfl⟩
  have HG := Lib.hid hg
  have HB1 : Hid (Bx 3 (W0.alloc (.cells (rowK tw kids 0).toArray 3)) g (rowK tw kids 0)) := Lib.hid (by rw [hg]; exact Bx.new 3 W0 _)
  have HB2 : Hid (Below g W0 (W0.alloc (.cells (rowK tw kids 0).toArray 3))) := Lib.hid (by rw [hg]; exact (Below.refl _ _).alloc (Nat.le_refl _) _)
  rw [← hg]
  clear hg HMN
  go_loopw [16] (fun a wr => ∃ j : Nat, j ≤ m ∧ a = .int .i64 j ∧ Bx 3 wr g (rowK tw kids j) ∧ Below g W0 wr) (fun a _ => m - (intOf a).toNat)
  case atStart => exact ⟨0, Nat.zero_le _, rfl, HB1.out, HB2.out⟩
  case round =>
    clear HB1 HB2
    obtain ⟨j, hj, rfl, hbx, hbl2⟩ := hrel
    have HBX := Lib.hid hbx
    have HBL := Lib.hid hbl2
    have HBS : Hid (Below W0.heap.size W0 wr) := Lib.hid (by have := HG.out; subst this; exact hbl2)
    have hgl := hbx.lt
    clear hbx hbl2
    by_cases hlt : j < m
    · have hjl : j < kids.length := by have := HM.out; omega
      obtain ⟨kb, koff, rfl, hkb, hkw, hrow⟩ := HKS.out (by omega)
      have c0 : wr.cell? ⟨kb, koff + j, none⟩ = some (.int .i64 kids[j]) := keep HBS.out (by have := HS0.out; omega) (keep HB0.out hkw (hrow j hjl))
      obtain ⟨hk0, hk1⟩ := HKA.out kids[j] (List.getElem_mem hjl)
      have HKJ : Hid (toOf tw kids[j] = ((tw.getD kids[j].toNat 0 : Nat) : Int)) := Lib.hid rfl
      clear hrow
      have HRS := Lib.hid (fun (v : Int) (hv : v = toOf tw kids[j]) => rowK_set (tw := tw) hjl v hv)
      generalize kids[j] = k at *
      obtain ⟨q, rfl⟩ : ∃ q : Nat, k = q := ⟨k.toNat, by omega⟩
      have hqn : q < n := by omega
      have d0 : wr.cell? ⟨tb, q, none⟩ = some (.int .i64 ((tw.getD q 0 : Nat) : Int)) := by
        rw [(HTO.out.keep HBS.out).cell]; exact toL_at hqn
      have e0 : wr.cell? ⟨b, 1, none⟩ = some (.slice (some ⟨tb, 0, none⟩) n n) := by
        have := (HBD.out.box.keep HBS.out).cell 1
        simpa using this
      have g0 := HBX.out.frozen j
      have g1 : wr.cell? ⟨g, j, none⟩ = some (.int .i64 0) := by rw [HBX.out.cell, rowK_at hjl, if_neg (by omega)]
      have HS2 : Hid (Bx 3 (wr.setCell ⟨g, j, none⟩ (.int .i64 ((tw.getD q 0 : Nat) : Int))) g (rowK tw kids (j + 1))) := Lib.hid (by
        have := HBX.out.set j (.int .i64 ((tw.getD q 0 : Nat) : Int))
        rwa [HRS.out _ (by rw [HKJ.out]; rfl)] at this)
      clear HKJ HRS
      generalize tw.getD q 0 = t at *
      go_wp2_with fail
      exact ⟨⟨j + 1, by omega, by go_num, HS2.out, HBL.out.setCell (Nat.le_refl _) _⟩, by simp [intOf]; omega⟩
    · have hjm : j = m := by omega
      have HBX2 : Hid (Bx 3 wr g (rowK tw kids kids.length)) := Lib.hid (by have := HBX.out; rw [hjm, HM.out] at this; exact this)
      clear HBX
      have X1 : Hid (BoxN wr w.heap.size [.int .i64 40, .int .i64 sf, .int .i64 st, .slice ks m kc, .string text, .int .i64 B, .string N, .int .i64 D, .string M, .int .i64 num, .int .i64 wf, .int .i64 wt, .slice es ends.length ec]) := Lib.hid (X0.out.keep HBS.out)
      obtain ⟨⟨a0, a1, a2, a3, a4, a5, a6, a7, a8, a9, a10, a11, a12⟩, al, af⟩ := X1.out.all
      have HBW : Hid (Below bB w wr) := Lib.hid (HBB.out.trans (HBS.out.mono (by have := HS0.out; omega)))
      have HBD1 := Lib.hid (HBD.out.step HBS.out)
      have HKW : Hid (KeptN w wr b) := Lib.hid (KeptN.of_below b (HB0.out.trans (HBS.out.mono (by have := HS0.out; omega))))
      have hgw : w.heap.size < g := by have := HG.out; have := HS0.out; omega
      clear HTO HBL X0 hlt
      have h0 := hk0.out
      have HV : Hid (kids.headD 0 = kids[0]) := Lib.hid (by cases kids with
        | nil => exact absurd h0 (by simp)
        | cons a l => rfl)
      have r0 : wr.cell? ⟨g, 0, none⟩ = some (.int .i64 (toOf tw (kids.headD 0))) := by
        rw [HBX2.out.cell, rowK_at h0, if_pos h0, HV.out]
        simp [h0]
      have hm0 : 0 < m := by have := HM.out; omega
      have HVN : Hid (((toOf tw (kids.headD 0)).toNat : Int) = toOf tw (kids.headD 0)) := Lib.hid (by unfold toOf; simp)
      generalize hV2 : toOf tw (kids.headD 0) = V at *
      have HV2 := Lib.hid hV2
      clear hV2
      clear HV h0
      go_wp2_with fail
      go_ret2
      exact ⟨by (show _ = Ending.returned (.tuple #[.int .i64 (((toOf tw (kids.headD 0)).toNat : Nat) : Int), .bool true])); rw [HV2.out, HVN.out]; rfl, HBW.out, ⟨L, v, by trivial, HBD1.out⟩, HKW.out⟩

set_option maxRecDepth 100000 in
set_option maxHeartbeats 4000000 in
theorem node41_any (bB b tb n : Nat) (tw : List Nat) (L : List NdR) (v : Value) (sf st : Int) (kids : List Int) (text : ByteArray) (B : Int) (N : ByteArray) (D : Int) (M : ByteArray) (num wf wt : Int) (ends : List Int) (kv ev : Value) (w : World) (hk0 : Hid (0 < kids.length))
    (hb : Bld 74 [.slice (some ⟨tb, 0, none⟩) n n] w bB b L v) (hB : bB ≤ w.heap.size) (hL : L.length + 1 < 16384) (htb : tb < bB) (hto : Bx 3 w tb (toL n tw)) (hn : n ≤ 16384) (hka : ∀ k ∈ kids, 0 ≤ k ∧ k < (n : Nat))
    (hk : NumsB w bB kv kids) (he : NumsB w bB ev ends) (lk : kids.length ≤ 17592186044416) (le : ends.length ≤ 17592186044416) (sx : text.size ≤ 281474976710656) (sn : N.size ≤ 281474976710656) (sm : M.size ≤ 140737488355328) :
    Calls Tryz.prog 42 #[.pointer (some ⟨b, 0, none⟩), .agg #[.int .i64 41, .int .i64 sf, .int .i64 st, kv, .string text, .int .i64 B, .string N, .int .i64 D, .string M, .int .i64 num, .int .i64 wf, .int .i64 wt, ev]] w
      (NodePost (.slice (some ⟨tb, 0, none⟩) n n) w bB b (L.map (·.1)) (toOf tw (kids.headD 0)).toNat) := by
  have HEB := Lib.hid he
  obtain ⟨ks, kc, rfl, hks⟩ := hk
  obtain ⟨es, ec, rfl, -⟩ := he
  have HKS := Lib.hid hks
  have HKA := Lib.hid hka
  obtain ⟨W0, hW0⟩ : ∃ W0, W0 = w.alloc (.cells #[.int .i64 41, .int .i64 sf, .int .i64 st, .slice ks kids.length kc, .string text, .int .i64 B, .string N, .int .i64 D, .string M, .int .i64 num, .int .i64 wf, .int .i64 wt, .slice es ends.length ec] 46) := ⟨_, rfl⟩
  have HB0 : Hid (Below w.heap.size w W0) := Lib.hid (by rw [hW0]; exact (Below.refl _ _).alloc (Nat.le_refl _) _)
  have HS0 : Hid (W0.heap.size = w.heap.size + 1) := Lib.hid (by rw [hW0]; simp)
  have X0 : Hid (BoxN W0 w.heap.size [.int .i64 41, .int .i64 sf, .int .i64 st, .slice ks kids.length kc, .string text, .int .i64 B, .string N, .int .i64 D, .string M, .int .i64 num, .int .i64 wf, .int .i64 wt, .slice es ends.length ec]) := Lib.hid (by rw [hW0]; exact BoxN.new w #[.int .i64 41, .int .i64 sf, .int .i64 st, .slice ks kids.length kc, .string text, .int .i64 B, .string N, .int .i64 D, .string M, .int .i64 num, .int .i64 wf, .int .i64 wt, .slice es ends.length ec])
  have HW0 := Lib.hid hW0
  have HBD := Lib.hid (hb.step HB0.out)
  have HTO := Lib.hid (hto.keep HB0.out)
  have hbl := hb.box.lt
  have HMK := Lib.hid (fun W => made_kids tw kids W lk)
  have HBB : Hid (Below bB w W0) := Lib.hid (HB0.out.mono hB)
  obtain ⟨m, hm⟩ : ∃ m, m = kids.length := ⟨_, rfl⟩
  have HM := Lib.hid hm
  have HMN : Hid (∀ W : World, (Instr.makeSlice 35 (.int .i64 (m : Int)) (.int .i64 (m : Int))).run Tryz.prog W = .ok (.slice (some ⟨W.heap.size, 0, none⟩) m m) (W.alloc (.cells (rowK tw kids 0).toArray 3))) := Lib.hid (fun W => by have := HMK.out W; rwa [← hm] at this)
  rw [← hm] at HW0 X0 lk
  clear hW0 hb hto hks hka HMK
  obtain ⟨⟨a0, a1, a2, a3, a4, a5, a6, a7, a8, a9, a10, a11, a12⟩, al, af⟩ := X0.out.all
  rw [← hm]
  clear hm
  go_enter Tryz.func42, Tryz.ntmps42
  go_wp2_with fail
  rw [← HW0.out]
  go_wp2_with fail
  rw [HMN.out]
  simp only [Result.andThen_ok]
  rw [Oper.upon_value]
  clear a0 a1 a2 a3 a4 a5 a6 a7 a8 a9 a10 a11 a12 al af HW0
  have b3 : (W0.alloc (.cells (rowK tw kids 0).toArray 3)).cell? ⟨w.heap.size, 3, none⟩ = some (.slice ks m kc) := by
    have := (X0.out.alloc (.cells (rowK tw kids 0).toArray 3)).cell 3
    simpa using this
  go_wp2_with fail
  clear b3
  obtain ⟨g, hg⟩ : ∃ g, g = W0.heap.size := ⟨_, rfl⟩
  have HG := Lib.hid hg
  have HB1 : Hid (Bx 3 (W0.alloc (.cells (rowK tw kids 0).toArray 3)) g (rowK tw kids 0)) := Lib.hid (by rw [hg]; exact Bx.new 3 W0 _)
  have HB2 : Hid (Below g W0 (W0.alloc (.cells (rowK tw kids 0).toArray 3))) := Lib.hid (by rw [hg]; exact (Below.refl _ _).alloc (Nat.le_refl _) _)
  rw [← hg]
  clear hg HMN
  go_loopw [16] (fun a wr => ∃ j : Nat, j ≤ m ∧ a = .int .i64 j ∧ Bx 3 wr g (rowK tw kids j) ∧ Below g W0 wr) (fun a _ => m - (intOf a).toNat)
  case atStart => exact ⟨0, Nat.zero_le _, rfl, HB1.out, HB2.out⟩
  case round =>
    clear HB1 HB2
    obtain ⟨j, hj, rfl, hbx, hbl2⟩ := hrel
    have HBX := Lib.hid hbx
    have HBL := Lib.hid hbl2
    have HBS : Hid (Below W0.heap.size W0 wr) := Lib.hid (by have := HG.out; subst this; exact hbl2)
    have hgl := hbx.lt
    clear hbx hbl2
    by_cases hlt : j < m
    · have hjl : j < kids.length := by have := HM.out; omega
      obtain ⟨kb, koff, rfl, hkb, hkw, hrow⟩ := HKS.out (by omega)
      have c0 : wr.cell? ⟨kb, koff + j, none⟩ = some (.int .i64 kids[j]) := keep HBS.out (by have := HS0.out; omega) (keep HB0.out hkw (hrow j hjl))
      obtain ⟨hk0, hk1⟩ := HKA.out kids[j] (List.getElem_mem hjl)
      have HKJ : Hid (toOf tw kids[j] = ((tw.getD kids[j].toNat 0 : Nat) : Int)) := Lib.hid rfl
      clear hrow
      have HRS := Lib.hid (fun (v : Int) (hv : v = toOf tw kids[j]) => rowK_set (tw := tw) hjl v hv)
      generalize kids[j] = k at *
      obtain ⟨q, rfl⟩ : ∃ q : Nat, k = q := ⟨k.toNat, by omega⟩
      have hqn : q < n := by omega
      have d0 : wr.cell? ⟨tb, q, none⟩ = some (.int .i64 ((tw.getD q 0 : Nat) : Int)) := by
        rw [(HTO.out.keep HBS.out).cell]; exact toL_at hqn
      have e0 : wr.cell? ⟨b, 1, none⟩ = some (.slice (some ⟨tb, 0, none⟩) n n) := by
        have := (HBD.out.box.keep HBS.out).cell 1
        simpa using this
      have g0 := HBX.out.frozen j
      have g1 : wr.cell? ⟨g, j, none⟩ = some (.int .i64 0) := by rw [HBX.out.cell, rowK_at hjl, if_neg (by omega)]
      have HS2 : Hid (Bx 3 (wr.setCell ⟨g, j, none⟩ (.int .i64 ((tw.getD q 0 : Nat) : Int))) g (rowK tw kids (j + 1))) := Lib.hid (by
        have := HBX.out.set j (.int .i64 ((tw.getD q 0 : Nat) : Int))
        rwa [HRS.out _ (by rw [HKJ.out]; rfl)] at this)
      clear HKJ HRS
      generalize tw.getD q 0 = t at *
      go_wp2_with fail
      exact ⟨⟨j + 1, by omega, by go_num, HS2.out, HBL.out.setCell (Nat.le_refl _) _⟩, by simp [intOf]; omega⟩
    · have hjm : j = m := by omega
      have HBX2 : Hid (Bx 3 wr g (rowK tw kids kids.length)) := Lib.hid (by have := HBX.out; rw [hjm, HM.out] at this; exact this)
      clear HBX
      have X1 : Hid (BoxN wr w.heap.size [.int .i64 41, .int .i64 sf, .int .i64 st, .slice ks m kc, .string text, .int .i64 B, .string N, .int .i64 D, .string M, .int .i64 num, .int .i64 wf, .int .i64 wt, .slice es ends.length ec]) := Lib.hid (X0.out.keep HBS.out)
      obtain ⟨⟨a0, a1, a2, a3, a4, a5, a6, a7, a8, a9, a10, a11, a12⟩, al, af⟩ := X1.out.all
      have HBW : Hid (Below bB w wr) := Lib.hid (HBB.out.trans (HBS.out.mono (by have := HS0.out; omega)))
      have HBD1 := Lib.hid (HBD.out.step HBS.out)
      have HKW : Hid (KeptN w wr b) := Lib.hid (KeptN.of_below b (HB0.out.trans (HBS.out.mono (by have := HS0.out; omega))))
      have hgw : w.heap.size < g := by have := HG.out; have := HS0.out; omega
      clear HTO HBL X0 hlt
      have h0 := hk0.out
      have HV : Hid (kids.headD 0 = kids[0]) := Lib.hid (by cases kids with
        | nil => exact absurd h0 (by simp)
        | cons a l => rfl)
      have r0 : wr.cell? ⟨g, 0, none⟩ = some (.int .i64 (toOf tw (kids.headD 0))) := by
        rw [HBX2.out.cell, rowK_at h0, if_pos h0, HV.out]
        simp [h0]
      have hm0 : 0 < m := by have := HM.out; omega
      have HVN : Hid (((toOf tw (kids.headD 0)).toNat : Int) = toOf tw (kids.headD 0)) := Lib.hid (by unfold toOf; simp)
      generalize hV2 : toOf tw (kids.headD 0) = V at *
      have HV2 := Lib.hid hV2
      clear hV2
      clear HV h0
      go_wp2_with fail
      go_ret2
      exact ⟨by (show _ = Ending.returned (.tuple #[.int .i64 (((toOf tw (kids.headD 0)).toNat : Nat) : Int), .bool true])); rw [HV2.out, HVN.out]; rfl, HBW.out, ⟨L, v, by trivial, HBD1.out⟩, HKW.out⟩

set_option maxRecDepth 100000 in
set_option maxHeartbeats 4000000 in
theorem node45_any (bB b tb n : Nat) (tw : List Nat) (L : List NdR) (v : Value) (sf st : Int) (kids : List Int) (text : ByteArray) (B : Int) (N : ByteArray) (D : Int) (M : ByteArray) (num wf wt : Int) (ends : List Int) (kv ev : Value) (w : World) (hk0 : Hid (0 < kids.length))
    (hb : Bld 74 [.slice (some ⟨tb, 0, none⟩) n n] w bB b L v) (hB : bB ≤ w.heap.size) (hL : L.length + 1 < 16384) (htb : tb < bB) (hto : Bx 3 w tb (toL n tw)) (hn : n ≤ 16384) (hka : ∀ k ∈ kids, 0 ≤ k ∧ k < (n : Nat))
    (hk : NumsB w bB kv kids) (he : NumsB w bB ev ends) (lk : kids.length ≤ 17592186044416) (le : ends.length ≤ 17592186044416) (sx : text.size ≤ 281474976710656) (sn : N.size ≤ 281474976710656) (sm : M.size ≤ 140737488355328) :
    Calls Tryz.prog 42 #[.pointer (some ⟨b, 0, none⟩), .agg #[.int .i64 45, .int .i64 sf, .int .i64 st, kv, .string text, .int .i64 B, .string N, .int .i64 D, .string M, .int .i64 num, .int .i64 wf, .int .i64 wt, ev]] w
      (NodePost (.slice (some ⟨tb, 0, none⟩) n n) w bB b (L.map (·.1)) (toOf tw (kids.headD 0)).toNat) := by
  have HEB := Lib.hid he
  obtain ⟨ks, kc, rfl, hks⟩ := hk
  obtain ⟨es, ec, rfl, -⟩ := he
  have HKS := Lib.hid hks
  have HKA := Lib.hid hka
  obtain ⟨W0, hW0⟩ : ∃ W0, W0 = w.alloc (.cells #[.int .i64 45, .int .i64 sf, .int .i64 st, .slice ks kids.length kc, .string text, .int .i64 B, .string N, .int .i64 D, .string M, .int .i64 num, .int .i64 wf, .int .i64 wt, .slice es ends.length ec] 46) := ⟨_, rfl⟩
  have HB0 : Hid (Below w.heap.size w W0) := Lib.hid (by rw [hW0]; exact (Below.refl _ _).alloc (Nat.le_refl _) _)
  have HS0 : Hid (W0.heap.size = w.heap.size + 1) := Lib.hid (by rw [hW0]; simp)
  have X0 : Hid (BoxN W0 w.heap.size [.int .i64 45, .int .i64 sf, .int .i64 st, .slice ks kids.length kc, .string text, .int .i64 B, .string N, .int .i64 D, .string M, .int .i64 num, .int .i64 wf, .int .i64 wt, .slice es ends.length ec]) := Lib.hid (by rw [hW0]; exact BoxN.new w #[.int .i64 45, .int .i64 sf, .int .i64 st, .slice ks kids.length kc, .string text, .int .i64 B, .string N, .int .i64 D, .string M, .int .i64 num, .int .i64 wf, .int .i64 wt, .slice es ends.length ec])
  have HW0 := Lib.hid hW0
  have HBD := Lib.hid (hb.step HB0.out)
  have HTO := Lib.hid (hto.keep HB0.out)
  have hbl := hb.box.lt
  have HMK := Lib.hid (fun W => made_kids tw kids W lk)
  have HBB : Hid (Below bB w W0) := Lib.hid (HB0.out.mono hB)
  obtain ⟨m, hm⟩ : ∃ m, m = kids.length := ⟨_, rfl⟩
  have HM := Lib.hid hm
  have HMN : Hid (∀ W : World, (Instr.makeSlice 35 (.int .i64 (m : Int)) (.int .i64 (m : Int))).run Tryz.prog W = .ok (.slice (some ⟨W.heap.size, 0, none⟩) m m) (W.alloc (.cells (rowK tw kids 0).toArray 3))) := Lib.hid (fun W => by have := HMK.out W; rwa [← hm] at this)
  rw [← hm] at HW0 X0 lk
  clear hW0 hb hto hks hka HMK
  obtain ⟨⟨a0, a1, a2, a3, a4, a5, a6, a7, a8, a9, a10, a11, a12⟩, al, af⟩ := X0.out.all
  rw [← hm]
  clear hm
  go_enter Tryz.func42, Tryz.ntmps42
  go_wp2_with fail
  rw [← HW0.out]
  go_wp2_with fail
  rw [HMN.out]
  simp only [Result.andThen_ok]
  rw [Oper.upon_value]
  clear a0 a1 a2 a3 a4 a5 a6 a7 a8 a9 a10 a11 a12 al af HW0
  have b3 : (W0.alloc (.cells (rowK tw kids 0).toArray 3)).cell? ⟨w.heap.size, 3, none⟩ = some (.slice ks m kc) := by
    have := (X0.out.alloc (.cells (rowK tw kids 0).toArray 3)).cell 3
    simpa using this
  go_wp2_with fail
  clear b3
  obtain ⟨g, hg⟩ : ∃ g, g = W0.heap.size := ⟨_, rfl⟩
  have HG := Lib.hid hg
  have HB1 : Hid (Bx 3 (W0.alloc (.cells (rowK tw kids 0).toArray 3)) g (rowK tw kids 0)) := Lib.hid (by rw [hg]; exact Bx.new 3 W0 _)
  have HB2 : Hid (Below g W0 (W0.alloc (.cells (rowK tw kids 0).toArray 3))) := Lib.hid (by rw [hg]; exact (Below.refl _ _).alloc (Nat.le_refl _) _)
  rw [← hg]
  clear hg HMN
  go_loopw [16] (fun a wr => ∃ j : Nat, j ≤ m ∧ a = .int .i64 j ∧ Bx 3 wr g (rowK tw kids j) ∧ Below g W0 wr) (fun a _ => m - (intOf a).toNat)
  case atStart => exact ⟨0, Nat.zero_le _, rfl, HB1.out, HB2.out⟩
  case round =>
    clear HB1 HB2
    obtain ⟨j, hj, rfl, hbx, hbl2⟩ := hrel
    have HBX := Lib.hid hbx
    have HBL := Lib.hid hbl2
    have HBS : Hid (Below W0.heap.size W0 wr) := Lib.hid (by have := HG.out; subst this; exact hbl2)
    have hgl := hbx.lt
    clear hbx hbl2
    by_cases hlt : j < m
    · have hjl : j < kids.length := by have := HM.out; omega
      obtain ⟨kb, koff, rfl, hkb, hkw, hrow⟩ := HKS.out (by omega)
      have c0 : wr.cell? ⟨kb, koff + j, none⟩ = some (.int .i64 kids[j]) := keep HBS.out (by have := HS0.out; omega) (keep HB0.out hkw (hrow j hjl))
      obtain ⟨hk0, hk1⟩ := HKA.out kids[j] (List.getElem_mem hjl)
      have HKJ : Hid (toOf tw kids[j] = ((tw.getD kids[j].toNat 0 : Nat) : Int)) := Lib.hid rfl
      clear hrow
      have HRS := Lib.hid (fun (v : Int) (hv : v = toOf tw kids[j]) => rowK_set (tw := tw) hjl v hv)
      generalize kids[j] = k at *
      obtain ⟨q, rfl⟩ : ∃ q : Nat, k = q := ⟨k.toNat, by omega⟩
      have hqn : q < n := by omega
      have d0 : wr.cell? ⟨tb, q, none⟩ = some (.int .i64 ((tw.getD q 0 : Nat) : Int)) := by
        rw [(HTO.out.keep HBS.out).cell]; exact toL_at hqn
      have e0 : wr.cell? ⟨b, 1, none⟩ = some (.slice (some ⟨tb, 0, none⟩) n n) := by
        have := (HBD.out.box.keep HBS.out).cell 1
        simpa using this
      have g0 := HBX.out.frozen j
      have g1 : wr.cell? ⟨g, j, none⟩ = some (.int .i64 0) := by rw [HBX.out.cell, rowK_at hjl, if_neg (by omega)]
      have HS2 : Hid (Bx 3 (wr.setCell ⟨g, j, none⟩ (.int .i64 ((tw.getD q 0 : Nat) : Int))) g (rowK tw kids (j + 1))) := Lib.hid (by
        have := HBX.out.set j (.int .i64 ((tw.getD q 0 : Nat) : Int))
        rwa [HRS.out _ (by rw [HKJ.out]; rfl)] at this)
      clear HKJ HRS
      generalize tw.getD q 0 = t at *
      go_wp2_with fail
      exact ⟨⟨j + 1, by omega, by go_num, HS2.out, HBL.out.setCell (Nat.le_refl _) _⟩, by simp [intOf]; omega⟩
    · have hjm : j = m := by omega
      have HBX2 : Hid (Bx 3 wr g (rowK tw kids kids.length)) := Lib.hid (by have := HBX.out; rw [hjm, HM.out] at this; exact this)
      clear HBX
      have X1 : Hid (BoxN wr w.heap.size [.int .i64 45, .int .i64 sf, .int .i64 st, .slice ks m kc, .string text, .int .i64 B, .string N, .int .i64 D, .string M, .int .i64 num, .int .i64 wf, .int .i64 wt, .slice es ends.length ec]) := Lib.hid (X0.out.keep HBS.out)
      obtain ⟨⟨a0, a1, a2, a3, a4, a5, a6, a7, a8, a9, a10, a11, a12⟩, al, af⟩ := X1.out.all
      have HBW : Hid (Below bB w wr) := Lib.hid (HBB.out.trans (HBS.out.mono (by have := HS0.out; omega)))
      have HBD1 := Lib.hid (HBD.out.step HBS.out)
      have HKW : Hid (KeptN w wr b) := Lib.hid (KeptN.of_below b (HB0.out.trans (HBS.out.mono (by have := HS0.out; omega))))
      have hgw : w.heap.size < g := by have := HG.out; have := HS0.out; omega
      clear HTO HBL X0 hlt
      have h0 := hk0.out
      have HV : Hid (kids.headD 0 = kids[0]) := Lib.hid (by cases kids with
        | nil => exact absurd h0 (by simp)
        | cons a l => rfl)
      have r0 : wr.cell? ⟨g, 0, none⟩ = some (.int .i64 (toOf tw (kids.headD 0))) := by
        rw [HBX2.out.cell, rowK_at h0, if_pos h0, HV.out]
        simp [h0]
      have hm0 : 0 < m := by have := HM.out; omega
      have HVN : Hid (((toOf tw (kids.headD 0)).toNat : Int) = toOf tw (kids.headD 0)) := Lib.hid (by unfold toOf; simp)
      generalize hV2 : toOf tw (kids.headD 0) = V at *
      have HV2 := Lib.hid hV2
      clear hV2
      clear HV h0
      go_wp2_with fail
      go_ret2
      exact ⟨by (show _ = Ending.returned (.tuple #[.int .i64 (((toOf tw (kids.headD 0)).toNat : Nat) : Int), .bool true])); rw [HV2.out, HVN.out]; rfl, HBW.out, ⟨L, v, by trivial, HBD1.out⟩, HKW.out⟩

set_option maxRecDepth 100000 in
set_option maxHeartbeats 4000000 in
theorem node42_any (bB b tb n : Nat) (tw : List Nat) (L : List NdR) (v : Value) (sf st : Int) (kids : List Int) (text : ByteArray) (B : Int) (N : ByteArray) (D : Int) (M : ByteArray) (num wf wt : Int) (ends : List Int) (kv ev : Value) (w : World) 
    (hb : Bld 74 [.slice (some ⟨tb, 0, none⟩) n n] w bB b L v) (hB : bB ≤ w.heap.size) (hL : L.length + 1 < 16384) (htb : tb < bB) (hto : Bx 3 w tb (toL n tw)) (hn : n ≤ 16384) (hka : ∀ k ∈ kids, 0 ≤ k ∧ k < (n : Nat))
    (hk : NumsB w bB kv kids) (he : NumsB w bB ev ends) (lk : kids.length ≤ 17592186044416) (le : ends.length ≤ 17592186044416) (sx : text.size ≤ 281474976710656) (sn : N.size ≤ 281474976710656) (sm : M.size ≤ 140737488355328) :
    Calls Tryz.prog 42 #[.pointer (some ⟨b, 0, none⟩), .agg #[.int .i64 42, .int .i64 sf, .int .i64 st, kv, .string text, .int .i64 B, .string N, .int .i64 D, .string M, .int .i64 num, .int .i64 wf, .int .i64 wt, ev]] w
      (NodePost (.slice (some ⟨tb, 0, none⟩) n n) w bB b (L.map (·.1) ++ [⟨23, sf, st, kids.map (toOf tw), text, B, N, D, blankT M.size, num, wf, wt, ends⟩]) L.length) := by
  have HEB := Lib.hid he
  obtain ⟨ks, kc, rfl, hks⟩ := hk
  obtain ⟨es, ec, rfl, -⟩ := he
  have HKS := Lib.hid hks
  have HKA := Lib.hid hka
  obtain ⟨W0, hW0⟩ : ∃ W0, W0 = w.alloc (.cells #[.int .i64 42, .int .i64 sf, .int .i64 st, .slice ks kids.length kc, .string text, .int .i64 B, .string N, .int .i64 D, .string M, .int .i64 num, .int .i64 wf, .int .i64 wt, .slice es ends.length ec] 46) := ⟨_, rfl⟩
  have HB0 : Hid (Below w.heap.size w W0) := Lib.hid (by rw [hW0]; exact (Below.refl _ _).alloc (Nat.le_refl _) _)
  have HS0 : Hid (W0.heap.size = w.heap.size + 1) := Lib.hid (by rw [hW0]; simp)
  have X0 : Hid (BoxN W0 w.heap.size [.int .i64 42, .int .i64 sf, .int .i64 st, .slice ks kids.length kc, .string text, .int .i64 B, .string N, .int .i64 D, .string M, .int .i64 num, .int .i64 wf, .int .i64 wt, .slice es ends.length ec]) := Lib.hid (by rw [hW0]; exact BoxN.new w #[.int .i64 42, .int .i64 sf, .int .i64 st, .slice ks kids.length kc, .string text, .int .i64 B, .string N, .int .i64 D, .string M, .int .i64 num, .int .i64 wf, .int .i64 wt, .slice es ends.length ec])
  have HW0 := Lib.hid hW0
  have HBD := Lib.hid (hb.step HB0.out)
  have HTO := Lib.hid (hto.keep HB0.out)
  have hbl := hb.box.lt
  have HMK := Lib.hid (fun W => made_kids tw kids W lk)
  have HBB : Hid (Below bB w W0) := Lib.hid (HB0.out.mono hB)
  have HA := Lib.hid (fun (w2 : World) (kv2 : Value) (h2 : Bld 74 [.slice (some ⟨tb, 0, none⟩) n n] w2 bB b L v) (h3 : bB ≤ w2.heap.size) (h4 : NumsV w2 kv2 (kids.map (toOf tw))) (h5 : NumsV w2 (.slice es ends.length ec) ends) => add_any 74 (by decide) (by decide) [.slice (some ⟨tb, 0, none⟩) n n] bB b L v 23 sf st (kids.map (toOf tw)) text B N D (blankT M.size) num wf wt ends kv2 (.slice es ends.length ec) w2 h2 h3 (by omega) h4 h5 (by simpa using lk) le sx sn (by rw [blankT_size]; omega))
  have HR := Lib.hid (fun (w2 : World) => Tryz.strings_Repeat ⟨#[32]⟩ M.size w2 (by omega) (by rw [show (⟨#[32]⟩ : ByteArray).size = 1 from rfl]; omega))
  have HRW := Lib.hid hb.row_lt
  obtain ⟨m, hm⟩ : ∃ m, m = kids.length := ⟨_, rfl⟩
  have HM := Lib.hid hm
  have HMN : Hid (∀ W : World, (Instr.makeSlice 35 (.int .i64 (m : Int)) (.int .i64 (m : Int))).run Tryz.prog W = .ok (.slice (some ⟨W.heap.size, 0, none⟩) m m) (W.alloc (.cells (rowK tw kids 0).toArray 3))) := Lib.hid (fun W => by have := HMK.out W; rwa [← hm] at this)
  rw [← hm] at HW0 X0 lk
  clear hW0 hb hto hks hka HMK
  obtain ⟨⟨a0, a1, a2, a3, a4, a5, a6, a7, a8, a9, a10, a11, a12⟩, al, af⟩ := X0.out.all
  rw [← hm]
  clear hm
  go_enter Tryz.func42, Tryz.ntmps42
  go_wp2_with fail
  rw [← HW0.out]
  go_wp2_with fail
  rw [HMN.out]
  simp only [Result.andThen_ok]
  rw [Oper.upon_value]
  clear a0 a1 a2 a3 a4 a5 a6 a7 a8 a9 a10 a11 a12 al af HW0
  have b3 : (W0.alloc (.cells (rowK tw kids 0).toArray 3)).cell? ⟨w.heap.size, 3, none⟩ = some (.slice ks m kc) := by
    have := (X0.out.alloc (.cells (rowK tw kids 0).toArray 3)).cell 3
    simpa using this
  go_wp2_with fail
  clear b3
  obtain ⟨g, hg⟩ : ∃ g, g = W0.heap.size := ⟨_, rfl⟩
  have HG := Lib.hid hg
  have HB1 : Hid (Bx 3 (W0.alloc (.cells (rowK tw kids 0).toArray 3)) g (rowK tw kids 0)) := Lib.hid (by rw [hg]; exact Bx.new 3 W0 _)
  have HB2 : Hid (Below g W0 (W0.alloc (.cells (rowK tw kids 0).toArray 3))) := Lib.hid (by rw [hg]; exact (Below.refl _ _).alloc (Nat.le_refl _) _)
  rw [← hg]
  clear hg HMN
  go_loopw [16] (fun a wr => ∃ j : Nat, j ≤ m ∧ a = .int .i64 j ∧ Bx 3 wr g (rowK tw kids j) ∧ Below g W0 wr) (fun a _ => m - (intOf a).toNat)
  case atStart => exact ⟨0, Nat.zero_le _, rfl, HB1.out, HB2.out⟩
  case round =>
    clear HB1 HB2
    obtain ⟨j, hj, rfl, hbx, hbl2⟩ := hrel
    have HBX := Lib.hid hbx
    have HBL := Lib.hid hbl2
    have HBS : Hid (Below W0.heap.size W0 wr) := Lib.hid (by have := HG.out; subst this; exact hbl2)
    have hgl := hbx.lt
    clear hbx hbl2
    by_cases hlt : j < m
    · have hjl : j < kids.length := by have := HM.out; omega
      obtain ⟨kb, koff, rfl, hkb, hkw, hrow⟩ := HKS.out (by omega)
      have c0 : wr.cell? ⟨kb, koff + j, none⟩ = some (.int .i64 kids[j]) := keep HBS.out (by have := HS0.out; omega) (keep HB0.out hkw (hrow j hjl))
      obtain ⟨hk0, hk1⟩ := HKA.out kids[j] (List.getElem_mem hjl)
      have HKJ : Hid (toOf tw kids[j] = ((tw.getD kids[j].toNat 0 : Nat) : Int)) := Lib.hid rfl
      clear hrow
      have HRS := Lib.hid (fun (v : Int) (hv : v = toOf tw kids[j]) => rowK_set (tw := tw) hjl v hv)
      generalize kids[j] = k at *
      obtain ⟨q, rfl⟩ : ∃ q : Nat, k = q := ⟨k.toNat, by omega⟩
      have hqn : q < n := by omega
      have d0 : wr.cell? ⟨tb, q, none⟩ = some (.int .i64 ((tw.getD q 0 : Nat) : Int)) := by
        rw [(HTO.out.keep HBS.out).cell]; exact toL_at hqn
      have e0 : wr.cell? ⟨b, 1, none⟩ = some (.slice (some ⟨tb, 0, none⟩) n n) := by
        have := (HBD.out.box.keep HBS.out).cell 1
        simpa using this
      have g0 := HBX.out.frozen j
      have g1 : wr.cell? ⟨g, j, none⟩ = some (.int .i64 0) := by rw [HBX.out.cell, rowK_at hjl, if_neg (by omega)]
      have HS2 : Hid (Bx 3 (wr.setCell ⟨g, j, none⟩ (.int .i64 ((tw.getD q 0 : Nat) : Int))) g (rowK tw kids (j + 1))) := Lib.hid (by
        have := HBX.out.set j (.int .i64 ((tw.getD q 0 : Nat) : Int))
        rwa [HRS.out _ (by rw [HKJ.out]; rfl)] at this)
      clear HKJ HRS
      generalize tw.getD q 0 = t at *
      go_wp2_with fail
      exact ⟨⟨j + 1, by omega, by go_num, HS2.out, HBL.out.setCell (Nat.le_refl _) _⟩, by simp [intOf]; omega⟩
    · have hjm : j = m := by omega
      have HBX2 : Hid (Bx 3 wr g (rowK tw kids kids.length)) := Lib.hid (by have := HBX.out; rw [hjm, HM.out] at this; exact this)
      clear HBX
      have X1 : Hid (BoxN wr w.heap.size [.int .i64 42, .int .i64 sf, .int .i64 st, .slice ks m kc, .string text, .int .i64 B, .string N, .int .i64 D, .string M, .int .i64 num, .int .i64 wf, .int .i64 wt, .slice es ends.length ec]) := Lib.hid (X0.out.keep HBS.out)
      obtain ⟨⟨a0, a1, a2, a3, a4, a5, a6, a7, a8, a9, a10, a11, a12⟩, al, af⟩ := X1.out.all
      have HBW : Hid (Below bB w wr) := Lib.hid (HBB.out.trans (HBS.out.mono (by have := HS0.out; omega)))
      have HBD1 := Lib.hid (HBD.out.step HBS.out)
      have HKW : Hid (KeptN w wr b) := Lib.hid (KeptN.of_below b (HB0.out.trans (HBS.out.mono (by have := HS0.out; omega))))
      have hgw : w.heap.size < g := by have := HG.out; have := HS0.out; omega
      clear HTO HBL X0 hlt
      have ROWNE : Hid (v.ownBlock ≠ some w.heap.size) := Lib.hid (fun e => by have := HRW.out _ e; omega)
      have XS0 := Lib.hid (X1.out.set 0 (.int .i64 23))
      have BS0 := Lib.hid (HBD1.out.setBox (o := 0) (u := .int .i64 23) X1.out (by omega) ROWNE.out)
      have XS1 := Lib.hid (XS0.out.set 3 (.slice (some ⟨g, 0, none⟩) m m))
      have BS1 := Lib.hid (BS0.out.setBox (o := 3) (u := .slice (some ⟨g, 0, none⟩) m m) XS0.out (by omega) ROWNE.out)
      obtain ⟨W2, hW2⟩ : ∃ W2, W2 = (wr.setCell ⟨w.heap.size, 0, none⟩ (.int .i64 23)).setCell ⟨w.heap.size, 3, none⟩ (.slice (some ⟨g, 0, none⟩) m m) := ⟨_, rfl⟩
      have HW2 := Lib.hid hW2
      have X2 : Hid (BoxN W2 w.heap.size [.int .i64 23, .int .i64 sf, .int .i64 st, .slice (some ⟨g, 0, none⟩) m m, .string text, .int .i64 B, .string N, .int .i64 D, .string M, .int .i64 num, .int .i64 wf, .int .i64 wt, .slice es ends.length ec]) := Lib.hid (by rw [hW2]; exact XS1.out)
      have BD2 : Hid (Bld 74 [.slice (some ⟨tb, 0, none⟩) n n] W2 bB b L v) := Lib.hid (by rw [hW2]; exact BS1.out)
      have K2 : Hid (KeptN wr W2 b) := Lib.hid (by rw [hW2]; exact ((KeptN.setBox X1.out).trans (KeptN.setBox XS0.out)))
      have B2 : Hid (Below bB wr W2) := Lib.hid (by rw [hW2]; exact (((Below.refl bB wr).setCell (p := ⟨w.heap.size, 0, none⟩) hB _).setCell (p := ⟨w.heap.size, 3, none⟩) hB _))
      have R2 : Hid (Bx 3 W2 g (rowK tw kids kids.length)) := Lib.hid (by rw [hW2]; exact ((HBX2.out.other (b' := w.heap.size) (by omega) 0 _).other (b' := w.heap.size) (by omega) 3 _))
      have HE2 := Lib.hid ((HEB.out.to HBW.out).to B2.out)
      have HZ : Hid (bB ≤ W2.heap.size) := Lib.hid (by have := HBW.out.size; have := B2.out.size; omega)
      have HLT := Lib.hid hgw
      subst hjm
      clear hW2 HBX2 HKS HKA
      go_wp2_with fail
      rw [← HW2.out]
      clear a0 a1 a2 a3 a4 a5 a6 a7 a8 a9 a10 a11 a12 al af HW2
      obtain ⟨⟨a0, a1, a2, a3, a4, a5, a6, a7, a8, a9, a10, a11, a12⟩, al, af⟩ := X2.out.all
      go_wp2_with fail
      refine (HR.out _).mono ?_
      rw [repeat_blank]
      rintro e W3 ⟨rfl, h23⟩
      have H3 := Lib.hid h23
      have X3 := Lib.hid (X2.out.keep h23)
      clear a0 a1 a2 a3 a4 a5 a6 a7 a8 a9 a10 a11 a12 al af h23
      have X4 := Lib.hid (X3.out.set 8 (.string (blankT M.size)))
      have BD4 := Lib.hid ((BD2.out.step H3.out).setBox (o := 8) (u := .string (blankT M.size)) X3.out (by omega) ROWNE.out)
      have R4 := Lib.hid ((R2.out.keep H3.out).other (b' := w.heap.size) (by omega) 8 (.string (blankT M.size)))
      have K4 : Hid (KeptN W2 (W3.setCell ⟨w.heap.size, 8, none⟩ (.string (blankT M.size))) b) := Lib.hid ((KeptN.of_below b H3.out).trans (KeptN.setBox X3.out))
      have B4 : Hid (Below bB W2 (W3.setCell ⟨w.heap.size, 8, none⟩ (.string (blankT M.size)))) := Lib.hid ((H3.out.mono HZ.out).setCell (p := ⟨w.heap.size, 8, none⟩) hB _)
      have HE4 := Lib.hid (HE2.out.to B4.out)
      have HZ4 : Hid (bB ≤ (W3.setCell ⟨w.heap.size, 8, none⟩ (.string (blankT M.size))).heap.size) := Lib.hid (by have := HZ.out; have := B4.out.size; omega)
      have HN4 : Hid (NumsV (W3.setCell ⟨w.heap.size, 8, none⟩ (.string (blankT M.size))) (.slice (some ⟨g, 0, none⟩) j j) (kids.map (toOf tw))) := Lib.hid (by rw [HM.out]; exact numsV_row R4.out)
      obtain ⟨W4, hW4⟩ : ∃ W4, W4 = W3.setCell ⟨w.heap.size, 8, none⟩ (.string (blankT M.size)) := ⟨_, rfl⟩
      have HW4 := Lib.hid hW4
      rw [← hW4] at X4 BD4 R4 K4 B4 HE4 HZ4 HN4
      clear hW4
      obtain ⟨⟨a0, a1, a2, a3, a4, a5, a6, a7, a8, a9, a10, a11, a12⟩, al, af⟩ := X3.out.all
      generalize hMB : blankT M.size = MB at *
      have HMB := Lib.hid hMB
      clear hMB
      go_wp2_with fail
      rw [← HW4.out]
      clear a0 a1 a2 a3 a4 a5 a6 a7 a8 a9 a10 a11 a12 al af HW4
      obtain ⟨⟨a0, a1, a2, a3, a4, a5, a6, a7, a8, a9, a10, a11, a12⟩, al, af⟩ := X4.out.all
      go_region_law (first
        | (go_simp
           go_at_call 20
           refine (HA.out _ _ (BD4.out.step (Below.refl _ _).drew) (by simpa using HZ4.out) (HN4.out.step (Below.refl _ _).drew) (HE4.out.v.step (Below.refl _ _).drew)).mono ?_
           rintro e W6 ⟨rfl, h56, ⟨y1, v2, hy1, hbd2⟩, hk2⟩
           have H6 := Lib.hid h56
           have HY1 := Lib.hid hy1
           have BD6 := Lib.hid hbd2
           have HK6 := Lib.hid hk2
           clear h56 hy1 hbd2 hk2))
      all_goals
        clear a0 a1 a2 a3 a4 a5 a6 a7 a8 a9 a10 a11 a12 al af
        go_wp2_with fail
        go_ret2
        refine ⟨rfl, ?_, ⟨L ++ [y1], v2, by rw [List.map_append, List.map_cons, List.map_nil, HY1.out, HMB.out], BD6.out⟩, ?_⟩
        · exact (HBW.out.trans (B2.out.trans B4.out)).trans (show Below bB W4 W6 from ⟨H6.out.os, H6.out.tape, H6.out.output, H6.out.size, H6.out.block⟩)
        · exact (HKW.out.trans (K2.out.trans K4.out)).trans (show KeptN W4 W6 b from HK6.out)

set_option maxRecDepth 100000 in
set_option maxHeartbeats 4000000 in
theorem node43_any (bB b tb n : Nat) (tw : List Nat) (L : List NdR) (v : Value) (sf st : Int) (kids : List Int) (text : ByteArray) (B : Int) (N : ByteArray) (D : Int) (M : ByteArray) (num wf wt : Int) (ends : List Int) (kv ev : Value) (w : World) (hk0 : Hid (0 < kids.length))
    (hb : Bld 74 [.slice (some ⟨tb, 0, none⟩) n n] w bB b L v) (hB : bB ≤ w.heap.size) (hL : L.length + 1 < 16384) (htb : tb < bB) (hto : Bx 3 w tb (toL n tw)) (hn : n ≤ 16384) (hka : ∀ k ∈ kids, 0 ≤ k ∧ k < (n : Nat))
    (hk : NumsB w bB kv kids) (he : NumsB w bB ev ends) (lk : kids.length ≤ 17592186044416) (le : ends.length ≤ 17592186044416) (sx : text.size ≤ 281474976710656) (sn : N.size ≤ 281474976710656) (sm : M.size ≤ 140737488355328) :
    Calls Tryz.prog 42 #[.pointer (some ⟨b, 0, none⟩), .agg #[.int .i64 43, .int .i64 sf, .int .i64 st, kv, .string text, .int .i64 B, .string N, .int .i64 D, .string M, .int .i64 num, .int .i64 wf, .int .i64 wt, ev]] w
      (NodePost (.slice (some ⟨tb, 0, none⟩) n n) w bB b (L.map (·.1) ++ [nullNd st, ⟨34, sf, st, [toOf tw (kids.headD 0), (L.length : Nat)], ⟨#[33, 61]⟩, B, N, D, M, num, wf, wt, ends⟩]) (L.length + 1)) := by
  have HEB := Lib.hid he
  obtain ⟨ks, kc, rfl, hks⟩ := hk
  obtain ⟨es, ec, rfl, -⟩ := he
  have HKS := Lib.hid hks
  have HKA := Lib.hid hka
  obtain ⟨W0, hW0⟩ : ∃ W0, W0 = w.alloc (.cells #[.int .i64 43, .int .i64 sf, .int .i64 st, .slice ks kids.length kc, .string text, .int .i64 B, .string N, .int .i64 D, .string M, .int .i64 num, .int .i64 wf, .int .i64 wt, .slice es ends.length ec] 46) := ⟨_, rfl⟩
  have HB0 : Hid (Below w.heap.size w W0) := Lib.hid (by rw [hW0]; exact (Below.refl _ _).alloc (Nat.le_refl _) _)
  have HS0 : Hid (W0.heap.size = w.heap.size + 1) := Lib.hid (by rw [hW0]; simp)
  have X0 : Hid (BoxN W0 w.heap.size [.int .i64 43, .int .i64 sf, .int .i64 st, .slice ks kids.length kc, .string text, .int .i64 B, .string N, .int .i64 D, .string M, .int .i64 num, .int .i64 wf, .int .i64 wt, .slice es ends.length ec]) := Lib.hid (by rw [hW0]; exact BoxN.new w #[.int .i64 43, .int .i64 sf, .int .i64 st, .slice ks kids.length kc, .string text, .int .i64 B, .string N, .int .i64 D, .string M, .int .i64 num, .int .i64 wf, .int .i64 wt, .slice es ends.length ec])
  have HW0 := Lib.hid hW0
  have HBD := Lib.hid (hb.step HB0.out)
  have HTO := Lib.hid (hto.keep HB0.out)
  have hbl := hb.box.lt
  have HMK := Lib.hid (fun W => made_kids tw kids W lk)
  have HBB : Hid (Below bB w W0) := Lib.hid (HB0.out.mono hB)
  have HH := Lib.hid (fun (w2 : World) (val : Int) (h2 : Bld 74 [.slice (some ⟨tb, 0, none⟩) n n] w2 bB b L v) (h3 : bB ≤ w2.heap.size) (h4 : NumsB w2 bB (.slice es ends.length ec) ends) => held_any (.slice (some ⟨tb, 0, none⟩) n n) bB b L v 43 sf st kids text B N D M num wf wt ends ks kc (.slice es ends.length ec) val ⟨#[33, 61]⟩ w2 (by decide) h2 h3 hL h4 le (by decide) sn (by omega))
  obtain ⟨m, hm⟩ : ∃ m, m = kids.length := ⟨_, rfl⟩
  have HM := Lib.hid hm
  have HMN : Hid (∀ W : World, (Instr.makeSlice 35 (.int .i64 (m : Int)) (.int .i64 (m : Int))).run Tryz.prog W = .ok (.slice (some ⟨W.heap.size, 0, none⟩) m m) (W.alloc (.cells (rowK tw kids 0).toArray 3))) := Lib.hid (fun W => by have := HMK.out W; rwa [← hm] at this)
  rw [← hm] at HW0 X0 lk
  clear hW0 hb hto hks hka HMK
  obtain ⟨⟨a0, a1, a2, a3, a4, a5, a6, a7, a8, a9, a10, a11, a12⟩, al, af⟩ := X0.out.all
  rw [← hm]
  clear hm
  go_enter Tryz.func42, Tryz.ntmps42
  go_wp2_with fail
  rw [← HW0.out]
  go_wp2_with fail
  rw [HMN.out]
  simp only [Result.andThen_ok]
  rw [Oper.upon_value]
  clear a0 a1 a2 a3 a4 a5 a6 a7 a8 a9 a10 a11 a12 al af HW0
  have b3 : (W0.alloc (.cells (rowK tw kids 0).toArray 3)).cell? ⟨w.heap.size, 3, none⟩ = some (.slice ks m kc) := by
    have := (X0.out.alloc (.cells (rowK tw kids 0).toArray 3)).cell 3
    simpa using this
  go_wp2_with fail
  clear b3
  obtain ⟨g, hg⟩ : ∃ g, g = W0.heap.size := ⟨_, rfl⟩
  have HG := Lib.hid hg
  have HB1 : Hid (Bx 3 (W0.alloc (.cells (rowK tw kids 0).toArray 3)) g (rowK tw kids 0)) := Lib.hid (by rw [hg]; exact Bx.new 3 W0 _)
  have HB2 : Hid (Below g W0 (W0.alloc (.cells (rowK tw kids 0).toArray 3))) := Lib.hid (by rw [hg]; exact (Below.refl _ _).alloc (Nat.le_refl _) _)
  rw [← hg]
  clear hg HMN
  go_loopw [16] (fun a wr => ∃ j : Nat, j ≤ m ∧ a = .int .i64 j ∧ Bx 3 wr g (rowK tw kids j) ∧ Below g W0 wr) (fun a _ => m - (intOf a).toNat)
  case atStart => exact ⟨0, Nat.zero_le _, rfl, HB1.out, HB2.out⟩
  case round =>
    clear HB1 HB2
    obtain ⟨j, hj, rfl, hbx, hbl2⟩ := hrel
    have HBX := Lib.hid hbx
    have HBL := Lib.hid hbl2
    have HBS : Hid (Below W0.heap.size W0 wr) := Lib.hid (by have := HG.out; subst this; exact hbl2)
    have hgl := hbx.lt
    clear hbx hbl2
    by_cases hlt : j < m
    · have hjl : j < kids.length := by have := HM.out; omega
      obtain ⟨kb, koff, rfl, hkb, hkw, hrow⟩ := HKS.out (by omega)
      have c0 : wr.cell? ⟨kb, koff + j, none⟩ = some (.int .i64 kids[j]) := keep HBS.out (by have := HS0.out; omega) (keep HB0.out hkw (hrow j hjl))
      obtain ⟨hk0, hk1⟩ := HKA.out kids[j] (List.getElem_mem hjl)
      have HKJ : Hid (toOf tw kids[j] = ((tw.getD kids[j].toNat 0 : Nat) : Int)) := Lib.hid rfl
      clear hrow
      have HRS := Lib.hid (fun (v : Int) (hv : v = toOf tw kids[j]) => rowK_set (tw := tw) hjl v hv)
      generalize kids[j] = k at *
      obtain ⟨q, rfl⟩ : ∃ q : Nat, k = q := ⟨k.toNat, by omega⟩
      have hqn : q < n := by omega
      have d0 : wr.cell? ⟨tb, q, none⟩ = some (.int .i64 ((tw.getD q 0 : Nat) : Int)) := by
        rw [(HTO.out.keep HBS.out).cell]; exact toL_at hqn
      have e0 : wr.cell? ⟨b, 1, none⟩ = some (.slice (some ⟨tb, 0, none⟩) n n) := by
        have := (HBD.out.box.keep HBS.out).cell 1
        simpa using this
      have g0 := HBX.out.frozen j
      have g1 : wr.cell? ⟨g, j, none⟩ = some (.int .i64 0) := by rw [HBX.out.cell, rowK_at hjl, if_neg (by omega)]
      have HS2 : Hid (Bx 3 (wr.setCell ⟨g, j, none⟩ (.int .i64 ((tw.getD q 0 : Nat) : Int))) g (rowK tw kids (j + 1))) := Lib.hid (by
        have := HBX.out.set j (.int .i64 ((tw.getD q 0 : Nat) : Int))
        rwa [HRS.out _ (by rw [HKJ.out]; rfl)] at this)
      clear HKJ HRS
      generalize tw.getD q 0 = t at *
      go_wp2_with fail
      exact ⟨⟨j + 1, by omega, by go_num, HS2.out, HBL.out.setCell (Nat.le_refl _) _⟩, by simp [intOf]; omega⟩
    · have hjm : j = m := by omega
      have HBX2 : Hid (Bx 3 wr g (rowK tw kids kids.length)) := Lib.hid (by have := HBX.out; rw [hjm, HM.out] at this; exact this)
      clear HBX
      have X1 : Hid (BoxN wr w.heap.size [.int .i64 43, .int .i64 sf, .int .i64 st, .slice ks m kc, .string text, .int .i64 B, .string N, .int .i64 D, .string M, .int .i64 num, .int .i64 wf, .int .i64 wt, .slice es ends.length ec]) := Lib.hid (X0.out.keep HBS.out)
      obtain ⟨⟨a0, a1, a2, a3, a4, a5, a6, a7, a8, a9, a10, a11, a12⟩, al, af⟩ := X1.out.all
      have HBW : Hid (Below bB w wr) := Lib.hid (HBB.out.trans (HBS.out.mono (by have := HS0.out; omega)))
      have HBD1 := Lib.hid (HBD.out.step HBS.out)
      have HKW : Hid (KeptN w wr b) := Lib.hid (KeptN.of_below b (HB0.out.trans (HBS.out.mono (by have := HS0.out; omega))))
      have hgw : w.heap.size < g := by have := HG.out; have := HS0.out; omega
      clear HTO HBL X0 hlt
      have h0 := hk0.out
      have HV : Hid (kids.headD 0 = kids[0]) := Lib.hid (by cases kids with
        | nil => exact absurd h0 (by simp)
        | cons a l => rfl)
      have r0 : wr.cell? ⟨g, 0, none⟩ = some (.int .i64 (toOf tw (kids.headD 0))) := by
        rw [HBX2.out.cell, rowK_at h0, if_pos h0, HV.out]
        simp [h0]
      have hm0 : 0 < m := by have := HM.out; omega
      have HVN : Hid (((toOf tw (kids.headD 0)).toNat : Int) = toOf tw (kids.headD 0)) := Lib.hid (by unfold toOf; simp)
      generalize hV2 : toOf tw (kids.headD 0) = V at *
      have HV2 := Lib.hid hV2
      clear hV2
      clear HV h0
      rw [← HM.out] at HH
      have HE1 := Lib.hid (HEB.out.to HBW.out)
      have HZ : Hid (bB ≤ wr.heap.size) := Lib.hid (by have := HBW.out.size; omega)
      clear HBX2 HKS HKA
      go_wp2_with fail
      go_region_law (first
        | (go_simp
           go_at_call 54
           refine (HH.out _ _ (HBD1.out.step (Below.refl _ _).drew) (by simpa using HZ.out) (HE1.out.to (Below.refl _ _).drew)).mono ?_
           rintro e W6 ⟨rfl, h56, ⟨y1, y2, v2, hy1, hy2, hbd2⟩, hk2⟩
           have H6 := Lib.hid h56
           have HY1 := Lib.hid hy1
           have HY2 := Lib.hid hy2
           have BD6 := Lib.hid hbd2
           have HK6 := Lib.hid hk2
           clear h56 hy1 hy2 hbd2 hk2))
      all_goals
        clear a0 a1 a2 a3 a4 a5 a6 a7 a8 a9 a10 a11 a12 al af r0
        go_wp2_with fail
        go_ret2
        refine ⟨by (have e2 : ((L.length + 1 : Nat) : Int) = (L.length : Int) + 1 := by push_cast; rfl)
                   rw [e2]; rfl, ?_, ⟨L ++ [y1, y2], v2, by rw [List.map_append, List.map_cons, List.map_cons, List.map_nil, HY1.out, HY2.out, HV2.out]; rfl, BD6.out⟩, ?_⟩
        · exact HBW.out.trans (show Below bB wr W6 from ⟨H6.out.os, H6.out.tape, H6.out.output, H6.out.size, H6.out.block⟩)
        · exact HKW.out.trans (show KeptN wr W6 b from HK6.out)

set_option maxRecDepth 100000 in
set_option maxHeartbeats 4000000 in
theorem node44_any (bB b tb n : Nat) (tw : List Nat) (L : List NdR) (v : Value) (sf st : Int) (kids : List Int) (text : ByteArray) (B : Int) (N : ByteArray) (D : Int) (M : ByteArray) (num wf wt : Int) (ends : List Int) (kv ev : Value) (w : World) (hk0 : Hid (0 < kids.length))
    (hb : Bld 74 [.slice (some ⟨tb, 0, none⟩) n n] w bB b L v) (hB : bB ≤ w.heap.size) (hL : L.length + 1 < 16384) (htb : tb < bB) (hto : Bx 3 w tb (toL n tw)) (hn : n ≤ 16384) (hka : ∀ k ∈ kids, 0 ≤ k ∧ k < (n : Nat))
    (hk : NumsB w bB kv kids) (he : NumsB w bB ev ends) (lk : kids.length ≤ 17592186044416) (le : ends.length ≤ 17592186044416) (sx : text.size ≤ 281474976710656) (sn : N.size ≤ 281474976710656) (sm : M.size ≤ 140737488355328) :
    Calls Tryz.prog 42 #[.pointer (some ⟨b, 0, none⟩), .agg #[.int .i64 44, .int .i64 sf, .int .i64 st, kv, .string text, .int .i64 B, .string N, .int .i64 D, .string M, .int .i64 num, .int .i64 wf, .int .i64 wt, ev]] w
      (NodePost (.slice (some ⟨tb, 0, none⟩) n n) w bB b (L.map (·.1) ++ [nullNd st, ⟨34, sf, st, [toOf tw (kids.headD 0), (L.length : Nat)], ⟨#[61, 61]⟩, B, N, D, M, num, wf, wt, ends⟩]) (L.length + 1)) := by
  have HEB := Lib.hid he
  obtain ⟨ks, kc, rfl, hks⟩ := hk
  obtain ⟨es, ec, rfl, -⟩ := he
  have HKS := Lib.hid hks
  have HKA := Lib.hid hka
  obtain ⟨W0, hW0⟩ : ∃ W0, W0 = w.alloc (.cells #[.int .i64 44, .int .i64 sf, .int .i64 st, .slice ks kids.length kc, .string text, .int .i64 B, .string N, .int .i64 D, .string M, .int .i64 num, .int .i64 wf, .int .i64 wt, .slice es ends.length ec] 46) := ⟨_, rfl⟩
  have HB0 : Hid (Below w.heap.size w W0) := Lib.hid (by rw [hW0]; exact (Below.refl _ _).alloc (Nat.le_refl _) _)
  have HS0 : Hid (W0.heap.size = w.heap.size + 1) := Lib.hid (by rw [hW0]; simp)
  have X0 : Hid (BoxN W0 w.heap.size [.int .i64 44, .int .i64 sf, .int .i64 st, .slice ks kids.length kc, .string text, .int .i64 B, .string N, .int .i64 D, .string M, .int .i64 num, .int .i64 wf, .int .i64 wt, .slice es ends.length ec]) := Lib.hid (by rw [hW0]; exact BoxN.new w #[.int .i64 44, .int .i64 sf, .int .i64 st, .slice ks kids.length kc, .string text, .int .i64 B, .string N, .int .i64 D, .string M, .int .i64 num, .int .i64 wf, .int .i64 wt, .slice es ends.length ec])
  have HW0 := Lib.hid hW0
  have HBD := Lib.hid (hb.step HB0.out)
  have HTO := Lib.hid (hto.keep HB0.out)
  have hbl := hb.box.lt
  have HMK := Lib.hid (fun W => made_kids tw kids W lk)
  have HBB : Hid (Below bB w W0) := Lib.hid (HB0.out.mono hB)
  have HH := Lib.hid (fun (w2 : World) (val : Int) (h2 : Bld 74 [.slice (some ⟨tb, 0, none⟩) n n] w2 bB b L v) (h3 : bB ≤ w2.heap.size) (h4 : NumsB w2 bB (.slice es ends.length ec) ends) => held_any (.slice (some ⟨tb, 0, none⟩) n n) bB b L v 44 sf st kids text B N D M num wf wt ends ks kc (.slice es ends.length ec) val ⟨#[61, 61]⟩ w2 (by decide) h2 h3 hL h4 le (by decide) sn (by omega))
  obtain ⟨m, hm⟩ : ∃ m, m = kids.length := ⟨_, rfl⟩
  have HM := Lib.hid hm
  have HMN : Hid (∀ W : World, (Instr.makeSlice 35 (.int .i64 (m : Int)) (.int .i64 (m : Int))).run Tryz.prog W = .ok (.slice (some ⟨W.heap.size, 0, none⟩) m m) (W.alloc (.cells (rowK tw kids 0).toArray 3))) := Lib.hid (fun W => by have := HMK.out W; rwa [← hm] at this)
  rw [← hm] at HW0 X0 lk
  clear hW0 hb hto hks hka HMK
  obtain ⟨⟨a0, a1, a2, a3, a4, a5, a6, a7, a8, a9, a10, a11, a12⟩, al, af⟩ := X0.out.all
  rw [← hm]
  clear hm
  go_enter Tryz.func42, Tryz.ntmps42
  go_wp2_with fail
  rw [← HW0.out]
  go_wp2_with fail
  rw [HMN.out]
  simp only [Result.andThen_ok]
  rw [Oper.upon_value]
  clear a0 a1 a2 a3 a4 a5 a6 a7 a8 a9 a10 a11 a12 al af HW0
  have b3 : (W0.alloc (.cells (rowK tw kids 0).toArray 3)).cell? ⟨w.heap.size, 3, none⟩ = some (.slice ks m kc) := by
    have := (X0.out.alloc (.cells (rowK tw kids 0).toArray 3)).cell 3
    simpa using this
  go_wp2_with fail
  clear b3
  obtain ⟨g, hg⟩ : ∃ g, g = W0.heap.size := ⟨_, rfl⟩
  have HG := Lib.hid hg
  have HB1 : Hid (Bx 3 (W0.alloc (.cells (rowK tw kids 0).toArray 3)) g (rowK tw kids 0)) := Lib.hid (by rw [hg]; exact Bx.new 3 W0 _)
  have HB2 : Hid (Below g W0 (W0.alloc (.cells (rowK tw kids 0).toArray 3))) := Lib.hid (by rw [hg]; exact (Below.refl _ _).alloc (Nat.le_refl _) _)
  rw [← hg]
  clear hg HMN
  go_loopw [16] (fun a wr => ∃ j : Nat, j ≤ m ∧ a = .int .i64 j ∧ Bx 3 wr g (rowK tw kids j) ∧ Below g W0 wr) (fun a _ => m - (intOf a).toNat)
  case atStart => exact ⟨0, Nat.zero_le _, rfl, HB1.out, HB2.out⟩
  case round =>
    clear HB1 HB2
    obtain ⟨j, hj, rfl, hbx, hbl2⟩ := hrel
    have HBX := Lib.hid hbx
    have HBL := Lib.hid hbl2
    have HBS : Hid (Below W0.heap.size W0 wr) := Lib.hid (by have := HG.out; subst this; exact hbl2)
    have hgl := hbx.lt
    clear hbx hbl2
    by_cases hlt : j < m
    · have hjl : j < kids.length := by have := HM.out; omega
      obtain ⟨kb, koff, rfl, hkb, hkw, hrow⟩ := HKS.out (by omega)
      have c0 : wr.cell? ⟨kb, koff + j, none⟩ = some (.int .i64 kids[j]) := keep HBS.out (by have := HS0.out; omega) (keep HB0.out hkw (hrow j hjl))
      obtain ⟨hk0, hk1⟩ := HKA.out kids[j] (List.getElem_mem hjl)
      have HKJ : Hid (toOf tw kids[j] = ((tw.getD kids[j].toNat 0 : Nat) : Int)) := Lib.hid rfl
      clear hrow
      have HRS := Lib.hid (fun (v : Int) (hv : v = toOf tw kids[j]) => rowK_set (tw := tw) hjl v hv)
      generalize kids[j] = k at *
      obtain ⟨q, rfl⟩ : ∃ q : Nat, k = q := ⟨k.toNat, by omega⟩
      have hqn : q < n := by omega
      have d0 : wr.cell? ⟨tb, q, none⟩ = some (.int .i64 ((tw.getD q 0 : Nat) : Int)) := by
        rw [(HTO.out.keep HBS.out).cell]; exact toL_at hqn
      have e0 : wr.cell? ⟨b, 1, none⟩ = some (.slice (some ⟨tb, 0, none⟩) n n) := by
        have := (HBD.out.box.keep HBS.out).cell 1
        simpa using this
      have g0 := HBX.out.frozen j
      have g1 : wr.cell? ⟨g, j, none⟩ = some (.int .i64 0) := by rw [HBX.out.cell, rowK_at hjl, if_neg (by omega)]
      have HS2 : Hid (Bx 3 (wr.setCell ⟨g, j, none⟩ (.int .i64 ((tw.getD q 0 : Nat) : Int))) g (rowK tw kids (j + 1))) := Lib.hid (by
        have := HBX.out.set j (.int .i64 ((tw.getD q 0 : Nat) : Int))
        rwa [HRS.out _ (by rw [HKJ.out]; rfl)] at this)
      clear HKJ HRS
      generalize tw.getD q 0 = t at *
      go_wp2_with fail
      exact ⟨⟨j + 1, by omega, by go_num, HS2.out, HBL.out.setCell (Nat.le_refl _) _⟩, by simp [intOf]; omega⟩
    · have hjm : j = m := by omega
      have HBX2 : Hid (Bx 3 wr g (rowK tw kids kids.length)) := Lib.hid (by have := HBX.out; rw [hjm, HM.out] at this; exact this)
      clear HBX
      have X1 : Hid (BoxN wr w.heap.size [.int .i64 44, .int .i64 sf, .int .i64 st, .slice ks m kc, .string text, .int .i64 B, .string N, .int .i64 D, .string M, .int .i64 num, .int .i64 wf, .int .i64 wt, .slice es ends.length ec]) := Lib.hid (X0.out.keep HBS.out)
      obtain ⟨⟨a0, a1, a2, a3, a4, a5, a6, a7, a8, a9, a10, a11, a12⟩, al, af⟩ := X1.out.all
      have HBW : Hid (Below bB w wr) := Lib.hid (HBB.out.trans (HBS.out.mono (by have := HS0.out; omega)))
      have HBD1 := Lib.hid (HBD.out.step HBS.out)
      have HKW : Hid (KeptN w wr b) := Lib.hid (KeptN.of_below b (HB0.out.trans (HBS.out.mono (by have := HS0.out; omega))))
      have hgw : w.heap.size < g := by have := HG.out; have := HS0.out; omega
      clear HTO HBL X0 hlt
      have h0 := hk0.out
      have HV : Hid (kids.headD 0 = kids[0]) := Lib.hid (by cases kids with
        | nil => exact absurd h0 (by simp)
        | cons a l => rfl)
      have r0 : wr.cell? ⟨g, 0, none⟩ = some (.int .i64 (toOf tw (kids.headD 0))) := by
        rw [HBX2.out.cell, rowK_at h0, if_pos h0, HV.out]
        simp [h0]
      have hm0 : 0 < m := by have := HM.out; omega
      have HVN : Hid (((toOf tw (kids.headD 0)).toNat : Int) = toOf tw (kids.headD 0)) := Lib.hid (by unfold toOf; simp)
      generalize hV2 : toOf tw (kids.headD 0) = V at *
      have HV2 := Lib.hid hV2
      clear hV2
      clear HV h0
      rw [← HM.out] at HH
      have HE1 := Lib.hid (HEB.out.to HBW.out)
      have HZ : Hid (bB ≤ wr.heap.size) := Lib.hid (by have := HBW.out.size; omega)
      clear HBX2 HKS HKA
      go_wp2_with fail
      go_region_law (first
        | (go_simp
           go_at_call 54
           refine (HH.out _ _ (HBD1.out.step (Below.refl _ _).drew) (by simpa using HZ.out) (HE1.out.to (Below.refl _ _).drew)).mono ?_
           rintro e W6 ⟨rfl, h56, ⟨y1, y2, v2, hy1, hy2, hbd2⟩, hk2⟩
           have H6 := Lib.hid h56
           have HY1 := Lib.hid hy1
           have HY2 := Lib.hid hy2
           have BD6 := Lib.hid hbd2
           have HK6 := Lib.hid hk2
           clear h56 hy1 hy2 hbd2 hk2))
      all_goals
        clear a0 a1 a2 a3 a4 a5 a6 a7 a8 a9 a10 a11 a12 al af r0
        go_wp2_with fail
        go_ret2
        refine ⟨by (have e2 : ((L.length + 1 : Nat) : Int) = (L.length : Int) + 1 := by push_cast; rfl)
                   rw [e2]; rfl, ?_, ⟨L ++ [y1, y2], v2, by rw [List.map_append, List.map_cons, List.map_cons, List.map_nil, HY1.out, HY2.out, HV2.out]; rfl, BD6.out⟩, ?_⟩
        · exact HBW.out.trans (show Below bB wr W6 from ⟨H6.out.os, H6.out.tape, H6.out.output, H6.out.size, H6.out.block⟩)
        · exact HKW.out.trans (show KeptN wr W6 b from HK6.out)

set_option maxRecDepth 100000 in
set_option maxHeartbeats 4000000 in
theorem nodeK_any (bB b tb n : Nat) (tw : List Nat) (L : List NdR) (v : Value) (kind : Int) (sf st : Int) (kids : List Int) (text : ByteArray) (B : Int) (N : ByteArray) (D : Int) (M : ByteArray) (num wf wt : Int) (ends : List Int) (kv ev : Value) (w : World) (q40 : (kind == 40) = false) (q41 : (kind == 41) = false) (q45 : (kind == 45) = false) (q42 : (kind == 42) = false) (q43 : (kind == 43) = false) (q44 : (kind == 44) = false)
    (hb : Bld 74 [.slice (some ⟨tb, 0, none⟩) n n] w bB b L v) (hB : bB ≤ w.heap.size) (hL : L.length + 1 < 16384) (htb : tb < bB) (hto : Bx 3 w tb (toL n tw)) (hn : n ≤ 16384) (hka : ∀ k ∈ kids, 0 ≤ k ∧ k < (n : Nat))
    (hk : NumsB w bB kv kids) (he : NumsB w bB ev ends) (lk : kids.length ≤ 17592186044416) (le : ends.length ≤ 17592186044416) (sx : text.size ≤ 281474976710656) (sn : N.size ≤ 281474976710656) (sm : M.size ≤ 140737488355328) :
    Calls Tryz.prog 42 #[.pointer (some ⟨b, 0, none⟩), .agg #[.int .i64 kind, .int .i64 sf, .int .i64 st, kv, .string text, .int .i64 B, .string N, .int .i64 D, .string M, .int .i64 num, .int .i64 wf, .int .i64 wt, ev]] w
      (NodePost (.slice (some ⟨tb, 0, none⟩) n n) w bB b (L.map (·.1) ++ [⟨kind, sf, st, kids.map (toOf tw), text, B, N, D, blankT M.size, num, wf, wt, ends⟩]) L.length) := by
  have HEB := Lib.hid he
  obtain ⟨ks, kc, rfl, hks⟩ := hk
  obtain ⟨es, ec, rfl, -⟩ := he
  have HKS := Lib.hid hks
  have HKA := Lib.hid hka
  obtain ⟨W0, hW0⟩ : ∃ W0, W0 = w.alloc (.cells #[.int .i64 kind, .int .i64 sf, .int .i64 st, .slice ks kids.length kc, .string text, .int .i64 B, .string N, .int .i64 D, .string M, .int .i64 num, .int .i64 wf, .int .i64 wt, .slice es ends.length ec] 46) := ⟨_, rfl⟩
  have HB0 : Hid (Below w.heap.size w W0) := Lib.hid (by rw [hW0]; exact (Below.refl _ _).alloc (Nat.le_refl _) _)
  have HS0 : Hid (W0.heap.size = w.heap.size + 1) := Lib.hid (by rw [hW0]; simp)
  have X0 : Hid (BoxN W0 w.heap.size [.int .i64 kind, .int .i64 sf, .int .i64 st, .slice ks kids.length kc, .string text, .int .i64 B, .string N, .int .i64 D, .string M, .int .i64 num, .int .i64 wf, .int .i64 wt, .slice es ends.length ec]) := Lib.hid (by rw [hW0]; exact BoxN.new w #[.int .i64 kind, .int .i64 sf, .int .i64 st, .slice ks kids.length kc, .string text, .int .i64 B, .string N, .int .i64 D, .string M, .int .i64 num, .int .i64 wf, .int .i64 wt, .slice es ends.length ec])
  have HW0 := Lib.hid hW0
  have HBD := Lib.hid (hb.step HB0.out)
  have HTO := Lib.hid (hto.keep HB0.out)
  have hbl := hb.box.lt
  have HMK := Lib.hid (fun W => made_kids tw kids W lk)
  have HBB : Hid (Below bB w W0) := Lib.hid (HB0.out.mono hB)
  have HA := Lib.hid (fun (w2 : World) (kv2 : Value) (h2 : Bld 74 [.slice (some ⟨tb, 0, none⟩) n n] w2 bB b L v) (h3 : bB ≤ w2.heap.size) (h4 : NumsV w2 kv2 (kids.map (toOf tw))) (h5 : NumsV w2 (.slice es ends.length ec) ends) => add_any 74 (by decide) (by decide) [.slice (some ⟨tb, 0, none⟩) n n] bB b L v kind sf st (kids.map (toOf tw)) text B N D (blankT M.size) num wf wt ends kv2 (.slice es ends.length ec) w2 h2 h3 (by omega) h4 h5 (by simpa using lk) le sx sn (by rw [blankT_size]; omega))
  have HR := Lib.hid (fun (w2 : World) => Tryz.strings_Repeat ⟨#[32]⟩ M.size w2 (by omega) (by rw [show (⟨#[32]⟩ : ByteArray).size = 1 from rfl]; omega))
  have HRW := Lib.hid hb.row_lt
  obtain ⟨m, hm⟩ : ∃ m, m = kids.length := ⟨_, rfl⟩
  have HM := Lib.hid hm
  have HMN : Hid (∀ W : World, (Instr.makeSlice 35 (.int .i64 (m : Int)) (.int .i64 (m : Int))).run Tryz.prog W = .ok (.slice (some ⟨W.heap.size, 0, none⟩) m m) (W.alloc (.cells (rowK tw kids 0).toArray 3))) := Lib.hid (fun W => by have := HMK.out W; rwa [← hm] at this)
  rw [← hm] at HW0 X0 lk
  clear hW0 hb hto hks hka HMK
  obtain ⟨⟨a0, a1, a2, a3, a4, a5, a6, a7, a8, a9, a10, a11, a12⟩, al, af⟩ := X0.out.all
  rw [← hm]
  clear hm
  go_enter Tryz.func42, Tryz.ntmps42
  go_wp2_with fail
  rw [← HW0.out]
  go_wp2_with fail
  rw [HMN.out]
  simp only [Result.andThen_ok]
  rw [Oper.upon_value]
  clear a0 a1 a2 a3 a4 a5 a6 a7 a8 a9 a10 a11 a12 al af HW0
  have b3 : (W0.alloc (.cells (rowK tw kids 0).toArray 3)).cell? ⟨w.heap.size, 3, none⟩ = some (.slice ks m kc) := by
    have := (X0.out.alloc (.cells (rowK tw kids 0).toArray 3)).cell 3
    simpa using this
  go_wp2_with fail
  clear b3
  obtain ⟨g, hg⟩ : ∃ g, g = W0.heap.size := ⟨_, rfl⟩
  have HG := Lib.hid hg
  have HB1 : Hid (Bx 3 (W0.alloc (.cells (rowK tw kids 0).toArray 3)) g (rowK tw kids 0)) := Lib.hid (by rw [hg]; exact Bx.new 3 W0 _)
  have HB2 : Hid (Below g W0 (W0.alloc (.cells (rowK tw kids 0).toArray 3))) := Lib.hid (by rw [hg]; exact (Below.refl _ _).alloc (Nat.le_refl _) _)
  rw [← hg]
  clear hg HMN
  go_loopw [16] (fun a wr => ∃ j : Nat, j ≤ m ∧ a = .int .i64 j ∧ Bx 3 wr g (rowK tw kids j) ∧ Below g W0 wr) (fun a _ => m - (intOf a).toNat)
  case atStart => exact ⟨0, Nat.zero_le _, rfl, HB1.out, HB2.out⟩
  case round =>
    clear HB1 HB2
    obtain ⟨j, hj, rfl, hbx, hbl2⟩ := hrel
    have HBX := Lib.hid hbx
    have HBL := Lib.hid hbl2
    have HBS : Hid (Below W0.heap.size W0 wr) := Lib.hid (by have := HG.out; subst this; exact hbl2)
    have hgl := hbx.lt
    clear hbx hbl2
    by_cases hlt : j < m
    · have hjl : j < kids.length := by have := HM.out; omega
      obtain ⟨kb, koff, rfl, hkb, hkw, hrow⟩ := HKS.out (by omega)
      have c0 : wr.cell? ⟨kb, koff + j, none⟩ = some (.int .i64 kids[j]) := keep HBS.out (by have := HS0.out; omega) (keep HB0.out hkw (hrow j hjl))
      obtain ⟨hk0, hk1⟩ := HKA.out kids[j] (List.getElem_mem hjl)
      have HKJ : Hid (toOf tw kids[j] = ((tw.getD kids[j].toNat 0 : Nat) : Int)) := Lib.hid rfl
      clear hrow
      have HRS := Lib.hid (fun (v : Int) (hv : v = toOf tw kids[j]) => rowK_set (tw := tw) hjl v hv)
      generalize kids[j] = k at *
      obtain ⟨q, rfl⟩ : ∃ q : Nat, k = q := ⟨k.toNat, by omega⟩
      have hqn : q < n := by omega
      have d0 : wr.cell? ⟨tb, q, none⟩ = some (.int .i64 ((tw.getD q 0 : Nat) : Int)) := by
        rw [(HTO.out.keep HBS.out).cell]; exact toL_at hqn
      have e0 : wr.cell? ⟨b, 1, none⟩ = some (.slice (some ⟨tb, 0, none⟩) n n) := by
        have := (HBD.out.box.keep HBS.out).cell 1
        simpa using this
      have g0 := HBX.out.frozen j
      have g1 : wr.cell? ⟨g, j, none⟩ = some (.int .i64 0) := by rw [HBX.out.cell, rowK_at hjl, if_neg (by omega)]
      have HS2 : Hid (Bx 3 (wr.setCell ⟨g, j, none⟩ (.int .i64 ((tw.getD q 0 : Nat) : Int))) g (rowK tw kids (j + 1))) := Lib.hid (by
        have := HBX.out.set j (.int .i64 ((tw.getD q 0 : Nat) : Int))
        rwa [HRS.out _ (by rw [HKJ.out]; rfl)] at this)
      clear HKJ HRS
      generalize tw.getD q 0 = t at *
      go_wp2_with fail
      exact ⟨⟨j + 1, by omega, by go_num, HS2.out, HBL.out.setCell (Nat.le_refl _) _⟩, by simp [intOf]; omega⟩
    · have hjm : j = m := by omega
      have HBX2 : Hid (Bx 3 wr g (rowK tw kids kids.length)) := Lib.hid (by have := HBX.out; rw [hjm, HM.out] at this; exact this)
      clear HBX
      have X1 : Hid (BoxN wr w.heap.size [.int .i64 kind, .int .i64 sf, .int .i64 st, .slice ks m kc, .string text, .int .i64 B, .string N, .int .i64 D, .string M, .int .i64 num, .int .i64 wf, .int .i64 wt, .slice es ends.length ec]) := Lib.hid (X0.out.keep HBS.out)
      obtain ⟨⟨a0, a1, a2, a3, a4, a5, a6, a7, a8, a9, a10, a11, a12⟩, al, af⟩ := X1.out.all
      have HBW : Hid (Below bB w wr) := Lib.hid (HBB.out.trans (HBS.out.mono (by have := HS0.out; omega)))
      have HBD1 := Lib.hid (HBD.out.step HBS.out)
      have HKW : Hid (KeptN w wr b) := Lib.hid (KeptN.of_below b (HB0.out.trans (HBS.out.mono (by have := HS0.out; omega))))
      have hgw : w.heap.size < g := by have := HG.out; have := HS0.out; omega
      clear HTO HBL X0 hlt
      have ROWNE : Hid (v.ownBlock ≠ some w.heap.size) := Lib.hid (fun e => by have := HRW.out _ e; omega)
      have XS0 := Lib.hid (X1.out.set 3 (.slice (some ⟨g, 0, none⟩) m m))
      have BS0 := Lib.hid (HBD1.out.setBox (o := 3) (u := .slice (some ⟨g, 0, none⟩) m m) X1.out (by omega) ROWNE.out)
      obtain ⟨W2, hW2⟩ : ∃ W2, W2 = wr.setCell ⟨w.heap.size, 3, none⟩ (.slice (some ⟨g, 0, none⟩) m m) := ⟨_, rfl⟩
      have HW2 := Lib.hid hW2
      have X2 : Hid (BoxN W2 w.heap.size [.int .i64 kind, .int .i64 sf, .int .i64 st, .slice (some ⟨g, 0, none⟩) m m, .string text, .int .i64 B, .string N, .int .i64 D, .string M, .int .i64 num, .int .i64 wf, .int .i64 wt, .slice es ends.length ec]) := Lib.hid (by rw [hW2]; exact XS0.out)
      have BD2 : Hid (Bld 74 [.slice (some ⟨tb, 0, none⟩) n n] W2 bB b L v) := Lib.hid (by rw [hW2]; exact BS0.out)
      have K2 : Hid (KeptN wr W2 b) := Lib.hid (by rw [hW2]; exact (KeptN.setBox X1.out))
      have B2 : Hid (Below bB wr W2) := Lib.hid (by rw [hW2]; exact ((Below.refl bB wr).setCell (p := ⟨w.heap.size, 3, none⟩) hB _))
      have R2 : Hid (Bx 3 W2 g (rowK tw kids kids.length)) := Lib.hid (by rw [hW2]; exact (HBX2.out.other (b' := w.heap.size) (by omega) 3 _))
      have HE2 := Lib.hid ((HEB.out.to HBW.out).to B2.out)
      have HZ : Hid (bB ≤ W2.heap.size) := Lib.hid (by have := HBW.out.size; have := B2.out.size; omega)
      have HLT := Lib.hid hgw
      subst hjm
      clear hW2 HBX2 HKS HKA
      go_wp2_with fail
      rw [← HW2.out]
      clear a0 a1 a2 a3 a4 a5 a6 a7 a8 a9 a10 a11 a12 al af HW2
      obtain ⟨⟨a0, a1, a2, a3, a4, a5, a6, a7, a8, a9, a10, a11, a12⟩, al, af⟩ := X2.out.all
      go_wp2_with fail
      refine (HR.out _).mono ?_
      rw [repeat_blank]
      rintro e W3 ⟨rfl, h23⟩
      have H3 := Lib.hid h23
      have X3 := Lib.hid (X2.out.keep h23)
      clear a0 a1 a2 a3 a4 a5 a6 a7 a8 a9 a10 a11 a12 al af h23
      have X4 := Lib.hid (X3.out.set 8 (.string (blankT M.size)))
      have BD4 := Lib.hid ((BD2.out.step H3.out).setBox (o := 8) (u := .string (blankT M.size)) X3.out (by omega) ROWNE.out)
      have R4 := Lib.hid ((R2.out.keep H3.out).other (b' := w.heap.size) (by omega) 8 (.string (blankT M.size)))
      have K4 : Hid (KeptN W2 (W3.setCell ⟨w.heap.size, 8, none⟩ (.string (blankT M.size))) b) := Lib.hid ((KeptN.of_below b H3.out).trans (KeptN.setBox X3.out))
      have B4 : Hid (Below bB W2 (W3.setCell ⟨w.heap.size, 8, none⟩ (.string (blankT M.size)))) := Lib.hid ((H3.out.mono HZ.out).setCell (p := ⟨w.heap.size, 8, none⟩) hB _)
      have HE4 := Lib.hid (HE2.out.to B4.out)
      have HZ4 : Hid (bB ≤ (W3.setCell ⟨w.heap.size, 8, none⟩ (.string (blankT M.size))).heap.size) := Lib.hid (by have := HZ.out; have := B4.out.size; omega)
      have HN4 : Hid (NumsV (W3.setCell ⟨w.heap.size, 8, none⟩ (.string (blankT M.size))) (.slice (some ⟨g, 0, none⟩) j j) (kids.map (toOf tw))) := Lib.hid (by rw [HM.out]; exact numsV_row R4.out)
      obtain ⟨W4, hW4⟩ : ∃ W4, W4 = W3.setCell ⟨w.heap.size, 8, none⟩ (.string (blankT M.size)) := ⟨_, rfl⟩
      have HW4 := Lib.hid hW4
      rw [← hW4] at X4 BD4 R4 K4 B4 HE4 HZ4 HN4
      clear hW4
      obtain ⟨⟨a0, a1, a2, a3, a4, a5, a6, a7, a8, a9, a10, a11, a12⟩, al, af⟩ := X3.out.all
      generalize hMB : blankT M.size = MB at *
      have HMB := Lib.hid hMB
      clear hMB
      go_wp2_with fail
      rw [← HW4.out]
      clear a0 a1 a2 a3 a4 a5 a6 a7 a8 a9 a10 a11 a12 al af HW4
      obtain ⟨⟨a0, a1, a2, a3, a4, a5, a6, a7, a8, a9, a10, a11, a12⟩, al, af⟩ := X4.out.all
      go_region_law (first
        | (go_simp
           go_at_call 20
           refine (HA.out _ _ (BD4.out.step (Below.refl _ _).drew) (by simpa using HZ4.out) (HN4.out.step (Below.refl _ _).drew) (HE4.out.v.step (Below.refl _ _).drew)).mono ?_
           rintro e W6 ⟨rfl, h56, ⟨y1, v2, hy1, hbd2⟩, hk2⟩
           have H6 := Lib.hid h56
           have HY1 := Lib.hid hy1
           have BD6 := Lib.hid hbd2
           have HK6 := Lib.hid hk2
           clear h56 hy1 hbd2 hk2))
      all_goals
        clear a0 a1 a2 a3 a4 a5 a6 a7 a8 a9 a10 a11 a12 al af
        go_wp2_with fail
        go_ret2
        refine ⟨rfl, ?_, ⟨L ++ [y1], v2, by rw [List.map_append, List.map_cons, List.map_nil, HY1.out, HMB.out], BD6.out⟩, ?_⟩
        · exact (HBW.out.trans (B2.out.trans B4.out)).trans (show Below bB W4 W6 from ⟨H6.out.os, H6.out.tape, H6.out.output, H6.out.size, H6.out.block⟩)
        · exact (HKW.out.trans (K2.out.trans K4.out)).trans (show KeptN W4 W6 b from HK6.out)
end Go.Proofs.YtfalgnapghienaaGreatDoor
