/- Contract of the document's table of all pairs. -/
import Derived.Test.YtepoiedophggkaaDiffJ
namespace Go.Proofs.Ytepoiedophggkaa
open Go Go.RowKit
set_option linter.unusedVariables false

/-- a row of the table, as far as it is made -/
def LV (a b : ByteArray) (i k : Nat) : List Value := (List.range k).map fun j => .int .i64 (lcsN a b i j : Nat)
theorem LV_succ (a b : ByteArray) (i k : Nat) : LV a b i (k + 1) = LV a b i k ++ [.int .i64 (lcsN a b i k : Nat)] := by unfold LV; rw [List.range_succ, List.map_append]; rfl
theorem LV_at (a b : ByteArray) (i k j : Nat) (h : j < k) : (LV a b i k)[j]? = some (.int .i64 (lcsN a b i j : Nat)) := by
  unfold LV; rw [List.getElem?_map, List.getElem?_range h]; rfl
theorem lcsN_le (a b : ByteArray) : ∀ i j, lcsN a b i j ≤ i
  | 0, j => by simp [lcsN]
  | i + 1, 0 => by simp [lcsN_zero]
  | i + 1, j + 1 => by
    rw [lcsN]
    have h1 := lcsN_le a b i (j + 1)
    have h2 := lcsN_le a b (i + 1) j
    have h3 := lcsN_le a b i j
    split <;> omega
/-- a row of numbers that grows -/
def RInv (w wr : World) (xs : List Value) (v : Value) : Prop := Below w.heap.size w wr ∧ wr.ownsRow w.heap.size 3 1 v xs.length xs
theorem RInv.alloc {w wr : World} {v : Value} {l : List Value} (h : RInv w wr l v) (o : Obj) : RInv w (wr.alloc o) l v := ⟨h.1.alloc h.1.size o, h.2.alloc o⟩
theorem RInv.drewN {w wr : World} {v : Value} {l : List Value} (h : RInv w wr l v) (n : Nat) : RInv w (wr.drewN n) l v := ⟨below_drewN h.1 n, h.2⟩
theorem RInv.more {w wr w2 : World} {v v' : Value} {l : List Value} {x : Value} {o' : Obj} (h : RInv w wr l v) (ho : w2.ownsRow w.heap.size 3 1 v' (l.length + 1) (l ++ [x])) (hg : (wr.alloc o').grownBy w2 v.ownBlock) : RInv w w2 (l ++ [x]) v' := by
  obtain ⟨hbel, h0⟩ := h
  exact ⟨Below.grown (hbel.alloc hbel.size o') hg (by simp; have := hbel.size; omega) (fun j hj => (h0.lt j hj).1), by simpa using ho⟩

theorem LV_len (a b : ByteArray) (i k : Nat) : (LV a b i k).length = k := by unfold LV; simp
theorem RInv.row {w wr : World} {a b : ByteArray} {i m : Nat} {v : Value} (h : RInv w wr (LV a b i (m + 1)) v) : ∃ g cap, v = .slice (some ⟨g, 0, none⟩) (m + 1) cap ∧ m + 1 ≤ cap ∧ w.heap.size ≤ g ∧ g < wr.heap.size ∧ NumsAt wr g (m + 1) (lcsN a b i) := by
  have h2 := h.2
  rw [LV_len] at h2
  obtain ⟨g, cap, hv, hc⟩ : ∃ g cap, v = .slice (some ⟨g, 0, none⟩) (m + 1) cap ∧ m + 1 ≤ cap := by
    rcases h2.2 with ⟨_, h0⟩ | ⟨g0, cap, cur, h0, _, _, hc, _⟩
    · omega
    · exact ⟨g0, cap, h0, hc⟩
  subst hv
  obtain ⟨l1, l2⟩ := h2.lt g rfl
  refine ⟨g, cap, rfl, hc, l1, l2, fun j hj => ?_⟩
  have := h2.cells (g := g) rfl j _ (LV_at a b i (m + 1) j hj)
  rw [show (⟨g, 0, none⟩ : Addr).add j = ⟨g, j, none⟩ by unfold Addr.add; by_cases h : j = 0 <;> simp [h]] at this
  exact this

set_option maxRecDepth 100000 in
set_option maxHeartbeats 4000000 in
theorem common_any (a b : ByteArray) (w : World) (ha : a.size ≤ 400) (hb : b.size ≤ 400) :
    Calls Try.prog 50 #[.string a, .string b] w fun e w' => e = .returned (.int .i64 (lcsN a b a.size b.size : Nat)) ∧ Below w.heap.size w w' := by
  obtain ⟨i0, hi, hz0, hz1, hz2⟩ := info_parts infoInts
  go_enter Try.func50, Try.ntmps50
  go_wp2_with fail
  go_loopw [5, 6] (fun u i wr => ∃ (k : Nat) (v : Value), k ≤ b.size + 1 ∧ i = .int .i64 k ∧ u = v ∧ RInv w wr (LV a b 0 k) v) (fun _ i _ => b.size + 1 - (intOf i).toNat)
  case atStart => exact ⟨0, _, Nat.zero_le _, rfl, rfl, Below.refl _ _, World.ownsRow_nil _ _ _ _⟩
  case round =>
    obtain ⟨k, v, hk, rfl, rfl, hinv⟩ := hrel
    have HV := Lib.hid hinv
    by_cases hlt : k < b.size + 1
    · have d1 : (k : Int) ≤ (b.size : Int) := by omega
      clear hinv
      go_wp2_with (at_builtin; refine wpList_append_own _ rfl _ _ 51 rfl w.heap.size 3 i0 (.int .i64 0) 1 8 Try.underlying51 hi hz0 hz1 hz2 rfl (by decide) _ _ _ rfl (HV.out.2.alloc _) ⟨_, 0, none⟩ 1 1 [.int .i64 0] rfl rfl ?c1 ?c2 ?c3 ?c4 ?c5 ?_)
      case c1 =>
        intro j u hj
        match j, hj with
        | 0, hj => simp at hj; subst hj; simp [Addr.add, go_sem]
      case c2 => intro u hu; simp at hu; subst hu; rfl
      case c3 => rw [LV_len]; unfold maxLen; omega
      case c4 => rw [LV_len]; omega
      case c5 => have := HV.out.1.size; simp; omega
      intro v' w3 hown' hgrow _
      have HM := Lib.hid (HV.out.more hown' hgrow)
      clear hown' hgrow
      go_wp2_with fail
      have HN : Hid (LV a b 0 (k + 1) = LV a b 0 k ++ [.int .i64 0]) := Lib.hid (by rw [LV_succ]; simp [lcsN])
      exact ⟨⟨k + 1, _, by omega, by go_num, rfl, by rw [HN.out]; exact HM.out⟩, by simp [intOf]; omega⟩
    · have hk' : k = b.size + 1 := by omega
      subst hk'
      obtain ⟨g, cap, hv, hcap, -, hg, hnum⟩ := hinv.row
      have d1 : ¬ ((b.size + 1 : Nat) : Int) ≤ (b.size : Int) := by omega
      subst hv
      have HB := Lib.hid hinv.1
      have HR := Lib.hid hnum
      clear hinv hnum HV
      go_wp2_with fail
      go_loopw [5, 7] (fun u i wx => ∃ (k g cap : Nat), k ≤ a.size ∧ i = .int .i64 k ∧ u = .slice (some ⟨g, 0, none⟩) (b.size + 1) cap ∧ b.size + 1 ≤ cap ∧ Below w.heap.size w wx ∧ g < wx.heap.size ∧ NumsAt wx g (b.size + 1) (lcsN a b k)) (fun _ i _ => a.size - (intOf i).toNat)
      case atStart => exact ⟨0, g, cap, Nat.zero_le _, rfl, rfl, hcap, HB.out, hg, HR.out⟩
      case round =>
        rename World => wx
        clear HB HR hg hcap
        obtain ⟨k, g, cap, hk, rfl, rfl, hcap, hbel, hg, hnum⟩ := hrel
        have HB := Lib.hid hbel
        have HR := Lib.hid hnum
        clear hbel hnum
        by_cases hlt : k < a.size
        · have d1 : (k : Int) < (a.size : Int) := by omega
          go_wp2_with fail
          have hst : RInv wx (wx.alloc (.cells #[.int .i64 0] 3)) (LV a b (k + 1) 1) (.slice (some ⟨wx.heap.size, 0, none⟩) 1 1) :=
            ⟨(Below.refl _ _).alloc (Nat.le_refl _) _, by
              rw [show LV a b (k + 1) 1 = [.int .i64 0] by unfold LV; simp [lcsN_zero]]
              exact World.ownsRow_lit (size := 1) wx #[.int .i64 0] 1 (Nat.le_refl _) (by decide) rfl⟩
          have HST := Lib.hid hst
          clear hst
          go_loopw [8, 9] (fun u i wi => ∃ (j : Nat) (v : Value), j ≤ b.size ∧ i = .int .i64 j ∧ u = v ∧ RInv wx wi (LV a b (k + 1) (j + 1)) v) (fun _ i _ => b.size - (intOf i).toNat)
          case atStart => exact ⟨0, _, Nat.zero_le _, rfl, rfl, HST.out⟩
          case round =>
            clear HST
            obtain ⟨j, v, hj, rfl, rfl, hinv⟩ := hrel
            have HV := Lib.hid hinv
            obtain ⟨gn, cn, hv, hcn, hgl, hgn, hnn⟩ := hinv.row
            subst hv
            by_cases hlt2 : j < b.size
            · have e1 : (j : Int) < (b.size : Int) := by omega
              have e2 : (j : Int) + 1 < (b.size : Int) + 1 := by omega
              have e3 : (j : Int) < (b.size : Int) + 1 := by omega
              have e4 : ((j : Int) + 1).toNat = j + 1 := by omega
              have w1 : IntKind.i64.wrap ((j : Int) + 1) = (j : Int) + 1 := IntWalk.i64_in _ ⟨by omega, by omega⟩
              have r0 := keep hinv.1 hg (HR.out j (by omega))
              have r1 := keep hinv.1 hg (HR.out (j + 1) (by omega))
              have n0 := hnn j (by omega)
              have l1 := lcsN_le a b k (j + 1)
              have l2 := lcsN_le a b (k + 1) j
              have l3 := lcsN_le a b k j
              have hr : lcsN a b (k + 1) (j + 1) = max (max (lcsN a b k (j + 1)) (lcsN a b (k + 1) j)) (if by' a k = by' b j then lcsN a b k j + 1 else 0) := by rw [lcsN]
              have HREC := Lib.hid hr
              have HNX := Lib.hid (LV_succ a b (k + 1) (j + 1))
              have ga := get_by a
              have gb := get_by b
              have HGR := Lib.hid hgl
              clear hr hinv hnn hgl
              generalize lcsN a b k (j + 1) = x1 at *
              generalize lcsN a b (k + 1) j = x2 at *
              generalize lcsN a b k j = x3 at *
              generalize lcsN a b (k + 1) (j + 1) = xF at *
              have w3 : IntKind.i64.wrap ((x3 : Int) + 1) = (x3 : Int) + 1 := IntWalk.i64_in _ ⟨by omega, by omega⟩
              by_cases h1 : x1 < x2
              · have k1 : decide ((x1 : Int) < (x2 : Int)) = true := decide_eq_true (by omega)
                by_cases ph : by' a k = by' b j
                · have k2 : ((by' a k : Int) == (by' b j : Int)) = true := by simp [ph]
                  by_cases h3 : x2 < x3 + 1
                  · have k3 : decide ((x2 : Int) < (x3 : Int) + 1) = true := decide_eq_true (by omega)
                    have HF : xF = x3 + 1 := by have := HREC.out; rw [if_pos ph] at this; omega
                    have HNY : Hid (LV a b (k + 1) (j + 1 + 1) = LV a b (k + 1) (j + 1) ++ [.int .i64 ((x3 : Int) + 1)]) := Lib.hid (by rw [HNX.out, HF] <;> simp)
                    have hlen : (LV a b (k + 1) (j + 1)).length = j + 1 := LV_len a b (k + 1) (j + 1)
                    have HLEN := Lib.hid hlen
                    clear HF hlen HREC HNX
                    go_wp2_with fail
                    go_quiet (fail)
                    have r0 : (wr.drewN nq).cell? ⟨g, j, none⟩ = some (.int .i64 (x3 : Nat)) := r0
                    have HV5 := Lib.hid (HV.out.drewN nq)
                    generalize wr.drewN nq = W5 at *
                    go_wp2_with (at_builtin; refine wpList_append_own _ rfl _ _ 51 rfl wx.heap.size 3 i0 (.int .i64 0) 1 8 Try.underlying51 hi hz0 hz1 hz2 rfl (by decide) _ _ _ rfl (HV5.out.2.alloc _) ⟨_, 0, none⟩ 1 1 [.int .i64 ((x3 : Int) + 1)] rfl rfl ?c1 ?c2 ?c3 ?c4 ?c5 ?_)
                    case c1 =>
                      intro j u hj
                      match j, hj with
                      | 0, hj => simp at hj; subst hj; simp [Addr.add, go_sem]
                    case c2 => intro u hu; simp at hu; subst hu; rfl
                    case c3 => rw [HLEN.out]; unfold maxLen; omega
                    case c4 => rw [HLEN.out]; omega
                    case c5 => have := HV5.out.1.size; simp; omega
                    intro v' w3 hown' hgrow _
                    have HM := Lib.hid (HV5.out.more hown' hgrow)
                    clear hown' hgrow
                    go_wp2_with fail
                    exact ⟨⟨j + 1, _, by omega, by go_num, rfl, by rw [HNY.out]; exact HM.out⟩, by simp [intOf] <;> omega⟩
                  · have k3 : decide ((x2 : Int) < (x3 : Int) + 1) = false := decide_eq_false (by omega)
                    have HF : xF = x2 := by have := HREC.out; rw [if_pos ph] at this; omega
                    have HNY : Hid (LV a b (k + 1) (j + 1 + 1) = LV a b (k + 1) (j + 1) ++ [.int .i64 (x2 : Int)]) := Lib.hid (by rw [HNX.out, HF] <;> simp)
                    have hlen : (LV a b (k + 1) (j + 1)).length = j + 1 := LV_len a b (k + 1) (j + 1)
                    have HLEN := Lib.hid hlen
                    clear HF hlen HREC HNX
                    go_wp2_with fail
                    go_quiet (fail)
                    have r0 : (wr.drewN nq).cell? ⟨g, j, none⟩ = some (.int .i64 (x3 : Nat)) := r0
                    have HV5 := Lib.hid (HV.out.drewN nq)
                    generalize wr.drewN nq = W5 at *
                    go_wp2_with (at_builtin; refine wpList_append_own _ rfl _ _ 51 rfl wx.heap.size 3 i0 (.int .i64 0) 1 8 Try.underlying51 hi hz0 hz1 hz2 rfl (by decide) _ _ _ rfl (HV5.out.2.alloc _) ⟨_, 0, none⟩ 1 1 [.int .i64 (x2 : Int)] rfl rfl ?c1 ?c2 ?c3 ?c4 ?c5 ?_)
                    case c1 =>
                      intro j u hj
                      match j, hj with
                      | 0, hj => simp at hj; subst hj; simp [Addr.add, go_sem]
                    case c2 => intro u hu; simp at hu; subst hu; rfl
                    case c3 => rw [HLEN.out]; unfold maxLen; omega
                    case c4 => rw [HLEN.out]; omega
                    case c5 => have := HV5.out.1.size; simp; omega
                    intro v' w3 hown' hgrow _
                    have HM := Lib.hid (HV5.out.more hown' hgrow)
                    clear hown' hgrow
                    go_wp2_with fail
                    exact ⟨⟨j + 1, _, by omega, by go_num, rfl, by rw [HNY.out]; exact HM.out⟩, by simp [intOf] <;> omega⟩
                · have k2 : ((by' a k : Int) == (by' b j : Int)) = false := by rw [beq_eq_false_iff_ne]; intro h; exact ph (by omega)
                  have HF : xF = x2 := by have := HREC.out; rw [if_neg ph] at this; omega
                  have HNY : Hid (LV a b (k + 1) (j + 1 + 1) = LV a b (k + 1) (j + 1) ++ [.int .i64 (x2 : Int)]) := Lib.hid (by rw [HNX.out, HF] <;> simp)
                  have hlen : (LV a b (k + 1) (j + 1)).length = j + 1 := LV_len a b (k + 1) (j + 1)
                  have HLEN := Lib.hid hlen
                  clear HF hlen HREC HNX
                  go_wp2_with fail
                  go_quiet (fail)
                  have r0 : (wr.drewN nq).cell? ⟨g, j, none⟩ = some (.int .i64 (x3 : Nat)) := r0
                  have HV5 := Lib.hid (HV.out.drewN nq)
                  generalize wr.drewN nq = W5 at *
                  go_wp2_with (at_builtin; refine wpList_append_own _ rfl _ _ 51 rfl wx.heap.size 3 i0 (.int .i64 0) 1 8 Try.underlying51 hi hz0 hz1 hz2 rfl (by decide) _ _ _ rfl (HV5.out.2.alloc _) ⟨_, 0, none⟩ 1 1 [.int .i64 (x2 : Int)] rfl rfl ?c1 ?c2 ?c3 ?c4 ?c5 ?_)
                  case c1 =>
                    intro j u hj
                    match j, hj with
                    | 0, hj => simp at hj; subst hj; simp [Addr.add, go_sem]
                  case c2 => intro u hu; simp at hu; subst hu; rfl
                  case c3 => rw [HLEN.out]; unfold maxLen; omega
                  case c4 => rw [HLEN.out]; omega
                  case c5 => have := HV5.out.1.size; simp; omega
                  intro v' w3 hown' hgrow _
                  have HM := Lib.hid (HV5.out.more hown' hgrow)
                  clear hown' hgrow
                  go_wp2_with fail
                  exact ⟨⟨j + 1, _, by omega, by go_num, rfl, by rw [HNY.out]; exact HM.out⟩, by simp [intOf] <;> omega⟩
              · have k1 : decide ((x1 : Int) < (x2 : Int)) = false := decide_eq_false (by omega)
                by_cases ph : by' a k = by' b j
                · have k2 : ((by' a k : Int) == (by' b j : Int)) = true := by simp [ph]
                  by_cases h3 : x1 < x3 + 1
                  · have k3 : decide ((x1 : Int) < (x3 : Int) + 1) = true := decide_eq_true (by omega)
                    have HF : xF = x3 + 1 := by have := HREC.out; rw [if_pos ph] at this; omega
                    have HNY : Hid (LV a b (k + 1) (j + 1 + 1) = LV a b (k + 1) (j + 1) ++ [.int .i64 ((x3 : Int) + 1)]) := Lib.hid (by rw [HNX.out, HF] <;> simp)
                    have hlen : (LV a b (k + 1) (j + 1)).length = j + 1 := LV_len a b (k + 1) (j + 1)
                    have HLEN := Lib.hid hlen
                    clear HF hlen HREC HNX
                    go_wp2_with fail
                    go_quiet (fail)
                    have r0 : (wr.drewN nq).cell? ⟨g, j, none⟩ = some (.int .i64 (x3 : Nat)) := r0
                    have HV5 := Lib.hid (HV.out.drewN nq)
                    generalize wr.drewN nq = W5 at *
                    go_wp2_with (at_builtin; refine wpList_append_own _ rfl _ _ 51 rfl wx.heap.size 3 i0 (.int .i64 0) 1 8 Try.underlying51 hi hz0 hz1 hz2 rfl (by decide) _ _ _ rfl (HV5.out.2.alloc _) ⟨_, 0, none⟩ 1 1 [.int .i64 ((x3 : Int) + 1)] rfl rfl ?c1 ?c2 ?c3 ?c4 ?c5 ?_)
                    case c1 =>
                      intro j u hj
                      match j, hj with
                      | 0, hj => simp at hj; subst hj; simp [Addr.add, go_sem]
                    case c2 => intro u hu; simp at hu; subst hu; rfl
                    case c3 => rw [HLEN.out]; unfold maxLen; omega
                    case c4 => rw [HLEN.out]; omega
                    case c5 => have := HV5.out.1.size; simp; omega
                    intro v' w3 hown' hgrow _
                    have HM := Lib.hid (HV5.out.more hown' hgrow)
                    clear hown' hgrow
                    go_wp2_with fail
                    exact ⟨⟨j + 1, _, by omega, by go_num, rfl, by rw [HNY.out]; exact HM.out⟩, by simp [intOf] <;> omega⟩
                  · have k3 : decide ((x1 : Int) < (x3 : Int) + 1) = false := decide_eq_false (by omega)
                    have HF : xF = x1 := by have := HREC.out; rw [if_pos ph] at this; omega
                    have HNY : Hid (LV a b (k + 1) (j + 1 + 1) = LV a b (k + 1) (j + 1) ++ [.int .i64 (x1 : Int)]) := Lib.hid (by rw [HNX.out, HF] <;> simp)
                    have hlen : (LV a b (k + 1) (j + 1)).length = j + 1 := LV_len a b (k + 1) (j + 1)
                    have HLEN := Lib.hid hlen
                    clear HF hlen HREC HNX
                    go_wp2_with fail
                    go_quiet (fail)
                    have r0 : (wr.drewN nq).cell? ⟨g, j, none⟩ = some (.int .i64 (x3 : Nat)) := r0
                    have HV5 := Lib.hid (HV.out.drewN nq)
                    generalize wr.drewN nq = W5 at *
                    go_wp2_with (at_builtin; refine wpList_append_own _ rfl _ _ 51 rfl wx.heap.size 3 i0 (.int .i64 0) 1 8 Try.underlying51 hi hz0 hz1 hz2 rfl (by decide) _ _ _ rfl (HV5.out.2.alloc _) ⟨_, 0, none⟩ 1 1 [.int .i64 (x1 : Int)] rfl rfl ?c1 ?c2 ?c3 ?c4 ?c5 ?_)
                    case c1 =>
                      intro j u hj
                      match j, hj with
                      | 0, hj => simp at hj; subst hj; simp [Addr.add, go_sem]
                    case c2 => intro u hu; simp at hu; subst hu; rfl
                    case c3 => rw [HLEN.out]; unfold maxLen; omega
                    case c4 => rw [HLEN.out]; omega
                    case c5 => have := HV5.out.1.size; simp; omega
                    intro v' w3 hown' hgrow _
                    have HM := Lib.hid (HV5.out.more hown' hgrow)
                    clear hown' hgrow
                    go_wp2_with fail
                    exact ⟨⟨j + 1, _, by omega, by go_num, rfl, by rw [HNY.out]; exact HM.out⟩, by simp [intOf] <;> omega⟩
                · have k2 : ((by' a k : Int) == (by' b j : Int)) = false := by rw [beq_eq_false_iff_ne]; intro h; exact ph (by omega)
                  have HF : xF = x1 := by have := HREC.out; rw [if_neg ph] at this; omega
                  have HNY : Hid (LV a b (k + 1) (j + 1 + 1) = LV a b (k + 1) (j + 1) ++ [.int .i64 (x1 : Int)]) := Lib.hid (by rw [HNX.out, HF] <;> simp)
                  have hlen : (LV a b (k + 1) (j + 1)).length = j + 1 := LV_len a b (k + 1) (j + 1)
                  have HLEN := Lib.hid hlen
                  clear HF hlen HREC HNX
                  go_wp2_with fail
                  go_quiet (fail)
                  have r0 : (wr.drewN nq).cell? ⟨g, j, none⟩ = some (.int .i64 (x3 : Nat)) := r0
                  have HV5 := Lib.hid (HV.out.drewN nq)
                  generalize wr.drewN nq = W5 at *
                  go_wp2_with (at_builtin; refine wpList_append_own _ rfl _ _ 51 rfl wx.heap.size 3 i0 (.int .i64 0) 1 8 Try.underlying51 hi hz0 hz1 hz2 rfl (by decide) _ _ _ rfl (HV5.out.2.alloc _) ⟨_, 0, none⟩ 1 1 [.int .i64 (x1 : Int)] rfl rfl ?c1 ?c2 ?c3 ?c4 ?c5 ?_)
                  case c1 =>
                    intro j u hj
                    match j, hj with
                    | 0, hj => simp at hj; subst hj; simp [Addr.add, go_sem]
                  case c2 => intro u hu; simp at hu; subst hu; rfl
                  case c3 => rw [HLEN.out]; unfold maxLen; omega
                  case c4 => rw [HLEN.out]; omega
                  case c5 => have := HV5.out.1.size; simp; omega
                  intro v' w3 hown' hgrow _
                  have HM := Lib.hid (HV5.out.more hown' hgrow)
                  clear hown' hgrow
                  go_wp2_with fail
                  exact ⟨⟨j + 1, _, by omega, by go_num, rfl, by rw [HNY.out]; exact HM.out⟩, by simp [intOf] <;> omega⟩
            · have hj' : j = b.size := by omega
              subst hj'
              have d2 : ¬ ((b.size : Nat) : Int) < (b.size : Int) := by omega
              have HB2 := Lib.hid (after HB.out hinv.1)
              have HNN := Lib.hid hnn
              clear hinv hnn
              go_wp2_with fail
              exact ⟨⟨k + 1, gn, cn, by omega, by go_num, rfl, hcn, HB2.out, hgn, HNN.out⟩, by simp [intOf]; omega⟩
        · have hk' : k = a.size := by omega
          subst hk'
          have c0 := HR.out b.size (by omega)
          have d1 : ¬ ((a.size : Nat) : Int) < (a.size : Int) := by omega
          have e3 : (b.size : Int) < (b.size : Int) + 1 := by omega
          go_wp2_with fail
          go_ret
          exact ⟨rfl, HB.out⟩

set_option maxRecDepth 100000 in
set_option maxHeartbeats 2000000 in
theorem refFar_any (a b : ByteArray) (w : World) (ha : a.size ≤ 400) (hb : b.size ≤ 400) :
    Calls Try.prog 28 #[.string a, .string b] w fun e w' => e = .returned (.int .i64 (farN a b : Nat)) ∧ Below w.heap.size w w' := by
  have hc := fun w => common_any a b w ha hb
  have hf : farN a b = a.size + b.size - 2 * lcsN a b a.size b.size := rfl
  have h1 := lcsN_le a b a.size b.size
  have h2 : 2 * lcsN a b a.size b.size ≤ a.size + b.size := by
    obtain ⟨n, _, hn⟩ := lcsN_way a b a.size b.size (Nat.le_refl _) (Nat.le_refl _)
    omega
  have HC := Lib.hid hc
  clear hc
  generalize lcsN a b a.size b.size = c at *
  generalize farN a b = f at *
  have HF := Lib.hid hf
  clear hf
  go_enter Try.func28, Try.ntmps28
  go_wp2_with fail
  refine (HC.out _).mono ?_
  rintro e w1 ⟨rfl, h01⟩
  have H1 := Lib.hid h01
  clear h01
  go_wp2_with fail
  go_ret
  refine ⟨?_, H1.out⟩
  refine congrArg Ending.returned (vl_int ?_)
  have := HF.out
  omega

end Go.Proofs.Ytepoiedophggkaa
