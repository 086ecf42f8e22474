/- The reference's Solve: the walk. -/
import Derived.Test.YtkhgpflpbdakoaaGrRs
namespace Go.Proofs.Ytkhgpflpbdakoaa
open Go Go.RowKit
set_option linter.unusedVariables false
set_option linter.unusedSimpArgs false

theorem below_drewN {B : Nat} {w w' : World} (h : Below B w w') (n : Nat) : Below B w (w'.drewN n) := h.trans ⟨rfl, rfl, rfl, Nat.le_refl _, fun _ _ => rfl⟩
set_option maxRecDepth 100000 in
set_option maxHeartbeats 8000000 in
theorem rsolve_any {w : World} (n : Nat) (hn : n ≤ 8192) (L : List Eg) (hL : L.length ≤ 16384) (hok : ∀ e ∈ L, okE' n e) {v sv : Value} {l : List Int} (hv : EgV w v L) (hs : InV w sv l) (hl : l.length ≤ 100000) :
    Calls Try.prog 15 #[.int .i64 (n : Int), v, sv] w fun e w' => ∃ x F, e = .returned x ∧ NewB w w' n F x ∧ leastP L (opShut L l) n F ∧ Below w.heap.size w w' := by
  have hmk := make_bools n (by omega)
  obtain ⟨vg, vc, rfl, hvx⟩ := hv
  obtain ⟨sg, sc, rfl, hsx⟩ := hs
  have HVX := Lib.hid hvx
  have HSX := Lib.hid hsx
  have HN := Lib.hid hn
  have HL := Lib.hid hL
  have HLL := Lib.hid hl
  have HOK := Lib.hid hok
  obtain ⟨m, hm⟩ : ∃ m, m = L.length := ⟨_, rfl⟩
  obtain ⟨ml, hml⟩ : ∃ ml, ml = l.length := ⟨_, rfl⟩
  rw [← hm, ← hml]
  have HM := Lib.hid hm
  have HML := Lib.hid hml
  clear hn hL hok hl hvx hsx hm hml
  go_enter Try.func15, Try.ntmps15
  go_wp2_with fail
  have B0 : Hid (Below w.heap.size w (w.alloc (.cells (rowB n fun x => false).toArray 4))) := Lib.hid (by repeat (first | exact Below.refl _ _ | apply Below.setCell _ (by first | omega | (simp <;> omega)) | apply Below.alloc _ (by first | omega | (simp <;> omega))))
  have X0 : Hid (Bx 4 (w.alloc (.cells (rowB n fun x => false).toArray 4)) w.heap.size (rowB n fun _ => false)) := Lib.hid (Bx.new 4 w (rowB n fun x => false).toArray)
  generalize w.alloc (.cells (rowB n fun x => false).toArray 4) = W1 at *
  obtain ⟨ob, hob⟩ : ∃ ob, ob = w.heap.size := ⟨_, rfl⟩
  rw [← hob] at X0 ⊢
  have HOB := Lib.hid hob
  clear hmk hob
  go_loopg [8] (n + 2) (fun gk av wr => ∃ a : Bool, ∃ F, av = .bool a ∧ Below w.heap.size w wr ∧ Bx 4 wr ob (rowB n F) ∧ soundP L (opShut L l) n F ∧ (a = true → cntB n F + 1 ≤ gk) ∧ (a = false → leastP L (opShut L l) n F))
  case atStart =>
    refine ⟨true, fun _ => false, rfl, B0.out, X0.out, fun z _ q => (by cases q), fun _ => ?_, fun q => by cases q⟩
    have := List.countP_le_length (p := fun z => ((fun _ => false : Nat → Bool) z == false)) (l := List.range n)
    rw [List.length_range] at this
    unfold cntB
    omega
  case round =>
    clear B0 X0
    obtain ⟨a, F, rfl, hbel, hx, hsn, hcn, hle⟩ := hrel
    rename World => wr
    have BR := Lib.hid hbel
    have XR := Lib.hid hx
    have SR := Lib.hid hsn
    have CR := Lib.hid hcn
    have LR := Lib.hid hle
    clear hbel hx hsn hcn hle
    cases a with
    | false =>
      have LF := Lib.hid (LR.out rfl)
      clear LR CR
      go_wp2_with fail
      go_ret
      first
        | exact ⟨_, F, rfl, ⟨ob, rfl, by rw [HOB.out]; exact Nat.le_refl _, XR.out⟩, LF.out, BR.out⟩
        | exact ⟨F, rfl, ⟨ob, rfl, by rw [HOB.out]; exact Nat.le_refl _, XR.out⟩, LF.out, BR.out⟩
    | true =>
      have GK := Lib.hid (CR.out rfl)
      clear CR LR
      go_wp2_with fail
      go_loopg [8, 9] m (fun gj av iv wx => ∃ b : Bool, ∃ j : Nat, ∃ G, av = .bool b ∧ iv = .int .i64 (j : Int) ∧ j + gj = m ∧ Below w.heap.size w wx ∧ Bx 4 wx ob (rowB n G) ∧ PassI L (opShut L l) n F G j b)
      case atStart => exact ⟨false, 0, F, rfl, rfl, by omega, BR.out, XR.out, PassI.start SR.out⟩
      case round =>
        obtain ⟨b, j, G, rfl, rfl, hjg, hbx, hgx, hpi⟩ := hrel
        rename World => wx
        have BX := Lib.hid hbx
        have XX := Lib.hid hgx
        have PX := Lib.hid hpi
        clear hbx hgx hpi
        cases gk with
        | zero =>
          have d1 : decide ((j : Int) < (m : Int)) = false := decide_eq_false (by omega)
          have d2 : ¬ (j : Int) < (m : Int) := by omega
          have d3 : decide (j < m) = false := decide_eq_false (by omega)
          have d4 : ¬ j < m := by omega
          have PE : Hid (PassI L (opShut L l) n F G L.length b) := Lib.hid (by rw [← HM.out, show m = j by omega]; exact PX.out)
          go_wp2_with fail
          go_roundg (cntB n F)
          case measure => have := GK.out; omega
          case rel =>
            refine ⟨b, G, rfl, BX.out, XX.out, PE.out.s, fun hb => ?_, fun hb => ?_⟩
            · have := PE.out.y hb; omega
            · subst hb; exact PE.out.done HOK.out
        | succ gj =>
          have hjl : j < L.length := by rw [← HM.out]; omega
          obtain ⟨g1, o1, rfl, hg1, e0, e1, e2, e3⟩ := HVX.out j hjl
          have e0 := keep BX.out hg1 e0
          have e1 := keep BX.out hg1 e1
          have e2 := keep BX.out hg1 e2
          have e3 := keep BX.out hg1 e3
          have hg1 := Nat.lt_of_lt_of_le hg1 BX.out.size
          have he := HOK.out _ (List.getElem_mem hjl)
          have HE := Lib.hid he
          have HSK := Lib.hid (fun hc => PX.out.skip HOK.out hjl hc)
          have HTK := Lib.hid (fun ho hc hf => PX.out.take HOK.out hjl ho hc hf)
          have HOP : Hid (opShut L l j = !shutF l L[j].2.1.toNat) := Lib.hid (by unfold opShut; rw [eto_eq hjl])
          generalize L[j] = ed at *
          have j1 : (j : Int) < (m : Int) := by omega
          have j2 : j < m := by omega
          have hw1 : IntKind.i64.wrap ((j : Int) + 1) = (j : Int) + 1 := IntWalk.i64_in _ ⟨by omega, by have := HM.out; have := HL.out; omega⟩
          clear he PX
          go_upto_region 9 with fail
          have BY := Lib.hid (BX.out.alloc BX.out.size (.cells #[.int .i64 ed.1, .int .i64 ed.2.1, .int .i64 ed.2.2.1, .int .i64 ed.2.2.2] 41))
          have XY := Lib.hid (XX.out.alloc (.cells #[.int .i64 ed.1, .int .i64 ed.2.1, .int .i64 ed.2.2.1, .int .i64 ed.2.2.2] 41))
          have EB : Hid (Bx 41 (wx.alloc (.cells #[.int .i64 ed.1, .int .i64 ed.2.1, .int .i64 ed.2.2.1, .int .i64 ed.2.2.2] 41)) wx.heap.size (egC ed)) := Lib.hid (Bx.new 41 wx (egC ed).toArray)
          have htt : wx.heap.size < (wx.alloc (.cells #[.int .i64 ed.1, .int .i64 ed.2.1, .int .i64 ed.2.2.1, .int .i64 ed.2.2.2] 41)).heap.size := by simp
          generalize wx.alloc (.cells #[.int .i64 ed.1, .int .i64 ed.2.1, .int .i64 ed.2.2.1, .int .i64 ed.2.2.2] 41) = wy at *
          obtain ⟨tb, htb⟩ : ∃ tb, tb = wx.heap.size := ⟨_, rfl⟩
          rw [← htb] at EB htt ⊢
          clear e0 e1 e2 e3 hg1 htb BX XX
          obtain ⟨y0, y1, y2, y3, yl, yf⟩ := EB.out.four
          obtain ⟨he1, he2, he3⟩ := HE.out
          go_cut [11] from 26 to 35 (fun s11 wz => s11 = .bool (comesP G ed) ∧ wz = wy)
          case first =>
            by_cases q : ed.1 = -1
            · have i1 : (ed.1 == -1) = true := by simpa using q
              have hc : comesP G ed = true := by unfold comesP; rw [i1]; rfl
              clear q he1
              go_wp2_with fail
              go_meet
              exact ⟨by rw [hc], rfl⟩
            · obtain ⟨k1, k2⟩ := he1.resolve_left q
              have i1 : (ed.1 == -1) = false := by simpa using q
              have hc : comesP G ed = G ed.1.toNat := by unfold comesP; rw [i1]; rfl
              have x0 := XY.out.cell ed.1.toNat
              rw [rowB_at _ (by omega)] at x0
              have xl := XY.out.lt
              clear he1
              go_wp2_with fail
              go_meet
              exact ⟨by rw [hc], rfl⟩
          case rest =>
            obtain ⟨rfl, hw⟩ := hcut
            replace hw := hw.symm
            subst hw
            go_wp2_with fail
            clear he1 he2 he3 y0 y1 y2 y3 yl yf
            go_loopg [11, 12] ml (fun gq ov kv wz => ∃ k : Nat, kv = .int .i64 (k : Int) ∧ k + gq = ml ∧ ov = .bool (comesP G ed && !shutF (l.take k) ed.2.1.toNat) ∧ Below wy.heap.size wy wz)
            case atStart => exact ⟨0, rfl, by omega, by simp [shutF], Below.refl _ _⟩
            case round =>
              obtain ⟨k, rfl, hk, rfl, hbz⟩ := hrel
              rename World => wz
              have BZ := Lib.hid hbz
              have XZ := Lib.hid (XY.out.keep hbz)
              obtain ⟨y0, y1, y2, y3, yl, yf⟩ := (EB.out.keep hbz).four
              obtain ⟨he1, he2, he3⟩ := HE.out
              have BW := Lib.hid (after BY.out hbz)
              clear hbz he1
              cases gk with
              | zero =>
                have d1 : decide ((k : Int) < (ml : Int)) = false := decide_eq_false (by omega)
                have d2 : ¬ (k : Int) < (ml : Int) := by omega
                have d3 : decide (k < ml) = false := decide_eq_false (by omega)
                have d4 : ¬ k < ml := by omega
                have HK : Hid ((comesP G ed && !shutF (l.take k) ed.2.1.toNat) = (comesP G ed && opShut L l j)) := Lib.hid (by rw [HOP.out, show k = l.length by rw [← HML.out]; omega, List.take_length])
                rw [HK.out]
                obtain ⟨tn, htn⟩ : ∃ tn : Nat, ed.2.1 = (tn : Int) := ⟨ed.2.1.toNat, by omega⟩
                have htn2 : tn < n := by omega
                have x0 := XZ.out.cell tn
                rw [rowB_at _ htn2] at x0
                have xf := XZ.out.frozen tn
                have xl := XZ.out.lt
                have i3 : (tn : Int) < (n : Int) := by omega
                have HT : Hid (ed.2.1.toNat = tn) := Lib.hid (by rw [htn]; rfl)
                rw [htn] at y1
                clear htn he2 he3
                cases ho : (comesP G ed && opShut L l j) with
                | false =>
                  have P2 := Lib.hid (HSK.out (fun q => by rw [q.1, q.2.1] at ho; cases ho))
                  clear ho
                  go_wp2_with fail
                  go_roundg gj
                  case measure => omega
                  case rel => exact ⟨b, j + 1, G, rfl, by push_cast; rfl, by omega, BW.out, XZ.out, P2.out⟩
                | true =>
                  rw [Bool.and_eq_true] at ho
                  obtain ⟨ho1, ho2⟩ := ho
                  cases hg : G tn with
                  | true =>
                    have P2 := Lib.hid (HSK.out (fun q => by have := q.2.2; rw [HT.out, hg] at this; cases this))
                    rw [hg] at x0
                    clear ho1 ho2 hg
                    go_wp2_with fail
                    go_roundg gj
                    case measure => omega
                    case rel => exact ⟨b, j + 1, G, rfl, by push_cast; rfl, by omega, BW.out, XZ.out, P2.out⟩
                  | false =>
                    have P2 : Hid (PassI L (opShut L l) n F (up G tn true) (j + 1) true) := Lib.hid (by have := HTK.out ho2 ho1 (by rw [HT.out]; exact hg); rwa [HT.out] at this)
                    have X2 : Hid (Bx 4 (wz.setCell ⟨ob, tn, none⟩ (.bool true)) ob (rowB n (up G tn true))) := Lib.hid (by have := XZ.out.set tn (.bool true); rwa [rowB_set _ htn2] at this)
                    rw [hg] at x0
                    clear ho1 ho2 hg
                    go_wp2_with fail
                    go_roundg gj
                    case measure => omega
                    case rel => exact ⟨true, j + 1, up G tn true, rfl, by push_cast; rfl, by omega, BW.out.setCell (by rw [HOB.out]; exact Nat.le_refl _) _, X2.out, P2.out⟩
              | succ gq =>
                have hkl : k < l.length := by rw [← HML.out]; omega
                obtain ⟨gs, os, rfl, hgs, cv⟩ := HSX.out k hkl
                have cv := keep BW.out hgs cv
                have hgs := Nat.lt_of_lt_of_le hgs BW.out.size
                have HT := Lib.hid (shutF_take hkl ed.2.1.toNat)
                rw [Int.toNat_of_nonneg he2] at HT
                generalize l[k] = y at *
                have k1 : (k : Int) < (ml : Int) := by omega
                have k2 : k < ml := by omega
                have k3 : (0 : Int) ≤ (k : Int) := by omega
                have hw2 : IntKind.i64.wrap ((k : Int) + 1) = (k : Int) + 1 := IntWalk.i64_in _ ⟨by omega, by have := HML.out; have := HLL.out; omega⟩
                cases hy : y == ed.2.1 with
                | true =>
                  have H2 : Hid ((comesP G ed && !shutF (l.take (k + 1)) ed.2.1.toNat) = false) := Lib.hid (by rw [HT.out, hy]; simp)
                  go_wp2_with fail
                  go_quiet (fail)
                  go_wp2_with fail
                  go_roundg gq
                  case measure => omega
                  case rel => exact ⟨k + 1, by push_cast; rfl, by omega, by rw [H2.out], below_drewN BZ.out _⟩
                | false =>
                  have H2 : Hid ((comesP G ed && !shutF (l.take (k + 1)) ed.2.1.toNat) = (comesP G ed && !shutF (l.take k) ed.2.1.toNat)) := Lib.hid (by rw [HT.out, hy]; simp)
                  go_wp2_with fail
                  go_quiet (fail)
                  go_wp2_with fail
                  go_roundg gq
                  case measure => omega
                  case rel => exact ⟨k + 1, by push_cast; rfl, by omega, by rw [H2.out], below_drewN BZ.out _⟩
end Go.Proofs.Ytkhgpflpbdakoaa
