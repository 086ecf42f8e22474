/- The reference's Far: the walk. -/
import Derived.Test.YtkhgpflpbdakoaaGrFr
import Derived.Test.YtkhgpflpbdakoaaGrRt
namespace Go.Proofs.Ytkhgpflpbdakoaa
open Go Go.RowKit
set_option linter.unusedVariables false
set_option linter.unusedSimpArgs false

/-- the reference's answer -/
def FarPost (w : World) (L : List Eg) (n : Nat) (e : Ending) (w' : World) : Prop :=
  ∃ b f, e = .returned (.slice (some ⟨b, 0, none⟩) n n) ∧ w.heap.size ≤ b ∧ Bx 3 w' b (rowF n f) ∧ (∀ z : Nat, z < n → Dist L opAll z (f z)) ∧ Below w.heap.size w w'
set_option maxRecDepth 100000 in
set_option maxHeartbeats 8000000 in
theorem rfar_any {w : World} (n : Nat) (hn : n ≤ 8192) (L : List Eg) (hL : L.length ≤ 16384) (hok : ∀ e ∈ L, okE' n e) {v : Value} (hv : EgV w v L) :
    Calls Try.prog 19 #[.int .i64 (n : Int), v] w (FarPost w L n) := by
  have hmk := make_ints n (by omega)
  obtain ⟨vg, vc, rfl, hvx⟩ := hv
  have HVX := Lib.hid hvx
  have HN := Lib.hid hn
  have HL := Lib.hid hL
  have HOK := Lib.hid hok
  obtain ⟨m, hm⟩ : ∃ m, m = L.length := ⟨_, rfl⟩
  rw [← hm]
  have HM := Lib.hid hm
  clear hn hL hok hvx hm
  go_enter Try.func19, Try.ntmps19
  go_wp2_with fail
  have B0 : Hid (Below w.heap.size w (w.alloc (.cells (rowF n fun x => 0).toArray 3))) := Lib.hid (by repeat (first | exact Below.refl _ _ | apply Below.setCell _ (by first | omega | (simp <;> omega)) | apply Below.alloc _ (by first | omega | (simp <;> omega))))
  have X0 : Hid (Bx 3 (w.alloc (.cells (rowF n fun x => 0).toArray 3)) w.heap.size (rowF n fun _ => 0)) := Lib.hid (Bx.new 3 w (rowF n fun x => 0).toArray)
  generalize w.alloc (.cells (rowF n fun x => 0).toArray 3) = W1 at *
  obtain ⟨ob, hob⟩ : ∃ ob, ob = w.heap.size := ⟨_, rfl⟩
  rw [← hob] at X0 ⊢
  have HOB := Lib.hid hob
  clear hmk hob
  go_loopg [6] n (fun gk iv wr => ∃ j : Nat, iv = .int .i64 (j : Int) ∧ j + gk = n ∧ Below w.heap.size w wr ∧ Bx 3 wr ob (rowF n (fun z => if z < j then -1 else 0)))
  case atStart => exact ⟨0, rfl, by omega, B0.out, by rw [rowF_congr (H := fun _ => 0)]; exact X0.out; exact fun z hz => if_neg (by omega)⟩
  case round =>
    clear B0 X0
    obtain ⟨j, rfl, hjk, hbel, hx⟩ := hrel
    have BL := Lib.hid hbel
    have HX := Lib.hid hx
    clear hbel
    rename World => w1
    cases gk with
    | succ gk =>
      have i1 : (j : Int) < (n : Int) := by omega
      have hjn : j < n := by omega
      have x0 := hx.cell j
      rw [rowF_at _ hjn] at x0
      have xf := hx.frozen j
      have xl := hx.lt
      have hw1 : IntKind.i64.wrap ((j : Int) + 1) = (j : Int) + 1 := IntWalk.i64_in _ ⟨by omega, by have := HN.out; omega⟩
      have HS : Hid (Bx 3 (w1.setCell ⟨ob, j, none⟩ (.int .i64 (-1))) ob (rowF n (fun z => if z < j + 1 then -1 else 0))) := Lib.hid (by
        have := HX.out.set j (.int .i64 (-1))
        rw [rowF_set _ hjn] at this
        rwa [rowF_congr (H := fun z => if z < j + 1 then -1 else 0)] at this
        intro z hz
        unfold up
        by_cases q : z = j
        · rw [if_pos q, if_pos (by omega)]
        · rw [if_neg q]
          show (if z < j then (-1 : Int) else 0) = _
          by_cases q2 : z < j
          · rw [if_pos q2, if_pos (by omega)]
          · rw [if_neg q2, if_neg (by omega)])
      clear hx
      go_wp2_with fail
      go_roundg gk
      case measure => omega
      case rel => exact ⟨j + 1, by push_cast; rfl, by omega, BL.out.setCell (by rw [HOB.out]; exact Nat.le_refl _) _, HS.out⟩
    | zero =>
      have d1 : decide ((j : Int) < (n : Int)) = false := decide_eq_false (by omega)
      have d2 : ¬ (j : Int) < (n : Int) := by omega
      have d3 : decide (j < n) = false := decide_eq_false (by omega)
      have d4 : ¬ j < n := by omega
      have X1 : Hid (Bx 3 w1 ob (rowF n (fun _ => -1))) := Lib.hid (by rw [rowF_congr (H := fun z => if z < j then -1 else 0)]; exact HX.out; exact fun z hz => (if_pos (by omega)).symm)
      clear hx HX
      go_wp2_with fail
      clear d1 d2 d3 d4
      go_loopg [7] (mu n (fun _ => -1) + 1) (fun gk av wr => ∃ a : Bool, ∃ F, av = .bool a ∧ Below w.heap.size w wr ∧ Bx 3 wr ob (rowF n F) ∧ FrS L n F ∧ (a = true → mu n F + 1 ≤ gk) ∧ (a = false → ∀ z : Nat, z < n → Dist L opAll z (F z)))
      case atStart => exact ⟨true, fun _ => -1, rfl, BL.out, X1.out, FrS.start L n, fun _ => Nat.le_refl _, fun q => by cases q⟩
      case round =>
        clear BL X1
        obtain ⟨a, F, rfl, hbel, hx, hsn, hcn, hle⟩ := hrel
        rename World => wr
        have BR := Lib.hid hbel
        have XR := Lib.hid hx
        have SR := Lib.hid hsn
        have CR := Lib.hid hcn
        have LR := Lib.hid hle
        clear hbel hx hsn hcn hle
        cases a with
        | false =>
          have LF := Lib.hid (LR.out rfl)
          clear LR CR
          go_wp2_with fail
          go_ret
          exact ⟨ob, F, rfl, by rw [HOB.out]; exact Nat.le_refl _, XR.out, LF.out, BR.out⟩
        | true =>
          have GK := Lib.hid (CR.out rfl)
          clear CR LR
          go_wp2_with fail
          go_loopg [7, 8] m (fun gj av iv wx => ∃ b : Bool, ∃ j : Nat, ∃ G, av = .bool b ∧ iv = .int .i64 (j : Int) ∧ j + gj = m ∧ Below w.heap.size w wx ∧ Bx 3 wx ob (rowF n G) ∧ FrI L n F G j b)
          case atStart => exact ⟨false, 0, F, rfl, rfl, by omega, BR.out, XR.out, FrI.start SR.out⟩
          case round =>
            obtain ⟨b, j, G, rfl, rfl, hjg, hbx, hgx, hpi⟩ := hrel
            rename World => wx
            have BX := Lib.hid hbx
            have XX := Lib.hid hgx
            have PX := Lib.hid hpi
            clear hbx hgx hpi
            cases gk with
            | zero =>
              have d1 : decide ((j : Int) < (m : Int)) = false := decide_eq_false (by omega)
              have d2 : ¬ (j : Int) < (m : Int) := by omega
              have d3 : decide (j < m) = false := decide_eq_false (by omega)
              have d4 : ¬ j < m := by omega
              have PE : Hid (FrI L n F G L.length b) := Lib.hid (by rw [← HM.out, show m = j by omega]; exact PX.out)
              go_wp2_with fail
              go_roundg (mu n F)
              case measure => have := GK.out; omega
              case rel =>
                refine ⟨b, G, rfl, BX.out, XX.out, PE.out.s, fun hb => ?_, fun hb => ?_⟩
                · have := PE.out.y hb; omega
                · subst hb; exact PE.out.done HOK.out
            | succ gj =>
              have hjl : j < L.length := by rw [← HM.out]; omega
              obtain ⟨g1, o1, rfl, hg1, e0, e1, e2, e3⟩ := HVX.out j hjl
              have e0 := keep BX.out hg1 e0
              have e1 := keep BX.out hg1 e1
              have e2 := keep BX.out hg1 e2
              have e3 := keep BX.out hg1 e3
              have hg1 := Nat.lt_of_lt_of_le hg1 BX.out.size
              have HE := Lib.hid (HOK.out _ (List.getElem_mem hjl))
              have HSK := Lib.hid (fun hc => PX.out.skip HOK.out hjl hc)
              have HTK := Lib.hid (fun hk hc => PX.out.take HOK.out hjl hk hc)
              have HKY := Lib.hid (fun hk => PX.out.s.key HE.out hk)
              have HFW := Lib.hid PX.out.s.w
              generalize L[j] = ed at *
              have j1 : (j : Int) < (m : Int) := by omega
              have j2 : j < m := by omega
              have j3 : (0 : Int) ≤ (j : Int) := by omega
              have hw1 : IntKind.i64.wrap ((j : Int) + 1) = (j : Int) + 1 := IntWalk.i64_in _ ⟨by omega, by have := HM.out; have := HL.out; omega⟩
              clear PX
              go_upto_if 32 with fail
              go_cut [9] from 33 to 40 (fun s9 wz => s9 = .int .i64 (keyF G ed.1) ∧ wz = wx)
              case first =>
                by_cases q : ed.1 = -1
                · have hc : keyF G ed.1 = 0 := by unfold keyF; rw [if_pos q]
                  have i1 : ¬ (0 : Int) ≤ ed.1 := by omega
                  clear q
                  go_wp2_with fail
                  go_meet
                  exact ⟨by rw [hc], rfl⟩
                · obtain ⟨k1, k2⟩ := HE.out.1.resolve_left q
                  have hc : keyF G ed.1 = G ed.1.toNat := by unfold keyF; rw [if_neg q]
                  have x0 := XX.out.cell ed.1.toNat
                  rw [rowF_at _ (by omega)] at x0
                  have xl := XX.out.lt
                  go_wp2_with fail
                  go_meet
                  exact ⟨by rw [hc], rfl⟩
              case rest =>
                obtain ⟨rfl, hw⟩ := hcut
                replace hw := hw.symm
                subst hw
                obtain ⟨tn, htn⟩ : ∃ tn : Nat, ed.2.1 = (tn : Int) := ⟨ed.2.1.toNat, by have := HE.out.2; omega⟩
                have htn2 : tn < n := by have := HE.out.2; omega
                have x0 := XX.out.cell tn
                rw [rowF_at _ htn2] at x0
                have xf := XX.out.frozen tn
                have xl := XX.out.lt
                have i3 : (tn : Int) < (n : Int) := by omega
                have HT : Hid (ed.2.1.toNat = tn) := Lib.hid (by rw [htn]; rfl)
                rw [HT.out] at HSK HTK
                rw [htn] at e1
                have hgt := HFW.out tn htn2
                clear htn HFW
                have X2 : Hid (Bx 3 (wx.setCell ⟨ob, tn, none⟩ (.int .i64 (keyF G ed.1 + 1))) ob (rowF n (up G tn (keyF G ed.1 + 1)))) := Lib.hid (by have := XX.out.set tn (.int .i64 (keyF G ed.1 + 1)); rwa [rowF_set _ htn2] at this)
                obtain ⟨d, hd⟩ : ∃ d, d = keyF G ed.1 := ⟨_, rfl⟩
                rw [← hd] at HSK HTK HKY X2 ⊢
                clear hd
                by_cases p1 : 0 ≤ d
                · obtain ⟨-, hdn⟩ := HKY.out p1
                  have hw2 : IntKind.i64.wrap (d + 1) = d + 1 := IntWalk.i64_in _ ⟨by omega, by have := HN.out; omega⟩
                  clear HKY hdn
                  by_cases p2 : G tn = -1
                  · have P2 := Lib.hid (HTK.out p1 (.inl p2))
                    rw [p2] at x0
                    clear p2 hgt
                    go_wp2_with fail
                    go_roundg gj
                    case measure => omega
                    case rel => exact ⟨true, j + 1, up G tn (d + 1), rfl, by push_cast; rfl, by omega, BX.out.setCell (by rw [HOB.out]; exact Nat.le_refl _) _, X2.out, P2.out⟩
                  · have i6 : ¬ G tn < 0 := by omega
                    by_cases p3 : d + 1 < G tn
                    · have P2 := Lib.hid (HTK.out p1 (.inr p3))
                      clear hgt p2
                      go_wp2_with fail
                      go_roundg gj
                      case measure => omega
                      case rel => exact ⟨true, j + 1, up G tn (d + 1), rfl, by push_cast; rfl, by omega, BX.out.setCell (by rw [HOB.out]; exact Nat.le_refl _) _, X2.out, P2.out⟩
                    · have P2 := Lib.hid (HSK.out (fun q => by rcases q.2 with g | g; exact p2 g; exact p3 g))
                      clear hgt p2
                      go_wp2_with fail
                      go_roundg gj
                      case measure => omega
                      case rel => exact ⟨b, j + 1, G, rfl, by push_cast; rfl, by omega, BX.out, XX.out, P2.out⟩
                · have P2 := Lib.hid (HSK.out (fun q => p1 q.1))
                  clear hgt HKY
                  go_wp2_with fail
                  go_roundg gj
                  case measure => omega
                  case rel => exact ⟨b, j + 1, G, rfl, by push_cast; rfl, by omega, BX.out, XX.out, P2.out⟩
end Go.Proofs.Ytkhgpflpbdakoaa
