/- Is an edge among some; and one way to a node, whichever number is asked. -/
import Derived.Test.YtkhgpflpbdakoaaGrSh
import Derived.Test.YtkhgpflpbdakoaaGrY
import Derived.Test.YtkhgpflpbdakoaaGrFr
namespace Go.Proofs.Ytkhgpflpbdakoaa
open Go Go.RowKit
set_option linter.unusedVariables false
set_option linter.unusedSimpArgs false

theorem eqR (x y : Eg) (w : World) : Sem.run Try.prog (binOp BinOp.eql 41 (.agg #[.int .i64 x.1, .int .i64 x.2.1, .int .i64 x.2.2.1, .int .i64 x.2.2.2]) (.agg #[.int .i64 y.1, .int .i64 y.2.1, .int .i64 y.2.2.1, .int .i64 y.2.2.2])) w = .ok (.bool (decide (x = y))) w := by
  obtain ⟨x1, x2, x3, x4⟩ := x
  obtain ⟨y1, y2, y3, y4⟩ := y
  go_simp
  by_cases h1 : x1 = y1
  · by_cases h2 : x2 = y2
    · by_cases h3 : x3 = y3
      · by_cases h4 : x4 = y4
        · simp [h1, h2, h3, h4]
        · simp [h1, h2, h3, h4]
      · simp [h1, h2, h3]
    · simp [h1, h2]
  · simp [h1]
set_option maxRecDepth 100000 in
set_option maxHeartbeats 4000000 in
theorem in_any {w : World} {v : Value} {L : List Eg} (hv : EgV w v L) (hL : L.length ≤ 16384) (e : Eg) :
    Calls Try.prog 20 #[v, (.agg #[.int .i64 e.1, .int .i64 e.2.1, .int .i64 e.2.2.1, .int .i64 e.2.2.2])] w fun x w' => x = .returned (.bool (decide (e ∈ L))) ∧ Below w.heap.size w w' := by
  obtain ⟨vg, vc, rfl, hvx⟩ := hv
  have HVX := Lib.hid hvx
  have HL := Lib.hid hL
  obtain ⟨m, hm⟩ : ∃ m, m = L.length := ⟨_, rfl⟩
  rw [← hm]
  have HM := Lib.hid hm
  clear hL hvx hm
  go_enter Try.func20, Try.ntmps20
  go_wp2_with fail
  have B0 : Hid (Below w.heap.size w (w.alloc (.cells #[.int .i64 e.1, .int .i64 e.2.1, .int .i64 e.2.2.1, .int .i64 e.2.2.2] 29))) := Lib.hid (by repeat (first | exact Below.refl _ _ | apply Below.setCell _ (by first | omega | (simp <;> omega)) | apply Below.alloc _ (by first | omega | (simp <;> omega))))
  have X0 : Hid (Bx 29 (w.alloc (.cells #[.int .i64 e.1, .int .i64 e.2.1, .int .i64 e.2.2.1, .int .i64 e.2.2.2] 29)) w.heap.size (egC e)) := Lib.hid (Bx.new 29 w (egC e).toArray)
  generalize w.alloc (.cells #[.int .i64 e.1, .int .i64 e.2.1, .int .i64 e.2.2.1, .int .i64 e.2.2.2] 29) = W1 at *
  obtain ⟨t3, h3⟩ : ∃ t3, t3 = w.heap.size := ⟨_, rfl⟩
  rw [← h3] at X0 ⊢
  clear h3
  go_loopg [9] m (fun gk iv wr => ∃ j : Nat, iv = .int .i64 (j : Int) ∧ j + gk = m ∧ Below w.heap.size w wr ∧ Bx 29 wr t3 (egC e) ∧ e ∉ L.take j)
  case atStart => exact ⟨0, rfl, by omega, B0.out, X0.out, by simp⟩
  case round =>
    clear B0 X0
    obtain ⟨j, rfl, hjk, hbel, hx, hno⟩ := hrel
    have BL := Lib.hid hbel
    have XL := Lib.hid hx
    have NO := Lib.hid hno
    rename World => wr
    clear hbel hx hno
    cases gk with
    | zero =>
      have d1 : decide ((j : Int) < (m : Int)) = false := decide_eq_false (by omega)
      have d2 : ¬ (j : Int) < (m : Int) := by omega
      have d3 : decide (j < m) = false := decide_eq_false (by omega)
      have d4 : ¬ j < m := by omega
      have NE : Hid (decide (e ∈ L) = false) := Lib.hid (by
        have := NO.out
        rw [show j = L.length by rw [← HM.out]; omega, List.take_length] at this
        exact decide_eq_false this)
      go_wp2_with fail
      go_ret
      exact ⟨by rw [NE.out]; rfl, BL.out⟩
    | succ gk =>
      have hjl : j < L.length := by rw [← HM.out]; omega
      obtain ⟨g1, o1, rfl, hg1, e0, e1, e2, e3⟩ := HVX.out j hjl
      have e0 := keep BL.out hg1 e0
      have e1 := keep BL.out hg1 e1
      have e2 := keep BL.out hg1 e2
      have e3 := keep BL.out hg1 e3
      have hg1 := Nat.lt_of_lt_of_le hg1 BL.out.size
      have HT : Hid (L.take (j + 1) = L.take j ++ [L[j]]) := Lib.hid (List.take_succ_eq_append_getElem hjl)
      have HMEM := Lib.hid (List.getElem_mem hjl)
      generalize L[j] = y at *
      have j1 : (j : Int) < (m : Int) := by omega
      have j2 : j < m := by omega
      have hw1 : IntKind.i64.wrap ((j : Int) + 1) = (j : Int) + 1 := IntWalk.i64_in _ ⟨by omega, by have := HM.out; have := HL.out; omega⟩
      go_upto_region 4 with fail
      have BX := Lib.hid (after BL.out (show Below wr.heap.size wr (wr.alloc (.cells #[.int .i64 y.1, .int .i64 y.2.1, .int .i64 y.2.2.1, .int .i64 y.2.2.2] 41)) by repeat (first | exact Below.refl _ _ | apply Below.setCell _ (by first | omega | (simp <;> omega)) | apply Below.alloc _ (by first | omega | (simp <;> omega)))))
      have X9 : Hid (Bx 41 (wr.alloc (.cells #[.int .i64 y.1, .int .i64 y.2.1, .int .i64 y.2.2.1, .int .i64 y.2.2.2] 41)) wr.heap.size (egC y)) := Lib.hid (Bx.new 41 wr (egC y).toArray)
      have XE := Lib.hid (XL.out.alloc (.cells #[.int .i64 y.1, .int .i64 y.2.1, .int .i64 y.2.2.1, .int .i64 y.2.2.2] 41))
      generalize wr.alloc (.cells #[.int .i64 y.1, .int .i64 y.2.1, .int .i64 y.2.2.1, .int .i64 y.2.2.2] 41) = wx at *
      obtain ⟨t9, h9⟩ : ∃ t9, t9 = wr.heap.size := ⟨_, rfl⟩
      rw [← h9] at X9 ⊢
      clear e0 e1 e2 e3 hg1 h9 BL XL
      obtain ⟨x0, x1, x2, x3, xl, xf⟩ := X9.out.four
      obtain ⟨y0, y1, y2, y3, yl, yf⟩ := XE.out.four
      have hq := eqR y e
      by_cases p : y = e
      · have NE : Hid (decide (e ∈ L) = true) := Lib.hid (decide_eq_true (by rw [← p]; exact HMEM.out))
        rw [decide_eq_true p] at hq
        clear p
        go_wp2_with fail
        go_ret
        exact ⟨by rw [NE.out]; rfl, BX.out⟩
      · have N2 : Hid (e ∉ L.take (j + 1)) := Lib.hid (by
          rw [HT.out, List.mem_append, List.mem_singleton]
          intro q
          rcases q with q | q
          · exact NO.out q
          · exact p q.symm)
        rw [decide_eq_false p] at hq
        clear p
        go_wp2_with fail
        go_roundg gk
        case measure => omega
        case rel => exact ⟨j + 1, by push_cast; rfl, by omega, BX.out, XE.out, N2.out⟩

/-- a way to a node, told by how far it is -/
def WayTo (L : List Eg) (n : Nat) (z : Int) (p : List Eg) : Prop :=
  p.length ≤ 8192 ∧ (¬ (0 ≤ z ∧ z < n) → p = []) ∧ (0 ≤ z ∧ z < n → ∀ d, Dist L opAll z d → (d = -1 → p = []) ∧ (d ≠ -1 → Chain (-1) p z ∧ (∀ e ∈ p, e ∈ L) ∧ (p.length : Int) = d))
theorem path_all {w : World} {B n : Nat} {L : List Eg} {S : GrS} (h : GrM w B n L S) (hn : n ≤ 8192) (hL : L.length ≤ 16384) (hok : ∀ e ∈ L, okE' n e) (z : Int) :
    Calls Try.prog 17 #[(.pointer (some ⟨S.g, 0, none⟩)), .int .i64 z] w fun e w' => ∃ v p, e = .returned v ∧ EgV w' v p ∧ WayTo L n z p ∧ Below w.heap.size w w' := by
  by_cases hz : 0 ≤ z ∧ z < n
  · obtain ⟨y, rfl⟩ : ∃ y : Nat, z = (y : Int) := ⟨z.toNat, by omega⟩
    refine (path_any h hn hL hok y (by omega)).mono ?_
    rintro e w1 ⟨v, s, p, rfl, hv, hf, hp, hb⟩
    have hd := hf.1.dist hok hf.2.1 y (by omega)
    refine ⟨v, p, rfl, hv, ⟨?_, fun q => absurd hz q, fun _ d hdd => ?_⟩, hb⟩
    · by_cases q : s.far y = -1
      · rw [hp.1 q]; simp
      · have h1 := (hp.2 q).2.2
        have h2 := (hf.2.2.1 y (by omega)).2
        omega
    · have := dist_eq hd hdd
      rw [← this]
      exact hp
  · refine (path_no h hz).mono ?_
    rintro e w1 ⟨rfl, hb⟩
    exact ⟨_, [], rfl, ⟨none, 0, rfl, fun j hj => absurd hj (by simp)⟩, ⟨by simp, fun _ => rfl, fun q => absurd q hz⟩, hb⟩
end Go.Proofs.Ytkhgpflpbdakoaa
