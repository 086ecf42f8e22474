/- Edges but one; an edge found among some. -/
import Derived.Test.YtkhgpflpbdakoaaGrIn
namespace Go.Proofs.Ytkhgpflpbdakoaa
open Go Go.RowKit
set_option linter.unusedVariables false
set_option linter.unusedSimpArgs false

theorem way_mono {L : List Eg} {op op' : Nat → Bool} (h : ∀ i, i < L.length → op i = true → op' i = true) {k : Nat} {y : Int} (hw : Way L op k y) : Way L op' k y := by
  induction hw with
  | start => exact Way.start
  | go hw hi ho ih => exact Way.go ih hi (h _ hi ho)
/-- the edges but one -/
def restL (L : List Eg) (k : Nat) : List Eg := L.take k ++ L.drop (k + 1)
theorem rest_len {L : List Eg} {k : Nat} (hk : k < L.length) : (restL L k).length = L.length - 1 := by
  unfold restL
  rw [List.length_append, List.length_take, List.length_drop]
  omega
theorem rest_lo {L : List Eg} {k i : Nat} (hk : k < L.length) (hi : i < k) : (restL L k)[i]? = L[i]? := by
  unfold restL
  rw [List.getElem?_append_left (by rw [List.length_take]; omega), List.getElem?_take_of_lt hi]
theorem rest_hi {L : List Eg} {k i : Nat} (hk : k < L.length) (hi : k ≤ i) : (restL L k)[i]? = L[i + 1]? := by
  unfold restL
  rw [List.getElem?_append_right (by rw [List.length_take]; omega), List.length_take, List.getElem?_drop]
  congr 1
  omega
theorem rest_mem {L : List Eg} {k : Nat} {e : Eg} (h : e ∈ restL L k) : e ∈ L := by
  unfold restL at h
  rcases List.mem_append.1 h with q | q
  · exact List.mem_of_mem_take q
  · exact List.mem_of_mem_drop q
theorem but_ne {k i : Nat} : opBut (k : Int) i = true ↔ i ≠ k := by
  unfold opBut
  rw [bne_iff_ne]
  omega
theorem rest_way {L : List Eg} {k : Nat} (hk : k < L.length) {m : Nat} {y : Int} : Way (restL L k) opAll m y ↔ Way L (opBut (k : Int)) m y := by
  constructor
  · intro hw
    induction hw with
    | start => exact Way.start
    | @go m i hw hi ho ih =>
      rw [rest_len hk] at hi
      by_cases q : i < k
      · have e1 : efr (restL L k) i = efr L i := by unfold efr; rw [rest_lo hk q]
        have e2 : eto (restL L k) i = eto L i := by unfold eto; rw [rest_lo hk q]
        rw [e1] at ih
        rw [e2]
        exact Way.go ih (by omega) (but_ne.2 (by omega))
      · have e1 : efr (restL L k) i = efr L (i + 1) := by unfold efr; rw [rest_hi hk (by omega)]
        have e2 : eto (restL L k) i = eto L (i + 1) := by unfold eto; rw [rest_hi hk (by omega)]
        rw [e1] at ih
        rw [e2]
        exact Way.go ih (by omega) (but_ne.2 (by omega))
  · intro hw
    induction hw with
    | start => exact Way.start
    | @go m i hw hi ho ih =>
      have ho := but_ne.1 ho
      have hl := rest_len hk
      by_cases q : i < k
      · have e1 : efr (restL L k) i = efr L i := by unfold efr; rw [rest_lo hk q]
        have e2 : eto (restL L k) i = eto L i := by unfold eto; rw [rest_lo hk q]
        rw [← e1] at ih
        rw [← e2]
        exact Way.go ih (by omega) rfl
      · obtain ⟨j, rfl⟩ : ∃ j, i = j + 1 := ⟨i - 1, by omega⟩
        have e1 : efr (restL L k) j = efr L (j + 1) := by unfold efr; rw [rest_hi hk (by omega)]
        have e2 : eto (restL L k) j = eto L (j + 1) := by unfold eto; rw [rest_hi hk (by omega)]
        rw [← e1] at ih
        rw [← e2]
        exact Way.go ih (by omega) rfl
theorem least_rest {L : List Eg} {k n : Nat} {F : Nat → Bool} (hk : k < L.length) (h : leastP (restL L k) opAll n F) : leastP L (opBut (k : Int)) n F := fun z hz =>
  (h z hz).trans ⟨fun ⟨m, hm⟩ => ⟨m, (rest_way hk).1 hm⟩, fun ⟨m, hm⟩ => ⟨m, (rest_way hk).2 hm⟩⟩
theorem least_out {L : List Eg} {k : Int} {n : Nat} {F : Nat → Bool} (hk : ¬ (0 ≤ k ∧ k < L.length)) (h : leastP L opAll n F) : leastP L (opBut k) n F := fun z hz =>
  (h z hz).trans ⟨fun ⟨m, hm⟩ => ⟨m, way_mono (fun i hi _ => by unfold opBut; rw [bne_iff_ne]; omega) hm⟩, fun ⟨m, hm⟩ => ⟨m, way_mono (fun _ _ _ => rfl) hm⟩⟩
/-- without an edge null comes to no more -/
theorem least_less {L : List Eg} {k : Int} {n : Nat} {F H : Nat → Bool} (hF : leastP L (opBut k) n F) (hH : leastP L opAll n H) {z : Nat} (hz : z < n) (h : F z = true) : H z = true := by
  obtain ⟨m, hm⟩ := (hF z hz).1 h
  exact (hH z hz).2 ⟨m, way_mono (fun _ _ _ => rfl) hm⟩
theorem chain_way {L : List Eg} {op : Nat → Bool} {b : Int} : ∀ (p : List Eg) (a : Int) (m : Nat), Chain a p b → Way L op m a → (∀ e ∈ p, ∃ i, i < L.length ∧ op i = true ∧ L[i]? = some e) → Way L op (m + p.length) b := by
  intro p
  induction p with
  | nil => intro a m h hw _; cases h; exact hw
  | cons e r ih =>
    intro a m h hw hp
    obtain ⟨h1, h2⟩ := h
    obtain ⟨i, hi, ho, he⟩ := hp e (by simp)
    have hf : efr L i = a := by unfold efr; rw [he]; exact h1
    have ht : eto L i = e.2.1 := by unfold eto; rw [he]; rfl
    rw [← hf] at hw
    have := Way.go hw hi ho
    rw [ht] at this
    have := ih _ _ h2 this fun y hy => hp y (by simp [hy])
    rwa [List.length_cons, Nat.add_comm r.length 1, ← Nat.add_assoc]
/-- where one more doesn't get it, the edge is on the way -/
theorem on_way {L : List Eg} {k : Int} {n : Nat} {F H : Nat → Bool} (hF : leastP L (opBut k) n F) (hH : leastP L opAll n H) {z : Nat} (hz : z < n) (h1 : H z = true) (h2 : F z = false) :
    ∃ j : Nat, ∃ hj : j < L.length, k = (j : Int) ∧ ∀ p, WayTo L n z p → (∀ d, Dist L opAll z d → L[j] ∈ p) := by
  by_cases hk : 0 ≤ k ∧ k < L.length
  · obtain ⟨j, rfl⟩ : ∃ j : Nat, k = (j : Int) := ⟨k.toNat, by omega⟩
    refine ⟨j, by omega, rfl, fun p hp d hd => ?_⟩
    refine Classical.byContradiction fun hn => ?_
    obtain ⟨m, hm⟩ := (hH z hz).1 h1
    have hd1 : d ≠ -1 := by
      rcases hd with ⟨_, g⟩ | ⟨g, _⟩
      · exact absurd hm (g m)
      · omega
    obtain ⟨c1, c2, c3⟩ := (hp.2.2 ⟨by omega, by omega⟩ d hd).2 hd1
    have hw := chain_way (L := L) (op := opBut (j : Int)) p (-1) 0 c1 Way.start fun e he => by
      obtain ⟨i, hi, q⟩ := List.getElem_of_mem (c2 e he)
      refine ⟨i, hi, but_ne.2 fun g => ?_, by rw [List.getElem?_eq_getElem hi, q]⟩
      subst g
      exact hn (by rw [q]; exact he)
    have := (hF z hz).2 ⟨_, hw⟩
    rw [h2] at this
    cases this
  · have := (hF z hz).2 (let ⟨m, hm⟩ := (hH z hz).1 h1; ⟨m, way_mono (fun i hi _ => by unfold opBut; rw [bne_iff_ne]; omega) hm⟩)
    rw [h2] at this
    cases this

set_option maxRecDepth 100000 in
set_option maxHeartbeats 4000000 in
theorem find_in {w : World} {v : Value} {p : List Eg} (hv : EgV w v p) (hL : p.length ≤ 16384) (e : Eg) (he : e ∈ p) :
    Calls Try.prog 23 #[v, (.agg #[.int .i64 e.1, .int .i64 e.2.1, .int .i64 e.2.2.1, .int .i64 e.2.2.2])] w fun x w' => x = .returned (.agg #[.int .i64 e.1, .int .i64 e.2.1, .int .i64 e.2.2.1, .int .i64 e.2.2.2]) ∧ Below w.heap.size w w' := by
  obtain ⟨vg, vc, rfl, hvx⟩ := hv
  have HVX := Lib.hid hvx
  have HL := Lib.hid hL
  have HE := Lib.hid he
  obtain ⟨m, hm⟩ : ∃ m, m = p.length := ⟨_, rfl⟩
  rw [← hm]
  have HM := Lib.hid hm
  clear hL hvx hm he
  go_enter Try.func23, Try.ntmps23
  go_wp2_with fail
  have B0 : Hid (Below w.heap.size w ((w.alloc (.cells #[.int .i64 e.1, .int .i64 e.2.1, .int .i64 e.2.2.1, .int .i64 e.2.2.2] 41)).alloc (.cells #[.int .i64 0, .int .i64 0, .int .i64 0, .int .i64 0] 29))) := Lib.hid (by repeat (first | exact Below.refl _ _ | apply Below.setCell _ (by first | omega | (simp <;> omega)) | apply Below.alloc _ (by first | omega | (simp <;> omega))))
  have X0 : Hid (Bx 41 ((w.alloc (.cells #[.int .i64 e.1, .int .i64 e.2.1, .int .i64 e.2.2.1, .int .i64 e.2.2.2] 41)).alloc (.cells #[.int .i64 0, .int .i64 0, .int .i64 0, .int .i64 0] 29)) w.heap.size (egC e)) := Lib.hid ((Bx.new 41 w (egC e).toArray).alloc _)
  have Z0 : Hid (Bx 29 ((w.alloc (.cells #[.int .i64 e.1, .int .i64 e.2.1, .int .i64 e.2.2.1, .int .i64 e.2.2.2] 41)).alloc (.cells #[.int .i64 0, .int .i64 0, .int .i64 0, .int .i64 0] 29)) (w.heap.size + 1) (egC (0, 0, 0, 0))) := Lib.hid (by
    have := Bx.new 29 (w.alloc (.cells #[.int .i64 e.1, .int .i64 e.2.1, .int .i64 e.2.2.1, .int .i64 e.2.2.2] 41)) #[.int .i64 0, .int .i64 0, .int .i64 0, .int .i64 0]
    rw [show (w.alloc (.cells #[.int .i64 e.1, .int .i64 e.2.1, .int .i64 e.2.2.1, .int .i64 e.2.2.2] 41)).heap.size = w.heap.size + 1 by simp] at this
    exact this)
  generalize (w.alloc (.cells #[.int .i64 e.1, .int .i64 e.2.1, .int .i64 e.2.2.1, .int .i64 e.2.2.2] 41)).alloc (.cells #[.int .i64 0, .int .i64 0, .int .i64 0, .int .i64 0] 29) = W1 at *
  obtain ⟨t4, h4⟩ : ∃ t4, t4 = w.heap.size + 1 := ⟨_, rfl⟩
  obtain ⟨t3, h3⟩ : ∃ t3, t3 = w.heap.size := ⟨_, rfl⟩
  have T4 : Hid (w.heap.size ≤ t4) := Lib.hid (by omega)
  rw [← h4] at Z0 ⊢
  rw [← h3] at X0 ⊢
  clear h3 h4
  go_loopg [9] m (fun gk iv wr => ∃ j : Nat, iv = .int .i64 (j : Int) ∧ j + gk = m ∧ Below w.heap.size w wr ∧ Bx 41 wr t3 (egC e) ∧ Bx 29 wr t4 (egC (0, 0, 0, 0)) ∧ e ∉ p.take j)
  case atStart => exact ⟨0, rfl, by omega, B0.out, X0.out, Z0.out, by simp⟩
  case round =>
    clear B0 X0 Z0
    obtain ⟨j, rfl, hjk, hbel, hx, hz, hno⟩ := hrel
    have BL := Lib.hid hbel
    have XL := Lib.hid hx
    have ZL := Lib.hid hz
    have NO := Lib.hid hno
    rename World => wr
    clear hbel hx hno hz
    cases gk with
    | zero =>
      exfalso
      have := NO.out
      rw [show j = p.length by rw [← HM.out]; omega, List.take_length] at this
      exact this HE.out
    | succ gk =>
      have hjl : j < p.length := by rw [← HM.out]; omega
      obtain ⟨g1, o1, rfl, hg1, e0, e1, e2, e3⟩ := HVX.out j hjl
      have e0 := keep BL.out hg1 e0
      have e1 := keep BL.out hg1 e1
      have e2 := keep BL.out hg1 e2
      have e3 := keep BL.out hg1 e3
      have hg1 := Nat.lt_of_lt_of_le hg1 BL.out.size
      have HT : Hid (p.take (j + 1) = p.take j ++ [p[j]]) := Lib.hid (List.take_succ_eq_append_getElem hjl)
      generalize p[j] = y at *
      have j1 : (j : Int) < (m : Int) := by omega
      have j2 : j < m := by omega
      have hw1 : IntKind.i64.wrap ((j : Int) + 1) = (j : Int) + 1 := IntWalk.i64_in _ ⟨by omega, by have := HM.out; have := HL.out; omega⟩
      go_upto_region 4 with fail
      have BX := Lib.hid (after BL.out (show Below wr.heap.size wr (wr.alloc (.cells #[.int .i64 y.1, .int .i64 y.2.1, .int .i64 y.2.2.1, .int .i64 y.2.2.2] 29)) by repeat (first | exact Below.refl _ _ | apply Below.setCell _ (by first | omega | (simp <;> omega)) | apply Below.alloc _ (by first | omega | (simp <;> omega)))))
      have X9 : Hid (Bx 29 (wr.alloc (.cells #[.int .i64 y.1, .int .i64 y.2.1, .int .i64 y.2.2.1, .int .i64 y.2.2.2] 29)) wr.heap.size (egC y)) := Lib.hid (Bx.new 29 wr (egC y).toArray)
      have XE := Lib.hid (XL.out.alloc (.cells #[.int .i64 y.1, .int .i64 y.2.1, .int .i64 y.2.2.1, .int .i64 y.2.2.2] 29))
      have ZE := Lib.hid (ZL.out.alloc (.cells #[.int .i64 y.1, .int .i64 y.2.1, .int .i64 y.2.2.1, .int .i64 y.2.2.2] 29))
      generalize wr.alloc (.cells #[.int .i64 y.1, .int .i64 y.2.1, .int .i64 y.2.2.1, .int .i64 y.2.2.2] 29) = wx at *
      obtain ⟨t9, h9⟩ : ∃ t9, t9 = wr.heap.size := ⟨_, rfl⟩
      rw [← h9] at X9 ⊢
      clear e0 e1 e2 e3 hg1 h9 BL XL ZL
      obtain ⟨x0, x1, x2, x3, xl, xf⟩ := X9.out.four
      obtain ⟨y0, y1, y2, y3, yl, yf⟩ := XE.out.four
      have hq := eqR y e
      by_cases q : y = e
      · rw [decide_eq_true q] at hq
        have HQ := Lib.hid q
        clear q
        obtain ⟨z0, z1, z2, z3, zl, zf⟩ := ZE.out.four
        have f0 := zf 0
        have f1 := zf 1
        have f2 := zf 2
        have f3 := zf 3
        have S4 : Hid (Bx 29 ((((wx.setCell ⟨t4, 0, none⟩ (.int .i64 y.1)).setCell ⟨t4, 1, none⟩ (.int .i64 y.2.1)).setCell ⟨t4, 2, none⟩ (.int .i64 y.2.2.1)).setCell ⟨t4, 3, none⟩ (.int .i64 y.2.2.2)) t4 (egC y)) := Lib.hid ((((ZE.out.set 0 (.int .i64 y.1)).set 1 (.int .i64 y.2.1)).set 2 (.int .i64 y.2.2.1)).set 3 (.int .i64 y.2.2.2))
        have B4 : Hid (Below w.heap.size w ((((wx.setCell ⟨t4, 0, none⟩ (.int .i64 y.1)).setCell ⟨t4, 1, none⟩ (.int .i64 y.2.1)).setCell ⟨t4, 2, none⟩ (.int .i64 y.2.2.1)).setCell ⟨t4, 3, none⟩ (.int .i64 y.2.2.2))) := Lib.hid ((((BX.out.setCell (p := ⟨t4, 0, none⟩) T4.out _).setCell (p := ⟨t4, 1, none⟩) T4.out _).setCell (p := ⟨t4, 2, none⟩) T4.out _).setCell (p := ⟨t4, 3, none⟩) T4.out _)
        go_wp2_with fail
        generalize (((wx.setCell ⟨t4, 0, none⟩ (.int .i64 y.1)).setCell ⟨t4, 1, none⟩ (.int .i64 y.2.1)).setCell ⟨t4, 2, none⟩ (.int .i64 y.2.2.1)).setCell ⟨t4, 3, none⟩ (.int .i64 y.2.2.2) = W9 at *
        obtain ⟨g0, g1, g2, g3, gl, gf⟩ := S4.out.four
        have hqq := HQ.out
        refine bodyPost_ret (v := .agg #[.int .i64 y.1, .int .i64 y.2.1, .int .i64 y.2.2.1, .int .i64 y.2.2.2]) (by simp [results, Try.results23, go_sem, g0, g1, g2, g3]) rfl ?_
        exact ⟨by rw [hqq], B4.out⟩
      · have N2 : Hid (e ∉ p.take (j + 1)) := Lib.hid (by
          rw [HT.out, List.mem_append, List.mem_singleton]
          intro g
          rcases g with g | g
          · exact NO.out g
          · exact q g.symm)
        rw [decide_eq_false q] at hq
        clear q
        go_wp2_with fail
        go_roundg gk
        case measure => omega
        case rel => exact ⟨j + 1, by push_cast; rfl, by omega, BX.out, XE.out, ZE.out, N2.out⟩
end Go.Proofs.Ytkhgpflpbdakoaa
