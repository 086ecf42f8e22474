/- Contracts of a graph's Solve, Far and Without. -/
import Derived.Test.YtkhgpflpbdakoaaGrT
namespace Go.Proofs.Ytkhgpflpbdakoaa
open Go Go.RowKit
set_option linter.unusedVariables false
set_option linter.unusedSimpArgs false

/-- a row of yes and no -/
def rowB (n : Nat) (F : Nat → Bool) : List Value := (List.range n).map fun z => .bool (F z)
theorem rowB_at {n : Nat} (F : Nat → Bool) {z : Nat} (h : z < n) : (rowB n F)[z]? = some (.bool (F z)) := by unfold rowB; rw [List.getElem?_map, List.getElem?_range h]; rfl
theorem rowB_set {n : Nat} (F : Nat → Bool) {z : Nat} (h : z < n) (x : Bool) : (rowB n F).set z (.bool x) = rowB n (up F z x) := by
  apply List.ext_getElem?
  intro j
  rw [List.getElem?_set]
  unfold rowB
  rw [List.getElem?_map, List.getElem?_map, List.length_map, List.length_range]
  by_cases hj : z = j
  · subst hj
    rw [if_pos rfl, if_pos h, List.getElem?_range h]
    simp [up_same]
  · rw [if_neg hj]
    by_cases hjn : j < n
    · rw [List.getElem?_range hjn]
      simp [up_other _ _ (Ne.symm hj)]
    · rw [List.getElem?_eq_none (by simpa using hjn)]
      rfl
theorem rowB_congr {n : Nat} {F H : Nat → Bool} (h : ∀ z, z < n → F z = H z) : rowB n F = rowB n H := by
  unfold rowB
  apply List.map_congr_left
  intro z hz
  rw [h z (List.mem_range.1 hz)]
theorem make_bools (n : Nat) (hn : n ≤ 1000000) (w : World) : (Instr.makeSlice 34 (.int .i64 n) (.int .i64 n)).run Try.prog w = .ok (.slice (some ⟨w.heap.size, 0, none⟩) n n) (w.alloc (.cells (rowB n (fun _ => false)).toArray 4)) := by
  have := run_make_row' (P := Try.prog) 34 4 (.bool false) 1 Try.underlying34 (by kernel_rfl) rfl .i64 .i64 n (by omega) (by omega) w
  rw [this]
  have e : madeCells #[.bool false] n = (rowB n (fun _ => false)).toArray := by
    apply Array.ext_getElem?
    intro j
    by_cases hj : j < n
    · simp [madeCells, hj, Nat.mod_one, rowB]
    · simp [madeCells, hj, rowB]
  rw [e]
/-- a list of yes and no, made new -/
def NewB (w0 w : World) (n : Nat) (F : Nat → Bool) (v : Value) : Prop := ∃ b, v = .slice (some ⟨b, 0, none⟩) n n ∧ w0.heap.size ≤ b ∧ Bx 4 w b (rowB n F)

set_option maxRecDepth 100000 in
set_option maxHeartbeats 2000000 in
theorem nodes_any {w : World} {n fb bb : Nat} {F : Nat → Int} (h : Bx 3 w fb (rowF n F)) (hn : n ≤ 8192) :
    Calls Try.prog 28 #[(.agg #[.slice (some ⟨fb, 0, none⟩) n n, .slice (some ⟨bb, 0, none⟩) n n])] w fun e w' => ∃ v, e = .returned v ∧ NewB w w' n (fun z => F z != -1) v ∧ Below w.heap.size w w' := by
  have hmk := make_bools n (by omega)
  have HN := Lib.hid hn
  have H := Lib.hid h
  clear h hn
  go_enter Try.func28, Try.ntmps28
  go_wp2_with fail
  have B0 : Hid (Below w.heap.size w (((w.alloc (.cells #[.slice (some ⟨fb, 0, none⟩) n n, .slice (some ⟨bb, 0, none⟩) n n] 63)).alloc (.cells (rowB n (fun _ => false)).toArray 4)))) := Lib.hid (by repeat (first | exact Below.refl _ _ | apply Below.setCell _ (by first | omega | (simp <;> omega)) | apply Below.alloc _ (by first | omega | (simp <;> omega))))
  have X0 : Hid (Bx 4 (((w.alloc (.cells #[.slice (some ⟨fb, 0, none⟩) n n, .slice (some ⟨bb, 0, none⟩) n n] 63)).alloc (.cells (rowB n (fun _ => false)).toArray 4))) (w.heap.size + 1) (rowB n (fun _ => false))) := Lib.hid (by
    have := Bx.new 4 (w.alloc (.cells #[.slice (some ⟨fb, 0, none⟩) n n, .slice (some ⟨bb, 0, none⟩) n n] 63)) (rowB n (fun _ => false)).toArray
    simpa using this)
  generalize ((w.alloc (.cells #[.slice (some ⟨fb, 0, none⟩) n n, .slice (some ⟨bb, 0, none⟩) n n] 63)).alloc (.cells (rowB n (fun _ => false)).toArray 4)) = W1 at *
  clear hmk
  go_loopg [13] n (fun gk iv wr => ∃ j : Nat, iv = .int .i64 (j : Int) ∧ j + gk = n ∧ Below w.heap.size w wr ∧ Bx 4 wr (w.heap.size + 1) (rowB n (fun z => if z < j then F z != -1 else false)))
  case atStart => exact ⟨0, rfl, by omega, B0.out, by rw [rowB_congr (H := fun _ => false)]; exact X0.out; exact fun z hz => if_neg (by omega)⟩
  case round =>
    clear B0 X0
    obtain ⟨j, rfl, hjk, hbel, hx⟩ := hrel
    have BL := Lib.hid hbel
    have HX := Lib.hid hx
    cases gk with
    | zero =>
      have d1 : decide ((j : Int) < (n : Int)) = false := decide_eq_false (by omega)
      have d2 : ¬ (j : Int) < (n : Int) := by omega
      have d3 : decide (j < n) = false := decide_eq_false (by omega)
      have d4 : ¬ j < n := by omega
      clear hx hbel
      go_wp2_with fail
      go_ret
      refine ⟨_, rfl, ⟨_, rfl, by omega, ?_⟩, BL.out⟩
      have := HX.out
      rwa [rowB_congr (H := fun z => F z != -1)] at this
      intro z hz
      exact if_pos (by omega)
    | succ gk =>
      have i1 : (j : Int) < (n : Int) := by omega
      have hjn : j < n := by omega
      have f0 := (H.out.keep hbel).cell j
      rw [rowF_at _ hjn] at f0
      have fl := (H.out.keep hbel).lt
      have x0 := hx.cell j
      rw [rowB_at _ hjn] at x0
      have xf := hx.frozen j
      have xl := hx.lt
      have hw1 : IntKind.i64.wrap ((j : Int) + 1) = (j : Int) + 1 := IntWalk.i64_in _ ⟨by omega, by have := HN.out; omega⟩
      have HS : Hid (Bx 4 (wr.setCell ⟨w.heap.size + 1, j, none⟩ (.bool (F j != -1))) (w.heap.size + 1) (rowB n (fun z => if z < j + 1 then F z != -1 else false))) := Lib.hid (by
        have := HX.out.set j (.bool (F j != -1))
        rw [rowB_set _ hjn] at this
        rwa [rowB_congr (H := fun z => if z < j + 1 then F z != -1 else false)] at this
        intro z hz
        unfold up
        by_cases q : z = j
        · rw [if_pos q, if_pos (by omega), q]
        · rw [if_neg q]
          show (if z < j then F z != -1 else false) = _
          by_cases q2 : z < j
          · rw [if_pos q2, if_pos (by omega)]
          · rw [if_neg q2, if_neg (by omega)])
      clear hx hbel
      go_wp2_with fail
      go_roundg gk
      case measure => omega
      case rel => exact ⟨j + 1, by push_cast; rfl, by omega, BL.out.setCell (by simp) _, HS.out⟩

/-- all edges are open -/
def opAll : Nat → Bool := fun _ => true
theorem solve1_any (i : Nat) (w : World) : Calls Try.prog 27 #[.int .i64 (i : Int)] w fun e w' => e = .returned (.bool (opAll i)) ∧ Below w.heap.size w w' := by
  go_enter Try.func27, Try.ntmps27
  go_wp2_with fail
  go_ret
  exact ⟨rfl, Below.refl _ _⟩
theorem path1_any (i : Nat) (w : World) : Calls Try.prog 30 #[.int .i64 (i : Int)] w fun e w' => e = .returned (.bool (opAll i)) ∧ Below w.heap.size w w' := by
  go_enter Try.func30, Try.ntmps30
  go_wp2_with fail
  go_ret
  exact ⟨rfl, Below.refl _ _⟩
theorem far1_any (i : Nat) (w : World) : Calls Try.prog 32 #[.int .i64 (i : Int)] w fun e w' => e = .returned (.bool (opAll i)) ∧ Below w.heap.size w w' := by
  go_enter Try.func32, Try.ntmps32
  go_wp2_with fail
  go_ret
  exact ⟨rfl, Below.refl _ _⟩

/-- how far it is to each node, and by which edge -/
def Found (L : List Eg) (op : Nat → Bool) (n : Nat) (s : Bf) : Prop := BI L op n s ∧ s.line = [] ∧ BdS n s
theorem solve_any {w : World} {B n : Nat} {L : List Eg} {S : GrS} (h : GrM w B n L S) (hn : n ≤ 8192) (hL : L.length ≤ 16384) (hok : ∀ e ∈ L, okE' n e) :
    Calls Try.prog 14 #[(.pointer (some ⟨S.g, 0, none⟩))] w fun e w' => ∃ v s, e = .returned v ∧ NewB w w' n (fun z => s.far z != -1) v ∧ Found L opAll n s ∧ Below w.heap.size w w' := by
  have HC := Lib.hid (spread_any h hn hL hok opAll 27 #[] (fun args w => by kernel_rfl) (fun w' _ i _ => by simpa using solve1_any i w'))
  have HNN := Lib.hid hn
  clear h hn hL hok
  go_enter Try.func14, Try.ntmps14
  go_wp2_with fail
  refine HC.out.mono ?_
  rintro e w1 ⟨fb, bb, s, rfl, h1, hf, hb, hi, hl, hz, -, -⟩
  have HF := Lib.hid (nodes_any (bb := bb) hf HNN.out)
  have H1 := Lib.hid h1
  have HI := Lib.hid (show Found L opAll n s from ⟨hi, hl, hz⟩)
  clear h1 hf hb hi hl hz
  go_wp2_with fail
  refine HF.out.mono ?_
  rintro e w2 ⟨v, rfl, ⟨b, rfl, hb1, hb2⟩, h2⟩
  have H2 := Lib.hid h2
  have HB := Lib.hid hb2
  clear h2 hb2
  go_wp2_with fail
  go_ret
  exact ⟨_, s, rfl, ⟨b, rfl, Nat.le_trans H1.out.size hb1, HB.out⟩, HI.out, after H1.out H2.out⟩

/-- all edges but one are open -/
def opBut (k : Int) : Nat → Bool := fun i => (i : Int) != k
theorem without1_any (i : Nat) (k : Int) (b : Nat) (w : World) (h : w.cell? ⟨b, 0, none⟩ = some (.int .i64 k)) : Calls Try.prog 34 #[.int .i64 (i : Int), .pointer (some ⟨b, 0, none⟩)] w fun e w' => e = .returned (.bool (opBut k i)) ∧ Below w.heap.size w w' := by
  go_enter Try.func34, Try.ntmps34
  go_wp2_with fail
  go_ret
  exact ⟨rfl, Below.refl _ _⟩
set_option maxRecDepth 100000 in
theorem without_any {w : World} {B n : Nat} {L : List Eg} {S : GrS} (h : GrM w B n L S) (hn : n ≤ 8192) (hL : L.length ≤ 16384) (hok : ∀ e ∈ L, okE' n e) (k : Int) :
    Calls Try.prog 22 #[(.pointer (some ⟨S.g, 0, none⟩)), .int .i64 k] w fun e w' => ∃ v s, e = .returned v ∧ NewB w w' n (fun z => s.far z != -1) v ∧ Found L (opBut k) n s ∧ Below w.heap.size w w' := by
  have h0 : Below w.heap.size w (w.alloc (.cells #[.int .i64 k] 3)) := by repeat (first | exact Below.refl _ _ | apply Below.setCell _ (by first | omega | (simp <;> omega)) | apply Below.alloc _ (by first | omega | (simp <;> omega)))
  have x0 := Bx.new 3 w #[.int .i64 k]
  have HC := Lib.hid (spread_any (h.step h0) hn hL hok (opBut k) 34 #[.pointer (some ⟨w.heap.size, 0, none⟩)] (fun args w => by kernel_rfl) (fun w' hw i _ => by
    have := without1_any i k w.heap.size w' ((x0.keep hw).cell 0)
    simpa using this))
  have H0 := Lib.hid h0
  have HNN := Lib.hid hn
  clear h hn hL hok h0 x0
  go_enter Try.func22, Try.ntmps22
  go_wp2_with fail
  refine HC.out.mono ?_
  rintro e w1 ⟨fb, bb, s, rfl, h1, hf, hb, hi, hl, hz, -, -⟩
  have HF := Lib.hid (nodes_any (bb := bb) hf HNN.out)
  have H1 := Lib.hid (after H0.out h1)
  have HI := Lib.hid (show Found L (opBut k) n s from ⟨hi, hl, hz⟩)
  clear h1 hf hb hi hl hz
  go_wp2_with fail
  refine HF.out.mono ?_
  rintro e w2 ⟨v, rfl, ⟨b, rfl, hb1, hb2⟩, h2⟩
  have H2 := Lib.hid h2
  have HB := Lib.hid hb2
  clear h2 hb2
  go_wp2_with fail
  go_ret
  exact ⟨_, s, rfl, ⟨b, rfl, Nat.le_trans H1.out.size hb1, HB.out⟩, HI.out, after H1.out H2.out⟩
theorem far_any {w : World} {B n : Nat} {L : List Eg} {S : GrS} (h : GrM w B n L S) (hn : n ≤ 8192) (hL : L.length ≤ 16384) (hok : ∀ e ∈ L, okE' n e) :
    Calls Try.prog 18 #[(.pointer (some ⟨S.g, 0, none⟩))] w fun e w' => ∃ b s, e = .returned (.slice (some ⟨b, 0, none⟩) n n) ∧ w.heap.size ≤ b ∧ Bx 3 w' b (rowF n s.far) ∧ Found L opAll n s ∧ Below w.heap.size w w' := by
  have HC := Lib.hid (spread_any h hn hL hok opAll 32 #[] (fun args w => by kernel_rfl) (fun w' _ i _ => by simpa using far1_any i w'))
  clear h hn hL hok
  go_enter Try.func18, Try.ntmps18
  go_wp2_with fail
  refine HC.out.mono ?_
  rintro e w1 ⟨fb, bb, s, rfl, h1, hf, hb, hi, hl, hz, hn1, -⟩
  have H1 := Lib.hid h1
  have HI := Lib.hid (show Found L opAll n s from ⟨hi, hl, hz⟩)
  have HF := Lib.hid hf
  have hfl : ∀ w, Sem.run Try.prog (Instr.field 63 (.agg #[.slice (some ⟨fb, 0, none⟩) n n, .slice (some ⟨bb, 0, none⟩) n n]) 0) w = .ok (.slice (some ⟨fb, 0, none⟩) n n) w := fun w => by kernel_rfl
  clear h1 hf hb hi hl hz
  go_wp2_with fail
  go_ret
  exact ⟨fb, s, rfl, hn1, HF.out, HI.out, H1.out⟩
end Go.Proofs.Ytkhgpflpbdakoaa
