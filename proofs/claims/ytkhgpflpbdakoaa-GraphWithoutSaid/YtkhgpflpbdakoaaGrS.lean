/- What spread has in memory. -/
import Derived.Test.YtkhgpflpbdakoaaGrQ
import Derived.Test.YtkhgpflpbdakoaaGrE
import Derived.Deep.OwnRows
import Derived.Deep.LoopGhost
import Derived.Deep.Cut
import Derived.Deep.CutRange
namespace Go.Proofs.Ytkhgpflpbdakoaa
open Go Go.RowKit
set_option linter.unusedVariables false
set_option linter.unusedSimpArgs false

theorem make_ints (n : Nat) (hn : n ≤ 1000000) (w : World) : (Instr.makeSlice 44 (.int .i64 n) (.int .i64 n)).run Try.prog w = .ok (.slice (some ⟨w.heap.size, 0, none⟩) n n) (w.alloc (.cells (rowF n (fun _ => 0)).toArray 3)) := by
  have := run_make_row' (P := Try.prog) 44 3 (.int .i64 0) 8 Try.underlying44 (by kernel_rfl) rfl .i64 .i64 n (by omega) (by omega) w
  rw [this]
  have e : madeCells #[.int .i64 0] n = (rowF n (fun _ => 0)).toArray := by
    apply Array.ext_getElem?
    intro j
    by_cases hj : j < n
    · simp [madeCells, hj, Nat.mod_one, rowF]
    · simp [madeCells, hj, rowF]
  rw [e]

/-- spread's own memory: the two rows, the struct of both, the queue -/
structure SpM (w0 w : World) (n rb fb bb : Nat) (s : Bf) (v : Value) : Prop where
  bel : Below w0.heap.size w0 w
  n1 : w0.heap.size < rb
  n2 : w0.heap.size < fb
  n3 : w0.heap.size < bb
  top : Bx 63 w w0.heap.size [.slice none 0 0, .slice none 0 0]
  box : Bx 63 w rb [.slice (some ⟨fb, 0, none⟩) n n, .slice (some ⟨bb, 0, none⟩) n n]
  far : Bx 3 w fb (rowF n s.far)
  byy : Bx 3 w bb (rowF n (fun z => (s.by_ z : Int)))
  ne : fb ≠ bb
  qu : Qu w w0.heap.size v s.line
  q1 : v.ownBlock ≠ some fb
  q2 : v.ownBlock ≠ some bb
theorem SpM.step {w0 w w' : World} {n rb fb bb : Nat} {s : Bf} {v : Value} (h : SpM w0 w n rb fb bb s v) (hb : Below w.heap.size w w') : SpM w0 w' n rb fb bb s v := by
  obtain ⟨g, off, cap, rfl, hB, hg, hl, hm, hc, hq⟩ := h.qu.shape
  exact ⟨after h.bel hb, h.n1, h.n2, h.n3, h.top.keep hb, h.box.keep hb, h.far.keep hb, h.byy.keep hb, h.ne, hq.at_ (hb.block g hg), h.q1, h.q2⟩
theorem SpM.pop {w0 w : World} {n rb fb bb g off m cap : Nat} {s : Bf} {y : Int} {r : List Int} (h : SpM w0 w n rb fb bb s (.slice (some ⟨g, off, none⟩) m cap)) (hl : s.line = y :: r) :
    SpM w0 w n rb fb bb { s with line := r } (.slice (some ⟨g, if cap = 1 then off else off + 1, none⟩) r.length (cap - 1)) := by
  have hq := h.qu
  rw [hl] at hq
  have h1 := h.q1
  have h2 := h.q2
  exact ⟨h.bel, h.n1, h.n2, h.n3, h.top, h.box, h.far, h.byy, h.ne, hq.pop, by simpa [Value.ownBlock] using h1, by simpa [Value.ownBlock] using h2⟩
/-- the two stores, far's first -/
theorem SpM.note {w0 w : World} {n rb fb bb g off m cap : Nat} {s : Bf} (h : SpM w0 w n rb fb bb s (.slice (some ⟨g, off, none⟩) m cap)) {z i : Nat} {nx : Int} (hz : z < n) :
    SpM w0 ((w.setCell ⟨fb, z, none⟩ (.int .i64 nx)).setCell ⟨bb, z, none⟩ (.int .i64 (i : Int))) n rb fb bb ⟨up s.far z nx, up s.by_ z i, s.line⟩ (.slice (some ⟨g, off, none⟩) m cap) := by
  have hrf : rb ≠ fb := Bx.ne h.box h.far (by decide)
  have hrb : rb ≠ bb := Bx.ne h.box h.byy (by decide)
  have g1 : g ≠ fb := by have := h.q1; simpa [Value.ownBlock] using this
  have g2 : g ≠ bb := by have := h.q2; simpa [Value.ownBlock] using this
  have f1 := ((h.far.set z (.int .i64 nx)).other h.ne z (.int .i64 (i : Int)))
  have b1 := ((h.byy.other h.ne.symm z (.int .i64 nx)).set z (.int .i64 (i : Int)))
  rw [rowF_set _ hz] at f1 b1
  refine ⟨(h.bel.setCell (p := ⟨fb, z, none⟩) (Nat.le_of_lt h.n2) _).setCell (p := ⟨bb, z, none⟩) (Nat.le_of_lt h.n3) _, h.n1, h.n2, h.n3, (h.top.other (Nat.ne_of_lt h.n2) z _).other (Nat.ne_of_lt h.n3) z _, (h.box.other hrf z _).other hrb z _, f1, ?_, h.ne, ?_, h.q1, h.q2⟩
  · have e : (fun y => ((up s.by_ z i y : Nat) : Int)) = up (fun y => (s.by_ y : Int)) z (i : Int) := by
      funext y
      unfold up
      split <;> rfl
    show Bx 3 _ bb (rowF n (fun y => ((up s.by_ z i y : Nat) : Int)))
    rw [e]
    exact b1
  · exact h.qu.at_ ((heap_setCell_other _ _ g _ (by simpa using g2)).trans (heap_setCell_other _ _ g _ (by simpa using g1)))
theorem set_comm (w : World) {a b x y : Nat} (h : a ≠ b) (u v : Value) : (w.setCell ⟨a, x, none⟩ u).setCell ⟨b, y, none⟩ v = (w.setCell ⟨b, y, none⟩ v).setCell ⟨a, x, none⟩ u := by
  simp only [World.setCell]
  congr 1
  apply Array.ext_getElem?
  intro k
  simp only [Array.getElem?_modify]
  by_cases h1 : b = k
  · by_cases h2 : a = k
    · omega
    · rw [if_pos h1, if_neg h2, if_neg h2, if_pos h1]
  · rw [if_neg h1, if_neg h1]
/-- .. and the queue's append -/
theorem SpM.push {w0 w w' : World} {n rb fb bb g off m cap : Nat} {s : Bf} {v' : Value} {y : Int} (h : SpM w0 w n rb fb bb s (.slice (some ⟨g, off, none⟩) m cap)) (hq : Qu w' w0.heap.size v' (s.line ++ [y])) (hg : w.grownBy w' (some g)) (hv : v'.ownBlock = some g ∨ ∃ g2, v'.ownBlock = some g2 ∧ w.heap.size ≤ g2) :
    SpM w0 w' n rb fb bb ⟨s.far, s.by_, s.line ++ [y]⟩ v' := by
  have g1 : g ≠ fb := by have := h.q1; simpa [Value.ownBlock] using this
  have g2 : g ≠ bb := by have := h.q2; simpa [Value.ownBlock] using this
  have k : ∀ {T : TypeId} {b : Nat} {cs : List Value}, Bx T w b cs → g ≠ b → Bx T w' b cs := fun {T b cs} hb hne => hb.at_ (k := b) (hg.block _ hb.lt (fun q => by cases q; exact hne rfl))
  have hty : ∀ {b : Nat} {cs : List Value}, Bx 63 w b cs → g ≠ b := fun hb => by
    obtain ⟨g', off', cap', cur, hv, hB, hh, _⟩ := h.qu
    simp only [Value.slice.injEq, Option.some.injEq, Addr.mk.injEq] at hv
    obtain ⟨⟨rfl, -⟩, -⟩ := hv
    intro q
    unfold Bx at hb
    rw [q, hb] at hh
    simp at hh
  have hgr := hty h.box
  have hgt := hty h.top
  have hT : w0.heap.size ≤ g := by
    obtain ⟨g', off', cap', cur, hv, hB, _⟩ := h.qu
    simp only [Value.slice.injEq, Option.some.injEq, Addr.mk.injEq] at hv
    obtain ⟨⟨rfl, -⟩, -⟩ := hv
    exact hB
  refine ⟨⟨hg.os.trans h.bel.os, hg.tape.trans h.bel.tape, hg.output.trans h.bel.output, Nat.le_trans h.bel.size hg.size, fun j hj => (hg.block j (Nat.lt_of_lt_of_le hj h.bel.size) (fun q => by cases q; omega)).trans (h.bel.block j hj)⟩, h.n1, h.n2, h.n3, k h.top hgt, k h.box hgr, k h.far g1, k h.byy g2, h.ne, hq, ?_, ?_⟩
  · rcases hv with q | ⟨g3, q, hge⟩
    · rw [q]; simpa using g1
    · rw [q]
      intro q2
      cases q2
      have := h.far.lt
      omega
  · rcases hv with q | ⟨g3, q, hge⟩
    · rw [q]; simpa using g2
    · rw [q]
      intro q2
      cases q2
      have := h.byy.lt
      omega
theorem key_visit {L : List Eg} {op : Nat → Bool} {n : Nat} {nx : Int} {s : Bf} {i : Nat} {y : Int} (h : vis n s y) : key (visit L op nx s i) y = key s y := by
  unfold visit
  split
  · rename_i hc
    unfold key
    by_cases q : y = -1
    · rw [if_pos q, if_pos q]
    · rw [if_neg q, if_neg q]
      rcases h with q2 | ⟨q2, q3, q4⟩
      · exact absurd q2 q
      · show up s.far _ nx y.toNat = _
        rw [up_other]
        intro q5
        rw [q5] at q4
        exact q4 hc.1
  · rfl
/-- the numbers of a node's edges, as cells -/
theorem GrP.at_cells {w : World} {B n : Nat} {L : List Eg} {S : GrS} (h : GrM w B n L S) (z : Int) : ∃ src cap, S.at_ z = .slice src (idx L z).length cap ∧ ∀ j (hj : j < (idx L z).length), ∃ g, src = some ⟨g, 0, none⟩ ∧ g < w.heap.size ∧ w.cell? ⟨g, j, none⟩ = some (.int .i64 ((idx L z)[j] : Int)) := by
  have hr := h.at_row z
  obtain ⟨src, cap, hv⟩ := own_any_shape hr
  refine ⟨src, cap, hv, fun j hj => ?_⟩
  rcases hr.2 with ⟨q, q2⟩ | ⟨g, cap', cur, q, _, hg, _⟩
  · omega
  · rw [hv] at q
    have := hr.cells (g := g) (by rw [hv]; simp only [Value.slice.injEq] at q; rw [q.1]; rfl) j (.int .i64 ((idx L z)[j] : Int)) (by unfold natC; rw [List.getElem?_map, List.getElem?_eq_getElem hj]; rfl)
    rw [add_at, Nat.zero_add] at this
    simp only [Value.slice.injEq] at q
    exact ⟨g, q.1, lt_block hg, this⟩
theorem GrP.ev_cells {w : World} {B n : Nat} {L : List Eg} {S : GrS} (h : GrM w B n L S) : ∃ src cap, S.ev = .slice src L.length cap ∧ ∀ j (hj : j < L.length), ∃ g, src = some ⟨g, 0, none⟩ ∧ g < w.heap.size ∧ w.cell? ⟨g, j * 4, none⟩ = some (.int .i64 L[j].1) ∧ w.cell? ⟨g, j * 4 + 1, none⟩ = some (.int .i64 L[j].2.1) ∧ w.cell? ⟨g, j * 4 + 2, none⟩ = some (.int .i64 L[j].2.2.1) ∧ w.cell? ⟨g, j * 4 + 3, none⟩ = some (.int .i64 L[j].2.2.2) := by
  have hr := h.es
  obtain ⟨src, cap, hv⟩ := own_any_shape hr
  refine ⟨src, cap, hv, fun j hj => ?_⟩
  rcases hr.2 with ⟨q, q2⟩ | ⟨g, cap', cur, q, _, hg, _⟩
  · omega
  · rw [hv] at q
    simp only [Value.slice.injEq] at q
    have hc : ∀ o, o < 4 → w.cell? ⟨g, j * 4 + o, none⟩ = (egC L[j])[o]? := fun o ho => by
      have e := fm_at egC 4 (fun _ => rfl) L j hj o ho
      rw [← e]
      have hlt : j * 4 + o < (flatG L).length := by rw [flatG_len]; omega
      have := hr.cells (g := g) (by rw [hv, q.1]; rfl) (j * 4 + o) _ (List.getElem?_eq_getElem hlt)
      rw [add_at, Nat.zero_add] at this
      rw [this]
      exact (List.getElem?_eq_getElem hlt).symm
    exact ⟨g, q.1, lt_block hg, hc 0 (by omega), hc 1 (by omega), hc 2 (by omega), hc 3 (by omega)⟩
end Go.Proofs.Ytkhgpflpbdakoaa
