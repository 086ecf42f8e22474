/- Contract of a heap's Store. -/
import Derived.Test.YtfkcjnlhindhfaaHpI
namespace Go.Proofs.Ytfkcjnlhindhfaa
open Go Go.RowKit
set_option linter.unusedVariables false
set_option linter.unusedSimpArgs false

/-- a thing one of whose cells is something else -/
def setT (y : ThR) (j : Nat) (x : Vl) : ThR := (⟨y.1.arr, y.1.cls, y.1.ty, y.1.vs.set j x⟩, y.2)
theorem setT_cells (y : ThR) (j : Nat) (x : Vl) : thC (setT y j x) = thC y := by unfold thC setT; simp
theorem flatT_set (L : List ThR) (i : Nat) (hi : i < L.length) (j : Nat) (x : Vl) : flatT (L.set i (setT L[i] j x)) = flatT L := by
  unfold flatT
  rw [fm_set thC L i hi, setT_cells, ← (fm_parts thC 7 (fun _ => rfl) L i hi).1]
theorem blocks_set (L : List ThR) (i : Nat) (hi : i < L.length) (j : Nat) (x : Vl) : (L.set i (setT L[i] j x)).map (·.2) = L.map (·.2) := by
  rw [List.map_set]
  apply List.ext_getElem?
  intro q
  rw [List.getElem?_set]
  split
  · rename_i h
    subst h
    split
    · rename_i h
      rw [List.getElem?_eq_getElem h, List.getElem_map]; rfl
    · rename_i h
      rw [List.getElem?_eq_none (by omega)]
  · rfl
theorem other_block {L : List ThR} (h : (L.map (·.2)).Nodup) (q i : Nat) (hq : q < L.length) (hi : i < L.length) (hne : q ≠ i) : L[q].2 ≠ L[i].2 := by
  have hp := List.pairwise_iff_getElem.1 h
  intro e
  rcases Nat.lt_or_gt_of_ne hne with h1 | h1
  · have := hp q i (by simpa using hq) (by simpa using hi) h1
    simp at this
    exact this e
  · have := hp i q (by simpa using hi) (by simpa using hq) h1
    simp at this
    exact this e.symm
theorem HpM.store {w : World} {B b n : Nat} {L : List ThR} {v : Value} (h : HpM w B b L n v) (i : Nat) (hi : i < L.length) (j : Nat) (hj : j < L[i].1.vs.length) (x : Vl) (hx : x.2.2.size ≤ maxS) :
    HpM (w.setCells L[i].2 (j * 3) (vC x)) B b (L.set i (setT L[i] j x)) n v := by
  have hc := h.cells _ (List.getElem_mem hi)
  have hs := Same.sets L[i].2 (vC x) (j * 3) w
  have hbk : b ≠ L[i].2 := h.box.ne hc.2 (by decide)
  refine ⟨h.base, h.box.at_ (k := 0) (hs.2 b hbk), ?_, ?_, by rw [blocks_set]; exact h.nod, by rw [List.length_set]; exact h.ll, h.ln, ?_⟩
  · rw [flatT_set, List.length_set]
    obtain ⟨q1, q2⟩ := h.own
    refine ⟨q1, ?_⟩
    rcases q2 with q | ⟨g, cap, cur, rfl, hBg, hg2, q⟩
    · exact .inl q
    · refine .inr ⟨g, cap, cur, rfl, hBg, ?_, q⟩
      rw [hs.2 g (fun e => ?_)]
      · exact hg2
      · have := hc.2
        rw [← e] at this
        unfold Bx at this
        rw [this] at hg2
        simp at hg2
  · intro y hy
    obtain ⟨q, hq, rfl⟩ := List.getElem_of_mem hy
    rw [List.length_set] at hq
    by_cases hqi : q = i
    · subst hqi
      rw [List.getElem_set_self]
      exact ⟨hc.1, hc.2.vset j hj x⟩
    · rw [List.getElem_set_ne (fun e => hqi e.symm)]
      have := h.cells _ (List.getElem_mem hq)
      exact ⟨this.1, this.2.at_ (k := 0) (hs.2 _ (other_block h.nod q i hq hi hqi))⟩
  · intro y hy
    rcases List.mem_or_eq_of_mem_set hy with hy | rfl
    · exact h.fit y hy
    · have hf := h.fit _ (List.getElem_mem hi)
      refine ⟨hf.cls, hf.N, hf.M, by have := hf.len; unfold setT; simpa using this, fun u hu => ?_⟩
      rcases List.mem_or_eq_of_mem_set hu with hu | rfl
      · exact hf.vs u hu
      · exact hx

def StoreH (w : World) (B b : Nat) (L : List ThR) (n : Nat) (v : Value) (i : Nat) (hi : i < L.length) (j : Nat) (x : Vl) (e : Ending) (w' : World) : Prop :=
  e = .returned (.int .i64 0) ∧ Below B w w' ∧ HpM w' B b (L.set i (setT L[i] j x)) n v ∧ ∀ q, q < w.heap.size → q ≠ L[i].2 → w'.heap[q]? = w.heap[q]?

set_option maxHeartbeats 2000000 in
theorem store_no (b bB m : Nat) (L : List ThR) (v : Value) (k n : Int) (s : ByteArray) (j : Int) (x : Vl) (w : World) (h : HpM w bB b L m v) (ht : thereN L k n = false) :
    Calls Try.prog 11 #[.pointer (some ⟨b, 0, none⟩), .agg #[.int .i64 k, .int .i64 n, .string s], .int .i64 j, .agg #[.int .i64 x.1, .int .i64 x.2.1, .string x.2.2]] w fun e w' => e = .returned (.int .i64 3) ∧ Below w.heap.size w w' := by
  have HC := Lib.hid (fun w2 (hb : Below w.heap.size w w2) => cell_no b bB m L v k n s j w2 (h.step hb) ht)
  clear h ht
  go_enter Try.func11, Try.ntmps11
  go_wp2_with fail
  refine (HC.out _ (by repeat (first | exact Below.refl _ _ | apply Below.setCell _ (by first | omega | (simp <;> omega)) | apply Below.alloc _ (by first | omega | (simp <;> omega))))).mono ?_
  rintro e w1 ⟨rfl, h1⟩
  obtain ⟨hb1, x1, x2⟩ := box2 h1
  go_wp2_with fail
  go_ret
  exact ⟨rfl, hb1⟩
set_option maxHeartbeats 2000000 in
theorem store_out (b bB m : Nat) (L : List ThR) (v : Value) (i : Nat) (s : ByteArray) (j : Int) (x : Vl) (w : World) (h : HpM w bB b L m v) (hi : i < L.length) (hj : j < 0 ∨ (L[i].1.vs.length : Int) ≤ j) :
    Calls Try.prog 11 #[.pointer (some ⟨b, 0, none⟩), .agg #[.int .i64 5, .int .i64 (i : Nat), .string s], .int .i64 j, .agg #[.int .i64 x.1, .int .i64 x.2.1, .string x.2.2]] w fun e w' => e = .returned (.int .i64 1) ∧ Below w.heap.size w w' := by
  have HC := Lib.hid (fun w2 (hb : Below w.heap.size w w2) => cell_out b bB m L v i s j w2 (h.step hb) hi hj)
  clear h hj
  go_enter Try.func11, Try.ntmps11
  go_wp2_with fail
  refine (HC.out _ (by repeat (first | exact Below.refl _ _ | apply Below.setCell _ (by first | omega | (simp <;> omega)) | apply Below.alloc _ (by first | omega | (simp <;> omega))))).mono ?_
  rintro e w1 ⟨rfl, h1⟩
  obtain ⟨hb1, x1, x2⟩ := box2 h1
  go_wp2_with fail
  go_ret
  exact ⟨rfl, hb1⟩
set_option maxHeartbeats 2000000 in
theorem store_in (b bB m : Nat) (L : List ThR) (v : Value) (i : Nat) (s : ByteArray) (j : Nat) (x : Vl) (w : World) (h : HpM w bB b L m v) (hB : bB ≤ w.heap.size) (hi : i < L.length) (hj : j < L[i].1.vs.length) (hx : x.2.2.size ≤ 281474976710656) :
    Calls Try.prog 11 #[.pointer (some ⟨b, 0, none⟩), .agg #[.int .i64 5, .int .i64 (i : Nat), .string s], .int .i64 (j : Nat), .agg #[.int .i64 x.1, .int .i64 x.2.1, .string x.2.2]] w (StoreH w bB b L m v i hi j x) := by
  have HC := Lib.hid (fun w2 (hb : Below w.heap.size w w2) => cell_in b bB m L v i s j w2 (h.step hb) hi hj)
  have HV := Lib.hid (fun w => vown_any x.1 x.2.1 x.2.2 w hx)
  have HH := Lib.hid h
  have HG := Lib.hid (h.cells _ (List.getElem_mem hi))
  have HX := Lib.hid hx
  have HJ := Lib.hid hj
  clear h hj hx
  generalize hy : L[i].2 = y at *
  have HY := Lib.hid hy
  clear hy
  go_enter Try.func11, Try.ntmps11
  go_wp2_with fail
  refine (HC.out _ (by repeat (first | exact Below.refl _ _ | apply Below.setCell _ (by first | omega | (simp <;> omega)) | apply Below.alloc _ (by first | omega | (simp <;> omega))))).mono ?_
  rintro e w1 ⟨rfl, h1⟩
  obtain ⟨hb1, x1, x2⟩ := box2 h1
  have B1 := Lib.hid hb1
  obtain ⟨a0, a1, a2, al, af⟩ := x1.three
  obtain ⟨b0, b1, b2, bl, bf⟩ := x2.three
  clear h1 hb1 x1 x2
  go_wp2_with fail
  refine (HV.out _).mono ?_
  rintro e w2 ⟨rfl, h2⟩
  have B2 := Lib.hid (after B1.out h2)
  have HP := Lib.hid (HH.out.step B2.out)
  have XG := Lib.hid (HG.out.2.keep B2.out)
  obtain ⟨z, r0, r1, r2⟩ := XG.out.vsome j HJ.out
  have rl := XG.out.lt
  have rf := XG.out.frozen
  clear h2 a0 a1 a2 al af b0 b1 b2 bl bf
  go_wp2_with fail
  go_ret
  have HF := Lib.hid (HP.out.store i hi j HJ.out x HX.out)
  rw [HY.out] at HF
  refine ⟨rfl, (B2.out.mono hB).trans (fill_below y HG.out.1 (vC x) (j * 3) _), HF.out, fun q hq hqy => ?_⟩
  rw [HY.out] at hqy
  exact (set_other y q hqy (vC x) (j * 3) w2).trans (B2.out.block q hq)
end Go.Proofs.Ytfkcjnlhindhfaa
