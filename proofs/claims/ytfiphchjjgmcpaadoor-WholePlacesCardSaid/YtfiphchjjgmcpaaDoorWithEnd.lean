/- withEnd: some spans, and the text's end as an empty one. -/
import Derived.Test.YtfiphchjjgmcpaaDoorCopyTwo
import Derived.Laws.OwnMore
namespace Go.Proofs.YtfiphchjjgmcpaaDoor
open Go Go.RowKit
set_option linter.unusedVariables false

theorem flat_get (l : List (Int × Int)) : ∀ j, (flat l)[j]? = if j % 2 = 0 then (l[j / 2]?).map (fun x => Value.int .i64 x.1) else (l[j / 2]?).map (fun x => Value.int .i64 x.2) := by
  induction l with
  | nil => intro j; simp [flat]
  | cons x l ih =>
    intro j
    have e : flat (x :: l) = .int .i64 x.1 :: .int .i64 x.2 :: flat l := by simp [flat]
    rw [e]
    match j with
    | 0 => simp
    | 1 => simp
    | j + 2 =>
      have h1 : (j + 2) % 2 = j % 2 := by omega
      have h2 : (j + 2) / 2 = j / 2 + 1 := by omega
      rw [h1, h2]
      simp only [List.getElem?_cons_succ]
      exact ih j
theorem flat_len (l : List (Int × Int)) : (flat l).length = l.length * 2 := by
  induction l with
  | nil => rfl
  | cons x l ih => have e : flat (x :: l) = .int .i64 x.1 :: .int .i64 x.2 :: flat l := by simp [flat]
                   rw [e]; simp [ih]; omega
theorem flat_one (l : List (Int × Int)) : ∀ v ∈ flat l, v.oneCell' = true := by
  intro v hv
  simp only [flat, List.mem_flatMap] at hv
  obtain ⟨x, _, hx⟩ := hv
  simp at hx
  rcases hx with rfl | rfl <;> rfl
theorem SpanAt.src {w : World} {b off : Nat} {l : List (Int × Int)} (h : SpanAt w b off l) : ∀ j v, (flat l)[j]? = some v → w.cell? ((⟨b, off, none⟩ : Addr).add j) = some v := by
  intro j v hj
  have e : (⟨b, off, none⟩ : Addr).add j = ⟨b, off + j, none⟩ := by unfold Addr.add; by_cases h : j = 0 <;> simp [h]
  rw [e]
  rw [flat_get] at hj
  by_cases hp : j % 2 = 0
  · rw [if_pos hp, Option.map_eq_some_iff] at hj
    obtain ⟨x, hx, rfl⟩ := hj
    obtain ⟨hlt, rfl⟩ := List.getElem?_eq_some_iff.1 hx
    have := (h (j / 2) hlt).1
    rwa [show off + j / 2 * 2 = off + j by omega] at this
  · rw [if_neg hp, Option.map_eq_some_iff] at hj
    obtain ⟨x, hx, rfl⟩ := hj
    obtain ⟨hlt, rfl⟩ := List.getElem?_eq_some_iff.1 hx
    have := (h (j / 2) hlt).2
    rwa [show off + j / 2 * 2 + 1 = off + j by omega] at this
theorem below_setCells {B b : Nat} {w0 : World} (hB : B ≤ b) : ∀ (vs : List Value) (o : Nat) (w : World), Below B w0 w → Below B w0 (w.setCells b o vs)
  | [], _, _, h => h
  | v :: r, o, w, h => below_setCells hB r (o + 1) _ (h.setCell hB _)

theorem size_setCells (b : Nat) : ∀ (vs : List Value) (o : Nat) (w : World), (w.setCells b o vs).heap.size = w.heap.size
  | [], _, _ => rfl
  | v :: r, o, w => by rw [World.setCells, size_setCells b r]; simp [World.setCell]

/-- what the made row is once the list stands in it -/
theorem made_row (b off n cap : Nat) (l : List (Int × Int)) (w : World) (hl : l.length = n) (hn : n ≤ cap) (hb : b < w.heap.size) (hr : SpanAt w b off l) (hs : n ≤ 65536) :
    ∃ W1 W2, (Instr.makeSlice 22 (.int .i64 ((n : Int) + 1)) (.int .i64 ((n : Int) + 1))).run Tryd.prog w = .ok (.slice (some ⟨w.heap.size, 0, none⟩) (n + 1) (n + 1)) W1 ∧
      (Builtin.copy_ #[22, 22] 3 #[.slice (some ⟨w.heap.size, 0, none⟩) (n + 1) (n + 1), .slice (some ⟨b, off, none⟩) n cap]).run Tryd.prog W1 = .ok (goInt n) W2 ∧
      Below w.heap.size w W2 ∧ w.heap.size < W2.heap.size ∧ SpanAt W2 w.heap.size 0 l ∧ (W2.cell? ⟨w.heap.size, n * 2, none⟩).isSome = true ∧ (W2.cell? ⟨w.heap.size, n * 2 + 1, none⟩).isSome = true ∧
      W2.frozen? ⟨w.heap.size, n * 2, none⟩ = false ∧ W2.frozen? ⟨w.heap.size, n * 2 + 1, none⟩ = false := by
  obtain ⟨i0, hi, hz0, hz1, hz2⟩ := info_parts infoSpan
  obtain ⟨W1, h1, h2, h3⟩ := run_makeSlice_full (P := Tryd.prog) w w.heap.size 22 24 i0 (.agg #[.int .i64 0, .int .i64 0]) 2 Tryd.underlying22 hi hz0 hz1 .i64 .i64 (n + 1) (by omega) (by rw [hz2]; omega) (by unfold maxLen; omega) (Nat.le_refl _)
  have hlen : ((madeCells (Value.agg #[.int .i64 0, .int .i64 0]).cells ((n + 1) * 2)).toList).length = (n + 1) * 2 := by rw [Array.length_toList, size_madeCells]
  have hcell : ∀ j, j < (n + 1) * 2 → (W1.cell? ⟨w.heap.size, j, none⟩).isSome = true := by
    intro j hj
    rw [h2.cellAt j hj, List.getElem?_eq_getElem (by rw [hlen]; exact hj)]
    rfl
  have hfro : ∀ j, W1.frozen? ⟨w.heap.size, j, none⟩ = false := fun j => h2.frozenAt j
  have hbel : Below w.heap.size w W1 := Below.grown (Below.refl _ _) h3 (Nat.le_refl _) (fun j hj => by cases hj)
  have hc := run_copy_two (P := Tryd.prog) W1 22 22 3 24 w.heap.size 0 (n + 1) (n + 1) ⟨b, off, none⟩ n cap n (flat l) Tryd.underlying22 (by rw [hi]; simp [hz1]) (by simp) (by rw [flat_len, hl])
    ((hr.below hbel hb).src) (fun j hj => by rw [flat_len, hl] at hj; simpa using hcell j (by omega)) (fun j _ => by simpa using hfro j) (flat_one l)
  refine ⟨W1, _, ?_, hc, below_setCells (Nat.le_refl _) _ _ _ hbel, ?_, ?_, ?_, ?_, ?_, ?_⟩
  · simpa using h1
  · rw [size_setCells]; exact (h2.lt _ rfl).2
  · intro i hi'
    have hin : ∀ j (hj : j < (flat l).length), (W1.setCells w.heap.size 0 (flat l)).cell? ⟨w.heap.size, 0 + j, none⟩ = some (flat l)[j] := World.cell?_setCells_in w.heap.size (flat l) 0 W1 (fun j hj => by rw [flat_len, hl] at hj; simpa using hcell j (by omega))
    have hfl := flat_len l
    constructor
    · rw [hin (i * 2) (by omega)]
      have := flat_get l (i * 2)
      rw [if_pos (by omega), List.getElem?_eq_getElem (by omega), show i * 2 / 2 = i by omega, List.getElem?_eq_getElem hi'] at this
      simpa using this
    · rw [show 0 + i * 2 + 1 = 0 + (i * 2 + 1) by omega, hin (i * 2 + 1) (by omega)]
      have := flat_get l (i * 2 + 1)
      rw [if_neg (by omega), List.getElem?_eq_getElem (by omega), show (i * 2 + 1) / 2 = i by omega, List.getElem?_eq_getElem hi'] at this
      simpa using this
  · rw [World.cell?_setCells_out _ _ _ _ _ (fun _ _ => .inr (by rw [flat_len, hl]; simp))]; exact hcell _ (by omega)
  · rw [World.cell?_setCells_out _ _ _ _ _ (fun _ _ => .inr (by rw [flat_len, hl]; simp))]; exact hcell _ (by omega)
  · rw [World.frozen?_setCells]; exact hfro _
  · rw [World.frozen?_setCells]; exact hfro _

theorem row_end {w : World} {g n : Nat} {l : List (Int × Int)} {m : Int} {v1 v2 : Value} (hl : l.length = n) (h : SpanAt w g 0 l) (a1 : w.cell? ⟨g, n * 2, none⟩ = some v1) (a2 : w.cell? ⟨g, n * 2 + 1, none⟩ = some v2) :
    SpanAt ((w.setCell ⟨g, n * 2, none⟩ (.int .i64 m)).setCell ⟨g, n * 2 + 1, none⟩ (.int .i64 m)) g 0 (l ++ [(m, m)]) := by
  intro i hi
  by_cases hlt : i < l.length
  · obtain ⟨c0, c1⟩ := h i hlt
    rw [List.getElem_append_left hlt]
    constructor
    · rw [World.cell?_setCell_other _ _ _ _ (by simp <;> omega), World.cell?_setCell_other _ _ _ _ (by simp <;> omega)]; exact c0
    · rw [World.cell?_setCell_other _ _ _ _ (by simp <;> omega), World.cell?_setCell_other _ _ _ _ (by simp <;> omega)]; exact c1
  · have hi' : i = n := by simp at hi; omega
    subst hi'
    rw [List.getElem_append_right (by omega)]
    simp only [hl, Nat.sub_self, List.getElem_cons_zero, Nat.zero_add]
    constructor
    · rw [World.cell?_setCell_other _ _ _ _ (by simp)]; exact World.cell?_setCell_same _ _ _ a1
    · have a3 : (w.setCell ⟨g, i * 2, none⟩ (.int .i64 m)).cell? ⟨g, i * 2 + 1, none⟩ = some v2 := by
        rw [World.cell?_setCell_other _ _ _ _ (by simp)]; exact a2
      exact World.cell?_setCell_same _ _ _ a3

set_option maxRecDepth 100000 in
set_option maxHeartbeats 1000000 in
theorem withEnd_some (b off n cap : Nat) (l : List (Int × Int)) (m : Int) (w : World) (hl : l.length = n) (hn : n ≤ cap) (hcap : cap ≤ maxLen) (hb : b < w.heap.size) (hr : SpanAt w b off l) (hs : n ≤ 65536) :
    Calls Tryd.prog 24 #[.int .i64 m, .slice (some ⟨b, off, none⟩) n cap] w fun e w' => e = .returned (.slice (some ⟨w.heap.size, 0, none⟩) (n + 1) (n + 1)) ∧ Below w.heap.size w w' ∧ w.heap.size < w'.heap.size ∧ SpanAt w' w.heap.size 0 (l ++ [(m, m)]) := by
  obtain ⟨W1, W2, hmk, hcp, hbel, hsz, hrow, a1, a2, f1, f2⟩ := made_row b off n cap l w hl hn hb hr hs
  obtain ⟨v1, a1⟩ := Option.isSome_iff_exists.1 a1
  obtain ⟨v2, a2⟩ := Option.isSome_iff_exists.1 a2
  have HB := Lib.hid hbel
  have HS := Lib.hid hsz
  have HROW := Lib.hid hrow
  clear hr hbel hrow
  go_enter Tryd.func24, Tryd.ntmps24
  go_wp2_with fail
  go_ret
  exact ⟨rfl, (HB.out.setCell (Nat.le_refl _) _).setCell (Nat.le_refl _) _, by simpa [World.setCell] using HS.out, row_end hl HROW.out a1 a2⟩

end Go.Proofs.YtfiphchjjgmcpaaDoor
