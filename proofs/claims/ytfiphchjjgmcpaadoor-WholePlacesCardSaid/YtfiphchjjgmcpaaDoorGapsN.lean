/- Gaps, of no span. -/
import Derived.Test.YtfiphchjjgmcpaaDoorGaps
namespace Go.Proofs.YtfiphchjjgmcpaaDoor
open Go Go.RowKit
set_option linter.unusedVariables false

theorem run_copy_zero {P : Program} (w : World) (dT sT ty elem : TypeId) (d a : Option Addr) (dLen dCap sLen sCap : Nat) (hu : P.underlying dT = some (.slice elem)) (hs : (P.info? elem).map (·.size) = some 2) (hn : Nat.min sLen dLen = 0) :
    (Builtin.copy_ #[dT, sT] ty #[.slice d dLen dCap, .slice a sLen sCap]).run P w = .ok (goInt 0) w := by
  cases hq : P.info? elem with
  | none => simp [hq] at hs
  | some i =>
    have hl : ∀ (x : Addr), (loadCells x 0).run P w = .ok #[] w := fun x => by simpa using run_loadCells_list (P := P) w x [] (by simp)
    cases d <;> cases a <;> simp [Builtin.copy_, run_underlying hu, Builtin.lenOf, Builtin.firstCells, sizeOf, typeInfo, hq, hn, storeCells, hl]

theorem made_none (src : Option Addr) (cap : Nat) (w : World) :
    ∃ W1, (Instr.makeSlice 22 (.int .i64 1) (.int .i64 1)).run Tryd.prog w = .ok (.slice (some ⟨w.heap.size, 0, none⟩) 1 1) W1 ∧
      (Builtin.copy_ #[22, 22] 3 #[.slice (some ⟨w.heap.size, 0, none⟩) 1 1, .slice src 0 cap]).run Tryd.prog W1 = .ok (goInt 0) W1 ∧
      Below w.heap.size w W1 ∧ w.heap.size < W1.heap.size ∧ (W1.cell? ⟨w.heap.size, 0, none⟩).isSome = true ∧ (W1.cell? ⟨w.heap.size, 1, none⟩).isSome = true ∧
      W1.frozen? ⟨w.heap.size, 0, none⟩ = false ∧ W1.frozen? ⟨w.heap.size, 1, none⟩ = false := by
  obtain ⟨i0, hi, hz0, hz1, hz2⟩ := info_parts infoSpan
  obtain ⟨W1, h1, h2, h3⟩ := run_makeSlice_full (P := Tryd.prog) w w.heap.size 22 24 i0 (.agg #[.int .i64 0, .int .i64 0]) 2 Tryd.underlying22 hi hz0 hz1 .i64 .i64 1 (by omega) (by rw [hz2]; omega) (by unfold maxLen; omega) (Nat.le_refl _)
  have hlen : ((madeCells (Value.agg #[.int .i64 0, .int .i64 0]).cells (1 * 2)).toList).length = 1 * 2 := by rw [Array.length_toList, size_madeCells]
  have hcell : ∀ j, j < 1 * 2 → (W1.cell? ⟨w.heap.size, j, none⟩).isSome = true := by
    intro j hj
    rw [h2.cellAt j hj, List.getElem?_eq_getElem (by rw [hlen]; exact hj)]
    rfl
  exact ⟨W1, by simpa using h1, run_copy_zero W1 22 22 3 24 _ _ _ _ _ _ Tryd.underlying22 (by rw [hi]; simp [hz1]) (by simp),
    Below.grown (Below.refl _ _) h3 (Nat.le_refl _) (fun j hj => by cases hj), (h2.lt _ rfl).2, hcell 0 (by omega), hcell 1 (by omega), h2.frozenAt 0, h2.frozenAt 1⟩

set_option maxRecDepth 100000 in
set_option maxHeartbeats 1000000 in
theorem withEnd_zero (src : Option Addr) (cap : Nat) (m : Int) (w : World) :
    Calls Tryd.prog 24 #[.int .i64 m, .slice src 0 cap] w fun e w' => e = .returned (.slice (some ⟨w.heap.size, 0, none⟩) 1 1) ∧ Below w.heap.size w w' ∧ w.heap.size < w'.heap.size ∧ SpanAt w' w.heap.size 0 [(m, m)] := by
  obtain ⟨W2, hmk, hcp, hbel, hsz, a1, a2, f1, f2⟩ := made_none src cap w
  obtain ⟨v1, a1⟩ := Option.isSome_iff_exists.1 a1
  obtain ⟨v2, a2⟩ := Option.isSome_iff_exists.1 a2
  have HB := Lib.hid hbel
  have HS := Lib.hid hsz
  have HE := Lib.hid (row_end (m := m) (l := []) (n := 0) rfl (fun i hi => absurd hi (by simp)) (by simpa using a1) (by simpa using a2))
  clear hbel
  go_enter Tryd.func24, Tryd.ntmps24
  go_wp2_with fail
  go_ret
  exact ⟨rfl, (HB.out.setCell (Nat.le_refl _) _).setCell (Nat.le_refl _) _, by simpa [World.setCell] using HS.out, by simpa using HE.out⟩

/-- Gaps of no span, in whatever shape the list came in -/
theorem gaps_zero (m : Int) (src : Option Addr) (cap : Nat) (w : World) (hcap : src = none → cap = 0) (hm : chkB 0 0 m = true) :
    Calls Tryd.prog 9 #[.int .i64 m, .slice src 0 cap] w fun e w' => Below w.heap.size w w' ∧ ∃ v w1, e = .returned (.tuple #[v, .int .i64 0]) ∧ w.heap.size ≤ w1.heap.size ∧ GpInv w1 w' (gapTo [(m, m)] 1) v := by
  have E := Lib.hid (show errI (chkB 0 0 m) 1 = 0 by rw [hm]; rfl)
  have SZ := Lib.hid (show ∀ w, Calls Tryd.prog 22 #[.slice src 0 cap] w fun e w' => e = .returned (.bool true) ∧ Below w.heap.size w w' from fun w => by
    cases src with
    | none => rw [hcap rfl]; exact sorted_none w
    | some a => exact sorted_empty a cap w)
  clear hm hcap
  go_enter Tryd.func9, Tryd.ntmps9
  go_wp2_with fail
  refine (check_any _ _ _ _).mono ?_
  rw [E.out]
  rintro e w1 ⟨rfl, h01⟩
  have HB1 := Lib.hid h01
  clear h01
  go_wp2_with fail
  go_loopw [18] (fun i wr => i = .int .i64 0 ∧ w1 = wr) (fun _ _ => 0)
  case atStart => exact ⟨rfl, rfl⟩
  case round =>
    obtain ⟨rfl, rfl⟩ := hrel
    go_wp2_with fail
    refine (SZ.out _).mono ?_
    rintro e w2 ⟨rfl, h12⟩
    have h02 := Lib.hid (after HB1.out h12)
    clear h12
    go_wp2_with fail
    refine (withEnd_zero src cap m w2).mono ?_
    rintro e w3 ⟨rfl, h23, hsz3, hrow⟩
    have HROW := Lib.hid hrow
    clear hrow
    go_wp2_with fail
    refine (between_any w2.heap.size 0 1 1 [(m, m)] w3 rfl (Nat.le_refl _) (by unfold maxLen; omega) hsz3 HROW.out (by omega)).mono ?_
    rintro e w4 ⟨v, rfl, hg⟩
    have hg1 := Lib.hid hg
    clear hg
    go_wp2_with fail
    go_ret2
    exact ⟨after h02.out (after h23 hg1.out.1), v, w3, rfl, by have := h02.out.size; have := h23.size; omega, hg1.out⟩

end Go.Proofs.YtfiphchjjgmcpaaDoor
