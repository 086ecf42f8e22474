/- Contracts of kind.Outer, Bare, Elem and Show. -/
import Derived.Test.YtdkpmpkoelckoaaDoorTyF
namespace Go.Proofs.YtdkpmpkoelckoaaDoor
open Go Go.RowKit
set_option linter.unusedVariables false
set_option linter.unusedSimpArgs false

/-- a type's last mark -/
def outS (B : Int) (N : ByteArray) (D : Int) (M : ByteArray) : Nat := if allB B N D M = true then byS M D.toNat else 32
set_option maxHeartbeats 2000000 in
theorem outer_any (B : Int) (N : ByteArray) (D : Int) (M : ByteArray) (w : World) (hN : N.size ≤ 60) (hM : M.size ≤ 60) :
    Calls Tryd.prog 19 #[.agg #[.int .i64 B, .string N, .int .i64 D, .string M]] w fun e w' => e = .returned (.int .u8 (outS B N D M : Int)) ∧ Below w.heap.size w w' := by
  have HR := Lib.hid (fun w => kright_any B N D M w hN hM)
  cases ha : allB B N D M
  · have E := Lib.hid (show outS B N D M = 32 by unfold outS; rw [ha]; rfl)
    rw [ha] at HR
    clear ha
    go_enter Tryd.func19, Tryd.ntmps19
    go_wp2_with (go_at_call 16; refine (HR.out _).mono ?_; rintro e w1 ⟨rfl, hb1⟩; obtain ⟨hq1, hy1⟩ := box4 hb1; have hA := Lib.hid hy1; obtain ⟨hl1, c10, c11, c12, c13, f1⟩ := hy1)
    all_goals go_ret
    all_goals exact ⟨by rw [E.out]; rfl, hq1⟩
  · have E := Lib.hid (show outS B N D M = byS M D.toNat by unfold outS; rw [ha]; rfl)
    obtain ⟨d, rfl, hd, hm⟩ := all_bounds ha
    rw [ha] at HR
    clear ha
    have hlt : d < M.size := by omega
    have hc := Lib.hid (byS_get M d hlt)
    clear hm
    go_enter Tryd.func19, Tryd.ntmps19
    go_wp2_with (go_at_call 16; refine (HR.out _).mono ?_; rintro e w1 ⟨rfl, hb1⟩; obtain ⟨hq1, hy1⟩ := box4 hb1; have hA := Lib.hid hy1; obtain ⟨hl1, c10, c11, c12, c13, f1⟩ := hy1)
    all_goals go_ret
    all_goals exact ⟨by rw [E.out]; show _ = Ending.returned (.int .u8 (byS M d : Int)); rw [hc.out]; rfl, hq1⟩

/-- a type without marks -/
def bareS (B : Int) (N : ByteArray) (D : Int) (M : ByteArray) : ByteArray := if rightB B N D M = true then blankS (D.toNat + 1) else M
theorem bareS_size (B : Int) (N : ByteArray) (D : Int) (M : ByteArray) : (bareS B N D M).size = M.size := by
  unfold bareS
  split
  · rename_i h
    obtain ⟨d, rfl, hd, hm⟩ := right_bounds h
    rw [blankS_size]; exact hm.symm
  · rfl
set_option maxHeartbeats 2000000 in
theorem kbare_any (B : Int) (N : ByteArray) (D : Int) (M : ByteArray) (w : World) (hN : N.size ≤ 60) (hM : M.size ≤ 60) :
    Calls Tryd.prog 12 #[.agg #[.int .i64 B, .string N, .int .i64 D, .string M]] w fun e w' => e = .returned (.agg #[.int .i64 B, .string N, .int .i64 D, .string (bareS B N D M)]) ∧ Below w.heap.size w w' := by
  have HR := Lib.hid (fun w => kmay_any B N D M w hN hM)
  have HO := Lib.hid (fun w => own_any B N D (bareS B N D M) w hN (by rw [bareS_size]; exact hM))
  cases ha : rightB B N D M
  · have E := Lib.hid (show bareS B N D M = M by unfold bareS; rw [ha]; rfl)
    rw [E.out] at HO ⊢
    rw [ha] at HR
    clear ha
    go_enter Tryd.func12, Tryd.ntmps12
    go_wp2_with fail
    refine (HR.out _).mono ?_
    rintro e w1 ⟨rfl, hb1⟩
    obtain ⟨hq1, hA1, hR1⟩ := box42 hb1
    have hR := Lib.hid hR1
    obtain ⟨hl1, c10, c11, c12, c13, f1⟩ := hA1
    go_wp2_with fail
    refine (HO.out _).mono ?_
    rintro e w2 ⟨rfl, hb2⟩
    have hR2 := hR.out.keep hb2
    obtain ⟨gl2, g20, g21, g22, g23, e2⟩ := hR2
    have hq2 := after hq1 hb2
    go_wp2_with fail
    refine bodyPost_ret (v := .agg #[.int .i64 B, .string N, .int .i64 D, .string M]) (by simp [results, Tryd.results12, go_sem, g20, g21, g22, g23]) rfl ?_
    exact ⟨rfl, by repeat (first | exact Below.refl _ _ | apply Below.setCell _ (by first | omega | (simp <;> omega)) | apply Below.alloc _ (by first | omega | (simp <;> omega)) | exact hq2 | refine after ?_ hq2)⟩
  · have E := Lib.hid (show bareS B N D M = blankS (D.toNat + 1) by unfold bareS; rw [ha]; rfl)
    obtain ⟨d, rfl, hd, hm⟩ := right_bounds ha
    rw [ha] at HR
    have HB := Lib.hid (fun w => blanks_any (d + 1) w (by omega))
    rw [show blankS (d + 1) = bareS B N d M from E.out.symm] at HB
    clear ha hm E
    generalize bareS B N d M = x at *
    go_enter Tryd.func12, Tryd.ntmps12
    go_wp2_with fail
    refine (HR.out _).mono ?_
    rintro e w1 ⟨rfl, hb1⟩
    obtain ⟨hq1, hA1, hR1⟩ := box42 hb1
    have hA := Lib.hid hA1
    have hR := Lib.hid hR1
    obtain ⟨hl1, c10, c11, c12, c13, f1⟩ := hA1
    go_wp2_with fail
    refine (HB.out _).mono ?_
    rintro e w2 ⟨rfl, hb2⟩
    have hA2 := hA.out.keep hb2
    have hR2 := Lib.hid (hR.out.keep hb2)
    have hq2 := after hq1 hb2
    obtain ⟨hl2, c20, c21, c22, c23, f2⟩ := hA2
    have g2 := hR2.out.1
    clear hb1 hb2 hA hR hl1 c10 c11 c12 c13 f1 hR1
    go_wp2_with fail
    refine (HO.out _).mono ?_
    rintro e w3 ⟨rfl, hb3⟩
    have hR3 := (hR2.out.other (q := w.heap.size) (k := 3) (v := .string x) (by omega)).keep hb3
    have hq3 : Below w.heap.size w w3 := by repeat (first | exact Below.refl _ _ | apply Below.setCell _ (by first | omega | (simp <;> omega)) | apply Below.alloc _ (by first | omega | (simp <;> omega)) | exact hb3 | refine after ?_ hb3 | exact hq2 | refine after ?_ hq2)
    clear hb3 hq2 hR2 hl2 c20 c21 c22 c23 f2 g2
    obtain ⟨gl3, g30, g31, g32, g33, e3⟩ := hR3
    go_wp2_with fail
    refine bodyPost_ret (v := .agg #[.int .i64 B, .string N, .int .i64 d, .string x]) (by simp [results, Tryd.results12, go_sem, g30, g31, g32, g33]) rfl ?_
    exact ⟨rfl, by repeat (first | exact Below.refl _ _ | apply Below.setCell _ (by first | omega | (simp <;> omega)) | apply Below.alloc _ (by first | omega | (simp <;> omega)) | exact hq3 | refine after ?_ hq3)⟩

/-- an array has elements -/
def arrB (B : Int) (N : ByteArray) (D : Int) (M : ByteArray) : Bool := allB B N D M && decide (D ≠ 0)
set_option maxHeartbeats 2000000 in
theorem elem_no (B : Int) (N : ByteArray) (D : Int) (M : ByteArray) (w : World) (hN : N.size ≤ 60) (hM : M.size ≤ 60) (h : arrB B N D M = false) :
    Calls Tryd.prog 31 #[.agg #[.int .i64 B, .string N, .int .i64 D, .string M]] w fun e w' => e = .returned (.tuple #[.agg #[.int .i64 0, .string ⟨#[]⟩, .int .i64 0, .string ⟨#[]⟩], .int .i64 130]) ∧ Below w.heap.size w w' := by
  have HR := Lib.hid (fun w => kright_any B N D M w hN hM)
  cases ha : allB B N D M
  · rw [ha] at HR
    clear ha h
    go_enter Tryd.func31, Tryd.ntmps31
    go_wp2_with fail
    refine (HR.out _).mono ?_
    rintro e w1 ⟨rfl, hb1⟩
    obtain ⟨hq1, hA1, hR1⟩ := box42 hb1
    obtain ⟨hl1, c10, c11, c12, c13, f1⟩ := hA1
    obtain ⟨gl1, g10, g11, g12, g13, e1⟩ := hR1
    go_wp2_with fail
    refine bodyPost_ret (v := .tuple #[.agg #[.int .i64 0, .string ⟨#[]⟩, .int .i64 0, .string ⟨#[]⟩], .int .i64 130]) (by simp [results, Tryd.results31, go_sem, g10, g11, g12, g13]) rfl ?_
    exact ⟨rfl, by repeat (first | exact Below.refl _ _ | apply Below.setCell _ (by first | omega | (simp <;> omega)) | apply Below.alloc _ (by first | omega | (simp <;> omega)) | exact hq1 | refine after ?_ hq1)⟩
  · obtain rfl : D = 0 := by unfold arrB at h; rw [ha] at h; simpa using h
    rw [ha] at HR
    clear ha h
    go_enter Tryd.func31, Tryd.ntmps31
    go_wp2_with fail
    refine (HR.out _).mono ?_
    rintro e w1 ⟨rfl, hb1⟩
    obtain ⟨hq1, hA1, hR1⟩ := box42 hb1
    obtain ⟨hl1, c10, c11, c12, c13, f1⟩ := hA1
    obtain ⟨gl1, g10, g11, g12, g13, e1⟩ := hR1
    go_wp2_with fail
    refine bodyPost_ret (v := .tuple #[.agg #[.int .i64 0, .string ⟨#[]⟩, .int .i64 0, .string ⟨#[]⟩], .int .i64 130]) (by simp [results, Tryd.results31, go_sem, g10, g11, g12, g13]) rfl ?_
    exact ⟨rfl, by repeat (first | exact Below.refl _ _ | apply Below.setCell _ (by first | omega | (simp <;> omega)) | apply Below.alloc _ (by first | omega | (simp <;> omega)) | exact hq1 | refine after ?_ hq1)⟩
set_option maxHeartbeats 2000000 in
theorem elem_yes (B : Int) (N : ByteArray) (d : Nat) (M : ByteArray) (w : World) (hN : N.size ≤ 60) (hM : M.size ≤ 60) (h : allB B N ((d : Int) + 1) M = true) :
    Calls Tryd.prog 31 #[.agg #[.int .i64 B, .string N, .int .i64 ((d : Int) + 1), .string M]] w fun e w' => e = .returned (.tuple #[.agg #[.int .i64 B, .string N, .int .i64 d, .string (M.extract 0 (d + 1))], .int .i64 0]) ∧ Below w.heap.size w w' := by
  have HR := Lib.hid (fun w => kright_any B N ((d : Int) + 1) M w hN hM)
  rw [h] at HR
  obtain ⟨d', hd', hd4, hm⟩ := all_bounds h
  obtain rfl : d' = d + 1 := by omega
  have HO := Lib.hid (fun w => own_any B N d (M.extract 0 (d + 1)) w hN (by rw [ByteArray.size_extract]; omega))
  have hs : d + 1 ≤ M.size := by omega
  have q0 : ((d : Int) + 1 == 0) = false := by simp; omega
  have q2 : IntKind.i64.wrap ((d : Int) + 1 - 1) = (d : Int) := by rw [show (d : Int) + 1 - 1 = (d : Int) by omega]; exact IntWalk.i64_in _ ⟨by omega, by omega⟩
  have q3 : IntKind.i64.wrap ((d : Int) + 1) = (d : Int) + 1 := IntWalk.i64_in _ ⟨by omega, by omega⟩
  clear h hd' hm
  go_enter Tryd.func31, Tryd.ntmps31
  go_wp2_with fail
  refine (HR.out _).mono ?_
  rintro e w1 ⟨rfl, hb1⟩
  obtain ⟨hq1, hA1, hR1⟩ := box42 hb1
  have hR := Lib.hid hR1
  obtain ⟨hl1, c10, c11, c12, c13, f1⟩ := hA1
  obtain ⟨gl1, g10, g11, g12, g13, e1⟩ := hR1
  have hS := Lib.hid ((hR.out.other (q := w.heap.size) (k := 2) (v := .int .i64 d) (by omega)).other (q := w.heap.size) (k := 3) (v := .string (M.extract 0 (d + 1))) (by omega))
  go_wp2_with fail
  refine (HO.out _).mono ?_
  rintro e w2 ⟨rfl, hb2⟩
  have hS2 := hS.out.keep hb2
  have hq2 : Below w.heap.size w w2 := by repeat (first | exact Below.refl _ _ | apply Below.setCell _ (by first | omega | (simp <;> omega)) | apply Below.alloc _ (by first | omega | (simp <;> omega)) | exact hb2 | refine after ?_ hb2 | exact hq1 | refine after ?_ hq1)
  clear hb1 hb2 hR hl1 c10 c11 c12 c13 f1 gl1 g10 g11 g12 g13 e1
  obtain ⟨gl2, g20, g21, g22, g23, e2⟩ := hS2
  go_wp2_with fail
  refine bodyPost_ret (v := .tuple #[.agg #[.int .i64 B, .string N, .int .i64 d, .string (M.extract 0 (d + 1))], .int .i64 0]) (by simp [results, Tryd.results31, go_sem, g20, g21, g22, g23]) rfl ?_
  exact ⟨rfl, by repeat (first | exact Below.refl _ _ | apply Below.setCell _ (by first | omega | (simp <;> omega)) | apply Below.alloc _ (by first | omega | (simp <;> omega)) | exact hq2 | refine after ?_ hq2)⟩

/-- how a type is written: null and none too -/
def shS (B : Int) (N : ByteArray) (D : Int) (M : ByteArray) : ByteArray := if nullB B N D M = true then ⟨#[110, 117, 108, 108]⟩ else if noneB B N D M = true then ⟨#[110, 111, 110, 101]⟩ else ttS B N D M
set_option maxHeartbeats 4000000 in
theorem show_7 (N : ByteArray) (D : Int) (M : ByteArray) (w : World) (hN : N.size ≤ 60) (hM : M.size ≤ 60) :
    Calls Tryd.prog 21 #[.agg #[.int .i64 7, .string N, .int .i64 D, .string M]] w fun e w' => e = .returned (.string (shS 7 N D M)) ∧ Below w.heap.size w w' := by
  have HT := Lib.hid (fun w => typeText_any 7 N D M w hN hM)
  by_cases hn : N.toList = []
  · by_cases hd : D = 0
    · subst hd
      by_cases hm : M.toList = [63]
      · have E := Lib.hid (show shS 7 N 0 M = ⟨#[110, 117, 108, 108]⟩ by simp [shS, nullB, noneB, hn, hm])
        go_enter Tryd.func21, Tryd.ntmps21
        go_wp2_with (first | (go_at_call 32; refine (null_any _).mono ?_; rintro e w1 ⟨rfl, hb1⟩; obtain ⟨hq1, hy1⟩ := box4 hb1; have hA := Lib.hid hy1; obtain ⟨hl1, c10, c11, c12, c13, f1⟩ := hy1) | (go_at_call 38; refine (none_any _).mono ?_; rintro e w2 ⟨rfl, hb2⟩; have hA2 := hA.out.keep hb2; have hq2 := after hq1 hb2; clear hb1 hb2 hA hq1 hl1 c10 c11 c12 c13 f1; obtain ⟨hl2, c20, c21, c22, c23, f2⟩ := hA2) | (go_at_call 39; refine (HT.out _).mono ?_; rintro e w3 ⟨rfl, hb3⟩))
        all_goals go_ret
        all_goals exact ⟨by rw [E.out]; rfl, hq1⟩
      · have E := Lib.hid (show shS 7 N 0 M = ttS 7 N 0 M by simp [shS, nullB, noneB, hn, hm])
        go_enter Tryd.func21, Tryd.ntmps21
        go_wp2_with (first | (go_at_call 32; refine (null_any _).mono ?_; rintro e w1 ⟨rfl, hb1⟩; obtain ⟨hq1, hy1⟩ := box4 hb1; have hA := Lib.hid hy1; obtain ⟨hl1, c10, c11, c12, c13, f1⟩ := hy1) | (go_at_call 38; refine (none_any _).mono ?_; rintro e w2 ⟨rfl, hb2⟩; have hA2 := hA.out.keep hb2; have hq2 := after hq1 hb2; clear hb1 hb2 hA hq1 hl1 c10 c11 c12 c13 f1; obtain ⟨hl2, c20, c21, c22, c23, f2⟩ := hA2) | (go_at_call 39; refine (HT.out _).mono ?_; rintro e w3 ⟨rfl, hb3⟩))
        all_goals go_ret
        all_goals exact ⟨by rw [E.out]; rfl, after hq2 hb3⟩
    · have E := Lib.hid (show shS 7 N D M = ttS 7 N D M by simp [shS, nullB, noneB, hn, hd])
      go_enter Tryd.func21, Tryd.ntmps21
      go_wp2_with (first | (go_at_call 32; refine (null_any _).mono ?_; rintro e w1 ⟨rfl, hb1⟩; obtain ⟨hq1, hy1⟩ := box4 hb1; have hA := Lib.hid hy1; obtain ⟨hl1, c10, c11, c12, c13, f1⟩ := hy1) | (go_at_call 38; refine (none_any _).mono ?_; rintro e w2 ⟨rfl, hb2⟩; have hA2 := hA.out.keep hb2; have hq2 := after hq1 hb2; clear hb1 hb2 hA hq1 hl1 c10 c11 c12 c13 f1; obtain ⟨hl2, c20, c21, c22, c23, f2⟩ := hA2) | (go_at_call 39; refine (HT.out _).mono ?_; rintro e w3 ⟨rfl, hb3⟩))
      all_goals go_ret
      all_goals exact ⟨by rw [E.out]; rfl, after hq2 hb3⟩
  · have E := Lib.hid (show shS 7 N D M = ttS 7 N D M by simp [shS, nullB, noneB, hn])
    go_enter Tryd.func21, Tryd.ntmps21
    go_wp2_with (first | (go_at_call 32; refine (null_any _).mono ?_; rintro e w1 ⟨rfl, hb1⟩; obtain ⟨hq1, hy1⟩ := box4 hb1; have hA := Lib.hid hy1; obtain ⟨hl1, c10, c11, c12, c13, f1⟩ := hy1) | (go_at_call 38; refine (none_any _).mono ?_; rintro e w2 ⟨rfl, hb2⟩; have hA2 := hA.out.keep hb2; have hq2 := after hq1 hb2; clear hb1 hb2 hA hq1 hl1 c10 c11 c12 c13 f1; obtain ⟨hl2, c20, c21, c22, c23, f2⟩ := hA2) | (go_at_call 39; refine (HT.out _).mono ?_; rintro e w3 ⟨rfl, hb3⟩))
    all_goals go_ret
    all_goals exact ⟨by rw [E.out]; rfl, after hq2 hb3⟩
set_option maxHeartbeats 4000000 in
theorem show_8 (N : ByteArray) (D : Int) (M : ByteArray) (w : World) (hN : N.size ≤ 60) (hM : M.size ≤ 60) :
    Calls Tryd.prog 21 #[.agg #[.int .i64 8, .string N, .int .i64 D, .string M]] w fun e w' => e = .returned (.string (shS 8 N D M)) ∧ Below w.heap.size w w' := by
  have HT := Lib.hid (fun w => typeText_any 8 N D M w hN hM)
  by_cases hn : N.toList = []
  · by_cases hd : D = 0
    · subst hd
      by_cases hm : M.toList = [111]
      · have E := Lib.hid (show shS 8 N 0 M = ⟨#[110, 111, 110, 101]⟩ by simp [shS, nullB, noneB, hn, hm])
        go_enter Tryd.func21, Tryd.ntmps21
        go_wp2_with (first | (go_at_call 32; refine (null_any _).mono ?_; rintro e w1 ⟨rfl, hb1⟩; obtain ⟨hq1, hy1⟩ := box4 hb1; have hA := Lib.hid hy1; obtain ⟨hl1, c10, c11, c12, c13, f1⟩ := hy1) | (go_at_call 38; refine (none_any _).mono ?_; rintro e w2 ⟨rfl, hb2⟩; have hA2 := hA.out.keep hb2; have hq2 := after hq1 hb2; clear hb1 hb2 hA hq1 hl1 c10 c11 c12 c13 f1; obtain ⟨hl2, c20, c21, c22, c23, f2⟩ := hA2) | (go_at_call 39; refine (HT.out _).mono ?_; rintro e w3 ⟨rfl, hb3⟩))
        all_goals go_ret
        all_goals exact ⟨by rw [E.out]; rfl, hq2⟩
      · have E := Lib.hid (show shS 8 N 0 M = ttS 8 N 0 M by simp [shS, nullB, noneB, hn, hm])
        go_enter Tryd.func21, Tryd.ntmps21
        go_wp2_with (first | (go_at_call 32; refine (null_any _).mono ?_; rintro e w1 ⟨rfl, hb1⟩; obtain ⟨hq1, hy1⟩ := box4 hb1; have hA := Lib.hid hy1; obtain ⟨hl1, c10, c11, c12, c13, f1⟩ := hy1) | (go_at_call 38; refine (none_any _).mono ?_; rintro e w2 ⟨rfl, hb2⟩; have hA2 := hA.out.keep hb2; have hq2 := after hq1 hb2; clear hb1 hb2 hA hq1 hl1 c10 c11 c12 c13 f1; obtain ⟨hl2, c20, c21, c22, c23, f2⟩ := hA2) | (go_at_call 39; refine (HT.out _).mono ?_; rintro e w3 ⟨rfl, hb3⟩))
        all_goals go_ret
        all_goals exact ⟨by rw [E.out]; rfl, after hq2 hb3⟩
    · have E := Lib.hid (show shS 8 N D M = ttS 8 N D M by simp [shS, nullB, noneB, hn, hd])
      go_enter Tryd.func21, Tryd.ntmps21
      go_wp2_with (first | (go_at_call 32; refine (null_any _).mono ?_; rintro e w1 ⟨rfl, hb1⟩; obtain ⟨hq1, hy1⟩ := box4 hb1; have hA := Lib.hid hy1; obtain ⟨hl1, c10, c11, c12, c13, f1⟩ := hy1) | (go_at_call 38; refine (none_any _).mono ?_; rintro e w2 ⟨rfl, hb2⟩; have hA2 := hA.out.keep hb2; have hq2 := after hq1 hb2; clear hb1 hb2 hA hq1 hl1 c10 c11 c12 c13 f1; obtain ⟨hl2, c20, c21, c22, c23, f2⟩ := hA2) | (go_at_call 39; refine (HT.out _).mono ?_; rintro e w3 ⟨rfl, hb3⟩))
      all_goals go_ret
      all_goals exact ⟨by rw [E.out]; rfl, after hq2 hb3⟩
  · have E := Lib.hid (show shS 8 N D M = ttS 8 N D M by simp [shS, nullB, noneB, hn])
    go_enter Tryd.func21, Tryd.ntmps21
    go_wp2_with (first | (go_at_call 32; refine (null_any _).mono ?_; rintro e w1 ⟨rfl, hb1⟩; obtain ⟨hq1, hy1⟩ := box4 hb1; have hA := Lib.hid hy1; obtain ⟨hl1, c10, c11, c12, c13, f1⟩ := hy1) | (go_at_call 38; refine (none_any _).mono ?_; rintro e w2 ⟨rfl, hb2⟩; have hA2 := hA.out.keep hb2; have hq2 := after hq1 hb2; clear hb1 hb2 hA hq1 hl1 c10 c11 c12 c13 f1; obtain ⟨hl2, c20, c21, c22, c23, f2⟩ := hA2) | (go_at_call 39; refine (HT.out _).mono ?_; rintro e w3 ⟨rfl, hb3⟩))
    all_goals go_ret
    all_goals exact ⟨by rw [E.out]; rfl, after hq2 hb3⟩
set_option maxHeartbeats 4000000 in
theorem kshow_any (B : Int) (N : ByteArray) (D : Int) (M : ByteArray) (w : World) (hN : N.size ≤ 60) (hM : M.size ≤ 60) :
    Calls Tryd.prog 21 #[.agg #[.int .i64 B, .string N, .int .i64 D, .string M]] w fun e w' => e = .returned (.string (shS B N D M)) ∧ Below w.heap.size w w' := by
  by_cases h7 : B = 7
  · subst h7; exact show_7 N D M w hN hM
  · by_cases h8 : B = 8
    · subst h8; exact show_8 N D M w hN hM
    · have HT := Lib.hid (fun w => typeText_any B N D M w hN hM)
      have E := Lib.hid (show shS B N D M = ttS B N D M by simp [shS, nullB, noneB, h7, h8])
      go_enter Tryd.func21, Tryd.ntmps21
      go_wp2_with (first | (go_at_call 32; refine (null_any _).mono ?_; rintro e w1 ⟨rfl, hb1⟩; obtain ⟨hq1, hy1⟩ := box4 hb1; have hA := Lib.hid hy1; obtain ⟨hl1, c10, c11, c12, c13, f1⟩ := hy1) | (go_at_call 38; refine (none_any _).mono ?_; rintro e w2 ⟨rfl, hb2⟩; have hA2 := hA.out.keep hb2; have hq2 := after hq1 hb2; clear hb1 hb2 hA hq1 hl1 c10 c11 c12 c13 f1; obtain ⟨hl2, c20, c21, c22, c23, f2⟩ := hA2) | (go_at_call 39; refine (HT.out _).mono ?_; rintro e w3 ⟨rfl, hb3⟩))
      all_goals go_ret
      all_goals exact ⟨by rw [E.out]; rfl, after hq2 hb3⟩
end Go.Proofs.YtdkpmpkoelckoaaDoor
