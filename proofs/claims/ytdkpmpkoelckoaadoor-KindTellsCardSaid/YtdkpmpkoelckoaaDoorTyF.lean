/- Contracts of kind.Of, Ref, Is, Number, Outer, Bare, Elem and Show. -/
import Derived.Test.YtdkpmpkoelckoaaDoorTyE
namespace Go.Proofs.YtdkpmpkoelckoaaDoor
open Go Go.RowKit
set_option linter.unusedVariables false
set_option linter.unusedSimpArgs false

theorem blankS_size (n : Nat) : (blankS n).size = n := by
  show (List.replicate n (32 : UInt8)).toArray.size = n
  simp
theorem blankS_by (n i : Nat) (h : i < n) : byS (blankS n) i = 32 := by
  rw [byS_list]
  show (((List.replicate n (32 : UInt8))[i]?).map UInt8.toNat).getD 0 = 32
  rw [List.getElem?_replicate, if_pos h]; rfl
theorem all_bounds {B : Int} {N : ByteArray} {D : Int} {M : ByteArray} (h : allB B N D M = true) : ∃ d : Nat, D = d ∧ d ≤ 4 ∧ M.size = d + 1 := by
  unfold allB at h
  rcases Bool.or_eq_true _ _ |>.mp h with h | h
  · unfold litB nullB noneB at h
    simp only [Bool.or_eq_true, decide_eq_true_iff] at h
    have hl : M.toList.length = 1 ∧ D = 0 := by
      rcases h with ⟨-, -, hd, hm⟩ | ⟨-, -, hd, hm⟩ <;> exact ⟨by rw [hm]; rfl, hd⟩
    refine ⟨0, hl.2, by omega, ?_⟩
    rw [ByteArray.toList_eq, Array.length_toList] at hl
    exact hl.1
  · unfold rightB marksB at h
    simp only [Bool.and_eq_true, decide_eq_true_iff] at h
    obtain ⟨⟨⟨h1, h2⟩, h3⟩, ⟨⟨h4, h5⟩, h6⟩, h7⟩ := h
    exact ⟨D.toNat, by omega, by omega, h4⟩
theorem right_bounds {B : Int} {N : ByteArray} {D : Int} {M : ByteArray} (h : rightB B N D M = true) : ∃ d : Nat, D = d ∧ d ≤ 4 ∧ M.size = d + 1 := all_bounds (by unfold allB; rw [h]; simp)

set_option maxHeartbeats 2000000 in
theorem of_out (B : Int) (N : ByteArray) (D : Int) (w : World) (h : D < 0 ∨ 4 < D) :
    Calls Tryd.prog 10 #[.int .i64 B, .string N, .int .i64 D] w fun e w' => e = .returned (.tuple #[.agg #[.int .i64 0, .string ⟨#[]⟩, .int .i64 0, .string ⟨#[]⟩], .int .i64 5]) ∧ Below w.heap.size w w' := by
  by_cases h0 : D < 0
  · have q : decide (D < 0) = true := decide_eq_true h0
    go_enter Tryd.func10, Tryd.ntmps10
    go_wp2_with fail
    all_goals refine bodyPost_ret (v := .tuple #[.agg #[.int .i64 0, .string ⟨#[]⟩, .int .i64 0, .string ⟨#[]⟩], .int .i64 5]) (by simp [results, Tryd.results10, go_sem]) rfl ?_
    all_goals exact ⟨rfl, by repeat (first | exact Below.refl _ _ | apply Below.setCell _ (by first | omega | (simp <;> omega)) | apply Below.alloc _ (by first | omega | (simp <;> omega)))⟩
  · have q : decide (D < 0) = false := decide_eq_false h0
    have q2 : decide (4 < D) = true := decide_eq_true (by omega)
    go_enter Tryd.func10, Tryd.ntmps10
    go_wp2_with fail
    all_goals refine bodyPost_ret (v := .tuple #[.agg #[.int .i64 0, .string ⟨#[]⟩, .int .i64 0, .string ⟨#[]⟩], .int .i64 5]) (by simp [results, Tryd.results10, go_sem]) rfl ?_
    all_goals exact ⟨rfl, by repeat (first | exact Below.refl _ _ | apply Below.setCell _ (by first | omega | (simp <;> omega)) | apply Below.alloc _ (by first | omega | (simp <;> omega)))⟩

set_option maxHeartbeats 2000000 in
theorem of_yes (B : Int) (N : ByteArray) (d : Nat) (w : World) (hd : d ≤ 4) (hN : N.size ≤ 60) (hr : rightB B N d (blankS (d + 1)) = true) :
    Calls Tryd.prog 10 #[.int .i64 B, .string N, .int .i64 d] w fun e w' => e = .returned (.tuple #[.agg #[.int .i64 B, .string N, .int .i64 d, .string (blankS (d + 1))], .int .i64 0]) ∧ Below w.heap.size w w' := by
  have HB := Lib.hid (fun w => blanks_any (d + 1) w (by omega))
  have hs : (blankS (d + 1)).size ≤ 60 := by rw [blankS_size]; omega
  have q1 : decide ((d : Int) < 0) = false := decide_eq_false (by omega)
  have q2 : decide ((4 : Int) < (d : Int)) = false := decide_eq_false (by omega)
  have HW := Lib.hid (fun w => written_yes B N d (blankS (d + 1)) 5 w hN hs hr)
  generalize blankS (d + 1) = x at *
  go_enter Tryd.func10, Tryd.ntmps10
  go_wp2_with fail
  refine (HB.out _).mono ?_
  rintro e w1 ⟨rfl, hb1⟩
  have hR := (TyAt.new w 0 ⟨#[]⟩ 0 ⟨#[]⟩ _).keep hb1
  have hq1 : Below w.heap.size w w1 := (box4 hb1).1
  clear hb1
  go_wp2_with fail
  refine (HW.out _).mono ?_
  rintro e w2 ⟨rfl, hb2⟩
  obtain ⟨gl2, g20, g21, g22, g23, e2⟩ := hR.keep hb2
  have hq2 := after hq1 hb2
  go_wp2_with fail
  refine bodyPost_ret (v := .tuple #[.agg #[.int .i64 B, .string N, .int .i64 d, .string x], .int .i64 0]) (by simp [results, Tryd.results10, go_sem, g20, g21, g22, g23]) rfl ?_
  exact ⟨rfl, by repeat (first | exact Below.refl _ _ | apply Below.setCell _ (by first | omega | (simp <;> omega)) | apply Below.alloc _ (by first | omega | (simp <;> omega)) | exact hq2 | refine after ?_ hq2)⟩
set_option maxHeartbeats 2000000 in
theorem of_no (B : Int) (N : ByteArray) (d : Nat) (w : World) (hd : d ≤ 4) (hN : N.size ≤ 60) (hr : rightB B N d (blankS (d + 1)) = false) :
    Calls Tryd.prog 10 #[.int .i64 B, .string N, .int .i64 d] w fun e w' => e = .returned (.tuple #[.agg #[.int .i64 0, .string ⟨#[]⟩, .int .i64 0, .string ⟨#[]⟩], .int .i64 5]) ∧ Below w.heap.size w w' := by
  have HB := Lib.hid (fun w => blanks_any (d + 1) w (by omega))
  have hs : (blankS (d + 1)).size ≤ 60 := by rw [blankS_size]; omega
  have q1 : decide ((d : Int) < 0) = false := decide_eq_false (by omega)
  have q2 : decide ((4 : Int) < (d : Int)) = false := decide_eq_false (by omega)
  have HW := Lib.hid (fun w => written_no B N d (blankS (d + 1)) 5 w hN hs hr)
  generalize blankS (d + 1) = x at *
  go_enter Tryd.func10, Tryd.ntmps10
  go_wp2_with fail
  refine (HB.out _).mono ?_
  rintro e w1 ⟨rfl, hb1⟩
  have hR := (TyAt.new w 0 ⟨#[]⟩ 0 ⟨#[]⟩ _).keep hb1
  have hq1 : Below w.heap.size w w1 := (box4 hb1).1
  clear hb1
  go_wp2_with fail
  refine (HW.out _).mono ?_
  rintro e w2 ⟨rfl, hb2⟩
  obtain ⟨gl2, g20, g21, g22, g23, e2⟩ := hR.keep hb2
  have hq2 := after hq1 hb2
  go_wp2_with fail
  refine bodyPost_ret (v := .tuple #[.agg #[.int .i64 0, .string ⟨#[]⟩, .int .i64 0, .string ⟨#[]⟩], .int .i64 5]) (by simp [results, Tryd.results10, go_sem, g20, g21, g22, g23]) rfl ?_
  exact ⟨rfl, by repeat (first | exact Below.refl _ _ | apply Below.setCell _ (by first | omega | (simp <;> omega)) | apply Below.alloc _ (by first | omega | (simp <;> omega)) | exact hq2 | refine after ?_ hq2)⟩

/-- has a type values that may be null, or refer to something? -/
def refB (B : Int) (N : ByteArray) (D : Int) (M : ByteArray) : Bool := allB B N D M && (decide (0 < D) || decide (B = 5) || litB B N D M)
set_option maxHeartbeats 2000000 in
theorem ref_any (B : Int) (N : ByteArray) (D : Int) (M : ByteArray) (w : World) (hN : N.size ≤ 60) (hM : M.size ≤ 60) :
    Calls Tryd.prog 18 #[.agg #[.int .i64 B, .string N, .int .i64 D, .string M]] w fun e w' => e = .returned (.bool (refB B N D M)) ∧ Below w.heap.size w w' := by
  have HR := Lib.hid (fun w => kright_any B N D M w hN hM)
  have HL := Lib.hid (fun w => literal_any B N D M w)
  cases ha : allB B N D M
  · have E := Lib.hid (show refB B N D M = false by unfold refB; rw [ha]; rfl)
    rw [ha] at HR
    clear ha
    go_enter Tryd.func18, Tryd.ntmps18
    go_wp2_with (go_at_call 16; refine (HR.out _).mono ?_; rintro e w1 ⟨rfl, hb1⟩; obtain ⟨hq1, hy1⟩ := box4 hb1; have hA := Lib.hid hy1; obtain ⟨hl1, c10, c11, c12, c13, f1⟩ := hy1)
    all_goals go_ret
    all_goals exact ⟨by rw [E.out]; rfl, hq1⟩
  · have E0 : refB B N D M = (decide (0 < D) || decide (B = 5) || litB B N D M) := by unfold refB; rw [ha]; rfl
    rw [ha] at HR
    clear ha
    by_cases h0 : 0 < D
    · have E := Lib.hid (show refB B N D M = true by rw [E0]; simp [h0])
      have q : decide (0 < D) = true := decide_eq_true h0
      clear E0
      go_enter Tryd.func18, Tryd.ntmps18
      go_wp2_with (go_at_call 16; refine (HR.out _).mono ?_; rintro e w1 ⟨rfl, hb1⟩; obtain ⟨hq1, hy1⟩ := box4 hb1; have hA := Lib.hid hy1; obtain ⟨hl1, c10, c11, c12, c13, f1⟩ := hy1)
      all_goals go_ret
      all_goals exact ⟨by rw [E.out]; rfl, hq1⟩
    · have q : decide (0 < D) = false := decide_eq_false h0
      by_cases h5 : B = 5
      · have E := Lib.hid (show refB B N D M = true by rw [E0]; simp [h5])
        have q5 : (B == 5) = true := by simpa using h5
        clear E0 h5
        go_enter Tryd.func18, Tryd.ntmps18
        go_wp2_with (go_at_call 16; refine (HR.out _).mono ?_; rintro e w1 ⟨rfl, hb1⟩; obtain ⟨hq1, hy1⟩ := box4 hb1; have hA := Lib.hid hy1; obtain ⟨hl1, c10, c11, c12, c13, f1⟩ := hy1)
        all_goals go_ret
        all_goals exact ⟨by rw [E.out]; rfl, hq1⟩
      · have E := Lib.hid (show refB B N D M = litB B N D M by rw [E0]; simp [h5, h0])
        have q5 : (B == 5) = false := by simpa using h5
        clear E0
        go_enter Tryd.func18, Tryd.ntmps18
        go_wp2_with (first | (go_at_call 16; refine (HR.out _).mono ?_; rintro e w1 ⟨rfl, hb1⟩; obtain ⟨hq1, hy1⟩ := box4 hb1; have hA := Lib.hid hy1; obtain ⟨hl1, c10, c11, c12, c13, f1⟩ := hy1) | (go_at_call 37; refine (HL.out _).mono ?_; rintro e w2 ⟨rfl, hb2⟩))
        all_goals go_ret
        all_goals exact ⟨by rw [E.out]; rfl, after hq1 hb2⟩

/-- is a type a base without arrays? -/
def isB (B : Int) (N : ByteArray) (D : Int) (M : ByteArray) (x : Int) : Bool := allB B N D M && decide (D = 0 ∧ B = x ∧ x ≠ 5)
set_option maxHeartbeats 2000000 in
theorem is_any (B : Int) (N : ByteArray) (D : Int) (M : ByteArray) (x : Int) (w : World) (hN : N.size ≤ 60) (hM : M.size ≤ 60) :
    Calls Tryd.prog 13 #[.agg #[.int .i64 B, .string N, .int .i64 D, .string M], .int .i64 x] w fun e w' => e = .returned (.bool (isB B N D M x)) ∧ Below w.heap.size w w' := by
  have HR := Lib.hid (fun w => kright_any B N D M w hN hM)
  cases ha : allB B N D M
  · have E := Lib.hid (show isB B N D M x = false by unfold isB; rw [ha]; rfl)
    rw [ha] at HR
    clear ha
    go_enter Tryd.func13, Tryd.ntmps13
    go_wp2_with (go_at_call 16; refine (HR.out _).mono ?_; rintro e w1 ⟨rfl, hb1⟩; obtain ⟨hq1, hy1⟩ := box4 hb1; have hA := Lib.hid hy1; obtain ⟨hl1, c10, c11, c12, c13, f1⟩ := hy1)
    all_goals go_ret
    all_goals exact ⟨by rw [E.out]; rfl, hq1⟩
  · have E0 : isB B N D M x = decide (D = 0 ∧ B = x ∧ x ≠ 5) := by unfold isB; rw [ha]; rfl
    rw [ha] at HR
    clear ha
    by_cases h0 : D = 0
    · have q : (D == 0) = true := by simpa using h0
      by_cases h1 : B = x
      · have q1 : (B == x) = true := by simpa using h1
        have E := Lib.hid (show isB B N D M x = (x != 5) by rw [E0]; simp only [h0, h1, true_and]; simp [bne, BEq.beq])
        clear E0 h0 h1
        go_enter Tryd.func13, Tryd.ntmps13
        go_wp2_with (go_at_call 16; refine (HR.out _).mono ?_; rintro e w1 ⟨rfl, hb1⟩; obtain ⟨hq1, hy1⟩ := box4 hb1; have hA := Lib.hid hy1; obtain ⟨hl1, c10, c11, c12, c13, f1⟩ := hy1)
        all_goals go_ret
        all_goals exact ⟨by rw [E.out]; rfl, hq1⟩
      · have q1 : (B == x) = false := by simpa using h1
        have E := Lib.hid (show isB B N D M x = false by rw [E0]; simp [h1])
        clear E0 h0
        go_enter Tryd.func13, Tryd.ntmps13
        go_wp2_with (go_at_call 16; refine (HR.out _).mono ?_; rintro e w1 ⟨rfl, hb1⟩; obtain ⟨hq1, hy1⟩ := box4 hb1; have hA := Lib.hid hy1; obtain ⟨hl1, c10, c11, c12, c13, f1⟩ := hy1)
        all_goals go_ret
        all_goals exact ⟨by rw [E.out]; rfl, hq1⟩
    · have q : (D == 0) = false := by simpa using h0
      have E := Lib.hid (show isB B N D M x = false by rw [E0]; simp [h0])
      clear E0
      go_enter Tryd.func13, Tryd.ntmps13
      go_wp2_with (go_at_call 16; refine (HR.out _).mono ?_; rintro e w1 ⟨rfl, hb1⟩; obtain ⟨hq1, hy1⟩ := box4 hb1; have hA := Lib.hid hy1; obtain ⟨hl1, c10, c11, c12, c13, f1⟩ := hy1)
      all_goals go_ret
      all_goals exact ⟨by rw [E.out]; rfl, hq1⟩

set_option maxHeartbeats 2000000 in
theorem number_any (B : Int) (N : ByteArray) (D : Int) (M : ByteArray) (w : World) (hN : N.size ≤ 60) (hM : M.size ≤ 60) :
    Calls Tryd.prog 14 #[.agg #[.int .i64 B, .string N, .int .i64 D, .string M]] w fun e w' => e = .returned (.bool (isB B N D M 1 || isB B N D M 3)) ∧ Below w.heap.size w w' := by
  have H1 := Lib.hid (fun w => is_any B N D M 1 w hN hM)
  have H3 := Lib.hid (fun w => is_any B N D M 3 w hN hM)
  cases h1 : isB B N D M 1
  · rw [h1] at H1
    clear h1
    go_enter Tryd.func14, Tryd.ntmps14
    go_wp2_with (first | (go_at_call_of 13 (Value.int .i64 1); refine (H1.out _).mono ?_; rintro e w1 ⟨rfl, hb1⟩; obtain ⟨hq1, hy1⟩ := box4 hb1; have hA := Lib.hid hy1; obtain ⟨hl1, c10, c11, c12, c13, f1⟩ := hy1) | (go_at_call_of 13 (Value.int .i64 3); refine (H3.out _).mono ?_; rintro e w2 ⟨rfl, hb2⟩))
    all_goals go_ret
    all_goals exact ⟨rfl, after hq1 hb2⟩
  · rw [h1] at H1
    clear h1
    go_enter Tryd.func14, Tryd.ntmps14
    go_wp2_with (first | (go_at_call 13; refine (H1.out _).mono ?_; rintro e w1 ⟨rfl, hb1⟩; obtain ⟨hq1, hy1⟩ := box4 hb1; have hA := Lib.hid hy1; obtain ⟨hl1, c10, c11, c12, c13, f1⟩ := hy1))
    all_goals go_ret
    all_goals exact ⟨rfl, hq1⟩
end Go.Proofs.YtdkpmpkoelckoaaDoor
