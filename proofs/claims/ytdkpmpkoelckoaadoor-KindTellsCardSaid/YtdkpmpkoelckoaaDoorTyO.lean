/- Contracts of the document's Right at any type, and of the statements' plain and right. -/
import Derived.Test.YtdkpmpkoelckoaaDoorTyN
namespace Go.Proofs.YtdkpmpkoelckoaaDoor
open Go Go.RowKit
set_option linter.unusedVariables false
set_option linter.unusedSimpArgs false

theorem rightB_no4 {B : Int} {N : ByteArray} {D : Int} {M : ByteArray} (h : ¬ (M.size : Int) - 1 = D) : rightB B N D M = false := by
  cases hr : rightB B N D M
  · rfl
  · obtain ⟨d, hd, -, hm⟩ := right_bounds hr
    omega
set_option maxHeartbeats 4000000 in
theorem refR_any (B : Int) (N : ByteArray) (D : Int) (M : ByteArray) (w : World) (hM : M.size ≤ 60) :
    Calls Tryd.prog 11 #[.agg #[.int .i64 B, .string N, .int .i64 D, .string M]] w fun e w' => e = .returned (.bool (rightB B N D M)) ∧ Below w.heap.size w w' := by
  have z3 : IntKind.i64.wrap ((M.size : Int) - 1) = (M.size : Int) - 1 := IntWalk.i64_in _ ⟨by omega, by omega⟩
  by_cases h0 : D < 0
  · have E := Lib.hid (rightB_no3 (B := B) (N := N) (D := D) (M := M) (by omega))
    have q1 : decide (D < 0) = true := decide_eq_true h0
    clear h0
    go_enter Tryd.func11, Tryd.ntmps11
    go_wp2_with fail
    all_goals go_ret
    all_goals exact ⟨ret_bo E.out.symm, by repeat (first | exact Below.refl _ _ | apply Below.setCell _ (by first | omega | (simp <;> omega)) | apply Below.alloc _ (by first | omega | (simp <;> omega)))⟩
  · have q1 : decide (D < 0) = false := decide_eq_false h0
    by_cases h1 : 4 < D
    · have E := Lib.hid (rightB_no3 (B := B) (N := N) (D := D) (M := M) (by omega))
      have q2 : decide (4 < D) = true := decide_eq_true h1
      clear h0 h1
      go_enter Tryd.func11, Tryd.ntmps11
      go_wp2_with fail
      all_goals go_ret
      all_goals exact ⟨ret_bo E.out.symm, by repeat (first | exact Below.refl _ _ | apply Below.setCell _ (by first | omega | (simp <;> omega)) | apply Below.alloc _ (by first | omega | (simp <;> omega)))⟩
    · have q2 : decide (4 < D) = false := decide_eq_false h1
      by_cases h2 : (M.size : Int) - 1 = D
      · by_cases h3 : B < 1
        · have E := Lib.hid (rightB_no1 (B := B) (N := N) (D := D) (M := M) (by omega))
          have q4 : decide (B < 1) = true := decide_eq_true h3
          have q3 : ((M.size : Int) - 1 != D) = false := by simpa using h2
          clear h0 h1 h2 h3
          go_enter Tryd.func11, Tryd.ntmps11
          go_wp2_with fail
          all_goals go_ret
          all_goals exact ⟨ret_bo E.out.symm, by repeat (first | exact Below.refl _ _ | apply Below.setCell _ (by first | omega | (simp <;> omega)) | apply Below.alloc _ (by first | omega | (simp <;> omega)))⟩
        · have q4 : decide (B < 1) = false := decide_eq_false h3
          by_cases h4 : 6 < B
          · have E := Lib.hid (rightB_no1 (B := B) (N := N) (D := D) (M := M) (by omega))
            have q5 : decide (6 < B) = true := decide_eq_true h4
            have q3 : ((M.size : Int) - 1 != D) = false := by simpa using h2
            clear h0 h1 h2 h3 h4
            go_enter Tryd.func11, Tryd.ntmps11
            go_wp2_with fail
            all_goals go_ret
            all_goals exact ⟨ret_bo E.out.symm, by repeat (first | exact Below.refl _ _ | apply Below.setCell _ (by first | omega | (simp <;> omega)) | apply Below.alloc _ (by first | omega | (simp <;> omega)))⟩
          · have q5 : decide (6 < B) = false := decide_eq_false h4
            by_cases hN : B = 5 ↔ N.size ≠ 0
            · by_cases h6 : B = 6 → D = 0
              · obtain ⟨d, rfl⟩ : ∃ d : Nat, D = d := ⟨D.toNat, by omega⟩
                rw [rightB_yes (M := M) ⟨by omega, by omega⟩ hN ⟨by omega, by omega, h6⟩, Int.toNat_natCast]
                exact refR_in B N d M w hM (by omega) (by omega) ⟨by omega, by omega⟩ hN (fun h => by have := h6 h; omega)
              · have E := Lib.hid (rightB_no3 (B := B) (N := N) (D := D) (M := M) (fun h => h6 h.2.2))
                have q3 : ((M.size : Int) - 1 != D) = false := by simpa using h2
                have hb6 : B = 6 := Classical.byContradiction fun h => h6 fun g => absurd g h
                have hd0 : 0 < D := by omega
                have n1 : N.toList = [] := (tl_nil N).2 (by apply Classical.byContradiction; intro h; have := hN.2 h; omega)
                have n2 : (N.toList == []) = true := by rw [n1]; rfl
                have g5 : (B == 5) = false := by rw [hb6]; rfl
                have g5' : (B != 5) = true := by rw [hb6]; rfl
                have g6 : (B == 6) = true := by rw [hb6]; rfl
                have z6 : decide (0 < D) = true := decide_eq_true hd0
                clear h0 h1 h2 h3 h4 hN h6 hb6 hd0
                go_enter Tryd.func11, Tryd.ntmps11
                go_wp2_with fail
                all_goals go_ret
                all_goals exact ⟨ret_bo E.out.symm, by repeat (first | exact Below.refl _ _ | apply Below.setCell _ (by first | omega | (simp <;> omega)) | apply Below.alloc _ (by first | omega | (simp <;> omega)))⟩
            · have E := Lib.hid (rightB_no2 (B := B) (N := N) (D := D) (M := M) hN)
              have q3 : ((M.size : Int) - 1 != D) = false := by simpa using h2
              by_cases h5 : B = 5
              · have n1 : N.toList = [] := (tl_nil N).2 (by apply Classical.byContradiction; intro h; exact hN ⟨fun _ => h, fun _ => h5⟩)
                have n2 : (N.toList == []) = true := by rw [n1]; rfl
                have g5 : (B == 5) = true := by simpa using h5
                clear h0 h1 h2 h3 h4 hN h5
                go_enter Tryd.func11, Tryd.ntmps11
                go_wp2_with fail
                all_goals go_ret
                all_goals exact ⟨ret_bo E.out.symm, by repeat (first | exact Below.refl _ _ | apply Below.setCell _ (by first | omega | (simp <;> omega)) | apply Below.alloc _ (by first | omega | (simp <;> omega)))⟩
              · obtain ⟨n1, n2⟩ := tl_ne N (by intro h; exact hN ⟨fun h' => absurd h' h5, fun h' => absurd h h'⟩)
                have g5 : (B == 5) = false := by simpa using h5
                have g5' : (B != 5) = true := by simpa using h5
                clear h0 h1 h2 h3 h4 hN h5
                go_enter Tryd.func11, Tryd.ntmps11
                go_wp2_with fail
                all_goals go_ret
                all_goals exact ⟨ret_bo E.out.symm, by repeat (first | exact Below.refl _ _ | apply Below.setCell _ (by first | omega | (simp <;> omega)) | apply Below.alloc _ (by first | omega | (simp <;> omega)))⟩
      · have E := Lib.hid (rightB_no4 (B := B) (N := N) (D := D) (M := M) h2)
        have q3 : ((M.size : Int) - 1 != D) = true := by simpa using h2
        clear h0 h1 h2
        go_enter Tryd.func11, Tryd.ntmps11
        go_wp2_with fail
        all_goals go_ret
        all_goals exact ⟨ret_bo E.out.symm, by repeat (first | exact Below.refl _ _ | apply Below.setCell _ (by first | omega | (simp <;> omega)) | apply Below.alloc _ (by first | omega | (simp <;> omega)))⟩

set_option maxHeartbeats 2000000 in
theorem plain_any (B : Int) (N : ByteArray) (D : Int) (M : ByteArray) (w : World) (hM : M.size ≤ 60) :
    Calls Tryd.prog 22 #[.agg #[.int .i64 B, .string N, .int .i64 D, .string M]] w fun e w' => e = .returned (.bool (rightB B N D M)) ∧ Below w.heap.size w w' := by
  have HR := Lib.hid (fun w => refR_any B N D M w hM)
  go_enter Tryd.func22, Tryd.ntmps22
  go_wp2_with (go_at_call 11; refine (HR.out _).mono ?_; rintro e w1 ⟨rfl, hb1⟩)
  go_ret
  exact ⟨rfl, (box4 hb1).1⟩

set_option maxHeartbeats 2000000 in
theorem lright_7 (N : ByteArray) (D : Int) (M : ByteArray) (w : World) (hM : M.size ≤ 60) :
    Calls Tryd.prog 17 #[.agg #[.int .i64 7, .string N, .int .i64 D, .string M]] w fun e w' => e = .returned (.bool (allB 7 N D M)) ∧ Below w.heap.size w w' := by
  have HR := Lib.hid (fun w => refR_any 7 N D M w hM)
  rw [rightB_no1 (by omega)] at HR
  by_cases hn : N.toList = []
  · by_cases hd : D = 0
    · subst hd
      by_cases hm : M.toList = [63]
      · have E := Lib.hid (show allB 7 N 0 M = true by simp [allB, litB, nullB, noneB, hn, hm])
        go_enter Tryd.func17, Tryd.ntmps17
        go_wp2_with (go_at_call 11; refine (HR.out _).mono ?_; rintro e w1 ⟨rfl, hb1⟩; obtain ⟨hq1, hy1⟩ := box4 hb1; obtain ⟨hl1, c10, c11, c12, c13, f1⟩ := hy1)
        all_goals go_ret
        all_goals exact ⟨ret_bo E.out.symm, hq1⟩
      · have E := Lib.hid (show allB 7 N 0 M = false by unfold allB; rw [rightB_no1 (by omega)]; simp [litB, nullB, noneB, hn, hm])
        go_enter Tryd.func17, Tryd.ntmps17
        go_wp2_with (go_at_call 11; refine (HR.out _).mono ?_; rintro e w1 ⟨rfl, hb1⟩; obtain ⟨hq1, hy1⟩ := box4 hb1; obtain ⟨hl1, c10, c11, c12, c13, f1⟩ := hy1)
        all_goals go_ret
        all_goals exact ⟨ret_bo E.out.symm, hq1⟩
    · have E := Lib.hid (show allB 7 N D M = false by unfold allB; rw [rightB_no1 (by omega)]; simp [litB, nullB, noneB, hn, hd])
      go_enter Tryd.func17, Tryd.ntmps17
      go_wp2_with (go_at_call 11; refine (HR.out _).mono ?_; rintro e w1 ⟨rfl, hb1⟩; obtain ⟨hq1, hy1⟩ := box4 hb1; obtain ⟨hl1, c10, c11, c12, c13, f1⟩ := hy1)
      all_goals go_ret
      all_goals exact ⟨ret_bo E.out.symm, hq1⟩
  · have E := Lib.hid (show allB 7 N D M = false by unfold allB; rw [rightB_no1 (by omega)]; simp [litB, nullB, noneB, hn])
    go_enter Tryd.func17, Tryd.ntmps17
    go_wp2_with (go_at_call 11; refine (HR.out _).mono ?_; rintro e w1 ⟨rfl, hb1⟩; obtain ⟨hq1, hy1⟩ := box4 hb1; obtain ⟨hl1, c10, c11, c12, c13, f1⟩ := hy1)
    all_goals go_ret
    all_goals exact ⟨ret_bo E.out.symm, hq1⟩
set_option maxHeartbeats 2000000 in
theorem lright_8 (N : ByteArray) (D : Int) (M : ByteArray) (w : World) (hM : M.size ≤ 60) :
    Calls Tryd.prog 17 #[.agg #[.int .i64 8, .string N, .int .i64 D, .string M]] w fun e w' => e = .returned (.bool (allB 8 N D M)) ∧ Below w.heap.size w w' := by
  have HR := Lib.hid (fun w => refR_any 8 N D M w hM)
  rw [rightB_no1 (by omega)] at HR
  by_cases hn : N.toList = []
  · by_cases hd : D = 0
    · subst hd
      by_cases hm : M.toList = [111]
      · have E := Lib.hid (show allB 8 N 0 M = true by simp [allB, litB, nullB, noneB, hn, hm])
        go_enter Tryd.func17, Tryd.ntmps17
        go_wp2_with (go_at_call 11; refine (HR.out _).mono ?_; rintro e w1 ⟨rfl, hb1⟩; obtain ⟨hq1, hy1⟩ := box4 hb1; obtain ⟨hl1, c10, c11, c12, c13, f1⟩ := hy1)
        all_goals go_ret
        all_goals exact ⟨ret_bo E.out.symm, hq1⟩
      · have E := Lib.hid (show allB 8 N 0 M = false by unfold allB; rw [rightB_no1 (by omega)]; simp [litB, nullB, noneB, hn, hm])
        go_enter Tryd.func17, Tryd.ntmps17
        go_wp2_with (go_at_call 11; refine (HR.out _).mono ?_; rintro e w1 ⟨rfl, hb1⟩; obtain ⟨hq1, hy1⟩ := box4 hb1; obtain ⟨hl1, c10, c11, c12, c13, f1⟩ := hy1)
        all_goals go_ret
        all_goals exact ⟨ret_bo E.out.symm, hq1⟩
    · have E := Lib.hid (show allB 8 N D M = false by unfold allB; rw [rightB_no1 (by omega)]; simp [litB, nullB, noneB, hn, hd])
      go_enter Tryd.func17, Tryd.ntmps17
      go_wp2_with (go_at_call 11; refine (HR.out _).mono ?_; rintro e w1 ⟨rfl, hb1⟩; obtain ⟨hq1, hy1⟩ := box4 hb1; obtain ⟨hl1, c10, c11, c12, c13, f1⟩ := hy1)
      all_goals go_ret
      all_goals exact ⟨ret_bo E.out.symm, hq1⟩
  · have E := Lib.hid (show allB 8 N D M = false by unfold allB; rw [rightB_no1 (by omega)]; simp [litB, nullB, noneB, hn])
    go_enter Tryd.func17, Tryd.ntmps17
    go_wp2_with (go_at_call 11; refine (HR.out _).mono ?_; rintro e w1 ⟨rfl, hb1⟩; obtain ⟨hq1, hy1⟩ := box4 hb1; obtain ⟨hl1, c10, c11, c12, c13, f1⟩ := hy1)
    all_goals go_ret
    all_goals exact ⟨ret_bo E.out.symm, hq1⟩
set_option maxHeartbeats 2000000 in
theorem lright_any (B : Int) (N : ByteArray) (D : Int) (M : ByteArray) (w : World) (hM : M.size ≤ 60) :
    Calls Tryd.prog 17 #[.agg #[.int .i64 B, .string N, .int .i64 D, .string M]] w fun e w' => e = .returned (.bool (allB B N D M)) ∧ Below w.heap.size w w' := by
  by_cases h7 : B = 7
  · subst h7; exact lright_7 N D M w hM
  · by_cases h8 : B = 8
    · subst h8; exact lright_8 N D M w hM
    · have HR := Lib.hid (fun w => refR_any B N D M w hM)
      have E : Hid (allB B N D M = rightB B N D M) := Lib.hid (by unfold allB litB nullB noneB; simp [h7, h8])
      cases hr : rightB B N D M
      · rw [hr] at HR E
        clear hr
        go_enter Tryd.func17, Tryd.ntmps17
        go_wp2_with (go_at_call 11; refine (HR.out _).mono ?_; rintro e w1 ⟨rfl, hb1⟩; obtain ⟨hq1, hy1⟩ := box4 hb1; obtain ⟨hl1, c10, c11, c12, c13, f1⟩ := hy1)
        all_goals go_ret
        all_goals exact ⟨ret_bo E.out.symm, hq1⟩
      · rw [hr] at HR E
        clear hr
        go_enter Tryd.func17, Tryd.ntmps17
        go_wp2_with (go_at_call 11; refine (HR.out _).mono ?_; rintro e w1 ⟨rfl, hb1⟩; obtain ⟨hq1, hy1⟩ := box4 hb1; obtain ⟨hl1, c10, c11, c12, c13, f1⟩ := hy1)
        all_goals go_ret
        all_goals exact ⟨ret_bo E.out.symm, hq1⟩
end Go.Proofs.YtdkpmpkoelckoaaDoor
