/- Contracts of tree's Stat and Value; the walk of the law on kinds (written by gen_kinds.py). -/
import Derived.Test.YtljojfeiehkpeaaDoorTrKinds
namespace Go.Proofs.YtljojfeiehkpeaaDoor
open Go Go.RowKit
set_option linter.unusedVariables false
set_option linter.unusedSimpArgs false

theorem stat_a (k : Int) (q8 : decide (8 ≤ k) = false) (q18 : decide (k ≤ 18) = true) (q19 : decide (19 ≤ k) = false) (q45 : decide (k ≤ 45) = true) (w : World) : Calls Tryd.prog 14 #[.int .i64 k] w fun e w' => e = .returned (.bool false) ∧ w' = w := by
  go_enter Tryd.func14, Tryd.ntmps14
  go_wp2_with fail
  go_ret
  exact ⟨rfl, rfl⟩
theorem value_a (k : Int) (q8 : decide (8 ≤ k) = false) (q18 : decide (k ≤ 18) = true) (q19 : decide (19 ≤ k) = false) (q45 : decide (k ≤ 45) = true) (w : World) : Calls Tryd.prog 15 #[.int .i64 k] w fun e w' => e = .returned (.bool false) ∧ w' = w := by
  go_enter Tryd.func15, Tryd.ntmps15
  go_wp2_with fail
  go_ret
  exact ⟨rfl, rfl⟩
set_option maxRecDepth 100000 in
set_option maxHeartbeats 2000000 in
theorem kinds_a (k : Int) (q8 : decide (8 ≤ k) = false) (q18 : decide (k ≤ 18) = true) (q19 : decide (19 ≤ k) = false) (q45 : decide (k ≤ 45) = true) (w : World) (hT : Tabs w) : Calls Tryd.prog 4 #[.int .i64 k] w fun e w' => e = .returned (.bool true) ∧ Below w.heap.size w w' := by
  have HT := Lib.hid hT
  have HS := Lib.hid (fun w => stat_a k q8 q18 q19 q45 w)
  have HV := Lib.hid (fun w => value_a k q8 q18 q19 q45 w)
  clear hT
  go_enter Tryd.func4, Tryd.ntmps4
  go_wp2_with fail
  refine (grows_any w HT.out).mono ?_
  rintro e w1 ⟨rfl, h1⟩
  have B1 := Lib.hid h1
  clear h1
  go_wp2_with fail
  refine (name_any k w1 (HT.out.step B1.out).sh).mono ?_
  rintro e w2 ⟨rfl, h2⟩
  have B2 := Lib.hid (after B1.out h2)
  clear h2
  go_wp2_with fail
  refine (rname_any k w2).mono ?_
  rintro e w3 ⟨rfl, h3⟩
  have B3 := Lib.hid (after B2.out h3)
  clear h3
  generalize nmS k = X at *
  go_wp2_with fail
  refine (HS.out _).mono ?_
  rintro e w4 ⟨rfl, rfl⟩
  go_wp2_with fail
  refine (HV.out _).mono ?_
  rintro e w5 ⟨rfl, rfl⟩
  go_wp2_with fail
  go_ret
  exact ⟨rfl, B3.out⟩

theorem stat_b (k : Int) (q8 : decide (8 ≤ k) = true) (q18 : decide (k ≤ 18) = true) (q19 : decide (19 ≤ k) = false) (q45 : decide (k ≤ 45) = true) (w : World) : Calls Tryd.prog 14 #[.int .i64 k] w fun e w' => e = .returned (.bool true) ∧ w' = w := by
  go_enter Tryd.func14, Tryd.ntmps14
  go_wp2_with fail
  go_ret
  exact ⟨rfl, rfl⟩
theorem value_b (k : Int) (q8 : decide (8 ≤ k) = true) (q18 : decide (k ≤ 18) = true) (q19 : decide (19 ≤ k) = false) (q45 : decide (k ≤ 45) = true) (w : World) : Calls Tryd.prog 15 #[.int .i64 k] w fun e w' => e = .returned (.bool false) ∧ w' = w := by
  go_enter Tryd.func15, Tryd.ntmps15
  go_wp2_with fail
  go_ret
  exact ⟨rfl, rfl⟩
set_option maxRecDepth 100000 in
set_option maxHeartbeats 2000000 in
theorem kinds_b (k : Int) (q8 : decide (8 ≤ k) = true) (q18 : decide (k ≤ 18) = true) (q19 : decide (19 ≤ k) = false) (q45 : decide (k ≤ 45) = true) (w : World) (hT : Tabs w) : Calls Tryd.prog 4 #[.int .i64 k] w fun e w' => e = .returned (.bool true) ∧ Below w.heap.size w w' := by
  have HT := Lib.hid hT
  have HS := Lib.hid (fun w => stat_b k q8 q18 q19 q45 w)
  have HV := Lib.hid (fun w => value_b k q8 q18 q19 q45 w)
  clear hT
  go_enter Tryd.func4, Tryd.ntmps4
  go_wp2_with fail
  refine (grows_any w HT.out).mono ?_
  rintro e w1 ⟨rfl, h1⟩
  have B1 := Lib.hid h1
  clear h1
  go_wp2_with fail
  refine (name_any k w1 (HT.out.step B1.out).sh).mono ?_
  rintro e w2 ⟨rfl, h2⟩
  have B2 := Lib.hid (after B1.out h2)
  clear h2
  go_wp2_with fail
  refine (rname_any k w2).mono ?_
  rintro e w3 ⟨rfl, h3⟩
  have B3 := Lib.hid (after B2.out h3)
  clear h3
  generalize nmS k = X at *
  go_wp2_with fail
  refine (HS.out _).mono ?_
  rintro e w4 ⟨rfl, rfl⟩
  go_wp2_with fail
  refine (HV.out _).mono ?_
  rintro e w5 ⟨rfl, rfl⟩
  go_wp2_with fail
  go_ret
  exact ⟨rfl, B3.out⟩

theorem stat_c (k : Int) (q8 : decide (8 ≤ k) = true) (q18 : decide (k ≤ 18) = false) (q19 : decide (19 ≤ k) = true) (q45 : decide (k ≤ 45) = true) (w : World) : Calls Tryd.prog 14 #[.int .i64 k] w fun e w' => e = .returned (.bool false) ∧ w' = w := by
  go_enter Tryd.func14, Tryd.ntmps14
  go_wp2_with fail
  go_ret
  exact ⟨rfl, rfl⟩
theorem value_c (k : Int) (q8 : decide (8 ≤ k) = true) (q18 : decide (k ≤ 18) = false) (q19 : decide (19 ≤ k) = true) (q45 : decide (k ≤ 45) = true) (w : World) : Calls Tryd.prog 15 #[.int .i64 k] w fun e w' => e = .returned (.bool true) ∧ w' = w := by
  go_enter Tryd.func15, Tryd.ntmps15
  go_wp2_with fail
  go_ret
  exact ⟨rfl, rfl⟩
set_option maxRecDepth 100000 in
set_option maxHeartbeats 2000000 in
theorem kinds_c (k : Int) (q8 : decide (8 ≤ k) = true) (q18 : decide (k ≤ 18) = false) (q19 : decide (19 ≤ k) = true) (q45 : decide (k ≤ 45) = true) (w : World) (hT : Tabs w) : Calls Tryd.prog 4 #[.int .i64 k] w fun e w' => e = .returned (.bool true) ∧ Below w.heap.size w w' := by
  have HT := Lib.hid hT
  have HS := Lib.hid (fun w => stat_c k q8 q18 q19 q45 w)
  have HV := Lib.hid (fun w => value_c k q8 q18 q19 q45 w)
  clear hT
  go_enter Tryd.func4, Tryd.ntmps4
  go_wp2_with fail
  refine (grows_any w HT.out).mono ?_
  rintro e w1 ⟨rfl, h1⟩
  have B1 := Lib.hid h1
  clear h1
  go_wp2_with fail
  refine (name_any k w1 (HT.out.step B1.out).sh).mono ?_
  rintro e w2 ⟨rfl, h2⟩
  have B2 := Lib.hid (after B1.out h2)
  clear h2
  go_wp2_with fail
  refine (rname_any k w2).mono ?_
  rintro e w3 ⟨rfl, h3⟩
  have B3 := Lib.hid (after B2.out h3)
  clear h3
  generalize nmS k = X at *
  go_wp2_with fail
  refine (HS.out _).mono ?_
  rintro e w4 ⟨rfl, rfl⟩
  go_wp2_with fail
  refine (HV.out _).mono ?_
  rintro e w5 ⟨rfl, rfl⟩
  go_wp2_with fail
  go_ret
  exact ⟨rfl, B3.out⟩

theorem stat_d (k : Int) (q8 : decide (8 ≤ k) = true) (q18 : decide (k ≤ 18) = false) (q19 : decide (19 ≤ k) = true) (q45 : decide (k ≤ 45) = false) (w : World) : Calls Tryd.prog 14 #[.int .i64 k] w fun e w' => e = .returned (.bool false) ∧ w' = w := by
  go_enter Tryd.func14, Tryd.ntmps14
  go_wp2_with fail
  go_ret
  exact ⟨rfl, rfl⟩
theorem value_d (k : Int) (q8 : decide (8 ≤ k) = true) (q18 : decide (k ≤ 18) = false) (q19 : decide (19 ≤ k) = true) (q45 : decide (k ≤ 45) = false) (w : World) : Calls Tryd.prog 15 #[.int .i64 k] w fun e w' => e = .returned (.bool false) ∧ w' = w := by
  go_enter Tryd.func15, Tryd.ntmps15
  go_wp2_with fail
  go_ret
  exact ⟨rfl, rfl⟩
set_option maxRecDepth 100000 in
set_option maxHeartbeats 2000000 in
theorem kinds_d (k : Int) (q8 : decide (8 ≤ k) = true) (q18 : decide (k ≤ 18) = false) (q19 : decide (19 ≤ k) = true) (q45 : decide (k ≤ 45) = false) (w : World) (hT : Tabs w) : Calls Tryd.prog 4 #[.int .i64 k] w fun e w' => e = .returned (.bool true) ∧ Below w.heap.size w w' := by
  have HT := Lib.hid hT
  have HS := Lib.hid (fun w => stat_d k q8 q18 q19 q45 w)
  have HV := Lib.hid (fun w => value_d k q8 q18 q19 q45 w)
  clear hT
  go_enter Tryd.func4, Tryd.ntmps4
  go_wp2_with fail
  refine (grows_any w HT.out).mono ?_
  rintro e w1 ⟨rfl, h1⟩
  have B1 := Lib.hid h1
  clear h1
  go_wp2_with fail
  refine (name_any k w1 (HT.out.step B1.out).sh).mono ?_
  rintro e w2 ⟨rfl, h2⟩
  have B2 := Lib.hid (after B1.out h2)
  clear h2
  go_wp2_with fail
  refine (rname_any k w2).mono ?_
  rintro e w3 ⟨rfl, h3⟩
  have B3 := Lib.hid (after B2.out h3)
  clear h3
  generalize nmS k = X at *
  go_wp2_with fail
  refine (HS.out _).mono ?_
  rintro e w4 ⟨rfl, rfl⟩
  go_wp2_with fail
  refine (HV.out _).mono ?_
  rintro e w5 ⟨rfl, rfl⟩
  go_wp2_with fail
  go_ret
  exact ⟨rfl, B3.out⟩

theorem kinds_any (k : Int) (w : World) (hT : Tabs w) : Calls Tryd.prog 4 #[.int .i64 k] w fun e w' => e = .returned (.bool true) ∧ Below w.heap.size w w' := by
  by_cases h8 : 8 ≤ k
  · by_cases h18 : k ≤ 18
    · exact kinds_b k (decide_eq_true h8) (decide_eq_true h18) (decide_eq_false (by omega)) (decide_eq_true (by omega)) w hT
    · by_cases h45 : k ≤ 45
      · exact kinds_c k (decide_eq_true h8) (decide_eq_false h18) (decide_eq_true (by omega)) (decide_eq_true h45) w hT
      · exact kinds_d k (decide_eq_true h8) (decide_eq_false h18) (decide_eq_true (by omega)) (decide_eq_false h45) w hT
  · exact kinds_a k (decide_eq_false h8) (decide_eq_true (by omega)) (decide_eq_false (by omega)) (decide_eq_true (by omega)) w hT
end Go.Proofs.YtljojfeiehkpeaaDoor
