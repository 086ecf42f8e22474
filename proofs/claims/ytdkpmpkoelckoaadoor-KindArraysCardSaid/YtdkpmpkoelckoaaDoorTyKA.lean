/- KindArrays: the walks. Written by gen_ka.py. -/
import Derived.Test.YtdkpmpkoelckoaaDoorTyKF
namespace Go.Proofs.YtdkpmpkoelckoaaDoor
open Go Go.RowKit
set_option linter.unusedVariables false
set_option linter.unusedSimpArgs false

set_option maxHeartbeats 4000000 in
theorem ka_big (B : Int) (N : ByteArray) (D : Int) (M : ByteArray) (w : World) (sN : N.size ≤ maxLen) (sM : M.size ≤ maxLen) (hs : sm (B, N, D, M) = false) :
    Calls Tryd.prog 7 #[.agg #[.int .i64 B, .string N, .int .i64 D, .string M]] w fun e w' => e = .returned (.bool true) ∧ Below w.heap.size w w' := by
  go_enter Tryd.func7, Tryd.ntmps7
  go_wp2_with fail
  refine (sorts_any _).mono ?_
  rintro e w1 ⟨rfl, hb⟩
  have hB2 := Boxes.keep ((Boxes.new (Boxes.start w) B N D M 24)) hb
  clear hb
  have hB := Lib.hid hB2
  obtain ⟨l0_0, c0_0, c0_1, c0_2, c0_3, f0_0⟩ := Boxes.get (p := w.heap.size) (B := B) (N := N) (D := D) (M := M) hB2 (by simp)
  clear hB2
  go_wp2_with fail
  refine (small1 _ _ _ _ _ _ sN sM false hs).mono ?_
  rintro e w2 ⟨rfl, hb⟩
  have hB2 := Boxes.keep (hB.out) hb
  clear hb hB l0_0 c0_0 c0_1 c0_2 c0_3 f0_0
  have hB := Lib.hid hB2
  obtain ⟨l0_0, c0_0, c0_1, c0_2, c0_3, f0_0⟩ := Boxes.get (p := w.heap.size) (B := B) (N := N) (D := D) (M := M) hB2 (by simp)
  clear hB2
  go_wp2_with fail
  all_goals go_ret
  all_goals exact ⟨rfl, by have hz := hB.out.bel; repeat (first | exact Below.refl _ _ | apply Below.setCell _ (by first | omega | (simp <;> omega)) | apply Below.alloc _ (by first | omega | (simp <;> omega)) | exact hz | refine after ?_ hz)⟩
set_option maxHeartbeats 4000000 in
theorem ka_none (B : Int) (N : ByteArray) (D : Int) (M : ByteArray) (w : World) (sN : N.size ≤ 60) (sM : M.size ≤ 60) (ha : allB B N D M = false) :
    Calls Tryd.prog 7 #[.agg #[.int .i64 B, .string N, .int .i64 D, .string M]] w fun e w' => e = .returned (.bool true) ∧ Below w.heap.size w w' := by
  have hr : rightB B N D M = false := by unfold allB at ha; simp only [Bool.or_eq_false_iff] at ha; exact ha.2
  have HA := Lib.hid (fun w => array_no B N D M w sN sM hr)
  have HE := Lib.hid (fun w => elem_no B N D M w sN sM (by unfold arrB; rw [ha]; rfl))
  have HR := Lib.hid (fun w => lright_any B N D M w sM)
  rw [ha] at HR
  clear ha hr
  go_enter Tryd.func7, Tryd.ntmps7
  go_wp2_with fail
  refine (sorts_any _).mono ?_
  rintro e w1 ⟨rfl, hb⟩
  have hB2 := Boxes.keep ((Boxes.new (Boxes.start w) B N D M 24)) hb
  clear hb
  have hB := Lib.hid hB2
  obtain ⟨l0_0, c0_0, c0_1, c0_2, c0_3, f0_0⟩ := Boxes.get (p := w.heap.size) (B := B) (N := N) (D := D) (M := M) hB2 (by simp)
  clear hB2
  go_wp2_with fail
  refine (small1 _ _ _ _ _ _ (by unfold maxLen; omega) (by unfold maxLen; omega) true (by unfold sm; simp; omega)).mono ?_
  rintro e w2 ⟨rfl, hb⟩
  have hB2 := Boxes.keep (hB.out) hb
  clear hb hB l0_0 c0_0 c0_1 c0_2 c0_3 f0_0
  have hB := Lib.hid hB2
  obtain ⟨l0_0, c0_0, c0_1, c0_2, c0_3, f0_0⟩ := Boxes.get (p := w.heap.size) (B := B) (N := N) (D := D) (M := M) hB2 (by simp)
  clear hB2
  go_wp2_with fail
  refine (HA.out _).mono ?_
  rintro e w3 ⟨rfl, hb⟩
  have hB2 := Boxes.keep (hB.out) hb
  clear hb hB l0_0 c0_0 c0_1 c0_2 c0_3 f0_0
  have hB := Lib.hid hB2
  obtain ⟨l0_0, c0_0, c0_1, c0_2, c0_3, f0_0⟩ := Boxes.get (p := w.heap.size) (B := B) (N := N) (D := D) (M := M) hB2 (by simp)
  clear hB2
  go_wp2_with fail
  refine (HE.out _).mono ?_
  rintro e w4 ⟨rfl, hb⟩
  have hB2 := Boxes.keep (Boxes.new (hB.out) 0 (⟨#[]⟩) 0 (⟨#[]⟩) 24) hb
  clear hb hB l0_0 c0_0 c0_1 c0_2 c0_3 f0_0
  have hB := Lib.hid hB2
  obtain ⟨l0_0, c0_0, c0_1, c0_2, c0_3, f0_0⟩ := Boxes.get (p := w3.heap.size) (B := 0) (N := ⟨#[]⟩) (D := 0) (M := ⟨#[]⟩) hB2 (by simp)
  obtain ⟨l1_0, c1_0, c1_1, c1_2, c1_3, f1_0⟩ := Boxes.get (p := w.heap.size) (B := B) (N := N) (D := D) (M := M) hB2 (by simp)
  clear hB2
  go_wp2_with fail
  refine (HR.out _).mono ?_
  rintro e w5 ⟨rfl, hb⟩
  have hB2 := Boxes.keep (Boxes.new (hB.out) 0 (⟨#[]⟩) 0 (⟨#[]⟩) 24) hb
  clear hb hB l0_0 c0_0 c0_1 c0_2 c0_3 f0_0 l1_0 c1_0 c1_1 c1_2 c1_3 f1_0
  have hB := Lib.hid hB2
  obtain ⟨l0_0, c0_0, c0_1, c0_2, c0_3, f0_0⟩ := Boxes.get (p := w4.heap.size) (B := 0) (N := ⟨#[]⟩) (D := 0) (M := ⟨#[]⟩) hB2 (by simp)
  obtain ⟨l1_0, c1_0, c1_1, c1_2, c1_3, f1_0⟩ := Boxes.get (p := w3.heap.size) (B := 0) (N := ⟨#[]⟩) (D := 0) (M := ⟨#[]⟩) hB2 (by simp)
  obtain ⟨l2_0, c2_0, c2_1, c2_2, c2_3, f2_0⟩ := Boxes.get (p := w.heap.size) (B := B) (N := N) (D := D) (M := M) hB2 (by simp)
  clear hB2
  go_wp2_with fail
  all_goals go_ret
  all_goals exact ⟨rfl, by have hz := hB.out.bel; repeat (first | exact Below.refl _ _ | apply Below.setCell _ (by first | omega | (simp <;> omega)) | apply Below.alloc _ (by first | omega | (simp <;> omega)) | exact hz | refine after ?_ hz)⟩
set_option maxHeartbeats 4000000 in
theorem ka_lit (B : Int) (N : ByteArray) (D : Int) (M : ByteArray) (w : World) (sN : N.size ≤ 60) (sM : M.size ≤ 60) (ha : allB B N D M = true) (hr : rightB B N D M = false) :
    Calls Tryd.prog 7 #[.agg #[.int .i64 B, .string N, .int .i64 D, .string M]] w fun e w' => e = .returned (.bool true) ∧ Below w.heap.size w w' := by
  have h0 : D = 0 := by
    unfold allB litB nullB noneB at ha
    rw [hr, Bool.or_false] at ha
    simp only [Bool.or_eq_true, decide_eq_true_iff] at ha
    omega
  have HA := Lib.hid (fun w => array_no B N D M w sN sM hr)
  have HE := Lib.hid (fun w => elem_no B N D M w sN sM (by unfold arrB; rw [h0]; simp))
  have HR := Lib.hid (fun w => lright_any B N D M w sM)
  rw [ha] at HR
  have HP := Lib.hid (fun w => plain_any B N D M w sM)
  rw [hr] at HP
  clear ha hr h0
  go_enter Tryd.func7, Tryd.ntmps7
  go_wp2_with fail
  refine (sorts_any _).mono ?_
  rintro e w1 ⟨rfl, hb⟩
  have hB2 := Boxes.keep ((Boxes.new (Boxes.start w) B N D M 24)) hb
  clear hb
  have hB := Lib.hid hB2
  obtain ⟨l0_0, c0_0, c0_1, c0_2, c0_3, f0_0⟩ := Boxes.get (p := w.heap.size) (B := B) (N := N) (D := D) (M := M) hB2 (by simp)
  clear hB2
  go_wp2_with fail
  refine (small1 _ _ _ _ _ _ (by unfold maxLen; omega) (by unfold maxLen; omega) true (by unfold sm; simp; omega)).mono ?_
  rintro e w2 ⟨rfl, hb⟩
  have hB2 := Boxes.keep (hB.out) hb
  clear hb hB l0_0 c0_0 c0_1 c0_2 c0_3 f0_0
  have hB := Lib.hid hB2
  obtain ⟨l0_0, c0_0, c0_1, c0_2, c0_3, f0_0⟩ := Boxes.get (p := w.heap.size) (B := B) (N := N) (D := D) (M := M) hB2 (by simp)
  clear hB2
  go_wp2_with fail
  refine (HA.out _).mono ?_
  rintro e w3 ⟨rfl, hb⟩
  have hB2 := Boxes.keep (hB.out) hb
  clear hb hB l0_0 c0_0 c0_1 c0_2 c0_3 f0_0
  have hB := Lib.hid hB2
  obtain ⟨l0_0, c0_0, c0_1, c0_2, c0_3, f0_0⟩ := Boxes.get (p := w.heap.size) (B := B) (N := N) (D := D) (M := M) hB2 (by simp)
  clear hB2
  go_wp2_with fail
  refine (HE.out _).mono ?_
  rintro e w4 ⟨rfl, hb⟩
  have hB2 := Boxes.keep (Boxes.new (hB.out) 0 (⟨#[]⟩) 0 (⟨#[]⟩) 24) hb
  clear hb hB l0_0 c0_0 c0_1 c0_2 c0_3 f0_0
  have hB := Lib.hid hB2
  obtain ⟨l0_0, c0_0, c0_1, c0_2, c0_3, f0_0⟩ := Boxes.get (p := w3.heap.size) (B := 0) (N := ⟨#[]⟩) (D := 0) (M := ⟨#[]⟩) hB2 (by simp)
  obtain ⟨l1_0, c1_0, c1_1, c1_2, c1_3, f1_0⟩ := Boxes.get (p := w.heap.size) (B := B) (N := N) (D := D) (M := M) hB2 (by simp)
  clear hB2
  go_wp2_with fail
  refine (HR.out _).mono ?_
  rintro e w5 ⟨rfl, hb⟩
  have hB2 := Boxes.keep (Boxes.new (hB.out) 0 (⟨#[]⟩) 0 (⟨#[]⟩) 24) hb
  clear hb hB l0_0 c0_0 c0_1 c0_2 c0_3 f0_0 l1_0 c1_0 c1_1 c1_2 c1_3 f1_0
  have hB := Lib.hid hB2
  obtain ⟨l0_0, c0_0, c0_1, c0_2, c0_3, f0_0⟩ := Boxes.get (p := w4.heap.size) (B := 0) (N := ⟨#[]⟩) (D := 0) (M := ⟨#[]⟩) hB2 (by simp)
  obtain ⟨l1_0, c1_0, c1_1, c1_2, c1_3, f1_0⟩ := Boxes.get (p := w3.heap.size) (B := 0) (N := ⟨#[]⟩) (D := 0) (M := ⟨#[]⟩) hB2 (by simp)
  obtain ⟨l2_0, c2_0, c2_1, c2_2, c2_3, f2_0⟩ := Boxes.get (p := w.heap.size) (B := B) (N := N) (D := D) (M := M) hB2 (by simp)
  clear hB2
  go_wp2_with fail
  refine (HP.out _).mono ?_
  rintro e w6 ⟨rfl, hb⟩
  have hB2 := Boxes.keep (hB.out) hb
  clear hb hB l0_0 c0_0 c0_1 c0_2 c0_3 f0_0 l1_0 c1_0 c1_1 c1_2 c1_3 f1_0 l2_0 c2_0 c2_1 c2_2 c2_3 f2_0
  have hB := Lib.hid hB2
  obtain ⟨l0_0, c0_0, c0_1, c0_2, c0_3, f0_0⟩ := Boxes.get (p := w4.heap.size) (B := 0) (N := ⟨#[]⟩) (D := 0) (M := ⟨#[]⟩) hB2 (by simp)
  obtain ⟨l1_0, c1_0, c1_1, c1_2, c1_3, f1_0⟩ := Boxes.get (p := w3.heap.size) (B := 0) (N := ⟨#[]⟩) (D := 0) (M := ⟨#[]⟩) hB2 (by simp)
  obtain ⟨l2_0, c2_0, c2_1, c2_2, c2_3, f2_0⟩ := Boxes.get (p := w.heap.size) (B := B) (N := N) (D := D) (M := M) hB2 (by simp)
  clear hB2
  go_wp2_with fail
  refine (HP.out _).mono ?_
  rintro e w7 ⟨rfl, hb⟩
  have hB2 := Boxes.keep (hB.out) hb
  clear hb hB l0_0 c0_0 c0_1 c0_2 c0_3 f0_0 l1_0 c1_0 c1_1 c1_2 c1_3 f1_0 l2_0 c2_0 c2_1 c2_2 c2_3 f2_0
  have hB := Lib.hid hB2
  obtain ⟨l0_0, c0_0, c0_1, c0_2, c0_3, f0_0⟩ := Boxes.get (p := w4.heap.size) (B := 0) (N := ⟨#[]⟩) (D := 0) (M := ⟨#[]⟩) hB2 (by simp)
  obtain ⟨l1_0, c1_0, c1_1, c1_2, c1_3, f1_0⟩ := Boxes.get (p := w3.heap.size) (B := 0) (N := ⟨#[]⟩) (D := 0) (M := ⟨#[]⟩) hB2 (by simp)
  obtain ⟨l2_0, c2_0, c2_1, c2_2, c2_3, f2_0⟩ := Boxes.get (p := w.heap.size) (B := B) (N := N) (D := D) (M := M) hB2 (by simp)
  clear hB2
  go_wp2_with fail
  all_goals go_ret
  all_goals exact ⟨rfl, by have hz := hB.out.bel; repeat (first | exact Below.refl _ _ | apply Below.setCell _ (by first | omega | (simp <;> omega)) | apply Below.alloc _ (by first | omega | (simp <;> omega)) | exact hz | refine after ?_ hz)⟩
set_option maxHeartbeats 4000000 in
theorem ka_void (N : ByteArray) (M : ByteArray) (w : World) (sN : N.size ≤ 60) (sM : M.size ≤ 60) (hr : rightB 6 N 0 M = true) :
    Calls Tryd.prog 7 #[.agg #[.int .i64 6, .string N, .int .i64 0, .string M]] w fun e w' => e = .returned (.bool true) ∧ Below w.heap.size w w' := by
  have hz : M.size ≤ 59 := by obtain ⟨d, -, h4, hm⟩ := right_bounds hr; omega
  have ha : allB 6 N 0 M = true := by unfold allB; rw [hr]; simp
  have HA := Lib.hid (fun w => array_no2 N 0 M w sN hz hr)
  have HE := Lib.hid (fun w => elem_no 6 N 0 M w sN sM (by unfold arrB; simp))
  have HR := Lib.hid (fun w => lright_any 6 N 0 M w sM)
  rw [ha] at HR
  have HP := Lib.hid (fun w => plain_any 6 N 0 M w sM)
  rw [hr] at HP
  clear ha hr hz
  go_enter Tryd.func7, Tryd.ntmps7
  go_wp2_with fail
  refine (sorts_any _).mono ?_
  rintro e w1 ⟨rfl, hb⟩
  have hB2 := Boxes.keep ((Boxes.new (Boxes.start w) 6 N 0 M 24)) hb
  clear hb
  have hB := Lib.hid hB2
  obtain ⟨l0_0, c0_0, c0_1, c0_2, c0_3, f0_0⟩ := Boxes.get (p := w.heap.size) (B := 6) (N := N) (D := 0) (M := M) hB2 (by simp)
  clear hB2
  go_wp2_with fail
  refine (small1 _ _ _ _ _ _ (by unfold maxLen; omega) (by unfold maxLen; omega) true (by unfold sm; simp; omega)).mono ?_
  rintro e w2 ⟨rfl, hb⟩
  have hB2 := Boxes.keep (hB.out) hb
  clear hb hB l0_0 c0_0 c0_1 c0_2 c0_3 f0_0
  have hB := Lib.hid hB2
  obtain ⟨l0_0, c0_0, c0_1, c0_2, c0_3, f0_0⟩ := Boxes.get (p := w.heap.size) (B := 6) (N := N) (D := 0) (M := M) hB2 (by simp)
  clear hB2
  go_wp2_with fail
  refine (HA.out _).mono ?_
  rintro e w3 ⟨rfl, hb⟩
  have hB2 := Boxes.keep (hB.out) hb
  clear hb hB l0_0 c0_0 c0_1 c0_2 c0_3 f0_0
  have hB := Lib.hid hB2
  obtain ⟨l0_0, c0_0, c0_1, c0_2, c0_3, f0_0⟩ := Boxes.get (p := w.heap.size) (B := 6) (N := N) (D := 0) (M := M) hB2 (by simp)
  clear hB2
  go_wp2_with fail
  refine (HE.out _).mono ?_
  rintro e w4 ⟨rfl, hb⟩
  have hB2 := Boxes.keep (Boxes.new (hB.out) 0 (⟨#[]⟩) 0 (⟨#[]⟩) 24) hb
  clear hb hB l0_0 c0_0 c0_1 c0_2 c0_3 f0_0
  have hB := Lib.hid hB2
  obtain ⟨l0_0, c0_0, c0_1, c0_2, c0_3, f0_0⟩ := Boxes.get (p := w3.heap.size) (B := 0) (N := ⟨#[]⟩) (D := 0) (M := ⟨#[]⟩) hB2 (by simp)
  obtain ⟨l1_0, c1_0, c1_1, c1_2, c1_3, f1_0⟩ := Boxes.get (p := w.heap.size) (B := 6) (N := N) (D := 0) (M := M) hB2 (by simp)
  clear hB2
  go_wp2_with fail
  refine (HR.out _).mono ?_
  rintro e w5 ⟨rfl, hb⟩
  have hB2 := Boxes.keep (Boxes.new (hB.out) 0 (⟨#[]⟩) 0 (⟨#[]⟩) 24) hb
  clear hb hB l0_0 c0_0 c0_1 c0_2 c0_3 f0_0 l1_0 c1_0 c1_1 c1_2 c1_3 f1_0
  have hB := Lib.hid hB2
  obtain ⟨l0_0, c0_0, c0_1, c0_2, c0_3, f0_0⟩ := Boxes.get (p := w4.heap.size) (B := 0) (N := ⟨#[]⟩) (D := 0) (M := ⟨#[]⟩) hB2 (by simp)
  obtain ⟨l1_0, c1_0, c1_1, c1_2, c1_3, f1_0⟩ := Boxes.get (p := w3.heap.size) (B := 0) (N := ⟨#[]⟩) (D := 0) (M := ⟨#[]⟩) hB2 (by simp)
  obtain ⟨l2_0, c2_0, c2_1, c2_2, c2_3, f2_0⟩ := Boxes.get (p := w.heap.size) (B := 6) (N := N) (D := 0) (M := M) hB2 (by simp)
  clear hB2
  go_wp2_with fail
  refine (HP.out _).mono ?_
  rintro e w6 ⟨rfl, hb⟩
  have hB2 := Boxes.keep (hB.out) hb
  clear hb hB l0_0 c0_0 c0_1 c0_2 c0_3 f0_0 l1_0 c1_0 c1_1 c1_2 c1_3 f1_0 l2_0 c2_0 c2_1 c2_2 c2_3 f2_0
  have hB := Lib.hid hB2
  obtain ⟨l0_0, c0_0, c0_1, c0_2, c0_3, f0_0⟩ := Boxes.get (p := w4.heap.size) (B := 0) (N := ⟨#[]⟩) (D := 0) (M := ⟨#[]⟩) hB2 (by simp)
  obtain ⟨l1_0, c1_0, c1_1, c1_2, c1_3, f1_0⟩ := Boxes.get (p := w3.heap.size) (B := 0) (N := ⟨#[]⟩) (D := 0) (M := ⟨#[]⟩) hB2 (by simp)
  obtain ⟨l2_0, c2_0, c2_1, c2_2, c2_3, f2_0⟩ := Boxes.get (p := w.heap.size) (B := 6) (N := N) (D := 0) (M := M) hB2 (by simp)
  clear hB2
  go_wp2_with fail
  refine (HP.out _).mono ?_
  rintro e w7 ⟨rfl, hb⟩
  have hB2 := Boxes.keep (hB.out) hb
  clear hb hB l0_0 c0_0 c0_1 c0_2 c0_3 f0_0 l1_0 c1_0 c1_1 c1_2 c1_3 f1_0 l2_0 c2_0 c2_1 c2_2 c2_3 f2_0
  have hB := Lib.hid hB2
  obtain ⟨l0_0, c0_0, c0_1, c0_2, c0_3, f0_0⟩ := Boxes.get (p := w4.heap.size) (B := 0) (N := ⟨#[]⟩) (D := 0) (M := ⟨#[]⟩) hB2 (by simp)
  obtain ⟨l1_0, c1_0, c1_1, c1_2, c1_3, f1_0⟩ := Boxes.get (p := w3.heap.size) (B := 0) (N := ⟨#[]⟩) (D := 0) (M := ⟨#[]⟩) hB2 (by simp)
  obtain ⟨l2_0, c2_0, c2_1, c2_2, c2_3, f2_0⟩ := Boxes.get (p := w.heap.size) (B := 6) (N := N) (D := 0) (M := M) hB2 (by simp)
  clear hB2
  go_wp2_with fail
  all_goals go_ret
  all_goals exact ⟨rfl, by have hz := hB.out.bel; repeat (first | exact Below.refl _ _ | apply Below.setCell _ (by first | omega | (simp <;> omega)) | apply Below.alloc _ (by first | omega | (simp <;> omega)) | exact hz | refine after ?_ hz)⟩
set_option maxHeartbeats 4000000 in
theorem ka_opt0 (B : Int) (N : ByteArray) (M : ByteArray) (w : World) (sN : N.size ≤ 60) (sM : M.size ≤ 60) (hr : rightB B N 0 M = true) (h6 : ¬ B = 6) (ho : byS M 0 = 111) :
    Calls Tryd.prog 7 #[.agg #[.int .i64 B, .string N, .int .i64 0, .string M]] w fun e w' => e = .returned (.bool true) ∧ Below w.heap.size w w' := by
  have hz : M.size ≤ 59 := by obtain ⟨d, -, h4, hm⟩ := right_bounds hr; omega
  have ha : allB B N 0 M = true := by unfold allB; rw [hr]; simp
  have hl : 0 < M.size := by obtain ⟨d, hd, h4, hm⟩ := right_bounds hr; omega
  have hg := byS_get M 0 hl
  have HE := Lib.hid (fun w => elem_no B N 0 M w sN sM (by unfold arrB; simp))
  have HR := Lib.hid (fun w => lright_any B N 0 M w sM)
  rw [ha] at HR
  have HP := Lib.hid (fun w => plain_any B N 0 M w sM)
  rw [hr] at HP
  have q6 : (B == 6) = false := by simpa using h6
  have HA := Lib.hid (fun w => array_no3 B N 0 M w sN hz hr h6 (by rw [out_right hr]; exact ho))
  rw [hg] at ho
  have q7 : ((M[0].toNat : Int) == 111) = true := by simp; omega
  clear ha hr hz h6 ho hg
  go_enter Tryd.func7, Tryd.ntmps7
  go_wp2_with fail
  refine (sorts_any _).mono ?_
  rintro e w1 ⟨rfl, hb⟩
  have hB2 := Boxes.keep ((Boxes.new (Boxes.start w) B N 0 M 24)) hb
  clear hb
  have hB := Lib.hid hB2
  obtain ⟨l0_0, c0_0, c0_1, c0_2, c0_3, f0_0⟩ := Boxes.get (p := w.heap.size) (B := B) (N := N) (D := 0) (M := M) hB2 (by simp)
  clear hB2
  go_wp2_with fail
  refine (small1 _ _ _ _ _ _ (by unfold maxLen; omega) (by unfold maxLen; omega) true (by unfold sm; simp; omega)).mono ?_
  rintro e w2 ⟨rfl, hb⟩
  have hB2 := Boxes.keep (hB.out) hb
  clear hb hB l0_0 c0_0 c0_1 c0_2 c0_3 f0_0
  have hB := Lib.hid hB2
  obtain ⟨l0_0, c0_0, c0_1, c0_2, c0_3, f0_0⟩ := Boxes.get (p := w.heap.size) (B := B) (N := N) (D := 0) (M := M) hB2 (by simp)
  clear hB2
  go_wp2_with fail
  refine (HA.out _).mono ?_
  rintro e w3 ⟨rfl, hb⟩
  have hB2 := Boxes.keep (hB.out) hb
  clear hb hB l0_0 c0_0 c0_1 c0_2 c0_3 f0_0
  have hB := Lib.hid hB2
  obtain ⟨l0_0, c0_0, c0_1, c0_2, c0_3, f0_0⟩ := Boxes.get (p := w.heap.size) (B := B) (N := N) (D := 0) (M := M) hB2 (by simp)
  clear hB2
  go_wp2_with fail
  refine (HE.out _).mono ?_
  rintro e w4 ⟨rfl, hb⟩
  have hB2 := Boxes.keep (Boxes.new (hB.out) 0 (⟨#[]⟩) 0 (⟨#[]⟩) 24) hb
  clear hb hB l0_0 c0_0 c0_1 c0_2 c0_3 f0_0
  have hB := Lib.hid hB2
  obtain ⟨l0_0, c0_0, c0_1, c0_2, c0_3, f0_0⟩ := Boxes.get (p := w3.heap.size) (B := 0) (N := ⟨#[]⟩) (D := 0) (M := ⟨#[]⟩) hB2 (by simp)
  obtain ⟨l1_0, c1_0, c1_1, c1_2, c1_3, f1_0⟩ := Boxes.get (p := w.heap.size) (B := B) (N := N) (D := 0) (M := M) hB2 (by simp)
  clear hB2
  go_wp2_with fail
  refine (HR.out _).mono ?_
  rintro e w5 ⟨rfl, hb⟩
  have hB2 := Boxes.keep (Boxes.new (hB.out) 0 (⟨#[]⟩) 0 (⟨#[]⟩) 24) hb
  clear hb hB l0_0 c0_0 c0_1 c0_2 c0_3 f0_0 l1_0 c1_0 c1_1 c1_2 c1_3 f1_0
  have hB := Lib.hid hB2
  obtain ⟨l0_0, c0_0, c0_1, c0_2, c0_3, f0_0⟩ := Boxes.get (p := w4.heap.size) (B := 0) (N := ⟨#[]⟩) (D := 0) (M := ⟨#[]⟩) hB2 (by simp)
  obtain ⟨l1_0, c1_0, c1_1, c1_2, c1_3, f1_0⟩ := Boxes.get (p := w3.heap.size) (B := 0) (N := ⟨#[]⟩) (D := 0) (M := ⟨#[]⟩) hB2 (by simp)
  obtain ⟨l2_0, c2_0, c2_1, c2_2, c2_3, f2_0⟩ := Boxes.get (p := w.heap.size) (B := B) (N := N) (D := 0) (M := M) hB2 (by simp)
  clear hB2
  go_wp2_with fail
  refine (HP.out _).mono ?_
  rintro e w6 ⟨rfl, hb⟩
  have hB2 := Boxes.keep (hB.out) hb
  clear hb hB l0_0 c0_0 c0_1 c0_2 c0_3 f0_0 l1_0 c1_0 c1_1 c1_2 c1_3 f1_0 l2_0 c2_0 c2_1 c2_2 c2_3 f2_0
  have hB := Lib.hid hB2
  obtain ⟨l0_0, c0_0, c0_1, c0_2, c0_3, f0_0⟩ := Boxes.get (p := w4.heap.size) (B := 0) (N := ⟨#[]⟩) (D := 0) (M := ⟨#[]⟩) hB2 (by simp)
  obtain ⟨l1_0, c1_0, c1_1, c1_2, c1_3, f1_0⟩ := Boxes.get (p := w3.heap.size) (B := 0) (N := ⟨#[]⟩) (D := 0) (M := ⟨#[]⟩) hB2 (by simp)
  obtain ⟨l2_0, c2_0, c2_1, c2_2, c2_3, f2_0⟩ := Boxes.get (p := w.heap.size) (B := B) (N := N) (D := 0) (M := M) hB2 (by simp)
  clear hB2
  go_wp2_with fail
  refine (HP.out _).mono ?_
  rintro e w7 ⟨rfl, hb⟩
  have hB2 := Boxes.keep (hB.out) hb
  clear hb hB l0_0 c0_0 c0_1 c0_2 c0_3 f0_0 l1_0 c1_0 c1_1 c1_2 c1_3 f1_0 l2_0 c2_0 c2_1 c2_2 c2_3 f2_0
  have hB := Lib.hid hB2
  obtain ⟨l0_0, c0_0, c0_1, c0_2, c0_3, f0_0⟩ := Boxes.get (p := w4.heap.size) (B := 0) (N := ⟨#[]⟩) (D := 0) (M := ⟨#[]⟩) hB2 (by simp)
  obtain ⟨l1_0, c1_0, c1_1, c1_2, c1_3, f1_0⟩ := Boxes.get (p := w3.heap.size) (B := 0) (N := ⟨#[]⟩) (D := 0) (M := ⟨#[]⟩) hB2 (by simp)
  obtain ⟨l2_0, c2_0, c2_1, c2_2, c2_3, f2_0⟩ := Boxes.get (p := w.heap.size) (B := B) (N := N) (D := 0) (M := M) hB2 (by simp)
  clear hB2
  go_wp2_with fail
  all_goals go_ret
  all_goals exact ⟨rfl, by have hz := hB.out.bel; repeat (first | exact Below.refl _ _ | apply Below.setCell _ (by first | omega | (simp <;> omega)) | apply Below.alloc _ (by first | omega | (simp <;> omega)) | exact hz | refine after ?_ hz)⟩
set_option maxHeartbeats 4000000 in
theorem ka_yes0 (B : Int) (N : ByteArray) (M : ByteArray) (w : World) (sN : N.size ≤ 60) (sM : M.size ≤ 60) (hr : rightB B N 0 M = true) (h6 : ¬ B = 6) (ho : byS M 0 ≠ 111) :
    Calls Tryd.prog 7 #[.agg #[.int .i64 B, .string N, .int .i64 0, .string M]] w fun e w' => e = .returned (.bool true) ∧ Below w.heap.size w w' := by
  have hz : M.size ≤ 59 := by obtain ⟨d, -, h4, hm⟩ := right_bounds hr; omega
  have ha : allB B N 0 M = true := by unfold allB; rw [hr]; simp
  have hl : 0 < M.size := by obtain ⟨d, hd, h4, hm⟩ := right_bounds hr; omega
  have hg := byS_get M 0 hl
  have HE := Lib.hid (fun w => elem_no B N 0 M w sN sM (by unfold arrB; simp))
  have HR := Lib.hid (fun w => lright_any B N 0 M w sM)
  rw [ha] at HR
  have HP := Lib.hid (fun w => plain_any B N 0 M w sM)
  rw [hr] at HP
  have q6 : (B == 6) = false := by simpa using h6
  have hm1 : M.size = 1 := by obtain ⟨d, hd, h4, hm⟩ := right_bounds hr; omega
  have HA : Hid (∀ w, Calls Tryd.prog 30 #[.agg #[.int .i64 B, .string N, .int .i64 0, .string M]] w fun e w' => e = .returned (.tuple #[.agg #[.int .i64 B, .string N, .int .i64 1, .string (M ++ ⟨#[32]⟩)], .int .i64 0]) ∧ Below w.heap.size w w') := Lib.hid (fun w => by
    have h := array_in B N 0 M w sN hz hr h6 (by show outS B N 0 M ≠ 111; rw [out_right hr]; exact ho)
    rw [arrayV_yes (d := 0) hr h6 ho (by omega)] at h
    exact h)
  have HE2 : Hid (∀ w, Calls Tryd.prog 31 #[.agg #[.int .i64 B, .string N, .int .i64 1, .string (M ++ ⟨#[32]⟩)]] w fun e w' => e = .returned (.tuple #[.agg #[.int .i64 B, .string N, .int .i64 0, .string M], .int .i64 0]) ∧ Below w.heap.size w w') := Lib.hid (fun w => by
    have hx : allB B N (((0 : Nat) : Int) + 1) (M ++ ⟨#[32]⟩) = true := by unfold allB; rw [array_right (d := 0) hr h6 ho (by omega)]; simp
    have h := elem_yes B N 0 (M ++ ⟨#[32]⟩) w sN (by rw [snoc_size]; omega) hx
    rw [snoc_back M (0 + 1) hm1] at h
    exact h)
  have HO : Hid (∀ w, Calls Tryd.prog 19 #[.agg #[.int .i64 B, .string N, .int .i64 1, .string (M ++ ⟨#[32]⟩)]] w fun e w' => e = .returned (.int .u8 32) ∧ Below w.heap.size w w') := Lib.hid (fun w => by
    have h := outer_any B N (((0 : Nat) : Int) + 1) (M ++ ⟨#[32]⟩) w sN (by rw [snoc_size]; omega)
    rw [array_out (d := 0) hr h6 ho (by omega)] at h
    exact h)
  rw [hg] at ho
  have q7 : ((M[0].toNat : Int) == 111) = false := by simp; omega
  clear ha hr hz h6 ho hg hm1
  go_enter Tryd.func7, Tryd.ntmps7
  go_wp2_with fail
  refine (sorts_any _).mono ?_
  rintro e w1 ⟨rfl, hb⟩
  have hB2 := Boxes.keep ((Boxes.new (Boxes.start w) B N 0 M 24)) hb
  clear hb
  have hB := Lib.hid hB2
  obtain ⟨l0_0, c0_0, c0_1, c0_2, c0_3, f0_0⟩ := Boxes.get (p := w.heap.size) (B := B) (N := N) (D := 0) (M := M) hB2 (by simp)
  clear hB2
  go_wp2_with fail
  refine (small1 _ _ _ _ _ _ (by unfold maxLen; omega) (by unfold maxLen; omega) true (by unfold sm; simp; omega)).mono ?_
  rintro e w2 ⟨rfl, hb⟩
  have hB2 := Boxes.keep (hB.out) hb
  clear hb hB l0_0 c0_0 c0_1 c0_2 c0_3 f0_0
  have hB := Lib.hid hB2
  obtain ⟨l0_0, c0_0, c0_1, c0_2, c0_3, f0_0⟩ := Boxes.get (p := w.heap.size) (B := B) (N := N) (D := 0) (M := M) hB2 (by simp)
  clear hB2
  go_wp2_with fail
  refine (HA.out _).mono ?_
  rintro e w3 ⟨rfl, hb⟩
  have hB2 := Boxes.keep (hB.out) hb
  clear hb hB l0_0 c0_0 c0_1 c0_2 c0_3 f0_0
  have hB := Lib.hid hB2
  obtain ⟨l0_0, c0_0, c0_1, c0_2, c0_3, f0_0⟩ := Boxes.get (p := w.heap.size) (B := B) (N := N) (D := 0) (M := M) hB2 (by simp)
  clear hB2
  go_wp2_with fail
  refine (HE.out _).mono ?_
  rintro e w4 ⟨rfl, hb⟩
  have hB2 := Boxes.keep (Boxes.new (hB.out) B N 1 (M ++ ⟨#[32]⟩) 24) hb
  clear hb hB l0_0 c0_0 c0_1 c0_2 c0_3 f0_0
  have hB := Lib.hid hB2
  obtain ⟨l0_0, c0_0, c0_1, c0_2, c0_3, f0_0⟩ := Boxes.get (p := w3.heap.size) (B := B) (N := N) (D := 1) (M := M ++ ⟨#[32]⟩) hB2 (by simp)
  obtain ⟨l1_0, c1_0, c1_1, c1_2, c1_3, f1_0⟩ := Boxes.get (p := w.heap.size) (B := B) (N := N) (D := 0) (M := M) hB2 (by simp)
  clear hB2
  go_wp2_with fail
  refine (HR.out _).mono ?_
  rintro e w5 ⟨rfl, hb⟩
  have hB2 := Boxes.keep (Boxes.new (hB.out) 0 (⟨#[]⟩) 0 (⟨#[]⟩) 24) hb
  clear hb hB l0_0 c0_0 c0_1 c0_2 c0_3 f0_0 l1_0 c1_0 c1_1 c1_2 c1_3 f1_0
  have hB := Lib.hid hB2
  obtain ⟨l0_0, c0_0, c0_1, c0_2, c0_3, f0_0⟩ := Boxes.get (p := w4.heap.size) (B := 0) (N := ⟨#[]⟩) (D := 0) (M := ⟨#[]⟩) hB2 (by simp)
  obtain ⟨l1_0, c1_0, c1_1, c1_2, c1_3, f1_0⟩ := Boxes.get (p := w3.heap.size) (B := B) (N := N) (D := 1) (M := M ++ ⟨#[32]⟩) hB2 (by simp)
  obtain ⟨l2_0, c2_0, c2_1, c2_2, c2_3, f2_0⟩ := Boxes.get (p := w.heap.size) (B := B) (N := N) (D := 0) (M := M) hB2 (by simp)
  clear hB2
  go_wp2_with fail
  refine (HP.out _).mono ?_
  rintro e w6 ⟨rfl, hb⟩
  have hB2 := Boxes.keep (hB.out) hb
  clear hb hB l0_0 c0_0 c0_1 c0_2 c0_3 f0_0 l1_0 c1_0 c1_1 c1_2 c1_3 f1_0 l2_0 c2_0 c2_1 c2_2 c2_3 f2_0
  have hB := Lib.hid hB2
  obtain ⟨l0_0, c0_0, c0_1, c0_2, c0_3, f0_0⟩ := Boxes.get (p := w4.heap.size) (B := 0) (N := ⟨#[]⟩) (D := 0) (M := ⟨#[]⟩) hB2 (by simp)
  obtain ⟨l1_0, c1_0, c1_1, c1_2, c1_3, f1_0⟩ := Boxes.get (p := w3.heap.size) (B := B) (N := N) (D := 1) (M := M ++ ⟨#[32]⟩) hB2 (by simp)
  obtain ⟨l2_0, c2_0, c2_1, c2_2, c2_3, f2_0⟩ := Boxes.get (p := w.heap.size) (B := B) (N := N) (D := 0) (M := M) hB2 (by simp)
  clear hB2
  go_wp2_with fail
  refine (HE2.out _).mono ?_
  rintro e w7 ⟨rfl, hb⟩
  have hB2 := Boxes.keep (hB.out) hb
  clear hb hB l0_0 c0_0 c0_1 c0_2 c0_3 f0_0 l1_0 c1_0 c1_1 c1_2 c1_3 f1_0 l2_0 c2_0 c2_1 c2_2 c2_3 f2_0
  have hB := Lib.hid hB2
  obtain ⟨l0_0, c0_0, c0_1, c0_2, c0_3, f0_0⟩ := Boxes.get (p := w4.heap.size) (B := 0) (N := ⟨#[]⟩) (D := 0) (M := ⟨#[]⟩) hB2 (by simp)
  obtain ⟨l1_0, c1_0, c1_1, c1_2, c1_3, f1_0⟩ := Boxes.get (p := w3.heap.size) (B := B) (N := N) (D := 1) (M := M ++ ⟨#[32]⟩) hB2 (by simp)
  obtain ⟨l2_0, c2_0, c2_1, c2_2, c2_3, f2_0⟩ := Boxes.get (p := w.heap.size) (B := B) (N := N) (D := 0) (M := M) hB2 (by simp)
  clear hB2
  go_wp2_with fail
  refine (HO.out _).mono ?_
  rintro e w8 ⟨rfl, hb⟩
  have hB2 := Boxes.keep (Boxes.new (hB.out) B N 0 M 24) hb
  clear hb hB l0_0 c0_0 c0_1 c0_2 c0_3 f0_0 l1_0 c1_0 c1_1 c1_2 c1_3 f1_0 l2_0 c2_0 c2_1 c2_2 c2_3 f2_0
  have hB := Lib.hid hB2
  obtain ⟨l0_0, c0_0, c0_1, c0_2, c0_3, f0_0⟩ := Boxes.get (p := w7.heap.size) (B := B) (N := N) (D := 0) (M := M) hB2 (by simp)
  obtain ⟨l1_0, c1_0, c1_1, c1_2, c1_3, f1_0⟩ := Boxes.get (p := w4.heap.size) (B := 0) (N := ⟨#[]⟩) (D := 0) (M := ⟨#[]⟩) hB2 (by simp)
  obtain ⟨l2_0, c2_0, c2_1, c2_2, c2_3, f2_0⟩ := Boxes.get (p := w3.heap.size) (B := B) (N := N) (D := 1) (M := M ++ ⟨#[32]⟩) hB2 (by simp)
  obtain ⟨l3_0, c3_0, c3_1, c3_2, c3_3, f3_0⟩ := Boxes.get (p := w.heap.size) (B := B) (N := N) (D := 0) (M := M) hB2 (by simp)
  clear hB2
  go_wp2_with fail
  refine (HP.out _).mono ?_
  rintro e w9 ⟨rfl, hb⟩
  have hB2 := Boxes.keep (hB.out) hb
  clear hb hB l0_0 c0_0 c0_1 c0_2 c0_3 f0_0 l1_0 c1_0 c1_1 c1_2 c1_3 f1_0 l2_0 c2_0 c2_1 c2_2 c2_3 f2_0 l3_0 c3_0 c3_1 c3_2 c3_3 f3_0
  have hB := Lib.hid hB2
  obtain ⟨l0_0, c0_0, c0_1, c0_2, c0_3, f0_0⟩ := Boxes.get (p := w7.heap.size) (B := B) (N := N) (D := 0) (M := M) hB2 (by simp)
  obtain ⟨l1_0, c1_0, c1_1, c1_2, c1_3, f1_0⟩ := Boxes.get (p := w4.heap.size) (B := 0) (N := ⟨#[]⟩) (D := 0) (M := ⟨#[]⟩) hB2 (by simp)
  obtain ⟨l2_0, c2_0, c2_1, c2_2, c2_3, f2_0⟩ := Boxes.get (p := w3.heap.size) (B := B) (N := N) (D := 1) (M := M ++ ⟨#[32]⟩) hB2 (by simp)
  obtain ⟨l3_0, c3_0, c3_1, c3_2, c3_3, f3_0⟩ := Boxes.get (p := w.heap.size) (B := B) (N := N) (D := 0) (M := M) hB2 (by simp)
  clear hB2
  go_wp2_with fail
  all_goals go_ret
  all_goals exact ⟨rfl, by have hz := hB.out.bel; repeat (first | exact Below.refl _ _ | apply Below.setCell _ (by first | omega | (simp <;> omega)) | apply Below.alloc _ (by first | omega | (simp <;> omega)) | exact hz | refine after ?_ hz)⟩
set_option maxHeartbeats 4000000 in
theorem ka_optD (B : Int) (N : ByteArray) (d : Nat) (M : ByteArray) (w : World) (sN : N.size ≤ 60) (sM : M.size ≤ 60) (hr : rightB B N ((d : Int) + 1) M = true) (ho : byS M (d + 1) = 111) :
    Calls Tryd.prog 7 #[.agg #[.int .i64 B, .string N, .int .i64 ((d : Int) + 1), .string M]] w fun e w' => e = .returned (.bool true) ∧ Below w.heap.size w w' := by
  have hm : M.size = d + 2 ∧ d + 1 ≤ 4 := by obtain ⟨d2, hd, h4, hm⟩ := right_bounds hr; omega
  have hz : M.size ≤ 59 := by omega
  have ha : allB B N ((d : Int) + 1) M = true := by unfold allB; rw [hr]; simp
  have hl : d + 1 < M.size := by omega
  have hl2 : d + 1 ≤ M.size := by omega
  have hg := byS_get M (d + 1) hl
  have h6 : ¬ B = 6 := fun h => by unfold rightB at hr; simp only [Bool.and_eq_true, decide_eq_true_iff] at hr; omega
  have HE := Lib.hid (fun w => elem_yes B N d M w sN sM ha)
  have HR := Lib.hid (fun w => lright_any B N ((d : Int) + 1) M w sM)
  rw [ha] at HR
  have HP := Lib.hid (fun w => plain_any B N ((d : Int) + 1) M w sM)
  rw [hr] at HP
  have q0 : ((d : Int) + 1 == 0) = false := by simp; omega
  have q2 : IntKind.i64.wrap ((d : Int) + 1 - 1) = (d : Int) := by rw [show (d : Int) + 1 - 1 = (d : Int) by omega]; exact IntWalk.i64_in _ ⟨by omega, by omega⟩
  have q6 : (B == 6) = false := by simpa using h6
  have HA := Lib.hid (fun w => array_no3 B N ((d : Int) + 1) M w sN hz hr h6 (by rw [out_right hr, show ((d : Int) + 1).toNat = d + 1 by omega]; exact ho))
  rw [hg] at ho
  have q7 : ((M[d + 1].toNat : Int) == 111) = true := by simp; omega
  clear ha hr hz h6 ho hg hm
  go_enter Tryd.func7, Tryd.ntmps7
  go_wp2_with fail
  refine (sorts_any _).mono ?_
  rintro e w1 ⟨rfl, hb⟩
  have hB2 := Boxes.keep ((Boxes.new (Boxes.start w) B N ((d : Int) + 1) M 24)) hb
  clear hb
  have hB := Lib.hid hB2
  obtain ⟨l0_0, c0_0, c0_1, c0_2, c0_3, f0_0⟩ := Boxes.get (p := w.heap.size) (B := B) (N := N) (D := (d : Int) + 1) (M := M) hB2 (by simp)
  clear hB2
  go_wp2_with fail
  refine (small1 _ _ _ _ _ _ (by unfold maxLen; omega) (by unfold maxLen; omega) true (by unfold sm; simp; omega)).mono ?_
  rintro e w2 ⟨rfl, hb⟩
  have hB2 := Boxes.keep (hB.out) hb
  clear hb hB l0_0 c0_0 c0_1 c0_2 c0_3 f0_0
  have hB := Lib.hid hB2
  obtain ⟨l0_0, c0_0, c0_1, c0_2, c0_3, f0_0⟩ := Boxes.get (p := w.heap.size) (B := B) (N := N) (D := (d : Int) + 1) (M := M) hB2 (by simp)
  clear hB2
  go_wp2_with fail
  refine (HA.out _).mono ?_
  rintro e w3 ⟨rfl, hb⟩
  have hB2 := Boxes.keep (hB.out) hb
  clear hb hB l0_0 c0_0 c0_1 c0_2 c0_3 f0_0
  have hB := Lib.hid hB2
  obtain ⟨l0_0, c0_0, c0_1, c0_2, c0_3, f0_0⟩ := Boxes.get (p := w.heap.size) (B := B) (N := N) (D := (d : Int) + 1) (M := M) hB2 (by simp)
  clear hB2
  go_wp2_with fail
  refine (HE.out _).mono ?_
  rintro e w4 ⟨rfl, hb⟩
  have hB2 := Boxes.keep (Boxes.new (hB.out) 0 (⟨#[]⟩) 0 (⟨#[]⟩) 24) hb
  clear hb hB l0_0 c0_0 c0_1 c0_2 c0_3 f0_0
  have hB := Lib.hid hB2
  obtain ⟨l0_0, c0_0, c0_1, c0_2, c0_3, f0_0⟩ := Boxes.get (p := w3.heap.size) (B := 0) (N := ⟨#[]⟩) (D := 0) (M := ⟨#[]⟩) hB2 (by simp)
  obtain ⟨l1_0, c1_0, c1_1, c1_2, c1_3, f1_0⟩ := Boxes.get (p := w.heap.size) (B := B) (N := N) (D := (d : Int) + 1) (M := M) hB2 (by simp)
  clear hB2
  go_wp2_with fail
  refine (HR.out _).mono ?_
  rintro e w5 ⟨rfl, hb⟩
  have hB2 := Boxes.keep (Boxes.new (hB.out) B N ((d : Int)) (M.extract 0 (d + 1)) 24) hb
  clear hb hB l0_0 c0_0 c0_1 c0_2 c0_3 f0_0 l1_0 c1_0 c1_1 c1_2 c1_3 f1_0
  have hB := Lib.hid hB2
  obtain ⟨l0_0, c0_0, c0_1, c0_2, c0_3, f0_0⟩ := Boxes.get (p := w4.heap.size) (B := B) (N := N) (D := (d : Int)) (M := M.extract 0 (d + 1)) hB2 (by simp)
  obtain ⟨l1_0, c1_0, c1_1, c1_2, c1_3, f1_0⟩ := Boxes.get (p := w3.heap.size) (B := 0) (N := ⟨#[]⟩) (D := 0) (M := ⟨#[]⟩) hB2 (by simp)
  obtain ⟨l2_0, c2_0, c2_1, c2_2, c2_3, f2_0⟩ := Boxes.get (p := w.heap.size) (B := B) (N := N) (D := (d : Int) + 1) (M := M) hB2 (by simp)
  clear hB2
  go_wp2_with fail
  refine (HP.out _).mono ?_
  rintro e w6 ⟨rfl, hb⟩
  have hB2 := Boxes.keep (hB.out) hb
  clear hb hB l0_0 c0_0 c0_1 c0_2 c0_3 f0_0 l1_0 c1_0 c1_1 c1_2 c1_3 f1_0 l2_0 c2_0 c2_1 c2_2 c2_3 f2_0
  have hB := Lib.hid hB2
  obtain ⟨l0_0, c0_0, c0_1, c0_2, c0_3, f0_0⟩ := Boxes.get (p := w4.heap.size) (B := B) (N := N) (D := (d : Int)) (M := M.extract 0 (d + 1)) hB2 (by simp)
  obtain ⟨l1_0, c1_0, c1_1, c1_2, c1_3, f1_0⟩ := Boxes.get (p := w3.heap.size) (B := 0) (N := ⟨#[]⟩) (D := 0) (M := ⟨#[]⟩) hB2 (by simp)
  obtain ⟨l2_0, c2_0, c2_1, c2_2, c2_3, f2_0⟩ := Boxes.get (p := w.heap.size) (B := B) (N := N) (D := (d : Int) + 1) (M := M) hB2 (by simp)
  clear hB2
  go_wp2_with fail
  refine (HP.out _).mono ?_
  rintro e w7 ⟨rfl, hb⟩
  have hB2 := Boxes.keep (hB.out) hb
  clear hb hB l0_0 c0_0 c0_1 c0_2 c0_3 f0_0 l1_0 c1_0 c1_1 c1_2 c1_3 f1_0 l2_0 c2_0 c2_1 c2_2 c2_3 f2_0
  have hB := Lib.hid hB2
  obtain ⟨l0_0, c0_0, c0_1, c0_2, c0_3, f0_0⟩ := Boxes.get (p := w4.heap.size) (B := B) (N := N) (D := (d : Int)) (M := M.extract 0 (d + 1)) hB2 (by simp)
  obtain ⟨l1_0, c1_0, c1_1, c1_2, c1_3, f1_0⟩ := Boxes.get (p := w3.heap.size) (B := 0) (N := ⟨#[]⟩) (D := 0) (M := ⟨#[]⟩) hB2 (by simp)
  obtain ⟨l2_0, c2_0, c2_1, c2_2, c2_3, f2_0⟩ := Boxes.get (p := w.heap.size) (B := B) (N := N) (D := (d : Int) + 1) (M := M) hB2 (by simp)
  clear hB2
  go_wp2_with fail
  all_goals go_ret
  all_goals exact ⟨rfl, by have hz := hB.out.bel; repeat (first | exact Below.refl _ _ | apply Below.setCell _ (by first | omega | (simp <;> omega)) | apply Below.alloc _ (by first | omega | (simp <;> omega)) | exact hz | refine after ?_ hz)⟩
set_option maxHeartbeats 4000000 in
theorem ka_four (B : Int) (N : ByteArray) (M : ByteArray) (w : World) (sN : N.size ≤ 60) (sM : M.size ≤ 60) (hr : rightB B N 4 M = true) (ho : byS M 4 ≠ 111) :
    Calls Tryd.prog 7 #[.agg #[.int .i64 B, .string N, .int .i64 4, .string M]] w fun e w' => e = .returned (.bool true) ∧ Below w.heap.size w w' := by
  have hm : M.size = 5 := by obtain ⟨d2, hd, h4, hm⟩ := right_bounds hr; omega
  have hz : M.size ≤ 59 := by omega
  have ha : allB B N 4 M = true := by unfold allB; rw [hr]; simp
  have hl : 4 < M.size := by omega
  have hl2 : 4 ≤ M.size := by omega
  have hg := byS_get M 4 hl
  have h6 : ¬ B = 6 := fun h => by unfold rightB at hr; simp only [Bool.and_eq_true, decide_eq_true_iff] at hr; omega
  have HE : Hid (∀ w, Calls Tryd.prog 31 #[.agg #[.int .i64 B, .string N, .int .i64 4, .string M]] w fun e w' => e = .returned (.tuple #[.agg #[.int .i64 B, .string N, .int .i64 3, .string (M.extract 0 4)], .int .i64 0]) ∧ Below w.heap.size w w') := Lib.hid (fun w => by
    exact elem_yes B N 3 M w sN sM ha)
  have HR := Lib.hid (fun w => lright_any B N 4 M w sM)
  rw [ha] at HR
  have HP := Lib.hid (fun w => plain_any B N 4 M w sM)
  rw [hr] at HP
  have q6 : (B == 6) = false := by simpa using h6
  have HA : Hid (∀ w, Calls Tryd.prog 30 #[.agg #[.int .i64 B, .string N, .int .i64 4, .string M]] w fun e w' => e = .returned (.tuple #[.agg #[.int .i64 0, .string (⟨#[]⟩), .int .i64 0, .string (⟨#[]⟩)], .int .i64 2]) ∧ Below w.heap.size w w') := Lib.hid (fun w => by
    have h := array_in B N 4 M w sN hz hr h6 (by show outS B N 4 M ≠ 111; rw [out_right hr]; exact ho)
    rw [arrayV_long] at h
    exact h)
  rw [hg] at ho
  have q7 : ((M[4].toNat : Int) == 111) = false := by simp; omega
  clear ha hr hz h6 ho hg hm
  go_enter Tryd.func7, Tryd.ntmps7
  go_wp2_with fail
  refine (sorts_any _).mono ?_
  rintro e w1 ⟨rfl, hb⟩
  have hB2 := Boxes.keep ((Boxes.new (Boxes.start w) B N 4 M 24)) hb
  clear hb
  have hB := Lib.hid hB2
  obtain ⟨l0_0, c0_0, c0_1, c0_2, c0_3, f0_0⟩ := Boxes.get (p := w.heap.size) (B := B) (N := N) (D := 4) (M := M) hB2 (by simp)
  clear hB2
  go_wp2_with fail
  refine (small1 _ _ _ _ _ _ (by unfold maxLen; omega) (by unfold maxLen; omega) true (by unfold sm; simp; omega)).mono ?_
  rintro e w2 ⟨rfl, hb⟩
  have hB2 := Boxes.keep (hB.out) hb
  clear hb hB l0_0 c0_0 c0_1 c0_2 c0_3 f0_0
  have hB := Lib.hid hB2
  obtain ⟨l0_0, c0_0, c0_1, c0_2, c0_3, f0_0⟩ := Boxes.get (p := w.heap.size) (B := B) (N := N) (D := 4) (M := M) hB2 (by simp)
  clear hB2
  go_wp2_with fail
  refine (HA.out _).mono ?_
  rintro e w3 ⟨rfl, hb⟩
  have hB2 := Boxes.keep (hB.out) hb
  clear hb hB l0_0 c0_0 c0_1 c0_2 c0_3 f0_0
  have hB := Lib.hid hB2
  obtain ⟨l0_0, c0_0, c0_1, c0_2, c0_3, f0_0⟩ := Boxes.get (p := w.heap.size) (B := B) (N := N) (D := 4) (M := M) hB2 (by simp)
  clear hB2
  go_wp2_with fail
  refine (HE.out _).mono ?_
  rintro e w4 ⟨rfl, hb⟩
  have hB2 := Boxes.keep (Boxes.new (hB.out) 0 (⟨#[]⟩) 0 (⟨#[]⟩) 24) hb
  clear hb hB l0_0 c0_0 c0_1 c0_2 c0_3 f0_0
  have hB := Lib.hid hB2
  obtain ⟨l0_0, c0_0, c0_1, c0_2, c0_3, f0_0⟩ := Boxes.get (p := w3.heap.size) (B := 0) (N := ⟨#[]⟩) (D := 0) (M := ⟨#[]⟩) hB2 (by simp)
  obtain ⟨l1_0, c1_0, c1_1, c1_2, c1_3, f1_0⟩ := Boxes.get (p := w.heap.size) (B := B) (N := N) (D := 4) (M := M) hB2 (by simp)
  clear hB2
  go_wp2_with fail
  refine (HR.out _).mono ?_
  rintro e w5 ⟨rfl, hb⟩
  have hB2 := Boxes.keep (Boxes.new (hB.out) B N 3 (M.extract 0 4) 24) hb
  clear hb hB l0_0 c0_0 c0_1 c0_2 c0_3 f0_0 l1_0 c1_0 c1_1 c1_2 c1_3 f1_0
  have hB := Lib.hid hB2
  obtain ⟨l0_0, c0_0, c0_1, c0_2, c0_3, f0_0⟩ := Boxes.get (p := w4.heap.size) (B := B) (N := N) (D := 3) (M := M.extract 0 4) hB2 (by simp)
  obtain ⟨l1_0, c1_0, c1_1, c1_2, c1_3, f1_0⟩ := Boxes.get (p := w3.heap.size) (B := 0) (N := ⟨#[]⟩) (D := 0) (M := ⟨#[]⟩) hB2 (by simp)
  obtain ⟨l2_0, c2_0, c2_1, c2_2, c2_3, f2_0⟩ := Boxes.get (p := w.heap.size) (B := B) (N := N) (D := 4) (M := M) hB2 (by simp)
  clear hB2
  go_wp2_with fail
  refine (HP.out _).mono ?_
  rintro e w6 ⟨rfl, hb⟩
  have hB2 := Boxes.keep (hB.out) hb
  clear hb hB l0_0 c0_0 c0_1 c0_2 c0_3 f0_0 l1_0 c1_0 c1_1 c1_2 c1_3 f1_0 l2_0 c2_0 c2_1 c2_2 c2_3 f2_0
  have hB := Lib.hid hB2
  obtain ⟨l0_0, c0_0, c0_1, c0_2, c0_3, f0_0⟩ := Boxes.get (p := w4.heap.size) (B := B) (N := N) (D := 3) (M := M.extract 0 4) hB2 (by simp)
  obtain ⟨l1_0, c1_0, c1_1, c1_2, c1_3, f1_0⟩ := Boxes.get (p := w3.heap.size) (B := 0) (N := ⟨#[]⟩) (D := 0) (M := ⟨#[]⟩) hB2 (by simp)
  obtain ⟨l2_0, c2_0, c2_1, c2_2, c2_3, f2_0⟩ := Boxes.get (p := w.heap.size) (B := B) (N := N) (D := 4) (M := M) hB2 (by simp)
  clear hB2
  go_wp2_with fail
  refine (HP.out _).mono ?_
  rintro e w7 ⟨rfl, hb⟩
  have hB2 := Boxes.keep (hB.out) hb
  clear hb hB l0_0 c0_0 c0_1 c0_2 c0_3 f0_0 l1_0 c1_0 c1_1 c1_2 c1_3 f1_0 l2_0 c2_0 c2_1 c2_2 c2_3 f2_0
  have hB := Lib.hid hB2
  obtain ⟨l0_0, c0_0, c0_1, c0_2, c0_3, f0_0⟩ := Boxes.get (p := w4.heap.size) (B := B) (N := N) (D := 3) (M := M.extract 0 4) hB2 (by simp)
  obtain ⟨l1_0, c1_0, c1_1, c1_2, c1_3, f1_0⟩ := Boxes.get (p := w3.heap.size) (B := 0) (N := ⟨#[]⟩) (D := 0) (M := ⟨#[]⟩) hB2 (by simp)
  obtain ⟨l2_0, c2_0, c2_1, c2_2, c2_3, f2_0⟩ := Boxes.get (p := w.heap.size) (B := B) (N := N) (D := 4) (M := M) hB2 (by simp)
  clear hB2
  go_wp2_with fail
  all_goals go_ret
  all_goals exact ⟨rfl, by have hz := hB.out.bel; repeat (first | exact Below.refl _ _ | apply Below.setCell _ (by first | omega | (simp <;> omega)) | apply Below.alloc _ (by first | omega | (simp <;> omega)) | exact hz | refine after ?_ hz)⟩
set_option maxHeartbeats 4000000 in
theorem ka_yesD (B : Int) (N : ByteArray) (d : Nat) (M : ByteArray) (w : World) (sN : N.size ≤ 60) (sM : M.size ≤ 60) (hr : rightB B N ((d : Int) + 1) M = true) (hd4 : d + 1 < 4) (ho : byS M (d + 1) ≠ 111) :
    Calls Tryd.prog 7 #[.agg #[.int .i64 B, .string N, .int .i64 ((d : Int) + 1), .string M]] w fun e w' => e = .returned (.bool true) ∧ Below w.heap.size w w' := by
  have hm : M.size = d + 2 ∧ d + 1 ≤ 4 := by obtain ⟨d2, hd, h4, hm⟩ := right_bounds hr; omega
  have hz : M.size ≤ 59 := by omega
  have ha : allB B N ((d : Int) + 1) M = true := by unfold allB; rw [hr]; simp
  have hl : d + 1 < M.size := by omega
  have hl2 : d + 1 ≤ M.size := by omega
  have hg := byS_get M (d + 1) hl
  have h6 : ¬ B = 6 := fun h => by unfold rightB at hr; simp only [Bool.and_eq_true, decide_eq_true_iff] at hr; omega
  have HE := Lib.hid (fun w => elem_yes B N d M w sN sM ha)
  have HR := Lib.hid (fun w => lright_any B N ((d : Int) + 1) M w sM)
  rw [ha] at HR
  have HP := Lib.hid (fun w => plain_any B N ((d : Int) + 1) M w sM)
  rw [hr] at HP
  have q0 : ((d : Int) + 1 == 0) = false := by simp; omega
  have q2 : IntKind.i64.wrap ((d : Int) + 1 - 1) = (d : Int) := by rw [show (d : Int) + 1 - 1 = (d : Int) by omega]; exact IntWalk.i64_in _ ⟨by omega, by omega⟩
  have q6 : (B == 6) = false := by simpa using h6
  have hr2 : rightB B N ((d + 1 : Nat) : Int) M = true := by rw [show ((d + 1 : Nat) : Int) = (d : Int) + 1 by omega]; exact hr
  have q4 : ((d : Int) + 1 == 4) = false := by simp; omega
  have HA : Hid (∀ w, Calls Tryd.prog 30 #[.agg #[.int .i64 B, .string N, .int .i64 ((d : Int) + 1), .string M]] w fun e w' => e = .returned (.tuple #[.agg #[.int .i64 B, .string N, .int .i64 ((d : Int) + 1 + 1), .string (M ++ ⟨#[32]⟩)], .int .i64 0]) ∧ Below w.heap.size w w') := Lib.hid (fun w => by
    have h := array_in B N (d + 1) M w sN hz hr2 h6 (by rw [out_right hr2]; exact ho)
    rw [arrayV_yes hr2 h6 ho hd4] at h
    exact h)
  have HE2 : Hid (∀ w, Calls Tryd.prog 31 #[.agg #[.int .i64 B, .string N, .int .i64 ((d : Int) + 1 + 1), .string (M ++ ⟨#[32]⟩)]] w fun e w' => e = .returned (.tuple #[.agg #[.int .i64 B, .string N, .int .i64 ((d : Int) + 1), .string M], .int .i64 0]) ∧ Below w.heap.size w w') := Lib.hid (fun w => by
    have hx : allB B N (((d + 1 : Nat) : Int) + 1) (M ++ ⟨#[32]⟩) = true := by unfold allB; rw [array_right hr2 h6 ho hd4]; simp
    have h := elem_yes B N (d + 1) (M ++ ⟨#[32]⟩) w sN (by rw [snoc_size]; omega) hx
    rw [snoc_back M (d + 1 + 1) (by omega)] at h
    exact h)
  have HO : Hid (∀ w, Calls Tryd.prog 19 #[.agg #[.int .i64 B, .string N, .int .i64 ((d : Int) + 1 + 1), .string (M ++ ⟨#[32]⟩)]] w fun e w' => e = .returned (.int .u8 32) ∧ Below w.heap.size w w') := Lib.hid (fun w => by
    have h := outer_any B N (((d + 1 : Nat) : Int) + 1) (M ++ ⟨#[32]⟩) w sN (by rw [snoc_size]; omega)
    rw [array_out hr2 h6 ho hd4] at h
    exact h)
  rw [hg] at ho
  have q7 : ((M[d + 1].toNat : Int) == 111) = false := by simp; omega
  clear ha hr hr2 hz h6 ho hg hm
  go_enter Tryd.func7, Tryd.ntmps7
  go_wp2_with fail
  refine (sorts_any _).mono ?_
  rintro e w1 ⟨rfl, hb⟩
  have hB2 := Boxes.keep ((Boxes.new (Boxes.start w) B N ((d : Int) + 1) M 24)) hb
  clear hb
  have hB := Lib.hid hB2
  obtain ⟨l0_0, c0_0, c0_1, c0_2, c0_3, f0_0⟩ := Boxes.get (p := w.heap.size) (B := B) (N := N) (D := (d : Int) + 1) (M := M) hB2 (by simp)
  clear hB2
  go_wp2_with fail
  refine (small1 _ _ _ _ _ _ (by unfold maxLen; omega) (by unfold maxLen; omega) true (by unfold sm; simp; omega)).mono ?_
  rintro e w2 ⟨rfl, hb⟩
  have hB2 := Boxes.keep (hB.out) hb
  clear hb hB l0_0 c0_0 c0_1 c0_2 c0_3 f0_0
  have hB := Lib.hid hB2
  obtain ⟨l0_0, c0_0, c0_1, c0_2, c0_3, f0_0⟩ := Boxes.get (p := w.heap.size) (B := B) (N := N) (D := (d : Int) + 1) (M := M) hB2 (by simp)
  clear hB2
  go_wp2_with fail
  refine (HA.out _).mono ?_
  rintro e w3 ⟨rfl, hb⟩
  have hB2 := Boxes.keep (hB.out) hb
  clear hb hB l0_0 c0_0 c0_1 c0_2 c0_3 f0_0
  have hB := Lib.hid hB2
  obtain ⟨l0_0, c0_0, c0_1, c0_2, c0_3, f0_0⟩ := Boxes.get (p := w.heap.size) (B := B) (N := N) (D := (d : Int) + 1) (M := M) hB2 (by simp)
  clear hB2
  go_wp2_with fail
  refine (HE.out _).mono ?_
  rintro e w4 ⟨rfl, hb⟩
  have hB2 := Boxes.keep (Boxes.new (hB.out) B N ((d : Int) + 1 + 1) (M ++ ⟨#[32]⟩) 24) hb
  clear hb hB l0_0 c0_0 c0_1 c0_2 c0_3 f0_0
  have hB := Lib.hid hB2
  obtain ⟨l0_0, c0_0, c0_1, c0_2, c0_3, f0_0⟩ := Boxes.get (p := w3.heap.size) (B := B) (N := N) (D := (d : Int) + 1 + 1) (M := M ++ ⟨#[32]⟩) hB2 (by simp)
  obtain ⟨l1_0, c1_0, c1_1, c1_2, c1_3, f1_0⟩ := Boxes.get (p := w.heap.size) (B := B) (N := N) (D := (d : Int) + 1) (M := M) hB2 (by simp)
  clear hB2
  go_wp2_with fail
  refine (HR.out _).mono ?_
  rintro e w5 ⟨rfl, hb⟩
  have hB2 := Boxes.keep (Boxes.new (hB.out) B N ((d : Int)) (M.extract 0 (d + 1)) 24) hb
  clear hb hB l0_0 c0_0 c0_1 c0_2 c0_3 f0_0 l1_0 c1_0 c1_1 c1_2 c1_3 f1_0
  have hB := Lib.hid hB2
  obtain ⟨l0_0, c0_0, c0_1, c0_2, c0_3, f0_0⟩ := Boxes.get (p := w4.heap.size) (B := B) (N := N) (D := (d : Int)) (M := M.extract 0 (d + 1)) hB2 (by simp)
  obtain ⟨l1_0, c1_0, c1_1, c1_2, c1_3, f1_0⟩ := Boxes.get (p := w3.heap.size) (B := B) (N := N) (D := (d : Int) + 1 + 1) (M := M ++ ⟨#[32]⟩) hB2 (by simp)
  obtain ⟨l2_0, c2_0, c2_1, c2_2, c2_3, f2_0⟩ := Boxes.get (p := w.heap.size) (B := B) (N := N) (D := (d : Int) + 1) (M := M) hB2 (by simp)
  clear hB2
  go_wp2_with fail
  refine (HP.out _).mono ?_
  rintro e w6 ⟨rfl, hb⟩
  have hB2 := Boxes.keep (hB.out) hb
  clear hb hB l0_0 c0_0 c0_1 c0_2 c0_3 f0_0 l1_0 c1_0 c1_1 c1_2 c1_3 f1_0 l2_0 c2_0 c2_1 c2_2 c2_3 f2_0
  have hB := Lib.hid hB2
  obtain ⟨l0_0, c0_0, c0_1, c0_2, c0_3, f0_0⟩ := Boxes.get (p := w4.heap.size) (B := B) (N := N) (D := (d : Int)) (M := M.extract 0 (d + 1)) hB2 (by simp)
  obtain ⟨l1_0, c1_0, c1_1, c1_2, c1_3, f1_0⟩ := Boxes.get (p := w3.heap.size) (B := B) (N := N) (D := (d : Int) + 1 + 1) (M := M ++ ⟨#[32]⟩) hB2 (by simp)
  obtain ⟨l2_0, c2_0, c2_1, c2_2, c2_3, f2_0⟩ := Boxes.get (p := w.heap.size) (B := B) (N := N) (D := (d : Int) + 1) (M := M) hB2 (by simp)
  clear hB2
  go_wp2_with fail
  refine (HE2.out _).mono ?_
  rintro e w7 ⟨rfl, hb⟩
  have hB2 := Boxes.keep (hB.out) hb
  clear hb hB l0_0 c0_0 c0_1 c0_2 c0_3 f0_0 l1_0 c1_0 c1_1 c1_2 c1_3 f1_0 l2_0 c2_0 c2_1 c2_2 c2_3 f2_0
  have hB := Lib.hid hB2
  obtain ⟨l0_0, c0_0, c0_1, c0_2, c0_3, f0_0⟩ := Boxes.get (p := w4.heap.size) (B := B) (N := N) (D := (d : Int)) (M := M.extract 0 (d + 1)) hB2 (by simp)
  obtain ⟨l1_0, c1_0, c1_1, c1_2, c1_3, f1_0⟩ := Boxes.get (p := w3.heap.size) (B := B) (N := N) (D := (d : Int) + 1 + 1) (M := M ++ ⟨#[32]⟩) hB2 (by simp)
  obtain ⟨l2_0, c2_0, c2_1, c2_2, c2_3, f2_0⟩ := Boxes.get (p := w.heap.size) (B := B) (N := N) (D := (d : Int) + 1) (M := M) hB2 (by simp)
  clear hB2
  go_wp2_with fail
  refine (HO.out _).mono ?_
  rintro e w8 ⟨rfl, hb⟩
  have hB2 := Boxes.keep (Boxes.new (hB.out) B N ((d : Int) + 1) M 24) hb
  clear hb hB l0_0 c0_0 c0_1 c0_2 c0_3 f0_0 l1_0 c1_0 c1_1 c1_2 c1_3 f1_0 l2_0 c2_0 c2_1 c2_2 c2_3 f2_0
  have hB := Lib.hid hB2
  obtain ⟨l0_0, c0_0, c0_1, c0_2, c0_3, f0_0⟩ := Boxes.get (p := w7.heap.size) (B := B) (N := N) (D := (d : Int) + 1) (M := M) hB2 (by simp)
  obtain ⟨l1_0, c1_0, c1_1, c1_2, c1_3, f1_0⟩ := Boxes.get (p := w4.heap.size) (B := B) (N := N) (D := (d : Int)) (M := M.extract 0 (d + 1)) hB2 (by simp)
  obtain ⟨l2_0, c2_0, c2_1, c2_2, c2_3, f2_0⟩ := Boxes.get (p := w3.heap.size) (B := B) (N := N) (D := (d : Int) + 1 + 1) (M := M ++ ⟨#[32]⟩) hB2 (by simp)
  obtain ⟨l3_0, c3_0, c3_1, c3_2, c3_3, f3_0⟩ := Boxes.get (p := w.heap.size) (B := B) (N := N) (D := (d : Int) + 1) (M := M) hB2 (by simp)
  clear hB2
  go_wp2_with fail
  refine (HP.out _).mono ?_
  rintro e w9 ⟨rfl, hb⟩
  have hB2 := Boxes.keep (hB.out) hb
  clear hb hB l0_0 c0_0 c0_1 c0_2 c0_3 f0_0 l1_0 c1_0 c1_1 c1_2 c1_3 f1_0 l2_0 c2_0 c2_1 c2_2 c2_3 f2_0 l3_0 c3_0 c3_1 c3_2 c3_3 f3_0
  have hB := Lib.hid hB2
  obtain ⟨l0_0, c0_0, c0_1, c0_2, c0_3, f0_0⟩ := Boxes.get (p := w7.heap.size) (B := B) (N := N) (D := (d : Int) + 1) (M := M) hB2 (by simp)
  obtain ⟨l1_0, c1_0, c1_1, c1_2, c1_3, f1_0⟩ := Boxes.get (p := w4.heap.size) (B := B) (N := N) (D := (d : Int)) (M := M.extract 0 (d + 1)) hB2 (by simp)
  obtain ⟨l2_0, c2_0, c2_1, c2_2, c2_3, f2_0⟩ := Boxes.get (p := w3.heap.size) (B := B) (N := N) (D := (d : Int) + 1 + 1) (M := M ++ ⟨#[32]⟩) hB2 (by simp)
  obtain ⟨l3_0, c3_0, c3_1, c3_2, c3_3, f3_0⟩ := Boxes.get (p := w.heap.size) (B := B) (N := N) (D := (d : Int) + 1) (M := M) hB2 (by simp)
  clear hB2
  go_wp2_with fail
  all_goals go_ret
  all_goals exact ⟨rfl, by have hz := hB.out.bel; repeat (first | exact Below.refl _ _ | apply Below.setCell _ (by first | omega | (simp <;> omega)) | apply Below.alloc _ (by first | omega | (simp <;> omega)) | exact hz | refine after ?_ hz)⟩
end Go.Proofs.YtdkpmpkoelckoaaDoor
