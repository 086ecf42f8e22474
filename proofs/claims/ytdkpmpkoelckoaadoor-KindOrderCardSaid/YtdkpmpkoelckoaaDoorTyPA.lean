/- KindPairs: the walks. Written by gen_kp.py. -/
import Derived.Test.YtdkpmpkoelckoaaDoorTyKF
namespace Go.Proofs.YtdkpmpkoelckoaaDoor
open Go Go.RowKit
set_option linter.unusedVariables false
set_option linter.unusedSimpArgs false

/-- are two types the same below a layer, the last one aside? -/
def insK (M M' : ByteArray) (d k : Nat) : Bool := decide (∀ i, i < k → byS M i = byS M' i ∨ i = d)
theorem insK_next {M M' : ByteArray} {d k : Nat} : insK M M' d (k + 1) = (insK M M' d k && decide (byS M k = byS M' k ∨ k = d)) := by
  unfold insK
  rw [Bool.eq_iff_iff, Bool.and_eq_true, decide_eq_true_iff, decide_eq_true_iff, decide_eq_true_iff]
  constructor
  · intro h; exact ⟨fun i hi => h i (by omega), h k (by omega)⟩
  · rintro ⟨h1, h2⟩ i hi
    by_cases hik : i = k
    · rw [hik]; exact h2
    · exact h1 i (by omega)
theorem fewB_next {M M' : ByteArray} {k : Nat} : fewB M M' (k + 1) = (fewB M M' k && decide (byS M k = byS M' k ∨ byS M k = 32)) := by
  unfold fewB
  rw [Bool.eq_iff_iff, Bool.and_eq_true, decide_eq_true_iff, decide_eq_true_iff, decide_eq_true_iff]
  constructor
  · intro h; exact ⟨fun i hi => h i (by omega), h k (by omega)⟩
  · rintro ⟨h1, h2⟩ i hi
    by_cases hik : i = k
    · rw [hik]; exact h2
    · exact h1 i (by omega)
theorem insK_all (M M' : ByteArray) (d : Nat) (hm : M.size = d + 1) (hm' : M'.size = d + 1) : decide (M.extract 0 d = M'.extract 0 d) = insK M M' d (d + 1) := by
  unfold insK
  rw [Bool.eq_iff_iff, decide_eq_true_iff, decide_eq_true_iff]
  constructor
  · intro h i hi
    by_cases hid : i = d
    · exact .inr hid
    · left
      have e1 := byS_extract M 0 d i (by omega) (by omega)
      have e2 := byS_extract M' 0 d i (by omega) (by omega)
      rw [Nat.zero_add] at e1 e2
      rw [← e1, ← e2, h]
  · intro h
    apply ext_by
    · rw [ByteArray.size_extract, ByteArray.size_extract]; omega
    · intro k hk
      rw [ByteArray.size_extract] at hk
      have e1 := byS_extract M 0 d k (by omega) (by omega)
      have e2 := byS_extract M' 0 d k (by omega) (by omega)
      rw [Nat.zero_add] at e1 e2
      rw [e1, e2]
      have := h k (by omega)
      omega

set_option maxHeartbeats 8000000 in
theorem kp_big (B : Int) (N : ByteArray) (D : Int) (M : ByteArray) (B' : Int) (N' : ByteArray) (D' : Int) (M' : ByteArray) (w : World) (sN : N.size ≤ maxLen) (sM : M.size ≤ maxLen) (sN' : N'.size ≤ maxLen) (sM' : M'.size ≤ maxLen) (hs : (sm (B, N, D, M) && sm (B', N', D', M')) = false) :
    Calls Tryd.prog 5 #[.agg #[.int .i64 B, .string N, .int .i64 D, .string M], .agg #[.int .i64 B', .string N', .int .i64 D', .string M']] w fun e w' => e = .returned (.bool true) ∧ Below w.heap.size w w' := by
  go_enter Tryd.func5, Tryd.ntmps5
  go_wp2_with fail
  refine (sorts_any _).mono ?_
  rintro e w1 ⟨rfl, hb⟩
  have hB2 := Boxes.keep ((Boxes.new (Boxes.new (Boxes.start w) B N D M 24) (B') (N') (D') (M') 24)) hb
  simp only [World.size_alloc] at hB2
  clear hb
  have hB := Lib.hid hB2
  obtain ⟨l0_0, c0_0, c0_1, c0_2, c0_3, f0_0⟩ := Boxes.get (p := w.heap.size) (B := B) (N := N) (D := D) (M := M) hB2 (by simp)
  obtain ⟨l1_0, c1_0, c1_1, c1_2, c1_3, f1_0⟩ := Boxes.get (p := w.heap.size + 1) (B := B') (N := N') (D := D') (M := M') hB2 (by simp)
  clear hB2
  go_wp2_with fail
  refine (small2 _ _ _ _ _ _ _ _ _ _ sN sM sN' sM' false hs).mono ?_
  rintro e w2 ⟨rfl, hb⟩
  have hB2 := Boxes.keep (hB.out) hb
  clear hb hB l0_0 c0_0 c0_1 c0_2 c0_3 f0_0 l1_0 c1_0 c1_1 c1_2 c1_3 f1_0
  have hB := Lib.hid hB2
  obtain ⟨l0_0, c0_0, c0_1, c0_2, c0_3, f0_0⟩ := Boxes.get (p := w.heap.size) (B := B) (N := N) (D := D) (M := M) hB2 (by simp)
  obtain ⟨l1_0, c1_0, c1_1, c1_2, c1_3, f1_0⟩ := Boxes.get (p := w.heap.size + 1) (B := B') (N := N') (D := D') (M := M') hB2 (by simp)
  clear hB2
  go_wp2_with fail
  all_goals go_ret
  all_goals exact ⟨rfl, by have hz := hB.out.bel; repeat (first | exact Below.refl _ _ | apply Below.setCell _ (by first | omega | (simp <;> omega)) | apply Below.alloc _ (by first | omega | (simp <;> omega)) | exact hz | refine after ?_ hz)⟩
set_option maxHeartbeats 8000000 in
theorem kp_a (B : Int) (N : ByteArray) (D : Int) (M : ByteArray) (B' : Int) (N' : ByteArray) (D' : Int) (M' : ByteArray) (w : World) (sN : N.size ≤ 60) (sM : M.size ≤ 60) (sN' : N'.size ≤ 60) (sM' : M'.size ≤ 60) (ha : allB B N D M = false) :
    Calls Tryd.prog 5 #[.agg #[.int .i64 B, .string N, .int .i64 D, .string M], .agg #[.int .i64 B', .string N', .int .i64 D', .string M']] w fun e w' => e = .returned (.bool true) ∧ Below w.heap.size w w' := by
  have hal : alikeB B N D M B' N' D' M' = false := by unfold alikeB; rw [ha]; rfl
  have HL := Lib.hid (fun w => alike_any B N D M B' N' D' M' w sN sM sN' sM')
  have HI := Lib.hid (fun w => inside_any B N D M B' N' D' M' w sN sM sN' sM')
  have HS := Lib.hid (fun w => less_any B N D M B' N' D' M' w sN sM sN' sM')
  have HA := Lib.hid (fun w => lright_any B N D M w sM)
  have HB := Lib.hid (fun w => lright_any B' N' D' M' w sM')
  rw [show insideB B N D M B' N' D' M' = false by unfold insideB; rw [hal]; rfl] at HI
  rw [show lessB B N D M B' N' D' M' = false by unfold lessB; rw [hal]; rfl] at HS
  rw [hal] at HL
  rw [ha] at HA
  clear ha hal HB
  go_enter Tryd.func5, Tryd.ntmps5
  go_wp2_with fail
  refine (sorts_any _).mono ?_
  rintro e w1 ⟨rfl, hb⟩
  have hB2 := Boxes.keep ((Boxes.new (Boxes.new (Boxes.start w) B N D M 24) (B') (N') (D') (M') 24)) hb
  simp only [World.size_alloc] at hB2
  clear hb
  have hB := Lib.hid hB2
  obtain ⟨l0_0, c0_0, c0_1, c0_2, c0_3, f0_0⟩ := Boxes.get (p := w.heap.size) (B := B) (N := N) (D := D) (M := M) hB2 (by simp)
  obtain ⟨l1_0, c1_0, c1_1, c1_2, c1_3, f1_0⟩ := Boxes.get (p := w.heap.size + 1) (B := B') (N := N') (D := D') (M := M') hB2 (by simp)
  clear hB2
  go_wp2_with fail
  refine (small2 _ _ _ _ _ _ _ _ _ _ (by unfold maxLen; omega) (by unfold maxLen; omega) (by unfold maxLen; omega) (by unfold maxLen; omega) true (by unfold sm; simp; omega)).mono ?_
  rintro e w2 ⟨rfl, hb⟩
  have hB2 := Boxes.keep (hB.out) hb
  clear hb hB l0_0 c0_0 c0_1 c0_2 c0_3 f0_0 l1_0 c1_0 c1_1 c1_2 c1_3 f1_0
  have hB := Lib.hid hB2
  obtain ⟨l0_0, c0_0, c0_1, c0_2, c0_3, f0_0⟩ := Boxes.get (p := w.heap.size) (B := B) (N := N) (D := D) (M := M) hB2 (by simp)
  obtain ⟨l1_0, c1_0, c1_1, c1_2, c1_3, f1_0⟩ := Boxes.get (p := w.heap.size + 1) (B := B') (N := N') (D := D') (M := M') hB2 (by simp)
  clear hB2
  go_wp2_with fail
  refine (HA.out _).mono ?_
  rintro e w3 ⟨rfl, hb⟩
  have hB2 := Boxes.keep (hB.out) hb
  clear hb hB l0_0 c0_0 c0_1 c0_2 c0_3 f0_0 l1_0 c1_0 c1_1 c1_2 c1_3 f1_0
  have hB := Lib.hid hB2
  obtain ⟨l0_0, c0_0, c0_1, c0_2, c0_3, f0_0⟩ := Boxes.get (p := w.heap.size) (B := B) (N := N) (D := D) (M := M) hB2 (by simp)
  obtain ⟨l1_0, c1_0, c1_1, c1_2, c1_3, f1_0⟩ := Boxes.get (p := w.heap.size + 1) (B := B') (N := N') (D := D') (M := M') hB2 (by simp)
  clear hB2
  go_wp2_with fail
  refine (HL.out _).mono ?_
  rintro e w4 ⟨rfl, hb⟩
  have hB2 := Boxes.keep (hB.out) hb
  clear hb hB l0_0 c0_0 c0_1 c0_2 c0_3 f0_0 l1_0 c1_0 c1_1 c1_2 c1_3 f1_0
  have hB := Lib.hid hB2
  obtain ⟨l0_0, c0_0, c0_1, c0_2, c0_3, f0_0⟩ := Boxes.get (p := w.heap.size) (B := B) (N := N) (D := D) (M := M) hB2 (by simp)
  obtain ⟨l1_0, c1_0, c1_1, c1_2, c1_3, f1_0⟩ := Boxes.get (p := w.heap.size + 1) (B := B') (N := N') (D := D') (M := M') hB2 (by simp)
  clear hB2
  go_wp2_with fail
  refine (HI.out _).mono ?_
  rintro e w5 ⟨rfl, hb⟩
  have hB2 := Boxes.keep (hB.out) hb
  clear hb hB l0_0 c0_0 c0_1 c0_2 c0_3 f0_0 l1_0 c1_0 c1_1 c1_2 c1_3 f1_0
  have hB := Lib.hid hB2
  obtain ⟨l0_0, c0_0, c0_1, c0_2, c0_3, f0_0⟩ := Boxes.get (p := w.heap.size) (B := B) (N := N) (D := D) (M := M) hB2 (by simp)
  obtain ⟨l1_0, c1_0, c1_1, c1_2, c1_3, f1_0⟩ := Boxes.get (p := w.heap.size + 1) (B := B') (N := N') (D := D') (M := M') hB2 (by simp)
  clear hB2
  go_wp2_with fail
  refine (HS.out _).mono ?_
  rintro e w6 ⟨rfl, hb⟩
  have hB2 := Boxes.keep (hB.out) hb
  clear hb hB l0_0 c0_0 c0_1 c0_2 c0_3 f0_0 l1_0 c1_0 c1_1 c1_2 c1_3 f1_0
  have hB := Lib.hid hB2
  obtain ⟨l0_0, c0_0, c0_1, c0_2, c0_3, f0_0⟩ := Boxes.get (p := w.heap.size) (B := B) (N := N) (D := D) (M := M) hB2 (by simp)
  obtain ⟨l1_0, c1_0, c1_1, c1_2, c1_3, f1_0⟩ := Boxes.get (p := w.heap.size + 1) (B := B') (N := N') (D := D') (M := M') hB2 (by simp)
  clear hB2
  go_wp2_with fail
  all_goals go_ret
  all_goals exact ⟨rfl, by have hz := hB.out.bel; repeat (first | exact Below.refl _ _ | apply Below.setCell _ (by first | omega | (simp <;> omega)) | apply Below.alloc _ (by first | omega | (simp <;> omega)) | exact hz | refine after ?_ hz)⟩
set_option maxHeartbeats 8000000 in
theorem kp_b (B : Int) (N : ByteArray) (D : Int) (M : ByteArray) (B' : Int) (N' : ByteArray) (D' : Int) (M' : ByteArray) (w : World) (sN : N.size ≤ 60) (sM : M.size ≤ 60) (sN' : N'.size ≤ 60) (sM' : M'.size ≤ 60) (ha : allB B N D M = true) (hb : allB B' N' D' M' = false) :
    Calls Tryd.prog 5 #[.agg #[.int .i64 B, .string N, .int .i64 D, .string M], .agg #[.int .i64 B', .string N', .int .i64 D', .string M']] w fun e w' => e = .returned (.bool true) ∧ Below w.heap.size w w' := by
  have hal : alikeB B N D M B' N' D' M' = false := by unfold alikeB; rw [ha, hb]; rfl
  have HL := Lib.hid (fun w => alike_any B N D M B' N' D' M' w sN sM sN' sM')
  have HI := Lib.hid (fun w => inside_any B N D M B' N' D' M' w sN sM sN' sM')
  have HS := Lib.hid (fun w => less_any B N D M B' N' D' M' w sN sM sN' sM')
  have HA := Lib.hid (fun w => lright_any B N D M w sM)
  have HB := Lib.hid (fun w => lright_any B' N' D' M' w sM')
  rw [show insideB B N D M B' N' D' M' = false by unfold insideB; rw [hal]; rfl] at HI
  rw [show lessB B N D M B' N' D' M' = false by unfold lessB; rw [hal]; rfl] at HS
  rw [hal] at HL
  rw [ha] at HA
  rw [hb] at HB
  clear ha hb hal
  go_enter Tryd.func5, Tryd.ntmps5
  go_wp2_with fail
  refine (sorts_any _).mono ?_
  rintro e w1 ⟨rfl, hb⟩
  have hB2 := Boxes.keep ((Boxes.new (Boxes.new (Boxes.start w) B N D M 24) (B') (N') (D') (M') 24)) hb
  simp only [World.size_alloc] at hB2
  clear hb
  have hB := Lib.hid hB2
  obtain ⟨l0_0, c0_0, c0_1, c0_2, c0_3, f0_0⟩ := Boxes.get (p := w.heap.size) (B := B) (N := N) (D := D) (M := M) hB2 (by simp)
  obtain ⟨l1_0, c1_0, c1_1, c1_2, c1_3, f1_0⟩ := Boxes.get (p := w.heap.size + 1) (B := B') (N := N') (D := D') (M := M') hB2 (by simp)
  clear hB2
  go_wp2_with fail
  refine (small2 _ _ _ _ _ _ _ _ _ _ (by unfold maxLen; omega) (by unfold maxLen; omega) (by unfold maxLen; omega) (by unfold maxLen; omega) true (by unfold sm; simp; omega)).mono ?_
  rintro e w2 ⟨rfl, hb⟩
  have hB2 := Boxes.keep (hB.out) hb
  clear hb hB l0_0 c0_0 c0_1 c0_2 c0_3 f0_0 l1_0 c1_0 c1_1 c1_2 c1_3 f1_0
  have hB := Lib.hid hB2
  obtain ⟨l0_0, c0_0, c0_1, c0_2, c0_3, f0_0⟩ := Boxes.get (p := w.heap.size) (B := B) (N := N) (D := D) (M := M) hB2 (by simp)
  obtain ⟨l1_0, c1_0, c1_1, c1_2, c1_3, f1_0⟩ := Boxes.get (p := w.heap.size + 1) (B := B') (N := N') (D := D') (M := M') hB2 (by simp)
  clear hB2
  go_wp2_with fail
  refine (HA.out _).mono ?_
  rintro e w3 ⟨rfl, hb⟩
  have hB2 := Boxes.keep (hB.out) hb
  clear hb hB l0_0 c0_0 c0_1 c0_2 c0_3 f0_0 l1_0 c1_0 c1_1 c1_2 c1_3 f1_0
  have hB := Lib.hid hB2
  obtain ⟨l0_0, c0_0, c0_1, c0_2, c0_3, f0_0⟩ := Boxes.get (p := w.heap.size) (B := B) (N := N) (D := D) (M := M) hB2 (by simp)
  obtain ⟨l1_0, c1_0, c1_1, c1_2, c1_3, f1_0⟩ := Boxes.get (p := w.heap.size + 1) (B := B') (N := N') (D := D') (M := M') hB2 (by simp)
  clear hB2
  go_wp2_with fail
  refine (HB.out _).mono ?_
  rintro e w4 ⟨rfl, hb⟩
  have hB2 := Boxes.keep (hB.out) hb
  clear hb hB l0_0 c0_0 c0_1 c0_2 c0_3 f0_0 l1_0 c1_0 c1_1 c1_2 c1_3 f1_0
  have hB := Lib.hid hB2
  obtain ⟨l0_0, c0_0, c0_1, c0_2, c0_3, f0_0⟩ := Boxes.get (p := w.heap.size) (B := B) (N := N) (D := D) (M := M) hB2 (by simp)
  obtain ⟨l1_0, c1_0, c1_1, c1_2, c1_3, f1_0⟩ := Boxes.get (p := w.heap.size + 1) (B := B') (N := N') (D := D') (M := M') hB2 (by simp)
  clear hB2
  go_wp2_with fail
  refine (HL.out _).mono ?_
  rintro e w5 ⟨rfl, hb⟩
  have hB2 := Boxes.keep (hB.out) hb
  clear hb hB l0_0 c0_0 c0_1 c0_2 c0_3 f0_0 l1_0 c1_0 c1_1 c1_2 c1_3 f1_0
  have hB := Lib.hid hB2
  obtain ⟨l0_0, c0_0, c0_1, c0_2, c0_3, f0_0⟩ := Boxes.get (p := w.heap.size) (B := B) (N := N) (D := D) (M := M) hB2 (by simp)
  obtain ⟨l1_0, c1_0, c1_1, c1_2, c1_3, f1_0⟩ := Boxes.get (p := w.heap.size + 1) (B := B') (N := N') (D := D') (M := M') hB2 (by simp)
  clear hB2
  go_wp2_with fail
  refine (HI.out _).mono ?_
  rintro e w6 ⟨rfl, hb⟩
  have hB2 := Boxes.keep (hB.out) hb
  clear hb hB l0_0 c0_0 c0_1 c0_2 c0_3 f0_0 l1_0 c1_0 c1_1 c1_2 c1_3 f1_0
  have hB := Lib.hid hB2
  obtain ⟨l0_0, c0_0, c0_1, c0_2, c0_3, f0_0⟩ := Boxes.get (p := w.heap.size) (B := B) (N := N) (D := D) (M := M) hB2 (by simp)
  obtain ⟨l1_0, c1_0, c1_1, c1_2, c1_3, f1_0⟩ := Boxes.get (p := w.heap.size + 1) (B := B') (N := N') (D := D') (M := M') hB2 (by simp)
  clear hB2
  go_wp2_with fail
  refine (HS.out _).mono ?_
  rintro e w7 ⟨rfl, hb⟩
  have hB2 := Boxes.keep (hB.out) hb
  clear hb hB l0_0 c0_0 c0_1 c0_2 c0_3 f0_0 l1_0 c1_0 c1_1 c1_2 c1_3 f1_0
  have hB := Lib.hid hB2
  obtain ⟨l0_0, c0_0, c0_1, c0_2, c0_3, f0_0⟩ := Boxes.get (p := w.heap.size) (B := B) (N := N) (D := D) (M := M) hB2 (by simp)
  obtain ⟨l1_0, c1_0, c1_1, c1_2, c1_3, f1_0⟩ := Boxes.get (p := w.heap.size + 1) (B := B') (N := N') (D := D') (M := M') hB2 (by simp)
  clear hB2
  go_wp2_with fail
  all_goals go_ret
  all_goals exact ⟨rfl, by have hz := hB.out.bel; repeat (first | exact Below.refl _ _ | apply Below.setCell _ (by first | omega | (simp <;> omega)) | apply Below.alloc _ (by first | omega | (simp <;> omega)) | exact hz | refine after ?_ hz)⟩
theorem Boxes.perm {w0 w : World} {l l2 : List (Nat × Ty4)} (h : Boxes w0 l w) (hs : ∀ x ∈ l2, x ∈ l := by simp) : Boxes w0 l2 w := ⟨h.1, fun x hx => h.2 x (hs x hx)⟩

set_option maxHeartbeats 8000000 in
theorem kp_n1 (B : Int) (N : ByteArray) (D : Int) (M : ByteArray) (B' : Int) (N' : ByteArray) (D' : Int) (M' : ByteArray) (w : World) (sN : N.size ≤ 60) (sM : M.size ≤ 60) (sN' : N'.size ≤ 60) (sM' : M'.size ≤ 60) (ha : allB B N D M = true) (hb : allB B' N' D' M' = true) (h1 : ¬ B = B') (hal : alikeB B N D M B' N' D' M' = false) :
    Calls Tryd.prog 5 #[.agg #[.int .i64 B, .string N, .int .i64 D, .string M], .agg #[.int .i64 B', .string N', .int .i64 D', .string M']] w fun e w' => e = .returned (.bool true) ∧ Below w.heap.size w w' := by
  have HL := Lib.hid (fun w => alike_any B N D M B' N' D' M' w sN sM sN' sM')
  have HI := Lib.hid (fun w => inside_any B N D M B' N' D' M' w sN sM sN' sM')
  have HS := Lib.hid (fun w => less_any B N D M B' N' D' M' w sN sM sN' sM')
  have HA := Lib.hid (fun w => lright_any B N D M w sM)
  have HB := Lib.hid (fun w => lright_any B' N' D' M' w sM')
  rw [show insideB B N D M B' N' D' M' = false by unfold insideB; rw [hal]; rfl] at HI
  rw [show lessB B N D M B' N' D' M' = false by unfold lessB; rw [hal]; rfl] at HS
  rw [hal] at HL
  rw [ha] at HA
  rw [hb] at HB
  obtain ⟨n, hn⟩ : ∃ n, n = M.size := ⟨_, rfl⟩
  have hn60 : n ≤ 60 := by omega
  have e1 : (M.size : Int) = (n : Int) := by omega
  clear ha hb hal hn
  have g1 : (B == B') = false := by simpa using h1
  go_enter Tryd.func5, Tryd.ntmps5
  go_wp2_with fail
  refine (sorts_any _).mono ?_
  rintro e w1 ⟨rfl, hb⟩
  have hB2 := Boxes.keep ((Boxes.new (Boxes.new (Boxes.start w) B N D M 24) (B') (N') (D') (M') 24)) hb
  simp only [World.size_alloc] at hB2
  clear hb
  have hB := Lib.hid hB2
  obtain ⟨l0_0, c0_0, c0_1, c0_2, c0_3, f0_0⟩ := Boxes.get (p := w.heap.size) (B := B) (N := N) (D := D) (M := M) hB2 (by simp)
  obtain ⟨l1_0, c1_0, c1_1, c1_2, c1_3, f1_0⟩ := Boxes.get (p := w.heap.size + 1) (B := B') (N := N') (D := D') (M := M') hB2 (by simp)
  clear hB2
  go_wp2_with fail
  refine (small2 _ _ _ _ _ _ _ _ _ _ (by unfold maxLen; omega) (by unfold maxLen; omega) (by unfold maxLen; omega) (by unfold maxLen; omega) true (by unfold sm; simp; omega)).mono ?_
  rintro e w2 ⟨rfl, hb⟩
  have hB2 := Boxes.keep (hB.out) hb
  clear hb hB l0_0 c0_0 c0_1 c0_2 c0_3 f0_0 l1_0 c1_0 c1_1 c1_2 c1_3 f1_0
  have hB := Lib.hid hB2
  obtain ⟨l0_0, c0_0, c0_1, c0_2, c0_3, f0_0⟩ := Boxes.get (p := w.heap.size) (B := B) (N := N) (D := D) (M := M) hB2 (by simp)
  obtain ⟨l1_0, c1_0, c1_1, c1_2, c1_3, f1_0⟩ := Boxes.get (p := w.heap.size + 1) (B := B') (N := N') (D := D') (M := M') hB2 (by simp)
  clear hB2
  go_wp2_with fail
  refine (HA.out _).mono ?_
  rintro e w3 ⟨rfl, hb⟩
  have hB2 := Boxes.keep (hB.out) hb
  clear hb hB l0_0 c0_0 c0_1 c0_2 c0_3 f0_0 l1_0 c1_0 c1_1 c1_2 c1_3 f1_0
  have hB := Lib.hid hB2
  obtain ⟨l0_0, c0_0, c0_1, c0_2, c0_3, f0_0⟩ := Boxes.get (p := w.heap.size) (B := B) (N := N) (D := D) (M := M) hB2 (by simp)
  obtain ⟨l1_0, c1_0, c1_1, c1_2, c1_3, f1_0⟩ := Boxes.get (p := w.heap.size + 1) (B := B') (N := N') (D := D') (M := M') hB2 (by simp)
  clear hB2
  go_wp2_with fail
  refine (HB.out _).mono ?_
  rintro e w4 ⟨rfl, hb⟩
  have hB2 := Boxes.keep (hB.out) hb
  clear hb hB l0_0 c0_0 c0_1 c0_2 c0_3 f0_0 l1_0 c1_0 c1_1 c1_2 c1_3 f1_0
  have hB := Lib.hid hB2
  obtain ⟨l0_0, c0_0, c0_1, c0_2, c0_3, f0_0⟩ := Boxes.get (p := w.heap.size) (B := B) (N := N) (D := D) (M := M) hB2 (by simp)
  obtain ⟨l1_0, c1_0, c1_1, c1_2, c1_3, f1_0⟩ := Boxes.get (p := w.heap.size + 1) (B := B') (N := N') (D := D') (M := M') hB2 (by simp)
  clear hB2
  go_wp2_with fail
  go_loopw [6, 7, 64] (fun b1 b2 i wr => ∃ k : Nat, k ≤ n ∧ i = .int .i64 k ∧ b1 = .bool false ∧ b2 = .bool false ∧ Boxes w [(w.heap.size, (B, N, D, M)), (w.heap.size + 1, (B', N', D', M'))] wr) (fun _ _ i _ => n - (intOf i).toNat)
  case atStart => exact ⟨0, Nat.zero_le _, rfl, rfl, rfl, Boxes.perm hB.out⟩
  case round =>
    obtain ⟨k, hk, rfl, rfl, rfl, hbx⟩ := hrel
    clear hB l0_0 c0_0 c0_1 c0_2 c0_3 f0_0 l1_0 c1_0 c1_1 c1_2 c1_3 f1_0
    have hB := Lib.hid hbx
    obtain ⟨l0_0, c0_0, c0_1, c0_2, c0_3, f0_0⟩ := Boxes.get (p := w.heap.size) (B := B) (N := N) (D := D) (M := M) hbx (by simp)
    obtain ⟨l1_0, c1_0, c1_1, c1_2, c1_3, f1_0⟩ := Boxes.get (p := w.heap.size + 1) (B := B') (N := N') (D := D') (M := M') hbx (by simp)
    clear hbx
    by_cases hlt : k < n
    · go_wp2_with fail
      go_quiet (fail)
      go_wp2_with fail
      go_roundw
      case rel => exact ⟨k + 1, by omega, by go_num, rfl, rfl, hB.out.keep (below_drewN (Below.refl _ _) _)⟩
      case measure => simp [intOf]; omega
    · go_wp2_with fail
      refine (HL.out _).mono ?_
      rintro e w5 ⟨rfl, hb⟩
      have hB2 := Boxes.keep (hB.out) hb
      clear hb hB l0_0 c0_0 c0_1 c0_2 c0_3 f0_0 l1_0 c1_0 c1_1 c1_2 c1_3 f1_0
      have hB := Lib.hid hB2
      obtain ⟨l0_0, c0_0, c0_1, c0_2, c0_3, f0_0⟩ := Boxes.get (p := w.heap.size) (B := B) (N := N) (D := D) (M := M) hB2 (by simp)
      obtain ⟨l1_0, c1_0, c1_1, c1_2, c1_3, f1_0⟩ := Boxes.get (p := w.heap.size + 1) (B := B') (N := N') (D := D') (M := M') hB2 (by simp)
      clear hB2
      go_wp2_with fail
      refine (HI.out _).mono ?_
      rintro e w6 ⟨rfl, hb⟩
      have hB2 := Boxes.keep (hB.out) hb
      clear hb hB l0_0 c0_0 c0_1 c0_2 c0_3 f0_0 l1_0 c1_0 c1_1 c1_2 c1_3 f1_0
      have hB := Lib.hid hB2
      obtain ⟨l0_0, c0_0, c0_1, c0_2, c0_3, f0_0⟩ := Boxes.get (p := w.heap.size) (B := B) (N := N) (D := D) (M := M) hB2 (by simp)
      obtain ⟨l1_0, c1_0, c1_1, c1_2, c1_3, f1_0⟩ := Boxes.get (p := w.heap.size + 1) (B := B') (N := N') (D := D') (M := M') hB2 (by simp)
      clear hB2
      go_wp2_with fail
      refine (HS.out _).mono ?_
      rintro e w7 ⟨rfl, hb⟩
      have hB2 := Boxes.keep (hB.out) hb
      clear hb hB l0_0 c0_0 c0_1 c0_2 c0_3 f0_0 l1_0 c1_0 c1_1 c1_2 c1_3 f1_0
      have hB := Lib.hid hB2
      obtain ⟨l0_0, c0_0, c0_1, c0_2, c0_3, f0_0⟩ := Boxes.get (p := w.heap.size) (B := B) (N := N) (D := D) (M := M) hB2 (by simp)
      obtain ⟨l1_0, c1_0, c1_1, c1_2, c1_3, f1_0⟩ := Boxes.get (p := w.heap.size + 1) (B := B') (N := N') (D := D') (M := M') hB2 (by simp)
      clear hB2
      go_wp2_with fail
      all_goals go_ret
      all_goals exact ⟨rfl, by have hz := hB.out.bel; repeat (first | exact Below.refl _ _ | apply Below.setCell _ (by first | omega | (simp <;> omega)) | apply Below.alloc _ (by first | omega | (simp <;> omega)) | exact hz | refine after ?_ hz)⟩
set_option maxHeartbeats 8000000 in
theorem kp_n2 (B : Int) (N : ByteArray) (D : Int) (M : ByteArray) (N' : ByteArray) (D' : Int) (M' : ByteArray) (w : World) (sN : N.size ≤ 60) (sM : M.size ≤ 60) (sN' : N'.size ≤ 60) (sM' : M'.size ≤ 60) (ha : allB B N D M = true) (hb : allB B N' D' M' = true) (h1 : ¬ N.toList = N'.toList) (hal : alikeB B N D M B N' D' M' = false) :
    Calls Tryd.prog 5 #[.agg #[.int .i64 B, .string N, .int .i64 D, .string M], .agg #[.int .i64 B, .string N', .int .i64 D', .string M']] w fun e w' => e = .returned (.bool true) ∧ Below w.heap.size w w' := by
  have HL := Lib.hid (fun w => alike_any B N D M B N' D' M' w sN sM sN' sM')
  have HI := Lib.hid (fun w => inside_any B N D M B N' D' M' w sN sM sN' sM')
  have HS := Lib.hid (fun w => less_any B N D M B N' D' M' w sN sM sN' sM')
  have HA := Lib.hid (fun w => lright_any B N D M w sM)
  have HB := Lib.hid (fun w => lright_any B N' D' M' w sM')
  rw [show insideB B N D M B N' D' M' = false by unfold insideB; rw [hal]; rfl] at HI
  rw [show lessB B N D M B N' D' M' = false by unfold lessB; rw [hal]; rfl] at HS
  rw [hal] at HL
  rw [ha] at HA
  rw [hb] at HB
  obtain ⟨n, hn⟩ : ∃ n, n = M.size := ⟨_, rfl⟩
  have hn60 : n ≤ 60 := by omega
  have e1 : (M.size : Int) = (n : Int) := by omega
  clear ha hb hal hn
  have g2 : (N.toList == N'.toList) = false := by simpa using h1
  go_enter Tryd.func5, Tryd.ntmps5
  go_wp2_with fail
  refine (sorts_any _).mono ?_
  rintro e w1 ⟨rfl, hb⟩
  have hB2 := Boxes.keep ((Boxes.new (Boxes.new (Boxes.start w) B N D M 24) B (N') (D') (M') 24)) hb
  simp only [World.size_alloc] at hB2
  clear hb
  have hB := Lib.hid hB2
  obtain ⟨l0_0, c0_0, c0_1, c0_2, c0_3, f0_0⟩ := Boxes.get (p := w.heap.size) (B := B) (N := N) (D := D) (M := M) hB2 (by simp)
  obtain ⟨l1_0, c1_0, c1_1, c1_2, c1_3, f1_0⟩ := Boxes.get (p := w.heap.size + 1) (B := B) (N := N') (D := D') (M := M') hB2 (by simp)
  clear hB2
  go_wp2_with fail
  refine (small2 _ _ _ _ _ _ _ _ _ _ (by unfold maxLen; omega) (by unfold maxLen; omega) (by unfold maxLen; omega) (by unfold maxLen; omega) true (by unfold sm; simp; omega)).mono ?_
  rintro e w2 ⟨rfl, hb⟩
  have hB2 := Boxes.keep (hB.out) hb
  clear hb hB l0_0 c0_0 c0_1 c0_2 c0_3 f0_0 l1_0 c1_0 c1_1 c1_2 c1_3 f1_0
  have hB := Lib.hid hB2
  obtain ⟨l0_0, c0_0, c0_1, c0_2, c0_3, f0_0⟩ := Boxes.get (p := w.heap.size) (B := B) (N := N) (D := D) (M := M) hB2 (by simp)
  obtain ⟨l1_0, c1_0, c1_1, c1_2, c1_3, f1_0⟩ := Boxes.get (p := w.heap.size + 1) (B := B) (N := N') (D := D') (M := M') hB2 (by simp)
  clear hB2
  go_wp2_with fail
  refine (HA.out _).mono ?_
  rintro e w3 ⟨rfl, hb⟩
  have hB2 := Boxes.keep (hB.out) hb
  clear hb hB l0_0 c0_0 c0_1 c0_2 c0_3 f0_0 l1_0 c1_0 c1_1 c1_2 c1_3 f1_0
  have hB := Lib.hid hB2
  obtain ⟨l0_0, c0_0, c0_1, c0_2, c0_3, f0_0⟩ := Boxes.get (p := w.heap.size) (B := B) (N := N) (D := D) (M := M) hB2 (by simp)
  obtain ⟨l1_0, c1_0, c1_1, c1_2, c1_3, f1_0⟩ := Boxes.get (p := w.heap.size + 1) (B := B) (N := N') (D := D') (M := M') hB2 (by simp)
  clear hB2
  go_wp2_with fail
  refine (HB.out _).mono ?_
  rintro e w4 ⟨rfl, hb⟩
  have hB2 := Boxes.keep (hB.out) hb
  clear hb hB l0_0 c0_0 c0_1 c0_2 c0_3 f0_0 l1_0 c1_0 c1_1 c1_2 c1_3 f1_0
  have hB := Lib.hid hB2
  obtain ⟨l0_0, c0_0, c0_1, c0_2, c0_3, f0_0⟩ := Boxes.get (p := w.heap.size) (B := B) (N := N) (D := D) (M := M) hB2 (by simp)
  obtain ⟨l1_0, c1_0, c1_1, c1_2, c1_3, f1_0⟩ := Boxes.get (p := w.heap.size + 1) (B := B) (N := N') (D := D') (M := M') hB2 (by simp)
  clear hB2
  go_wp2_with fail
  go_loopw [6, 7, 64] (fun b1 b2 i wr => ∃ k : Nat, k ≤ n ∧ i = .int .i64 k ∧ b1 = .bool false ∧ b2 = .bool false ∧ Boxes w [(w.heap.size, (B, N, D, M)), (w.heap.size + 1, (B, N', D', M'))] wr) (fun _ _ i _ => n - (intOf i).toNat)
  case atStart => exact ⟨0, Nat.zero_le _, rfl, rfl, rfl, Boxes.perm hB.out⟩
  case round =>
    obtain ⟨k, hk, rfl, rfl, rfl, hbx⟩ := hrel
    clear hB l0_0 c0_0 c0_1 c0_2 c0_3 f0_0 l1_0 c1_0 c1_1 c1_2 c1_3 f1_0
    have hB := Lib.hid hbx
    obtain ⟨l0_0, c0_0, c0_1, c0_2, c0_3, f0_0⟩ := Boxes.get (p := w.heap.size) (B := B) (N := N) (D := D) (M := M) hbx (by simp)
    obtain ⟨l1_0, c1_0, c1_1, c1_2, c1_3, f1_0⟩ := Boxes.get (p := w.heap.size + 1) (B := B) (N := N') (D := D') (M := M') hbx (by simp)
    clear hbx
    by_cases hlt : k < n
    · go_wp2_with fail
      go_quiet (fail)
      go_wp2_with fail
      go_roundw
      case rel => exact ⟨k + 1, by omega, by go_num, rfl, rfl, hB.out.keep (below_drewN (Below.refl _ _) _)⟩
      case measure => simp [intOf]; omega
    · go_wp2_with fail
      refine (HL.out _).mono ?_
      rintro e w5 ⟨rfl, hb⟩
      have hB2 := Boxes.keep (hB.out) hb
      clear hb hB l0_0 c0_0 c0_1 c0_2 c0_3 f0_0 l1_0 c1_0 c1_1 c1_2 c1_3 f1_0
      have hB := Lib.hid hB2
      obtain ⟨l0_0, c0_0, c0_1, c0_2, c0_3, f0_0⟩ := Boxes.get (p := w.heap.size) (B := B) (N := N) (D := D) (M := M) hB2 (by simp)
      obtain ⟨l1_0, c1_0, c1_1, c1_2, c1_3, f1_0⟩ := Boxes.get (p := w.heap.size + 1) (B := B) (N := N') (D := D') (M := M') hB2 (by simp)
      clear hB2
      go_wp2_with fail
      refine (HI.out _).mono ?_
      rintro e w6 ⟨rfl, hb⟩
      have hB2 := Boxes.keep (hB.out) hb
      clear hb hB l0_0 c0_0 c0_1 c0_2 c0_3 f0_0 l1_0 c1_0 c1_1 c1_2 c1_3 f1_0
      have hB := Lib.hid hB2
      obtain ⟨l0_0, c0_0, c0_1, c0_2, c0_3, f0_0⟩ := Boxes.get (p := w.heap.size) (B := B) (N := N) (D := D) (M := M) hB2 (by simp)
      obtain ⟨l1_0, c1_0, c1_1, c1_2, c1_3, f1_0⟩ := Boxes.get (p := w.heap.size + 1) (B := B) (N := N') (D := D') (M := M') hB2 (by simp)
      clear hB2
      go_wp2_with fail
      refine (HS.out _).mono ?_
      rintro e w7 ⟨rfl, hb⟩
      have hB2 := Boxes.keep (hB.out) hb
      clear hb hB l0_0 c0_0 c0_1 c0_2 c0_3 f0_0 l1_0 c1_0 c1_1 c1_2 c1_3 f1_0
      have hB := Lib.hid hB2
      obtain ⟨l0_0, c0_0, c0_1, c0_2, c0_3, f0_0⟩ := Boxes.get (p := w.heap.size) (B := B) (N := N) (D := D) (M := M) hB2 (by simp)
      obtain ⟨l1_0, c1_0, c1_1, c1_2, c1_3, f1_0⟩ := Boxes.get (p := w.heap.size + 1) (B := B) (N := N') (D := D') (M := M') hB2 (by simp)
      clear hB2
      go_wp2_with fail
      all_goals go_ret
      all_goals exact ⟨rfl, by have hz := hB.out.bel; repeat (first | exact Below.refl _ _ | apply Below.setCell _ (by first | omega | (simp <;> omega)) | apply Below.alloc _ (by first | omega | (simp <;> omega)) | exact hz | refine after ?_ hz)⟩
set_option maxHeartbeats 8000000 in
theorem kp_n3 (B : Int) (N : ByteArray) (D : Int) (M : ByteArray) (D' : Int) (M' : ByteArray) (w : World) (sN : N.size ≤ 60) (sM : M.size ≤ 60) (sM' : M'.size ≤ 60) (ha : allB B N D M = true) (hb : allB B N D' M' = true) (h1 : ¬ D = D') (hal : alikeB B N D M B N D' M' = false) :
    Calls Tryd.prog 5 #[.agg #[.int .i64 B, .string N, .int .i64 D, .string M], .agg #[.int .i64 B, .string N, .int .i64 D', .string M']] w fun e w' => e = .returned (.bool true) ∧ Below w.heap.size w w' := by
  have HL := Lib.hid (fun w => alike_any B N D M B N D' M' w sN sM sN sM')
  have HI := Lib.hid (fun w => inside_any B N D M B N D' M' w sN sM sN sM')
  have HS := Lib.hid (fun w => less_any B N D M B N D' M' w sN sM sN sM')
  have HA := Lib.hid (fun w => lright_any B N D M w sM)
  have HB := Lib.hid (fun w => lright_any B N D' M' w sM')
  rw [show insideB B N D M B N D' M' = false by unfold insideB; rw [hal]; rfl] at HI
  rw [show lessB B N D M B N D' M' = false by unfold lessB; rw [hal]; rfl] at HS
  rw [hal] at HL
  rw [ha] at HA
  rw [hb] at HB
  obtain ⟨n, hn⟩ : ∃ n, n = M.size := ⟨_, rfl⟩
  have hn60 : n ≤ 60 := by omega
  have e1 : (M.size : Int) = (n : Int) := by omega
  clear ha hb hal hn
  have g3 : (D == D') = false := by simpa using h1
  have sN' := sN
  go_enter Tryd.func5, Tryd.ntmps5
  go_wp2_with fail
  refine (sorts_any _).mono ?_
  rintro e w1 ⟨rfl, hb⟩
  have hB2 := Boxes.keep ((Boxes.new (Boxes.new (Boxes.start w) B N D M 24) B N (D') (M') 24)) hb
  simp only [World.size_alloc] at hB2
  clear hb
  have hB := Lib.hid hB2
  obtain ⟨l0_0, c0_0, c0_1, c0_2, c0_3, f0_0⟩ := Boxes.get (p := w.heap.size) (B := B) (N := N) (D := D) (M := M) hB2 (by simp)
  obtain ⟨l1_0, c1_0, c1_1, c1_2, c1_3, f1_0⟩ := Boxes.get (p := w.heap.size + 1) (B := B) (N := N) (D := D') (M := M') hB2 (by simp)
  clear hB2
  go_wp2_with fail
  refine (small2 _ _ _ _ _ _ _ _ _ _ (by unfold maxLen; omega) (by unfold maxLen; omega) (by unfold maxLen; omega) (by unfold maxLen; omega) true (by unfold sm; simp; omega)).mono ?_
  rintro e w2 ⟨rfl, hb⟩
  have hB2 := Boxes.keep (hB.out) hb
  clear hb hB l0_0 c0_0 c0_1 c0_2 c0_3 f0_0 l1_0 c1_0 c1_1 c1_2 c1_3 f1_0
  have hB := Lib.hid hB2
  obtain ⟨l0_0, c0_0, c0_1, c0_2, c0_3, f0_0⟩ := Boxes.get (p := w.heap.size) (B := B) (N := N) (D := D) (M := M) hB2 (by simp)
  obtain ⟨l1_0, c1_0, c1_1, c1_2, c1_3, f1_0⟩ := Boxes.get (p := w.heap.size + 1) (B := B) (N := N) (D := D') (M := M') hB2 (by simp)
  clear hB2
  go_wp2_with fail
  refine (HA.out _).mono ?_
  rintro e w3 ⟨rfl, hb⟩
  have hB2 := Boxes.keep (hB.out) hb
  clear hb hB l0_0 c0_0 c0_1 c0_2 c0_3 f0_0 l1_0 c1_0 c1_1 c1_2 c1_3 f1_0
  have hB := Lib.hid hB2
  obtain ⟨l0_0, c0_0, c0_1, c0_2, c0_3, f0_0⟩ := Boxes.get (p := w.heap.size) (B := B) (N := N) (D := D) (M := M) hB2 (by simp)
  obtain ⟨l1_0, c1_0, c1_1, c1_2, c1_3, f1_0⟩ := Boxes.get (p := w.heap.size + 1) (B := B) (N := N) (D := D') (M := M') hB2 (by simp)
  clear hB2
  go_wp2_with fail
  refine (HB.out _).mono ?_
  rintro e w4 ⟨rfl, hb⟩
  have hB2 := Boxes.keep (hB.out) hb
  clear hb hB l0_0 c0_0 c0_1 c0_2 c0_3 f0_0 l1_0 c1_0 c1_1 c1_2 c1_3 f1_0
  have hB := Lib.hid hB2
  obtain ⟨l0_0, c0_0, c0_1, c0_2, c0_3, f0_0⟩ := Boxes.get (p := w.heap.size) (B := B) (N := N) (D := D) (M := M) hB2 (by simp)
  obtain ⟨l1_0, c1_0, c1_1, c1_2, c1_3, f1_0⟩ := Boxes.get (p := w.heap.size + 1) (B := B) (N := N) (D := D') (M := M') hB2 (by simp)
  clear hB2
  go_wp2_with fail
  go_loopw [6, 7, 64] (fun b1 b2 i wr => ∃ k : Nat, k ≤ n ∧ i = .int .i64 k ∧ b1 = .bool false ∧ b2 = .bool false ∧ Boxes w [(w.heap.size, (B, N, D, M)), (w.heap.size + 1, (B, N, D', M'))] wr) (fun _ _ i _ => n - (intOf i).toNat)
  case atStart => exact ⟨0, Nat.zero_le _, rfl, rfl, rfl, Boxes.perm hB.out⟩
  case round =>
    obtain ⟨k, hk, rfl, rfl, rfl, hbx⟩ := hrel
    clear hB l0_0 c0_0 c0_1 c0_2 c0_3 f0_0 l1_0 c1_0 c1_1 c1_2 c1_3 f1_0
    have hB := Lib.hid hbx
    obtain ⟨l0_0, c0_0, c0_1, c0_2, c0_3, f0_0⟩ := Boxes.get (p := w.heap.size) (B := B) (N := N) (D := D) (M := M) hbx (by simp)
    obtain ⟨l1_0, c1_0, c1_1, c1_2, c1_3, f1_0⟩ := Boxes.get (p := w.heap.size + 1) (B := B) (N := N) (D := D') (M := M') hbx (by simp)
    clear hbx
    by_cases hlt : k < n
    · go_wp2_with fail
      go_quiet (fail)
      go_wp2_with fail
      go_roundw
      case rel => exact ⟨k + 1, by omega, by go_num, rfl, rfl, hB.out.keep (below_drewN (Below.refl _ _) _)⟩
      case measure => simp [intOf]; omega
    · go_wp2_with fail
      refine (HL.out _).mono ?_
      rintro e w5 ⟨rfl, hb⟩
      have hB2 := Boxes.keep (hB.out) hb
      clear hb hB l0_0 c0_0 c0_1 c0_2 c0_3 f0_0 l1_0 c1_0 c1_1 c1_2 c1_3 f1_0
      have hB := Lib.hid hB2
      obtain ⟨l0_0, c0_0, c0_1, c0_2, c0_3, f0_0⟩ := Boxes.get (p := w.heap.size) (B := B) (N := N) (D := D) (M := M) hB2 (by simp)
      obtain ⟨l1_0, c1_0, c1_1, c1_2, c1_3, f1_0⟩ := Boxes.get (p := w.heap.size + 1) (B := B) (N := N) (D := D') (M := M') hB2 (by simp)
      clear hB2
      go_wp2_with fail
      refine (HI.out _).mono ?_
      rintro e w6 ⟨rfl, hb⟩
      have hB2 := Boxes.keep (hB.out) hb
      clear hb hB l0_0 c0_0 c0_1 c0_2 c0_3 f0_0 l1_0 c1_0 c1_1 c1_2 c1_3 f1_0
      have hB := Lib.hid hB2
      obtain ⟨l0_0, c0_0, c0_1, c0_2, c0_3, f0_0⟩ := Boxes.get (p := w.heap.size) (B := B) (N := N) (D := D) (M := M) hB2 (by simp)
      obtain ⟨l1_0, c1_0, c1_1, c1_2, c1_3, f1_0⟩ := Boxes.get (p := w.heap.size + 1) (B := B) (N := N) (D := D') (M := M') hB2 (by simp)
      clear hB2
      go_wp2_with fail
      refine (HS.out _).mono ?_
      rintro e w7 ⟨rfl, hb⟩
      have hB2 := Boxes.keep (hB.out) hb
      clear hb hB l0_0 c0_0 c0_1 c0_2 c0_3 f0_0 l1_0 c1_0 c1_1 c1_2 c1_3 f1_0
      have hB := Lib.hid hB2
      obtain ⟨l0_0, c0_0, c0_1, c0_2, c0_3, f0_0⟩ := Boxes.get (p := w.heap.size) (B := B) (N := N) (D := D) (M := M) hB2 (by simp)
      obtain ⟨l1_0, c1_0, c1_1, c1_2, c1_3, f1_0⟩ := Boxes.get (p := w.heap.size + 1) (B := B) (N := N) (D := D') (M := M') hB2 (by simp)
      clear hB2
      go_wp2_with fail
      all_goals go_ret
      all_goals exact ⟨rfl, by have hz := hB.out.bel; repeat (first | exact Below.refl _ _ | apply Below.setCell _ (by first | omega | (simp <;> omega)) | apply Below.alloc _ (by first | omega | (simp <;> omega)) | exact hz | refine after ?_ hz)⟩
end Go.Proofs.YtdkpmpkoelckoaaDoor
