/- KindMarks: the walks. Written by gen_km.py. -/
import Derived.Test.YtdkpmpkoelckoaaDoorTyKF
namespace Go.Proofs.YtdkpmpkoelckoaaDoor
open Go Go.RowKit
set_option linter.unusedVariables false
set_option linter.unusedSimpArgs false
theorem with_bad (B : Int) (N : ByteArray) (D : Int) (M : ByteArray) (m : UInt8) (w : World) (hN : N.size ≤ 60) (hM : M.size ≤ 60) (hr : rightB B N D M = false) :
    Calls Tryd.prog 29 #[.agg #[.int .i64 B, .string N, .int .i64 D, .string M], .int .u8 (m.toNat : Int)] w fun e w' => e = .returned (.tuple #[.agg #[.int .i64 0, .string ⟨#[]⟩, .int .i64 0, .string ⟨#[]⟩], .int .i64 130]) ∧ Below w.heap.size w w' := by
  cases h : refB B N D M
  · exact with_no B N D M m w hN hM h
  · exact with_lit B N D M m w hN hM h hr
/-- the last mark is the last byte -/
theorem putM_last (M : ByteArray) (d : Nat) (m : UInt8) (hm : M.size = d + 1) : putM M d d m = M.extract 0 d ++ ⟨#[m]⟩ := by
  unfold putM
  have h0 : (M.extract (d + 1) (d + 1)).size = 0 := by rw [ByteArray.size_extract]; omega
  rw [empty_of _ h0]
  show M.extract 0 d ++ ⟨#[m]⟩ ++ ByteArray.empty = _
  rw [ByteArray.append_empty]

set_option maxHeartbeats 8000000 in
theorem km_big (B : Int) (N : ByteArray) (D : Int) (M : ByteArray) (l : Int) (m : UInt8) (w : World) (sN : N.size ≤ maxLen) (sM : M.size ≤ maxLen) (hs : sm (B, N, D, M) = false) :
    Calls Tryd.prog 6 #[.agg #[.int .i64 B, .string N, .int .i64 D, .string M], .int .i64 l, .int .u8 (m.toNat : Int)] w fun e w' => e = .returned (.bool true) ∧ Below w.heap.size w w' := by
  generalize m.toNat = mm at *
  go_enter Tryd.func6, Tryd.ntmps6
  go_wp2_with fail
  refine (sorts_any _).mono ?_
  rintro e w1 ⟨rfl, hb⟩
  have hB2 := Boxes.keep ((Boxes.new (Boxes.start w) B N D M 24)) hb
  clear hb
  have hB := Lib.hid hB2
  obtain ⟨l0_0, c0_0, c0_1, c0_2, c0_3, f0_0⟩ := Boxes.get (p := w.heap.size) (B := B) (N := N) (D := D) (M := M) hB2 (by simp)
  clear hB2
  go_wp2_with fail
  refine (small1 _ _ _ _ _ _ sN sM false hs).mono ?_
  rintro e w2 ⟨rfl, hb⟩
  have hB2 := Boxes.keep (hB.out) hb
  clear hb hB l0_0 c0_0 c0_1 c0_2 c0_3 f0_0
  have hB := Lib.hid hB2
  obtain ⟨l0_0, c0_0, c0_1, c0_2, c0_3, f0_0⟩ := Boxes.get (p := w.heap.size) (B := B) (N := N) (D := D) (M := M) hB2 (by simp)
  clear hB2
  go_wp2_with fail
  all_goals go_ret
  all_goals exact ⟨rfl, by have hz := hB.out.bel; repeat (first | exact Below.refl _ _ | apply Below.setCell _ (by first | omega | (simp <;> omega)) | apply Below.alloc _ (by first | omega | (simp <;> omega)) | exact hz | refine after ?_ hz)⟩
set_option maxHeartbeats 8000000 in
theorem km_bad (B : Int) (N : ByteArray) (D : Int) (M : ByteArray) (l : Int) (m : UInt8) (w : World) (sN : N.size ≤ 60) (sM : M.size ≤ 60) (hr : rightB B N D M = false) :
    Calls Tryd.prog 6 #[.agg #[.int .i64 B, .string N, .int .i64 D, .string M], .int .i64 l, .int .u8 (m.toNat : Int)] w fun e w' => e = .returned (.bool true) ∧ Below w.heap.size w w' := by
  have HA := Lib.hid (fun w => mark_kind B N D M l m w sN sM hr)
  have HE := Lib.hid (fun w => with_bad B N D M m w sN sM hr)
  have HP := Lib.hid (fun w => plain_any B N D M w sM)
  rw [hr] at HP
  generalize m.toNat = mm at *
  clear hr
  go_enter Tryd.func6, Tryd.ntmps6
  go_wp2_with fail
  refine (sorts_any _).mono ?_
  rintro e w1 ⟨rfl, hb⟩
  have hB2 := Boxes.keep ((Boxes.new (Boxes.start w) B N D M 24)) hb
  clear hb
  have hB := Lib.hid hB2
  obtain ⟨l0_0, c0_0, c0_1, c0_2, c0_3, f0_0⟩ := Boxes.get (p := w.heap.size) (B := B) (N := N) (D := D) (M := M) hB2 (by simp)
  clear hB2
  go_wp2_with fail
  refine (small1 _ _ _ _ _ _ (by unfold maxLen; omega) (by unfold maxLen; omega) true (by unfold sm; simp; omega)).mono ?_
  rintro e w2 ⟨rfl, hb⟩
  have hB2 := Boxes.keep (hB.out) hb
  clear hb hB l0_0 c0_0 c0_1 c0_2 c0_3 f0_0
  have hB := Lib.hid hB2
  obtain ⟨l0_0, c0_0, c0_1, c0_2, c0_3, f0_0⟩ := Boxes.get (p := w.heap.size) (B := B) (N := N) (D := D) (M := M) hB2 (by simp)
  clear hB2
  go_wp2_with fail
  refine (HA.out _).mono ?_
  rintro e w3 ⟨rfl, hb⟩
  have hB2 := Boxes.keep (hB.out) hb
  clear hb hB l0_0 c0_0 c0_1 c0_2 c0_3 f0_0
  have hB := Lib.hid hB2
  obtain ⟨l0_0, c0_0, c0_1, c0_2, c0_3, f0_0⟩ := Boxes.get (p := w.heap.size) (B := B) (N := N) (D := D) (M := M) hB2 (by simp)
  clear hB2
  go_wp2_with fail
  refine (HE.out _).mono ?_
  rintro e w4 ⟨rfl, hb⟩
  have hB2 := Boxes.keep (Boxes.new (hB.out) 0 (⟨#[]⟩) 0 (⟨#[]⟩) 24) hb
  clear hb hB l0_0 c0_0 c0_1 c0_2 c0_3 f0_0
  have hB := Lib.hid hB2
  obtain ⟨l0_0, c0_0, c0_1, c0_2, c0_3, f0_0⟩ := Boxes.get (p := w3.heap.size) (B := 0) (N := ⟨#[]⟩) (D := 0) (M := ⟨#[]⟩) hB2 (by simp)
  obtain ⟨l1_0, c1_0, c1_1, c1_2, c1_3, f1_0⟩ := Boxes.get (p := w.heap.size) (B := B) (N := N) (D := D) (M := M) hB2 (by simp)
  clear hB2
  go_wp2_with fail
  refine (HP.out _).mono ?_
  rintro e w5 ⟨rfl, hb⟩
  have hB2 := Boxes.keep (Boxes.new (hB.out) 0 (⟨#[]⟩) 0 (⟨#[]⟩) 24) hb
  clear hb hB l0_0 c0_0 c0_1 c0_2 c0_3 f0_0 l1_0 c1_0 c1_1 c1_2 c1_3 f1_0
  have hB := Lib.hid hB2
  obtain ⟨l0_0, c0_0, c0_1, c0_2, c0_3, f0_0⟩ := Boxes.get (p := w4.heap.size) (B := 0) (N := ⟨#[]⟩) (D := 0) (M := ⟨#[]⟩) hB2 (by simp)
  obtain ⟨l1_0, c1_0, c1_1, c1_2, c1_3, f1_0⟩ := Boxes.get (p := w3.heap.size) (B := 0) (N := ⟨#[]⟩) (D := 0) (M := ⟨#[]⟩) hB2 (by simp)
  obtain ⟨l2_0, c2_0, c2_1, c2_2, c2_3, f2_0⟩ := Boxes.get (p := w.heap.size) (B := B) (N := N) (D := D) (M := M) hB2 (by simp)
  clear hB2
  go_wp2_with fail
  all_goals go_ret
  all_goals exact ⟨rfl, by have hz := hB.out.bel; repeat (first | exact Below.refl _ _ | apply Below.setCell _ (by first | omega | (simp <;> omega)) | apply Below.alloc _ (by first | omega | (simp <;> omega)) | exact hz | refine after ?_ hz)⟩
end Go.Proofs.YtdkpmpkoelckoaaDoor
