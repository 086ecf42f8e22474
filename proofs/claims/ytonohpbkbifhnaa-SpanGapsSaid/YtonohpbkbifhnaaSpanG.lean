/- Contracts of Text, and of the statements' own first question (spans). -/
import Derived.Test.YtonohpbkbifhnaaSpanB
import Derived.Test.YtonohpbkbifhnaaSpanF
import Derived.Test.YtonohpbkbifhnaaShelf
namespace Go.Proofs.Ytonohpbkbifhnaa
open Go.RowKit
set_option linter.unusedVariables false

theorem clone_any (s : ByteArray) (w : World) (h : s.size ≤ 281474976710656) :
    Calls Try.prog 27 #[.string s] w fun e w' => e = .returned (.string s) ∧ Below w.heap.size w w' := by
  go_enter Try.func27, Try.ntmps27
  go_wp2_with (go_at_call 30; refine (Try.stringslite_Clone _ _ h).mono ?_; rintro e w' ⟨rfl, hb1⟩)
  go_ret
  exact ⟨rfl, hb1⟩

theorem chkB_iff {f t n : Int} : chkB f t n = true ↔ (0 ≤ f ∧ f ≤ t ∧ t ≤ 65536) ∧ t ≤ n ∧ n ≤ 65536 := by
  unfold chkB; rw [Bool.and_eq_true, mayB_iff]; simp

set_option maxHeartbeats 400000 in
theorem text_no (s : ByteArray) (f t : Int) (w : World) (hb : chkB f t s.size = false) :
    Calls Try.prog 21 #[.string s, .agg #[.int .i64 f, .int .i64 t]] w fun e w' => e = .returned (.tuple #[.string ⟨#[]⟩, .int .i64 1]) ∧ Below w.heap.size w w' := by
  have H := Lib.hid hb
  clear hb
  have E := Lib.hid (show errI (chkB f t s.size) 1 = 1 by rw [H.out]; rfl)
  go_enter Try.func21, Try.ntmps21
  go_wp2_with (go_at_call 11; refine (check_any _ _ _ _).mono ?_; rw [E.out]; rintro e w1 ⟨rfl, hb1⟩; obtain ⟨hc, hf⟩ := bcell hb1)
  go_ret2
  exact ⟨rfl, by repeat (first | exact Below.refl _ _ | apply Below.setCell _ (by first | omega | (simp <;> omega)) | apply Below.alloc _ (by first | omega | (simp <;> omega)) | exact hb1 | refine after ?_ hb1)⟩

set_option maxHeartbeats 400000 in
theorem text_yes (s : ByteArray) (f t : Nat) (w : World) (hb : chkB f t s.size = true) :
    Calls Try.prog 21 #[.string s, .agg #[.int .i64 f, .int .i64 t]] w fun e w' => e = .returned (.tuple #[.string (s.extract f t), .int .i64 0]) ∧ Below w.heap.size w w' := by
  have H := Lib.hid hb
  obtain ⟨⟨h1, h2, h3⟩, h4, h5⟩ := chkB_iff.1 hb
  clear hb
  have h2' : f ≤ t := by omega
  have h4' : t ≤ s.size := by omega
  have h5' : s.size ≤ 65536 := by omega
  have h6 : (s.extract f t).size ≤ 281474976710656 := by simp; omega
  have E := Lib.hid (show errI (chkB f t s.size) 1 = 0 by rw [H.out]; rfl)
  go_enter Try.func21, Try.ntmps21
  go_wp2_with (first | (go_at_call 11; refine (check_any _ _ _ _).mono ?_; rw [E.out]; rintro e w1 ⟨rfl, hb1⟩; obtain ⟨hc, hf⟩ := bcell hb1) | (go_at_call 27; refine (clone_any _ _ h6).mono ?_; rintro e w2 ⟨rfl, hb2⟩))
  go_ret2
  exact ⟨rfl, by repeat (first | exact Below.refl _ _ | apply Below.setCell _ (by first | omega | (simp <;> omega)) | apply Below.alloc _ (by first | omega | (simp <;> omega)) | exact hb2 | refine after ?_ hb2 | exact hb1 | refine after ?_ hb1)⟩

/-- a new box of two cells, and a call behind it -/
theorem box2 {w w1 : World} {a b : Value} {T : TypeId} (h : Below (w.alloc (.cells #[a, b] T)).heap.size (w.alloc (.cells #[a, b] T)) w1) :
    Below w.heap.size w w1 ∧ w1.cell? ⟨w.heap.size, 0, none⟩ = some a ∧ w1.cell? ⟨w.heap.size, 1, none⟩ = some b ∧ w.heap.size < w1.heap.size := by
  obtain ⟨hc, hf⟩ := bcell h
  have hz := h.size
  simp at hz
  refine ⟨after ((Below.refl _ _).alloc (Nat.le_refl _) _) h, ?_, ?_, by omega⟩
  · rw [hc _ _ (by simp)]; simp [go_sem]
  · rw [hc _ _ (by simp)]; simp [go_sem]
/-- the same behind another new block -/
theorem box3 {w w1 : World} {o : Obj} {a b : Value} {T : TypeId} (h : Below ((w.alloc o).alloc (.cells #[a, b] T)).heap.size ((w.alloc o).alloc (.cells #[a, b] T)) w1) :
    Below w.heap.size w w1 ∧ w1.cell? ⟨w.heap.size + 1, 0, none⟩ = some a ∧ w1.cell? ⟨w.heap.size + 1, 1, none⟩ = some b ∧ w.heap.size + 1 < w1.heap.size := by
  obtain ⟨h1, h2, h3, h4⟩ := box2 h
  simp only [World.size_alloc] at h2 h3 h4
  exact ⟨after ((Below.refl _ _).alloc (Nat.le_refl _) _) h1, h2, h3, h4⟩
/-- an older cell, behind a call -/
theorem keep {w w1 : World} {B o : Nat} {v : Value} (h : Below w.heap.size w w1) (hB : B < w.heap.size) (c : w.cell? ⟨B, o, none⟩ = some v) : w1.cell? ⟨B, o, none⟩ = some v :=
  (h.cell (p := ⟨B, o, none⟩) hB).trans c

set_option maxHeartbeats 1000000 in
theorem spans_any (w : World) :
    Calls Try.prog 9 #[] w fun e w' => e = .returned (.bool true) ∧ Below w.heap.size w w' := by
  have m1 : mayB 2 5 = true := by decide
  have m2 : mayB 5 9 = true := by decide
  go_enter Try.func9, Try.ntmps9
  go_wp2_with fail
  refine (of_yes _ _ _ m1).mono ?_
  rintro e w1 ⟨rfl, hb1⟩
  go_wp2_with fail
  refine (of_yes _ _ _ m2).mono ?_
  rintro e w2 ⟨rfl, hb2⟩
  obtain ⟨h12, a0, a1, z12⟩ := box2 hb2
  clear hb2
  go_wp2_with fail
  have r1 : SpanAt ((w2.alloc (.cells #[.int .i64 5, .int .i64 9] 24)).alloc (.cells #[.int .i64 2, .int .i64 5, .int .i64 5, .int .i64 9] 24)) (w2.heap.size + 1) 0 [(2, 5), (5, 9)] := by
    intro i hi
    match i, hi with
    | 0, _ => simp [go_sem]
    | 1, _ => simp [go_sem]
  refine (cover_some (w2.heap.size + 1) 0 2 2 2 5 [(5, 9)] _ rfl (by decide) (by decide) (by simp) r1 (by decide)).mono ?_
  rw [show covF 2 [(5, 9)] = 2 by decide, show covT 5 [(5, 9)] = 9 by decide]
  rintro e w3 ⟨rfl, hb3⟩
  obtain ⟨h23, b0, b1, z23⟩ := box2 (after ((Below.refl _ _).alloc (Nat.le_refl _) _) hb3)
  replace a0 := keep h23 z12 a0
  replace a1 := keep h23 z12 a1
  have z13 : w1.heap.size < w3.heap.size := by omega
  clear hb3 r1
  go_wp2_with fail
  refine (text_yes _ 2 5 _ (by decide)).mono ?_
  rw [show (ByteArray.extract ⟨#[97, 98, 99, 100, 101, 102, 103, 104, 105, 106]⟩ 2 5) = ⟨#[99, 100, 101]⟩ by decide]
  rintro e w4 ⟨rfl, hb4⟩
  obtain ⟨h34, c0, c1, z34⟩ := box2 hb4
  replace a0 := keep h34 z13 a0
  replace a1 := keep h34 z13 a1
  replace b0 := keep h34 z23 b0
  replace b1 := keep h34 z23 b1
  have z14 : w1.heap.size < w4.heap.size := by omega
  have z24 : w2.heap.size < w4.heap.size := by omega
  clear hb4
  go_wp2_with fail
  refine (apart_any _ _ _ _ _).mono ?_
  rw [show apartB 2 5 5 9 = true by decide]
  rintro e w5 ⟨rfl, h45⟩
  replace b0 := keep h45 z24 b0
  replace b1 := keep h45 z24 b1
  have z25 : w2.heap.size < w5.heap.size := by have := h45.size; omega
  go_wp2_with fail
  refine (len_any _ _ _).mono ?_
  rw [show lenI 5 9 = 4 by decide]
  rintro e w6 ⟨rfl, h56⟩
  go_wp2_with fail
  go_ret
  exact ⟨rfl, after (after (after (after (after hb1 h12) h23) h34) h45) h56⟩

end Go.Proofs.Ytonohpbkbifhnaa
