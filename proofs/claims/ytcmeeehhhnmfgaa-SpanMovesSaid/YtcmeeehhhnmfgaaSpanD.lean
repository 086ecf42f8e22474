/- Contracts of Move. -/
import Derived.Test.YtcmeeehhhnmfgaaSpanB
namespace Go.Proofs.Ytcmeeehhhnmfgaa
open Go.RowKit
set_option linter.unusedVariables false

/-- may a span be moved so far? -/
def moveB (f t k : Int) : Bool := mayB f t && decide (-65536 ≤ k ∧ k ≤ 65536) && mayB (f + k) (t + k)

set_option maxHeartbeats 400000 in
theorem move_no (f t k : Int) (w : World) (hb : moveB f t k = false) :
    Calls Try.prog 20 #[.agg #[.int .i64 f, .int .i64 t], .int .i64 k] w fun e w' => e = .returned (.tuple #[.agg #[.int .i64 0, .int .i64 0], .int .i64 1]) ∧ Below w.heap.size w w' := by
  cases hm : mayB f t
  · clear hb
    go_enter Try.func20, Try.ntmps20
    go_wp2_with (go_at_call 24; refine (mayBe_any _ _ _).mono ?_; rintro e w' ⟨rfl, rfl⟩)
    refine bodyPost_ret (v := .tuple #[.agg #[.int .i64 0, .int .i64 0], .int .i64 1]) (by simp [results, Try.results20, go_sem]) rfl ?_
    exact ⟨rfl, by repeat (first | exact Below.refl _ _ | apply Below.setCell _ (by first | omega | (simp <;> omega)) | apply Below.alloc _ (by first | omega | (simp <;> omega)))⟩
  · obtain ⟨m1, m2, m3⟩ := mayB_iff.1 hm
    by_cases h1 : k < -65536
    · clear hb
      go_enter Try.func20, Try.ntmps20
      go_wp2_with (go_at_call 24; refine (mayBe_any _ _ _).mono ?_; rintro e w' ⟨rfl, rfl⟩)
      refine bodyPost_ret (v := .tuple #[.agg #[.int .i64 0, .int .i64 0], .int .i64 1]) (by simp [results, Try.results20, go_sem]) rfl ?_
      exact ⟨rfl, by repeat (first | exact Below.refl _ _ | apply Below.setCell _ (by first | omega | (simp <;> omega)) | apply Below.alloc _ (by first | omega | (simp <;> omega)))⟩
    · by_cases h2 : 65536 < k
      · clear hb
        go_enter Try.func20, Try.ntmps20
        go_wp2_with (go_at_call 24; refine (mayBe_any _ _ _).mono ?_; rintro e w' ⟨rfl, rfl⟩)
        refine bodyPost_ret (v := .tuple #[.agg #[.int .i64 0, .int .i64 0], .int .i64 1]) (by simp [results, Try.results20, go_sem]) rfl ?_
        exact ⟨rfl, by repeat (first | exact Below.refl _ _ | apply Below.setCell _ (by first | omega | (simp <;> omega)) | apply Below.alloc _ (by first | omega | (simp <;> omega)))⟩
      · have ho : mayB (f + k) (t + k) = false := by simpa [moveB, hm, show -65536 ≤ k by omega, show k ≤ 65536 by omega] using hb
        have HO := Lib.hid ho
        clear hb ho
        go_enter Try.func20, Try.ntmps20
        go_wp2_with (go_at_call 24; refine (mayBe_any _ _ _).mono ?_; rintro e w' ⟨rfl, rfl⟩)
        go_wp2_with (go_at_call 10; refine (of_no _ _ _ HO.out).mono ?_; rintro e w1 ⟨rfl, hb1⟩; obtain ⟨hc, hf⟩ := bcell hb1)
        have hz : w.heap.size + 1 < w1.heap.size := by have := hb1.size; simp at this; omega
        refine bodyPost_ret (v := .tuple #[.agg #[.int .i64 0, .int .i64 0], .int .i64 1]) (by simp [results, Try.results20, go_sem, hc]) rfl ?_
        exact ⟨rfl, by repeat (first | exact Below.refl _ _ | apply Below.setCell _ (by first | omega | (simp <;> omega)) | apply Below.alloc _ (by first | omega | (simp <;> omega)) | exact hb1 | refine after ?_ hb1)⟩

set_option maxHeartbeats 400000 in
theorem move_yes (f t k : Int) (w : World) (hb : moveB f t k = true) :
    Calls Try.prog 20 #[.agg #[.int .i64 f, .int .i64 t], .int .i64 k] w fun e w' => e = .returned (.tuple #[.agg #[.int .i64 (f + k), .int .i64 (t + k)], .int .i64 0]) ∧ Below w.heap.size w w' := by
  have hb' : (mayB f t = true ∧ -65536 ≤ k ∧ k ≤ 65536) ∧ mayB (f + k) (t + k) = true := by simpa [moveB] using hb
  obtain ⟨⟨hm, h1, h2⟩, ho⟩ := hb'
  obtain ⟨m1, m2, m3⟩ := mayB_iff.1 hm
  have HO := Lib.hid ho
  clear hb ho
  go_enter Try.func20, Try.ntmps20
  go_wp2_with (go_at_call 24; refine (mayBe_any _ _ _).mono ?_; rintro e w' ⟨rfl, rfl⟩)
  go_wp2_with (go_at_call 10; refine (of_yes _ _ _ HO.out).mono ?_; rintro e w1 ⟨rfl, hb1⟩; obtain ⟨hc, hf⟩ := bcell hb1)
  have hz : w.heap.size + 1 < w1.heap.size := by have := hb1.size; simp at this; omega
  refine bodyPost_ret (v := .tuple #[.agg #[.int .i64 (f + k), .int .i64 (t + k)], .int .i64 0]) (by simp [results, Try.results20, go_sem, hc]) rfl ?_
  exact ⟨rfl, by repeat (first | exact Below.refl _ _ | apply Below.setCell _ (by first | omega | (simp <;> omega)) | apply Below.alloc _ (by first | omega | (simp <;> omega)) | exact hb1 | refine after ?_ hb1)⟩

end Go.Proofs.Ytcmeeehhhnmfgaa
