/- SpanMoves: the walk. -/
import Derived.Test.YtcmeeehhhnmfgaaSpanD
import Derived.Test.YtcmeeehhhnmfgaaSpanG
namespace Go.Proofs.Ytcmeeehhhnmfgaa
open Go.RowKit
set_option linter.unusedVariables false

set_option maxHeartbeats 1000000 in
theorem moves_no (f t k : Int) (w : World) (hb : moveB f t k = false) :
    Calls Try.prog 6 #[.agg #[.int .i64 f, .int .i64 t], .int .i64 k] w fun e w' => e = .returned (.bool true) ∧ Below w.heap.size w w' := by
  have HB := Lib.hid hb
  have hways : mayB f t = false ∨ (mayB f t = true ∧ k < -65536) ∨ (mayB f t = true ∧ -65536 ≤ k ∧ 65536 < k ∧ decide (k ≤ 65536) = false) ∨ (mayB f t = true ∧ -65536 ≤ k ∧ k ≤ 65536 ∧ f < -k) ∨ (mayB f t = true ∧ -65536 ≤ k ∧ k ≤ 65536 ∧ -k ≤ f ∧ 65536 - k < t ∧ decide (t ≤ 65536 - k) = false) := by
    cases hm : mayB f t
    · exact .inl rfl
    · have hm' := mayB_iff.1 hm
      by_cases h1 : k < -65536
      · exact .inr (.inl ⟨rfl, h1⟩)
      · by_cases h2 : 65536 < k
        · exact .inr (.inr (.inl ⟨rfl, by omega, h2, by simp; omega⟩))
        · have h3 : mayB (f + k) (t + k) = false := by simpa [moveB, hm, show -65536 ≤ k by omega, show k ≤ 65536 by omega] using hb
          have h4 : ¬ (0 ≤ f + k ∧ f + k ≤ t + k ∧ t + k ≤ 65536) := fun h => by rw [mayB_iff.2 h] at h3; exact absurd h3 (by simp)
          by_cases h5 : f < -k
          · exact .inr (.inr (.inr (.inl ⟨rfl, by omega, by omega, h5⟩)))
          · exact .inr (.inr (.inr (.inr ⟨rfl, by omega, by omega, by omega, by omega, by simp; omega⟩)))
  clear hb
  rcases hways with hm | ⟨hm, k1⟩ | ⟨hm, k1, k2, d1⟩ | ⟨hm, k1, k2, k3⟩ | ⟨hm, k1, k2, k3, k4, d1⟩
  all_goals
    have HM := Lib.hid hm
    clear hm
    go_enter Try.func6, Try.ntmps6
    go_wp2_with fail; refine (spans_any _).mono ?_; rintro e w1 ⟨rfl, h⟩; obtain ⟨h01, a0, a1, z01⟩ := box2 h; clear h
    go_wp2_with fail
    refine (move_no _ _ _ _ HB.out).mono ?_
    rintro e w2 ⟨rfl, h12⟩
    replace a0 := keep h12 z01 a0
    replace a1 := keep h12 z01 a1
    have z02 : w.heap.size < w2.heap.size := by have := h12.size; omega
    go_wp2_with fail
    refine (may_any _ _ _).mono ?_
    rw [HM.out]
    rintro e w3 ⟨rfl, rfl⟩
    go_wp2_with fail
    go_ret
    exact ⟨rfl, by repeat (first | exact Below.refl _ _ | apply Below.setCell _ (by first | omega | (simp <;> omega)) | apply Below.alloc _ (by first | omega | (simp <;> omega)) | exact after h01 h12 | refine after ?_ after h01 h12)⟩

set_option maxHeartbeats 1000000 in
theorem moves_yes (f t k : Int) (w : World) (hb : moveB f t k = true) :
    Calls Try.prog 6 #[.agg #[.int .i64 f, .int .i64 t], .int .i64 k] w fun e w' => e = .returned (.bool true) ∧ Below w.heap.size w w' := by
  have HB := Lib.hid hb
  have hb' : (mayB f t = true ∧ -65536 ≤ k ∧ k ≤ 65536) ∧ mayB (f + k) (t + k) = true := by simpa [moveB] using hb
  obtain ⟨⟨hm, k1, k2⟩, ho⟩ := hb'
  obtain ⟨m1, m2, m3⟩ := mayB_iff.1 hm
  obtain ⟨m4, m5, m6⟩ := mayB_iff.1 ho
  have HM := Lib.hid hm
  have k3 : -k ≤ f := by omega
  have k4 : t ≤ 65536 - k := by omega
  have e1 : ((f + k - f : Int) == k) = true := by simp; omega
  have e2 : ((t + k - t : Int) == k) = true := by simp; omega
  clear hb hm ho
  go_enter Try.func6, Try.ntmps6
  go_wp2_with fail; refine (spans_any _).mono ?_; rintro e w1 ⟨rfl, h⟩; obtain ⟨h01, a0, a1, z01⟩ := box2 h; clear h
  go_wp2_with fail
  refine (move_yes _ _ _ _ HB.out).mono ?_
  rintro e w2 ⟨rfl, h12⟩
  replace a0 := keep h12 z01 a0
  replace a1 := keep h12 z01 a1
  have z02 : w.heap.size < w2.heap.size := by have := h12.size; omega
  go_wp2_with fail
  refine (may_any _ _ _).mono ?_
  rw [HM.out]
  rintro e w3 ⟨rfl, rfl⟩
  go_wp2_with fail
  go_ret
  exact ⟨by simp, by repeat (first | exact Below.refl _ _ | apply Below.setCell _ (by first | omega | (simp <;> omega)) | apply Below.alloc _ (by first | omega | (simp <;> omega)) | exact after h01 h12 | refine after ?_ after h01 h12)⟩

theorem moves_any (f t : Int) (_ : (Lit.int .i64 f).wf = true) (_ : (Lit.int .i64 t).wf = true) (k : Int) (_ : (Lit.int .i64 k).wf = true) (w : World) :
    Calls Try.prog 6 #[.agg #[.int .i64 f, .int .i64 t], .int .i64 k] w fun e w' => e = .returned (.bool true) ∧ Below w.heap.size w w' := by
  cases hm : moveB f t k
  · exact moves_no f t k w hm
  · exact moves_yes f t k w hm

end Go.Proofs.Ytcmeeehhhnmfgaa
