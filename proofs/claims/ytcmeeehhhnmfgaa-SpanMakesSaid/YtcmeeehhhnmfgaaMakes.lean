/- SpanMakes: the walk. -/
import Derived.Test.YtcmeeehhhnmfgaaSpanG
namespace Go.Proofs.Ytcmeeehhhnmfgaa
open Go.RowKit
set_option linter.unusedVariables false

set_option maxHeartbeats 1000000 in
theorem makes_bad (f t n : Int) (w : World) (hm : mayB f t = false) :
    Calls Try.prog 3 #[.int .i64 f, .int .i64 t, .int .i64 n] w fun e w' => e = .returned (.bool true) ∧ Below w.heap.size w w' := by
  have HM := Lib.hid hm
  have HC := Lib.hid (show errI (chkB f t n) 1 = 1 by simp [chkB, hm, errI])
  have HL := Lib.hid (lenI_no hm)
  have hways : f < 0 ∨ (0 ≤ f ∧ t < f) ∨ (0 ≤ f ∧ f ≤ t ∧ 65536 < t) := by
    have : ¬ (0 ≤ f ∧ f ≤ t ∧ t ≤ 65536) := fun h => by rw [mayB_iff.2 h] at hm; exact absurd hm (by simp)
    omega
  clear hm
  rcases hways with h1 | ⟨h1, h2⟩ | ⟨h1, h2, h3⟩
  all_goals
    go_enter Try.func3, Try.ntmps3
    go_wp2_with fail
    refine (spans_any _).mono ?_
    rintro e w1 ⟨rfl, h01⟩
    go_wp2_with fail
    refine (of_no _ _ _ HM.out).mono ?_
    rintro e w2 ⟨rfl, h12⟩
    go_wp2_with fail
    refine (check_any _ _ _ _).mono ?_
    rw [HC.out]
    rintro e w3 ⟨rfl, h⟩
    obtain ⟨h23, b0, b1, z23⟩ := box3 h
    clear h
    go_wp2_with fail
    refine (len_any _ _ _).mono ?_
    rw [HL.out]
    rintro e w4 ⟨rfl, h34⟩
    go_wp2_with fail
    go_ret
    exact ⟨rfl, after (after (after h01 h12) h23) h34⟩

set_option maxHeartbeats 1000000 in
theorem makes_good (f t n : Int) (w : World) (hm : mayB f t = true) :
    Calls Try.prog 3 #[.int .i64 f, .int .i64 t, .int .i64 n] w fun e w' => e = .returned (.bool true) ∧ Below w.heap.size w w' := by
  have HM := Lib.hid hm
  obtain ⟨h1, h2, h3⟩ := mayB_iff.1 hm
  have HL := Lib.hid (lenI_yes hm)
  have hways : (n < t ∧ errI (chkB f t n) 1 = 1) ∨ (t ≤ n ∧ 65536 < n ∧ errI (chkB f t n) 1 = 1) ∨ (t ≤ n ∧ n ≤ 65536 ∧ errI (chkB f t n) 1 = 0) := by
    by_cases a : t ≤ n
    · by_cases b : n ≤ 65536
      · exact .inr (.inr ⟨a, b, by simp [chkB, hm, errI, a, b]⟩)
      · exact .inr (.inl ⟨a, by omega, by simp [chkB, hm, errI, a, b]⟩)
    · exact .inl ⟨by omega, by simp [chkB, hm, errI, a]⟩
  clear hm
  rcases hways with ⟨k1, hc⟩ | ⟨k1, k2, hc⟩ | ⟨k1, k2, hc⟩
  all_goals
    have HC := Lib.hid hc
    clear hc
    go_enter Try.func3, Try.ntmps3
    go_wp2_with fail
    refine (spans_any _).mono ?_
    rintro e w1 ⟨rfl, h01⟩
    go_wp2_with fail
    refine (of_yes _ _ _ HM.out).mono ?_
    rintro e w2 ⟨rfl, h12⟩
    go_wp2_with fail
    refine (check_any _ _ _ _).mono ?_
    rw [HC.out]
    rintro e w3 ⟨rfl, h⟩
    obtain ⟨h23, b0, b1, z23⟩ := box3 h
    clear h
    go_wp2_with fail
    refine (len_any _ _ _).mono ?_
    rw [HL.out]
    rintro e w4 ⟨rfl, h34⟩
    go_wp2_with fail
    go_ret
    exact ⟨by simp, after (after (after h01 h12) h23) h34⟩

theorem makes_any (f t n : Int) (w : World) :
    Calls Try.prog 3 #[.int .i64 f, .int .i64 t, .int .i64 n] w fun e w' => e = .returned (.bool true) ∧ Below w.heap.size w w' := by
  cases hm : mayB f t
  · exact makes_bad f t n w hm
  · exact makes_good f t n w hm

end Go.Proofs.Ytcmeeehhhnmfgaa
