/- SpanGaps: the walk's short ways. -/
import Derived.Test.YtonohpbkbifhnaaGapsN
import Derived.Test.YtonohpbkbifhnaaGapFacts
namespace Go.Proofs.Ytonohpbkbifhnaa
open Go Go.RowKit
set_option linter.unusedVariables false

set_option maxRecDepth 100000 in
theorem gapsl_far (m : Int) (src : Option Addr) (n cap : Nat) (w : World) (hn : n ≤ maxLen) (h : 60 < n ∨ 3000 < m) :
    Calls Try.prog 8 #[.int .i64 m, .slice src n cap] w fun e w' => e = .returned (.bool true) ∧ Below w.heap.size w w' := by
  have HN := Lib.hid hn
  unfold maxLen at hn
  go_enter Try.func8, Try.ntmps8
  go_wp2_with fail
  refine (spans_any _).mono ?_
  rintro e w1 ⟨rfl, h01⟩
  by_cases h1 : 60 < n
  · go_wp2_with fail
    go_ret
    exact ⟨rfl, h01⟩
  · have h2 : 3000 < m := by omega
    go_wp2_with fail
    go_ret
    exact ⟨rfl, h01⟩

theorem chk_neg (m : Int) (h : m < 0) : chkB 0 0 m = false := by
  cases hc : chkB 0 0 m
  · rfl
  · have := chkB_iff.1 hc; omega

set_option maxRecDepth 100000 in
theorem gapsl_neg (m : Int) (src : Option Addr) (n cap : Nat) (w : World) (hn : n ≤ 60) (h : m < 0) :
    Calls Try.prog 8 #[.int .i64 m, .slice src n cap] w fun e w' => e = .returned (.bool true) ∧ Below w.heap.size w w' := by
  have HG := Lib.hid (fun w => gaps_range m (.slice src n cap) w (chk_neg m h))
  go_enter Try.func8, Try.ntmps8
  go_wp2_with fail
  refine (spans_any _).mono ?_
  rintro e w1 ⟨rfl, h01⟩
  go_wp2_with fail
  refine (HG.out _).mono ?_
  rintro e w2 ⟨rfl, h12⟩
  go_wp2_with fail
  go_ret
  exact ⟨rfl, after h01 h12⟩

end Go.Proofs.Ytonohpbkbifhnaa
