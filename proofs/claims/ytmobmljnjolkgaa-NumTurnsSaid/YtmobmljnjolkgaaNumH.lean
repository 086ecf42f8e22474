/- A double becomes a whole number, and a whole number the nearest double: the walk. -/
import Derived.Test.YtmobmljnjolkgaaNumG
namespace Go.Proofs.Ytmobmljnjolkgaa
open Go.RowKit
set_option linter.unusedVariables false

set_option maxRecDepth 100000 in
set_option maxHeartbeats 2000000 in
theorem numTurns_nat (a : Nat) (ha : a < 18446744073709551616) (n : Int) (n1 : -9223372036854775808 ≤ n) (n2 : n ≤ 9223372036854775807) (w : World) :
    Calls Try.prog 7 #[.int .u64 (a : Nat), .int .i64 n] w fun e w' => e = .returned (.bool true) ∧ Below w.heap.size w w' := by
  have HI := Lib.hid (fun w => toint_any a w)
  have HF := Lib.hid (fun w => tofloat_any n w)
  have HRI := Lib.hid (fun w => rtoint_any a w ha)
  have HRF := Lib.hid (fun w => rtofloat_any n w n1 n2)
  have HB := Lib.hid (fun w => toint_any (toF n) w)
  have HNO := Lib.hid (fun w => norm_any a w)
  have HNA := Lib.hid (fun w => rnone_any a w ha)
  have hback := toI_toF n
  have hz : nanB a = true → norm a = 9221120237041090561 := fun h => norm_nan (of_decide_eq_true h)
  have hz2 : nanB a = false → norm a = a := fun h => norm_of (of_decide_eq_false h)
  cases na : nanB a
  · rw [hz2 na] at HNO
    rw [na] at HNA
    clear hz hz2
    by_cases hn : n.natAbs ≤ 9007199254740992
    · rw [hback hn] at HB
      have m1 : -9007199254740992 ≤ n := by omega
      have m2 : n ≤ 9007199254740992 := by omega
      clear hback hn na
      generalize toF n = f at *
      generalize toI a = k at *
      go_enter Try.func7, Try.ntmps7
      go_wp2_with fail
      refine (reckons_any _).mono ?_
      rintro e w1 ⟨rfl, q0, rfl⟩
      go_wp2_with fail
      refine (HI.out _).mono ?_
      rintro e w2 ⟨rfl, rfl⟩
      go_wp2_with fail
      refine (HF.out _).mono ?_
      rintro e w2 ⟨rfl, rfl⟩
      go_wp2_with fail
      refine (HRI.out _).mono ?_
      rintro e w2 ⟨rfl, rfl⟩
      go_wp2_with fail
      refine (HRF.out _).mono ?_
      rintro e w2 ⟨rfl, rfl⟩
      go_wp2_with (first | ((with_reducible refine (HB.out _).mono ?_); rintro e w2 ⟨rfl, rfl⟩) | (go_at_call 27; refine (HB.out _).mono ?_; rintro e w2 ⟨rfl, rfl⟩) | (go_at_call 31; refine (HNO.out _).mono ?_; rintro e w2 ⟨rfl, rfl⟩) | (go_at_call 32; refine (HNA.out _).mono ?_; rintro e w2 ⟨rfl, rfl⟩))
      all_goals go_ret
      all_goals exact ⟨rfl, drew_below _ _⟩
    · clear hback na
      by_cases m1 : -9007199254740992 ≤ n
      · have m2 : ¬ n ≤ 9007199254740992 := by omega
        clear hn
        generalize toF n = f at *
        generalize toI a = k at *
        go_enter Try.func7, Try.ntmps7
        go_wp2_with fail
        refine (reckons_any _).mono ?_
        rintro e w1 ⟨rfl, q0, rfl⟩
        go_wp2_with fail
        refine (HI.out _).mono ?_
        rintro e w2 ⟨rfl, rfl⟩
        go_wp2_with fail
        refine (HF.out _).mono ?_
        rintro e w2 ⟨rfl, rfl⟩
        go_wp2_with fail
        refine (HRI.out _).mono ?_
        rintro e w2 ⟨rfl, rfl⟩
        go_wp2_with fail
        refine (HRF.out _).mono ?_
        rintro e w2 ⟨rfl, rfl⟩
        go_wp2_with (first | ((with_reducible refine (HB.out _).mono ?_); rintro e w2 ⟨rfl, rfl⟩) | (go_at_call 27; refine (HB.out _).mono ?_; rintro e w2 ⟨rfl, rfl⟩) | (go_at_call 31; refine (HNO.out _).mono ?_; rintro e w2 ⟨rfl, rfl⟩) | (go_at_call 32; refine (HNA.out _).mono ?_; rintro e w2 ⟨rfl, rfl⟩))
        all_goals go_ret
        all_goals exact ⟨rfl, drew_below _ _⟩
      · clear hn
        generalize toF n = f at *
        generalize toI a = k at *
        go_enter Try.func7, Try.ntmps7
        go_wp2_with fail
        refine (reckons_any _).mono ?_
        rintro e w1 ⟨rfl, q0, rfl⟩
        go_wp2_with fail
        refine (HI.out _).mono ?_
        rintro e w2 ⟨rfl, rfl⟩
        go_wp2_with fail
        refine (HF.out _).mono ?_
        rintro e w2 ⟨rfl, rfl⟩
        go_wp2_with fail
        refine (HRI.out _).mono ?_
        rintro e w2 ⟨rfl, rfl⟩
        go_wp2_with fail
        refine (HRF.out _).mono ?_
        rintro e w2 ⟨rfl, rfl⟩
        go_wp2_with (first | ((with_reducible refine (HB.out _).mono ?_); rintro e w2 ⟨rfl, rfl⟩) | (go_at_call 27; refine (HB.out _).mono ?_; rintro e w2 ⟨rfl, rfl⟩) | (go_at_call 31; refine (HNO.out _).mono ?_; rintro e w2 ⟨rfl, rfl⟩) | (go_at_call 32; refine (HNA.out _).mono ?_; rintro e w2 ⟨rfl, rfl⟩))
        all_goals go_ret
        all_goals exact ⟨rfl, drew_below _ _⟩
  · rw [hz na] at HNO
    rw [na] at HNA
    have hne : (9221120237041090561 == (a : Int)) = true ∨ (9221120237041090561 == (a : Int)) = false := by cases (9221120237041090561 == (a : Int)) <;> simp
    clear hz hz2
    by_cases hn : n.natAbs ≤ 9007199254740992
    · rw [hback hn] at HB
      have m1 : -9007199254740992 ≤ n := by omega
      have m2 : n ≤ 9007199254740992 := by omega
      clear hback hn na
      generalize toF n = f at *
      generalize toI a = k at *
      rcases hne with hne | hne
      · skip
        go_enter Try.func7, Try.ntmps7
        go_wp2_with fail
        refine (reckons_any _).mono ?_
        rintro e w1 ⟨rfl, q0, rfl⟩
        go_wp2_with fail
        refine (HI.out _).mono ?_
        rintro e w2 ⟨rfl, rfl⟩
        go_wp2_with fail
        refine (HF.out _).mono ?_
        rintro e w2 ⟨rfl, rfl⟩
        go_wp2_with fail
        refine (HRI.out _).mono ?_
        rintro e w2 ⟨rfl, rfl⟩
        go_wp2_with fail
        refine (HRF.out _).mono ?_
        rintro e w2 ⟨rfl, rfl⟩
        go_wp2_with (first | ((with_reducible refine (HB.out _).mono ?_); rintro e w2 ⟨rfl, rfl⟩) | (go_at_call 27; refine (HB.out _).mono ?_; rintro e w2 ⟨rfl, rfl⟩) | (go_at_call 31; refine (HNO.out _).mono ?_; rintro e w2 ⟨rfl, rfl⟩) | (go_at_call 32; refine (HNA.out _).mono ?_; rintro e w2 ⟨rfl, rfl⟩))
        all_goals go_ret
        all_goals exact ⟨rfl, drew_below _ _⟩
      · skip
        go_enter Try.func7, Try.ntmps7
        go_wp2_with fail
        refine (reckons_any _).mono ?_
        rintro e w1 ⟨rfl, q0, rfl⟩
        go_wp2_with fail
        refine (HI.out _).mono ?_
        rintro e w2 ⟨rfl, rfl⟩
        go_wp2_with fail
        refine (HF.out _).mono ?_
        rintro e w2 ⟨rfl, rfl⟩
        go_wp2_with fail
        refine (HRI.out _).mono ?_
        rintro e w2 ⟨rfl, rfl⟩
        go_wp2_with fail
        refine (HRF.out _).mono ?_
        rintro e w2 ⟨rfl, rfl⟩
        go_wp2_with (first | ((with_reducible refine (HB.out _).mono ?_); rintro e w2 ⟨rfl, rfl⟩) | (go_at_call 27; refine (HB.out _).mono ?_; rintro e w2 ⟨rfl, rfl⟩) | (go_at_call 31; refine (HNO.out _).mono ?_; rintro e w2 ⟨rfl, rfl⟩) | (go_at_call 32; refine (HNA.out _).mono ?_; rintro e w2 ⟨rfl, rfl⟩))
        all_goals go_ret
        all_goals exact ⟨rfl, drew_below _ _⟩
    · clear hback na
      by_cases m1 : -9007199254740992 ≤ n
      · have m2 : ¬ n ≤ 9007199254740992 := by omega
        clear hn
        generalize toF n = f at *
        generalize toI a = k at *
        rcases hne with hne | hne
        · skip
          go_enter Try.func7, Try.ntmps7
          go_wp2_with fail
          refine (reckons_any _).mono ?_
          rintro e w1 ⟨rfl, q0, rfl⟩
          go_wp2_with fail
          refine (HI.out _).mono ?_
          rintro e w2 ⟨rfl, rfl⟩
          go_wp2_with fail
          refine (HF.out _).mono ?_
          rintro e w2 ⟨rfl, rfl⟩
          go_wp2_with fail
          refine (HRI.out _).mono ?_
          rintro e w2 ⟨rfl, rfl⟩
          go_wp2_with fail
          refine (HRF.out _).mono ?_
          rintro e w2 ⟨rfl, rfl⟩
          go_wp2_with (first | ((with_reducible refine (HB.out _).mono ?_); rintro e w2 ⟨rfl, rfl⟩) | (go_at_call 27; refine (HB.out _).mono ?_; rintro e w2 ⟨rfl, rfl⟩) | (go_at_call 31; refine (HNO.out _).mono ?_; rintro e w2 ⟨rfl, rfl⟩) | (go_at_call 32; refine (HNA.out _).mono ?_; rintro e w2 ⟨rfl, rfl⟩))
          all_goals go_ret
          all_goals exact ⟨rfl, drew_below _ _⟩
        · skip
          go_enter Try.func7, Try.ntmps7
          go_wp2_with fail
          refine (reckons_any _).mono ?_
          rintro e w1 ⟨rfl, q0, rfl⟩
          go_wp2_with fail
          refine (HI.out _).mono ?_
          rintro e w2 ⟨rfl, rfl⟩
          go_wp2_with fail
          refine (HF.out _).mono ?_
          rintro e w2 ⟨rfl, rfl⟩
          go_wp2_with fail
          refine (HRI.out _).mono ?_
          rintro e w2 ⟨rfl, rfl⟩
          go_wp2_with fail
          refine (HRF.out _).mono ?_
          rintro e w2 ⟨rfl, rfl⟩
          go_wp2_with (first | ((with_reducible refine (HB.out _).mono ?_); rintro e w2 ⟨rfl, rfl⟩) | (go_at_call 27; refine (HB.out _).mono ?_; rintro e w2 ⟨rfl, rfl⟩) | (go_at_call 31; refine (HNO.out _).mono ?_; rintro e w2 ⟨rfl, rfl⟩) | (go_at_call 32; refine (HNA.out _).mono ?_; rintro e w2 ⟨rfl, rfl⟩))
          all_goals go_ret
          all_goals exact ⟨rfl, drew_below _ _⟩
      · clear hn
        generalize toF n = f at *
        generalize toI a = k at *
        rcases hne with hne | hne
        · skip
          go_enter Try.func7, Try.ntmps7
          go_wp2_with fail
          refine (reckons_any _).mono ?_
          rintro e w1 ⟨rfl, q0, rfl⟩
          go_wp2_with fail
          refine (HI.out _).mono ?_
          rintro e w2 ⟨rfl, rfl⟩
          go_wp2_with fail
          refine (HF.out _).mono ?_
          rintro e w2 ⟨rfl, rfl⟩
          go_wp2_with fail
          refine (HRI.out _).mono ?_
          rintro e w2 ⟨rfl, rfl⟩
          go_wp2_with fail
          refine (HRF.out _).mono ?_
          rintro e w2 ⟨rfl, rfl⟩
          go_wp2_with (first | ((with_reducible refine (HB.out _).mono ?_); rintro e w2 ⟨rfl, rfl⟩) | (go_at_call 27; refine (HB.out _).mono ?_; rintro e w2 ⟨rfl, rfl⟩) | (go_at_call 31; refine (HNO.out _).mono ?_; rintro e w2 ⟨rfl, rfl⟩) | (go_at_call 32; refine (HNA.out _).mono ?_; rintro e w2 ⟨rfl, rfl⟩))
          all_goals go_ret
          all_goals exact ⟨rfl, drew_below _ _⟩
        · skip
          go_enter Try.func7, Try.ntmps7
          go_wp2_with fail
          refine (reckons_any _).mono ?_
          rintro e w1 ⟨rfl, q0, rfl⟩
          go_wp2_with fail
          refine (HI.out _).mono ?_
          rintro e w2 ⟨rfl, rfl⟩
          go_wp2_with fail
          refine (HF.out _).mono ?_
          rintro e w2 ⟨rfl, rfl⟩
          go_wp2_with fail
          refine (HRI.out _).mono ?_
          rintro e w2 ⟨rfl, rfl⟩
          go_wp2_with fail
          refine (HRF.out _).mono ?_
          rintro e w2 ⟨rfl, rfl⟩
          go_wp2_with (first | ((with_reducible refine (HB.out _).mono ?_); rintro e w2 ⟨rfl, rfl⟩) | (go_at_call 27; refine (HB.out _).mono ?_; rintro e w2 ⟨rfl, rfl⟩) | (go_at_call 31; refine (HNO.out _).mono ?_; rintro e w2 ⟨rfl, rfl⟩) | (go_at_call 32; refine (HNA.out _).mono ?_; rintro e w2 ⟨rfl, rfl⟩))
          all_goals go_ret
          all_goals exact ⟨rfl, drew_below _ _⟩

theorem numTurns_any (x : Int) (hx : (Lit.int .u64 x).wf = true) (n : Int) (hn : (Lit.int .i64 n).wf = true) (w : World) :
    Calls Try.prog 7 #[.int .u64 x, .int .i64 n] w fun e w' => e = .returned (.bool true) ∧ Below w.heap.size w w' := by
  obtain ⟨a, rfl, ha⟩ := wfu64 hx
  simp only [Lit.wf, Bool.and_eq_true, decide_eq_true_eq] at hn
  have hn2 : -9223372036854775808 ≤ n ∧ n ≤ 9223372036854775807 := hn
  exact numTurns_nat a ha n hn2.1 hn2.2 w

end Go.Proofs.Ytmobmljnjolkgaa
