/- LexLimits holds: for every two whole numbers the call returns true, and makes only new memory. No condition. -/
import Derived.Test.YtgcokjobnpjhhaaLexV
import Derived.Test.YtgcokjobnpjhhaaLexFrame
namespace Go.Proofs.Ytgcokjobnpjhhaa
open Go.ChangeShapes Go.WideShapes Go.ChangeAt Go.RowKit
set_option linter.unusedVariables false

set_option maxHeartbeats 4000000 in
theorem lexLimits_any (a : Int) (wa : (Lit.int .i64 a).wf = true) (b : Int) (wb : (Lit.int .i64 b).wf = true) (w : World) :
    Calls Try.prog 7 #[.int .i64 a, .int .i64 b] w fun e w' => e = .returned (.bool true) ∧ Below w.heap.size w w' := by
  by_cases h1 : a < 0
  · go_enter Try.func7, Try.ntmps7
    go_wp2_with (go_at_call 9; refine (cuts_any _).mono ?_; rintro e w1 ⟨rfl, h01⟩)
    go_ret
    exact ⟨rfl, h01⟩
  · by_cases h2 : 17000 < a
    · go_enter Try.func7, Try.ntmps7
      go_wp2_with (go_at_call 9; refine (cuts_any _).mono ?_; rintro e w1 ⟨rfl, h01⟩)
      go_ret
      exact ⟨rfl, h01⟩
    · by_cases h3 : b < 1
      · go_enter Try.func7, Try.ntmps7
        go_wp2_with (go_at_call 9; refine (cuts_any _).mono ?_; rintro e w1 ⟨rfl, h01⟩)
        go_ret
        exact ⟨rfl, h01⟩
      · by_cases h4 : 300 < b
        · go_enter Try.func7, Try.ntmps7
          go_wp2_with (go_at_call 9; refine (cuts_any _).mono ?_; rintro e w1 ⟨rfl, h01⟩)
          go_ret
          exact ⟨rfl, h01⟩
        · obtain ⟨T, rfl⟩ : ∃ T : Nat, a = T := ⟨a.toNat, by omega⟩
          obtain ⟨m, rfl⟩ : ∃ m : Nat, b = m := ⟨b.toNat, by omega⟩
          exact limits_in T m w (by omega) (by omega) (by omega)

set_option maxRecDepth 100000 in
theorem lexLimits_lifted (os : Os) (started : os.Started) (H : Type) (enc : TypeId × Value → H) :
    ReturnsInHanded {} Try.checked os 7 .any (Rows.lexLimitsSpec.pre6 enc Try.prog Try.f7 Rows.lexLimitsRow.domain false) (Rows.lexLimitsSpec.post enc Try.prog Try.f7 false true false false) := by
  refine returnsInHanded_of_change (C := Try.checked) own started (by kernel_rfl) Try.func7
    (ChangeSpec.witness6 (enc := enc) (C := Try.checked) false ⟨#[], #[.int .i64 0, .int .i64 0], []⟩ 8 (by kernel_rfl) (by kernel_rfl) (by kernel_rfl) (by kernel_rfl)) ?_
  intro W base args ds gs before hval0 hW hcnd _
  have hval : ∀ (j : Nat) t v, Try.f7.params[j]? = some t → args[j]? = some v → Value.okWide Try.prog W .any base t v := hval0
  have hW' := hW
  obtain ⟨p, q, hA0, hV, rfl, hfz, hnd⟩ := hW
  have hA : DataW.TrodAll enc Try.prog W 0 (fun _ => true) true Try.f7.params.toList args.toList ds p := hA0
  rw [Try.params7] at hA hval
  obtain ⟨v0, vs0, d0, ds0, p0, q0, hargs, rfl, rfl, h0, r0⟩ := trodAll_cons hA
  obtain ⟨v1, vs1, d1, ds1, p1, q1, rfl, rfl, rfl, h1, r1⟩ := trodAll_cons r0
  obtain ⟨rfl, rfl, rfl⟩ := trodAll_nil r1
  obtain rfl : args = #[v0, v1] := by cases args; simp_all
  obtain ⟨rfl, rfl⟩ := trodVars_none hV
  obtain ⟨a0, rfl, rfl, rfl, w0⟩ := open_int Try.underlying3 (hval 0 3 v0 rfl rfl) h0
  obtain ⟨a1, rfl, rfl, rfl, w1⟩ := open_int Try.underlying3 (hval 1 3 v1 rfl rfl) h1
  clear hA0 hval0
  refine (lexLimits_any a0 w0 a1 w1 W).mono fun e W' ⟨he, bel⟩ => ?_
  subst he
  exact ⟨_, rfl, _, _, _, [], _, [], hW', trodAll_mk1 (shut_bool Try.underlying4 _), (trodAll_cons_mk (shut_int Try.underlying3 w0) (trodAll_cons_mk (shut_int Try.underlying3 w1) trodAll_mk0)), rfl, bel.frame _, fun h => by cases h⟩

theorem lexLimits_over : Rows.lexLimitsRow.holds Try.pinned (OpenSpec.ofChange Rows.lexLimitsSpec) :=
  OpenClaim.holds_of_wide 7 Try.f7 rfl rfl rfl rfl rfl rfl rfl ⟨rfl, rfl, rfl, rfl, rfl⟩ rfl rfl rfl rfl rfl (by kernel_rfl) Try.func7 (by kernel_rfl)
    (of_decide_eq_true (by kernel_rfl)) (by unfold Func.isWrapper; first | (rw [if_pos (by decide +kernel)]; kernel_rfl) | (rw [if_neg (by decide +kernel)]; exact ⟨rfl, rfl⟩))
    (fun os started H enc _ => lexLimits_lifted os started H enc)

theorem lexLimits_proved : Rows.LexLimitsSaid := lexLimits_over

end Go.Proofs.Ytgcokjobnpjhhaa
