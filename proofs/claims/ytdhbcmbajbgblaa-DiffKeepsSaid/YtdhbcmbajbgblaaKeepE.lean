/- DiffKeeps holds: for every text and every list of edits the call returns true, and makes only new memory. No condition. -/
import Derived.Test.YtdhbcmbajbgblaaKeepD
import Derived.Test.YtdhbcmbajbgblaaEdFrame
import Derived.ShutString
namespace Go.Proofs.Ytdhbcmbajbgblaa
open Go.ChangeShapes Go.WideShapes Go.ChangeAt Go.RowKit
open Go.ChangeMaps (open_string shut_string)
set_option linter.unusedVariables false

theorem diffKeeps_any {w : World} (s : ByteArray) (hs : s.size ≤ maxLen) (v : Value) (l : List IEd) (sp : Eds w v l) :
    Calls Try.prog 3 #[.string s, v] w fun e w' => e = .returned (.bool true) ∧ Below w.heap.size w w' := by
  obtain ⟨src, n, cap, rfl, hl, hn, hr⟩ := sp
  have hn' := hn
  unfold maxLen at hs hn
  by_cases h1 : 1000 < s.size
  · have k1 : 1000 < (s.size : Int) := by omega
    clear hr hl
    go_enter Try.func3, Try.ntmps3
    go_wp2_with (go_at_call 5; refine (finds_any _).mono ?_; rintro e w1 ⟨rfl, h01⟩)
    go_ret
    exact ⟨rfl, h01⟩
  · by_cases h2 : 60 < n
    · have k1 : ¬ 1000 < (s.size : Int) := by omega
      have k2 : 60 < (n : Int) := by omega
      clear hr hl h1 h2
      go_enter Try.func3, Try.ntmps3
      go_wp2_with (go_at_call 5; refine (finds_any _).mono ?_; rintro e w1 ⟨rfl, h01⟩)
      go_ret
      exact ⟨rfl, h01⟩
    · by_cases hc : checkE s.size l = 0
      · obtain ⟨L, rfl, hok⟩ := check_valid hc
        exact keeps_ok s src n cap L w (by omega) (by simpa using hl) (by omega) hok hr hc
      · exact keeps_no s src n cap l w (by omega) hl (by omega) hr hc

set_option maxRecDepth 100000 in
theorem diffKeeps_lifted (os : Os) (started : os.Started) (H : Type) (enc : TypeId × Value → H) :
    ReturnsInHanded {} Try.checked os 3 .any (Rows.diffKeepsSpec.pre6 enc Try.prog Try.f3 Rows.diffKeepsRow.domain false) (Rows.diffKeepsSpec.post enc Try.prog Try.f3 false true false false) := by
  refine returnsInHanded_of_change (C := Try.checked) own started (by kernel_rfl) Try.func3
    (ChangeSpec.witness6 (enc := enc) (C := Try.checked) false ⟨#[], #[.string ⟨#[]⟩, .slice none 0 0], []⟩ 8 (by kernel_rfl) (by kernel_rfl) (by kernel_rfl) (by kernel_rfl)) ?_
  intro W base args ds gs before hval0 hW hcnd _
  have hval : ∀ (j : Nat) t v, Try.f3.params[j]? = some t → args[j]? = some v → Value.okWide Try.prog W .any base t v := hval0
  have hW' := hW
  obtain ⟨p, q, hA0, hV, rfl, hfz, hnd⟩ := hW
  have hA : DataW.TrodAll enc Try.prog W 0 (fun _ => true) true Try.f3.params.toList args.toList ds p := hA0
  rw [Try.params3] at hA hval
  obtain ⟨v0, vs0, d0, ds0, p0, q0, hargs, rfl, rfl, h0, r0⟩ := trodAll_cons hA
  obtain ⟨v1, vs1, d1, ds1, p1, q1, rfl, rfl, rfl, h1, r1⟩ := trodAll_cons r0
  obtain ⟨rfl, rfl, rfl⟩ := trodAll_nil r1
  obtain rfl : args = #[v0, v1] := by cases args; simp_all
  obtain ⟨rfl, rfl⟩ := trodVars_none hV
  obtain ⟨a0, rfl, rfl, rfl, w0⟩ := open_string Try.underlying9 (hval 0 9 v0 rfl rfl) h0
  have k1 := h1
  have lt1 : ∀ x ∈ p1, x.block < W.heap.size := by obtain ⟨m, hm⟩ := k1; exact DataW.trod_lt m _ _ _ hm
  obtain ⟨l1, sp1⟩ := open_edits Try.underlying22 Try.underlying27 Try.underlying25 Try.underlying3 Try.underlying9 (by kernel_rfl) (by kernel_rfl) ⟨by kernel_rfl, by kernel_rfl⟩ rfl rfl rfl rfl rfl rfl rfl rfl (hval 1 22 v1 rfl rfl) h1
  clear hA0 hval0
  refine (diffKeeps_any a0 w0 v1 l1 sp1).mono fun e W' ⟨he, bel⟩ => ?_
  subst he
  exact ⟨_, rfl, _, _, _, [], _, [], hW', trodAll_mk1 (shut_bool Try.underlying4 _), (trodAll_cons_mk (shut_string Try.underlying9 w0) (trodAll_cons_mk (Below.trod laidOut (by kernel_rfl) (of_decide_eq_true (by kernel_rfl)) k1 bel lt1) trodAll_mk0)), rfl, bel.frame _, fun h => by cases h⟩

theorem diffKeeps_over : Rows.diffKeepsRow.holds Try.pinned (OpenSpec.ofChange Rows.diffKeepsSpec) :=
  OpenClaim.holds_of_wide 3 Try.f3 rfl rfl rfl rfl rfl rfl rfl ⟨rfl, rfl, rfl, rfl, rfl⟩ rfl rfl rfl rfl rfl (by kernel_rfl) Try.func3 (by kernel_rfl)
    (of_decide_eq_true (by kernel_rfl)) (by unfold Func.isWrapper; first | (rw [if_pos (by decide +kernel)]; kernel_rfl) | (rw [if_neg (by decide +kernel)]; exact ⟨rfl, rfl⟩))
    (fun os started H enc _ => diffKeeps_lifted os started H enc)

theorem diffKeeps_proved : Rows.DiffKeepsSaid := diffKeeps_over

end Go.Proofs.Ytdhbcmbajbgblaa
