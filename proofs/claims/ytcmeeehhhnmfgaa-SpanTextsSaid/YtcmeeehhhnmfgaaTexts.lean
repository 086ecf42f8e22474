/- SpanTexts: the walk. -/
import Derived.Test.YtcmeeehhhnmfgaaSpanG
namespace Go.Proofs.Ytcmeeehhhnmfgaa
open Go.RowKit
set_option linter.unusedVariables false

set_option maxHeartbeats 1000000 in
theorem texts_no (s : ByteArray) (hs : s.size ≤ 65536) (f t : Int) (w : World) (hb : chkB f t s.size = false) :
    Calls Try.prog 7 #[.string s, .agg #[.int .i64 f, .int .i64 t]] w fun e w' => e = .returned (.bool true) ∧ Below w.heap.size w w' := by
  have HB := Lib.hid hb
  have hways : mayB f t = false ∨ (mayB f t = true ∧ (s.size : Int) < t) := by
    cases hm : mayB f t
    · exact .inl rfl
    · refine .inr ⟨rfl, ?_⟩
      have := mayB_iff.1 hm
      by_cases h : t ≤ s.size
      · rw [chkB_iff.2 ⟨this, h, by omega⟩] at hb; exact absurd hb (by simp)
      · omega
  clear hb
  have hs1 : ¬ (65536 < (s.size : Int)) := by omega
  rcases hways with hm | ⟨hm, k1⟩
  all_goals
    have HM := Lib.hid hm
    clear hm
    go_enter Try.func7, Try.ntmps7
    go_wp2_with fail; refine (spans_any _).mono ?_; rintro e w1 ⟨rfl, h⟩; obtain ⟨h01, a0, a1, z01⟩ := box2 h; clear h
    go_wp2_with fail
    refine (text_no _ _ _ _ HB.out).mono ?_
    rintro e w2 ⟨rfl, h12⟩
    replace a0 := keep h12 z01 a0
    replace a1 := keep h12 z01 a1
    have z02 : w.heap.size < w2.heap.size := by have := h12.size; omega
    go_wp2_with fail
    refine (may_any _ _ _).mono ?_
    rw [HM.out]
    rintro e w3 ⟨rfl, rfl⟩
    go_wp2_with fail
    go_ret
    exact ⟨rfl, by repeat (first | exact Below.refl _ _ | apply Below.setCell _ (by first | omega | (simp <;> omega)) | apply Below.alloc _ (by first | omega | (simp <;> omega)) | exact after h01 h12 | refine after ?_ after h01 h12)⟩

set_option maxHeartbeats 1000000 in
theorem texts_yes (s : ByteArray) (hs : s.size ≤ 65536) (f t : Nat) (w : World) (hb : chkB f t s.size = true) :
    Calls Try.prog 7 #[.string s, .agg #[.int .i64 f, .int .i64 t]] w fun e w' => e = .returned (.bool true) ∧ Below w.heap.size w w' := by
  have HB := Lib.hid hb
  obtain ⟨hmm, hk1, hk2⟩ := chkB_iff.1 hb
  obtain ⟨k1, k2, k3⟩ := hmm
  have k4 : t ≤ s.size := by omega
  have k5 : f ≤ t := by omega
  have k6 : f ≤ s.size := by omega
  have HM := Lib.hid (mayB_iff.2 ⟨k1, k2, k3⟩)
  clear hb
  have hs1 : ¬ (65536 < (s.size : Int)) := by omega
  go_enter Try.func7, Try.ntmps7
  go_wp2_with fail; refine (spans_any _).mono ?_; rintro e w1 ⟨rfl, h⟩; obtain ⟨h01, a0, a1, z01⟩ := box2 h; clear h
  go_wp2_with fail
  refine (text_yes _ _ _ _ HB.out).mono ?_
  rintro e w2 ⟨rfl, h12⟩
  replace a0 := keep h12 z01 a0
  replace a1 := keep h12 z01 a1
  have z02 : w.heap.size < w2.heap.size := by have := h12.size; omega
  go_wp2_with fail
  refine (may_any _ _ _).mono ?_
  rw [HM.out]
  rintro e w3 ⟨rfl, rfl⟩
  go_wp2_with fail
  go_quiet (fail)
  go_wp2_with fail
  go_ret
  exact ⟨by show Ending.returned (.bool _) = _; rw [show (((t - f : Nat) : Int) == (t : Int) - (f : Int)) = true by simp; omega], below_drewN (by repeat (first | exact Below.refl _ _ | apply Below.setCell _ (by first | omega | (simp <;> omega)) | apply Below.alloc _ (by first | omega | (simp <;> omega)) | exact after h01 h12 | refine after ?_ after h01 h12)) _⟩

theorem texts_any (s : ByteArray) (_ : s.size ≤ maxLen) (f t : Int) (_ : (Lit.int .i64 f).wf = true) (_ : (Lit.int .i64 t).wf = true) (w : World) :
    Calls Try.prog 7 #[.string s, .agg #[.int .i64 f, .int .i64 t]] w fun e w' => e = .returned (.bool true) ∧ Below w.heap.size w w' := by
  by_cases hs : s.size ≤ 65536
  · cases hm : chkB f t s.size
    · exact texts_no s hs f t w hm
    · obtain ⟨⟨k1, k2, k3⟩, -, -⟩ := chkB_iff.1 hm
      obtain ⟨f', rfl⟩ := Int.eq_ofNat_of_zero_le k1
      obtain ⟨t', rfl⟩ := Int.eq_ofNat_of_zero_le (show 0 ≤ t by omega)
      exact texts_yes s hs f' t' w hm
  · have hs1 : 65536 < (s.size : Int) := by omega
    go_enter Try.func7, Try.ntmps7
    go_wp2_with fail; refine (spans_any _).mono ?_; rintro e w1 ⟨rfl, h⟩; obtain ⟨h01, a0, a1, z01⟩ := box2 h; clear h
    go_wp2_with fail
    go_ret
    exact ⟨rfl, h01⟩

end Go.Proofs.Ytcmeeehhhnmfgaa
