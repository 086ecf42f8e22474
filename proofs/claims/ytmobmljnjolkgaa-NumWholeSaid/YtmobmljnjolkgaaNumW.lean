/- Whole numbers go round: the walk. -/
import Derived.Test.YtmobmljnjolkgaaNumFrame
namespace Go.Proofs.Ytmobmljnjolkgaa
open Go.RowKit
set_option linter.unusedVariables false

theorem wf64 {n : Int} (h : (Lit.int .i64 n).wf = true) : -9223372036854775808 ≤ n ∧ n ≤ 9223372036854775807 := by
  simp only [Lit.wf, Bool.and_eq_true, decide_eq_true_eq] at h
  exact h
theorem wU (n : Int) : IntKind.u64.wrap n = n % 18446744073709551616 := IntKind.wrap_u64 n
theorem wr_mod (x : Int) : wr64 x % 18446744073709551616 = x % 18446744073709551616 := by unfold wr64 wrap64; omega
theorem mul_round (a b : Int) : IntKind.u64.wrap (wr64 (a * b)) = IntKind.u64.wrap (IntKind.u64.wrap a * IntKind.u64.wrap b) := by
  rw [wU, wU, wU, wU, wr_mod, Int.mul_emod]
theorem neg_round (x : Int) : IntKind.u64.wrap (IntKind.u64.wrap (wr64 (-x)) + IntKind.u64.wrap x) = 0 := by
  rw [wU, wU, wU, wr_mod]; omega
theorem add_round (a b : Int) : IntKind.u64.wrap (wr64 (a + b)) = IntKind.u64.wrap (IntKind.u64.wrap a + IntKind.u64.wrap b) := by
  rw [wU, wU, wU, wU, wr_mod]; omega
theorem sub_round (a b : Int) : IntKind.u64.wrap (IntKind.u64.wrap (wr64 (a - b)) + IntKind.u64.wrap b) = IntKind.u64.wrap a := by
  rw [wU, wU, wU, wU, wr_mod]; omega
theorem div_round (a b : Int) : IntKind.u64.wrap (IntKind.u64.wrap (IntKind.u64.wrap (wr64 (a.tdiv b)) * IntKind.u64.wrap b) + IntKind.u64.wrap (a.tmod b)) = IntKind.u64.wrap a := by
  simp only [wU, wr_mod]
  rw [← Int.mul_emod, ← Int.add_emod]
  congr 1
  have := Int.mul_tdiv_add_tmod a b
  rw [Int.mul_comm (a.tdiv b) b]; exact this
theorem mod_side (a b : Int) : a.tmod b = 0 ∨ (a.tmod b < 0 ↔ a < 0) := by
  rcases Int.lt_or_le a 0 with h | h
  · have h1 : a.tmod b ≤ 0 := by
      have := Int.tmod_nonneg b (show 0 ≤ -a by omega)
      rw [Int.neg_tmod] at this; omega
    omega
  · have := Int.tmod_nonneg b h; omega
theorem mod_small (a b : Int) (hb : b ≠ 0) : (a.tmod b).natAbs < b.natAbs := by
  rw [Int.natAbs_tmod]; exact Nat.mod_lt _ (by omega)

set_option maxRecDepth 100000 in
set_option maxHeartbeats 2000000 in
theorem numWhole_any (s : ByteArray) (hs : s.size ≤ maxLen) (a : Int) (ha : (Lit.int .i64 a).wf = true) (b : Int) (hb : (Lit.int .i64 b).wf = true) (w : World) :
    Calls Try.prog 5 #[.string s, .int .i64 a, .int .i64 b] w fun e w' => e = .returned (.bool true) ∧ Below w.heap.size w w' := by
  have a1 : -9223372036854775808 ≤ a ∧ a ≤ 9223372036854775807 := wf64 ha
  have b1 : -9223372036854775808 ≤ b ∧ b ≤ 9223372036854775807 := wf64 hb
  have HO := Lib.hid (fun w => op_any s a b w)
  generalize hX : opR s a b = X at HO
  unfold opR at hX
  cases c1 : (s.toList == [43])
  · cases c2 : (s.toList == [45])
    · cases c3 : (s.toList == [42])
      · cases c4 : (s.toList == [47])
        · cases c5 : (s.toList == [37])
          · simp only [c1, c2, c3, c4, c5, Bool.false_eq_true, if_false] at hX
            subst hX
            go_enter Try.func5, Try.ntmps5
            go_wp2_with (first | (go_at_call 16; refine (reckons_any _).mono ?_; rintro e w' ⟨rfl, n0, rfl⟩) | (go_at_call 21; refine (HO.out _).mono ?_; rintro e w' ⟨rfl, rfl⟩))
            go_ret
            exact ⟨rfl, drew_below _ _⟩
          · simp only [c1, c2, c3, c4, c5, Bool.false_eq_true, if_false, if_true, partR] at hX
            by_cases hb0 : b = 0
            · have HB := Lib.hid hb0
              have hb2 : (b == 0) = true := by simpa using hb0
              rw [if_pos hb0] at hX
              clear hb0
              subst hX
              go_enter Try.func5, Try.ntmps5
              go_wp2_with (first | (go_at_call 16; refine (reckons_any _).mono ?_; rintro e w' ⟨rfl, n0, rfl⟩) | (go_at_call 21; refine (HO.out _).mono ?_; rintro e w' ⟨rfl, rfl⟩))
              go_ret
              exact ⟨rfl, drew_below _ _⟩
            · have hb2 : (b == 0) = false := by simpa using hb0
              have e4 : opR ⟨#[47]⟩ a b = (wr64 (a.tdiv b), 0) := by unfold opR partR; rw [show (⟨#[47]⟩ : ByteArray).toList = [47] by rw [ByteArray.toList_eq], if_neg (by decide), if_neg (by decide), if_neg (by decide), if_pos (by decide), if_neg hb0, if_pos (by decide)]
              have e5 : opR ⟨#[37]⟩ a b = (a.tmod b, 0) := by unfold opR partR; rw [show (⟨#[37]⟩ : ByteArray).toList = [37] by rw [ByteArray.toList_eq], if_neg (by decide), if_neg (by decide), if_neg (by decide), if_neg (by decide), if_pos (by decide), if_neg hb0, if_neg (by decide)]
              have h4 := fun w => op_any ⟨#[47]⟩ a b w
              have h5 := fun w => op_any ⟨#[37]⟩ a b w
              rw [e4] at h4
              rw [e5] at h5
              have H4 := Lib.hid h4
              have H5 := Lib.hid h5
              rw [if_neg hb0] at hX
              subst hX
              clear e4 e5 h4 h5
              go_enter Try.func5, Try.ntmps5
              go_wp2_with fail
              refine (reckons_any _).mono ?_
              rintro e w1 ⟨rfl, n0, rfl⟩
              go_wp2_with fail
              refine (HO.out _).mono ?_
              rintro e w2 ⟨rfl, rfl⟩
              go_wp2_with fail
              refine (H4.out _).mono ?_
              rintro e w3 ⟨rfl, rfl⟩
              go_wp2_with fail
              refine (H5.out _).mono ?_
              rintro e w4 ⟨rfl, rfl⟩
              go_wp2_with fail
              all_goals
                have hm := mod_side a b
                have hs2 := mod_small a b hb0
                have hr := div_round a b
                first
                | exact absurd hr (by assumption)
                | (exfalso
                   rename_i hz hx
                   have h1 := hx.2
                   rw [decide_eq_decide.2 (hm.resolve_left hz)] at h1
                   cases hd : decide (a < 0) <;> rw [hd] at h1 <;> exact absurd h1 (by decide))
                | (go_ret
                   refine ⟨ret_bool ?_, drew_below _ _⟩
                   first | (simp only [wU, decide_eq_true_eq]; omega) | (trace_state; sorry))
        · simp only [c1, c2, c3, c4, Bool.false_eq_true, if_false, if_true, partR] at hX
          by_cases hb0 : b = 0
          · have HB := Lib.hid hb0
            have hb2 : (b == 0) = true := by simpa using hb0
            rw [if_pos hb0] at hX
            clear hb0
            subst hX
            go_enter Try.func5, Try.ntmps5
            go_wp2_with (first | (go_at_call 16; refine (reckons_any _).mono ?_; rintro e w' ⟨rfl, n0, rfl⟩) | (go_at_call 21; refine (HO.out _).mono ?_; rintro e w' ⟨rfl, rfl⟩))
            go_ret
            exact ⟨rfl, drew_below _ _⟩
          · have hb2 : (b == 0) = false := by simpa using hb0
            have e4 : opR ⟨#[47]⟩ a b = (wr64 (a.tdiv b), 0) := by unfold opR partR; rw [show (⟨#[47]⟩ : ByteArray).toList = [47] by rw [ByteArray.toList_eq], if_neg (by decide), if_neg (by decide), if_neg (by decide), if_pos (by decide), if_neg hb0, if_pos (by decide)]
            have e5 : opR ⟨#[37]⟩ a b = (a.tmod b, 0) := by unfold opR partR; rw [show (⟨#[37]⟩ : ByteArray).toList = [37] by rw [ByteArray.toList_eq], if_neg (by decide), if_neg (by decide), if_neg (by decide), if_neg (by decide), if_pos (by decide), if_neg hb0, if_neg (by decide)]
            have h4 := fun w => op_any ⟨#[47]⟩ a b w
            have h5 := fun w => op_any ⟨#[37]⟩ a b w
            rw [e4] at h4
            rw [e5] at h5
            have H4 := Lib.hid h4
            have H5 := Lib.hid h5
            rw [if_neg hb0] at hX
            subst hX
            clear e4 e5 h4 h5
            go_enter Try.func5, Try.ntmps5
            go_wp2_with fail
            refine (reckons_any _).mono ?_
            rintro e w1 ⟨rfl, n0, rfl⟩
            go_wp2_with fail
            refine (HO.out _).mono ?_
            rintro e w2 ⟨rfl, rfl⟩
            go_wp2_with fail
            refine (H4.out _).mono ?_
            rintro e w3 ⟨rfl, rfl⟩
            go_wp2_with fail
            refine (H5.out _).mono ?_
            rintro e w4 ⟨rfl, rfl⟩
            go_wp2_with fail
            all_goals
              have hm := mod_side a b
              have hs2 := mod_small a b hb0
              have hr := div_round a b
              first
              | exact absurd hr (by assumption)
              | (exfalso
                 rename_i hz hx
                 have h1 := hx.2
                 rw [decide_eq_decide.2 (hm.resolve_left hz)] at h1
                 cases hd : decide (a < 0) <;> rw [hd] at h1 <;> exact absurd h1 (by decide))
              | (go_ret
                 refine ⟨ret_bool ?_, drew_below _ _⟩
                 first | (simp only [wU, decide_eq_true_eq]; omega) | (trace_state; sorry))
      · simp only [c1, c2, c3, Bool.false_eq_true, if_false, if_true] at hX
        subst hX
        have HN := Lib.hid (fun w => neg_any (wr64 (a * b)) w)
        have t1 := mul_round a b
        have t2 := neg_round (wr64 (a * b))
        rw [t1] at t2
        have T2 := Lib.hid t2
        clear t2
        go_enter Try.func5, Try.ntmps5
        go_wp2_with (first | (go_at_call 16; refine (reckons_any _).mono ?_; rintro e w' ⟨rfl, n0, rfl⟩) | (go_at_call 21; refine (HO.out _).mono ?_; rintro e w' ⟨rfl, rfl⟩) | (go_at_call 22; refine (HN.out _).mono ?_; rintro e w' ⟨rfl, rfl⟩))
        go_ret
        refine ⟨?_, drew_below _ _⟩
        refine ret_bool ?_
        exact beq_iff_eq.2 T2.out
    · simp only [c1, c2, Bool.false_eq_true, if_false, if_true] at hX
      subst hX
      go_enter Try.func5, Try.ntmps5
      go_wp2_with (first | (go_at_call 16; refine (reckons_any _).mono ?_; rintro e w' ⟨rfl, n0, rfl⟩) | (go_at_call 21; refine (HO.out _).mono ?_; rintro e w' ⟨rfl, rfl⟩))
      go_ret
      refine ⟨?_, drew_below _ _⟩
      refine ret_bool ?_
      exact beq_iff_eq.2 (sub_round a b)
  · simp only [c1, if_true] at hX
    subst hX
    go_enter Try.func5, Try.ntmps5
    go_wp2_with (first | (go_at_call 16; refine (reckons_any _).mono ?_; rintro e w' ⟨rfl, n0, rfl⟩) | (go_at_call 21; refine (HO.out _).mono ?_; rintro e w' ⟨rfl, rfl⟩))
    go_ret
    refine ⟨?_, drew_below _ _⟩
    refine ret_bool ?_
    exact beq_iff_eq.2 (add_round a b)

end Go.Proofs.Ytmobmljnjolkgaa
