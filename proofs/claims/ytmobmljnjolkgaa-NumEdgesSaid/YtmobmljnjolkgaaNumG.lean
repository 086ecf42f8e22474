/- Whole numbers and doubles held against each other: the walk. -/
import Derived.Test.YtmobmljnjolkgaaNumFrame
import Derived.Test.YtmobmljnjolkgaaNumF
namespace Go.Proofs.Ytmobmljnjolkgaa
open Go.RowKit
set_option linter.unusedVariables false

theorem wfu64 {n : Int} (h : (Lit.int .u64 n).wf = true) : ∃ a : Nat, n = (a : Int) ∧ a < 18446744073709551616 := by
  simp only [Lit.wf, Bool.and_eq_true, decide_eq_true_eq] at h
  have h1 : 0 ≤ n ∧ n ≤ 18446744073709551615 := h
  exact ⟨n.toNat, by omega, by omega⟩
theorem xor_bits {a : Nat} (ha : a < 18446744073709551616) : bits .xor .u64 (a : Int) 9223372036854775808 = (flip a : Nat) := by
  have := bits_xor_u64_nat a 9223372036854775808 ha (by decide)
  rw [xor_flip ha] at this
  exact this
theorem wrap_flip {a : Nat} (ha : a < 18446744073709551616) : wrap64 (a : Int) = (flip a : Nat) - 9223372036854775808 := by
  unfold wrap64 flip; split <;> omega

set_option maxRecDepth 100000 in
set_option maxHeartbeats 2000000 in
theorem numCompares_nat (s : ByteArray) (a b : Nat) (ha : a < 18446744073709551616) (hb : b < 18446744073709551616) (w : World) :
    Calls Try.prog 6 #[.string s, .int .u64 (a : Nat), .int .u64 (b : Nat)] w fun e w' => e = .returned (.bool true) ∧ Below w.heap.size w w' := by
  have hc := fun w => compare_any s (wrap64 (a : Int)) (wrap64 (b : Int)) w
  have hf := fun w => fcompare_any s a b w ha hb
  have wa := wrap_flip ha
  have wb := wrap_flip hb
  have k1 : decide (wrap64 (a : Int) < wrap64 (b : Int)) = decide ((flip a : Int) < (flip b : Int)) := by apply decide_eq_decide.2; omega
  have k2 : decide (wrap64 (a : Int) = wrap64 (b : Int)) = ((flip a : Int) == (flip b : Int)) := by
    rw [Bool.eq_iff_iff]; simp only [decide_eq_true_eq, beq_iff_eq]; omega
  have k3 : decide (wrap64 (b : Int) < wrap64 (a : Int)) = decide ((flip b : Int) < (flip a : Int)) := by apply decide_eq_decide.2; omega
  rw [k1, k2, k3] at hc
  have l1 : (decide ((flip a : Int) < (flip b : Int)) || ((flip a : Int) == (flip b : Int))) = decide (flip a ≤ flip b) := by rw [Bool.eq_iff_iff]; simp; omega
  have l2 : (decide ((flip b : Int) < (flip a : Int)) || ((flip a : Int) == (flip b : Int))) = decide (flip b ≤ flip a) := by rw [Bool.eq_iff_iff]; simp; omega
  have l3 : (!((flip a : Int) == (flip b : Int))) = ((flip a : Int) != (flip b : Int)) := rfl
  have xa := xor_bits ha
  have xb := xor_bits hb
  have HC := Lib.hid hc
  have HF := Lib.hid hf
  clear hc hf wa wb k1 k2 k3
  cases c1 : (s.toList == [61, 61])
  · cases c2 : (s.toList == [33, 61])
    · cases c3 : (s.toList == [60])
      · cases c4 : (s.toList == [60, 61])
        · cases c5 : (s.toList == [62])
          · cases c6 : (s.toList == [62, 61])
            · simp only [holdsB, c1, c2, c3, c4, c5, c6, Bool.false_eq_true, if_false] at HC HF
              try rw [l1] at HC
              try rw [l2] at HC
              try rw [l3] at HC
              clear l1 l2 l3
              go_enter Try.func6, Try.ntmps6
              go_wp2_with (first | (go_at_call 16; refine (reckons_any _).mono ?_; rintro e w' ⟨rfl, n0, rfl⟩) | (go_at_call 23; refine (HC.out _).mono ?_; rintro e w' ⟨rfl, rfl⟩) | (go_at_call 24; refine (HF.out _).mono ?_; rintro e w' ⟨rfl, rfl⟩) | (go_at_call 25; refine (rless_any _ _ _ (by assumption) (by assumption)).mono ?_; rintro e w' ⟨rfl, rfl⟩) | (go_at_call 26; refine (rsame_any _ _ _ (by assumption) (by assumption)).mono ?_; rintro e w' ⟨rfl, rfl⟩))
              all_goals go_ret
              all_goals refine ⟨ret_bool ?_, drew_below _ _⟩
              all_goals first | rfl | (simp; done) | (simp <;> omega)
            · simp only [holdsB, c1, c2, c3, c4, c5, c6, Bool.false_eq_true, if_false, if_true] at HC HF
              try rw [l1] at HC
              try rw [l2] at HC
              try rw [l3] at HC
              clear l1 l2 l3
              go_enter Try.func6, Try.ntmps6
              go_wp2_with (first | (go_at_call 16; refine (reckons_any _).mono ?_; rintro e w' ⟨rfl, n0, rfl⟩) | (go_at_call 23; refine (HC.out _).mono ?_; rintro e w' ⟨rfl, rfl⟩) | (go_at_call 24; refine (HF.out _).mono ?_; rintro e w' ⟨rfl, rfl⟩) | (go_at_call 25; refine (rless_any _ _ _ (by assumption) (by assumption)).mono ?_; rintro e w' ⟨rfl, rfl⟩) | (go_at_call 26; refine (rsame_any _ _ _ (by assumption) (by assumption)).mono ?_; rintro e w' ⟨rfl, rfl⟩))
              all_goals go_ret
              all_goals refine ⟨ret_bool ?_, drew_below _ _⟩
              all_goals first | rfl | (simp; done) | (simp <;> omega)
          · simp only [holdsB, c1, c2, c3, c4, c5, Bool.false_eq_true, if_false, if_true] at HC HF
            try rw [l1] at HC
            try rw [l2] at HC
            try rw [l3] at HC
            clear l1 l2 l3
            go_enter Try.func6, Try.ntmps6
            go_wp2_with (first | (go_at_call 16; refine (reckons_any _).mono ?_; rintro e w' ⟨rfl, n0, rfl⟩) | (go_at_call 23; refine (HC.out _).mono ?_; rintro e w' ⟨rfl, rfl⟩) | (go_at_call 24; refine (HF.out _).mono ?_; rintro e w' ⟨rfl, rfl⟩) | (go_at_call 25; refine (rless_any _ _ _ (by assumption) (by assumption)).mono ?_; rintro e w' ⟨rfl, rfl⟩) | (go_at_call 26; refine (rsame_any _ _ _ (by assumption) (by assumption)).mono ?_; rintro e w' ⟨rfl, rfl⟩))
            all_goals go_ret
            all_goals refine ⟨ret_bool ?_, drew_below _ _⟩
            all_goals first | rfl | (simp; done) | (simp <;> omega)
        · simp only [holdsB, c1, c2, c3, c4, Bool.false_eq_true, if_false, if_true] at HC HF
          try rw [l1] at HC
          try rw [l2] at HC
          try rw [l3] at HC
          clear l1 l2 l3
          go_enter Try.func6, Try.ntmps6
          go_wp2_with (first | (go_at_call 16; refine (reckons_any _).mono ?_; rintro e w' ⟨rfl, n0, rfl⟩) | (go_at_call 23; refine (HC.out _).mono ?_; rintro e w' ⟨rfl, rfl⟩) | (go_at_call 24; refine (HF.out _).mono ?_; rintro e w' ⟨rfl, rfl⟩) | (go_at_call 25; refine (rless_any _ _ _ (by assumption) (by assumption)).mono ?_; rintro e w' ⟨rfl, rfl⟩) | (go_at_call 26; refine (rsame_any _ _ _ (by assumption) (by assumption)).mono ?_; rintro e w' ⟨rfl, rfl⟩))
          all_goals go_ret
          all_goals refine ⟨ret_bool ?_, drew_below _ _⟩
          all_goals first | rfl | (simp; done) | (simp <;> omega)
      · simp only [holdsB, c1, c2, c3, Bool.false_eq_true, if_false, if_true] at HC HF
        try rw [l1] at HC
        try rw [l2] at HC
        try rw [l3] at HC
        clear l1 l2 l3
        go_enter Try.func6, Try.ntmps6
        go_wp2_with (first | (go_at_call 16; refine (reckons_any _).mono ?_; rintro e w' ⟨rfl, n0, rfl⟩) | (go_at_call 23; refine (HC.out _).mono ?_; rintro e w' ⟨rfl, rfl⟩) | (go_at_call 24; refine (HF.out _).mono ?_; rintro e w' ⟨rfl, rfl⟩) | (go_at_call 25; refine (rless_any _ _ _ (by assumption) (by assumption)).mono ?_; rintro e w' ⟨rfl, rfl⟩) | (go_at_call 26; refine (rsame_any _ _ _ (by assumption) (by assumption)).mono ?_; rintro e w' ⟨rfl, rfl⟩))
        all_goals go_ret
        all_goals refine ⟨ret_bool ?_, drew_below _ _⟩
        all_goals first | rfl | (simp; done) | (simp <;> omega)
    · simp only [holdsB, c1, c2, Bool.false_eq_true, if_false, if_true] at HC HF
      try rw [l1] at HC
      try rw [l2] at HC
      try rw [l3] at HC
      clear l1 l2 l3
      go_enter Try.func6, Try.ntmps6
      go_wp2_with (first | (go_at_call 16; refine (reckons_any _).mono ?_; rintro e w' ⟨rfl, n0, rfl⟩) | (go_at_call 23; refine (HC.out _).mono ?_; rintro e w' ⟨rfl, rfl⟩) | (go_at_call 24; refine (HF.out _).mono ?_; rintro e w' ⟨rfl, rfl⟩) | (go_at_call 25; refine (rless_any _ _ _ (by assumption) (by assumption)).mono ?_; rintro e w' ⟨rfl, rfl⟩) | (go_at_call 26; refine (rsame_any _ _ _ (by assumption) (by assumption)).mono ?_; rintro e w' ⟨rfl, rfl⟩))
      all_goals go_ret
      all_goals refine ⟨ret_bool ?_, drew_below _ _⟩
      all_goals first | rfl | (simp; done) | (simp <;> omega)
  · simp only [holdsB, c1, if_true] at HC HF
    try rw [l1] at HC
    try rw [l2] at HC
    try rw [l3] at HC
    clear l1 l2 l3
    go_enter Try.func6, Try.ntmps6
    go_wp2_with (first | (go_at_call 16; refine (reckons_any _).mono ?_; rintro e w' ⟨rfl, n0, rfl⟩) | (go_at_call 23; refine (HC.out _).mono ?_; rintro e w' ⟨rfl, rfl⟩) | (go_at_call 24; refine (HF.out _).mono ?_; rintro e w' ⟨rfl, rfl⟩) | (go_at_call 25; refine (rless_any _ _ _ (by assumption) (by assumption)).mono ?_; rintro e w' ⟨rfl, rfl⟩) | (go_at_call 26; refine (rsame_any _ _ _ (by assumption) (by assumption)).mono ?_; rintro e w' ⟨rfl, rfl⟩))
    all_goals go_ret
    all_goals refine ⟨ret_bool ?_, drew_below _ _⟩
    all_goals first | rfl | (simp; done) | (simp <;> omega)

theorem numCompares_any (s : ByteArray) (hs : s.size ≤ maxLen) (x : Int) (hx : (Lit.int .u64 x).wf = true) (y : Int) (hy : (Lit.int .u64 y).wf = true) (w : World) :
    Calls Try.prog 6 #[.string s, .int .u64 x, .int .u64 y] w fun e w' => e = .returned (.bool true) ∧ Below w.heap.size w w' := by
  obtain ⟨a, rfl, ha⟩ := wfu64 hx
  obtain ⟨b, rfl, hb⟩ := wfu64 hy
  exact numCompares_nat s a b ha hb w

end Go.Proofs.Ytmobmljnjolkgaa
