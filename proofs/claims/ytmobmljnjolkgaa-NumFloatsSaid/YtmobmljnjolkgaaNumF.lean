/- The document's own answer: the double nearest to a whole number, by bits. -/
import Derived.Test.YtmobmljnjolkgaaNumE
import Derived.Outline
namespace Go.Proofs.Ytmobmljnjolkgaa
open Go.RowKit
set_option linter.unusedVariables false

theorem log_step (m k : Nat) (h0 : 0 < m) (hk : k ≤ m.log2) : (1 < (m : Int) / 2 ^ k) = (k < m.log2) := by
  obtain ⟨b1, b2⟩ := log2_bounds h0
  have e : (m : Int) / 2 ^ k = ((m / 2 ^ k : Nat) : Int) := by rw [Int.natCast_ediv, Int.natCast_pow]; rfl
  rw [e, eq_iff_iff]
  constructor
  · intro h
    rcases Nat.lt_or_ge k m.log2 with h1 | h1
    · exact h1
    · exfalso
      have hk2 : k = m.log2 := by omega
      have h3 : m / 2 ^ k < 2 := (Nat.div_lt_iff_lt_mul (Nat.two_pow_pos k)).2 (by rw [hk2, Nat.mul_comm, ← Nat.pow_succ]; exact b2)
      omega
  · intro h
    have h3 : 2 ≤ m / 2 ^ k := (Nat.le_div_iff_mul_le (Nat.two_pow_pos k)).2 (by
      rw [Nat.mul_comm, ← Nat.pow_succ]
      exact Nat.le_trans (Nat.pow_le_pow_right (by decide) h) b1)
    omega

theorem rung_lo (m k : Nat) (h0 : 0 < m) (hk : k = m.log2) (h : k ≤ 52) : ∃ P : Nat, IntKind.u64.wrap ((m : Int) * 2 ^ (52 - k)) = (P : Int) ∧ 4503599627370496 ≤ P ∧ P < 9007199254740992 ∧ rungF m = (k + 1022) * 4503599627370496 + P := by
  obtain ⟨b1, b2⟩ := log2_bounds h0
  rw [← hk] at b1 b2
  have e1 : 2 ^ k * 2 ^ (52 - k) = 4503599627370496 := by rw [← Nat.pow_add, show k + (52 - k) = 52 by omega]
  have e2 : 2 ^ (k + 1) * 2 ^ (52 - k) = 9007199254740992 := by rw [← Nat.pow_add, show k + 1 + (52 - k) = 53 by omega]
  have p1 : 4503599627370496 ≤ m * 2 ^ (52 - k) := by rw [← e1]; exact Nat.mul_le_mul_right _ b1
  have p2 : m * 2 ^ (52 - k) < 9007199254740992 := by rw [← e2]; exact Nat.mul_lt_mul_of_pos_right b2 (Nat.two_pow_pos _)
  refine ⟨m * 2 ^ (52 - k), ?_, p1, p2, ?_⟩
  · have e : (m : Int) * 2 ^ (52 - k) = ((m * 2 ^ (52 - k) : Nat) : Int) := by rw [Int.natCast_mul, Int.natCast_pow]; rfl
    rw [e, IntKind.wrap_u64]; omega
  · unfold rungF; rw [← hk, if_pos h]

theorem rung_hi (m k : Nat) (h0 : 0 < m) (h1 : m ≤ 9223372036854775808) (hk : k = m.log2) (h : ¬ k ≤ 52) :
    ∃ Q R F : Nat, (m : Int) / 2 ^ (k - 52) = (Q : Int) ∧ (Q : Int) * 2 ^ (k - 52) = (m : Int) - (R : Int) ∧ (2 : Int) ^ (k - 52 - 1) = (F : Int) ∧ R < 2 * F ∧ 4503599627370496 ≤ Q ∧ Q < 9007199254740992 ∧
      ((F < R ∨ R = F ∧ Q % 2 = 1 → rungF m = (k + 1022) * 4503599627370496 + (Q + 1)) ∧ (¬ (F < R ∨ R = F ∧ Q % 2 = 1) → rungF m = (k + 1022) * 4503599627370496 + Q)) ∧ F < 9223372036854775808 ∧ R ≤ m := by
  obtain ⟨b1, b2⟩ := log2_bounds h0
  have hk64 : m.log2 < 64 := (Nat.log2_lt (by omega)).2 (by
    have e64 : (2 : Nat) ^ 64 = 18446744073709551616 := by decide
    rw [e64]; omega)
  obtain ⟨d, hd⟩ : ∃ d, k - 52 = d + 1 := ⟨k - 53, by omega⟩
  have hrf : rungF m = (k + 1022) * 4503599627370496 + (m / 2 ^ (d + 1) + (decide (2 ^ (d + 1) < 2 * (m % 2 ^ (d + 1))) || (2 ^ (d + 1) == 2 * (m % 2 ^ (d + 1)) && m / 2 ^ (d + 1) % 2 == 1)).toNat) := by
    unfold rungF; rw [← hk, if_neg h, hd]
  have hb := half_bounds (m := m) (d := d + 1) (by rw [show 52 + (d + 1) = m.log2 by omega]; exact b1) (by rw [show 53 + (d + 1) = m.log2 + 1 by omega]; exact b2)
  have hdm := Nat.div_add_mod m (2 ^ (d + 1))
  have hml := Nat.mod_lt m (Nat.two_pow_pos (d + 1))
  have hp : 2 ^ (d + 1) = 2 * 2 ^ d := by rw [Nat.pow_succ, Nat.mul_comm]
  have hF : 2 ^ d < 9223372036854775808 := by
    have : 2 ^ d ≤ 2 ^ 62 := Nat.pow_le_pow_right (by decide) (by omega)
    have e62 : (2 : Nat) ^ 62 = 4611686018427387904 := by decide
    omega
  refine ⟨m / 2 ^ (d + 1), m % 2 ^ (d + 1), 2 ^ d, ?_, ?_, ?_, by omega, hb.1, hb.2, ?_, hF, Nat.mod_le _ _⟩
  · rw [hd, Int.natCast_ediv, Int.natCast_pow]; rfl
  · rw [hd]
    have e : ((m / 2 ^ (d + 1) : Nat) : Int) * 2 ^ (d + 1) = ((2 ^ (d + 1) * (m / 2 ^ (d + 1)) : Nat) : Int) := by rw [Int.natCast_mul, Int.natCast_pow, Int.mul_comm]; rfl
    rw [e]; omega
  · rw [hd, Nat.add_sub_cancel, Int.natCast_pow]; rfl
  · rw [hrf]
    generalize m / 2 ^ (d + 1) = Q at *
    generalize m % 2 ^ (d + 1) = R at *
    rw [hp]
    generalize 2 ^ d = F at *
    constructor
    · intro hc
      have : (decide (2 * F < 2 * R) || (2 * F == 2 * R && Q % 2 == 1)) = true := by simp; omega
      rw [this]; rfl
    · intro hc
      have : (decide (2 * F < 2 * R) || (2 * F == 2 * R && Q % 2 == 1)) = false := by simp; omega
      rw [this]; rfl

set_option maxRecDepth 100000 in
set_option maxHeartbeats 2000000 in
theorem rtofloat_any (a : Int) (w : World) (h1 : -9223372036854775808 ≤ a) (h2 : a ≤ 9223372036854775807) :
    Calls Try.prog 30 #[.int .i64 a] w fun e w' => e = .returned (.int .u64 (toF a : Nat)) ∧ w = w' := by
  by_cases h0 : a = 0
  · subst h0
    have H := Lib.hid (show toF 0 = 0 by decide +kernel)
    go_enter Try.func30, Try.ntmps30
    go_wp2_with fail
    go_ret
    exact ⟨by rw [H.out]; rfl, rfl⟩
  · have ht := toF_whole a h0 (by omega)
    obtain ⟨m, hm⟩ : ∃ m, m = a.natAbs := ⟨_, rfl⟩
    have hm0 : 0 < m := by omega
    have hm1 : m ≤ 9223372036854775808 := by omega
    have e64 : (2 : Nat) ^ 64 = 18446744073709551616 := by decide
    have hlg : m.log2 < 64 := (Nat.log2_lt (by omega)).2 (by rw [e64]; omega)
    clear e64
    rw [← hm, word_eq] at ht
    have hb0 : (a == 0) = false := by simpa using h0
    have HT := Lib.hid ht
    have HM := Lib.hid hm
    clear ht hm h0
    by_cases hn : a < 0
    · have hw : IntKind.u64.wrap (-IntKind.u64.wrap a) = (m : Int) := by have := HM.out; simp only [IntKind.wrap_u64]; omega
      rw [decide_eq_true hn] at HT
      have HS : Hid (toF a = 9223372036854775808 + rungF m) := Lib.hid (HT.out.trans (if_pos rfl))
      go_enter Try.func30, Try.ntmps30
      go_wp2_with fail
      go_loop [5] (fun e => ∃ k : Nat, k ≤ m.log2 ∧ e = .int .i64 k) (fun e => m.log2 - (intOf e).toNat)
      case atStart => exact ⟨0, Nat.zero_le _, rfl⟩
      case round =>
        obtain ⟨k, hk, rfl⟩ := hrel
        have hs := log_step m k hm0 hk
        by_cases hlt : k < m.log2
        · have hs2 : 1 < (m : Int) / 2 ^ k := by rw [hs]; exact hlt
          clear hs
          go_wp2_with fail
          go_round
          case rel => exact ⟨k + 1, by omega, by go_num⟩
          case measure => simp [intOf]; omega
        · have hs2 : ¬ 1 < (m : Int) / 2 ^ k := by rw [hs]; exact hlt
          have hk2 : k = m.log2 := by omega
          have HK := Lib.hid hk2
          have hk64 : k < 64 := by omega
          clear hs hk2 hlt hk
          by_cases hk52 : k ≤ 52
          · have hk52' : (k : Int) ≤ 52 := by omega
            obtain ⟨P, hP, p1, p2, hrf⟩ := rung_lo m k hm0 HK.out hk52
            have HP := Lib.hid hP
            have HR := Lib.hid hrf
            clear hP hrf
            go_wp2_with fail
            go_ret
            refine ⟨ret_i ?_, rfl⟩
            rw [HP.out, HS.out, HR.out]
            first | omega | (simp only [IntKind.wrap_u64]; omega)
          · have hk52' : ¬ (k : Int) ≤ 52 := by omega
            obtain ⟨Q, R, F, hQ, hR, hF, hF2, q1, q2, hrf, hF3, hR3⟩ := rung_hi m k hm0 hm1 HK.out hk52
            have HR := Lib.hid hrf
            have g1 : IntKind.u64.wrap ((m : Int) - IntKind.u64.wrap ((Q : Int) * 2 ^ (k - 52))) = (R : Int) := by
              simp only [IntKind.wrap_u64]; rw [hR]; omega
            have g2 : IntKind.u64.wrap (2 ^ (k - 52 - 1)) = (F : Int) := by simp only [IntKind.wrap_u64]; rw [hF]; omega
            have q1' : 4503599627370496 ≤ (Q : Int) := by omega
            have q2' : (Q : Int) < 9007199254740992 := by omega
            clear hrf hR hF hF2 q1 q2 hF3 hR3
            by_cases c1 : F < R
            · have c1' : (F : Int) < (R : Int) := by omega
              have HE := Lib.hid (HR.out.1 (.inl c1))
              clear HR c1
              go_wp2_with fail
              go_ret
              refine ⟨ret_i ?_, rfl⟩
              rw [HS.out, HE.out]
              first | omega | (simp only [IntKind.wrap_u64]; omega)
            · have c1' : ¬ (F : Int) < (R : Int) := by omega
              by_cases c2 : R = F
              · have c2' : ((R : Int) == (F : Int)) = true := by simp; omega
                by_cases c3 : Q % 2 = 1
                · have c3' : ((Q : Int) % 2 == 1) = true := by simp; omega
                  have HE := Lib.hid (HR.out.1 (.inr ⟨c2, c3⟩))
                  clear HR c1 c2 c3
                  go_wp2_with fail
                  go_ret
                  refine ⟨ret_i ?_, rfl⟩
                  rw [HS.out, HE.out]
                  first | omega | (simp only [IntKind.wrap_u64]; omega)
                · have c3' : ((Q : Int) % 2 == 1) = false := by simp; omega
                  have HE := Lib.hid (HR.out.2 (by omega))
                  clear HR c1 c2 c3
                  go_wp2_with fail
                  go_ret
                  refine ⟨ret_i ?_, rfl⟩
                  rw [HS.out, HE.out]
                  first | omega | (simp only [IntKind.wrap_u64]; omega)
              · have c2' : ((R : Int) == (F : Int)) = false := by simp; omega
                have HE := Lib.hid (HR.out.2 (by omega))
                clear HR c1 c2
                go_wp2_with fail
                go_ret
                refine ⟨ret_i ?_, rfl⟩
                rw [HS.out, HE.out]
                first | omega | (simp only [IntKind.wrap_u64]; omega)
    · have hw : IntKind.u64.wrap a = (m : Int) := by have := HM.out; simp only [IntKind.wrap_u64]; omega
      rw [decide_eq_false hn] at HT
      have HS : Hid (toF a = rungF m) := Lib.hid (HT.out.trans (if_neg (by decide)))
      go_enter Try.func30, Try.ntmps30
      go_wp2_with fail
      go_loop [5] (fun e => ∃ k : Nat, k ≤ m.log2 ∧ e = .int .i64 k) (fun e => m.log2 - (intOf e).toNat)
      case atStart => exact ⟨0, Nat.zero_le _, rfl⟩
      case round =>
        obtain ⟨k, hk, rfl⟩ := hrel
        have hs := log_step m k hm0 hk
        by_cases hlt : k < m.log2
        · have hs2 : 1 < (m : Int) / 2 ^ k := by rw [hs]; exact hlt
          clear hs
          go_wp2_with fail
          go_round
          case rel => exact ⟨k + 1, by omega, by go_num⟩
          case measure => simp [intOf]; omega
        · have hs2 : ¬ 1 < (m : Int) / 2 ^ k := by rw [hs]; exact hlt
          have hk2 : k = m.log2 := by omega
          have HK := Lib.hid hk2
          have hk64 : k < 64 := by omega
          clear hs hk2 hlt hk
          by_cases hk52 : k ≤ 52
          · have hk52' : (k : Int) ≤ 52 := by omega
            obtain ⟨P, hP, p1, p2, hrf⟩ := rung_lo m k hm0 HK.out hk52
            have HP := Lib.hid hP
            have HR := Lib.hid hrf
            clear hP hrf
            go_wp2_with fail
            go_ret
            refine ⟨ret_i ?_, rfl⟩
            rw [HP.out, HS.out, HR.out]
            first | omega | (simp only [IntKind.wrap_u64]; omega)
          · have hk52' : ¬ (k : Int) ≤ 52 := by omega
            obtain ⟨Q, R, F, hQ, hR, hF, hF2, q1, q2, hrf, hF3, hR3⟩ := rung_hi m k hm0 hm1 HK.out hk52
            have HR := Lib.hid hrf
            have g1 : IntKind.u64.wrap ((m : Int) - IntKind.u64.wrap ((Q : Int) * 2 ^ (k - 52))) = (R : Int) := by
              simp only [IntKind.wrap_u64]; rw [hR]; omega
            have g2 : IntKind.u64.wrap (2 ^ (k - 52 - 1)) = (F : Int) := by simp only [IntKind.wrap_u64]; rw [hF]; omega
            have q1' : 4503599627370496 ≤ (Q : Int) := by omega
            have q2' : (Q : Int) < 9007199254740992 := by omega
            clear hrf hR hF hF2 q1 q2 hF3 hR3
            by_cases c1 : F < R
            · have c1' : (F : Int) < (R : Int) := by omega
              have HE := Lib.hid (HR.out.1 (.inl c1))
              clear HR c1
              go_wp2_with fail
              go_ret
              refine ⟨ret_i ?_, rfl⟩
              rw [HS.out, HE.out]
              first | omega | (simp only [IntKind.wrap_u64]; omega)
            · have c1' : ¬ (F : Int) < (R : Int) := by omega
              by_cases c2 : R = F
              · have c2' : ((R : Int) == (F : Int)) = true := by simp; omega
                by_cases c3 : Q % 2 = 1
                · have c3' : ((Q : Int) % 2 == 1) = true := by simp; omega
                  have HE := Lib.hid (HR.out.1 (.inr ⟨c2, c3⟩))
                  clear HR c1 c2 c3
                  go_wp2_with fail
                  go_ret
                  refine ⟨ret_i ?_, rfl⟩
                  rw [HS.out, HE.out]
                  first | omega | (simp only [IntKind.wrap_u64]; omega)
                · have c3' : ((Q : Int) % 2 == 1) = false := by simp; omega
                  have HE := Lib.hid (HR.out.2 (by omega))
                  clear HR c1 c2 c3
                  go_wp2_with fail
                  go_ret
                  refine ⟨ret_i ?_, rfl⟩
                  rw [HS.out, HE.out]
                  first | omega | (simp only [IntKind.wrap_u64]; omega)
              · have c2' : ((R : Int) == (F : Int)) = false := by simp; omega
                have HE := Lib.hid (HR.out.2 (by omega))
                clear HR c1 c2
                go_wp2_with fail
                go_ret
                refine ⟨ret_i ?_, rfl⟩
                rw [HS.out, HE.out]
                first | omega | (simp only [IntKind.wrap_u64]; omega)

end Go.Proofs.Ytmobmljnjolkgaa
