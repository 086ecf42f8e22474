/- Contracts of the document's own letter, digit, Word and Between, and of lex.Name. -/
import Derived.Test.YtgcokjobnpjhhaaLexJ
namespace Go.Proofs.Ytgcokjobnpjhhaa
open Go Go.RowKit
set_option linter.unusedVariables false

set_option maxHeartbeats 1000000 in
theorem rletter_any (c : Nat) (w : World) :
    Calls Try.prog 34 #[.int .u8 (c : Int)] w fun e w' => e = .returned (.bool (letterB c)) ∧ w = w' := by
  go_enter Try.func34, Try.ntmps34
  go_wp2_with fail
  all_goals go_ret
  all_goals exact ⟨ret_bo (by unfold letterB; rw [Bool.eq_iff_iff]; simp; omega), rfl⟩
set_option maxHeartbeats 1000000 in
theorem rdigit_any (c : Nat) (w : World) :
    Calls Try.prog 35 #[.int .u8 (c : Int)] w fun e w' => e = .returned (.bool (digitB c)) ∧ w = w' := by
  go_enter Try.func35, Try.ntmps35
  go_wp2_with fail
  all_goals go_ret
  all_goals exact ⟨ret_bo (by unfold digitB; rw [Bool.eq_iff_iff]; simp; omega), rfl⟩

/-- how many bytes from a place on are a word's -/
def wordG (g : Nat → Nat) (n i : Nat) : Nat := if i < n ∧ letterB (g i) = true then skipG inWordB g n i - i else 0
set_option maxHeartbeats 4000000 in
theorem word_any (s : ByteArray) (i : Nat) (w : World) (hs : s.size ≤ 65536) (hi : i ≤ s.size) :
    Calls Try.prog 14 #[.string s, .int .i64 (i : Nat)] w fun e w' => e = .returned (.int .i64 (wordG (byS s) s.size i : Nat)) ∧ w = w' := by
  obtain ⟨R, hR⟩ : ∃ R, wordG (byS s) s.size i = R := ⟨_, rfl⟩
  rw [hR]
  have HR := Lib.hid hR
  clear hR
  go_enter Try.func14, Try.ntmps14
  go_wp2_with fail
  go_loop [5] (fun t => ∃ j : Nat, i + j ≤ s.size ∧ t = .int .i64 j ∧ (0 < j → letterB (byS s i) = true ∧ i < s.size) ∧ skipG inWordB (byS s) s.size (i + j) = skipG inWordB (byS s) s.size i) (fun t => s.size - i - (intOf t).toNat)
  case atStart => exact ⟨0, by omega, rfl, fun h => by omega, rfl⟩
  case round =>
    obtain ⟨j, hj, rfl, hf, hk⟩ := hrel
    have HF := Lib.hid hf
    have HK := Lib.hid hk
    clear hf hk
    by_cases hlt : i + j < s.size
    · have i1 : (i : Int) + (j : Int) < (s.size : Int) := by omega
      have HB := Lib.hid (byS_get s (i + j) hlt)
      have HL := Lib.hid (fun w => rletter_any s[i + j].toNat w)
      have HD := Lib.hid (fun w => rdigit_any s[i + j].toNat w)
      cases hl : letterB s[i + j].toNat
      · rw [hl] at HL
        by_cases h0 : j = 0
        · have E := Lib.hid (show R = 0 by
            rw [← HR.out]; unfold wordG; rw [if_neg]; rintro ⟨_, h⟩
            have e : byS s i = s[i + j].toNat := by rw [← HB.out]; congr 1; omega
            rw [e, hl] at h; cases h)
          have j0 : ¬ (0 : Int) < (j : Int) := by omega
          have HJ := Lib.hid h0
          clear hl h0
          go_wp2_with (first | (go_at_call 34; refine (HL.out _).mono ?_; rintro e w1 ⟨rfl, rfl⟩) | (go_at_call 35; refine (HD.out _).mono ?_; rintro e w1 ⟨rfl, rfl⟩))
          go_ret
          exact ⟨ret_i (by rw [E.out, HJ.out]), rfl⟩
        · have j0 : (0 : Int) < (j : Int) := by omega
          obtain ⟨u1, u2⟩ := HF.out (by omega)
          cases hd : digitB s[i + j].toNat
          · rw [hd] at HD
            have E := Lib.hid (show R = j by
              rw [← HR.out]; unfold wordG; rw [if_pos ⟨u2, u1⟩, ← HK.out, skip_no (by rw [HB.out]; unfold inWordB; rw [hl, hd]; rfl)]; omega)
            clear hl hd u1 u2
            go_wp2_with (first | (go_at_call 34; refine (HL.out _).mono ?_; rintro e w1 ⟨rfl, rfl⟩) | (go_at_call 35; refine (HD.out _).mono ?_; rintro e w1 ⟨rfl, rfl⟩))
            go_ret
            exact ⟨ret_i (by rw [E.out]), rfl⟩
          · rw [hd] at HD
            have E := Lib.hid (show skipG inWordB (byS s) s.size (i + (j + 1)) = skipG inWordB (byS s) s.size i by rw [← HK.out, ← Nat.add_assoc, ← skip_yes hlt (by rw [HB.out]; unfold inWordB; rw [hd]; simp)])
            have EU := Lib.hid u1
            clear hl hd u1
            go_wp2_with (first | (go_at_call 34; refine (HL.out _).mono ?_; rintro e w1 ⟨rfl, rfl⟩) | (go_at_call 35; refine (HD.out _).mono ?_; rintro e w1 ⟨rfl, rfl⟩))
            go_round
            case rel => exact ⟨j + 1, by omega, by go_num, fun _ => ⟨EU.out, u2⟩, E.out⟩
            case measure => simp [intOf]; omega
      · rw [hl] at HL
        have E := Lib.hid (show skipG inWordB (byS s) s.size (i + (j + 1)) = skipG inWordB (byS s) s.size i by rw [← HK.out, ← Nat.add_assoc, ← skip_yes hlt (by rw [HB.out]; unfold inWordB; rw [hl]; rfl)])
        have EU : Hid (0 < j + 1 → letterB (byS s i) = true ∧ i < s.size) := Lib.hid (fun _ => by
          by_cases h0 : j = 0
          · have e : byS s i = s[i + j].toNat := by rw [← HB.out]; congr 1; omega
            exact ⟨by rw [e]; exact hl, by omega⟩
          · exact HF.out (by omega))
        clear hl
        go_wp2_with (first | (go_at_call 34; refine (HL.out _).mono ?_; rintro e w1 ⟨rfl, rfl⟩) | (go_at_call 35; refine (HD.out _).mono ?_; rintro e w1 ⟨rfl, rfl⟩))
        go_round
        case rel => exact ⟨j + 1, by omega, by go_num, EU.out, E.out⟩
        case measure => simp [intOf]; omega
    · have i1 : ¬ (i : Int) + (j : Int) < (s.size : Int) := by omega
      have E := Lib.hid (show R = j by
        rw [← HR.out]; unfold wordG
        by_cases h0 : j = 0
        · rw [if_neg (by omega)]; omega
        · obtain ⟨u1, u2⟩ := HF.out (by omega)
          rw [if_pos ⟨u2, u1⟩, ← HK.out, skip_end (by omega)]; omega)
      go_wp2_with fail
      go_ret
      exact ⟨ret_i (by rw [E.out]), rfl⟩

set_option maxHeartbeats 8000000 in
theorem between_at (s : ByteArray) (i : Nat) (w : World) (hs : s.size ≤ 65536) (hi : i ≤ s.size) :
    Calls Try.prog 11 #[.string s, .int .i64 (i : Nat)] w fun e w' => e = .returned (.int .i64 (gapG (byS s) s.size i : Nat)) ∧ w = w' := by
  obtain ⟨R, hR⟩ : ∃ R, gapG (byS s) s.size i = R := ⟨_, rfl⟩
  rw [hR]
  have HR := Lib.hid hR
  clear hR
  go_enter Try.func11, Try.ntmps11
  go_wp2_with fail
  go_loop [1] (fun t => ∃ j : Nat, j ≤ s.size ∧ t = .int .i64 j ∧ gapG (byS s) s.size j = R) (fun t => s.size - (intOf t).toNat)
  case atStart => exact ⟨i, hi, rfl, HR.out⟩
  case round =>
    obtain ⟨j, hj, rfl, hk⟩ := hrel
    have HK := Lib.hid hk
    clear hk HR
    by_cases hlt : j < s.size
    · have i1 : (j : Int) < (s.size : Int) := by omega
      have HB := Lib.hid (byS_get s j hlt)
      by_cases hb : blankB s[j].toNat = true
      · have E := Lib.hid (show gapG (byS s) s.size (j + 1) = R by rw [← HK.out, gap_blank hlt (by rw [HB.out]; exact hb)])
        have hbb : s[j].toNat = 32 ∨ s[j].toNat = 9 ∨ s[j].toNat = 10 ∨ s[j].toNat = 13 := by unfold blankB at hb; simp at hb; omega
        clear hb
        rcases hbb with h | h | h | h
        · have t1 : ((s[j].toNat : Int) == 32) = true := by rw [h]; rfl
          clear h
          go_wp2_with fail
          go_round
          case rel => exact ⟨j + 1, by omega, by go_num, E.out⟩
          case measure => simp [intOf]; omega
        · have t1 : ((s[j].toNat : Int) == 32) = false := by rw [h]; rfl
          have t2 : ((s[j].toNat : Int) == 9) = true := by rw [h]; rfl
          clear h
          go_wp2_with fail
          go_round
          case rel => exact ⟨j + 1, by omega, by go_num, E.out⟩
          case measure => simp [intOf]; omega
        · have t1 : ((s[j].toNat : Int) == 32) = false := by rw [h]; rfl
          have t2 : ((s[j].toNat : Int) == 9) = false := by rw [h]; rfl
          have t3 : ((s[j].toNat : Int) == 10) = true := by rw [h]; rfl
          clear h
          go_wp2_with fail
          go_round
          case rel => exact ⟨j + 1, by omega, by go_num, E.out⟩
          case measure => simp [intOf]; omega
        · have t1 : ((s[j].toNat : Int) == 32) = false := by rw [h]; rfl
          have t2 : ((s[j].toNat : Int) == 9) = false := by rw [h]; rfl
          have t3 : ((s[j].toNat : Int) == 10) = false := by rw [h]; rfl
          have t4 : ((s[j].toNat : Int) == 13) = true := by rw [h]; rfl
          clear h
          go_wp2_with fail
          go_round
          case rel => exact ⟨j + 1, by omega, by go_num, E.out⟩
          case measure => simp [intOf]; omega
      · have hbf : blankB s[j].toNat = false := by simpa using hb
        have hbn : s[j].toNat ≠ 32 ∧ s[j].toNat ≠ 9 ∧ s[j].toNat ≠ 10 ∧ s[j].toNat ≠ 13 := by unfold blankB at hbf; simp at hbf; omega
        have t1 : ((s[j].toNat : Int) == 32) = false := by simp; omega
        have t2 : ((s[j].toNat : Int) == 9) = false := by simp; omega
        have t3 : ((s[j].toNat : Int) == 10) = false := by simp; omega
        have t4 : ((s[j].toNat : Int) == 13) = false := by simp; omega
        cases hc : comB (byS s) s.size j
        · have E := Lib.hid (show R = j by rw [← HK.out]; exact gap_here hj (fun _ => by rw [HB.out]; exact hbf) hc)
          have hcn : ¬ (j + 1 < s.size ∧ byS s j = 47 ∧ byS s (j + 1) = 47) := fun h => by rw [comB_iff.2 h] at hc; cases hc
          clear hb hbf hbn hc
          by_cases h1 : j + 1 < s.size
          · have i2 : (j : Int) + 1 < (s.size : Int) := by omega
            have HB1 := Lib.hid (byS_get s (j + 1) h1)
            by_cases h2 : s[j].toNat = 47
            · have t5 : ((s[j].toNat : Int) == 47) = true := by rw [h2]; rfl
              have t6 : ((s[j + 1].toNat : Int) == 47) = false := by
                have : s[j + 1].toNat ≠ 47 := fun h3 => hcn ⟨h1, by rw [HB.out]; exact h2, by rw [HB1.out]; exact h3⟩
                simp; omega
              clear hcn h2
              go_wp2_with fail
              go_ret
              exact ⟨ret_i (by rw [E.out]), rfl⟩
            · have t5 : ((s[j].toNat : Int) == 47) = false := by simp; omega
              clear hcn h2
              go_wp2_with fail
              go_ret
              exact ⟨ret_i (by rw [E.out]), rfl⟩
          · have i2 : ¬ (j : Int) + 1 < (s.size : Int) := by omega
            clear hcn
            go_wp2_with fail
            go_ret
            exact ⟨ret_i (by rw [E.out]), rfl⟩
        · obtain ⟨h1, h2, h3⟩ := comB_iff.1 hc
          have hlp := line_past hc
          have HG := Lib.hid ((gap_line hc).symm.trans HK.out)
          have i2 : (j : Int) + 1 < (s.size : Int) := by omega
          have h2' : s[j].toNat = 47 := by rw [← HB.out]; exact h2
          have h3' : s[j + 1].toNat = 47 := by rw [← byS_get s (j + 1) h1]; exact h3
          have t5 : ((s[j].toNat : Int) == 47) = true := by rw [h2']; rfl
          have t6 : ((s[j + 1].toNat : Int) == 47) = true := by rw [h3']; rfl
          clear hb hbf hbn hc h2 h3 h2' h3'
          go_wp2_with fail
          go_loop [1] (fun t => ∃ m : Nat, j ≤ m ∧ m ≤ s.size ∧ t = .int .i64 m ∧ skipG lineB (byS s) s.size m = skipG lineB (byS s) s.size j) (fun t => s.size - (intOf t).toNat)
          case atStart => exact ⟨j, Nat.le_refl _, hj, rfl, rfl⟩
          case round =>
            obtain ⟨m, hjm, hm, rfl, hq⟩ := hrel
            have HQ := Lib.hid hq
            clear hq t1 t2 t3 t4 t5 t6
            by_cases hlm : m < s.size
            · have i3 : (m : Int) < (s.size : Int) := by omega
              have HBM := Lib.hid (byS_get s m hlm)
              by_cases h10 : s[m].toNat = 10
              · have t7 : ((s[m].toNat : Int) != 10) = false := by rw [h10]; rfl
                have HM := Lib.hid (show skipG lineB (byS s) s.size j = m by rw [← HQ.out, skip_no (by rw [HBM.out, h10]; rfl)])
                clear h10
                go_wp2_with fail
                go_round
                case rel => exact ⟨m, hm, rfl, by have := HG.out; rwa [HM.out] at this⟩
                case measure => have := HM.out; simp [intOf]; omega
              · have t7 : ((s[m].toNat : Int) != 10) = true := by simp; omega
                have HM := Lib.hid (show skipG lineB (byS s) s.size (m + 1) = skipG lineB (byS s) s.size j by rw [← HQ.out, ← skip_yes hlm (by rw [HBM.out]; unfold lineB; simpa using h10)])
                clear h10
                go_wp2_with fail
                go_round
                case rel => exact ⟨m + 1, by omega, by omega, by go_num, HM.out⟩
                case measure => simp [intOf]; omega
            · have i3 : ¬ (m : Int) < (s.size : Int) := by omega
              have HM := Lib.hid (show skipG lineB (byS s) s.size j = m by rw [← HQ.out, skip_end (by omega)])
              go_wp2_with fail
              go_round
              case rel => exact ⟨m, hm, rfl, by have := HG.out; rwa [HM.out] at this⟩
              case measure => have := HM.out; simp [intOf]; omega
    · have i1 : ¬ (j : Int) < (s.size : Int) := by omega
      have E := Lib.hid (show R = j by
        have : j = s.size := by omega
        rw [← HK.out, this]; exact gap_end)
      go_wp2_with fail
      go_ret
      exact ⟨ret_i (by rw [E.out]), rfl⟩

end Go.Proofs.Ytgcokjobnpjhhaa
