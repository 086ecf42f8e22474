/- Contracts of gap, number, sign, quoted and reach. -/
import Derived.Test.YtgcokjobnpjhhaaLexB
import Derived.OneCell
namespace Go.Proofs.Ytgcokjobnpjhhaa
open Go.RowKit
set_option linter.unusedVariables false

/-- a rest of a text begins a comment -/
theorem com_prefix (s : ByteArray) (a : Nat) (ha : a ≤ s.size) : Lib.hasPrefix (s.extract a s.size).data.toList (⟨#[47, 47]⟩ : ByteArray).data.toList = comB (byS s) s.size a := by
  have e : (s.extract a s.size).data.toList = s.data.toList.drop a := by
    rw [ByteArray.data_extract, Array.toList_extract, List.extract_eq_take_drop]
    exact List.take_of_length_le (by simp)
  have hl : s.data.toList.length = s.size := by simp
  rw [e]
  unfold Lib.hasPrefix
  show List.isPrefixOf [47, 47] (s.data.toList.drop a) = _
  by_cases h1 : a < s.size
  · have e1 : s.data.toList.drop a = s[a] :: s.data.toList.drop (a + 1) := by rw [List.drop_eq_getElem_cons (by omega)]; rfl
    by_cases h2 : a + 1 < s.size
    · have e2 : s.data.toList.drop (a + 1) = s[a + 1] :: s.data.toList.drop (a + 1 + 1) := by rw [List.drop_eq_getElem_cons (by omega)]; rfl
      rw [e1, e2]
      unfold comB
      rw [byS_get s a h1, byS_get s (a + 1) h2, decide_eq_true h2]
      have u : ∀ c : UInt8, ((47 : UInt8) == c) = decide (c.toNat = 47) := fun c => by
        rw [Bool.eq_iff_iff, beq_iff_eq, decide_eq_true_iff]
        constructor
        · intro h; rw [← h]; rfl
        · intro h; exact UInt8.toNat_inj.1 (by rw [h]; rfl)
      simp [List.isPrefixOf, u]
    · have e2 : s.data.toList.drop (a + 1) = [] := List.drop_eq_nil_of_le (by omega)
      rw [e1, e2]
      unfold comB
      rw [decide_eq_false h2]
      simp [List.isPrefixOf]
  · have e1 : s.data.toList.drop a = [] := List.drop_eq_nil_of_le (by omega)
    rw [e1]
    unfold comB
    rw [decide_eq_false (by omega)]
    rfl
theorem prefix_any (s : ByteArray) (a : Nat) (ha : a ≤ s.size) (w : World) :
    Calls Try.prog 31 #[.string (s.extract a s.size), .string ⟨#[47, 47]⟩] w fun e w' => e = .returned (.bool (comB (byS s) s.size a)) ∧ w = w' :=
  (Try.strings_HasPrefix (s.extract a s.size) ⟨#[47, 47]⟩ w).mono fun e w' h => ⟨by rw [h.1, com_prefix s a ha], h.2.symm⟩

set_option maxHeartbeats 1000000 in
theorem gap_any (s : ByteArray) (i : Nat) (w : World) (hs : s.size ≤ maxLen) (hi : i ≤ s.size) :
    Calls Try.prog 25 #[.string s, .int .i64 (i : Nat)] w fun e w' => e = .returned (.int .i64 (gapG (byS s) s.size i : Nat)) ∧ w = w' := by
  have hm := hs
  have HM := Lib.hid hm
  unfold maxLen at hs
  clear hm
  go_enter Try.func25, Try.ntmps25
  go_wp2_with fail
  go_loop [1] (fun t => ∃ j : Nat, j ≤ s.size ∧ t = .int .i64 j ∧ gapG (byS s) s.size j = gapG (byS s) s.size i) (fun t => s.size - (intOf t).toNat)
  case atStart => exact ⟨i, hi, rfl, rfl⟩
  case round =>
    obtain ⟨j, hj, rfl, hk⟩ := hrel
    have HK := Lib.hid hk
    clear hk
    have ha := skip_ge blankB (byS s) hj
    have hal := skip_le blankB (byS s) hj
    have HS := Lib.hid (fun w => skip_blank s j w HM.out hj)
    have HC := Lib.hid (gap_com (g := byS s) hj)
    have HT := Lib.hid (gap_stop (g := byS s) hj)
    generalize skipG blankB (byS s) s.size j = a at *
    have HP := Lib.hid (fun w => prefix_any s a hal w)
    have HL := Lib.hid (fun w => skip_line s a w HM.out hal)
    cases hc : comB (byS s) s.size a
    · have E := Lib.hid (show gapG (byS s) s.size i = a by rw [← HK.out]; exact HT.out hc)
      rw [hc] at HP
      clear hc
      go_wp2_with (first | (go_at_call 37; refine (HS.out _).mono ?_; rintro e w1 ⟨rfl, rfl⟩) | (go_at_call 31; refine (HP.out _).mono ?_; rintro e w1 ⟨rfl, rfl⟩))
      go_ret
      exact ⟨ret_i (by rw [E.out]), rfl⟩
    · have hb := line_past hc
      have E := Lib.hid ((HC.out hc).symm.trans HK.out)
      rw [hc] at HP
      clear hc
      generalize skipG lineB (byS s) s.size a = b at *
      go_wp2_with fail
      refine (HS.out _).mono ?_
      rintro e w1 ⟨rfl, rfl⟩
      go_wp2_with fail
      refine (HP.out _).mono ?_
      rintro e w1 ⟨rfl, rfl⟩
      go_wp2_with fail
      refine (HL.out _).mono ?_
      rintro e w1 ⟨rfl, rfl⟩
      go_wp2_with fail
      go_round
      case rel => exact ⟨b, by omega, rfl, E.out⟩
      case measure => simp [intOf]; omega

set_option maxHeartbeats 1000000 in
theorem number_any (s : ByteArray) (i : Nat) (w : World) (hs : s.size ≤ 65536) (hi : i < s.size) :
    Calls Try.prog 64 #[.string s, .int .i64 (i : Nat)] w fun e w' => e = .returned (.tuple #[.int .i64 ((numberG (byS s) s.size i).1 : Nat), .int .i64 ((numberG (byS s) s.size i).2 : Nat)]) ∧ w = w' := by
  have hm : s.size ≤ maxLen := by unfold maxLen; omega
  have HM := Lib.hid hm
  clear hm
  have ha := skip_ge digitB (byS s) (show i ≤ s.size by omega)
  have hal := skip_le digitB (byS s) (show i ≤ s.size by omega)
  have HS := Lib.hid (fun w => skip_digit s i w HM.out (by omega))
  have HN : Hid (numberG (byS s) s.size i = if skipG digitB (byS s) s.size i + 1 < s.size ∧ byS s (skipG digitB (byS s) s.size i) = 46 ∧ digitB (byS s (skipG digitB (byS s) s.size i + 1)) = true then (3, skipG digitB (byS s) s.size (skipG digitB (byS s) s.size i + 1)) else (2, skipG digitB (byS s) s.size i)) := Lib.hid rfl
  generalize skipG digitB (byS s) s.size i = a at *
  by_cases h1 : a + 1 < s.size
  · have HB := Lib.hid (byS_get s a (by omega))
    have HB1 := Lib.hid (byS_get s (a + 1) h1)
    have i1 : (a : Int) + 1 < (s.size : Int) := by omega
    by_cases h2 : s[a].toNat = 46
    · have t2 : ((s[a].toNat : Int) == 46) = true := by rw [h2]; rfl
      have HD := Lib.hid (fun w => digit_any s[a + 1].toNat w)
      cases h3 : digitB s[a + 1].toNat
      · have E := Lib.hid (show numberG (byS s) s.size i = (2, a) by rw [HN.out, if_neg]; rintro ⟨_, _, h⟩; rw [HB1.out, h3] at h; cases h)
        rw [h3] at HD
        clear h2 h3
        go_enter Try.func64, Try.ntmps64
        go_wp2_with (first | (go_at_call 37; refine (HS.out _).mono ?_; rintro e w1 ⟨rfl, rfl⟩) | (go_at_call 58; refine (HD.out _).mono ?_; rintro e w1 ⟨rfl, rfl⟩))
        go_ret2
        exact ⟨by rw [E.out]; rfl, rfl⟩
      · have E := Lib.hid (show numberG (byS s) s.size i = (3, skipG digitB (byS s) s.size (a + 1)) by rw [HN.out, if_pos]; exact ⟨h1, by rw [HB.out]; exact h2, by rw [HB1.out]; exact h3⟩)
        rw [h3] at HD
        have HS2 := Lib.hid (fun w => skip_digit s (a + 1) w HM.out (by omega))
        clear h2 h3
        go_enter Try.func64, Try.ntmps64
        go_wp2_with fail
        refine (HS.out _).mono ?_
        rintro e w1 ⟨rfl, rfl⟩
        go_wp2_with (first | (go_at_call 58; refine (HD.out _).mono ?_; rintro e w1 ⟨rfl, rfl⟩))
        refine (HS2.out _).mono ?_
        rintro e w1 ⟨rfl, rfl⟩
        go_wp2_with fail
        go_ret2
        exact ⟨by rw [E.out]; rfl, rfl⟩
    · have t2 : ((s[a].toNat : Int) == 46) = false := by simp; omega
      have E := Lib.hid (show numberG (byS s) s.size i = (2, a) by rw [HN.out, if_neg]; rintro ⟨_, h, _⟩; rw [HB.out] at h; exact h2 h)
      clear h2
      go_enter Try.func64, Try.ntmps64
      go_wp2_with (first | (go_at_call 37; refine (HS.out _).mono ?_; rintro e w1 ⟨rfl, rfl⟩))
      go_ret2
      exact ⟨by rw [E.out]; rfl, rfl⟩
  · have i1 : ¬ (a : Int) + 1 < (s.size : Int) := by omega
    have E := Lib.hid (show numberG (byS s) s.size i = (2, a) by rw [HN.out, if_neg]; rintro ⟨h, _⟩; exact h1 h)
    go_enter Try.func64, Try.ntmps64
    go_wp2_with (first | (go_at_call 37; refine (HS.out _).mono ?_; rintro e w1 ⟨rfl, rfl⟩))
    go_ret2
    exact ⟨by rw [E.out]; rfl, rfl⟩

end Go.Proofs.Ytgcokjobnpjhhaa
