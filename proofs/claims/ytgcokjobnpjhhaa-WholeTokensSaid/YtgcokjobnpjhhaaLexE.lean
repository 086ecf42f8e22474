/- Contracts of skip where it pairs, quoted and reach. -/
import Derived.Test.YtgcokjobnpjhhaaLexD
namespace Go.Proofs.Ytgcokjobnpjhhaa
open Go.RowKit
set_option linter.unusedVariables false

set_option maxHeartbeats 2000000 in
theorem skip_paired (s : ByteArray) (i B : Nat) (b : Bool) (w : World) (hs : s.size ≤ maxLen) (hi : i ≤ s.size) (hB : w.heap[B]? = some (.cells #[.bool b] 4 (0, 0))) :
    Calls Try.prog 37 #[.string s, .int .i64 (i : Nat), .func (.func 57) #[] #[.pointer (some ⟨B, 0, none⟩)]] w fun e w' => e = .returned (.int .i64 (qskip (byS s) s.size i b : Nat)) ∧ Below B w w' := by
  unfold maxLen at hs
  have HB0 := Lib.hid hB
  clear hB
  go_enter Try.func37, Try.ntmps37
  go_wp2_with fail
  go_loopw [12] (fun t wr => ∃ (j : Nat) (b' : Bool), i + j ≤ s.size ∧ t = .int .i64 j ∧ qskip (byS s) s.size (i + j) b' = qskip (byS s) s.size i b ∧ wr.heap[B]? = some (.cells #[.bool b'] 4 (0, 0)) ∧ Below B w wr) (fun t _ => s.size - i - (intOf t).toNat)
  case atStart => exact ⟨0, b, by omega, rfl, rfl, HB0.out, Below.refl _ _⟩
  case round =>
    obtain ⟨j, b', hj, rfl, hk, hbk, hbel⟩ := hrel
    have HK := Lib.hid hk
    have HBK := Lib.hid hbk
    have HBEL := Lib.hid hbel
    clear hk hbk hbel
    by_cases hlt : i + j < s.size
    · have i1 : (j : Int) < (s.size : Int) - (i : Int) := by omega
      have HB := Lib.hid (byS_get s (i + j) hlt)
      cases hp : stopB s[i + j].toNat b'
      · have E := Lib.hid (show qskip (byS s) s.size (i + (j + 1)) (decide (s[i + j].toNat = 92) && !b') = qskip (byS s) s.size i b by
          rw [← HK.out, ← Nat.add_assoc, qskip_go (n := s.size) hlt (by rw [HB.out]; intro h; rw [stopB_iff.2 h] at hp; cases hp), HB.out])
        have HP := Lib.hid hp
        clear hp
        go_wp2_with fail
        refine (paired_any _ B b' _ HBK.out).mono ?_
        rintro e w1 ⟨-, h2⟩
        obtain ⟨rfl, rfl⟩ := h2 HP.out
        have HN := Lib.hid (one_setCell (u := .bool (decide (s[i + j].toNat = 92) && !b')) HBK.out)
        clear h2
        go_wp2_with fail
        go_roundw
        case rel => exact ⟨j + 1, _, by omega, by go_num, E.out, HN.out, HBEL.out.setCell (Nat.le_refl _) _⟩
        case measure => simp [intOf]; omega
      · have E := Lib.hid (show qskip (byS s) s.size i b = i + j by rw [← HK.out, qskip_stop (by rw [HB.out]; exact stopB_iff.1 hp)])
        have HP := Lib.hid hp
        clear hp
        go_wp2_with fail
        refine (paired_any _ B b' _ HBK.out).mono ?_
        rintro e w1 ⟨h1, -⟩
        obtain ⟨rfl, rfl⟩ := h1 HP.out
        clear h1
        go_wp2_with fail
        go_ret
        exact ⟨ret_i (by rw [E.out]; omega), HBEL.out⟩
    · have i1 : ¬ (j : Int) < (s.size : Int) - (i : Int) := by omega
      have E := Lib.hid (show qskip (byS s) s.size i b = s.size by rw [← HK.out, qskip_end (by omega)]; omega)
      go_wp2_with fail
      go_ret
      exact ⟨ret_i (by rw [E.out]), HBEL.out⟩

set_option maxHeartbeats 2000000 in
theorem quoted_any (s : ByteArray) (i : Nat) (w : World) (hs : s.size ≤ 65536) (hi : i < s.size) :
    Calls Try.prog 32 #[.string s, .int .i64 (i : Nat)] w fun e w' => e = .returned (.int .i64 (quotedG (byS s) s.size i : Nat)) ∧ Below w.heap.size w w' := by
  have hb0 : (w.alloc (.cells #[.bool false] 4)).heap[w.heap.size]? = some (.cells #[.bool false] 4 (0, 0)) := heap_alloc_new _ _
  have HS := Lib.hid (skip_paired s (i + 1) w.heap.size false _ (by unfold maxLen; omega) (by omega) hb0)
  obtain ⟨k1, k2, k3, k4⟩ := qskip_facts (g := byS s) (n := s.size) _ (i + 1) false rfl (by omega)
  have HQ : Hid (quotedG (byS s) s.size i = if qskip (byS s) s.size (i + 1) false < s.size ∧ byS s (qskip (byS s) s.size (i + 1) false) = 34 then qskip (byS s) s.size (i + 1) false + 1 else qskip (byS s) s.size (i + 1) false) := Lib.hid rfl
  clear hb0 k3 k4
  generalize qskip (byS s) s.size (i + 1) false = a at *
  have hmf : ∀ (fn : Fn) (first cap : Array Value) (w : World), (Instr.makeFunc fn first cap).run Try.prog w = .ok (.func fn first cap) w := fun _ _ _ _ => rfl
  by_cases h1 : a < s.size
  · have i1 : (a : Int) < (s.size : Int) := by omega
    have HB := Lib.hid (byS_get s a h1)
    by_cases h2 : s[a].toNat = 34
    · have t2 : ((s[a].toNat : Int) == 34) = true := by rw [h2]; rfl
      have E := Lib.hid (show quotedG (byS s) s.size i = a + 1 by rw [HQ.out, if_pos ⟨h1, by rw [HB.out]; exact h2⟩])
      clear h2
      go_enter Try.func32, Try.ntmps32
      go_wp2_with fail
      refine HS.out.mono ?_
      rintro e w1 ⟨rfl, h01⟩
      have H1 := Lib.hid h01
      clear h01
      go_wp2_with fail
      go_ret
      exact ⟨ret_i (by rw [E.out]; omega), ((Below.refl _ _).alloc (Nat.le_refl _) _).trans H1.out⟩
    · have t2 : ((s[a].toNat : Int) == 34) = false := by simp; omega
      have E := Lib.hid (show quotedG (byS s) s.size i = a by rw [HQ.out, if_neg (fun h => h2 (by rw [← HB.out]; exact h.2))])
      clear h2
      go_enter Try.func32, Try.ntmps32
      go_wp2_with fail
      refine HS.out.mono ?_
      rintro e w1 ⟨rfl, h01⟩
      have H1 := Lib.hid h01
      clear h01
      go_wp2_with fail
      go_ret
      exact ⟨ret_i (by rw [E.out]), ((Below.refl _ _).alloc (Nat.le_refl _) _).trans H1.out⟩
  · have i1 : ¬ (a : Int) < (s.size : Int) := by omega
    have E := Lib.hid (show quotedG (byS s) s.size i = a by rw [HQ.out, if_neg (fun h => h1 h.1)])
    go_enter Try.func32, Try.ntmps32
    go_wp2_with fail
    refine HS.out.mono ?_
    rintro e w1 ⟨rfl, h01⟩
    have H1 := Lib.hid h01
    clear h01
    go_wp2_with fail
    go_ret
    exact ⟨ret_i (by rw [E.out]), ((Below.refl _ _).alloc (Nat.le_refl _) _).trans H1.out⟩

set_option maxHeartbeats 2000000 in
theorem reach_any (s : ByteArray) (i : Nat) (w : World) (hs : s.size ≤ 65536) (hi : i < s.size) :
    Calls Try.prog 52 #[.string s, .int .i64 (i : Nat)] w fun e w' => e = .returned (.tuple #[.int .i64 ((reachG (byS s) s.size i).1 : Nat), .int .i64 ((reachG (byS s) s.size i).2 : Nat)]) ∧ Below w.heap.size w w' := by
  have hm : s.size ≤ maxLen := by unfold maxLen; omega
  have HL := Lib.hid (fun w => letter_any s[i].toNat w)
  have HD := Lib.hid (fun w => digit_any s[i].toNat w)
  have HW := Lib.hid (fun w => skip_word s i w hm (by omega))
  have HN := Lib.hid (fun w => number_any s i w hs hi)
  have HQ := Lib.hid (fun w => quoted_any s i w hs hi)
  have HS := Lib.hid (fun w => sign_rest s i w hs hi)
  have hsl := sign_le (g := byS s) hi
  have HR : Hid (reachG (byS s) s.size i = if letterB s[i].toNat = true then (1, skipG inWordB (byS s) s.size i) else if digitB s[i].toNat = true then numberG (byS s) s.size i else if s[i].toNat = 34 then (4, quotedG (byS s) s.size i) else (5, i + signG (byS s) s.size i)) := Lib.hid (by unfold reachG; rw [byS_get s i hi])
  clear hm
  cases h1 : letterB s[i].toNat
  · rw [h1] at HL
    cases h2 : digitB s[i].toNat
    · rw [h2] at HD
      by_cases h3 : s[i].toNat = 34
      · have t3 : ((s[i].toNat : Int) == 34) = true := by rw [h3]; rfl
        have E := Lib.hid (show reachG (byS s) s.size i = (4, quotedG (byS s) s.size i) by rw [HR.out, if_neg (by simp [h1]), if_neg (by simp [h2]), if_pos h3])
        clear h1 h2 h3
        generalize quotedG (byS s) s.size i = a at *
        go_enter Try.func52, Try.ntmps52
        go_wp2_with (first | (go_at_call 36; refine (HL.out _).mono ?_; rintro e w1 ⟨rfl, rfl⟩) | (go_at_call 58; refine (HD.out _).mono ?_; rintro e w1 ⟨rfl, rfl⟩))
        refine (HQ.out _).mono ?_
        rintro e w1 ⟨rfl, h01⟩
        have H1 := Lib.hid h01
        clear h01
        go_wp2_with fail
        go_ret2
        exact ⟨by rw [E.out]; rfl, H1.out⟩
      · have t3 : ((s[i].toNat : Int) == 34) = false := by simp; omega
        have E := Lib.hid (show reachG (byS s) s.size i = (5, i + signG (byS s) s.size i) by rw [HR.out, if_neg (by simp [h1]), if_neg (by simp [h2]), if_neg h3])
        clear h1 h2 h3
        generalize signG (byS s) s.size i = a at *
        go_enter Try.func52, Try.ntmps52
        go_wp2_with (first | (go_at_call 36; refine (HL.out _).mono ?_; rintro e w1 ⟨rfl, rfl⟩) | (go_at_call 58; refine (HD.out _).mono ?_; rintro e w1 ⟨rfl, rfl⟩))
        refine (HS.out _).mono ?_
        rintro e w1 ⟨rfl, rfl⟩
        go_wp2_with fail
        go_ret2
        exact ⟨by rw [E.out]; rfl, Below.refl _ _⟩
    · rw [h2] at HD
      have E := Lib.hid (show reachG (byS s) s.size i = numberG (byS s) s.size i by rw [HR.out, if_neg (by simp [h1]), if_pos h2])
      clear h1 h2
      generalize numberG (byS s) s.size i = a at *
      go_enter Try.func52, Try.ntmps52
      go_wp2_with (first | (go_at_call 36; refine (HL.out _).mono ?_; rintro e w1 ⟨rfl, rfl⟩) | (go_at_call 58; refine (HD.out _).mono ?_; rintro e w1 ⟨rfl, rfl⟩))
      refine (HN.out _).mono ?_
      rintro e w1 ⟨rfl, rfl⟩
      go_wp2_with fail
      go_ret2
      exact ⟨by rw [E.out]; rfl, Below.refl _ _⟩
  · rw [h1] at HL
    have E := Lib.hid (show reachG (byS s) s.size i = (1, skipG inWordB (byS s) s.size i) by rw [HR.out, if_pos h1])
    clear h1
    generalize skipG inWordB (byS s) s.size i = a at *
    go_enter Try.func52, Try.ntmps52
    go_wp2_with (first | (go_at_call 36; refine (HL.out _).mono ?_; rintro e w1 ⟨rfl, rfl⟩) | (go_at_call 58; refine (HD.out _).mono ?_; rintro e w1 ⟨rfl, rfl⟩))
    refine (HW.out _).mono ?_
    rintro e w1 ⟨rfl, rfl⟩
    go_wp2_with fail
    go_ret2
    exact ⟨by rw [E.out]; rfl, Below.refl _ _⟩

end Go.Proofs.Ytgcokjobnpjhhaa
