/- The document's own answer: the double of digits, a point, and digits. -/
import Derived.Test.YtmobmljnjolkgaaNumFrame
import Derived.Test.YtmobmljnjolkgaaNumF
import Derived.Outline
namespace Go.Proofs.Ytmobmljnjolkgaa
open Go.RowKit
set_option linter.unusedVariables false

/-- where the first point stands from a place on; -1: none does -/
def atFrom (s : ByteArray) (k : Nat) : Int := match posOf (s.data.toList.drop k) 46 with | none => -1 | some j => ((k + j : Nat) : Int)
theorem atFrom_step (s : ByteArray) (k : Nat) (h : k < s.size) : atFrom s k = if s[k].toNat = 46 then (k : Int) else atFrom s (k + 1) := by
  unfold atFrom
  have hd : s.data.toList.drop k = s[k] :: s.data.toList.drop (k + 1) := by
    rw [List.drop_eq_getElem_cons (by simpa using h)]; rfl
  rw [hd]
  by_cases hc : s[k].toNat = 46
  · have : (s[k] == (46 : UInt8)) = true := by rw [beq_iff_eq]; exact (u8_eq s[k] 46 (by omega)).2 hc
    rw [if_pos hc]; unfold posOf; rw [if_pos this]; simp
  · have : (s[k] == (46 : UInt8)) = false := by
      rw [beq_eq_false_iff_ne]; intro e; exact hc (by rw [e]; rfl)
    rw [if_neg hc]
    conv => lhs; unfold posOf
    rw [this]
    simp only [Bool.false_eq_true, if_false]
    cases posOf (s.data.toList.drop (k + 1)) 46 with
    | none => rfl
    | some j => simp only [Option.map_some]; omega
theorem atFrom_end (s : ByteArray) : atFrom s s.size = -1 := by
  unfold atFrom; rw [List.drop_of_length_le (by simp)]; rfl
theorem atFrom_zero (s : ByteArray) : atFrom s 0 = match posOf s.data.toList 46 with | none => -1 | some j => (j : Int) := by
  unfold atFrom; rw [List.drop_zero]; cases posOf s.data.toList 46 with
  | none => rfl
  | some j => simp only [Nat.zero_add]

/-- the digits ahead of a point and behind it -/
def digL (s : ByteArray) (k : Nat) : List UInt8 := (s.extract 0 k).data.toList ++ (s.extract (k + 1) s.size).data.toList
theorem ext_list (s : ByteArray) (i j : Nat) : (s.extract i j).data.toList = (s.data.toList.take j).drop i := by
  rw [ByteArray.data_extract, Array.toList_extract, List.extract_eq_take_drop, List.drop_take]
theorem digL_eq (s : ByteArray) (k : Nat) (h : k < s.size) : digL s k = s.data.toList.take k ++ s.data.toList.drop (k + 1) := by
  unfold digL
  have e : (s.data.toList.take s.size) = s.data.toList := List.take_of_length_le (by simp)
  rw [ext_list, ext_list, List.drop_zero, e]
theorem digL_lo (s : ByteArray) (k i : Nat) (hk : k < s.size) (h : i < k) : (digL s k)[i]? = some (s[i]'(by omega)) := by
  have hl : i < s.data.toList.length := by simp; omega
  rw [digL_eq s k hk, List.getElem?_append_left (by simp; omega), List.getElem?_take_of_lt h, List.getElem?_eq_getElem hl]; rfl
theorem digL_hi (s : ByteArray) (k i : Nat) (hk : k < s.size) (h : k < i) (hi : i < s.size) : (digL s k)[i - 1]? = some s[i] := by
  have hl : i < s.data.toList.length := by simp; omega
  have hk2 : (s.data.toList.take k).length = k := by simp; omega
  rw [digL_eq s k hk, List.getElem?_append_right (by omega), hk2, List.getElem?_drop, show k + 1 + (i - 1 - k) = i by omega, List.getElem?_eq_getElem hl]; rfl
theorem digL_len (s : ByteArray) (k : Nat) (h : k < s.size) : (digL s k).length = s.size - 1 := by
  rw [digL_eq s k h]; simp; omega
def valK (s : ByteArray) (k m : Nat) : Nat := valL ((digL s k).take (if m ≤ k then m else m - 1))
theorem take_one {l : List UInt8} {j : Nat} {c : UInt8} (h : l[j]? = some c) : l.take (j + 1) = l.take j ++ [c] := by
  rw [List.take_add_one, h]; rfl
theorem valK_step (s : ByteArray) (k m : Nat) (hk : k < s.size) (hm : m < s.size) (hne : m ≠ k) : valK s k (m + 1) = 10 * valK s k m + (s[m].toNat - 48) := by
  unfold valK
  rcases Nat.lt_or_ge m k with h | h
  · rw [if_pos (by omega), if_pos (by omega), take_one (digL_lo s k m hk h), valL_snoc]
  · rw [if_neg (by omega), if_neg (by omega), show m + 1 - 1 = (m - 1) + 1 by omega, take_one (digL_hi s k m hk (by omega) hm), valL_snoc]
theorem valK_skip (s : ByteArray) (k : Nat) : valK s k (k + 1) = valK s k k := by
  unfold valK; rw [if_neg (by omega), if_pos (Nat.le_refl _)]; rfl
theorem valK_end (s : ByteArray) (k : Nat) (hk : k < s.size) : valK s k s.size = valL (digL s k) := by
  unfold valK; rw [if_neg (by omega), List.take_of_length_le (by rw [digL_len s k hk]; omega)]
theorem valK_lt (s : ByteArray) (k m : Nat) (hd : (digL s k).all digC = true) (hl : (digL s k).length ≤ 15) : valK s k m < 1000000000000000 := by
  unfold valK
  have h1 : ((digL s k).take (if m ≤ k then m else m - 1)).all digC = true := List.all_eq_true.2 fun x hx => List.all_eq_true.1 hd x (List.mem_of_mem_take hx)
  have h2 := valL_lt _ h1
  have h3 : ((digL s k).take (if m ≤ k then m else m - 1)).length ≤ 15 := by rw [List.length_take]; omega
  calc valL _ < 10 ^ ((digL s k).take (if m ≤ k then m else m - 1)).length := h2
    _ ≤ 10 ^ 15 := Nat.pow_le_pow_right (by decide) h3
    _ = 1000000000000000 := by decide
theorem dig_mem {l : List UInt8} {j : Nat} {c : UInt8} (h : l[j]? = some c) (hd : l.all digC = true) : 48 ≤ c.toNat ∧ c.toNat ≤ 57 := by
  have := List.all_eq_true.1 hd c (List.mem_of_getElem? h)
  unfold digC at this; exact of_decide_eq_true this
theorem dig_not (s : ByteArray) (k m : Nat) (hk : k < s.size) (hm : m < s.size) (hne : m ≠ k) (hd : (digL s k).all digC = true) : 48 ≤ s[m].toNat ∧ s[m].toNat ≤ 57 := by
  rcases Nat.lt_or_ge m k with h | h
  · exact dig_mem (digL_lo s k m hk h) hd
  · exact dig_mem (digL_hi s k m hk (by omega) hm) hd
theorem ten_lt (d : Nat) (h : d ≤ 15) : 10 ^ d ≤ 1000000000000000 := by
  calc 10 ^ d ≤ 10 ^ 15 := Nat.pow_le_pow_right (by decide) h
    _ = 1000000000000000 := by decide

set_option maxRecDepth 100000 in
set_option maxHeartbeats 2000000 in
theorem rfloat_any (s : ByteArray) (w : World) (hs : s.size < 1000000) :
    Calls Try.prog 20 #[.string s] w fun e w' => e = .returned (.tuple #[.int .u64 ((fltR s).1 : Nat), .int .i64 (fltR s).2]) ∧ w = w' := by
  go_enter Try.func20, Try.ntmps20
  go_wp2_with fail
  go_loop [4, 5] (fun t u => ∃ i : Int, -1 ≤ i ∧ i < (s.size : Int) ∧ u = .int .i64 i ∧ t = .int .i64 (atFrom s (i + 1).toNat)) (fun _ u => (intOf u + 1).toNat)
  case atStart => exact ⟨(s.size : Int) - 1, by omega, by omega, rfl, val_int (by rw [show ((s.size : Int) - 1 + 1).toNat = s.size by omega, atFrom_end])⟩
  case round =>
    obtain ⟨i, hi1, hi2, rfl, rfl⟩ := hrel
    by_cases h0 : 0 ≤ i
    · obtain ⟨k, rfl⟩ := Int.eq_ofNat_of_zero_le h0
      have hk : k < s.size := by omega
      have hst := atFrom_step s k hk
      rw [show ((k : Int) + 1).toNat = k + 1 by omega]
      by_cases hc : s[k].toNat = 46
      · rw [if_pos hc] at hst
        have HS := Lib.hid hst
        have hb : ((s[k].toNat : Int) == 46) = true := by rw [hc]; rfl
        clear hst hc
        go_wp2_with fail
        go_round
        case rel => exact ⟨(k : Int) - 1, by omega, by omega, rfl, val_int (by rw [show ((k : Int) - 1 + 1).toNat = k by omega]; exact HS.out.symm)⟩
        case measure => simp [intOf]
      · rw [if_neg hc] at hst
        have HS := Lib.hid hst
        have hb : ((s[k].toNat : Int) == 46) = false := by simp; omega
        clear hst hc
        go_wp2_with fail
        go_round
        case rel => exact ⟨(k : Int) - 1, by omega, by omega, rfl, val_int (by rw [show ((k : Int) - 1 + 1).toNat = k by omega]; exact HS.out.symm)⟩
        case measure => simp [intOf]
    · have hi : i = -1 := by omega
      subst hi
      rw [show ((-1 : Int) + 1).toNat = 0 from rfl, atFrom_zero]
      cases hp : posOf s.data.toList 46 with
      | none =>
        have H := Lib.hid (show fltR s = (0, 5) by unfold fltR; rw [hp])
        clear hp
        go_wp2_with fail
        go_ret2
        exact ⟨by rw [H.out]; rfl, rfl⟩
      | some k =>
        have hk : k < s.size := by have := posOf_lt _ _ _ hp; simpa using this
        have HF := Lib.hid (show fltR s = fltOf (s.extract 0 k) (s.extract (k + 1) s.size) by unfold fltR; rw [hp])
        have za : (s.extract 0 k).size = k := by rw [ext_size _ _ _ (by omega)]; omega
        have zb : (s.extract (k + 1) s.size).size = s.size - (k + 1) := ext_size _ _ _ (Nat.le_refl _)
        have hzb : (s.extract (k + 1) s.size).size < 9223372036854775807 := by omega
        have hza : (s.extract 0 k).size < 9223372036854775807 := by omega
        have hLd : (s.extract 0 k).data.toList ++ (s.extract (k + 1) s.size).data.toList = digL s k := rfl
        have HP := Lib.hid hp
        clear hp
        cases ga : digS (s.extract 0 k)
        · have H := Lib.hid (fltOf_no (a := s.extract 0 k) (b := s.extract (k + 1) s.size) (by unfold wholeS; rw [ga]; rfl))
          have ZA := Lib.hid za
          have ZB := Lib.hid zb
          have ZL := Lib.hid hLd
          clear za zb hLd
          go_wp2_with (go_at_call 51; refine (rdigits_any _ _ (by assumption)).mono ?_; rintro e w' ⟨rfl, rfl⟩)
          go_ret2
          exact ⟨by rw [HF.out, H.out]; rfl, rfl⟩
        · have hwi := wholeS_iff _ ga
          have hda : (s.extract 0 k).data.toList.all digC = true := by have := ga; unfold digS at this; simp only [Bool.and_eq_true] at this; exact this.1
          cases gb : digS (s.extract (k + 1) s.size)
          · have H := Lib.hid (fltOf_no (a := s.extract 0 k) (b := s.extract (k + 1) s.size) (by rw [gb, Bool.and_false]))
            have ZA := Lib.hid za
            have ZB := Lib.hid zb
            have ZL := Lib.hid hLd
            have HDA := Lib.hid hda
            clear za zb hLd hwi hda
            go_wp2_with (go_at_call 51; refine (rdigits_any _ _ (by assumption)).mono ?_; rintro e w' ⟨rfl, rfl⟩)
            go_ret2
            exact ⟨by rw [HF.out, H.out]; rfl, rfl⟩
          · have hdb : (s.extract (k + 1) s.size).data.toList.all digC = true := by have := gb; unfold digS at this; simp only [Bool.and_eq_true] at this; exact this.1
            have hd : (digL s k).all digC = true := by rw [← hLd, List.all_append, hda, hdb]; rfl
            have hkp : 0 < k := by have := digS_pos _ ga; omega
            have h0s : 0 < s.size := Nat.lt_of_le_of_lt (Nat.zero_le _) hk
            have hb0 : byN (s.extract 0 k) 0 = (s[0]'h0s).toNat := by
              unfold byN; rw [dif_pos (by omega)]
              congr 1
              rw [ByteArray.getElem_extract]
            rw [hb0, za] at hwi
            by_cases hq : 1 < k ∧ (s[0]'h0s).toNat = 48
            · rw [decide_eq_true hq.1, decide_eq_true hq.2] at hwi
              have H := Lib.hid (fltOf_no (a := s.extract 0 k) (b := s.extract (k + 1) s.size) (by rw [hwi]; rfl))
              have q1 : 1 < (k : Int) := by omega
              have q2 : (((s[0]'h0s).toNat : Int) == 48) = true := by rw [hq.2]; rfl
              have ZA := Lib.hid za
              have ZB := Lib.hid zb
              clear za zb hLd hwi hda hdb hd hb0 hq
              go_wp2_with (go_at_call 51; refine (rdigits_any _ _ (by assumption)).mono ?_; rintro e w' ⟨rfl, rfl⟩)
              go_ret2
              exact ⟨by rw [HF.out, H.out]; rfl, rfl⟩
            · have hw : wholeS (s.extract 0 k) = true := by
                rw [hwi]
                by_cases q1 : 1 < k
                · rw [decide_eq_false (show ¬ (s[0]'h0s).toNat = 48 from fun h => hq ⟨q1, h⟩), Bool.and_false]; rfl
                · rw [decide_eq_false q1, Bool.false_and]; rfl
              have hy : (wholeS (s.extract 0 k) && digS (s.extract (k + 1) s.size)) = true := by rw [hw, gb]; rfl
              by_cases hl : 15 < s.size - 1
              · have H := Lib.hid (fltOf_long hy (by omega))
                have hl2 : 15 < (s.size : Int) - 1 := by omega
                have ZA := Lib.hid za
                have ZB := Lib.hid zb
                have HQ := Lib.hid hq
                clear za zb hLd hwi hda hdb hd hb0 hq hw hy hl
                by_cases q1 : 1 < k
                · have q1' : 1 < (k : Int) := by omega
                  have q2 : (((s[0]'h0s).toNat : Int) == 48) = false := by have := HQ.out; simp; omega
                  go_wp2_with (go_at_call 51; refine (rdigits_any _ _ (by assumption)).mono ?_; rintro e w' ⟨rfl, rfl⟩)
                  go_ret2
                  exact ⟨by rw [HF.out, H.out]; rfl, rfl⟩
                · have q1' : ¬ 1 < (k : Int) := by omega
                  go_wp2_with (go_at_call 51; refine (rdigits_any _ _ (by assumption)).mono ?_; rintro e w' ⟨rfl, rfl⟩)
                  go_ret2
                  exact ⟨by rw [HF.out, H.out]; rfl, rfl⟩
              · have H := Lib.hid (fltOf_yes hy (by omega))
                rw [hLd, zb] at H
                have hl2 : ¬ 15 < (s.size : Int) - 1 := by omega
                have hll := digL_len s k hk
                have HD := Lib.hid hd
                have HLL := Lib.hid (show (digL s k).length ≤ 15 by omega)
                have HQ := Lib.hid hq
                clear za zb hLd hwi hda hdb hd hb0 hq hw hy hl hll
                by_cases q1 : 1 < k
                · have q1' : 1 < (k : Int) := by omega
                  have q2 : (((s[0]'h0s).toNat : Int) == 48) = false := by have := HQ.out; simp; omega
                  clear q1
                  go_wp2_with (go_at_call 51; refine (rdigits_any _ _ (by assumption)).mono ?_; rintro e w' ⟨rfl, rfl⟩)
                  go_loop [6, 7, 8] (fun n t u => ∃ m : Nat, m ≤ s.size ∧ u = .int .i64 m ∧ n = .int .i64 (valK s k m : Nat) ∧ t = .int .i64 ((10 ^ (m - (k + 1)) : Nat) : Int)) (fun _ _ u => s.size - (intOf u).toNat)
                  case atStart => exact ⟨0, Nat.zero_le _, rfl, rfl, val_int (by rw [Nat.zero_sub]; rfl)⟩
                  case round =>
                    obtain ⟨m, hm, rfl, rfl, rfl⟩ := hrel
                    by_cases hlt : m < s.size
                    · by_cases hmk : m = k
                      · subst hmk
                        have hsk := valK_skip s m
                        have HSK := Lib.hid hsk
                        have hte : m - (m + 1) = m + 1 - (m + 1) := by omega
                        have HTE := Lib.hid hte
                        clear hsk hte
                        go_wp2_with (go_at_call 51; refine (rdigits_any _ _ (by assumption)).mono ?_; rintro e w' ⟨rfl, rfl⟩)
                        go_round
                        case rel => exact ⟨m + 1, by omega, by go_num, by rw [HSK.out], by rw [HTE.out]⟩
                        case measure => simp [intOf]; omega
                      · have hst := valK_step s k m hk hlt hmk
                        obtain ⟨d1, d2⟩ := dig_not s k m hk hlt hmk HD.out
                        have v1 := valK_lt s k m HD.out HLL.out
                        have v2 := valK_lt s k (m + 1) HD.out HLL.out
                        have hb1 : ((m : Int) == (k : Int)) = false := by simp; omega
                        have g1 : ((s[m].toNat : Int) - 48) % 256 = (s[m].toNat : Int) - 48 := by omega
                        have HST := Lib.hid hst
                        have b1 : 10 * (valK s k m : Int) ≤ 10000000000000000 := by omega
                        have b3 : 10 * (valK s k m : Int) + ((s[m].toNat : Int) - 48) ≤ 10000000000000000 := by omega
                        by_cases hgt : k < m
                        · have hgt' : (k : Int) < (m : Int) := by omega
                          have ht : 10 ^ (m + 1 - (k + 1)) = 10 ^ (m - (k + 1)) * 10 := by rw [← Nat.pow_succ]; congr 1; omega
                          have hl9 := HLL.out
                          rw [digL_len s k hk] at hl9
                          have t1 := ten_lt (m - (k + 1)) (by omega)
                          have HTT := Lib.hid ht
                          clear ht hst v2 hmk hl9
                          generalize 10 ^ (m - (k + 1)) = T at *
                          go_wp2_with (go_at_call 51; refine (rdigits_any _ _ (by assumption)).mono ?_; rintro e w' ⟨rfl, rfl⟩)
                          go_round
                          case rel => exact ⟨m + 1, by omega, by go_num, by rw [HST.out]; exact val_int (by omega), by rw [HTT.out]; exact val_int (by omega)⟩
                          case measure => simp [intOf]; omega
                        · have hgt' : ¬ (k : Int) < (m : Int) := by omega
                          have hte : m - (k + 1) = m + 1 - (k + 1) := by omega
                          have HTE := Lib.hid hte
                          clear hst v2 hmk hgt hte
                          go_wp2_with (go_at_call 51; refine (rdigits_any _ _ (by assumption)).mono ?_; rintro e w' ⟨rfl, rfl⟩)
                          go_round
                          case rel => exact ⟨m + 1, by omega, by go_num, by rw [HST.out]; exact val_int (by omega), by rw [HTE.out]⟩
                          case measure => simp [intOf]; omega
                    · have hme : m = s.size := by omega
                      subst hme
                      have hve := valK_end s k hk
                      have v1 := valK_lt s k s.size HD.out HLL.out
                      rw [hve] at v1
                      have hl9 := HLL.out
                      rw [digL_len s k hk] at hl9
                      obtain ⟨f1, f2, _, _⟩ := flt_bits (valL (digL s k)) (s.size - (k + 1)) v1 (by omega)
                      have htf := tensF_eq (s.size - (k + 1)) (by omega)
                      rw [htf] at f1
                      have hdv := run_float_arith (P := Try.prog) w .quo 53 .f64 _ _ _ f1
                      have hi1 := floatOfInt_eq ((valL (digL s k) : Nat) : Int)
                      have hi2 := floatOfInt_eq ((10 ^ (s.size - (k + 1)) : Nat) : Int)
                      have HTF := Lib.hid htf
                      have htb := tobits_run (fDiv (toF ((valL (digL s k) : Nat) : Int)) (tensF (s.size - (k + 1))))
                      rw [htf] at htb
                      clear f1 f2 v1 htf hl9
                      generalize 10 ^ (s.size - (k + 1)) = T at *
                      generalize valL (digL s k) = V at *
                      generalize hff : fDiv (toF (V : Int)) (toF (T : Int)) = f at *
                      have HFF := Lib.hid hff
                      clear hff
                      go_wp2_with (go_at_call 51; refine (rdigits_any _ _ (by assumption)).mono ?_; rintro e w' ⟨rfl, rfl⟩)
                      go_ret2
                      exact ⟨by rw [HF.out, H.out, HTF.out, HFF.out]; rfl, rfl⟩
                · have q1' : ¬ 1 < (k : Int) := by omega
                  clear q1
                  go_wp2_with (go_at_call 51; refine (rdigits_any _ _ (by assumption)).mono ?_; rintro e w' ⟨rfl, rfl⟩)
                  go_loop [6, 7, 8] (fun n t u => ∃ m : Nat, m ≤ s.size ∧ u = .int .i64 m ∧ n = .int .i64 (valK s k m : Nat) ∧ t = .int .i64 ((10 ^ (m - (k + 1)) : Nat) : Int)) (fun _ _ u => s.size - (intOf u).toNat)
                  case atStart => exact ⟨0, Nat.zero_le _, rfl, rfl, val_int (by rw [Nat.zero_sub]; rfl)⟩
                  case round =>
                    obtain ⟨m, hm, rfl, rfl, rfl⟩ := hrel
                    by_cases hlt : m < s.size
                    · by_cases hmk : m = k
                      · subst hmk
                        have hsk := valK_skip s m
                        have HSK := Lib.hid hsk
                        have hte : m - (m + 1) = m + 1 - (m + 1) := by omega
                        have HTE := Lib.hid hte
                        clear hsk hte
                        go_wp2_with (go_at_call 51; refine (rdigits_any _ _ (by assumption)).mono ?_; rintro e w' ⟨rfl, rfl⟩)
                        go_round
                        case rel => exact ⟨m + 1, by omega, by go_num, by rw [HSK.out], by rw [HTE.out]⟩
                        case measure => simp [intOf]; omega
                      · have hst := valK_step s k m hk hlt hmk
                        obtain ⟨d1, d2⟩ := dig_not s k m hk hlt hmk HD.out
                        have v1 := valK_lt s k m HD.out HLL.out
                        have v2 := valK_lt s k (m + 1) HD.out HLL.out
                        have hb1 : ((m : Int) == (k : Int)) = false := by simp; omega
                        have g1 : ((s[m].toNat : Int) - 48) % 256 = (s[m].toNat : Int) - 48 := by omega
                        have HST := Lib.hid hst
                        have b1 : 10 * (valK s k m : Int) ≤ 10000000000000000 := by omega
                        have b3 : 10 * (valK s k m : Int) + ((s[m].toNat : Int) - 48) ≤ 10000000000000000 := by omega
                        by_cases hgt : k < m
                        · have hgt' : (k : Int) < (m : Int) := by omega
                          have ht : 10 ^ (m + 1 - (k + 1)) = 10 ^ (m - (k + 1)) * 10 := by rw [← Nat.pow_succ]; congr 1; omega
                          have hl9 := HLL.out
                          rw [digL_len s k hk] at hl9
                          have t1 := ten_lt (m - (k + 1)) (by omega)
                          have HTT := Lib.hid ht
                          clear ht hst v2 hmk hl9
                          generalize 10 ^ (m - (k + 1)) = T at *
                          go_wp2_with (go_at_call 51; refine (rdigits_any _ _ (by assumption)).mono ?_; rintro e w' ⟨rfl, rfl⟩)
                          go_round
                          case rel => exact ⟨m + 1, by omega, by go_num, by rw [HST.out]; exact val_int (by omega), by rw [HTT.out]; exact val_int (by omega)⟩
                          case measure => simp [intOf]; omega
                        · have hgt' : ¬ (k : Int) < (m : Int) := by omega
                          have hte : m - (k + 1) = m + 1 - (k + 1) := by omega
                          have HTE := Lib.hid hte
                          clear hst v2 hmk hgt hte
                          go_wp2_with (go_at_call 51; refine (rdigits_any _ _ (by assumption)).mono ?_; rintro e w' ⟨rfl, rfl⟩)
                          go_round
                          case rel => exact ⟨m + 1, by omega, by go_num, by rw [HST.out]; exact val_int (by omega), by rw [HTE.out]⟩
                          case measure => simp [intOf]; omega
                    · have hme : m = s.size := by omega
                      subst hme
                      have hve := valK_end s k hk
                      have v1 := valK_lt s k s.size HD.out HLL.out
                      rw [hve] at v1
                      have hl9 := HLL.out
                      rw [digL_len s k hk] at hl9
                      obtain ⟨f1, f2, _, _⟩ := flt_bits (valL (digL s k)) (s.size - (k + 1)) v1 (by omega)
                      have htf := tensF_eq (s.size - (k + 1)) (by omega)
                      rw [htf] at f1
                      have hdv := run_float_arith (P := Try.prog) w .quo 53 .f64 _ _ _ f1
                      have hi1 := floatOfInt_eq ((valL (digL s k) : Nat) : Int)
                      have hi2 := floatOfInt_eq ((10 ^ (s.size - (k + 1)) : Nat) : Int)
                      have HTF := Lib.hid htf
                      have htb := tobits_run (fDiv (toF ((valL (digL s k) : Nat) : Int)) (tensF (s.size - (k + 1))))
                      rw [htf] at htb
                      clear f1 f2 v1 htf hl9
                      generalize 10 ^ (s.size - (k + 1)) = T at *
                      generalize valL (digL s k) = V at *
                      generalize hff : fDiv (toF (V : Int)) (toF (T : Int)) = f at *
                      have HFF := Lib.hid hff
                      clear hff
                      go_wp2_with (go_at_call 51; refine (rdigits_any _ _ (by assumption)).mono ?_; rintro e w' ⟨rfl, rfl⟩)
                      go_ret2
                      exact ⟨by rw [HF.out, H.out, HTF.out, HFF.out]; rfl, rfl⟩

end Go.Proofs.Ytmobmljnjolkgaa
