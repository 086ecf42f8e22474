/- SpanPairs: the walk. -/
import Derived.Test.YtcmeeehhhnmfgaaSpanG
import Derived.RegionTactic
import Derived.Deep.DeepCutAuto
import Derived.Deep.CutBlock
namespace Go.Proofs.Ytcmeeehhhnmfgaa
open Go.RowKit
set_option linter.unusedVariables false

theorem minI_le' (a b : Int) : minI a b ≤ a ∧ minI a b ≤ b ∧ (minI a b = a ∨ minI a b = b) := by rcases minI_ways a b with ⟨h, e⟩ | ⟨h, e⟩ <;> rw [e] <;> omega
theorem maxI_ge' (a b : Int) : a ≤ maxI a b ∧ b ≤ maxI a b ∧ (maxI a b = a ∨ maxI a b = b) := by rcases maxI_ways a b with ⟨h, e⟩ | ⟨h, e⟩ <;> rw [e] <;> omega

/-- two new boxes of two cells, and a call behind them -/
theorem box22 {w w1 : World} {a b c d : Value} {T U : TypeId} (h : Below ((w.alloc (.cells #[a, b] T)).alloc (.cells #[c, d] U)).heap.size ((w.alloc (.cells #[a, b] T)).alloc (.cells #[c, d] U)) w1) :
    Below w.heap.size w w1 ∧ w1.cell? ⟨w.heap.size, 0, none⟩ = some a ∧ w1.cell? ⟨w.heap.size, 1, none⟩ = some b ∧ w1.cell? ⟨w.heap.size + 1, 0, none⟩ = some c ∧ w1.cell? ⟨w.heap.size + 1, 1, none⟩ = some d ∧ w.heap.size + 1 < w1.heap.size := by
  obtain ⟨h1, h2, h3, h4⟩ := box3 h
  obtain ⟨hc, hf⟩ := bcell h
  exact ⟨h1, by rw [hc _ _ (by simp; omega)]; simp [go_sem], by rw [hc _ _ (by simp; omega)]; simp [go_sem], h2, h3, h4⟩

theorem maxI_eq (a c : Int) : maxI a c = max a c := by rcases maxI_ways a c with ⟨h, e⟩ | ⟨h, e⟩ <;> omega
theorem minI_eq (a c : Int) : minI a c = min a c := by rcases minI_ways a c with ⟨h, e⟩ | ⟨h, e⟩ <;> omega
theorem cmpI_ways (a b c d : Int) : (a < c ∧ cmpI a b c d = -1) ∨ (a = c ∧ b < d ∧ cmpI a b c d = -1) ∨ (a = c ∧ b = d ∧ cmpI a b c d = 0) ∨ (a = c ∧ d < b ∧ cmpI a b c d = 1) ∨ (c < a ∧ cmpI a b c d = 1) := by
  unfold cmpI ordI
  by_cases h1 : a < c
  · exact .inl ⟨h1, by simp [h1]⟩
  · by_cases h2 : c < a
    · exact .inr (.inr (.inr (.inr ⟨h2, by simp [h1, h2]⟩)))
    · have h3 : a = c := by omega
      subst h3
      by_cases h4 : b < d
      · exact .inr (.inl ⟨rfl, h4, by simp [h4]⟩)
      · by_cases h5 : d < b
        · exact .inr (.inr (.inr (.inl ⟨rfl, h5, by simp [h4, h5]⟩)))
        · exact .inr (.inr (.inl ⟨rfl, by omega, by simp [h4, h5]⟩))
theorem apartB_symm (a b c d : Int) : apartB c d a b = apartB a b c d := by
  unfold apartB
  rw [Bool.eq_iff_iff]
  simp only [Bool.and_eq_true, Bool.or_eq_true, Bool.not_eq_true', decide_eq_true_eq, Bool.and_eq_false_iff, beq_eq_false_iff_ne]
  constructor <;> rintro ⟨⟨⟨h1, h2⟩, h3⟩, h4⟩ <;> refine ⟨⟨⟨h2, h1⟩, ?_⟩, ?_⟩ <;> omega
theorem apart_meet (a b c d : Int) : (apartB a b c d && meetB a b c d) = false := by
  cases h1 : apartB a b c d
  · rfl
  · cases h2 : meetB a b c d
    · rfl
    · simp only [apartB, meetB, Bool.and_eq_true, Bool.or_eq_true, decide_eq_true_eq] at h1 h2
      obtain ⟨m1, m2, m3⟩ := maxI_ge' a c
      obtain ⟨n1, n2, n3⟩ := minI_le' b d
      omega

set_option maxRecDepth 100000 in
set_option maxHeartbeats 4000000 in
theorem pairs_bad1 (a b c d : Int) (w : World) (hm : mayB a b = false) :
    Calls Try.prog 4 #[.agg #[.int .i64 a, .int .i64 b], .agg #[.int .i64 c, .int .i64 d]] w fun e w' => e = .returned (.bool true) ∧ Below w.heap.size w w' := by
  have Zhm := Lib.hid hm
  clear hm
  go_enter Try.func4, Try.ntmps4
  go_wp2_with fail
  refine (spans_any _).mono ?_
  rintro e w1 ⟨rfl, h⟩
  obtain ⟨h01, a0, a1, b0, b1, z01⟩ := box22 h
  clear h
  have z01' : w.heap.size < w1.heap.size := by omega
  go_upto_block 0 with fail
  go_cut [5] (fun s5 wx => s5 = .int .i64 (cmpI a b c d) ∧ wx = w1)
  case first =>
    rcases cmpI_ways a b c d with ⟨k1, e⟩ | ⟨k0, k1, e⟩ | ⟨k0, k1, e⟩ | ⟨k0, k1, e⟩ | ⟨k1, e⟩
    · have E := Lib.hid e
      clear e
      go_wp2_with fail
      go_meet
      case rel => exact ⟨by rw [E.out], rfl⟩
    · have E := Lib.hid e
      clear e
      subst k0
      go_wp2_with fail
      go_meet
      case rel => exact ⟨by rw [E.out], rfl⟩
    · have E := Lib.hid e
      clear e
      subst k0 k1
      go_wp2_with fail
      go_meet
      case rel => exact ⟨by rw [E.out], rfl⟩
    · have E := Lib.hid e
      clear e
      subst k0
      have k2 : ¬ b = d := by omega
      go_wp2_with fail
      go_meet
      case rel => exact ⟨by rw [E.out], rfl⟩
    · have E := Lib.hid e
      clear e
      have k2 : ¬ a = c := by omega
      go_wp2_with fail
      go_meet
      case rel => exact ⟨by rw [E.out], rfl⟩
  case rest =>
    obtain ⟨rfl, rfl⟩ := hcut
    go_wp2_with fail
    refine (compare_any _ _ _ _ _).mono ?_
    rintro e w2 ⟨rfl, h12⟩
    replace a0 := keep h12 z01' a0
    replace a1 := keep h12 z01' a1
    replace b0 := keep h12 z01 b0
    replace b1 := keep h12 z01 b1
    have z02 : w.heap.size < w2.heap.size := by have := h12.size; omega
    have z02' : w.heap.size + 1 < w2.heap.size := by have := h12.size; omega
    go_wp2_with fail
    have hm := Zhm.out
    have HQ := Lib.hid (show meetB a b c d = false by simp [meetB, hm])
    have HH := Lib.hid (show holdsB a b c d = false by simp [holdsB, hm])
    have HP := Lib.hid (show apartB a b c d = false by simp [apartB, hm])
    have HMM := Lib.hid hm
    clear hm
    refine (meet_no _ _ _ _ _ HQ.out).mono ?_
    rintro e w3 ⟨rfl, h23⟩
    replace a0 := keep h23 z02 a0
    replace a1 := keep h23 z02 a1
    replace b0 := keep h23 z02' b0
    replace b1 := keep h23 z02' b1
    have z03 : w.heap.size < w3.heap.size := by have := h23.size; omega
    have z03' : w.heap.size + 1 < w3.heap.size := by have := h23.size; omega
    have z03a : w.heap.size < w3.heap.size + 1 := by omega
    have z03b : w.heap.size < w3.heap.size + 1 + 1 := by omega
    have z03c : w.heap.size + 1 < w3.heap.size + 1 := by omega
    have z03d : w.heap.size + 1 < w3.heap.size + 1 + 1 := by omega
    go_wp2_with fail
    refine (may_any _ _ _).mono ?_
    rw [HMM.out]
    rintro e w4 ⟨rfl, rfl⟩
    go_wp2_with fail
    refine (holds_any _ _ _ _ _).mono ?_
    rw [HH.out]
    rintro e w5 ⟨rfl, h⟩
    have h35 : Below w3.heap.size w3 w5 := after (by repeat (first | exact Below.refl _ _ | apply Below.setCell _ (by first | omega | (simp <;> omega)) | apply Below.alloc _ (by first | omega | (simp <;> omega)))) h
    clear h
    replace a0 := keep h35 z03 a0
    replace a1 := keep h35 z03 a1
    replace b0 := keep h35 z03' b0
    replace b1 := keep h35 z03' b1
    have z05 : w.heap.size < w5.heap.size := by have := h35.size; omega
    have z05' : w.heap.size + 1 < w5.heap.size := by have := h35.size; omega
    go_wp2_with fail
    refine (apart_any _ _ _ _ _).mono ?_
    rw [HP.out]
    rintro e w6 ⟨rfl, h56⟩
    go_wp2_with fail
    go_ret
    exact ⟨rfl, after (after (after (after h01 h12) h23) h35) h56⟩

set_option maxRecDepth 100000 in
set_option maxHeartbeats 4000000 in
theorem pairs_bad2 (a b c d : Int) (w : World) (hm : mayB a b = true) (hn : mayB c d = false) :
    Calls Try.prog 4 #[.agg #[.int .i64 a, .int .i64 b], .agg #[.int .i64 c, .int .i64 d]] w fun e w' => e = .returned (.bool true) ∧ Below w.heap.size w w' := by
  have Zhm := Lib.hid hm
  clear hm
  have Zhn := Lib.hid hn
  clear hn
  go_enter Try.func4, Try.ntmps4
  go_wp2_with fail
  refine (spans_any _).mono ?_
  rintro e w1 ⟨rfl, h⟩
  obtain ⟨h01, a0, a1, b0, b1, z01⟩ := box22 h
  clear h
  have z01' : w.heap.size < w1.heap.size := by omega
  go_upto_block 0 with fail
  go_cut [5] (fun s5 wx => s5 = .int .i64 (cmpI a b c d) ∧ wx = w1)
  case first =>
    rcases cmpI_ways a b c d with ⟨k1, e⟩ | ⟨k0, k1, e⟩ | ⟨k0, k1, e⟩ | ⟨k0, k1, e⟩ | ⟨k1, e⟩
    · have E := Lib.hid e
      clear e
      go_wp2_with fail
      go_meet
      case rel => exact ⟨by rw [E.out], rfl⟩
    · have E := Lib.hid e
      clear e
      subst k0
      go_wp2_with fail
      go_meet
      case rel => exact ⟨by rw [E.out], rfl⟩
    · have E := Lib.hid e
      clear e
      subst k0 k1
      go_wp2_with fail
      go_meet
      case rel => exact ⟨by rw [E.out], rfl⟩
    · have E := Lib.hid e
      clear e
      subst k0
      have k2 : ¬ b = d := by omega
      go_wp2_with fail
      go_meet
      case rel => exact ⟨by rw [E.out], rfl⟩
    · have E := Lib.hid e
      clear e
      have k2 : ¬ a = c := by omega
      go_wp2_with fail
      go_meet
      case rel => exact ⟨by rw [E.out], rfl⟩
  case rest =>
    obtain ⟨rfl, rfl⟩ := hcut
    go_wp2_with fail
    refine (compare_any _ _ _ _ _).mono ?_
    rintro e w2 ⟨rfl, h12⟩
    replace a0 := keep h12 z01' a0
    replace a1 := keep h12 z01' a1
    replace b0 := keep h12 z01 b0
    replace b1 := keep h12 z01 b1
    have z02 : w.heap.size < w2.heap.size := by have := h12.size; omega
    have z02' : w.heap.size + 1 < w2.heap.size := by have := h12.size; omega
    go_wp2_with fail
    have hm := Zhm.out
    have hn := Zhn.out
    have HQ := Lib.hid (show meetB a b c d = false by simp [meetB, hn])
    have HH := Lib.hid (show holdsB a b c d = false by simp [holdsB, hn])
    have HP := Lib.hid (show apartB a b c d = false by simp [apartB, hn])
    have HMM := Lib.hid hm
    have HNN := Lib.hid hn
    clear hm hn
    refine (meet_no _ _ _ _ _ HQ.out).mono ?_
    rintro e w3 ⟨rfl, h23⟩
    replace a0 := keep h23 z02 a0
    replace a1 := keep h23 z02 a1
    replace b0 := keep h23 z02' b0
    replace b1 := keep h23 z02' b1
    have z03 : w.heap.size < w3.heap.size := by have := h23.size; omega
    have z03' : w.heap.size + 1 < w3.heap.size := by have := h23.size; omega
    have z03a : w.heap.size < w3.heap.size + 1 := by omega
    have z03b : w.heap.size < w3.heap.size + 1 + 1 := by omega
    have z03c : w.heap.size + 1 < w3.heap.size + 1 := by omega
    have z03d : w.heap.size + 1 < w3.heap.size + 1 + 1 := by omega
    go_wp2_with fail
    refine (may_any _ _ _).mono ?_
    rw [HMM.out]
    rintro e w4 ⟨rfl, rfl⟩
    go_wp2_with fail
    refine (may_any _ _ _).mono ?_
    rw [HNN.out]
    rintro e w4' ⟨rfl, rfl⟩
    go_wp2_with fail
    refine (holds_any _ _ _ _ _).mono ?_
    rw [HH.out]
    rintro e w5 ⟨rfl, h⟩
    have h35 : Below w3.heap.size w3 w5 := after (by repeat (first | exact Below.refl _ _ | apply Below.setCell _ (by first | omega | (simp <;> omega)) | apply Below.alloc _ (by first | omega | (simp <;> omega)))) h
    clear h
    replace a0 := keep h35 z03 a0
    replace a1 := keep h35 z03 a1
    replace b0 := keep h35 z03' b0
    replace b1 := keep h35 z03' b1
    have z05 : w.heap.size < w5.heap.size := by have := h35.size; omega
    have z05' : w.heap.size + 1 < w5.heap.size := by have := h35.size; omega
    go_wp2_with fail
    refine (apart_any _ _ _ _ _).mono ?_
    rw [HP.out]
    rintro e w6 ⟨rfl, h56⟩
    go_wp2_with fail
    go_ret
    exact ⟨rfl, after (after (after (after h01 h12) h23) h35) h56⟩

end Go.Proofs.Ytcmeeehhhnmfgaa
