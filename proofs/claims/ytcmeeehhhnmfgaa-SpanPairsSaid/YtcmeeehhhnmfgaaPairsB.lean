/- SpanPairs: the walk, where the two have nothing in both. -/
import Derived.Test.YtcmeeehhhnmfgaaPairs
namespace Go.Proofs.Ytcmeeehhhnmfgaa
open Go.RowKit
set_option linter.unusedVariables false

set_option maxRecDepth 100000 in
set_option maxHeartbeats 4000000 in
theorem pairs_q0 (a b c d : Int) (w : World) (hm : mayB a b = true) (hn : mayB c d = true) (hq : meetB a b c d = false) :
    Calls Try.prog 4 #[.agg #[.int .i64 a, .int .i64 b], .agg #[.int .i64 c, .int .i64 d]] w fun e w' => e = .returned (.bool true) ∧ Below w.heap.size w w' := by
  have Zhm := Lib.hid hm
  clear hm
  have Zhn := Lib.hid hn
  clear hn
  have Zhq := Lib.hid hq
  clear hq
  go_enter Try.func4, Try.ntmps4
  go_wp2_with fail
  refine (spans_any _).mono ?_
  rintro e w1 ⟨rfl, h⟩
  obtain ⟨h01, a0, a1, b0, b1, z01⟩ := box22 h
  clear h
  have z01' : w.heap.size < w1.heap.size := by omega
  go_upto_block 0 with fail
  go_cut [5] (fun s5 wx => s5 = .int .i64 (cmpI a b c d) ∧ wx = w1)
  case first =>
    rcases cmpI_ways a b c d with ⟨k1, e⟩ | ⟨k0, k1, e⟩ | ⟨k0, k1, e⟩ | ⟨k0, k1, e⟩ | ⟨k1, e⟩
    · have E := Lib.hid e
      clear e
      go_wp2_with fail
      go_meet
      case rel => exact ⟨by rw [E.out], rfl⟩
    · have E := Lib.hid e
      clear e
      subst k0
      go_wp2_with fail
      go_meet
      case rel => exact ⟨by rw [E.out], rfl⟩
    · have E := Lib.hid e
      clear e
      subst k0 k1
      go_wp2_with fail
      go_meet
      case rel => exact ⟨by rw [E.out], rfl⟩
    · have E := Lib.hid e
      clear e
      subst k0
      have k2 : ¬ b = d := by omega
      go_wp2_with fail
      go_meet
      case rel => exact ⟨by rw [E.out], rfl⟩
    · have E := Lib.hid e
      clear e
      have k2 : ¬ a = c := by omega
      go_wp2_with fail
      go_meet
      case rel => exact ⟨by rw [E.out], rfl⟩
  case rest =>
    obtain ⟨rfl, rfl⟩ := hcut
    go_wp2_with fail
    refine (compare_any _ _ _ _ _).mono ?_
    rintro e w2 ⟨rfl, h12⟩
    replace a0 := keep h12 z01' a0
    replace a1 := keep h12 z01' a1
    replace b0 := keep h12 z01 b0
    replace b1 := keep h12 z01 b1
    have z02 : w.heap.size < w2.heap.size := by have := h12.size; omega
    have z02' : w.heap.size + 1 < w2.heap.size := by have := h12.size; omega
    go_wp2_with fail
    have hm := Zhm.out
    have hn := Zhn.out
    have hq := Zhq.out
    have HMM := Lib.hid hm
    have HNN := Lib.hid hn
    have HX := Lib.hid (show holdsB a b c d = (decide (a ≤ c) && decide (d ≤ b)) by simp [holdsB, hm, hn])
    have HY := Lib.hid (show apartB a b c d = (!(a == c && b == d) && (decide (b ≤ c) || decide (d ≤ a))) by simp [apartB, hm, hn])
    have HQL := Lib.hid (show meetB a b c d = decide (maxI a c < minI b d) by simp [meetB, hm, hn])
    clear hm hn
    have HQ := Lib.hid hq
    have hlt : minI b d ≤ maxI a c := by have := HQL.out; rw [hq] at this; have := of_decide_eq_false this.symm; omega
    clear hq
    refine (meet_no _ _ _ _ _ HQ.out).mono ?_
    rintro e w3 ⟨rfl, h23⟩
    replace a0 := keep h23 z02 a0
    replace a1 := keep h23 z02 a1
    replace b0 := keep h23 z02' b0
    replace b1 := keep h23 z02' b1
    have z03 : w.heap.size < w3.heap.size := by have := h23.size; omega
    have z03' : w.heap.size + 1 < w3.heap.size := by have := h23.size; omega
    have z03a : w.heap.size < w3.heap.size + 1 := by omega
    have z03b : w.heap.size < w3.heap.size + 1 + 1 := by omega
    have z03c : w.heap.size + 1 < w3.heap.size + 1 := by omega
    have z03d : w.heap.size + 1 < w3.heap.size + 1 + 1 := by omega
    go_wp2_with fail
    refine (may_any _ _ _).mono ?_
    rw [HMM.out]
    rintro e w4 ⟨rfl, rfl⟩
    go_wp2_with fail
    refine (may_any _ _ _).mono ?_
    rw [HNN.out]
    rintro e w4 ⟨rfl, rfl⟩
    go_upto_region 14 with fail
    go_cut [9, 10] (fun s9 s10 wx => s9 = .int .i64 (maxI a c) ∧ s10 = .int .i64 (minI b d) ∧ Below w3.heap.size w3 wx ∧ wx.cell? ⟨w3.heap.size, 0, none⟩ = some (.int .i64 0) ∧ wx.cell? ⟨w3.heap.size, 1, none⟩ = some (.int .i64 0) ∧ w3.heap.size < wx.heap.size)
    case first =>
      go_quiet (fail)
      go_wp2_with fail
      go_meet
      case rel => exact ⟨by rw [maxI_eq], by rw [minI_eq], below_drewN (by repeat (first | exact Below.refl _ _ | apply Below.setCell _ (by first | omega | (simp <;> omega)) | apply Below.alloc _ (by first | omega | (simp <;> omega)))) _, by simp [go_sem], by simp [go_sem], by simp; omega⟩
    case rest =>
      obtain ⟨rfl, rfl, h34, m0, m1, z34⟩ := hcut
      replace a0 := keep h34 z03 a0
      replace a1 := keep h34 z03 a1
      replace b0 := keep h34 z03' b0
      replace b1 := keep h34 z03' b1
      clear z03a z03b z03c z03d
      have z04 : w.heap.size < wc.heap.size := by omega
      have z04' : w.heap.size + 1 < wc.heap.size := by omega
      go_upto_region 17 with fail
      go_cut [11] (fun s11 wx => s11 = .bool (holdsB a b c d) ∧ wx = wc)
      case first =>
        by_cases k1 : a ≤ c
        · have E := Lib.hid (show holdsB a b c d = decide (d ≤ b) by rw [HX.out]; simp [k1])
          go_wp2_with fail
          go_meet
          case rel => exact ⟨by rw [E.out], rfl⟩
        · have E := Lib.hid (show holdsB a b c d = false by rw [HX.out]; simp [k1])
          go_wp2_with fail
          go_meet
          case rel => exact ⟨by rw [E.out], rfl⟩
      case rest =>
        obtain ⟨rfl, rfl⟩ := hcut
        go_upto_region 18 with fail
        go_cut [12] (fun s12 wx => s12 = .bool (decide (b ≤ c) || decide (d ≤ a)) ∧ wx = wc)
        case first =>
          by_cases k1 : b ≤ c
          · have E := Lib.hid (show (decide (b ≤ c) || decide (d ≤ a)) = true by simp [k1])
            go_wp2_with fail
            go_meet
            case rel => exact ⟨by rw [E.out], rfl⟩
          · have E := Lib.hid (show (decide (b ≤ c) || decide (d ≤ a)) = decide (d ≤ a) by simp [k1])
            go_wp2_with fail
            go_meet
            case rel => exact ⟨by first | rfl | rw [E.out], rfl⟩
        case rest =>
          obtain ⟨rfl, rfl⟩ := hcut
          by_cases hac : a = c ∧ b = d
          · obtain ⟨rfl, rfl⟩ := hac
            have HP := Lib.hid (show apartB a b a b = false by rw [HY.out]; simp)
            obtain ⟨m1, m2, m3⟩ := mayB_iff.1 HMM.out
            by_cases hab : a = b
            · subst hab
              go_wp2_with fail
              refine (holds_any _ _ _ _ _).mono ?_
              rintro e w5 ⟨rfl, h45⟩
              replace a0 := keep h45 z04 a0
              replace a1 := keep h45 z04 a1
              replace b0 := keep h45 z04' b0
              replace b1 := keep h45 z04' b1
              have z05 : w.heap.size < w5.heap.size := by have := h45.size; omega
              have z05' : w.heap.size + 1 < w5.heap.size := by have := h45.size; omega
              go_wp2_with fail
              refine (apart_any _ _ _ _ _).mono ?_
              rw [HP.out]
              rintro e w6 ⟨rfl, h56⟩
              replace a0 := keep h56 z05 a0
              replace a1 := keep h56 z05 a1
              replace b0 := keep h56 z05' b0
              replace b1 := keep h56 z05' b1
              have z06 : w.heap.size < w6.heap.size := by have := h56.size; omega
              have z06' : w.heap.size + 1 < w6.heap.size := by have := h56.size; omega
              go_wp2_with fail
              refine (apart_any _ _ _ _ _).mono ?_
              rw [apartB_symm, HP.out]
              rintro e w7 ⟨rfl, h67⟩
              go_wp2_with fail
              go_ret
              exact ⟨rfl, after (after (after (after (after (after h01 h12) h23) h34) h45) h56) h67⟩
            · have k1 : ¬ b ≤ a := by omega
              have E12 : (decide (b ≤ a) || decide (b ≤ a)) = false := by simp; omega
              rw [E12]
              clear E12
              go_wp2_with fail
              refine (holds_any _ _ _ _ _).mono ?_
              rintro e w5 ⟨rfl, h45⟩
              replace a0 := keep h45 z04 a0
              replace a1 := keep h45 z04 a1
              replace b0 := keep h45 z04' b0
              replace b1 := keep h45 z04' b1
              have z05 : w.heap.size < w5.heap.size := by have := h45.size; omega
              have z05' : w.heap.size + 1 < w5.heap.size := by have := h45.size; omega
              go_wp2_with fail
              refine (apart_any _ _ _ _ _).mono ?_
              rw [HP.out]
              rintro e w6 ⟨rfl, h56⟩
              replace a0 := keep h56 z05 a0
              replace a1 := keep h56 z05 a1
              replace b0 := keep h56 z05' b0
              replace b1 := keep h56 z05' b1
              have z06 : w.heap.size < w6.heap.size := by have := h56.size; omega
              have z06' : w.heap.size + 1 < w6.heap.size := by have := h56.size; omega
              go_wp2_with fail
              refine (apart_any _ _ _ _ _).mono ?_
              rw [apartB_symm, HP.out]
              rintro e w7 ⟨rfl, h67⟩
              go_wp2_with fail
              go_ret
              exact ⟨rfl, after (after (after (after (after (after h01 h12) h23) h34) h45) h56) h67⟩
          · cases hp : apartB a b c d
            · have HP := Lib.hid hp
              have E12 : (decide (b ≤ c) || decide (d ≤ a)) = false := by
                have := HY.out; rw [hp] at this
                have h2 : (a == c && b == d) = false := by simpa using hac
                rw [h2] at this; simpa using this.symm
              clear hp
              rw [E12]
              clear E12
              have hac2 : a = c → ¬ b = d := fun x y => hac ⟨x, y⟩
              clear hac
              by_cases k3 : a = c
              · have k4 := hac2 k3
                clear hac2
                subst k3
                go_wp2_with fail
                refine (holds_any _ _ _ _ _).mono ?_
                rintro e w5 ⟨rfl, h45⟩
                replace a0 := keep h45 z04 a0
                replace a1 := keep h45 z04 a1
                replace b0 := keep h45 z04' b0
                replace b1 := keep h45 z04' b1
                have z05 : w.heap.size < w5.heap.size := by have := h45.size; omega
                have z05' : w.heap.size + 1 < w5.heap.size := by have := h45.size; omega
                go_wp2_with fail
                refine (apart_any _ _ _ _ _).mono ?_
                rw [HP.out]
                rintro e w6 ⟨rfl, h56⟩
                replace a0 := keep h56 z05 a0
                replace a1 := keep h56 z05 a1
                replace b0 := keep h56 z05' b0
                replace b1 := keep h56 z05' b1
                have z06 : w.heap.size < w6.heap.size := by have := h56.size; omega
                have z06' : w.heap.size + 1 < w6.heap.size := by have := h56.size; omega
                go_wp2_with fail
                refine (apart_any _ _ _ _ _).mono ?_
                rw [apartB_symm, HP.out]
                rintro e w7 ⟨rfl, h67⟩
                go_wp2_with fail
                go_ret
                exact ⟨rfl, after (after (after (after (after (after h01 h12) h23) h34) h45) h56) h67⟩
              · clear hac2
                go_wp2_with fail
                refine (holds_any _ _ _ _ _).mono ?_
                rintro e w5 ⟨rfl, h45⟩
                replace a0 := keep h45 z04 a0
                replace a1 := keep h45 z04 a1
                replace b0 := keep h45 z04' b0
                replace b1 := keep h45 z04' b1
                have z05 : w.heap.size < w5.heap.size := by have := h45.size; omega
                have z05' : w.heap.size + 1 < w5.heap.size := by have := h45.size; omega
                go_wp2_with fail
                refine (apart_any _ _ _ _ _).mono ?_
                rw [HP.out]
                rintro e w6 ⟨rfl, h56⟩
                replace a0 := keep h56 z05 a0
                replace a1 := keep h56 z05 a1
                replace b0 := keep h56 z05' b0
                replace b1 := keep h56 z05' b1
                have z06 : w.heap.size < w6.heap.size := by have := h56.size; omega
                have z06' : w.heap.size + 1 < w6.heap.size := by have := h56.size; omega
                go_wp2_with fail
                refine (apart_any _ _ _ _ _).mono ?_
                rw [apartB_symm, HP.out]
                rintro e w7 ⟨rfl, h67⟩
                go_wp2_with fail
                go_ret
                exact ⟨rfl, after (after (after (after (after (after h01 h12) h23) h34) h45) h56) h67⟩
            · have HP := Lib.hid hp
              have E12 : (decide (b ≤ c) || decide (d ≤ a)) = true := by
                have := HY.out; rw [hp] at this
                have h2 : (a == c && b == d) = false := by simpa using hac
                rw [h2] at this; simpa using this.symm
              clear hp
              rw [E12]
              clear E12
              have hac2 : a = c → ¬ b = d := fun x y => hac ⟨x, y⟩
              clear hac
              by_cases k3 : a = c
              · have k4 := hac2 k3
                clear hac2
                subst k3
                go_wp2_with fail
                refine (holds_any _ _ _ _ _).mono ?_
                rintro e w5 ⟨rfl, h45⟩
                replace a0 := keep h45 z04 a0
                replace a1 := keep h45 z04 a1
                replace b0 := keep h45 z04' b0
                replace b1 := keep h45 z04' b1
                have z05 : w.heap.size < w5.heap.size := by have := h45.size; omega
                have z05' : w.heap.size + 1 < w5.heap.size := by have := h45.size; omega
                go_wp2_with fail
                refine (apart_any _ _ _ _ _).mono ?_
                rw [HP.out]
                rintro e w6 ⟨rfl, h56⟩
                replace a0 := keep h56 z05 a0
                replace a1 := keep h56 z05 a1
                replace b0 := keep h56 z05' b0
                replace b1 := keep h56 z05' b1
                have z06 : w.heap.size < w6.heap.size := by have := h56.size; omega
                have z06' : w.heap.size + 1 < w6.heap.size := by have := h56.size; omega
                go_wp2_with fail
                refine (apart_any _ _ _ _ _).mono ?_
                rw [apartB_symm, HP.out]
                rintro e w7 ⟨rfl, h67⟩
                go_wp2_with fail
                go_ret
                exact ⟨rfl, after (after (after (after (after (after h01 h12) h23) h34) h45) h56) h67⟩
              · clear hac2
                go_wp2_with fail
                refine (holds_any _ _ _ _ _).mono ?_
                rintro e w5 ⟨rfl, h45⟩
                replace a0 := keep h45 z04 a0
                replace a1 := keep h45 z04 a1
                replace b0 := keep h45 z04' b0
                replace b1 := keep h45 z04' b1
                have z05 : w.heap.size < w5.heap.size := by have := h45.size; omega
                have z05' : w.heap.size + 1 < w5.heap.size := by have := h45.size; omega
                go_wp2_with fail
                refine (apart_any _ _ _ _ _).mono ?_
                rw [HP.out]
                rintro e w6 ⟨rfl, h56⟩
                replace a0 := keep h56 z05 a0
                replace a1 := keep h56 z05 a1
                replace b0 := keep h56 z05' b0
                replace b1 := keep h56 z05' b1
                have z06 : w.heap.size < w6.heap.size := by have := h56.size; omega
                have z06' : w.heap.size + 1 < w6.heap.size := by have := h56.size; omega
                go_wp2_with fail
                refine (apart_any _ _ _ _ _).mono ?_
                rw [apartB_symm, HP.out]
                rintro e w7 ⟨rfl, h67⟩
                go_wp2_with fail
                go_ret
                exact ⟨rfl, after (after (after (after (after (after h01 h12) h23) h34) h45) h56) h67⟩

end Go.Proofs.Ytcmeeehhhnmfgaa
