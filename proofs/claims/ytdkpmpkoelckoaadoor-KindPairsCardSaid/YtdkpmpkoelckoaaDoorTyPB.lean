/- KindPairs: the walk where two types are alike. Written by gen_kpb.py. -/
import Derived.Test.YtdkpmpkoelckoaaDoorTyPA
namespace Go.Proofs.YtdkpmpkoelckoaaDoor
open Go Go.RowKit
set_option linter.unusedVariables false
set_option linter.unusedSimpArgs false


set_option maxHeartbeats 16000000 in
theorem kp_y (B : Int) (N : ByteArray) (d : Nat) (M M' : ByteArray) (w : World) (sN : N.size ≤ 60) (sM : M.size ≤ 60) (sM' : M'.size ≤ 60) (ha : allB B N d M = true) (hb : allB B N d M' = true) (hal : alikeB B N d M B N d M' = true) (hm : M.size = d + 1) (hm' : M'.size = d + 1) (hd4 : d ≤ 4) :
    Calls Tryd.prog 5 #[.agg #[.int .i64 B, .string N, .int .i64 ((d : Int)), .string M], .agg #[.int .i64 B, .string N, .int .i64 ((d : Int)), .string M']] w fun e w' => e = .returned (.bool true) ∧ Below w.heap.size w w' := by
  have HL := Lib.hid (fun w => alike_any B N d M B N d M' w sN sM sN sM')
  have HI := Lib.hid (fun w => inside_any B N d M B N d M' w sN sM sN sM')
  have HS := Lib.hid (fun w => less_any B N d M B N d M' w sN sM sN sM')
  have HA := Lib.hid (fun w => lright_any B N d M w sM)
  have HB := Lib.hid (fun w => lright_any B N d M' w sM')
  rw [show insideB B N d M B N d M' = insK M M' d (d + 1) by unfold insideB; rw [hal, Bool.true_and, Int.toNat_natCast]; exact insK_all M M' d hm hm'] at HI
  rw [show lessB B N d M B N d M' = fewB M M' (d + 1) by unfold lessB; rw [hal, Bool.true_and, Int.toNat_natCast]] at HS
  rw [hal] at HL
  rw [ha] at HA
  rw [hb] at HB
  have e1 : (M.size : Int) = (d : Int) + 1 := by omega
  have z3 : IntKind.i64.wrap ((d : Int) + 1 - 1) = (d : Int) := by rw [show (d : Int) + 1 - 1 = (d : Int) by omega]; exact IntWalk.i64_in _ ⟨by omega, by omega⟩
  have HM := Lib.hid hm
  have HM' := Lib.hid hm'
  clear ha hb hal hm hm'
  go_enter Tryd.func5, Tryd.ntmps5
  go_wp2_with fail
  refine (sorts_any _).mono ?_
  rintro e w1 ⟨rfl, hb⟩
  have hB2 := Boxes.keep ((Boxes.new (Boxes.new (Boxes.start w) B N ((d : Int)) M 24) B N ((d : Int)) (M') 24)) hb
  simp only [World.size_alloc] at hB2
  clear hb
  have hB := Lib.hid hB2
  obtain ⟨l0_0, c0_0, c0_1, c0_2, c0_3, f0_0⟩ := Boxes.get (p := w.heap.size) (B := B) (N := N) (D := (d : Int)) (M := M) hB2 (by simp)
  obtain ⟨l1_0, c1_0, c1_1, c1_2, c1_3, f1_0⟩ := Boxes.get (p := w.heap.size + 1) (B := B) (N := N) (D := (d : Int)) (M := M') hB2 (by simp)
  clear hB2
  go_wp2_with fail
  refine (small2 _ _ _ _ _ _ _ _ _ _ (by unfold maxLen; omega) (by unfold maxLen; omega) (by unfold maxLen; omega) (by unfold maxLen; omega) true (by unfold sm; simp; omega)).mono ?_
  rintro e w2 ⟨rfl, hb⟩
  have hB2 := Boxes.keep (hB.out) hb
  clear hb hB l0_0 c0_0 c0_1 c0_2 c0_3 f0_0 l1_0 c1_0 c1_1 c1_2 c1_3 f1_0
  have hB := Lib.hid hB2
  obtain ⟨l0_0, c0_0, c0_1, c0_2, c0_3, f0_0⟩ := Boxes.get (p := w.heap.size) (B := B) (N := N) (D := (d : Int)) (M := M) hB2 (by simp)
  obtain ⟨l1_0, c1_0, c1_1, c1_2, c1_3, f1_0⟩ := Boxes.get (p := w.heap.size + 1) (B := B) (N := N) (D := (d : Int)) (M := M') hB2 (by simp)
  clear hB2
  go_wp2_with fail
  refine (HA.out _).mono ?_
  rintro e w3 ⟨rfl, hb⟩
  have hB2 := Boxes.keep (hB.out) hb
  clear hb hB l0_0 c0_0 c0_1 c0_2 c0_3 f0_0 l1_0 c1_0 c1_1 c1_2 c1_3 f1_0
  have hB := Lib.hid hB2
  obtain ⟨l0_0, c0_0, c0_1, c0_2, c0_3, f0_0⟩ := Boxes.get (p := w.heap.size) (B := B) (N := N) (D := (d : Int)) (M := M) hB2 (by simp)
  obtain ⟨l1_0, c1_0, c1_1, c1_2, c1_3, f1_0⟩ := Boxes.get (p := w.heap.size + 1) (B := B) (N := N) (D := (d : Int)) (M := M') hB2 (by simp)
  clear hB2
  go_wp2_with fail
  refine (HB.out _).mono ?_
  rintro e w4 ⟨rfl, hb⟩
  have hB2 := Boxes.keep (hB.out) hb
  clear hb hB l0_0 c0_0 c0_1 c0_2 c0_3 f0_0 l1_0 c1_0 c1_1 c1_2 c1_3 f1_0
  have hB := Lib.hid hB2
  obtain ⟨l0_0, c0_0, c0_1, c0_2, c0_3, f0_0⟩ := Boxes.get (p := w.heap.size) (B := B) (N := N) (D := (d : Int)) (M := M) hB2 (by simp)
  obtain ⟨l1_0, c1_0, c1_1, c1_2, c1_3, f1_0⟩ := Boxes.get (p := w.heap.size + 1) (B := B) (N := N) (D := (d : Int)) (M := M') hB2 (by simp)
  clear hB2
  go_wp2_with fail
  go_loopw [6, 7, 64] (fun b1 b2 i wr => ∃ k : Nat, k ≤ d + 1 ∧ i = .int .i64 k ∧ b1 = .bool (insK M M' d k) ∧ b2 = .bool (fewB M M' k) ∧ Boxes w [(w.heap.size, (B, N, (d : Int), M)), (w.heap.size + 1, (B, N, (d : Int), M'))] wr) (fun _ _ i _ => d + 1 - (intOf i).toNat)
  case atStart => exact ⟨0, Nat.zero_le _, rfl, by simp [insK], by simp [fewB], Boxes.perm hB.out⟩
  case round =>
    obtain ⟨k, hk, rfl, rfl, rfl, hbx⟩ := hrel
    clear hB l0_0 c0_0 c0_1 c0_2 c0_3 f0_0 l1_0 c1_0 c1_1 c1_2 c1_3 f1_0
    have hB := Lib.hid hbx
    obtain ⟨l0_0, c0_0, c0_1, c0_2, c0_3, f0_0⟩ := Boxes.get (p := w.heap.size) (B := B) (N := N) (D := (d : Int)) (M := M) hbx (by simp)
    obtain ⟨l1_0, c1_0, c1_1, c1_2, c1_3, f1_0⟩ := Boxes.get (p := w.heap.size + 1) (B := B) (N := N) (D := (d : Int)) (M := M') hbx (by simp)
    clear hbx
    by_cases hlt : k < d + 1
    · have hkm : k < M.size := by have := HM.out; omega
      have hkm' : k < M'.size := by have := HM'.out; omega
      have i1 : (0 : Int) ≤ (k : Int) := by omega
      have i2 : (k : Int) < (M.size : Int) := by omega
      have i3 : (k : Int) < (M'.size : Int) := by omega
      have C1 := Lib.hid (byS_get M k hkm)
      have C2 := Lib.hid (byS_get M' k hkm')
      have HI0 := Lib.hid (insK_next (M := M) (M' := M') (d := d) (k := k))
      have HF0 := Lib.hid (fewB_next (M := M) (M' := M') (k := k))
      rw [C1.out, C2.out] at HI0 HF0
      generalize insK M M' d k = bi at *
      generalize fewB M M' k = bf at *
      by_cases h1 : M[k].toNat = M'[k].toNat
      · have HI' := Lib.hid (show insK M M' d (k + 1) = bi by rw [HI0.out]; simp [h1])
        have HF' := Lib.hid (show fewB M M' (k + 1) = bf by rw [HF0.out]; simp [h1])
        have r1 : ((M[k].toNat : Int) != (M'[k].toNat : Int)) = false := by simp; omega
        clear h1
        go_wp2_with fail
        go_quiet (fail)
        go_wp2_with fail
        go_roundw
        case rel => exact ⟨k + 1, by omega, by go_num, by rw [HI'.out]; try rfl, by rw [HF'.out]; try rfl, hB.out.keep (below_drewN (Below.refl _ _) _)⟩
        case measure => simp [intOf]; omega
      · have r1 : ((M[k].toNat : Int) != (M'[k].toNat : Int)) = true := by simp; omega
        have HI1 := Lib.hid (show insK M M' d (k + 1) = (bi && decide (k = d)) by rw [HI0.out]; simp [h1])
        have HF1 := Lib.hid (show fewB M M' (k + 1) = (bf && decide (M[k].toNat = 32)) by rw [HF0.out]; simp [h1])
        clear h1
        by_cases h2 : k = d
        · have g1 : ((k : Int) == (d : Int)) = true := by simp [h2]
          have g2 : (k == d) = true := by simp [h2]
          have HI' := Lib.hid (show insK M M' d (k + 1) = bi by rw [HI1.out]; simp [h2])
          clear h2
          by_cases h3 : M[k].toNat = 32
          · have g3 : ((M[k].toNat : Int) == 32) = true := by simp [h3]
            have HF' := Lib.hid (show fewB M M' (k + 1) = bf by rw [HF1.out]; simp [h3])
            clear h3
            cases bi
            · cases bf
              · go_wp2_with fail
                go_quiet (fail)
                go_wp2_with fail
                go_roundw
                case rel => exact ⟨k + 1, by omega, by go_num, by rw [HI'.out]; try rfl, by rw [HF'.out]; try rfl, hB.out.keep (below_drewN (Below.refl _ _) _)⟩
                case measure => simp [intOf]; omega
              · go_wp2_with fail
                go_quiet (fail)
                go_wp2_with fail
                go_roundw
                case rel => exact ⟨k + 1, by omega, by go_num, by rw [HI'.out]; try rfl, by rw [HF'.out]; try rfl, hB.out.keep (below_drewN (Below.refl _ _) _)⟩
                case measure => simp [intOf]; omega
            · cases bf
              · go_wp2_with fail
                go_quiet (fail)
                go_wp2_with fail
                go_roundw
                case rel => exact ⟨k + 1, by omega, by go_num, by rw [HI'.out]; try rfl, by rw [HF'.out]; try rfl, hB.out.keep (below_drewN (Below.refl _ _) _)⟩
                case measure => simp [intOf]; omega
              · go_wp2_with fail
                go_quiet (fail)
                go_wp2_with fail
                go_roundw
                case rel => exact ⟨k + 1, by omega, by go_num, by rw [HI'.out]; try rfl, by rw [HF'.out]; try rfl, hB.out.keep (below_drewN (Below.refl _ _) _)⟩
                case measure => simp [intOf]; omega
          · have g3 : ((M[k].toNat : Int) == 32) = false := by simp; omega
            have HF' := Lib.hid (show fewB M M' (k + 1) = false by rw [HF1.out]; simp [h3])
            clear h3
            cases bi
            · cases bf
              · go_wp2_with fail
                go_quiet (fail)
                go_wp2_with fail
                go_roundw
                case rel => exact ⟨k + 1, by omega, by go_num, by rw [HI'.out]; try rfl, by rw [HF'.out]; try rfl, hB.out.keep (below_drewN (Below.refl _ _) _)⟩
                case measure => simp [intOf]; omega
              · go_wp2_with fail
                go_quiet (fail)
                go_wp2_with fail
                go_roundw
                case rel => exact ⟨k + 1, by omega, by go_num, by rw [HI'.out]; try rfl, by rw [HF'.out]; try rfl, hB.out.keep (below_drewN (Below.refl _ _) _)⟩
                case measure => simp [intOf]; omega
            · cases bf
              · go_wp2_with fail
                go_quiet (fail)
                go_wp2_with fail
                go_roundw
                case rel => exact ⟨k + 1, by omega, by go_num, by rw [HI'.out]; try rfl, by rw [HF'.out]; try rfl, hB.out.keep (below_drewN (Below.refl _ _) _)⟩
                case measure => simp [intOf]; omega
              · go_wp2_with fail
                go_quiet (fail)
                go_wp2_with fail
                go_roundw
                case rel => exact ⟨k + 1, by omega, by go_num, by rw [HI'.out]; try rfl, by rw [HF'.out]; try rfl, hB.out.keep (below_drewN (Below.refl _ _) _)⟩
                case measure => simp [intOf]; omega
        · have g1 : ((k : Int) == (d : Int)) = false := by simp; omega
          have g2 : (k == d) = false := by simp; omega
          have HI' := Lib.hid (show insK M M' d (k + 1) = false by rw [HI1.out]; simp [h2])
          clear h2
          by_cases h3 : M[k].toNat = 32
          · have g3 : ((M[k].toNat : Int) == 32) = true := by simp [h3]
            have HF' := Lib.hid (show fewB M M' (k + 1) = bf by rw [HF1.out]; simp [h3])
            clear h3
            cases bi
            · cases bf
              · go_wp2_with fail
                go_quiet (fail)
                go_wp2_with fail
                go_roundw
                case rel => exact ⟨k + 1, by omega, by go_num, by rw [HI'.out]; try rfl, by rw [HF'.out]; try rfl, hB.out.keep (below_drewN (Below.refl _ _) _)⟩
                case measure => simp [intOf]; omega
              · go_wp2_with fail
                go_quiet (fail)
                go_wp2_with fail
                go_roundw
                case rel => exact ⟨k + 1, by omega, by go_num, by rw [HI'.out]; try rfl, by rw [HF'.out]; try rfl, hB.out.keep (below_drewN (Below.refl _ _) _)⟩
                case measure => simp [intOf]; omega
            · cases bf
              · go_wp2_with fail
                go_quiet (fail)
                go_wp2_with fail
                go_roundw
                case rel => exact ⟨k + 1, by omega, by go_num, by rw [HI'.out]; try rfl, by rw [HF'.out]; try rfl, hB.out.keep (below_drewN (Below.refl _ _) _)⟩
                case measure => simp [intOf]; omega
              · go_wp2_with fail
                go_quiet (fail)
                go_wp2_with fail
                go_roundw
                case rel => exact ⟨k + 1, by omega, by go_num, by rw [HI'.out]; try rfl, by rw [HF'.out]; try rfl, hB.out.keep (below_drewN (Below.refl _ _) _)⟩
                case measure => simp [intOf]; omega
          · have g3 : ((M[k].toNat : Int) == 32) = false := by simp; omega
            have HF' := Lib.hid (show fewB M M' (k + 1) = false by rw [HF1.out]; simp [h3])
            clear h3
            cases bi
            · cases bf
              · go_wp2_with fail
                go_quiet (fail)
                go_wp2_with fail
                go_roundw
                case rel => exact ⟨k + 1, by omega, by go_num, by rw [HI'.out]; try rfl, by rw [HF'.out]; try rfl, hB.out.keep (below_drewN (Below.refl _ _) _)⟩
                case measure => simp [intOf]; omega
              · go_wp2_with fail
                go_quiet (fail)
                go_wp2_with fail
                go_roundw
                case rel => exact ⟨k + 1, by omega, by go_num, by rw [HI'.out]; try rfl, by rw [HF'.out]; try rfl, hB.out.keep (below_drewN (Below.refl _ _) _)⟩
                case measure => simp [intOf]; omega
            · cases bf
              · go_wp2_with fail
                go_quiet (fail)
                go_wp2_with fail
                go_roundw
                case rel => exact ⟨k + 1, by omega, by go_num, by rw [HI'.out]; try rfl, by rw [HF'.out]; try rfl, hB.out.keep (below_drewN (Below.refl _ _) _)⟩
                case measure => simp [intOf]; omega
              · go_wp2_with fail
                go_quiet (fail)
                go_wp2_with fail
                go_roundw
                case rel => exact ⟨k + 1, by omega, by go_num, by rw [HI'.out]; try rfl, by rw [HF'.out]; try rfl, hB.out.keep (below_drewN (Below.refl _ _) _)⟩
                case measure => simp [intOf]; omega
    · obtain rfl : k = d + 1 := by omega
      generalize insK M M' d (d + 1) = bi at *
      generalize fewB M M' (d + 1) = bf at *
      go_wp2_with fail
      refine (HL.out _).mono ?_
      rintro e w5 ⟨rfl, hb⟩
      have hB2 := Boxes.keep (hB.out) hb
      clear hb hB l0_0 c0_0 c0_1 c0_2 c0_3 f0_0 l1_0 c1_0 c1_1 c1_2 c1_3 f1_0
      have hB := Lib.hid hB2
      obtain ⟨l0_0, c0_0, c0_1, c0_2, c0_3, f0_0⟩ := Boxes.get (p := w.heap.size) (B := B) (N := N) (D := (d : Int)) (M := M) hB2 (by simp)
      obtain ⟨l1_0, c1_0, c1_1, c1_2, c1_3, f1_0⟩ := Boxes.get (p := w.heap.size + 1) (B := B) (N := N) (D := (d : Int)) (M := M') hB2 (by simp)
      clear hB2
      go_wp2_with fail
      refine (HI.out _).mono ?_
      rintro e w6 ⟨rfl, hb⟩
      have hB2 := Boxes.keep (hB.out) hb
      clear hb hB l0_0 c0_0 c0_1 c0_2 c0_3 f0_0 l1_0 c1_0 c1_1 c1_2 c1_3 f1_0
      have hB := Lib.hid hB2
      obtain ⟨l0_0, c0_0, c0_1, c0_2, c0_3, f0_0⟩ := Boxes.get (p := w.heap.size) (B := B) (N := N) (D := (d : Int)) (M := M) hB2 (by simp)
      obtain ⟨l1_0, c1_0, c1_1, c1_2, c1_3, f1_0⟩ := Boxes.get (p := w.heap.size + 1) (B := B) (N := N) (D := (d : Int)) (M := M') hB2 (by simp)
      clear hB2
      go_wp2_with fail
      refine (HS.out _).mono ?_
      rintro e w7 ⟨rfl, hb⟩
      have hB2 := Boxes.keep (hB.out) hb
      clear hb hB l0_0 c0_0 c0_1 c0_2 c0_3 f0_0 l1_0 c1_0 c1_1 c1_2 c1_3 f1_0
      have hB := Lib.hid hB2
      obtain ⟨l0_0, c0_0, c0_1, c0_2, c0_3, f0_0⟩ := Boxes.get (p := w.heap.size) (B := B) (N := N) (D := (d : Int)) (M := M) hB2 (by simp)
      obtain ⟨l1_0, c1_0, c1_1, c1_2, c1_3, f1_0⟩ := Boxes.get (p := w.heap.size + 1) (B := B) (N := N) (D := (d : Int)) (M := M') hB2 (by simp)
      clear hB2
      go_wp2_with fail
      all_goals go_ret
      all_goals exact ⟨rfl, by have hz := hB.out.bel; repeat (first | exact Below.refl _ _ | apply Below.setCell _ (by first | omega | (simp <;> omega)) | apply Below.alloc _ (by first | omega | (simp <;> omega)) | exact hz | refine after ?_ hz)⟩
end Go.Proofs.YtdkpmpkoelckoaaDoor
