/- Contracts of the document's Type and Bare: the parts of XTyP, XTyQ that need no package kind (written by gen_ref.py). -/
import Derived.Test.YtfalgnapghienaaGreatDoorTrRefM
namespace Go.Proofs.YtfalgnapghienaaGreatDoor
open Go Go.RowKit
set_option linter.unusedVariables false
set_option linter.unusedSimpArgs false

set_option maxHeartbeats 8000000 in
theorem refT_any (B : Int) (N : ByteArray) (d : Nat) (M : ByteArray) (w : World) (hN : N.size ≤ 200) (hM : M.size ≤ 60) (h : rightB B N d M = true) :
    Calls Tryz.prog 39 #[.agg #[.int .i64 B, .string N, .int .i64 (d : Int), .string M]] w fun e w' => e = .returned (.string (typeS B N M)) ∧ Below w.heap.size w w' := by
  obtain ⟨d', hd', hd4, hm⟩ := right_bounds h
  obtain rfl : d = d' := by omega
  have hx : (1 ≤ B ∧ B ≤ 6) ∧ (B = 5 ↔ N.size ≠ 0) := by
    unfold rightB at h
    simp only [Bool.and_eq_true, decide_eq_true_iff] at h
    exact h.1.1
  obtain ⟨s0, hs0⟩ : ∃ s0, s0 = baseS B N := ⟨_, rfl⟩
  have HS := Lib.hid (show ∀ k, (textTo M s0 k).size ≤ 206 + 10 * k from fun k => by
    rw [hs0]
    have h1 := textTo_size M (baseS B N) k
    have h2 := baseS_size B N hx.2 hx.1
    omega)
  have E := Lib.hid (show typeS B N M = textTo M s0 (d + 1) by unfold typeS; rw [hs0, hm])
  have HS0 := Lib.hid hs0
  have HM := Lib.hid hm
  have hB' : B = 1 ∨ B = 2 ∨ B = 3 ∨ B = 4 ∨ B = 5 ∨ B = 6 := by omega
  clear h hd' hm hs0 hx
  rcases hB' with rfl | rfl | rfl | rfl | rfl | rfl
  · go_enter Tryz.func39, Tryz.ntmps39
    go_wp2_with fail
    go_loopw [3, 4] (fun s i wr => ∃ k : Nat, k ≤ d + 1 ∧ i = .int .i64 k ∧ s = .string (textTo M s0 k) ∧ TyS w w.heap.size 1 N d M wr) (fun _ i _ => d + 1 - (intOf i).toNat)
    case atStart => exact ⟨0, Nat.zero_le _, rfl, by rw [HS0.out]; rfl, by first | exact TyS.new w _ N d M _ | exact (TyS.new w _ N d M _).keep ((Below.refl _ _).alloc (Nat.le_refl _) _)⟩
    case round =>
      obtain ⟨k, hk, rfl, rfl, hty⟩ := hrel
      have HT := Lib.hid hty
      obtain ⟨r0, r1, r2, r3, -⟩ := hty.all
      clear hty
      by_cases hlt : k < d + 1
      · have hkm : k < M.size := by have := HM.out; omega
        have HC := Lib.hid (byS_get M k hkm)
        have HZ := Lib.hid (show textTo M s0 (k + 1) = stepS M (textTo M s0 k) k from rfl)
        have h66 := HS.out k
        generalize textTo M s0 k = x at *
        by_cases hk0 : k = 0
        · subst hk0
          by_cases h63 : M[0].toNat = 63
          · go_wp2_with fail
            go_roundw
            case rel => exact ⟨1, by omega, rfl, by rw [HZ.out, stepS_eq M x 0 63 (by rw [HC.out, h63])]; rfl, HT.out⟩
            case measure => simp [intOf]
          · by_cases h111 : M[0].toNat = 111
            · go_wp2_with fail
              go_roundw
              case rel => exact ⟨1, by omega, rfl, by rw [HZ.out, stepS_eq M x 0 111 (by rw [HC.out, h111])]; rfl, HT.out⟩
              case measure => simp [intOf]
            · go_wp2_with fail
              go_roundw
              case rel => exact ⟨1, by omega, rfl, by rw [HZ.out, stepS_eq M x 0 _ HC.out, if_neg h63, if_neg h111]; rfl, HT.out⟩
              case measure => simp [intOf]
        · have hkp : 0 < k := by omega
          by_cases h63 : M[k].toNat = 63
          · go_wp2_with fail
            go_roundw
            case rel => exact ⟨k + 1, by omega, by go_num, by rw [HZ.out, stepS_eq M x k 63 (by rw [HC.out, h63]), if_neg hk0]; rfl, HT.out⟩
            case measure => simp [intOf]; omega
          · by_cases h111 : M[k].toNat = 111
            · go_wp2_with fail
              go_roundw
              case rel => exact ⟨k + 1, by omega, by go_num, by rw [HZ.out, stepS_eq M x k 111 (by rw [HC.out, h111]), if_neg hk0]; rfl, HT.out⟩
              case measure => simp [intOf]; omega
            · go_wp2_with fail
              go_roundw
              case rel => exact ⟨k + 1, by omega, by go_num, by rw [HZ.out, stepS_eq M x k _ HC.out, if_neg h63, if_neg h111, if_neg hk0], HT.out⟩
              case measure => simp [intOf]; omega
      · have hk' : k = d + 1 := by omega
        subst hk'
        go_wp2_with fail
        go_ret
        exact ⟨by rw [E.out]; rfl, HT.out.bel⟩
  · go_enter Tryz.func39, Tryz.ntmps39
    go_wp2_with fail
    go_loopw [3, 4] (fun s i wr => ∃ k : Nat, k ≤ d + 1 ∧ i = .int .i64 k ∧ s = .string (textTo M s0 k) ∧ TyS w w.heap.size 2 N d M wr) (fun _ i _ => d + 1 - (intOf i).toNat)
    case atStart => exact ⟨0, Nat.zero_le _, rfl, by rw [HS0.out]; rfl, by first | exact TyS.new w _ N d M _ | exact (TyS.new w _ N d M _).keep ((Below.refl _ _).alloc (Nat.le_refl _) _)⟩
    case round =>
      obtain ⟨k, hk, rfl, rfl, hty⟩ := hrel
      have HT := Lib.hid hty
      obtain ⟨r0, r1, r2, r3, -⟩ := hty.all
      clear hty
      by_cases hlt : k < d + 1
      · have hkm : k < M.size := by have := HM.out; omega
        have HC := Lib.hid (byS_get M k hkm)
        have HZ := Lib.hid (show textTo M s0 (k + 1) = stepS M (textTo M s0 k) k from rfl)
        have h66 := HS.out k
        generalize textTo M s0 k = x at *
        by_cases hk0 : k = 0
        · subst hk0
          by_cases h63 : M[0].toNat = 63
          · go_wp2_with fail
            go_roundw
            case rel => exact ⟨1, by omega, rfl, by rw [HZ.out, stepS_eq M x 0 63 (by rw [HC.out, h63])]; rfl, HT.out⟩
            case measure => simp [intOf]
          · by_cases h111 : M[0].toNat = 111
            · go_wp2_with fail
              go_roundw
              case rel => exact ⟨1, by omega, rfl, by rw [HZ.out, stepS_eq M x 0 111 (by rw [HC.out, h111])]; rfl, HT.out⟩
              case measure => simp [intOf]
            · go_wp2_with fail
              go_roundw
              case rel => exact ⟨1, by omega, rfl, by rw [HZ.out, stepS_eq M x 0 _ HC.out, if_neg h63, if_neg h111]; rfl, HT.out⟩
              case measure => simp [intOf]
        · have hkp : 0 < k := by omega
          by_cases h63 : M[k].toNat = 63
          · go_wp2_with fail
            go_roundw
            case rel => exact ⟨k + 1, by omega, by go_num, by rw [HZ.out, stepS_eq M x k 63 (by rw [HC.out, h63]), if_neg hk0]; rfl, HT.out⟩
            case measure => simp [intOf]; omega
          · by_cases h111 : M[k].toNat = 111
            · go_wp2_with fail
              go_roundw
              case rel => exact ⟨k + 1, by omega, by go_num, by rw [HZ.out, stepS_eq M x k 111 (by rw [HC.out, h111]), if_neg hk0]; rfl, HT.out⟩
              case measure => simp [intOf]; omega
            · go_wp2_with fail
              go_roundw
              case rel => exact ⟨k + 1, by omega, by go_num, by rw [HZ.out, stepS_eq M x k _ HC.out, if_neg h63, if_neg h111, if_neg hk0], HT.out⟩
              case measure => simp [intOf]; omega
      · have hk' : k = d + 1 := by omega
        subst hk'
        go_wp2_with fail
        go_ret
        exact ⟨by rw [E.out]; rfl, HT.out.bel⟩
  · go_enter Tryz.func39, Tryz.ntmps39
    go_wp2_with fail
    go_loopw [3, 4] (fun s i wr => ∃ k : Nat, k ≤ d + 1 ∧ i = .int .i64 k ∧ s = .string (textTo M s0 k) ∧ TyS w w.heap.size 3 N d M wr) (fun _ i _ => d + 1 - (intOf i).toNat)
    case atStart => exact ⟨0, Nat.zero_le _, rfl, by rw [HS0.out]; rfl, by first | exact TyS.new w _ N d M _ | exact (TyS.new w _ N d M _).keep ((Below.refl _ _).alloc (Nat.le_refl _) _)⟩
    case round =>
      obtain ⟨k, hk, rfl, rfl, hty⟩ := hrel
      have HT := Lib.hid hty
      obtain ⟨r0, r1, r2, r3, -⟩ := hty.all
      clear hty
      by_cases hlt : k < d + 1
      · have hkm : k < M.size := by have := HM.out; omega
        have HC := Lib.hid (byS_get M k hkm)
        have HZ := Lib.hid (show textTo M s0 (k + 1) = stepS M (textTo M s0 k) k from rfl)
        have h66 := HS.out k
        generalize textTo M s0 k = x at *
        by_cases hk0 : k = 0
        · subst hk0
          by_cases h63 : M[0].toNat = 63
          · go_wp2_with fail
            go_roundw
            case rel => exact ⟨1, by omega, rfl, by rw [HZ.out, stepS_eq M x 0 63 (by rw [HC.out, h63])]; rfl, HT.out⟩
            case measure => simp [intOf]
          · by_cases h111 : M[0].toNat = 111
            · go_wp2_with fail
              go_roundw
              case rel => exact ⟨1, by omega, rfl, by rw [HZ.out, stepS_eq M x 0 111 (by rw [HC.out, h111])]; rfl, HT.out⟩
              case measure => simp [intOf]
            · go_wp2_with fail
              go_roundw
              case rel => exact ⟨1, by omega, rfl, by rw [HZ.out, stepS_eq M x 0 _ HC.out, if_neg h63, if_neg h111]; rfl, HT.out⟩
              case measure => simp [intOf]
        · have hkp : 0 < k := by omega
          by_cases h63 : M[k].toNat = 63
          · go_wp2_with fail
            go_roundw
            case rel => exact ⟨k + 1, by omega, by go_num, by rw [HZ.out, stepS_eq M x k 63 (by rw [HC.out, h63]), if_neg hk0]; rfl, HT.out⟩
            case measure => simp [intOf]; omega
          · by_cases h111 : M[k].toNat = 111
            · go_wp2_with fail
              go_roundw
              case rel => exact ⟨k + 1, by omega, by go_num, by rw [HZ.out, stepS_eq M x k 111 (by rw [HC.out, h111]), if_neg hk0]; rfl, HT.out⟩
              case measure => simp [intOf]; omega
            · go_wp2_with fail
              go_roundw
              case rel => exact ⟨k + 1, by omega, by go_num, by rw [HZ.out, stepS_eq M x k _ HC.out, if_neg h63, if_neg h111, if_neg hk0], HT.out⟩
              case measure => simp [intOf]; omega
      · have hk' : k = d + 1 := by omega
        subst hk'
        go_wp2_with fail
        go_ret
        exact ⟨by rw [E.out]; rfl, HT.out.bel⟩
  · go_enter Tryz.func39, Tryz.ntmps39
    go_wp2_with fail
    go_loopw [3, 4] (fun s i wr => ∃ k : Nat, k ≤ d + 1 ∧ i = .int .i64 k ∧ s = .string (textTo M s0 k) ∧ TyS w w.heap.size 4 N d M wr) (fun _ i _ => d + 1 - (intOf i).toNat)
    case atStart => exact ⟨0, Nat.zero_le _, rfl, by rw [HS0.out]; rfl, by first | exact TyS.new w _ N d M _ | exact (TyS.new w _ N d M _).keep ((Below.refl _ _).alloc (Nat.le_refl _) _)⟩
    case round =>
      obtain ⟨k, hk, rfl, rfl, hty⟩ := hrel
      have HT := Lib.hid hty
      obtain ⟨r0, r1, r2, r3, -⟩ := hty.all
      clear hty
      by_cases hlt : k < d + 1
      · have hkm : k < M.size := by have := HM.out; omega
        have HC := Lib.hid (byS_get M k hkm)
        have HZ := Lib.hid (show textTo M s0 (k + 1) = stepS M (textTo M s0 k) k from rfl)
        have h66 := HS.out k
        generalize textTo M s0 k = x at *
        by_cases hk0 : k = 0
        · subst hk0
          by_cases h63 : M[0].toNat = 63
          · go_wp2_with fail
            go_roundw
            case rel => exact ⟨1, by omega, rfl, by rw [HZ.out, stepS_eq M x 0 63 (by rw [HC.out, h63])]; rfl, HT.out⟩
            case measure => simp [intOf]
          · by_cases h111 : M[0].toNat = 111
            · go_wp2_with fail
              go_roundw
              case rel => exact ⟨1, by omega, rfl, by rw [HZ.out, stepS_eq M x 0 111 (by rw [HC.out, h111])]; rfl, HT.out⟩
              case measure => simp [intOf]
            · go_wp2_with fail
              go_roundw
              case rel => exact ⟨1, by omega, rfl, by rw [HZ.out, stepS_eq M x 0 _ HC.out, if_neg h63, if_neg h111]; rfl, HT.out⟩
              case measure => simp [intOf]
        · have hkp : 0 < k := by omega
          by_cases h63 : M[k].toNat = 63
          · go_wp2_with fail
            go_roundw
            case rel => exact ⟨k + 1, by omega, by go_num, by rw [HZ.out, stepS_eq M x k 63 (by rw [HC.out, h63]), if_neg hk0]; rfl, HT.out⟩
            case measure => simp [intOf]; omega
          · by_cases h111 : M[k].toNat = 111
            · go_wp2_with fail
              go_roundw
              case rel => exact ⟨k + 1, by omega, by go_num, by rw [HZ.out, stepS_eq M x k 111 (by rw [HC.out, h111]), if_neg hk0]; rfl, HT.out⟩
              case measure => simp [intOf]; omega
            · go_wp2_with fail
              go_roundw
              case rel => exact ⟨k + 1, by omega, by go_num, by rw [HZ.out, stepS_eq M x k _ HC.out, if_neg h63, if_neg h111, if_neg hk0], HT.out⟩
              case measure => simp [intOf]; omega
      · have hk' : k = d + 1 := by omega
        subst hk'
        go_wp2_with fail
        go_ret
        exact ⟨by rw [E.out]; rfl, HT.out.bel⟩
  · go_enter Tryz.func39, Tryz.ntmps39
    go_wp2_with fail
    go_loopw [3, 4] (fun s i wr => ∃ k : Nat, k ≤ d + 1 ∧ i = .int .i64 k ∧ s = .string (textTo M s0 k) ∧ TyS w w.heap.size 5 N d M wr) (fun _ i _ => d + 1 - (intOf i).toNat)
    case atStart => exact ⟨0, Nat.zero_le _, rfl, by rw [HS0.out]; rfl, by first | exact TyS.new w _ N d M _ | exact (TyS.new w _ N d M _).keep ((Below.refl _ _).alloc (Nat.le_refl _) _)⟩
    case round =>
      obtain ⟨k, hk, rfl, rfl, hty⟩ := hrel
      have HT := Lib.hid hty
      obtain ⟨r0, r1, r2, r3, -⟩ := hty.all
      clear hty
      by_cases hlt : k < d + 1
      · have hkm : k < M.size := by have := HM.out; omega
        have HC := Lib.hid (byS_get M k hkm)
        have HZ := Lib.hid (show textTo M s0 (k + 1) = stepS M (textTo M s0 k) k from rfl)
        have h66 := HS.out k
        generalize textTo M s0 k = x at *
        by_cases hk0 : k = 0
        · subst hk0
          by_cases h63 : M[0].toNat = 63
          · go_wp2_with fail
            go_roundw
            case rel => exact ⟨1, by omega, rfl, by rw [HZ.out, stepS_eq M x 0 63 (by rw [HC.out, h63])]; rfl, HT.out⟩
            case measure => simp [intOf]
          · by_cases h111 : M[0].toNat = 111
            · go_wp2_with fail
              go_roundw
              case rel => exact ⟨1, by omega, rfl, by rw [HZ.out, stepS_eq M x 0 111 (by rw [HC.out, h111])]; rfl, HT.out⟩
              case measure => simp [intOf]
            · go_wp2_with fail
              go_roundw
              case rel => exact ⟨1, by omega, rfl, by rw [HZ.out, stepS_eq M x 0 _ HC.out, if_neg h63, if_neg h111]; rfl, HT.out⟩
              case measure => simp [intOf]
        · have hkp : 0 < k := by omega
          by_cases h63 : M[k].toNat = 63
          · go_wp2_with fail
            go_roundw
            case rel => exact ⟨k + 1, by omega, by go_num, by rw [HZ.out, stepS_eq M x k 63 (by rw [HC.out, h63]), if_neg hk0]; rfl, HT.out⟩
            case measure => simp [intOf]; omega
          · by_cases h111 : M[k].toNat = 111
            · go_wp2_with fail
              go_roundw
              case rel => exact ⟨k + 1, by omega, by go_num, by rw [HZ.out, stepS_eq M x k 111 (by rw [HC.out, h111]), if_neg hk0]; rfl, HT.out⟩
              case measure => simp [intOf]; omega
            · go_wp2_with fail
              go_roundw
              case rel => exact ⟨k + 1, by omega, by go_num, by rw [HZ.out, stepS_eq M x k _ HC.out, if_neg h63, if_neg h111, if_neg hk0], HT.out⟩
              case measure => simp [intOf]; omega
      · have hk' : k = d + 1 := by omega
        subst hk'
        go_wp2_with fail
        go_ret
        exact ⟨by rw [E.out]; rfl, HT.out.bel⟩
  · go_enter Tryz.func39, Tryz.ntmps39
    go_wp2_with fail
    go_loopw [3, 4] (fun s i wr => ∃ k : Nat, k ≤ d + 1 ∧ i = .int .i64 k ∧ s = .string (textTo M s0 k) ∧ TyS w w.heap.size 6 N d M wr) (fun _ i _ => d + 1 - (intOf i).toNat)
    case atStart => exact ⟨0, Nat.zero_le _, rfl, by rw [HS0.out]; rfl, by first | exact TyS.new w _ N d M _ | exact (TyS.new w _ N d M _).keep ((Below.refl _ _).alloc (Nat.le_refl _) _)⟩
    case round =>
      obtain ⟨k, hk, rfl, rfl, hty⟩ := hrel
      have HT := Lib.hid hty
      obtain ⟨r0, r1, r2, r3, -⟩ := hty.all
      clear hty
      by_cases hlt : k < d + 1
      · have hkm : k < M.size := by have := HM.out; omega
        have HC := Lib.hid (byS_get M k hkm)
        have HZ := Lib.hid (show textTo M s0 (k + 1) = stepS M (textTo M s0 k) k from rfl)
        have h66 := HS.out k
        generalize textTo M s0 k = x at *
        by_cases hk0 : k = 0
        · subst hk0
          by_cases h63 : M[0].toNat = 63
          · go_wp2_with fail
            go_roundw
            case rel => exact ⟨1, by omega, rfl, by rw [HZ.out, stepS_eq M x 0 63 (by rw [HC.out, h63])]; rfl, HT.out⟩
            case measure => simp [intOf]
          · by_cases h111 : M[0].toNat = 111
            · go_wp2_with fail
              go_roundw
              case rel => exact ⟨1, by omega, rfl, by rw [HZ.out, stepS_eq M x 0 111 (by rw [HC.out, h111])]; rfl, HT.out⟩
              case measure => simp [intOf]
            · go_wp2_with fail
              go_roundw
              case rel => exact ⟨1, by omega, rfl, by rw [HZ.out, stepS_eq M x 0 _ HC.out, if_neg h63, if_neg h111]; rfl, HT.out⟩
              case measure => simp [intOf]
        · have hkp : 0 < k := by omega
          by_cases h63 : M[k].toNat = 63
          · go_wp2_with fail
            go_roundw
            case rel => exact ⟨k + 1, by omega, by go_num, by rw [HZ.out, stepS_eq M x k 63 (by rw [HC.out, h63]), if_neg hk0]; rfl, HT.out⟩
            case measure => simp [intOf]; omega
          · by_cases h111 : M[k].toNat = 111
            · go_wp2_with fail
              go_roundw
              case rel => exact ⟨k + 1, by omega, by go_num, by rw [HZ.out, stepS_eq M x k 111 (by rw [HC.out, h111]), if_neg hk0]; rfl, HT.out⟩
              case measure => simp [intOf]; omega
            · go_wp2_with fail
              go_roundw
              case rel => exact ⟨k + 1, by omega, by go_num, by rw [HZ.out, stepS_eq M x k _ HC.out, if_neg h63, if_neg h111, if_neg hk0], HT.out⟩
              case measure => simp [intOf]; omega
      · have hk' : k = d + 1 := by omega
        subst hk'
        go_wp2_with fail
        go_ret
        exact ⟨by rw [E.out]; rfl, HT.out.bel⟩
theorem blank5 (n : Nat) (h : n ≤ 5) : (⟨#[32, 32, 32, 32, 32]⟩ : ByteArray).extract 0 n = blankT n := by
  have : n = 0 ∨ n = 1 ∨ n = 2 ∨ n = 3 ∨ n = 4 ∨ n = 5 := by omega
  rcases this with rfl | rfl | rfl | rfl | rfl | rfl <;> decide +kernel
set_option maxHeartbeats 2000000 in
theorem refB_any (B : Int) (N : ByteArray) (D : Int) (M : ByteArray) (w : World) (hM : M.size ≤ 5) :
    Calls Tryz.prog 37 #[.agg #[.int .i64 B, .string N, .int .i64 D, .string M]] w fun e w' => e = .returned (.agg #[.int .i64 B, .string N, .int .i64 D, .string (blankT M.size)]) ∧ Below w.heap.size w w' := by
  have HB := Lib.hid (blank5 M.size hM)
  have i1 : (M.size : Int) ≤ 5 := by omega
  go_enter Tryz.func37, Tryz.ntmps37
  go_wp2_with fail
  refine bodyPost_ret (v := .agg #[.int .i64 B, .string N, .int .i64 D, .string ((⟨#[32, 32, 32, 32, 32]⟩ : ByteArray).extract 0 M.size)]) (by simp [results, Tryz.results37, go_sem]) rfl ?_
  exact ⟨by rw [HB.out], by repeat (first | exact Below.refl _ _ | apply Below.setCell _ (by first | omega | (simp <;> omega)) | apply Below.alloc _ (by first | omega | (simp <;> omega)))⟩

end Go.Proofs.YtfalgnapghienaaGreatDoor
