/- Contracts of kind.Inside and Less. -/
import Derived.Test.YtdkpmpkoelckoaaDoorTyJ
import Derived.Deep.RegionLaw
namespace Go.Proofs.YtdkpmpkoelckoaaDoor
open Go Go.RowKit
set_option linter.unusedVariables false
set_option linter.unusedSimpArgs false

theorem alike_yes {B : Int} {N : ByteArray} {D : Int} {M : ByteArray} {B' : Int} {N' : ByteArray} {D' : Int} {M' : ByteArray} (h : alikeB B N D M B' N' D' M' = true) :
    B' = B ∧ N' = N ∧ D' = D ∧ ∃ d : Nat, D = d ∧ d ≤ 4 ∧ M.size = d + 1 ∧ M'.size = d + 1 := by
  unfold alikeB at h
  simp only [Bool.and_eq_true, decide_eq_true_iff] at h
  obtain ⟨⟨ha, hb⟩, rfl, rfl, rfl⟩ := h
  obtain ⟨d, rfl, hd, hm⟩ := all_bounds ha
  obtain ⟨d', hd', -, hm'⟩ := all_bounds hb
  obtain rfl : d' = d := by omega
  exact ⟨rfl, rfl, rfl, d', rfl, hd, hm, hm'⟩

/-- two types are the same but for their last marks -/
def insideB (B : Int) (N : ByteArray) (D : Int) (M : ByteArray) (B' : Int) (N' : ByteArray) (D' : Int) (M' : ByteArray) : Bool :=
  alikeB B N D M B' N' D' M' && decide (M.extract 0 D.toNat = M'.extract 0 D.toNat)
set_option maxHeartbeats 4000000 in
theorem inside_no (B : Int) (N : ByteArray) (D : Int) (M : ByteArray) (B' : Int) (N' : ByteArray) (D' : Int) (M' : ByteArray) (w : World) (hN : N.size ≤ 60) (hM : M.size ≤ 60) (hN2 : N'.size ≤ 60) (hM2 : M'.size ≤ 60) (h : alikeB B N D M B' N' D' M' = false) :
    Calls Tryd.prog 26 #[.agg #[.int .i64 B, .string N, .int .i64 D, .string M], .agg #[.int .i64 B', .string N', .int .i64 D', .string M']] w fun e w' => e = .returned (.bool false) ∧ Below w.heap.size w w' := by
  have HS := Lib.hid ((Ty2S.new w B N D M B' N' D' M' 24).drew)
  have HA := Lib.hid (fun w => alike_any B N D M B' N' D' M' w hN hM hN2 hM2)
  rw [h] at HA
  clear h
  go_enter Tryd.func26, Tryd.ntmps26
  go_wp2_with fail
  refine wp_region_any (by kernel_rfl) ?_
  try (change wpAny _ _ _ _ _ _ _ (World.drew _))
  refine wpAny_ready (rs := [0, 1]) (by kernel_rfl) (by simp) ?_
  refine AllReady.cons rfl (fun K hK => ?_) (AllReady.cons rfl (fun K hK => ?_) AllReady.nil)
  · go_simp
    refine hK _ _ ?_
    clear hK K
    refine wpAny_ready (rs := [1]) (by kernel_rfl) (by simp) ?_
    refine AllReady.cons rfl (fun K hK => ?_) AllReady.nil
    go_simp
    refine hK _ _ ?_
    clear hK K
    refine wpAny_ready (rs := [2]) (by kernel_rfl) (by simp) ?_
    refine AllReady.cons rfl (fun K hK => ?_) AllReady.nil
    go_simp
    go_wp2_with (go_at_call 25; refine (HA.out _).mono ?_; rintro e w2 ⟨rfl, hb2⟩; have hs2 := Ty2S.keep HS.out hb2; obtain ⟨c20, c21, c22, c23, d20, d21, d22, d23, hs3⟩ := hs2.all)
    refine wpAny_take (i := 3) (v := .bool false) rfl (by kernel_rfl) (by kernel_rfl) (by kernel_rfl) (fun _ _ _ h => h) (Or.inl ⟨by kernel_rfl, by intro w; go_simp⟩) ?_
    refine wpAny_take (i := 4) (v := undef) rfl (by kernel_rfl) (by kernel_rfl) (by kernel_rfl) (fun _ _ _ h => h) (Or.inr ⟨by kernel_rfl, rfl⟩) ?_
    refine wpAny_take (i := 5) (v := undef) rfl (by kernel_rfl) (by kernel_rfl) (by kernel_rfl) (fun _ _ _ h => h) (Or.inr ⟨by kernel_rfl, rfl⟩) ?_
    refine wpAny_take (i := 6) (v := undef) rfl (by kernel_rfl) (by kernel_rfl) (by kernel_rfl) (fun _ _ _ h => h) (Or.inr ⟨by kernel_rfl, rfl⟩) ?_
    refine wpAny_take (i := 7) (v := undef) rfl (by kernel_rfl) (by kernel_rfl) (by kernel_rfl) (fun _ _ _ h => h) (Or.inr ⟨by kernel_rfl, rfl⟩) ?_
    refine wpAny_take (i := 8) (v := undef) rfl (by kernel_rfl) (by kernel_rfl) (by kernel_rfl) (fun _ _ _ h => h) (Or.inr ⟨by kernel_rfl, rfl⟩) ?_
    refine wpAny_take (i := 9) (v := undef) rfl (by kernel_rfl) (by kernel_rfl) (by kernel_rfl) (fun _ _ _ h => h) (Or.inr ⟨by kernel_rfl, rfl⟩) ?_
    refine wpAny_take (i := 10) (v := undef) rfl (by kernel_rfl) (by kernel_rfl) (by kernel_rfl) (fun _ _ _ h => h) (Or.inr ⟨by kernel_rfl, rfl⟩) ?_
    refine wpAny_take (i := 11) (v := undef) rfl (by kernel_rfl) (by kernel_rfl) (by kernel_rfl) (fun _ _ _ h => h) (Or.inr ⟨by kernel_rfl, rfl⟩) ?_
    refine wpAny_take (i := 12) (v := undef) rfl (by kernel_rfl) (by kernel_rfl) (by kernel_rfl) (fun _ _ _ h => h) (Or.inr ⟨by kernel_rfl, rfl⟩) ?_
    refine wpAny_take (i := 13) (v := undef) rfl (by kernel_rfl) (by kernel_rfl) (by kernel_rfl) (fun _ _ _ h => h) (Or.inr ⟨by kernel_rfl, rfl⟩) ?_
    refine wpAny_take (i := 14) (v := undef) rfl (by kernel_rfl) (by kernel_rfl) (by kernel_rfl) (fun _ _ _ h => h) (Or.inr ⟨by kernel_rfl, rfl⟩) ?_
    refine wpAny_take (i := 15) (v := .bool false) rfl (by kernel_rfl) (by kernel_rfl) (by kernel_rfl) (fun _ _ _ h => h) (Or.inl ⟨by kernel_rfl, by intro w; go_simp⟩) ?_
    refine wpAny_take (i := 16) (v := .bool false) rfl (by kernel_rfl) (by kernel_rfl) (by kernel_rfl) (fun _ _ _ h => h) (Or.inl ⟨by kernel_rfl, by intro w; go_simp⟩) ?_
    refine wpAny_done (by kernel_rfl) ?_ _
    go_wp2_with fail
    go_ret
    exact ⟨by kernel_rfl, hs2.bel⟩
  · go_simp
    refine hK _ _ ?_
    clear hK K
    refine wpAny_ready (rs := [0]) (by kernel_rfl) (by simp) ?_
    refine AllReady.cons rfl (fun K hK => ?_) AllReady.nil
    go_simp
    refine hK _ _ ?_
    clear hK K
    refine wpAny_ready (rs := [2]) (by kernel_rfl) (by simp) ?_
    refine AllReady.cons rfl (fun K hK => ?_) AllReady.nil
    go_simp
    go_wp2_with (go_at_call 25; refine (HA.out _).mono ?_; rintro e w2 ⟨rfl, hb2⟩; have hs2 := Ty2S.keep HS.out hb2; obtain ⟨c20, c21, c22, c23, d20, d21, d22, d23, hs3⟩ := hs2.all)
    refine wpAny_take (i := 3) (v := .bool false) rfl (by kernel_rfl) (by kernel_rfl) (by kernel_rfl) (fun _ _ _ h => h) (Or.inl ⟨by kernel_rfl, by intro w; go_simp⟩) ?_
    refine wpAny_take (i := 4) (v := undef) rfl (by kernel_rfl) (by kernel_rfl) (by kernel_rfl) (fun _ _ _ h => h) (Or.inr ⟨by kernel_rfl, rfl⟩) ?_
    refine wpAny_take (i := 5) (v := undef) rfl (by kernel_rfl) (by kernel_rfl) (by kernel_rfl) (fun _ _ _ h => h) (Or.inr ⟨by kernel_rfl, rfl⟩) ?_
    refine wpAny_take (i := 6) (v := undef) rfl (by kernel_rfl) (by kernel_rfl) (by kernel_rfl) (fun _ _ _ h => h) (Or.inr ⟨by kernel_rfl, rfl⟩) ?_
    refine wpAny_take (i := 7) (v := undef) rfl (by kernel_rfl) (by kernel_rfl) (by kernel_rfl) (fun _ _ _ h => h) (Or.inr ⟨by kernel_rfl, rfl⟩) ?_
    refine wpAny_take (i := 8) (v := undef) rfl (by kernel_rfl) (by kernel_rfl) (by kernel_rfl) (fun _ _ _ h => h) (Or.inr ⟨by kernel_rfl, rfl⟩) ?_
    refine wpAny_take (i := 9) (v := undef) rfl (by kernel_rfl) (by kernel_rfl) (by kernel_rfl) (fun _ _ _ h => h) (Or.inr ⟨by kernel_rfl, rfl⟩) ?_
    refine wpAny_take (i := 10) (v := undef) rfl (by kernel_rfl) (by kernel_rfl) (by kernel_rfl) (fun _ _ _ h => h) (Or.inr ⟨by kernel_rfl, rfl⟩) ?_
    refine wpAny_take (i := 11) (v := undef) rfl (by kernel_rfl) (by kernel_rfl) (by kernel_rfl) (fun _ _ _ h => h) (Or.inr ⟨by kernel_rfl, rfl⟩) ?_
    refine wpAny_take (i := 12) (v := undef) rfl (by kernel_rfl) (by kernel_rfl) (by kernel_rfl) (fun _ _ _ h => h) (Or.inr ⟨by kernel_rfl, rfl⟩) ?_
    refine wpAny_take (i := 13) (v := undef) rfl (by kernel_rfl) (by kernel_rfl) (by kernel_rfl) (fun _ _ _ h => h) (Or.inr ⟨by kernel_rfl, rfl⟩) ?_
    refine wpAny_take (i := 14) (v := undef) rfl (by kernel_rfl) (by kernel_rfl) (by kernel_rfl) (fun _ _ _ h => h) (Or.inr ⟨by kernel_rfl, rfl⟩) ?_
    refine wpAny_take (i := 15) (v := .bool false) rfl (by kernel_rfl) (by kernel_rfl) (by kernel_rfl) (fun _ _ _ h => h) (Or.inl ⟨by kernel_rfl, by intro w; go_simp⟩) ?_
    refine wpAny_take (i := 16) (v := .bool false) rfl (by kernel_rfl) (by kernel_rfl) (by kernel_rfl) (fun _ _ _ h => h) (Or.inl ⟨by kernel_rfl, by intro w; go_simp⟩) ?_
    refine wpAny_done (by kernel_rfl) ?_ _
    go_wp2_with fail
    go_ret
    exact ⟨by kernel_rfl, hs2.bel⟩
set_option maxHeartbeats 4000000 in
theorem inside_in (B : Int) (N : ByteArray) (d : Nat) (M M' : ByteArray) (w : World) (hN : N.size ≤ 60) (hM : M.size ≤ 60) (hM2 : M'.size ≤ 60) (h : alikeB B N d M B N d M' = true) (hm : M.size = d + 1) (hm' : M'.size = d + 1) :
    Calls Tryd.prog 26 #[.agg #[.int .i64 B, .string N, .int .i64 (d : Int), .string M], .agg #[.int .i64 B, .string N, .int .i64 (d : Int), .string M']] w fun e w' => e = .returned (.bool ((M.extract 0 d).toList == (M'.extract 0 d).toList)) ∧ Below w.heap.size w w' := by
  have HS := Lib.hid ((Ty2S.new w B N d M B N d M' 24).drew)
  have HA := Lib.hid (fun w => alike_any B N d M B N d M' w hN hM hN hM2)
  rw [h] at HA
  have i1 : d ≤ M.size := by omega
  have i2 : d ≤ M'.size := by omega
  have i3 : (0 : Int) ≤ (d : Int) := by omega
  have i4 : (d : Int) ≤ (M.size : Int) := by omega
  have i5 : (d : Int) ≤ (M'.size : Int) := by omega
  clear h hm hm'
  go_enter Tryd.func26, Tryd.ntmps26
  go_wp2_with fail
  go_region_held3 (fun w' => w'.cell? ⟨w.heap.size, 0, none⟩ = some (.int .i64 B) ∧ w'.cell? ⟨w.heap.size, 1, none⟩ = some (.string N) ∧ w'.cell? ⟨w.heap.size, 2, none⟩ = some (.int .i64 (d : Int)) ∧ w'.cell? ⟨w.heap.size, 3, none⟩ = some (.string M) ∧ w'.cell? ⟨w.heap.size + 1, 0, none⟩ = some (.int .i64 B) ∧ w'.cell? ⟨w.heap.size + 1, 1, none⟩ = some (.string N) ∧ w'.cell? ⟨w.heap.size + 1, 2, none⟩ = some (.int .i64 (d : Int)) ∧ w'.cell? ⟨w.heap.size + 1, 3, none⟩ = some (.string M') ∧ Ty2S w B N d M B N d M' w') (first | exact HS.out.all | exact (Ty2S.keep (by assumption) hb2).all) (first | (go_at_call 25; go_split_ands; refine (HA.out _).mono ?_; rintro e w2 ⟨rfl, hb2⟩))
  all_goals go_split_ands
  all_goals go_wp2_with fail
  all_goals go_ret
  all_goals exact ⟨rfl, Ty2S.bel (B := B) (N := N) (D := d) (M := M) (B' := B) (N' := N) (D' := d) (M' := M') (by assumption)⟩
theorem inside_any (B : Int) (N : ByteArray) (D : Int) (M : ByteArray) (B' : Int) (N' : ByteArray) (D' : Int) (M' : ByteArray) (w : World) (hN : N.size ≤ 60) (hM : M.size ≤ 60) (hN2 : N'.size ≤ 60) (hM2 : M'.size ≤ 60) :
    Calls Tryd.prog 26 #[.agg #[.int .i64 B, .string N, .int .i64 D, .string M], .agg #[.int .i64 B', .string N', .int .i64 D', .string M']] w fun e w' => e = .returned (.bool (insideB B N D M B' N' D' M')) ∧ Below w.heap.size w w' := by
  cases ha : alikeB B N D M B' N' D' M'
  · rw [show insideB B N D M B' N' D' M' = false by unfold insideB; rw [ha]; rfl]
    exact inside_no B N D M B' N' D' M' w hN hM hN2 hM2 ha
  · obtain ⟨rfl, rfl, rfl, d, rfl, hd, hm, hm'⟩ := alike_yes ha
    rw [show insideB B' N' d M B' N' d M' = ((M.extract 0 d).toList == (M'.extract 0 d).toList) by
      unfold insideB; rw [ha, Bool.true_and, Bool.eq_iff_iff, decide_eq_true_iff, beq_iff_eq]
      exact ⟨fun h => by simp only [Int.toNat_natCast] at h; rw [h], fun h => toList_inj _ _ h⟩]
    exact inside_in B' N' d M M' w hN hM hM2 ha hm hm'

/-- has a type as few marks as another one, up to a layer? -/
def fewB (M M' : ByteArray) (k : Nat) : Bool := decide (∀ i, i < k → byS M i = byS M' i ∨ byS M i = 32)
def lessB (B : Int) (N : ByteArray) (D : Int) (M : ByteArray) (B' : Int) (N' : ByteArray) (D' : Int) (M' : ByteArray) : Bool :=
  alikeB B N D M B' N' D' M' && fewB M M' (D.toNat + 1)
set_option maxHeartbeats 4000000 in
theorem less_no (B : Int) (N : ByteArray) (D : Int) (M : ByteArray) (B' : Int) (N' : ByteArray) (D' : Int) (M' : ByteArray) (w : World) (hN : N.size ≤ 60) (hM : M.size ≤ 60) (hN2 : N'.size ≤ 60) (hM2 : M'.size ≤ 60) (h : alikeB B N D M B' N' D' M' = false) :
    Calls Tryd.prog 27 #[.agg #[.int .i64 B, .string N, .int .i64 D, .string M], .agg #[.int .i64 B', .string N', .int .i64 D', .string M']] w fun e w' => e = .returned (.bool false) ∧ Below w.heap.size w w' := by
  have HS := Lib.hid ((Ty2S.new w B N D M B' N' D' M' 24))
  have HA := Lib.hid (fun w => alike_any B N D M B' N' D' M' w hN hM hN2 hM2)
  rw [h] at HA
  clear h
  go_enter Tryd.func27, Tryd.ntmps27
  go_wp2_with (go_at_call 25; refine (HA.out _).mono ?_; rintro e w2 ⟨rfl, hb2⟩; have hs2 := Ty2S.keep HS.out hb2; obtain ⟨c20, c21, c22, c23, d20, d21, d22, d23, hs3⟩ := hs2.all)
  all_goals go_ret
  all_goals exact ⟨rfl, hs2.bel⟩
set_option maxHeartbeats 4000000 in
theorem less_yes (B : Int) (N : ByteArray) (d : Nat) (M M' : ByteArray) (w : World) (hN : N.size ≤ 60) (hM : M.size ≤ 60) (hM2 : M'.size ≤ 60) (h : alikeB B N d M B N d M' = true) (hm : M.size = d + 1) (hm' : M'.size = d + 1) :
    Calls Tryd.prog 27 #[.agg #[.int .i64 B, .string N, .int .i64 (d : Int), .string M], .agg #[.int .i64 B, .string N, .int .i64 (d : Int), .string M']] w fun e w' => e = .returned (.bool (fewB M M' (d + 1))) ∧ Below w.heap.size w w' := by
  have HS := Lib.hid ((Ty2S.new w B N d M B N d M' 24))
  have HA := Lib.hid (fun w => alike_any B N d M B N d M' w hN hM hN hM2)
  rw [h] at HA
  have q3 : IntKind.i64.wrap ((d : Int) + 1) = (d : Int) + 1 := IntWalk.i64_in _ ⟨by omega, by omega⟩
  have hd : d ≤ 60 := by omega
  have HM := Lib.hid hm
  have HM' := Lib.hid hm'
  clear h hm hm'
  go_enter Tryd.func27, Tryd.ntmps27
  go_wp2_with fail
  refine (HA.out _).mono ?_
  rintro e w2 ⟨rfl, hb2⟩
  obtain ⟨c20, c21, c22, c23, d20, d21, d22, d23, hs3⟩ := (Ty2S.keep HS.out hb2).all
  go_wp2_with fail
  go_loopw [14] (fun i wr => ∃ k : Nat, k ≤ d + 1 ∧ i = .int .i64 k ∧ fewB M M' k = true ∧ wr = w2) (fun i _ => d + 1 - (intOf i).toNat)
  case atStart => exact ⟨0, Nat.zero_le _, rfl, by simp [fewB], rfl⟩
  case round =>
    obtain ⟨k, hk, rfl, hf, rfl⟩ := hrel
    by_cases hlt : k < d + 1
    · have HF := Lib.hid hf
      have hkm : k < M.size := by have := HM.out; omega
      have hkm' : k < M'.size := by have := HM'.out; omega
      have C1 := Lib.hid (byS_get M k hkm)
      have C2 := Lib.hid (byS_get M' k hkm')
      have HN : Hid (fewB M M' (k + 1) = decide (M[k].toNat = M'[k].toNat ∨ M[k].toNat = 32)) := Lib.hid (by
        unfold fewB
        rw [← C1.out, ← C2.out]
        have h0 := HF.out
        unfold fewB at h0
        simp only [decide_eq_true_iff] at h0
        rw [Bool.eq_iff_iff, decide_eq_true_iff, decide_eq_true_iff]
        constructor
        · intro h; exact h k (by omega)
        · intro h i hi
          by_cases hik : i = k
          · rw [hik]; exact h
          · exact h0 i (by omega))
      clear hf
      by_cases h1 : M[k].toNat = M'[k].toNat
      · have HT := Lib.hid (show fewB M M' (k + 1) = true by rw [HN.out]; simp [h1])
        have q : ((M[k].toNat : Int) != (M'[k].toNat : Int)) = false := by simp; omega
        clear h1
        go_wp2_with fail
        go_roundw
        case rel => exact ⟨k + 1, by omega, by go_num, HT.out, by trivial⟩
        case measure => simp [intOf]; omega
      · have q : ((M[k].toNat : Int) != (M'[k].toNat : Int)) = true := by simp; omega
        by_cases h2 : M[k].toNat = 32
        · have HT := Lib.hid (show fewB M M' (k + 1) = true by rw [HN.out]; simp [h2])
          have q2 : ((M[k].toNat : Int) != 32) = false := by simp; omega
          clear h1 h2
          go_wp2_with fail
          go_roundw
          case rel => exact ⟨k + 1, by omega, by go_num, HT.out, by trivial⟩
          case measure => simp [intOf]; omega
        · have HT := Lib.hid (show fewB M M' (d + 1) = false by
            have h3 : fewB M M' (k + 1) = false := by rw [HN.out]; simp [h1, h2]
            unfold fewB at h3 ⊢
            rw [decide_eq_false_iff_not] at h3 ⊢
            intro h; exact h3 (fun i hi => h i (by omega)))
          have q2 : ((M[k].toNat : Int) != 32) = true := by simp; omega
          clear h1 h2
          go_wp2_with fail
          go_ret
          exact ⟨by rw [HT.out]; rfl, hs3.bel⟩
    · have hk' : k = d + 1 := by omega
      subst hk'
      go_wp2_with fail
      go_ret
      exact ⟨by rw [hf]; rfl, hs3.bel⟩
theorem less_any (B : Int) (N : ByteArray) (D : Int) (M : ByteArray) (B' : Int) (N' : ByteArray) (D' : Int) (M' : ByteArray) (w : World) (hN : N.size ≤ 60) (hM : M.size ≤ 60) (hN2 : N'.size ≤ 60) (hM2 : M'.size ≤ 60) :
    Calls Tryd.prog 27 #[.agg #[.int .i64 B, .string N, .int .i64 D, .string M], .agg #[.int .i64 B', .string N', .int .i64 D', .string M']] w fun e w' => e = .returned (.bool (lessB B N D M B' N' D' M')) ∧ Below w.heap.size w w' := by
  cases ha : alikeB B N D M B' N' D' M'
  · rw [show lessB B N D M B' N' D' M' = false by unfold lessB; rw [ha]; rfl]
    exact less_no B N D M B' N' D' M' w hN hM hN2 hM2 ha
  · obtain ⟨rfl, rfl, rfl, d, rfl, hd, hm, hm'⟩ := alike_yes ha
    rw [show lessB B' N' d M B' N' d M' = fewB M M' (d + 1) by unfold lessB; rw [ha]; rfl]
    exact less_yes B' N' d M M' w hN hM hM2 ha hm hm'
end Go.Proofs.YtdkpmpkoelckoaaDoor
