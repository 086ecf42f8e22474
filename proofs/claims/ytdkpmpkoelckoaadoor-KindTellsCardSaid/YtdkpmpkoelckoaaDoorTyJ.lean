/- Contract of kind.Alike. Written by gen_tyj.py. -/
import Derived.Test.YtdkpmpkoelckoaaDoorTyI
namespace Go.Proofs.YtdkpmpkoelckoaaDoor
open Go Go.RowKit
set_option linter.unusedVariables false
set_option linter.unusedSimpArgs false

theorem toList_inj (a b : ByteArray) (h : a.toList = b.toList) : a = b := by
  rw [ByteArray.toList_eq, ByteArray.toList_eq] at h
  exact ByteArray.ext (Array.toList_inj.1 h)
/-- two types' boxes, and that all else is kept -/
structure Ty2S (w0 : World) (B : Int) (N : ByteArray) (D : Int) (M : ByteArray) (B' : Int) (N' : ByteArray) (D' : Int) (M' : ByteArray) (w : World) : Prop where
  a_ : TyAt w w0.heap.size B N D M
  b_ : TyAt w (w0.heap.size + 1) B' N' D' M'
  bel : Below w0.heap.size w0 w
section
variable {w0 w w1 : World} {B : Int} {N : ByteArray} {D : Int} {M : ByteArray} {B' : Int} {N' : ByteArray} {D' : Int} {M' : ByteArray}
theorem Ty2S.new (w : World) (B : Int) (N : ByteArray) (D : Int) (M : ByteArray) (B' : Int) (N' : ByteArray) (D' : Int) (M' : ByteArray) (T : TypeId) : Ty2S w B N D M B' N' D' M' ((w.alloc (.cells #[.int .i64 B, .string N, .int .i64 D, .string M] T)).alloc (.cells #[.int .i64 B', .string N', .int .i64 D', .string M'] T)) := by
  have h1 := TyAt.new w B N D M T
  have h2 := TyAt.new (w.alloc (.cells #[.int .i64 B, .string N, .int .i64 D, .string M] T)) B' N' D' M' T
  rw [World.size_alloc] at h2
  exact ⟨h1.keep ((Below.refl _ _).alloc (Nat.le_refl _) _), h2, ((Below.refl _ _).alloc (Nat.le_refl _) _).alloc (by simp) _⟩
theorem Ty2S.keep (h : Ty2S w0 B N D M B' N' D' M' w) (hb : Below w.heap.size w w1) : Ty2S w0 B N D M B' N' D' M' w1 := ⟨h.1.keep hb, h.2.keep hb, after h.3 hb⟩
theorem Ty2S.drew (h : Ty2S w0 B N D M B' N' D' M' w) : Ty2S w0 B N D M B' N' D' M' w.drew := h.keep ((Below.refl _ _).drew)
theorem Ty2S.all (h : Ty2S w0 B N D M B' N' D' M' w) : w.cell? ⟨w0.heap.size, 0, none⟩ = some (.int .i64 B) ∧ w.cell? ⟨w0.heap.size, 1, none⟩ = some (.string N) ∧ w.cell? ⟨w0.heap.size, 2, none⟩ = some (.int .i64 D) ∧ w.cell? ⟨w0.heap.size, 3, none⟩ = some (.string M) ∧ w.cell? ⟨w0.heap.size + 1, 0, none⟩ = some (.int .i64 B') ∧ w.cell? ⟨w0.heap.size + 1, 1, none⟩ = some (.string N') ∧ w.cell? ⟨w0.heap.size + 1, 2, none⟩ = some (.int .i64 D') ∧ w.cell? ⟨w0.heap.size + 1, 3, none⟩ = some (.string M') ∧ Ty2S w0 B N D M B' N' D' M' w :=
  ⟨h.1.2.1, h.1.2.2.1, h.1.2.2.2.1, h.1.2.2.2.2.1, h.2.2.1, h.2.2.2.1, h.2.2.2.2.1, h.2.2.2.2.2.1, h⟩
end

set_option maxHeartbeats 4000000 in
theorem alike_a (B D B' D' : Int) (N M N' M' : ByteArray) (w : World) (hN : N.size ≤ 60) (hM : M.size ≤ 60) (hN2 : N'.size ≤ 60) (hM2 : M'.size ≤ 60) (ha : allB B N D M = false) :
    Calls Tryd.prog 25 #[.agg #[.int .i64 B, .string N, .int .i64 D, .string M], .agg #[.int .i64 B', .string N', .int .i64 D', .string M']] w fun e w' => e = .returned (.bool false) ∧ Below w.heap.size w w' := by
  have HS := Lib.hid ((Ty2S.new w B N D M B' N' D' M' 24).drew)
  have HA := Lib.hid (fun w => kright_any B N D M w hN hM)
  rw [ha] at HA
  clear ha
  go_enter Tryd.func25, Tryd.ntmps25
  go_wp2_with fail
  go_region_with (first | (go_at_call_of 16 (.agg #[.int .i64 B, .string N, .int .i64 D, .string M] : Value); refine (HA.out _).mono ?_; rintro e w2 ⟨rfl, hb2⟩; have hs2 := Ty2S.keep HS.out hb2; obtain ⟨c20, c21, c22, c23, d20, d21, d22, d23, hs3⟩ := hs2.all))
  all_goals go_wp2_with fail
  all_goals go_ret
  all_goals exact ⟨rfl, hs2.bel⟩
set_option maxHeartbeats 4000000 in
theorem alike_b (B D B' D' : Int) (N M N' M' : ByteArray) (w : World) (hN : N.size ≤ 60) (hM : M.size ≤ 60) (hN2 : N'.size ≤ 60) (hM2 : M'.size ≤ 60) (ha : allB B N D M = true) (hb : allB B' N' D' M' = false) :
    Calls Tryd.prog 25 #[.agg #[.int .i64 B, .string N, .int .i64 D, .string M], .agg #[.int .i64 B', .string N', .int .i64 D', .string M']] w fun e w' => e = .returned (.bool false) ∧ Below w.heap.size w w' := by
  have HS := Lib.hid ((Ty2S.new w B N D M B' N' D' M' 24).drew)
  have HA := Lib.hid (fun w => kright_any B N D M w hN hM)
  rw [ha] at HA
  have HB := Lib.hid (fun w => kright_any B' N' D' M' w hN2 hM2)
  rw [hb] at HB
  clear ha hb
  go_enter Tryd.func25, Tryd.ntmps25
  go_wp2_with fail
  go_region_with (first | (go_at_call_of 16 (.agg #[.int .i64 B', .string N', .int .i64 D', .string M'] : Value); refine (HB.out _).mono ?_; rintro e w4 ⟨rfl, hb4⟩; have hs4 := Ty2S.keep hs2 hb4) | (go_at_call_of 16 (.agg #[.int .i64 B, .string N, .int .i64 D, .string M] : Value); refine (HA.out _).mono ?_; rintro e w2 ⟨rfl, hb2⟩; have hs2 := Ty2S.keep HS.out hb2; obtain ⟨c20, c21, c22, c23, d20, d21, d22, d23, hs3⟩ := hs2.all))
  all_goals go_wp2_with fail
  all_goals go_ret
  all_goals exact ⟨rfl, hs4.bel⟩
set_option maxHeartbeats 4000000 in
theorem alike_1 (B D B' D' : Int) (N M N' M' : ByteArray) (w : World) (hN : N.size ≤ 60) (hM : M.size ≤ 60) (hN2 : N'.size ≤ 60) (hM2 : M'.size ≤ 60) (ha : allB B N D M = true) (hb : allB B' N' D' M' = true) (h : ¬ B = B') :
    Calls Tryd.prog 25 #[.agg #[.int .i64 B, .string N, .int .i64 D, .string M], .agg #[.int .i64 B', .string N', .int .i64 D', .string M']] w fun e w' => e = .returned (.bool false) ∧ Below w.heap.size w w' := by
  have HS := Lib.hid ((Ty2S.new w B N D M B' N' D' M' 24).drew)
  have HA := Lib.hid (fun w => kright_any B N D M w hN hM)
  rw [ha] at HA
  have HB := Lib.hid (fun w => kright_any B' N' D' M' w hN2 hM2)
  rw [hb] at HB
  have KA := Lib.hid (fun w => kbare_any B N D M w hN hM)
  have KB := Lib.hid (fun w => kbare_any B' N' D' M' w hN2 hM2)
  skip
  generalize bareS B N D M = xx at *
  generalize bareS B' N' D' M' = yy at *
  clear ha hb
  go_enter Tryd.func25, Tryd.ntmps25
  go_wp2_with fail
  go_region_held3 (fun w' => w'.cell? ⟨w.heap.size, 0, none⟩ = some (.int .i64 B) ∧ w'.cell? ⟨w.heap.size, 1, none⟩ = some (.string N) ∧ w'.cell? ⟨w.heap.size, 2, none⟩ = some (.int .i64 D) ∧ w'.cell? ⟨w.heap.size, 3, none⟩ = some (.string M) ∧ w'.cell? ⟨w.heap.size + 1, 0, none⟩ = some (.int .i64 B') ∧ w'.cell? ⟨w.heap.size + 1, 1, none⟩ = some (.string N') ∧ w'.cell? ⟨w.heap.size + 1, 2, none⟩ = some (.int .i64 D') ∧ w'.cell? ⟨w.heap.size + 1, 3, none⟩ = some (.string M') ∧ Ty2S w B N D M B' N' D' M' w') (first | exact HS.out.all | exact (Ty2S.keep (by assumption) hb2).all) (first | (go_at_call_of 16 (.agg #[.int .i64 B, .string N, .int .i64 D, .string M] : Value); go_split_ands; refine (HA.out _).mono ?_; rintro e w2 ⟨rfl, hb2⟩) | (go_at_call_of 16 (.agg #[.int .i64 B', .string N', .int .i64 D', .string M'] : Value); go_split_ands; refine (HB.out _).mono ?_; rintro e w2 ⟨rfl, hb2⟩) | (go_at_call_of 12 (.agg #[.int .i64 B, .string N, .int .i64 D, .string M] : Value); go_split_ands; refine (KA.out _).mono ?_; rintro e w2 ⟨rfl, hb2⟩) | (go_at_call_of 12 (.agg #[.int .i64 B', .string N', .int .i64 D', .string M'] : Value); go_split_ands; refine (KB.out _).mono ?_; rintro e w2 ⟨rfl, hb2⟩))
  all_goals go_split_ands
  all_goals go_wp2_with fail
  all_goals go_ret
  all_goals exact ⟨rfl, Ty2S.bel (B := B) (N := N) (D := D) (M := M) (B' := B') (N' := N') (D' := D') (M' := M') (by assumption)⟩
set_option maxHeartbeats 4000000 in
theorem alike_2 (B D D' : Int) (N M N' M' : ByteArray) (w : World) (hN : N.size ≤ 60) (hM : M.size ≤ 60) (hN2 : N'.size ≤ 60) (hM2 : M'.size ≤ 60) (ha : allB B N D M = true) (hb : allB B N' D' M' = true) (h : ¬ N.toList = N'.toList) :
    Calls Tryd.prog 25 #[.agg #[.int .i64 B, .string N, .int .i64 D, .string M], .agg #[.int .i64 B, .string N', .int .i64 D', .string M']] w fun e w' => e = .returned (.bool false) ∧ Below w.heap.size w w' := by
  have HS := Lib.hid ((Ty2S.new w B N D M B N' D' M' 24).drew)
  have HA := Lib.hid (fun w => kright_any B N D M w hN hM)
  rw [ha] at HA
  have HB := Lib.hid (fun w => kright_any B N' D' M' w hN2 hM2)
  rw [hb] at HB
  have KA := Lib.hid (fun w => kbare_any B N D M w hN hM)
  have KB := Lib.hid (fun w => kbare_any B N' D' M' w hN2 hM2)
  skip
  generalize bareS B N D M = xx at *
  generalize bareS B N' D' M' = yy at *
  clear ha hb
  go_enter Tryd.func25, Tryd.ntmps25
  go_wp2_with fail
  go_region_held3 (fun w' => w'.cell? ⟨w.heap.size, 0, none⟩ = some (.int .i64 B) ∧ w'.cell? ⟨w.heap.size, 1, none⟩ = some (.string N) ∧ w'.cell? ⟨w.heap.size, 2, none⟩ = some (.int .i64 D) ∧ w'.cell? ⟨w.heap.size, 3, none⟩ = some (.string M) ∧ w'.cell? ⟨w.heap.size + 1, 0, none⟩ = some (.int .i64 B) ∧ w'.cell? ⟨w.heap.size + 1, 1, none⟩ = some (.string N') ∧ w'.cell? ⟨w.heap.size + 1, 2, none⟩ = some (.int .i64 D') ∧ w'.cell? ⟨w.heap.size + 1, 3, none⟩ = some (.string M') ∧ Ty2S w B N D M B N' D' M' w') (first | exact HS.out.all | exact (Ty2S.keep (by assumption) hb2).all) (first | (go_at_call_of 16 (.agg #[.int .i64 B, .string N, .int .i64 D, .string M] : Value); go_split_ands; refine (HA.out _).mono ?_; rintro e w2 ⟨rfl, hb2⟩) | (go_at_call_of 16 (.agg #[.int .i64 B, .string N', .int .i64 D', .string M'] : Value); go_split_ands; refine (HB.out _).mono ?_; rintro e w2 ⟨rfl, hb2⟩) | (go_at_call_of 12 (.agg #[.int .i64 B, .string N, .int .i64 D, .string M] : Value); go_split_ands; refine (KA.out _).mono ?_; rintro e w2 ⟨rfl, hb2⟩) | (go_at_call_of 12 (.agg #[.int .i64 B, .string N', .int .i64 D', .string M'] : Value); go_split_ands; refine (KB.out _).mono ?_; rintro e w2 ⟨rfl, hb2⟩))
  all_goals go_split_ands
  all_goals go_wp2_with fail
  all_goals go_ret
  all_goals exact ⟨rfl, Ty2S.bel (B := B) (N := N) (D := D) (M := M) (B' := B) (N' := N') (D' := D') (M' := M') (by assumption)⟩
set_option maxHeartbeats 4000000 in
theorem alike_3 (B D D' : Int) (N M M' : ByteArray) (w : World) (hN : N.size ≤ 60) (hM : M.size ≤ 60) (hN2 : N.size ≤ 60) (hM2 : M'.size ≤ 60) (ha : allB B N D M = true) (hb : allB B N D' M' = true) (h : ¬ D = D') :
    Calls Tryd.prog 25 #[.agg #[.int .i64 B, .string N, .int .i64 D, .string M], .agg #[.int .i64 B, .string N, .int .i64 D', .string M']] w fun e w' => e = .returned (.bool false) ∧ Below w.heap.size w w' := by
  have HS := Lib.hid ((Ty2S.new w B N D M B N D' M' 24).drew)
  have HA := Lib.hid (fun w => kright_any B N D M w hN hM)
  rw [ha] at HA
  have HB := Lib.hid (fun w => kright_any B N D' M' w hN2 hM2)
  rw [hb] at HB
  have KA := Lib.hid (fun w => kbare_any B N D M w hN hM)
  have KB := Lib.hid (fun w => kbare_any B N D' M' w hN2 hM2)
  skip
  generalize bareS B N D M = xx at *
  generalize bareS B N D' M' = yy at *
  clear ha hb
  go_enter Tryd.func25, Tryd.ntmps25
  go_wp2_with fail
  go_region_held3 (fun w' => w'.cell? ⟨w.heap.size, 0, none⟩ = some (.int .i64 B) ∧ w'.cell? ⟨w.heap.size, 1, none⟩ = some (.string N) ∧ w'.cell? ⟨w.heap.size, 2, none⟩ = some (.int .i64 D) ∧ w'.cell? ⟨w.heap.size, 3, none⟩ = some (.string M) ∧ w'.cell? ⟨w.heap.size + 1, 0, none⟩ = some (.int .i64 B) ∧ w'.cell? ⟨w.heap.size + 1, 1, none⟩ = some (.string N) ∧ w'.cell? ⟨w.heap.size + 1, 2, none⟩ = some (.int .i64 D') ∧ w'.cell? ⟨w.heap.size + 1, 3, none⟩ = some (.string M') ∧ Ty2S w B N D M B N D' M' w') (first | exact HS.out.all | exact (Ty2S.keep (by assumption) hb2).all) (first | (go_at_call_of 16 (.agg #[.int .i64 B, .string N, .int .i64 D, .string M] : Value); go_split_ands; refine (HA.out _).mono ?_; rintro e w2 ⟨rfl, hb2⟩) | (go_at_call_of 16 (.agg #[.int .i64 B, .string N, .int .i64 D', .string M'] : Value); go_split_ands; refine (HB.out _).mono ?_; rintro e w2 ⟨rfl, hb2⟩) | (go_at_call_of 12 (.agg #[.int .i64 B, .string N, .int .i64 D, .string M] : Value); go_split_ands; refine (KA.out _).mono ?_; rintro e w2 ⟨rfl, hb2⟩) | (go_at_call_of 12 (.agg #[.int .i64 B, .string N, .int .i64 D', .string M'] : Value); go_split_ands; refine (KB.out _).mono ?_; rintro e w2 ⟨rfl, hb2⟩))
  all_goals go_split_ands
  all_goals go_wp2_with fail
  all_goals go_ret
  all_goals exact ⟨rfl, Ty2S.bel (B := B) (N := N) (D := D) (M := M) (B' := B) (N' := N) (D' := D') (M' := M') (by assumption)⟩
set_option maxHeartbeats 4000000 in
theorem alike_y (B D : Int) (N M M' : ByteArray) (w : World) (hN : N.size ≤ 60) (hM : M.size ≤ 60) (hN2 : N.size ≤ 60) (hM2 : M'.size ≤ 60) (ha : allB B N D M = true) (hb : allB B N D M' = true) (hbb : bareS B N D M = bareS B N D M') :
    Calls Tryd.prog 25 #[.agg #[.int .i64 B, .string N, .int .i64 D, .string M], .agg #[.int .i64 B, .string N, .int .i64 D, .string M']] w fun e w' => e = .returned (.bool true) ∧ Below w.heap.size w w' := by
  have HS := Lib.hid ((Ty2S.new w B N D M B N D M' 24).drew)
  have HA := Lib.hid (fun w => kright_any B N D M w hN hM)
  rw [ha] at HA
  have HB := Lib.hid (fun w => kright_any B N D M' w hN2 hM2)
  rw [hb] at HB
  have KA := Lib.hid (fun w => kbare_any B N D M w hN hM)
  have KB := Lib.hid (fun w => kbare_any B N D M' w hN2 hM2)
  rw [show bareS B N D M = bareS B N D M' from hbb] at KA
  clear hbb
  generalize bareS B N D M' = xx at *
  clear ha hb
  go_enter Tryd.func25, Tryd.ntmps25
  go_wp2_with fail
  go_region_held3 (fun w' => w'.cell? ⟨w.heap.size, 0, none⟩ = some (.int .i64 B) ∧ w'.cell? ⟨w.heap.size, 1, none⟩ = some (.string N) ∧ w'.cell? ⟨w.heap.size, 2, none⟩ = some (.int .i64 D) ∧ w'.cell? ⟨w.heap.size, 3, none⟩ = some (.string M) ∧ w'.cell? ⟨w.heap.size + 1, 0, none⟩ = some (.int .i64 B) ∧ w'.cell? ⟨w.heap.size + 1, 1, none⟩ = some (.string N) ∧ w'.cell? ⟨w.heap.size + 1, 2, none⟩ = some (.int .i64 D) ∧ w'.cell? ⟨w.heap.size + 1, 3, none⟩ = some (.string M') ∧ Ty2S w B N D M B N D M' w') (first | exact HS.out.all | exact (Ty2S.keep (by assumption) hb2).all) (first | (go_at_call_of 16 (.agg #[.int .i64 B, .string N, .int .i64 D, .string M] : Value); go_split_ands; refine (HA.out _).mono ?_; rintro e w2 ⟨rfl, hb2⟩) | (go_at_call_of 16 (.agg #[.int .i64 B, .string N, .int .i64 D, .string M'] : Value); go_split_ands; refine (HB.out _).mono ?_; rintro e w2 ⟨rfl, hb2⟩) | (go_at_call_of 12 (.agg #[.int .i64 B, .string N, .int .i64 D, .string M] : Value); go_split_ands; refine (KA.out _).mono ?_; rintro e w2 ⟨rfl, hb2⟩) | (go_at_call_of 12 (.agg #[.int .i64 B, .string N, .int .i64 D, .string M'] : Value); go_split_ands; refine (KB.out _).mono ?_; rintro e w2 ⟨rfl, hb2⟩))
  all_goals go_split_ands
  all_goals go_wp2_with fail
  all_goals go_ret
  all_goals exact ⟨rfl, Ty2S.bel (B := B) (N := N) (D := D) (M := M) (B' := B) (N' := N) (D' := D) (M' := M') (by assumption)⟩

/-- two types are the same but for their marks -/
def alikeB (B : Int) (N : ByteArray) (D : Int) (M : ByteArray) (B' : Int) (N' : ByteArray) (D' : Int) (M' : ByteArray) : Bool :=
  allB B N D M && allB B' N' D' M' && decide (B = B' ∧ N = N' ∧ D = D')
theorem bare_same (B : Int) (N : ByteArray) (D : Int) (M M' : ByteArray) (ha : allB B N D M = true) (hb : allB B N D M' = true) : bareS B N D M = bareS B N D M' := by
  unfold bareS
  unfold allB at ha hb
  cases hr : rightB B N D M
  · rw [hr, Bool.or_false] at ha
    have hl := ha
    unfold litB nullB noneB at hl
    simp only [Bool.or_eq_true, decide_eq_true_iff] at hl
    have hr' : rightB B N D M' = false := rightB_no1 (by omega)
    rw [hr', Bool.or_false] at hb
    rw [hr']
    unfold litB nullB noneB at hb
    simp only [Bool.or_eq_true, decide_eq_true_iff] at hb
    simp only [Bool.false_eq_true, if_false]
    apply toList_inj
    rcases hl with ⟨h1, h2, h3, h4⟩ | ⟨h1, h2, h3, h4⟩
    · rcases hb with ⟨k1, k2, k3, k4⟩ | ⟨k1, k2, k3, k4⟩
      · rw [h4, k4]
      · omega
    · rcases hb with ⟨k1, k2, k3, k4⟩ | ⟨k1, k2, k3, k4⟩
      · omega
      · rw [h4, k4]
  · have h1 : 1 ≤ B ∧ B ≤ 6 := by
      unfold rightB at hr
      simp only [Bool.and_eq_true, decide_eq_true_iff] at hr
      exact hr.1.1.1
    have hn : litB B N D M' = false := by
      cases h : litB B N D M'
      · rfl
      · unfold litB nullB noneB at h
        simp only [Bool.or_eq_true, decide_eq_true_iff] at h
        omega
    rw [hn, Bool.false_or] at hb
    rw [hb, if_pos rfl, if_pos rfl]

theorem alike_any (B : Int) (N : ByteArray) (D : Int) (M : ByteArray) (B' : Int) (N' : ByteArray) (D' : Int) (M' : ByteArray) (w : World) (hN : N.size ≤ 60) (hM : M.size ≤ 60) (hN2 : N'.size ≤ 60) (hM2 : M'.size ≤ 60) :
    Calls Tryd.prog 25 #[.agg #[.int .i64 B, .string N, .int .i64 D, .string M], .agg #[.int .i64 B', .string N', .int .i64 D', .string M']] w fun e w' => e = .returned (.bool (alikeB B N D M B' N' D' M')) ∧ Below w.heap.size w w' := by
  cases ha : allB B N D M
  · rw [show alikeB B N D M B' N' D' M' = false by unfold alikeB; rw [ha]; rfl]
    exact alike_a B D B' D' N M N' M' w hN hM hN2 hM2 ha
  · cases hb : allB B' N' D' M'
    · rw [show alikeB B N D M B' N' D' M' = false by unfold alikeB; rw [ha, hb]; rfl]
      exact alike_b B D B' D' N M N' M' w hN hM hN2 hM2 ha hb
    · by_cases h1 : B = B'
      · subst h1
        by_cases h2 : N.toList = N'.toList
        · obtain rfl := toList_inj _ _ h2
          by_cases h3 : D = D'
          · subst h3
            rw [show alikeB B N D M B N D M' = true by unfold alikeB; rw [ha, hb]; simp]
            exact alike_y B D N M M' w hN hM hN2 hM2 ha hb (bare_same B N D M M' ha hb)
          · rw [show alikeB B N D M B N D' M' = false by unfold alikeB; simp [h3]]
            exact alike_3 B D D' N M M' w hN hM hN2 hM2 ha hb h3
        · rw [show alikeB B N D M B N' D' M' = false by
            unfold alikeB; rw [decide_eq_false (fun h => h2 (by rw [h.2.1]))]; simp]
          exact alike_2 B D D' N M N' M' w hN hM hN2 hM2 ha hb h2
      · rw [show alikeB B N D M B' N' D' M' = false by unfold alikeB; simp [h1]]
        exact alike_1 B D B' D' N M N' M' w hN hM hN2 hM2 ha hb h1
end Go.Proofs.YtdkpmpkoelckoaaDoor
