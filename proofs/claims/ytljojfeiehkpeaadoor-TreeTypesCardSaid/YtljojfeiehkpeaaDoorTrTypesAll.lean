/- The law on types: the walks, and its proof (XTrTypes, XTrTypesB, XTrTypesC, XTrTypesP in one: a claim has at most 60 files). -/
import Derived.Test.YtljojfeiehkpeaaDoorTrRefB
import Derived.Test.YtljojfeiehkpeaaDoorTrGrow
import Derived.OrdersHeld
import Derived.Test.YtljojfeiehkpeaaDoorTrFrame
namespace Go.Proofs.YtljojfeiehkpeaaDoor
open Go Go.RowKit
set_option linter.unusedVariables false
set_option linter.unusedSimpArgs false

/-- two types' boxes, and that all else is kept -/
structure Ty2S (w0 : World) (B : Int) (N : ByteArray) (D : Int) (M : ByteArray) (B' : Int) (N' : ByteArray) (D' : Int) (M' : ByteArray) (w : World) : Prop where
  a_ : TyAt w w0.heap.size B N D M
  b_ : TyAt w (w0.heap.size + 1) B' N' D' M'
  bel : Below w0.heap.size w0 w
section
variable {w0 w w1 : World} {B : Int} {N : ByteArray} {D : Int} {M : ByteArray} {B' : Int} {N' : ByteArray} {D' : Int} {M' : ByteArray}
theorem Ty2S.new (w : World) (B : Int) (N : ByteArray) (D : Int) (M : ByteArray) (B' : Int) (N' : ByteArray) (D' : Int) (M' : ByteArray) (T : TypeId) : Ty2S w B N D M B' N' D' M' ((w.alloc (.cells #[.int .i64 B, .string N, .int .i64 D, .string M] T)).alloc (.cells #[.int .i64 B', .string N', .int .i64 D', .string M'] T)) := by
  have h1 := TyAt.new w B N D M T
  have h2 := TyAt.new (w.alloc (.cells #[.int .i64 B, .string N, .int .i64 D, .string M] T)) B' N' D' M' T
  rw [World.size_alloc] at h2
  exact ⟨h1.keep ((Below.refl _ _).alloc (Nat.le_refl _) _), h2, ((Below.refl _ _).alloc (Nat.le_refl _) _).alloc (by simp) _⟩
theorem Ty2S.keep (h : Ty2S w0 B N D M B' N' D' M' w) (hb : Below w.heap.size w w1) : Ty2S w0 B N D M B' N' D' M' w1 := ⟨h.1.keep hb, h.2.keep hb, after h.3 hb⟩
theorem Ty2S.drew (h : Ty2S w0 B N D M B' N' D' M' w) : Ty2S w0 B N D M B' N' D' M' w.drew := h.keep ((Below.refl _ _).drew)
theorem Ty2S.all (h : Ty2S w0 B N D M B' N' D' M' w) : w.cell? ⟨w0.heap.size, 0, none⟩ = some (.int .i64 B) ∧ w.cell? ⟨w0.heap.size, 1, none⟩ = some (.string N) ∧ w.cell? ⟨w0.heap.size, 2, none⟩ = some (.int .i64 D) ∧ w.cell? ⟨w0.heap.size, 3, none⟩ = some (.string M) ∧ w.cell? ⟨w0.heap.size + 1, 0, none⟩ = some (.int .i64 B') ∧ w.cell? ⟨w0.heap.size + 1, 1, none⟩ = some (.string N') ∧ w.cell? ⟨w0.heap.size + 1, 2, none⟩ = some (.int .i64 D') ∧ w.cell? ⟨w0.heap.size + 1, 3, none⟩ = some (.string M') ∧ Ty2S w0 B N D M B' N' D' M' w :=
  ⟨h.1.2.1, h.1.2.2.1, h.1.2.2.2.1, h.1.2.2.2.2.1, h.2.2.1, h.2.2.2.1, h.2.2.2.2.1, h.2.2.2.2.2.1, h⟩
end


set_option maxHeartbeats 4000000 in
theorem types_big1 (B D B' D' : Int) (N M N' M' : ByteArray) (w : World) (hT : Tabs w) (q1 : decide ((50 : Int) < (N.size : Int)) = true) :
    Calls Tryd.prog 3 #[.agg #[.int .i64 B, .string N, .int .i64 D, .string M], .agg #[.int .i64 B', .string N', .int .i64 D', .string M']] w fun e w' => e = .returned (.bool true) ∧ Below w.heap.size w w' := by
  have HS := Lib.hid (Ty2S.new w B N D M B' N' D' M' 23)
  have HT := Lib.hid hT
  clear hT
  obtain ⟨W0, hW0⟩ : ∃ W0, W0 = (w.alloc (.cells #[.int .i64 B, .string N, .int .i64 D, .string M] 23)).alloc (.cells #[.int .i64 B', .string N', .int .i64 D', .string M'] 23) := ⟨_, rfl⟩
  rw [← hW0] at HS
  have HW0 := Lib.hid hW0
  clear hW0
  go_enter Tryd.func3, Tryd.ntmps3
  go_wp2_with fail
  rw [← HW0.out]
  clear HW0
  refine (grows_any W0 (HT.out.step HS.out.bel)).mono ?_
  rintro e w1 ⟨rfl, h1⟩
  have S1 := Lib.hid (HS.out.keep h1)
  clear h1 HS
  obtain ⟨c0, c1, c2, c3, d0, d1, d2, d3, -⟩ := S1.out.all
  go_wp2_with fail
  go_ret
  exact ⟨rfl, S1.out.bel⟩
set_option maxHeartbeats 4000000 in
theorem types_big2 (B D B' D' : Int) (N M N' M' : ByteArray) (w : World) (hT : Tabs w) (q1 : decide ((50 : Int) < (N.size : Int)) = false) (q2 : decide ((50 : Int) < (N'.size : Int)) = true) :
    Calls Tryd.prog 3 #[.agg #[.int .i64 B, .string N, .int .i64 D, .string M], .agg #[.int .i64 B', .string N', .int .i64 D', .string M']] w fun e w' => e = .returned (.bool true) ∧ Below w.heap.size w w' := by
  have HS := Lib.hid (Ty2S.new w B N D M B' N' D' M' 23)
  have HT := Lib.hid hT
  clear hT
  obtain ⟨W0, hW0⟩ : ∃ W0, W0 = (w.alloc (.cells #[.int .i64 B, .string N, .int .i64 D, .string M] 23)).alloc (.cells #[.int .i64 B', .string N', .int .i64 D', .string M'] 23) := ⟨_, rfl⟩
  rw [← hW0] at HS
  have HW0 := Lib.hid hW0
  clear hW0
  go_enter Tryd.func3, Tryd.ntmps3
  go_wp2_with fail
  rw [← HW0.out]
  clear HW0
  refine (grows_any W0 (HT.out.step HS.out.bel)).mono ?_
  rintro e w1 ⟨rfl, h1⟩
  have S1 := Lib.hid (HS.out.keep h1)
  clear h1 HS
  obtain ⟨c0, c1, c2, c3, d0, d1, d2, d3, -⟩ := S1.out.all
  go_wp2_with fail
  go_ret
  exact ⟨rfl, S1.out.bel⟩
set_option maxHeartbeats 4000000 in
theorem types_big3 (B D B' D' : Int) (N M N' M' : ByteArray) (w : World) (hT : Tabs w) (q1 : decide ((50 : Int) < (N.size : Int)) = false) (q2 : decide ((50 : Int) < (N'.size : Int)) = false) (q3 : decide ((50 : Int) < (M.size : Int)) = true) :
    Calls Tryd.prog 3 #[.agg #[.int .i64 B, .string N, .int .i64 D, .string M], .agg #[.int .i64 B', .string N', .int .i64 D', .string M']] w fun e w' => e = .returned (.bool true) ∧ Below w.heap.size w w' := by
  have HS := Lib.hid (Ty2S.new w B N D M B' N' D' M' 23)
  have HT := Lib.hid hT
  clear hT
  obtain ⟨W0, hW0⟩ : ∃ W0, W0 = (w.alloc (.cells #[.int .i64 B, .string N, .int .i64 D, .string M] 23)).alloc (.cells #[.int .i64 B', .string N', .int .i64 D', .string M'] 23) := ⟨_, rfl⟩
  rw [← hW0] at HS
  have HW0 := Lib.hid hW0
  clear hW0
  go_enter Tryd.func3, Tryd.ntmps3
  go_wp2_with fail
  rw [← HW0.out]
  clear HW0
  refine (grows_any W0 (HT.out.step HS.out.bel)).mono ?_
  rintro e w1 ⟨rfl, h1⟩
  have S1 := Lib.hid (HS.out.keep h1)
  clear h1 HS
  obtain ⟨c0, c1, c2, c3, d0, d1, d2, d3, -⟩ := S1.out.all
  go_wp2_with fail
  go_ret
  exact ⟨rfl, S1.out.bel⟩
set_option maxHeartbeats 4000000 in
theorem types_big4 (B D B' D' : Int) (N M N' M' : ByteArray) (w : World) (hT : Tabs w) (q1 : decide ((50 : Int) < (N.size : Int)) = false) (q2 : decide ((50 : Int) < (N'.size : Int)) = false) (q3 : decide ((50 : Int) < (M.size : Int)) = false) (q4 : decide ((50 : Int) < (M'.size : Int)) = true) :
    Calls Tryd.prog 3 #[.agg #[.int .i64 B, .string N, .int .i64 D, .string M], .agg #[.int .i64 B', .string N', .int .i64 D', .string M']] w fun e w' => e = .returned (.bool true) ∧ Below w.heap.size w w' := by
  have HS := Lib.hid (Ty2S.new w B N D M B' N' D' M' 23)
  have HT := Lib.hid hT
  clear hT
  obtain ⟨W0, hW0⟩ : ∃ W0, W0 = (w.alloc (.cells #[.int .i64 B, .string N, .int .i64 D, .string M] 23)).alloc (.cells #[.int .i64 B', .string N', .int .i64 D', .string M'] 23) := ⟨_, rfl⟩
  rw [← hW0] at HS
  have HW0 := Lib.hid hW0
  clear hW0
  go_enter Tryd.func3, Tryd.ntmps3
  go_wp2_with fail
  rw [← HW0.out]
  clear HW0
  refine (grows_any W0 (HT.out.step HS.out.bel)).mono ?_
  rintro e w1 ⟨rfl, h1⟩
  have S1 := Lib.hid (HS.out.keep h1)
  clear h1 HS
  obtain ⟨c0, c1, c2, c3, d0, d1, d2, d3, -⟩ := S1.out.all
  go_wp2_with fail
  go_ret
  exact ⟨rfl, S1.out.bel⟩
end Go.Proofs.YtljojfeiehkpeaaDoor

namespace Go.Proofs.YtljojfeiehkpeaaDoor
open Go Go.RowKit
set_option linter.unusedVariables false
set_option linter.unusedSimpArgs false

set_option maxRecDepth 100000 in
theorem index_0 (B D B' D' : Int) (N M N' M' : ByteArray) (w : World) : Sem.run Tryd.prog (Instr.index 28 (.agg #[.int .i64 B, .string N, .int .i64 D, .string M, .int .i64 B', .string N', .int .i64 D', .string M']) (.int .i64 0)) w = Result.ok (.agg #[.int .i64 B, .string N, .int .i64 D, .string M]) w := by kernel_rfl
set_option maxRecDepth 100000 in
theorem index_1 (B D B' D' : Int) (N M N' M' : ByteArray) (w : World) : Sem.run Tryd.prog (Instr.index 28 (.agg #[.int .i64 B, .string N, .int .i64 D, .string M, .int .i64 B', .string N', .int .i64 D', .string M']) (.int .i64 1)) w = Result.ok (.agg #[.int .i64 B', .string N', .int .i64 D', .string M']) w := by kernel_rfl
theorem great_of {N : ByteArray} (h : ∀ j, j < N.size → 65 ≤ byS N j ∧ byS N j ≤ 90) : greatN N := by
  intro c hc
  obtain ⟨i, hi, rfl⟩ := List.getElem_of_mem hc
  have hi2 : i < N.size := by rw [Array.length_toList] at hi; exact hi
  have := h i hi2
  rw [byS_list, List.getElem?_eq_getElem hi] at this
  simpa using this
theorem ttS_no {B : Int} {N : ByteArray} {D : Int} {M : ByteArray} (h : rightB B N D M = false) : ttS B N D M = ⟨#[]⟩ := by unfold ttS; rw [h]; rfl
theorem ttS_yes' {B : Int} {N : ByteArray} {D : Int} {M : ByteArray} (h : rightB B N D M = true) : ttS B N D M = typeS B N M := by unfold ttS; rw [if_pos h]
set_option maxHeartbeats 8000000 in
set_option maxRecDepth 100000 in
theorem types_no_true (B D B' D' : Int) (N M N' M' : ByteArray) (w : World) (hT : Tabs w) (q1 : decide ((50 : Int) < (N.size : Int)) = false) (q2 : decide ((50 : Int) < (N'.size : Int)) = false) (q3 : decide ((50 : Int) < (M.size : Int)) = false) (q4 : decide ((50 : Int) < (M'.size : Int)) = false) (s1 : N.size ≤ 50) (s2 : N'.size ≤ 50) (s3 : M.size ≤ 50) (s4 : M'.size ≤ 50) (hr : rightB B N D M = false) (hmk : markedM M = true) :
    Calls Tryd.prog 3 #[.agg #[.int .i64 B, .string N, .int .i64 D, .string M], .agg #[.int .i64 B', .string N', .int .i64 D', .string M']] w fun e w' => e = .returned (.bool true) ∧ Below w.heap.size w w' := by
  have TA := Lib.hid (fun w => typeText2_any B N D M w (by omega) (by omega))
  have TB := Lib.hid (fun w => typeText2_any B' N' D' M' w (by omega) (by omega))
  have RA := Lib.hid (fun w => refR_any B N D M w (by omega))
  have PA := Lib.hid (fun w => plain_any B N D M w (by omega))
  rw [ttS_no hr] at TA
  rw [hr] at RA
  generalize ttS B' N' D' M' = yy at *
  rw [hmk] at PA
  simp only [Bool.not_true] at PA
  clear hr hmk
  have HS := Lib.hid (Ty2S.new w B N D M B' N' D' M' 23)
  have HT := Lib.hid hT
  clear hT
  obtain ⟨W0, hW0⟩ : ∃ W0, W0 = (w.alloc (.cells #[.int .i64 B, .string N, .int .i64 D, .string M] 23)).alloc (.cells #[.int .i64 B', .string N', .int .i64 D', .string M'] 23) := ⟨_, rfl⟩
  rw [← hW0] at HS
  have HW0 := Lib.hid hW0
  clear hW0
  go_enter Tryd.func3, Tryd.ntmps3
  go_wp2_with fail
  rw [← HW0.out]
  clear HW0
  refine (grows_any W0 (HT.out.step HS.out.bel)).mono ?_
  rintro e w1 ⟨rfl, h1⟩
  have S1 := Lib.hid (HS.out.keep h1)
  clear h1 HS
  obtain ⟨c0, c1, c2, c3, d0, d1, d2, d3, -⟩ := S1.out.all
  go_wp2_with fail
  clear c0 c1 c2 c3 d0 d1 d2 d3
  go_region_held3 (fun w' => w'.cell? ⟨w.heap.size, 0, none⟩ = some (.int .i64 B) ∧ w'.cell? ⟨w.heap.size, 1, none⟩ = some (.string N) ∧ w'.cell? ⟨w.heap.size, 2, none⟩ = some (.int .i64 D) ∧ w'.cell? ⟨w.heap.size, 3, none⟩ = some (.string M) ∧ w'.cell? ⟨w.heap.size + 1, 0, none⟩ = some (.int .i64 B') ∧ w'.cell? ⟨w.heap.size + 1, 1, none⟩ = some (.string N') ∧ w'.cell? ⟨w.heap.size + 1, 2, none⟩ = some (.int .i64 D') ∧ w'.cell? ⟨w.heap.size + 1, 3, none⟩ = some (.string M') ∧ Ty2S w B N D M B' N' D' M' w') (first | exact S1.out.all | exact (Ty2S.keep S1.out (Below.refl _ _).drew).all | exact (Ty2S.keep (by assumption) hb2).all) (first | (go_at_call_of 7 (.agg #[.int .i64 B, .string N, .int .i64 D, .string M] : Value); go_split_ands; refine (TA.out _).mono ?_; rintro e w2 ⟨rfl, hb2⟩) | (go_at_call_of 7 (.agg #[.int .i64 B', .string N', .int .i64 D', .string M'] : Value); go_split_ands; refine (TB.out _).mono ?_; rintro e w2 ⟨rfl, hb2⟩))
  all_goals go_split_ands
  have S2 := Lib.hid (show Ty2S w B N D M B' N' D' M' w2 from by assumption)
  rename_i x0 x1 x2 x3 x4 x5 x6 x7 x8 x9 x10 x11 x12 x13 x14 x15 x16 x17 x18 x19 x20 x21 x22 x23 x24 x25 x26 x27 x28
  clear hb2 x0 x1 x2 x3 x4 x5 x6 x7 x8 x9 x10 x11 x12 x13 x14 x15 x16 x17 x18 x19 x20 x21 x22 x23 x24 x25 x26 x27 x28
  obtain ⟨c0, c1, c2, c3, d0, d1, d2, d3, -⟩ := S2.out.all
  go_wp2_with fail
  clear c0 c1 c2 c3 d0 d1 d2 d3
  refine (RA.out _).mono ?_
  rintro e w3 ⟨rfl, h3⟩
  have S3 := Lib.hid (S2.out.keep h3)
  clear h3
  obtain ⟨c0, c1, c2, c3, d0, d1, d2, d3, -⟩ := S3.out.all
  go_wp2_with fail
  clear c0 c1 c2 c3 d0 d1 d2 d3
  refine wp_region_held_drew (S := (fun w' => w'.cell? ⟨w.heap.size, 0, none⟩ = some (.int .i64 B) ∧ w'.cell? ⟨w.heap.size, 1, none⟩ = some (.string N) ∧ w'.cell? ⟨w.heap.size, 2, none⟩ = some (.int .i64 D) ∧ w'.cell? ⟨w.heap.size, 3, none⟩ = some (.string M) ∧ w'.cell? ⟨w.heap.size + 1, 0, none⟩ = some (.int .i64 B') ∧ w'.cell? ⟨w.heap.size + 1, 1, none⟩ = some (.string N') ∧ w'.cell? ⟨w.heap.size + 1, 2, none⟩ = some (.int .i64 D') ∧ w'.cell? ⟨w.heap.size + 1, 3, none⟩ = some (.string M') ∧ Ty2S w B N D M B' N' D' M' w')) (by kernel_rfl) ((Ty2S.drew S3.out).all) (fun hHeld => ?_)
  (refine wpAnyH_take (i := 0) (v := ?vv0) rfl (by kernel_rfl) (by kernel_rfl) (by kernel_rfl) (fun _ _ _ h => h) (Or.inl ⟨by rfl, ?hy0⟩) (by assumption) ?rest0; case hy0 => (intro w hSw; (try dsimp only at hSw); go_simp; try with_reducible rfl))
  (try simp only [List.getElem_toArray, List.getElem_cons_zero, List.getElem_cons_succ, Act.put, List.setIfInBounds_toArray, List.set_cons_zero, List.set_cons_succ])
  (refine wpAnyH_take (i := 2) (v := ?vv1) rfl (by kernel_rfl) (by kernel_rfl) (by kernel_rfl) (fun _ _ _ h => h) (Or.inl ⟨by rfl, ?hy1⟩) (by assumption) ?rest1; case hy1 => (intro w hSw; (try dsimp only at hSw); go_simp; try with_reducible rfl))
  (try simp only [List.getElem_toArray, List.getElem_cons_zero, List.getElem_cons_succ, Act.put, List.setIfInBounds_toArray, List.set_cons_zero, List.set_cons_succ])
  (refine wpAnyH_ready (rs := [1]) (by kernel_rfl) (List.cons_ne_nil _ _) ?_; refine AllReadyH.cons rfl (fun K hK => ?_) AllReadyH.nil; go_simp; go_split_ands; refine (PA.out _).mono ?_; rintro e wz ⟨rfl, hb2⟩; (try go_wp2_with fail); refine hK.out _ _ ?hS2 (fun hHeld2 => ?rest2); (case hS2 => (exact (Ty2S.keep (by assumption) hb2).all)); clear hK K; (try simp only [List.getElem_toArray, List.getElem_cons_zero, List.getElem_cons_succ, Act.put, List.setIfInBounds_toArray, List.set_cons_zero, List.set_cons_succ]))
  (refine wpAnyH_ready (rs := [3]) (by kernel_rfl) (List.cons_ne_nil _ _) ?_; refine AllReadyH.cons rfl (fun K hK => ?_) AllReadyH.nil; go_simp; go_split_ands; refine (RA.out _).mono ?_; rintro e wz ⟨rfl, hb2⟩; (try go_wp2_with fail); refine hK.out _ _ ?hS3 (fun hHeld2 => ?rest3); (case hS3 => (exact (Ty2S.keep (by assumption) hb2).all)); clear hK K; (try simp only [List.getElem_toArray, List.getElem_cons_zero, List.getElem_cons_succ, Act.put, List.setIfInBounds_toArray, List.set_cons_zero, List.set_cons_succ]))
  (refine wpAnyH_take (i := 4) (v := ?vv4) rfl (by kernel_rfl) (by kernel_rfl) (by kernel_rfl) (fun _ _ _ h => h) (Or.inl ⟨by rfl, ?hy4⟩) (by assumption) ?rest4; case hy4 => (intro w hSw; (try dsimp only at hSw); go_simp; try with_reducible rfl))
  (try simp only [List.getElem_toArray, List.getElem_cons_zero, List.getElem_cons_succ, Act.put, List.setIfInBounds_toArray, List.set_cons_zero, List.set_cons_succ])
  first | (refine wpAnyH_take (i := 5) (v := undef) rfl (by kernel_rfl) (by kernel_rfl) (by kernel_rfl) (fun _ _ _ h => h) (Or.inr ⟨by rfl, rfl⟩) (by assumption) ?_) | (refine wpAnyH_take (i := 5) (v := ?vv5) rfl (by kernel_rfl) (by kernel_rfl) (by kernel_rfl) (fun _ _ _ h => h) (Or.inl ⟨by rfl, ?hy5⟩) (by assumption) ?rest5; case hy5 => (intro w hSw; (try dsimp only at hSw); go_simp; try with_reducible rfl))
  (try simp only [List.getElem_toArray, List.getElem_cons_zero, List.getElem_cons_succ, Act.put, List.setIfInBounds_toArray, List.set_cons_zero, List.set_cons_succ])
  first | (refine wpAnyH_take (i := 6) (v := undef) rfl (by kernel_rfl) (by kernel_rfl) (by kernel_rfl) (fun _ _ _ h => h) (Or.inr ⟨by rfl, rfl⟩) (by assumption) ?_) | (refine wpAnyH_take (i := 6) (v := ?vv6) rfl (by kernel_rfl) (by kernel_rfl) (by kernel_rfl) (fun _ _ _ h => h) (Or.inl ⟨by rfl, ?hy6⟩) (by assumption) ?rest6; case hy6 => (intro w hSw; (try dsimp only at hSw); go_simp; try with_reducible rfl))
  (try simp only [List.getElem_toArray, List.getElem_cons_zero, List.getElem_cons_succ, Act.put, List.setIfInBounds_toArray, List.set_cons_zero, List.set_cons_succ])
  first
    | (refine wpAnyH_take (i := 7) (v := undef) rfl (by kernel_rfl) (by kernel_rfl) (by kernel_rfl) (fun _ _ _ h => h) (Or.inr ⟨by rfl, rfl⟩) (by assumption) ?_; (try simp only [List.getElem_toArray, List.getElem_cons_zero, List.getElem_cons_succ, Act.put, List.setIfInBounds_toArray, List.set_cons_zero, List.set_cons_succ]))
    | (refine wpAnyH_ready (rs := [7]) (by kernel_rfl) (List.cons_ne_nil _ _) ?_; refine AllReadyH.cons rfl (fun K hK => ?_) AllReadyH.nil; go_simp; go_split_ands; fail; (try go_wp2_with fail); refine hK.out _ _ ?hS7 (fun hHeld2 => ?rest7); (case hS7 => (exact (Ty2S.keep (by assumption) hb2).all)); clear hK K; (try simp only [List.getElem_toArray, List.getElem_cons_zero, List.getElem_cons_succ, Act.put, List.setIfInBounds_toArray, List.set_cons_zero, List.set_cons_succ]))
  first | (refine wpAnyH_take (i := 8) (v := undef) rfl (by kernel_rfl) (by kernel_rfl) (by kernel_rfl) (fun _ _ _ h => h) (Or.inr ⟨by rfl, rfl⟩) (by assumption) ?_) | (refine wpAnyH_take (i := 8) (v := ?vv8) rfl (by kernel_rfl) (by kernel_rfl) (by kernel_rfl) (fun _ _ _ h => h) (Or.inl ⟨by rfl, ?hy8⟩) (by assumption) ?rest8; case hy8 => (intro w hSw; (try dsimp only at hSw); go_simp; try with_reducible rfl))
  (try simp only [List.getElem_toArray, List.getElem_cons_zero, List.getElem_cons_succ, Act.put, List.setIfInBounds_toArray, List.set_cons_zero, List.set_cons_succ])
  (refine wpAnyH_take (i := 9) (v := ?vv9) rfl (by kernel_rfl) (by kernel_rfl) (by kernel_rfl) (fun _ _ _ h => h) (Or.inl ⟨by rfl, ?hy9⟩) (by assumption) ?rest9; case hy9 => (intro w hSw; (try dsimp only at hSw); go_simp; try with_reducible rfl))
  (try simp only [List.getElem_toArray, List.getElem_cons_zero, List.getElem_cons_succ, Act.put, List.setIfInBounds_toArray, List.set_cons_zero, List.set_cons_succ])
  (refine wpAnyH_take (i := 10) (v := ?vv10) rfl (by kernel_rfl) (by kernel_rfl) (by kernel_rfl) (fun _ _ _ h => h) (Or.inl ⟨by rfl, ?hy10⟩) (by assumption) ?rest10; case hy10 => (intro w hSw; (try dsimp only at hSw); go_simp; try with_reducible rfl))
  (try simp only [List.getElem_toArray, List.getElem_cons_zero, List.getElem_cons_succ, Act.put, List.setIfInBounds_toArray, List.set_cons_zero, List.set_cons_succ])
  (refine wpAnyH_take (i := 11) (v := ?vv11) rfl (by kernel_rfl) (by kernel_rfl) (by kernel_rfl) (fun _ _ _ h => h) (Or.inl ⟨by rfl, ?hy11⟩) (by assumption) ?rest11; case hy11 => (intro w hSw; (try dsimp only at hSw); go_simp; try with_reducible rfl))
  (try simp only [List.getElem_toArray, List.getElem_cons_zero, List.getElem_cons_succ, Act.put, List.setIfInBounds_toArray, List.set_cons_zero, List.set_cons_succ])
  first | (refine wpAnyH_take (i := 12) (v := undef) rfl (by kernel_rfl) (by kernel_rfl) (by kernel_rfl) (fun _ _ _ h => h) (Or.inr ⟨by rfl, rfl⟩) (by assumption) ?_) | (refine wpAnyH_take (i := 12) (v := ?vv12) rfl (by kernel_rfl) (by kernel_rfl) (by kernel_rfl) (fun _ _ _ h => h) (Or.inl ⟨by rfl, ?hy12⟩) (by assumption) ?rest12; case hy12 => (intro w hSw; (try dsimp only at hSw); go_simp; try with_reducible rfl))
  (try simp only [List.getElem_toArray, List.getElem_cons_zero, List.getElem_cons_succ, Act.put, List.setIfInBounds_toArray, List.set_cons_zero, List.set_cons_succ])
  (refine wpAnyH_take (i := 13) (v := ?vv13) rfl (by kernel_rfl) (by kernel_rfl) (by kernel_rfl) (fun _ _ _ h => h) (Or.inl ⟨by rfl, ?hy13⟩) (by assumption) ?rest13; case hy13 => (intro w hSw; (try dsimp only at hSw); go_simp; try with_reducible rfl))
  (try simp only [List.getElem_toArray, List.getElem_cons_zero, List.getElem_cons_succ, Act.put, List.setIfInBounds_toArray, List.set_cons_zero, List.set_cons_succ])
  refine wpAnyH_done (by kernel_rfl) ?_ _
  go_split_ands
  have S5 := Lib.hid (show Ty2S w B N D M B' N' D' M' _ from by assumption)
  clear RA PA TA TB S3 S2 S1
  go_wp2_with fail
  go_loopw [74] (fun a wr => ∃ i : Nat, i ≤ 2 ∧ a = .int .i64 i ∧ (0 < i → greatN N) ∧ (1 < i → greatN N') ∧ Ty2S w B N D M B' N' D' M' wr) (fun a _ => 2 - (intOf a).toNat)
  case atStart => exact ⟨0, by omega, rfl, fun h => absurd h (by omega), fun h => absurd h (by omega), S5.out⟩
  case round =>
    obtain ⟨i, hi, rfl, g0, g1, s6⟩ := hrel
    have S6 := Lib.hid s6
    have G0 := Lib.hid g0
    have G1 := Lib.hid g1
    obtain ⟨c0, c1, c2, c3, d0, d1, d2, d3, -⟩ := s6.all
    clear g0 g1 s6
    have hi3 : i = 0 ∨ i = 1 ∨ i = 2 := by omega
    rcases hi3 with hi0 | hi0 | hi0
    · subst hi0
      have ix0 := index_0 B D B' D' N M N' M'
      have ix1 := index_1 B D B' D' N M N' M'
      go_wp2_with fail
      go_loopw [80] (fun a wr2 => ∃ k : Nat, k ≤ N.size ∧ a = .int .i64 k ∧ (∀ j, j < k → 65 ≤ byS N j ∧ byS N j ≤ 90) ∧ wr2 = wr.alloc (.cells #[.int .i64 B, .string N, .int .i64 D, .string M] 23)) (fun a _ => N.size - (intOf a).toNat)
      case atStart => exact ⟨0, Nat.zero_le _, rfl, fun j hj => absurd hj (by omega), rfl⟩
      case round =>
        obtain ⟨k, hk, rfl, hall, rfl⟩ := hrel
        have HALL := Lib.hid hall
        clear hall
        by_cases hlt : k < N.size
        · have C := Lib.hid (byS_get N k hlt)
          by_cases h65 : 65 ≤ N[k].toNat
          · have r1 : decide ((65 : Int) ≤ (N[k].toNat : Int)) = true := decide_eq_true (by omega)
            by_cases h90 : N[k].toNat ≤ 90
            · have r2 : decide ((N[k].toNat : Int) ≤ 90) = true := decide_eq_true (by omega)
              have HN1 : Hid (∀ j, j < k + 1 → 65 ≤ byS N j ∧ byS N j ≤ 90) := Lib.hid (fun j hj => by
                by_cases hjk : j < k
                · exact HALL.out j hjk
                · obtain rfl : j = k := by omega
                  rw [C.out]; exact ⟨h65, h90⟩)
              clear h65 h90
              go_wp2_with fail
              exact ⟨⟨k + 1, by omega, by go_num, HN1.out, by trivial⟩, by simp [intOf]; omega⟩
            · have r2 : decide ((N[k].toNat : Int) ≤ 90) = false := decide_eq_false (by omega)
              clear h65 h90
              go_wp2_with fail
              go_ret
              exact ⟨rfl, (S6.out.keep ((Below.refl _ _).alloc (Nat.le_refl _) _)).bel⟩
          · have r1 : decide ((65 : Int) ≤ (N[k].toNat : Int)) = false := decide_eq_false (by omega)
            clear h65
            go_wp2_with fail
            go_ret
            exact ⟨rfl, (S6.out.keep ((Below.refl _ _).alloc (Nat.le_refl _) _)).bel⟩
        · have hkN : k = N.size := by omega
          have HGR : Hid (greatN N) := Lib.hid (great_of (by rw [← hkN]; exact HALL.out))
          subst hkN
          clear HALL
          go_wp2_with fail
          exact ⟨⟨1, by omega, rfl, fun _ => HGR.out, fun h => absurd h (by omega), S6.out.keep ((Below.refl _ _).alloc (Nat.le_refl _) _)⟩, by simp [intOf]⟩
    · subst hi0
      have ix0 := index_0 B D B' D' N M N' M'
      have ix1 := index_1 B D B' D' N M N' M'
      go_wp2_with fail
      go_loopw [80] (fun a wr2 => ∃ k : Nat, k ≤ N'.size ∧ a = .int .i64 k ∧ (∀ j, j < k → 65 ≤ byS N' j ∧ byS N' j ≤ 90) ∧ wr2 = wr.alloc (.cells #[.int .i64 B', .string N', .int .i64 D', .string M'] 23)) (fun a _ => N'.size - (intOf a).toNat)
      case atStart => exact ⟨0, Nat.zero_le _, rfl, fun j hj => absurd hj (by omega), rfl⟩
      case round =>
        obtain ⟨k, hk, rfl, hall, rfl⟩ := hrel
        have HALL := Lib.hid hall
        clear hall
        by_cases hlt : k < N'.size
        · have C := Lib.hid (byS_get N' k hlt)
          by_cases h65 : 65 ≤ N'[k].toNat
          · have r1 : decide ((65 : Int) ≤ (N'[k].toNat : Int)) = true := decide_eq_true (by omega)
            by_cases h90 : N'[k].toNat ≤ 90
            · have r2 : decide ((N'[k].toNat : Int) ≤ 90) = true := decide_eq_true (by omega)
              have HN1 : Hid (∀ j, j < k + 1 → 65 ≤ byS N' j ∧ byS N' j ≤ 90) := Lib.hid (fun j hj => by
                by_cases hjk : j < k
                · exact HALL.out j hjk
                · obtain rfl : j = k := by omega
                  rw [C.out]; exact ⟨h65, h90⟩)
              clear h65 h90
              go_wp2_with fail
              exact ⟨⟨k + 1, by omega, by go_num, HN1.out, by trivial⟩, by simp [intOf]; omega⟩
            · have r2 : decide ((N'[k].toNat : Int) ≤ 90) = false := decide_eq_false (by omega)
              clear h65 h90
              go_wp2_with fail
              go_ret
              exact ⟨rfl, (S6.out.keep ((Below.refl _ _).alloc (Nat.le_refl _) _)).bel⟩
          · have r1 : decide ((65 : Int) ≤ (N'[k].toNat : Int)) = false := decide_eq_false (by omega)
            clear h65
            go_wp2_with fail
            go_ret
            exact ⟨rfl, (S6.out.keep ((Below.refl _ _).alloc (Nat.le_refl _) _)).bel⟩
        · have hkN : k = N'.size := by omega
          have HGR : Hid (greatN N') := Lib.hid (great_of (by rw [← hkN]; exact HALL.out))
          subst hkN
          clear HALL
          go_wp2_with fail
          exact ⟨⟨2, by omega, rfl, fun _ => G0.out (by omega), fun _ => HGR.out, S6.out.keep ((Below.refl _ _).alloc (Nat.le_refl _) _)⟩, by simp [intOf]⟩
    · subst hi0
      have ix0 := index_0 B D B' D' N M N' M'
      have ix1 := index_1 B D B' D' N M N' M'
      go_wp2_with fail
      go_ret
      exact ⟨rfl, S6.out.bel⟩
set_option maxHeartbeats 8000000 in
set_option maxRecDepth 100000 in
theorem types_no_false (B D B' D' : Int) (N M N' M' : ByteArray) (w : World) (hT : Tabs w) (q1 : decide ((50 : Int) < (N.size : Int)) = false) (q2 : decide ((50 : Int) < (N'.size : Int)) = false) (q3 : decide ((50 : Int) < (M.size : Int)) = false) (q4 : decide ((50 : Int) < (M'.size : Int)) = false) (s1 : N.size ≤ 50) (s2 : N'.size ≤ 50) (s3 : M.size ≤ 50) (s4 : M'.size ≤ 50) (hr : rightB B N D M = false) (hmk : markedM M = false) :
    Calls Tryd.prog 3 #[.agg #[.int .i64 B, .string N, .int .i64 D, .string M], .agg #[.int .i64 B', .string N', .int .i64 D', .string M']] w fun e w' => e = .returned (.bool true) ∧ Below w.heap.size w w' := by
  have TA := Lib.hid (fun w => typeText2_any B N D M w (by omega) (by omega))
  have TB := Lib.hid (fun w => typeText2_any B' N' D' M' w (by omega) (by omega))
  have RA := Lib.hid (fun w => refR_any B N D M w (by omega))
  have PA := Lib.hid (fun w => plain_any B N D M w (by omega))
  rw [ttS_no hr] at TA
  rw [hr] at RA
  generalize ttS B' N' D' M' = yy at *
  rw [hmk] at PA
  simp only [Bool.not_false] at PA
  clear hr hmk
  have HS := Lib.hid (Ty2S.new w B N D M B' N' D' M' 23)
  have HT := Lib.hid hT
  clear hT
  obtain ⟨W0, hW0⟩ : ∃ W0, W0 = (w.alloc (.cells #[.int .i64 B, .string N, .int .i64 D, .string M] 23)).alloc (.cells #[.int .i64 B', .string N', .int .i64 D', .string M'] 23) := ⟨_, rfl⟩
  rw [← hW0] at HS
  have HW0 := Lib.hid hW0
  clear hW0
  go_enter Tryd.func3, Tryd.ntmps3
  go_wp2_with fail
  rw [← HW0.out]
  clear HW0
  refine (grows_any W0 (HT.out.step HS.out.bel)).mono ?_
  rintro e w1 ⟨rfl, h1⟩
  have S1 := Lib.hid (HS.out.keep h1)
  clear h1 HS
  obtain ⟨c0, c1, c2, c3, d0, d1, d2, d3, -⟩ := S1.out.all
  go_wp2_with fail
  clear c0 c1 c2 c3 d0 d1 d2 d3
  go_region_held3 (fun w' => w'.cell? ⟨w.heap.size, 0, none⟩ = some (.int .i64 B) ∧ w'.cell? ⟨w.heap.size, 1, none⟩ = some (.string N) ∧ w'.cell? ⟨w.heap.size, 2, none⟩ = some (.int .i64 D) ∧ w'.cell? ⟨w.heap.size, 3, none⟩ = some (.string M) ∧ w'.cell? ⟨w.heap.size + 1, 0, none⟩ = some (.int .i64 B') ∧ w'.cell? ⟨w.heap.size + 1, 1, none⟩ = some (.string N') ∧ w'.cell? ⟨w.heap.size + 1, 2, none⟩ = some (.int .i64 D') ∧ w'.cell? ⟨w.heap.size + 1, 3, none⟩ = some (.string M') ∧ Ty2S w B N D M B' N' D' M' w') (first | exact S1.out.all | exact (Ty2S.keep S1.out (Below.refl _ _).drew).all | exact (Ty2S.keep (by assumption) hb2).all) (first | (go_at_call_of 7 (.agg #[.int .i64 B, .string N, .int .i64 D, .string M] : Value); go_split_ands; refine (TA.out _).mono ?_; rintro e w2 ⟨rfl, hb2⟩) | (go_at_call_of 7 (.agg #[.int .i64 B', .string N', .int .i64 D', .string M'] : Value); go_split_ands; refine (TB.out _).mono ?_; rintro e w2 ⟨rfl, hb2⟩))
  all_goals go_split_ands
  have S2 := Lib.hid (show Ty2S w B N D M B' N' D' M' w2 from by assumption)
  rename_i x0 x1 x2 x3 x4 x5 x6 x7 x8 x9 x10 x11 x12 x13 x14 x15 x16 x17 x18 x19 x20 x21 x22 x23 x24 x25 x26 x27 x28
  clear hb2 x0 x1 x2 x3 x4 x5 x6 x7 x8 x9 x10 x11 x12 x13 x14 x15 x16 x17 x18 x19 x20 x21 x22 x23 x24 x25 x26 x27 x28
  obtain ⟨c0, c1, c2, c3, d0, d1, d2, d3, -⟩ := S2.out.all
  go_wp2_with fail
  clear c0 c1 c2 c3 d0 d1 d2 d3
  refine (RA.out _).mono ?_
  rintro e w3 ⟨rfl, h3⟩
  have S3 := Lib.hid (S2.out.keep h3)
  clear h3
  obtain ⟨c0, c1, c2, c3, d0, d1, d2, d3, -⟩ := S3.out.all
  go_wp2_with fail
  clear c0 c1 c2 c3 d0 d1 d2 d3
  refine wp_region_held_drew (S := (fun w' => w'.cell? ⟨w.heap.size, 0, none⟩ = some (.int .i64 B) ∧ w'.cell? ⟨w.heap.size, 1, none⟩ = some (.string N) ∧ w'.cell? ⟨w.heap.size, 2, none⟩ = some (.int .i64 D) ∧ w'.cell? ⟨w.heap.size, 3, none⟩ = some (.string M) ∧ w'.cell? ⟨w.heap.size + 1, 0, none⟩ = some (.int .i64 B') ∧ w'.cell? ⟨w.heap.size + 1, 1, none⟩ = some (.string N') ∧ w'.cell? ⟨w.heap.size + 1, 2, none⟩ = some (.int .i64 D') ∧ w'.cell? ⟨w.heap.size + 1, 3, none⟩ = some (.string M') ∧ Ty2S w B N D M B' N' D' M' w')) (by kernel_rfl) ((Ty2S.drew S3.out).all) (fun hHeld => ?_)
  (refine wpAnyH_take (i := 0) (v := ?vv0) rfl (by kernel_rfl) (by kernel_rfl) (by kernel_rfl) (fun _ _ _ h => h) (Or.inl ⟨by rfl, ?hy0⟩) (by assumption) ?rest0; case hy0 => (intro w hSw; (try dsimp only at hSw); go_simp; try with_reducible rfl))
  (try simp only [List.getElem_toArray, List.getElem_cons_zero, List.getElem_cons_succ, Act.put, List.setIfInBounds_toArray, List.set_cons_zero, List.set_cons_succ])
  (refine wpAnyH_take (i := 2) (v := ?vv1) rfl (by kernel_rfl) (by kernel_rfl) (by kernel_rfl) (fun _ _ _ h => h) (Or.inl ⟨by rfl, ?hy1⟩) (by assumption) ?rest1; case hy1 => (intro w hSw; (try dsimp only at hSw); go_simp; try with_reducible rfl))
  (try simp only [List.getElem_toArray, List.getElem_cons_zero, List.getElem_cons_succ, Act.put, List.setIfInBounds_toArray, List.set_cons_zero, List.set_cons_succ])
  (refine wpAnyH_ready (rs := [1]) (by kernel_rfl) (List.cons_ne_nil _ _) ?_; refine AllReadyH.cons rfl (fun K hK => ?_) AllReadyH.nil; go_simp; go_split_ands; refine (PA.out _).mono ?_; rintro e wz ⟨rfl, hb2⟩; (try go_wp2_with fail); refine hK.out _ _ ?hS2 (fun hHeld2 => ?rest2); (case hS2 => (exact (Ty2S.keep (by assumption) hb2).all)); clear hK K; (try simp only [List.getElem_toArray, List.getElem_cons_zero, List.getElem_cons_succ, Act.put, List.setIfInBounds_toArray, List.set_cons_zero, List.set_cons_succ]))
  (refine wpAnyH_ready (rs := [3]) (by kernel_rfl) (List.cons_ne_nil _ _) ?_; refine AllReadyH.cons rfl (fun K hK => ?_) AllReadyH.nil; go_simp; go_split_ands; refine (RA.out _).mono ?_; rintro e wz ⟨rfl, hb2⟩; (try go_wp2_with fail); refine hK.out _ _ ?hS3 (fun hHeld2 => ?rest3); (case hS3 => (exact (Ty2S.keep (by assumption) hb2).all)); clear hK K; (try simp only [List.getElem_toArray, List.getElem_cons_zero, List.getElem_cons_succ, Act.put, List.setIfInBounds_toArray, List.set_cons_zero, List.set_cons_succ]))
  (refine wpAnyH_take (i := 4) (v := ?vv4) rfl (by kernel_rfl) (by kernel_rfl) (by kernel_rfl) (fun _ _ _ h => h) (Or.inl ⟨by rfl, ?hy4⟩) (by assumption) ?rest4; case hy4 => (intro w hSw; (try dsimp only at hSw); go_simp; try with_reducible rfl))
  (try simp only [List.getElem_toArray, List.getElem_cons_zero, List.getElem_cons_succ, Act.put, List.setIfInBounds_toArray, List.set_cons_zero, List.set_cons_succ])
  first | (refine wpAnyH_take (i := 5) (v := undef) rfl (by kernel_rfl) (by kernel_rfl) (by kernel_rfl) (fun _ _ _ h => h) (Or.inr ⟨by rfl, rfl⟩) (by assumption) ?_) | (refine wpAnyH_take (i := 5) (v := ?vv5) rfl (by kernel_rfl) (by kernel_rfl) (by kernel_rfl) (fun _ _ _ h => h) (Or.inl ⟨by rfl, ?hy5⟩) (by assumption) ?rest5; case hy5 => (intro w hSw; (try dsimp only at hSw); go_simp; try with_reducible rfl))
  (try simp only [List.getElem_toArray, List.getElem_cons_zero, List.getElem_cons_succ, Act.put, List.setIfInBounds_toArray, List.set_cons_zero, List.set_cons_succ])
  first | (refine wpAnyH_take (i := 6) (v := undef) rfl (by kernel_rfl) (by kernel_rfl) (by kernel_rfl) (fun _ _ _ h => h) (Or.inr ⟨by rfl, rfl⟩) (by assumption) ?_) | (refine wpAnyH_take (i := 6) (v := ?vv6) rfl (by kernel_rfl) (by kernel_rfl) (by kernel_rfl) (fun _ _ _ h => h) (Or.inl ⟨by rfl, ?hy6⟩) (by assumption) ?rest6; case hy6 => (intro w hSw; (try dsimp only at hSw); go_simp; try with_reducible rfl))
  (try simp only [List.getElem_toArray, List.getElem_cons_zero, List.getElem_cons_succ, Act.put, List.setIfInBounds_toArray, List.set_cons_zero, List.set_cons_succ])
  first
    | (refine wpAnyH_take (i := 7) (v := undef) rfl (by kernel_rfl) (by kernel_rfl) (by kernel_rfl) (fun _ _ _ h => h) (Or.inr ⟨by rfl, rfl⟩) (by assumption) ?_; (try simp only [List.getElem_toArray, List.getElem_cons_zero, List.getElem_cons_succ, Act.put, List.setIfInBounds_toArray, List.set_cons_zero, List.set_cons_succ]))
    | (refine wpAnyH_ready (rs := [7]) (by kernel_rfl) (List.cons_ne_nil _ _) ?_; refine AllReadyH.cons rfl (fun K hK => ?_) AllReadyH.nil; go_simp; go_split_ands; fail; (try go_wp2_with fail); refine hK.out _ _ ?hS7 (fun hHeld2 => ?rest7); (case hS7 => (exact (Ty2S.keep (by assumption) hb2).all)); clear hK K; (try simp only [List.getElem_toArray, List.getElem_cons_zero, List.getElem_cons_succ, Act.put, List.setIfInBounds_toArray, List.set_cons_zero, List.set_cons_succ]))
  first | (refine wpAnyH_take (i := 8) (v := undef) rfl (by kernel_rfl) (by kernel_rfl) (by kernel_rfl) (fun _ _ _ h => h) (Or.inr ⟨by rfl, rfl⟩) (by assumption) ?_) | (refine wpAnyH_take (i := 8) (v := ?vv8) rfl (by kernel_rfl) (by kernel_rfl) (by kernel_rfl) (fun _ _ _ h => h) (Or.inl ⟨by rfl, ?hy8⟩) (by assumption) ?rest8; case hy8 => (intro w hSw; (try dsimp only at hSw); go_simp; try with_reducible rfl))
  (try simp only [List.getElem_toArray, List.getElem_cons_zero, List.getElem_cons_succ, Act.put, List.setIfInBounds_toArray, List.set_cons_zero, List.set_cons_succ])
  (refine wpAnyH_take (i := 9) (v := ?vv9) rfl (by kernel_rfl) (by kernel_rfl) (by kernel_rfl) (fun _ _ _ h => h) (Or.inl ⟨by rfl, ?hy9⟩) (by assumption) ?rest9; case hy9 => (intro w hSw; (try dsimp only at hSw); go_simp; try with_reducible rfl))
  (try simp only [List.getElem_toArray, List.getElem_cons_zero, List.getElem_cons_succ, Act.put, List.setIfInBounds_toArray, List.set_cons_zero, List.set_cons_succ])
  (refine wpAnyH_take (i := 10) (v := ?vv10) rfl (by kernel_rfl) (by kernel_rfl) (by kernel_rfl) (fun _ _ _ h => h) (Or.inl ⟨by rfl, ?hy10⟩) (by assumption) ?rest10; case hy10 => (intro w hSw; (try dsimp only at hSw); go_simp; try with_reducible rfl))
  (try simp only [List.getElem_toArray, List.getElem_cons_zero, List.getElem_cons_succ, Act.put, List.setIfInBounds_toArray, List.set_cons_zero, List.set_cons_succ])
  (refine wpAnyH_take (i := 11) (v := ?vv11) rfl (by kernel_rfl) (by kernel_rfl) (by kernel_rfl) (fun _ _ _ h => h) (Or.inl ⟨by rfl, ?hy11⟩) (by assumption) ?rest11; case hy11 => (intro w hSw; (try dsimp only at hSw); go_simp; try with_reducible rfl))
  (try simp only [List.getElem_toArray, List.getElem_cons_zero, List.getElem_cons_succ, Act.put, List.setIfInBounds_toArray, List.set_cons_zero, List.set_cons_succ])
  first | (refine wpAnyH_take (i := 12) (v := undef) rfl (by kernel_rfl) (by kernel_rfl) (by kernel_rfl) (fun _ _ _ h => h) (Or.inr ⟨by rfl, rfl⟩) (by assumption) ?_) | (refine wpAnyH_take (i := 12) (v := ?vv12) rfl (by kernel_rfl) (by kernel_rfl) (by kernel_rfl) (fun _ _ _ h => h) (Or.inl ⟨by rfl, ?hy12⟩) (by assumption) ?rest12; case hy12 => (intro w hSw; (try dsimp only at hSw); go_simp; try with_reducible rfl))
  (try simp only [List.getElem_toArray, List.getElem_cons_zero, List.getElem_cons_succ, Act.put, List.setIfInBounds_toArray, List.set_cons_zero, List.set_cons_succ])
  (refine wpAnyH_take (i := 13) (v := ?vv13) rfl (by kernel_rfl) (by kernel_rfl) (by kernel_rfl) (fun _ _ _ h => h) (Or.inl ⟨by rfl, ?hy13⟩) (by assumption) ?rest13; case hy13 => (intro w hSw; (try dsimp only at hSw); go_simp; try with_reducible rfl))
  (try simp only [List.getElem_toArray, List.getElem_cons_zero, List.getElem_cons_succ, Act.put, List.setIfInBounds_toArray, List.set_cons_zero, List.set_cons_succ])
  refine wpAnyH_done (by kernel_rfl) ?_ _
  go_split_ands
  have S5 := Lib.hid (show Ty2S w B N D M B' N' D' M' _ from by assumption)
  clear RA PA TA TB S3 S2 S1
  go_wp2_with fail
  go_loopw [74] (fun a wr => ∃ i : Nat, i ≤ 2 ∧ a = .int .i64 i ∧ (0 < i → greatN N) ∧ (1 < i → greatN N') ∧ Ty2S w B N D M B' N' D' M' wr) (fun a _ => 2 - (intOf a).toNat)
  case atStart => exact ⟨0, by omega, rfl, fun h => absurd h (by omega), fun h => absurd h (by omega), S5.out⟩
  case round =>
    obtain ⟨i, hi, rfl, g0, g1, s6⟩ := hrel
    have S6 := Lib.hid s6
    have G0 := Lib.hid g0
    have G1 := Lib.hid g1
    obtain ⟨c0, c1, c2, c3, d0, d1, d2, d3, -⟩ := s6.all
    clear g0 g1 s6
    have hi3 : i = 0 ∨ i = 1 ∨ i = 2 := by omega
    rcases hi3 with hi0 | hi0 | hi0
    · subst hi0
      have ix0 := index_0 B D B' D' N M N' M'
      have ix1 := index_1 B D B' D' N M N' M'
      go_wp2_with fail
      go_loopw [80] (fun a wr2 => ∃ k : Nat, k ≤ N.size ∧ a = .int .i64 k ∧ (∀ j, j < k → 65 ≤ byS N j ∧ byS N j ≤ 90) ∧ wr2 = wr.alloc (.cells #[.int .i64 B, .string N, .int .i64 D, .string M] 23)) (fun a _ => N.size - (intOf a).toNat)
      case atStart => exact ⟨0, Nat.zero_le _, rfl, fun j hj => absurd hj (by omega), rfl⟩
      case round =>
        obtain ⟨k, hk, rfl, hall, rfl⟩ := hrel
        have HALL := Lib.hid hall
        clear hall
        by_cases hlt : k < N.size
        · have C := Lib.hid (byS_get N k hlt)
          by_cases h65 : 65 ≤ N[k].toNat
          · have r1 : decide ((65 : Int) ≤ (N[k].toNat : Int)) = true := decide_eq_true (by omega)
            by_cases h90 : N[k].toNat ≤ 90
            · have r2 : decide ((N[k].toNat : Int) ≤ 90) = true := decide_eq_true (by omega)
              have HN1 : Hid (∀ j, j < k + 1 → 65 ≤ byS N j ∧ byS N j ≤ 90) := Lib.hid (fun j hj => by
                by_cases hjk : j < k
                · exact HALL.out j hjk
                · obtain rfl : j = k := by omega
                  rw [C.out]; exact ⟨h65, h90⟩)
              clear h65 h90
              go_wp2_with fail
              exact ⟨⟨k + 1, by omega, by go_num, HN1.out, by trivial⟩, by simp [intOf]; omega⟩
            · have r2 : decide ((N[k].toNat : Int) ≤ 90) = false := decide_eq_false (by omega)
              clear h65 h90
              go_wp2_with fail
              go_ret
              exact ⟨rfl, (S6.out.keep ((Below.refl _ _).alloc (Nat.le_refl _) _)).bel⟩
          · have r1 : decide ((65 : Int) ≤ (N[k].toNat : Int)) = false := decide_eq_false (by omega)
            clear h65
            go_wp2_with fail
            go_ret
            exact ⟨rfl, (S6.out.keep ((Below.refl _ _).alloc (Nat.le_refl _) _)).bel⟩
        · have hkN : k = N.size := by omega
          have HGR : Hid (greatN N) := Lib.hid (great_of (by rw [← hkN]; exact HALL.out))
          subst hkN
          clear HALL
          go_wp2_with fail
          exact ⟨⟨1, by omega, rfl, fun _ => HGR.out, fun h => absurd h (by omega), S6.out.keep ((Below.refl _ _).alloc (Nat.le_refl _) _)⟩, by simp [intOf]⟩
    · subst hi0
      have ix0 := index_0 B D B' D' N M N' M'
      have ix1 := index_1 B D B' D' N M N' M'
      go_wp2_with fail
      go_loopw [80] (fun a wr2 => ∃ k : Nat, k ≤ N'.size ∧ a = .int .i64 k ∧ (∀ j, j < k → 65 ≤ byS N' j ∧ byS N' j ≤ 90) ∧ wr2 = wr.alloc (.cells #[.int .i64 B', .string N', .int .i64 D', .string M'] 23)) (fun a _ => N'.size - (intOf a).toNat)
      case atStart => exact ⟨0, Nat.zero_le _, rfl, fun j hj => absurd hj (by omega), rfl⟩
      case round =>
        obtain ⟨k, hk, rfl, hall, rfl⟩ := hrel
        have HALL := Lib.hid hall
        clear hall
        by_cases hlt : k < N'.size
        · have C := Lib.hid (byS_get N' k hlt)
          by_cases h65 : 65 ≤ N'[k].toNat
          · have r1 : decide ((65 : Int) ≤ (N'[k].toNat : Int)) = true := decide_eq_true (by omega)
            by_cases h90 : N'[k].toNat ≤ 90
            · have r2 : decide ((N'[k].toNat : Int) ≤ 90) = true := decide_eq_true (by omega)
              have HN1 : Hid (∀ j, j < k + 1 → 65 ≤ byS N' j ∧ byS N' j ≤ 90) := Lib.hid (fun j hj => by
                by_cases hjk : j < k
                · exact HALL.out j hjk
                · obtain rfl : j = k := by omega
                  rw [C.out]; exact ⟨h65, h90⟩)
              clear h65 h90
              go_wp2_with fail
              exact ⟨⟨k + 1, by omega, by go_num, HN1.out, by trivial⟩, by simp [intOf]; omega⟩
            · have r2 : decide ((N'[k].toNat : Int) ≤ 90) = false := decide_eq_false (by omega)
              clear h65 h90
              go_wp2_with fail
              go_ret
              exact ⟨rfl, (S6.out.keep ((Below.refl _ _).alloc (Nat.le_refl _) _)).bel⟩
          · have r1 : decide ((65 : Int) ≤ (N'[k].toNat : Int)) = false := decide_eq_false (by omega)
            clear h65
            go_wp2_with fail
            go_ret
            exact ⟨rfl, (S6.out.keep ((Below.refl _ _).alloc (Nat.le_refl _) _)).bel⟩
        · have hkN : k = N'.size := by omega
          have HGR : Hid (greatN N') := Lib.hid (great_of (by rw [← hkN]; exact HALL.out))
          subst hkN
          clear HALL
          go_wp2_with fail
          exact ⟨⟨2, by omega, rfl, fun _ => G0.out (by omega), fun _ => HGR.out, S6.out.keep ((Below.refl _ _).alloc (Nat.le_refl _) _)⟩, by simp [intOf]⟩
    · subst hi0
      have ix0 := index_0 B D B' D' N M N' M'
      have ix1 := index_1 B D B' D' N M N' M'
      go_wp2_with fail
      go_ret
      exact ⟨rfl, S6.out.bel⟩
theorem types_no (B D B' D' : Int) (N M N' M' : ByteArray) (w : World) (hT : Tabs w) (q1 : decide ((50 : Int) < (N.size : Int)) = false) (q2 : decide ((50 : Int) < (N'.size : Int)) = false) (q3 : decide ((50 : Int) < (M.size : Int)) = false) (q4 : decide ((50 : Int) < (M'.size : Int)) = false) (s1 : N.size ≤ 50) (s2 : N'.size ≤ 50) (s3 : M.size ≤ 50) (s4 : M'.size ≤ 50) (hr : rightB B N D M = false) :
    Calls Tryd.prog 3 #[.agg #[.int .i64 B, .string N, .int .i64 D, .string M], .agg #[.int .i64 B', .string N', .int .i64 D', .string M']] w fun e w' => e = .returned (.bool true) ∧ Below w.heap.size w w' := by
  cases hmk : markedM M
  · exact types_no_false B D B' D' N M N' M' w hT q1 q2 q3 q4 s1 s2 s3 s4 hr hmk
  · exact types_no_true B D B' D' N M N' M' w hT q1 q2 q3 q4 s1 s2 s3 s4 hr hmk
end Go.Proofs.YtljojfeiehkpeaaDoor

namespace Go.Proofs.YtljojfeiehkpeaaDoor
open Go Go.RowKit
set_option linter.unusedVariables false
set_option linter.unusedSimpArgs false

set_option maxHeartbeats 8000000 in
set_option maxRecDepth 100000 in
theorem types_yes_false (B B' D' : Int) (d : Nat) (N M N' M' : ByteArray) (w : World) (hT : Tabs w) (q1 : decide ((50 : Int) < (N.size : Int)) = false) (q2 : decide ((50 : Int) < (N'.size : Int)) = false) (q3 : decide ((50 : Int) < (M.size : Int)) = false) (q4 : decide ((50 : Int) < (M'.size : Int)) = false) (s1 : N.size ≤ 50) (s2 : N'.size ≤ 50) (s3 : M.size ≤ 50) (s4 : M'.size ≤ 50) (hr : rightB B N d M = true) (hmk : markedM M = false) :
    Calls Tryd.prog 3 #[.agg #[.int .i64 B, .string N, .int .i64 (d : Int), .string M], .agg #[.int .i64 B', .string N', .int .i64 D', .string M']] w fun e w' => e = .returned (.bool true) ∧ Below w.heap.size w w' := by
  obtain ⟨d', hd', hd4, hm5⟩ := right_bounds hr
  have hm6 : M.size ≤ 5 := by omega
  have TA := Lib.hid (fun w => typeText2_any B N (d : Int) M w (by omega) (by omega))
  have TB := Lib.hid (fun w => typeText2_any B' N' D' M' w (by omega) (by omega))
  have RA := Lib.hid (fun w => refR_any B N (d : Int) M w (by omega))
  have RB := Lib.hid (fun w => refR_any B' N' D' M' w (by omega))
  have RT := Lib.hid (fun w => refT_any B N d M w (by omega) (by omega) hr)
  have PA := Lib.hid (fun w => plain_any B N (d : Int) M w (by omega))
  have BA := Lib.hid (fun w => refB_any B N (d : Int) M w hm6)
  rw [blank_of hmk] at BA
  rw [ttS_yes' hr] at TA
  rw [hr] at RA
  rw [hmk] at PA
  simp only [Bool.not_false] at PA
  have HR := Lib.hid hr
  generalize hxx : typeS B N M = xx at *
  have HX := Lib.hid hxx
  generalize hyy : ttS B' N' D' M' = yy at *
  have HY := Lib.hid hyy
  generalize hrb : rightB B' N' D' M' = rb at *
  have HRB := Lib.hid hrb
  clear hr hmk hxx hyy hrb hd' hd4 hm5 hm6
  have HS := Lib.hid (Ty2S.new w B N (d : Int) M B' N' D' M' 23)
  have HT := Lib.hid hT
  clear hT
  obtain ⟨W0, hW0⟩ : ∃ W0, W0 = (w.alloc (.cells #[.int .i64 B, .string N, .int .i64 (d : Int), .string M] 23)).alloc (.cells #[.int .i64 B', .string N', .int .i64 D', .string M'] 23) := ⟨_, rfl⟩
  rw [← hW0] at HS
  have HW0 := Lib.hid hW0
  clear hW0
  go_enter Tryd.func3, Tryd.ntmps3
  go_wp2_with fail
  rw [← HW0.out]
  clear HW0
  refine (grows_any W0 (HT.out.step HS.out.bel)).mono ?_
  rintro e w1 ⟨rfl, h1⟩
  have S1 := Lib.hid (HS.out.keep h1)
  clear h1 HS
  obtain ⟨c0, c1, c2, c3, d0, d1, d2, d3, -⟩ := S1.out.all
  go_wp2_with fail
  clear c0 c1 c2 c3 d0 d1 d2 d3
  go_region_held3 (fun w' => w'.cell? ⟨w.heap.size, 0, none⟩ = some (.int .i64 B) ∧ w'.cell? ⟨w.heap.size, 1, none⟩ = some (.string N) ∧ w'.cell? ⟨w.heap.size, 2, none⟩ = some (.int .i64 (d : Int)) ∧ w'.cell? ⟨w.heap.size, 3, none⟩ = some (.string M) ∧ w'.cell? ⟨w.heap.size + 1, 0, none⟩ = some (.int .i64 B') ∧ w'.cell? ⟨w.heap.size + 1, 1, none⟩ = some (.string N') ∧ w'.cell? ⟨w.heap.size + 1, 2, none⟩ = some (.int .i64 D') ∧ w'.cell? ⟨w.heap.size + 1, 3, none⟩ = some (.string M') ∧ Ty2S w B N (d : Int) M B' N' D' M' w') (first | exact S1.out.all | exact (Ty2S.keep S1.out (Below.refl _ _).drew).all | exact (Ty2S.keep (by assumption) hb2).all) (first | (go_at_call_of 7 (.agg #[.int .i64 B, .string N, .int .i64 (d : Int), .string M] : Value); go_split_ands; refine (TA.out _).mono ?_; rintro e w2 ⟨rfl, hb2⟩) | (go_at_call_of 7 (.agg #[.int .i64 B', .string N', .int .i64 D', .string M'] : Value); go_split_ands; refine (TB.out _).mono ?_; rintro e w2 ⟨rfl, hb2⟩))
  all_goals go_split_ands
  have S2 := Lib.hid (show Ty2S w B N (d : Int) M B' N' D' M' w2 from by assumption)
  rename_i x0 x1 x2 x3 x4 x5 x6 x7 x8 x9 x10 x11 x12 x13 x14 x15 x16 x17 x18 x19 x20 x21 x22 x23 x24 x25 x26 x27 x28
  clear hb2 x0 x1 x2 x3 x4 x5 x6 x7 x8 x9 x10 x11 x12 x13 x14 x15 x16 x17 x18 x19 x20 x21 x22 x23 x24 x25 x26 x27 x28
  obtain ⟨c0, c1, c2, c3, d0, d1, d2, d3, -⟩ := S2.out.all
  go_wp2_with fail
  clear c0 c1 c2 c3 d0 d1 d2 d3
  refine (RA.out _).mono ?_
  rintro e w3 ⟨rfl, h3⟩
  have S3a := Lib.hid (S2.out.keep h3)
  clear h3
  obtain ⟨c0, c1, c2, c3, d0, d1, d2, d3, -⟩ := S3a.out.all
  go_wp2_with fail
  refine (RT.out _).mono ?_
  rintro e w3b ⟨rfl, h3⟩
  have S3 := Lib.hid (S3a.out.keep h3)
  clear h3 c0 c1 c2 c3 d0 d1 d2 d3
  obtain ⟨c0, c1, c2, c3, d0, d1, d2, d3, -⟩ := S3.out.all
  go_wp2_with fail
  clear c0 c1 c2 c3 d0 d1 d2 d3
  refine wp_region_held_drew (S := (fun w' => w'.cell? ⟨w.heap.size, 0, none⟩ = some (.int .i64 B) ∧ w'.cell? ⟨w.heap.size, 1, none⟩ = some (.string N) ∧ w'.cell? ⟨w.heap.size, 2, none⟩ = some (.int .i64 (d : Int)) ∧ w'.cell? ⟨w.heap.size, 3, none⟩ = some (.string M) ∧ w'.cell? ⟨w.heap.size + 1, 0, none⟩ = some (.int .i64 B') ∧ w'.cell? ⟨w.heap.size + 1, 1, none⟩ = some (.string N') ∧ w'.cell? ⟨w.heap.size + 1, 2, none⟩ = some (.int .i64 D') ∧ w'.cell? ⟨w.heap.size + 1, 3, none⟩ = some (.string M') ∧ Ty2S w B N (d : Int) M B' N' D' M' w')) (by kernel_rfl) ((Ty2S.drew S3.out).all) (fun hHeld => ?_)
  (refine wpAnyH_take (i := 0) (v := ?vv0) rfl (by kernel_rfl) (by kernel_rfl) (by kernel_rfl) (fun _ _ _ h => h) (Or.inl ⟨by rfl, ?hy0⟩) (by assumption) ?rest0; case hy0 => (intro w hSw; (try dsimp only at hSw); go_simp; try with_reducible rfl))
  (try simp only [List.getElem_toArray, List.getElem_cons_zero, List.getElem_cons_succ, Act.put, List.setIfInBounds_toArray, List.set_cons_zero, List.set_cons_succ])
  (refine wpAnyH_take (i := 2) (v := ?vv1) rfl (by kernel_rfl) (by kernel_rfl) (by kernel_rfl) (fun _ _ _ h => h) (Or.inl ⟨by rfl, ?hy1⟩) (by assumption) ?rest1; case hy1 => (intro w hSw; (try dsimp only at hSw); go_simp; try with_reducible rfl))
  (try simp only [List.getElem_toArray, List.getElem_cons_zero, List.getElem_cons_succ, Act.put, List.setIfInBounds_toArray, List.set_cons_zero, List.set_cons_succ])
  (refine wpAnyH_ready (rs := [1]) (by kernel_rfl) (List.cons_ne_nil _ _) ?_; refine AllReadyH.cons rfl (fun K hK => ?_) AllReadyH.nil; go_simp; go_split_ands; refine (PA.out _).mono ?_; rintro e wz ⟨rfl, hb2⟩; (try go_wp2_with fail); refine hK.out _ _ ?hS2 (fun hHeld2 => ?rest2); (case hS2 => (exact (Ty2S.keep (by assumption) hb2).all)); clear hK K; (try simp only [List.getElem_toArray, List.getElem_cons_zero, List.getElem_cons_succ, Act.put, List.setIfInBounds_toArray, List.set_cons_zero, List.set_cons_succ]))
  (refine wpAnyH_ready (rs := [3]) (by kernel_rfl) (List.cons_ne_nil _ _) ?_; refine AllReadyH.cons rfl (fun K hK => ?_) AllReadyH.nil; go_simp; go_split_ands; refine (RA.out _).mono ?_; rintro e wz ⟨rfl, hb2⟩; (try go_wp2_with fail); refine hK.out _ _ ?hS3 (fun hHeld2 => ?rest3); (case hS3 => (exact (Ty2S.keep (by assumption) hb2).all)); clear hK K; (try simp only [List.getElem_toArray, List.getElem_cons_zero, List.getElem_cons_succ, Act.put, List.setIfInBounds_toArray, List.set_cons_zero, List.set_cons_succ]))
  (refine wpAnyH_take (i := 4) (v := ?vv4) rfl (by kernel_rfl) (by kernel_rfl) (by kernel_rfl) (fun _ _ _ h => h) (Or.inl ⟨by rfl, ?hy4⟩) (by assumption) ?rest4; case hy4 => (intro w hSw; (try dsimp only at hSw); go_simp; try with_reducible rfl))
  (try simp only [List.getElem_toArray, List.getElem_cons_zero, List.getElem_cons_succ, Act.put, List.setIfInBounds_toArray, List.set_cons_zero, List.set_cons_succ])
  first | (refine wpAnyH_take (i := 5) (v := undef) rfl (by kernel_rfl) (by kernel_rfl) (by kernel_rfl) (fun _ _ _ h => h) (Or.inr ⟨by rfl, rfl⟩) (by assumption) ?_) | (refine wpAnyH_take (i := 5) (v := ?vv5) rfl (by kernel_rfl) (by kernel_rfl) (by kernel_rfl) (fun _ _ _ h => h) (Or.inl ⟨by rfl, ?hy5⟩) (by assumption) ?rest5; case hy5 => (intro w hSw; (try dsimp only at hSw); go_simp; try with_reducible rfl))
  (try simp only [List.getElem_toArray, List.getElem_cons_zero, List.getElem_cons_succ, Act.put, List.setIfInBounds_toArray, List.set_cons_zero, List.set_cons_succ])
  first | (refine wpAnyH_take (i := 6) (v := undef) rfl (by kernel_rfl) (by kernel_rfl) (by kernel_rfl) (fun _ _ _ h => h) (Or.inr ⟨by rfl, rfl⟩) (by assumption) ?_) | (refine wpAnyH_take (i := 6) (v := ?vv6) rfl (by kernel_rfl) (by kernel_rfl) (by kernel_rfl) (fun _ _ _ h => h) (Or.inl ⟨by rfl, ?hy6⟩) (by assumption) ?rest6; case hy6 => (intro w hSw; (try dsimp only at hSw); go_simp; try with_reducible rfl))
  (try simp only [List.getElem_toArray, List.getElem_cons_zero, List.getElem_cons_succ, Act.put, List.setIfInBounds_toArray, List.set_cons_zero, List.set_cons_succ])
  first
    | (refine wpAnyH_take (i := 7) (v := undef) rfl (by kernel_rfl) (by kernel_rfl) (by kernel_rfl) (fun _ _ _ h => h) (Or.inr ⟨by rfl, rfl⟩) (by assumption) ?_; (try simp only [List.getElem_toArray, List.getElem_cons_zero, List.getElem_cons_succ, Act.put, List.setIfInBounds_toArray, List.set_cons_zero, List.set_cons_succ]))
    | (refine wpAnyH_ready (rs := [7]) (by kernel_rfl) (List.cons_ne_nil _ _) ?_; refine AllReadyH.cons rfl (fun K hK => ?_) AllReadyH.nil; go_simp; go_split_ands; refine (BA.out _).mono ?_; rintro e wz ⟨rfl, hb2⟩; (try go_wp2_with fail); refine hK.out _ _ ?hS7 (fun hHeld2 => ?rest7); (case hS7 => (exact (Ty2S.keep (by assumption) hb2).all)); clear hK K; (try simp only [List.getElem_toArray, List.getElem_cons_zero, List.getElem_cons_succ, Act.put, List.setIfInBounds_toArray, List.set_cons_zero, List.set_cons_succ]))
  first | (refine wpAnyH_take (i := 8) (v := undef) rfl (by kernel_rfl) (by kernel_rfl) (by kernel_rfl) (fun _ _ _ h => h) (Or.inr ⟨by rfl, rfl⟩) (by assumption) ?_) | (refine wpAnyH_take (i := 8) (v := ?vv8) rfl (by kernel_rfl) (by kernel_rfl) (by kernel_rfl) (fun _ _ _ h => h) (Or.inl ⟨by rfl, ?hy8⟩) (by assumption) ?rest8; case hy8 => (intro w hSw; (try dsimp only at hSw); go_simp; try with_reducible rfl))
  (try simp only [List.getElem_toArray, List.getElem_cons_zero, List.getElem_cons_succ, Act.put, List.setIfInBounds_toArray, List.set_cons_zero, List.set_cons_succ])
  (refine wpAnyH_take (i := 9) (v := ?vv9) rfl (by kernel_rfl) (by kernel_rfl) (by kernel_rfl) (fun _ _ _ h => h) (Or.inl ⟨by rfl, ?hy9⟩) (by assumption) ?rest9; case hy9 => (intro w hSw; (try dsimp only at hSw); go_simp; try with_reducible rfl))
  (try simp only [List.getElem_toArray, List.getElem_cons_zero, List.getElem_cons_succ, Act.put, List.setIfInBounds_toArray, List.set_cons_zero, List.set_cons_succ])
  (refine wpAnyH_take (i := 10) (v := ?vv10) rfl (by kernel_rfl) (by kernel_rfl) (by kernel_rfl) (fun _ _ _ h => h) (Or.inl ⟨by rfl, ?hy10⟩) (by assumption) ?rest10; case hy10 => (intro w hSw; (try dsimp only at hSw); go_simp; try with_reducible rfl))
  (try simp only [List.getElem_toArray, List.getElem_cons_zero, List.getElem_cons_succ, Act.put, List.setIfInBounds_toArray, List.set_cons_zero, List.set_cons_succ])
  (refine wpAnyH_take (i := 11) (v := ?vv11) rfl (by kernel_rfl) (by kernel_rfl) (by kernel_rfl) (fun _ _ _ h => h) (Or.inl ⟨by rfl, ?hy11⟩) (by assumption) ?rest11; case hy11 => (intro w hSw; (try dsimp only at hSw); go_simp; try with_reducible rfl))
  (try simp only [List.getElem_toArray, List.getElem_cons_zero, List.getElem_cons_succ, Act.put, List.setIfInBounds_toArray, List.set_cons_zero, List.set_cons_succ])
  first | (refine wpAnyH_take (i := 12) (v := undef) rfl (by kernel_rfl) (by kernel_rfl) (by kernel_rfl) (fun _ _ _ h => h) (Or.inr ⟨by rfl, rfl⟩) (by assumption) ?_) | (refine wpAnyH_take (i := 12) (v := ?vv12) rfl (by kernel_rfl) (by kernel_rfl) (by kernel_rfl) (fun _ _ _ h => h) (Or.inl ⟨by rfl, ?hy12⟩) (by assumption) ?rest12; case hy12 => (intro w hSw; (try dsimp only at hSw); go_simp; try with_reducible rfl))
  (try simp only [List.getElem_toArray, List.getElem_cons_zero, List.getElem_cons_succ, Act.put, List.setIfInBounds_toArray, List.set_cons_zero, List.set_cons_succ])
  (refine wpAnyH_take (i := 13) (v := ?vv13) rfl (by kernel_rfl) (by kernel_rfl) (by kernel_rfl) (fun _ _ _ h => h) (Or.inl ⟨by rfl, ?hy13⟩) (by assumption) ?rest13; case hy13 => (intro w hSw; (try dsimp only at hSw); go_simp; try with_reducible rfl))
  (try simp only [List.getElem_toArray, List.getElem_cons_zero, List.getElem_cons_succ, Act.put, List.setIfInBounds_toArray, List.set_cons_zero, List.set_cons_succ])
  refine wpAnyH_done (by kernel_rfl) ?_ _
  go_split_ands
  have S5 := Lib.hid (show Ty2S w B N (d : Int) M B' N' D' M' _ from by assumption)
  clear RA PA TA TB RT BA S3 S3a S2 S1
  go_wp2_with fail
  go_loopw [74] (fun a wr => ∃ i : Nat, i ≤ 2 ∧ a = .int .i64 i ∧ (0 < i → greatN N) ∧ (1 < i → greatN N') ∧ Ty2S w B N (d : Int) M B' N' D' M' wr) (fun a _ => 2 - (intOf a).toNat)
  case atStart => exact ⟨0, by omega, rfl, fun h => absurd h (by omega), fun h => absurd h (by omega), S5.out⟩
  case round =>
    obtain ⟨i, hi, rfl, g0, g1, s6⟩ := hrel
    have S6 := Lib.hid s6
    have G0 := Lib.hid g0
    have G1 := Lib.hid g1
    obtain ⟨c0, c1, c2, c3, d0, d1, d2, d3, -⟩ := s6.all
    clear g0 g1 s6
    have hi3 : i = 0 ∨ i = 1 ∨ i = 2 := by omega
    rcases hi3 with hi0 | hi0 | hi0
    · subst hi0
      have ix0 := index_0 B (d : Int) B' D' N M N' M'
      have ix1 := index_1 B (d : Int) B' D' N M N' M'
      go_wp2_with fail
      go_loopw [80] (fun a wr2 => ∃ k : Nat, k ≤ N.size ∧ a = .int .i64 k ∧ (∀ j, j < k → 65 ≤ byS N j ∧ byS N j ≤ 90) ∧ wr2 = wr.alloc (.cells #[.int .i64 B, .string N, .int .i64 (d : Int), .string M] 23)) (fun a _ => N.size - (intOf a).toNat)
      case atStart => exact ⟨0, Nat.zero_le _, rfl, fun j hj => absurd hj (by omega), rfl⟩
      case round =>
        obtain ⟨k, hk, rfl, hall, rfl⟩ := hrel
        have HALL := Lib.hid hall
        clear hall
        by_cases hlt : k < N.size
        · have C := Lib.hid (byS_get N k hlt)
          by_cases h65 : 65 ≤ N[k].toNat
          · have r1 : decide ((65 : Int) ≤ (N[k].toNat : Int)) = true := decide_eq_true (by omega)
            by_cases h90 : N[k].toNat ≤ 90
            · have r2 : decide ((N[k].toNat : Int) ≤ 90) = true := decide_eq_true (by omega)
              have HN1 : Hid (∀ j, j < k + 1 → 65 ≤ byS N j ∧ byS N j ≤ 90) := Lib.hid (fun j hj => by
                by_cases hjk : j < k
                · exact HALL.out j hjk
                · obtain rfl : j = k := by omega
                  rw [C.out]; exact ⟨h65, h90⟩)
              clear h65 h90
              go_wp2_with fail
              exact ⟨⟨k + 1, by omega, by go_num, HN1.out, by trivial⟩, by simp [intOf]; omega⟩
            · have r2 : decide ((N[k].toNat : Int) ≤ 90) = false := decide_eq_false (by omega)
              clear h65 h90
              go_wp2_with fail
              go_ret
              exact ⟨rfl, (S6.out.keep ((Below.refl _ _).alloc (Nat.le_refl _) _)).bel⟩
          · have r1 : decide ((65 : Int) ≤ (N[k].toNat : Int)) = false := decide_eq_false (by omega)
            clear h65
            go_wp2_with fail
            go_ret
            exact ⟨rfl, (S6.out.keep ((Below.refl _ _).alloc (Nat.le_refl _) _)).bel⟩
        · have hkN : k = N.size := by omega
          have HGR : Hid (greatN N) := Lib.hid (great_of (by rw [← hkN]; exact HALL.out))
          subst hkN
          clear HALL
          go_wp2_with fail
          exact ⟨⟨1, by omega, rfl, fun _ => HGR.out, fun h => absurd h (by omega), S6.out.keep ((Below.refl _ _).alloc (Nat.le_refl _) _)⟩, by simp [intOf]⟩
    · subst hi0
      have ix0 := index_0 B (d : Int) B' D' N M N' M'
      have ix1 := index_1 B (d : Int) B' D' N M N' M'
      go_wp2_with fail
      go_loopw [80] (fun a wr2 => ∃ k : Nat, k ≤ N'.size ∧ a = .int .i64 k ∧ (∀ j, j < k → 65 ≤ byS N' j ∧ byS N' j ≤ 90) ∧ wr2 = wr.alloc (.cells #[.int .i64 B', .string N', .int .i64 D', .string M'] 23)) (fun a _ => N'.size - (intOf a).toNat)
      case atStart => exact ⟨0, Nat.zero_le _, rfl, fun j hj => absurd hj (by omega), rfl⟩
      case round =>
        obtain ⟨k, hk, rfl, hall, rfl⟩ := hrel
        have HALL := Lib.hid hall
        clear hall
        by_cases hlt : k < N'.size
        · have C := Lib.hid (byS_get N' k hlt)
          by_cases h65 : 65 ≤ N'[k].toNat
          · have r1 : decide ((65 : Int) ≤ (N'[k].toNat : Int)) = true := decide_eq_true (by omega)
            by_cases h90 : N'[k].toNat ≤ 90
            · have r2 : decide ((N'[k].toNat : Int) ≤ 90) = true := decide_eq_true (by omega)
              have HN1 : Hid (∀ j, j < k + 1 → 65 ≤ byS N' j ∧ byS N' j ≤ 90) := Lib.hid (fun j hj => by
                by_cases hjk : j < k
                · exact HALL.out j hjk
                · obtain rfl : j = k := by omega
                  rw [C.out]; exact ⟨h65, h90⟩)
              clear h65 h90
              go_wp2_with fail
              exact ⟨⟨k + 1, by omega, by go_num, HN1.out, by trivial⟩, by simp [intOf]; omega⟩
            · have r2 : decide ((N'[k].toNat : Int) ≤ 90) = false := decide_eq_false (by omega)
              clear h65 h90
              go_wp2_with fail
              go_ret
              exact ⟨rfl, (S6.out.keep ((Below.refl _ _).alloc (Nat.le_refl _) _)).bel⟩
          · have r1 : decide ((65 : Int) ≤ (N'[k].toNat : Int)) = false := decide_eq_false (by omega)
            clear h65
            go_wp2_with fail
            go_ret
            exact ⟨rfl, (S6.out.keep ((Below.refl _ _).alloc (Nat.le_refl _) _)).bel⟩
        · have hkN : k = N'.size := by omega
          have HGR : Hid (greatN N') := Lib.hid (great_of (by rw [← hkN]; exact HALL.out))
          subst hkN
          clear HALL
          go_wp2_with fail
          exact ⟨⟨2, by omega, rfl, fun _ => G0.out (by omega), fun _ => HGR.out, S6.out.keep ((Below.refl _ _).alloc (Nat.le_refl _) _)⟩, by simp [intOf]⟩
    · subst hi0
      have ix0 := index_0 B (d : Int) B' D' N M N' M'
      have ix1 := index_1 B (d : Int) B' D' N M N' M'
      have gr0 := G0.out (by omega)
      have gr1 := G1.out (by omega)
      go_wp2_with fail
      refine (RB.out _).mono ?_
      rintro e w9 ⟨rfl, h9⟩
      have S9 := Lib.hid (S6.out.keep h9)
      clear h9 c0 c1 c2 c3 d0 d1 d2 d3
      obtain ⟨c0, c1, c2, c3, d0, d1, d2, d3, -⟩ := S9.out.all
      cases rb
      · go_wp2_with fail
        go_ret
        exact ⟨rfl, S9.out.bel⟩
      · have HYY : Hid (yy = typeS B' N' M') := Lib.hid (by rw [← HY.out]; exact ttS_yes' HRB.out)
        have HJ : Hid (xx.toList = yy.toList → B = B' ∧ N = N' ∧ (d : Int) = D' ∧ M = M') := Lib.hid (fun h => type_inj HR.out HRB.out (fun _ => gr0) (fun _ => gr1) (by rw [HX.out, ← HYY.out]; exact list_eq (by rw [← ByteArray.toList_eq, ← ByteArray.toList_eq]; exact h)))
        clear gr0 gr1
        by_cases e1 : B = B'
        · by_cases e2 : N.toList = N'.toList
          · by_cases e3 : (d : Int) = D'
            · by_cases e4 : M.toList = M'.toList
              · obtain rfl : N = N' := list_eq (by rw [← ByteArray.toList_eq, ← ByteArray.toList_eq]; exact e2)
                obtain rfl : M = M' := list_eq (by rw [← ByteArray.toList_eq, ← ByteArray.toList_eq]; exact e4)
                subst e1 e3
                obtain rfl : xx = yy := by rw [← HX.out, HYY.out]
                clear e2 e4
                go_wp2_with fail
                go_ret
                exact ⟨rfl, S9.out.bel⟩
              · have hxy : ¬ xx.toList = yy.toList := fun h => e4 (by rw [(HJ.out h).2.2.2])
                obtain rfl : N = N' := list_eq (by rw [← ByteArray.toList_eq, ← ByteArray.toList_eq]; exact e2)
                subst e1 e3
                clear e2
                go_wp2_with fail
                go_ret
                exact ⟨ret_bo (x := !(xx.toList == yy.toList)) (by simp [hxy]), S9.out.bel⟩
            · have hxy : ¬ xx.toList = yy.toList := fun h => e3 (HJ.out h).2.2.1
              obtain rfl : N = N' := list_eq (by rw [← ByteArray.toList_eq, ← ByteArray.toList_eq]; exact e2)
              subst e1
              clear e2
              go_wp2_with fail
              go_ret
              exact ⟨ret_bo (x := !(xx.toList == yy.toList)) (by simp [hxy]), S9.out.bel⟩
          · have hxy : ¬ xx.toList = yy.toList := fun h => e2 (by rw [(HJ.out h).2.1])
            subst e1
            go_wp2_with fail
            go_ret
            exact ⟨ret_bo (x := !(xx.toList == yy.toList)) (by simp [hxy]), S9.out.bel⟩
        · have hxy : ¬ xx.toList = yy.toList := fun h => e1 (HJ.out h).1
          go_wp2_with fail
          go_ret
          exact ⟨ret_bo (x := !(xx.toList == yy.toList)) (by simp [hxy]), S9.out.bel⟩
set_option maxHeartbeats 8000000 in
set_option maxRecDepth 100000 in
theorem types_yes_true (B B' D' : Int) (d : Nat) (N M N' M' : ByteArray) (w : World) (hT : Tabs w) (q1 : decide ((50 : Int) < (N.size : Int)) = false) (q2 : decide ((50 : Int) < (N'.size : Int)) = false) (q3 : decide ((50 : Int) < (M.size : Int)) = false) (q4 : decide ((50 : Int) < (M'.size : Int)) = false) (s1 : N.size ≤ 50) (s2 : N'.size ≤ 50) (s3 : M.size ≤ 50) (s4 : M'.size ≤ 50) (hr : rightB B N d M = true) (hmk : markedM M = true) :
    Calls Tryd.prog 3 #[.agg #[.int .i64 B, .string N, .int .i64 (d : Int), .string M], .agg #[.int .i64 B', .string N', .int .i64 D', .string M']] w fun e w' => e = .returned (.bool true) ∧ Below w.heap.size w w' := by
  obtain ⟨d', hd', hd4, hm5⟩ := right_bounds hr
  have hm6 : M.size ≤ 5 := by omega
  have TA := Lib.hid (fun w => typeText2_any B N (d : Int) M w (by omega) (by omega))
  have TB := Lib.hid (fun w => typeText2_any B' N' D' M' w (by omega) (by omega))
  have RA := Lib.hid (fun w => refR_any B N (d : Int) M w (by omega))
  have RB := Lib.hid (fun w => refR_any B' N' D' M' w (by omega))
  have RT := Lib.hid (fun w => refT_any B N d M w (by omega) (by omega) hr)
  have PA := Lib.hid (fun w => plain_any B N (d : Int) M w (by omega))
  have BA := Lib.hid (fun w => refB_any B N (d : Int) M w hm6)
  have hne : ¬ M.toList = (blankT M.size).toList := fun h => by
    have e : M = blankT M.size := list_eq (by rw [← ByteArray.toList_eq, ← ByteArray.toList_eq]; exact h)
    rw [e, blank_plain] at hmk
    cases hmk
  generalize blankT M.size = mb at *
  rw [ttS_yes' hr] at TA
  rw [hr] at RA
  rw [hmk] at PA
  simp only [Bool.not_true] at PA
  have HR := Lib.hid hr
  generalize hxx : typeS B N M = xx at *
  have HX := Lib.hid hxx
  generalize hyy : ttS B' N' D' M' = yy at *
  have HY := Lib.hid hyy
  generalize hrb : rightB B' N' D' M' = rb at *
  have HRB := Lib.hid hrb
  clear hr hmk hxx hyy hrb hd' hd4 hm5 hm6
  have HS := Lib.hid (Ty2S.new w B N (d : Int) M B' N' D' M' 23)
  have HT := Lib.hid hT
  clear hT
  obtain ⟨W0, hW0⟩ : ∃ W0, W0 = (w.alloc (.cells #[.int .i64 B, .string N, .int .i64 (d : Int), .string M] 23)).alloc (.cells #[.int .i64 B', .string N', .int .i64 D', .string M'] 23) := ⟨_, rfl⟩
  rw [← hW0] at HS
  have HW0 := Lib.hid hW0
  clear hW0
  go_enter Tryd.func3, Tryd.ntmps3
  go_wp2_with fail
  rw [← HW0.out]
  clear HW0
  refine (grows_any W0 (HT.out.step HS.out.bel)).mono ?_
  rintro e w1 ⟨rfl, h1⟩
  have S1 := Lib.hid (HS.out.keep h1)
  clear h1 HS
  obtain ⟨c0, c1, c2, c3, d0, d1, d2, d3, -⟩ := S1.out.all
  go_wp2_with fail
  clear c0 c1 c2 c3 d0 d1 d2 d3
  go_region_held3 (fun w' => w'.cell? ⟨w.heap.size, 0, none⟩ = some (.int .i64 B) ∧ w'.cell? ⟨w.heap.size, 1, none⟩ = some (.string N) ∧ w'.cell? ⟨w.heap.size, 2, none⟩ = some (.int .i64 (d : Int)) ∧ w'.cell? ⟨w.heap.size, 3, none⟩ = some (.string M) ∧ w'.cell? ⟨w.heap.size + 1, 0, none⟩ = some (.int .i64 B') ∧ w'.cell? ⟨w.heap.size + 1, 1, none⟩ = some (.string N') ∧ w'.cell? ⟨w.heap.size + 1, 2, none⟩ = some (.int .i64 D') ∧ w'.cell? ⟨w.heap.size + 1, 3, none⟩ = some (.string M') ∧ Ty2S w B N (d : Int) M B' N' D' M' w') (first | exact S1.out.all | exact (Ty2S.keep S1.out (Below.refl _ _).drew).all | exact (Ty2S.keep (by assumption) hb2).all) (first | (go_at_call_of 7 (.agg #[.int .i64 B, .string N, .int .i64 (d : Int), .string M] : Value); go_split_ands; refine (TA.out _).mono ?_; rintro e w2 ⟨rfl, hb2⟩) | (go_at_call_of 7 (.agg #[.int .i64 B', .string N', .int .i64 D', .string M'] : Value); go_split_ands; refine (TB.out _).mono ?_; rintro e w2 ⟨rfl, hb2⟩))
  all_goals go_split_ands
  have S2 := Lib.hid (show Ty2S w B N (d : Int) M B' N' D' M' w2 from by assumption)
  rename_i x0 x1 x2 x3 x4 x5 x6 x7 x8 x9 x10 x11 x12 x13 x14 x15 x16 x17 x18 x19 x20 x21 x22 x23 x24 x25 x26 x27 x28
  clear hb2 x0 x1 x2 x3 x4 x5 x6 x7 x8 x9 x10 x11 x12 x13 x14 x15 x16 x17 x18 x19 x20 x21 x22 x23 x24 x25 x26 x27 x28
  obtain ⟨c0, c1, c2, c3, d0, d1, d2, d3, -⟩ := S2.out.all
  go_wp2_with fail
  clear c0 c1 c2 c3 d0 d1 d2 d3
  refine (RA.out _).mono ?_
  rintro e w3 ⟨rfl, h3⟩
  have S3a := Lib.hid (S2.out.keep h3)
  clear h3
  obtain ⟨c0, c1, c2, c3, d0, d1, d2, d3, -⟩ := S3a.out.all
  go_wp2_with fail
  refine (RT.out _).mono ?_
  rintro e w3b ⟨rfl, h3⟩
  have S3 := Lib.hid (S3a.out.keep h3)
  clear h3 c0 c1 c2 c3 d0 d1 d2 d3
  obtain ⟨c0, c1, c2, c3, d0, d1, d2, d3, -⟩ := S3.out.all
  go_wp2_with fail
  clear c0 c1 c2 c3 d0 d1 d2 d3
  refine wp_region_held_drew (S := (fun w' => w'.cell? ⟨w.heap.size, 0, none⟩ = some (.int .i64 B) ∧ w'.cell? ⟨w.heap.size, 1, none⟩ = some (.string N) ∧ w'.cell? ⟨w.heap.size, 2, none⟩ = some (.int .i64 (d : Int)) ∧ w'.cell? ⟨w.heap.size, 3, none⟩ = some (.string M) ∧ w'.cell? ⟨w.heap.size + 1, 0, none⟩ = some (.int .i64 B') ∧ w'.cell? ⟨w.heap.size + 1, 1, none⟩ = some (.string N') ∧ w'.cell? ⟨w.heap.size + 1, 2, none⟩ = some (.int .i64 D') ∧ w'.cell? ⟨w.heap.size + 1, 3, none⟩ = some (.string M') ∧ Ty2S w B N (d : Int) M B' N' D' M' w')) (by kernel_rfl) ((Ty2S.drew S3.out).all) (fun hHeld => ?_)
  (refine wpAnyH_take (i := 0) (v := ?vv0) rfl (by kernel_rfl) (by kernel_rfl) (by kernel_rfl) (fun _ _ _ h => h) (Or.inl ⟨by rfl, ?hy0⟩) (by assumption) ?rest0; case hy0 => (intro w hSw; (try dsimp only at hSw); go_simp; try with_reducible rfl))
  (try simp only [List.getElem_toArray, List.getElem_cons_zero, List.getElem_cons_succ, Act.put, List.setIfInBounds_toArray, List.set_cons_zero, List.set_cons_succ])
  (refine wpAnyH_take (i := 2) (v := ?vv1) rfl (by kernel_rfl) (by kernel_rfl) (by kernel_rfl) (fun _ _ _ h => h) (Or.inl ⟨by rfl, ?hy1⟩) (by assumption) ?rest1; case hy1 => (intro w hSw; (try dsimp only at hSw); go_simp; try with_reducible rfl))
  (try simp only [List.getElem_toArray, List.getElem_cons_zero, List.getElem_cons_succ, Act.put, List.setIfInBounds_toArray, List.set_cons_zero, List.set_cons_succ])
  (refine wpAnyH_ready (rs := [1]) (by kernel_rfl) (List.cons_ne_nil _ _) ?_; refine AllReadyH.cons rfl (fun K hK => ?_) AllReadyH.nil; go_simp; go_split_ands; refine (PA.out _).mono ?_; rintro e wz ⟨rfl, hb2⟩; (try go_wp2_with fail); refine hK.out _ _ ?hS2 (fun hHeld2 => ?rest2); (case hS2 => (exact (Ty2S.keep (by assumption) hb2).all)); clear hK K; (try simp only [List.getElem_toArray, List.getElem_cons_zero, List.getElem_cons_succ, Act.put, List.setIfInBounds_toArray, List.set_cons_zero, List.set_cons_succ]))
  (refine wpAnyH_ready (rs := [3]) (by kernel_rfl) (List.cons_ne_nil _ _) ?_; refine AllReadyH.cons rfl (fun K hK => ?_) AllReadyH.nil; go_simp; go_split_ands; refine (RA.out _).mono ?_; rintro e wz ⟨rfl, hb2⟩; (try go_wp2_with fail); refine hK.out _ _ ?hS3 (fun hHeld2 => ?rest3); (case hS3 => (exact (Ty2S.keep (by assumption) hb2).all)); clear hK K; (try simp only [List.getElem_toArray, List.getElem_cons_zero, List.getElem_cons_succ, Act.put, List.setIfInBounds_toArray, List.set_cons_zero, List.set_cons_succ]))
  (refine wpAnyH_take (i := 4) (v := ?vv4) rfl (by kernel_rfl) (by kernel_rfl) (by kernel_rfl) (fun _ _ _ h => h) (Or.inl ⟨by rfl, ?hy4⟩) (by assumption) ?rest4; case hy4 => (intro w hSw; (try dsimp only at hSw); go_simp; try with_reducible rfl))
  (try simp only [List.getElem_toArray, List.getElem_cons_zero, List.getElem_cons_succ, Act.put, List.setIfInBounds_toArray, List.set_cons_zero, List.set_cons_succ])
  first | (refine wpAnyH_take (i := 5) (v := undef) rfl (by kernel_rfl) (by kernel_rfl) (by kernel_rfl) (fun _ _ _ h => h) (Or.inr ⟨by rfl, rfl⟩) (by assumption) ?_) | (refine wpAnyH_take (i := 5) (v := ?vv5) rfl (by kernel_rfl) (by kernel_rfl) (by kernel_rfl) (fun _ _ _ h => h) (Or.inl ⟨by rfl, ?hy5⟩) (by assumption) ?rest5; case hy5 => (intro w hSw; (try dsimp only at hSw); go_simp; try with_reducible rfl))
  (try simp only [List.getElem_toArray, List.getElem_cons_zero, List.getElem_cons_succ, Act.put, List.setIfInBounds_toArray, List.set_cons_zero, List.set_cons_succ])
  first | (refine wpAnyH_take (i := 6) (v := undef) rfl (by kernel_rfl) (by kernel_rfl) (by kernel_rfl) (fun _ _ _ h => h) (Or.inr ⟨by rfl, rfl⟩) (by assumption) ?_) | (refine wpAnyH_take (i := 6) (v := ?vv6) rfl (by kernel_rfl) (by kernel_rfl) (by kernel_rfl) (fun _ _ _ h => h) (Or.inl ⟨by rfl, ?hy6⟩) (by assumption) ?rest6; case hy6 => (intro w hSw; (try dsimp only at hSw); go_simp; try with_reducible rfl))
  (try simp only [List.getElem_toArray, List.getElem_cons_zero, List.getElem_cons_succ, Act.put, List.setIfInBounds_toArray, List.set_cons_zero, List.set_cons_succ])
  first
    | (refine wpAnyH_take (i := 7) (v := undef) rfl (by kernel_rfl) (by kernel_rfl) (by kernel_rfl) (fun _ _ _ h => h) (Or.inr ⟨by rfl, rfl⟩) (by assumption) ?_; (try simp only [List.getElem_toArray, List.getElem_cons_zero, List.getElem_cons_succ, Act.put, List.setIfInBounds_toArray, List.set_cons_zero, List.set_cons_succ]))
    | (refine wpAnyH_ready (rs := [7]) (by kernel_rfl) (List.cons_ne_nil _ _) ?_; refine AllReadyH.cons rfl (fun K hK => ?_) AllReadyH.nil; go_simp; go_split_ands; refine (BA.out _).mono ?_; rintro e wz ⟨rfl, hb2⟩; (try go_wp2_with fail); refine hK.out _ _ ?hS7 (fun hHeld2 => ?rest7); (case hS7 => (exact (Ty2S.keep (by assumption) hb2).all)); clear hK K; (try simp only [List.getElem_toArray, List.getElem_cons_zero, List.getElem_cons_succ, Act.put, List.setIfInBounds_toArray, List.set_cons_zero, List.set_cons_succ]))
  first | (refine wpAnyH_take (i := 8) (v := undef) rfl (by kernel_rfl) (by kernel_rfl) (by kernel_rfl) (fun _ _ _ h => h) (Or.inr ⟨by rfl, rfl⟩) (by assumption) ?_) | (refine wpAnyH_take (i := 8) (v := ?vv8) rfl (by kernel_rfl) (by kernel_rfl) (by kernel_rfl) (fun _ _ _ h => h) (Or.inl ⟨by rfl, ?hy8⟩) (by assumption) ?rest8; case hy8 => (intro w hSw; (try dsimp only at hSw); go_simp; try with_reducible rfl))
  (try simp only [List.getElem_toArray, List.getElem_cons_zero, List.getElem_cons_succ, Act.put, List.setIfInBounds_toArray, List.set_cons_zero, List.set_cons_succ])
  (refine wpAnyH_take (i := 9) (v := ?vv9) rfl (by kernel_rfl) (by kernel_rfl) (by kernel_rfl) (fun _ _ _ h => h) (Or.inl ⟨by rfl, ?hy9⟩) (by assumption) ?rest9; case hy9 => (intro w hSw; (try dsimp only at hSw); go_simp; try with_reducible rfl))
  (try simp only [List.getElem_toArray, List.getElem_cons_zero, List.getElem_cons_succ, Act.put, List.setIfInBounds_toArray, List.set_cons_zero, List.set_cons_succ])
  (refine wpAnyH_take (i := 10) (v := ?vv10) rfl (by kernel_rfl) (by kernel_rfl) (by kernel_rfl) (fun _ _ _ h => h) (Or.inl ⟨by rfl, ?hy10⟩) (by assumption) ?rest10; case hy10 => (intro w hSw; (try dsimp only at hSw); go_simp; try with_reducible rfl))
  (try simp only [List.getElem_toArray, List.getElem_cons_zero, List.getElem_cons_succ, Act.put, List.setIfInBounds_toArray, List.set_cons_zero, List.set_cons_succ])
  (refine wpAnyH_take (i := 11) (v := ?vv11) rfl (by kernel_rfl) (by kernel_rfl) (by kernel_rfl) (fun _ _ _ h => h) (Or.inl ⟨by rfl, ?hy11⟩) (by assumption) ?rest11; case hy11 => (intro w hSw; (try dsimp only at hSw); go_simp; try with_reducible rfl))
  (try simp only [List.getElem_toArray, List.getElem_cons_zero, List.getElem_cons_succ, Act.put, List.setIfInBounds_toArray, List.set_cons_zero, List.set_cons_succ])
  first | (refine wpAnyH_take (i := 12) (v := undef) rfl (by kernel_rfl) (by kernel_rfl) (by kernel_rfl) (fun _ _ _ h => h) (Or.inr ⟨by rfl, rfl⟩) (by assumption) ?_) | (refine wpAnyH_take (i := 12) (v := ?vv12) rfl (by kernel_rfl) (by kernel_rfl) (by kernel_rfl) (fun _ _ _ h => h) (Or.inl ⟨by rfl, ?hy12⟩) (by assumption) ?rest12; case hy12 => (intro w hSw; (try dsimp only at hSw); go_simp; try with_reducible rfl))
  (try simp only [List.getElem_toArray, List.getElem_cons_zero, List.getElem_cons_succ, Act.put, List.setIfInBounds_toArray, List.set_cons_zero, List.set_cons_succ])
  (refine wpAnyH_take (i := 13) (v := ?vv13) rfl (by kernel_rfl) (by kernel_rfl) (by kernel_rfl) (fun _ _ _ h => h) (Or.inl ⟨by rfl, ?hy13⟩) (by assumption) ?rest13; case hy13 => (intro w hSw; (try dsimp only at hSw); go_simp; try with_reducible rfl))
  (try simp only [List.getElem_toArray, List.getElem_cons_zero, List.getElem_cons_succ, Act.put, List.setIfInBounds_toArray, List.set_cons_zero, List.set_cons_succ])
  refine wpAnyH_done (by kernel_rfl) ?_ _
  go_split_ands
  have S5 := Lib.hid (show Ty2S w B N (d : Int) M B' N' D' M' _ from by assumption)
  clear RA PA TA TB RT BA S3 S3a S2 S1
  go_wp2_with fail
  go_loopw [74] (fun a wr => ∃ i : Nat, i ≤ 2 ∧ a = .int .i64 i ∧ (0 < i → greatN N) ∧ (1 < i → greatN N') ∧ Ty2S w B N (d : Int) M B' N' D' M' wr) (fun a _ => 2 - (intOf a).toNat)
  case atStart => exact ⟨0, by omega, rfl, fun h => absurd h (by omega), fun h => absurd h (by omega), S5.out⟩
  case round =>
    obtain ⟨i, hi, rfl, g0, g1, s6⟩ := hrel
    have S6 := Lib.hid s6
    have G0 := Lib.hid g0
    have G1 := Lib.hid g1
    obtain ⟨c0, c1, c2, c3, d0, d1, d2, d3, -⟩ := s6.all
    clear g0 g1 s6
    have hi3 : i = 0 ∨ i = 1 ∨ i = 2 := by omega
    rcases hi3 with hi0 | hi0 | hi0
    · subst hi0
      have ix0 := index_0 B (d : Int) B' D' N M N' M'
      have ix1 := index_1 B (d : Int) B' D' N M N' M'
      go_wp2_with fail
      go_loopw [80] (fun a wr2 => ∃ k : Nat, k ≤ N.size ∧ a = .int .i64 k ∧ (∀ j, j < k → 65 ≤ byS N j ∧ byS N j ≤ 90) ∧ wr2 = wr.alloc (.cells #[.int .i64 B, .string N, .int .i64 (d : Int), .string M] 23)) (fun a _ => N.size - (intOf a).toNat)
      case atStart => exact ⟨0, Nat.zero_le _, rfl, fun j hj => absurd hj (by omega), rfl⟩
      case round =>
        obtain ⟨k, hk, rfl, hall, rfl⟩ := hrel
        have HALL := Lib.hid hall
        clear hall
        by_cases hlt : k < N.size
        · have C := Lib.hid (byS_get N k hlt)
          by_cases h65 : 65 ≤ N[k].toNat
          · have r1 : decide ((65 : Int) ≤ (N[k].toNat : Int)) = true := decide_eq_true (by omega)
            by_cases h90 : N[k].toNat ≤ 90
            · have r2 : decide ((N[k].toNat : Int) ≤ 90) = true := decide_eq_true (by omega)
              have HN1 : Hid (∀ j, j < k + 1 → 65 ≤ byS N j ∧ byS N j ≤ 90) := Lib.hid (fun j hj => by
                by_cases hjk : j < k
                · exact HALL.out j hjk
                · obtain rfl : j = k := by omega
                  rw [C.out]; exact ⟨h65, h90⟩)
              clear h65 h90
              go_wp2_with fail
              exact ⟨⟨k + 1, by omega, by go_num, HN1.out, by trivial⟩, by simp [intOf]; omega⟩
            · have r2 : decide ((N[k].toNat : Int) ≤ 90) = false := decide_eq_false (by omega)
              clear h65 h90
              go_wp2_with fail
              go_ret
              exact ⟨rfl, (S6.out.keep ((Below.refl _ _).alloc (Nat.le_refl _) _)).bel⟩
          · have r1 : decide ((65 : Int) ≤ (N[k].toNat : Int)) = false := decide_eq_false (by omega)
            clear h65
            go_wp2_with fail
            go_ret
            exact ⟨rfl, (S6.out.keep ((Below.refl _ _).alloc (Nat.le_refl _) _)).bel⟩
        · have hkN : k = N.size := by omega
          have HGR : Hid (greatN N) := Lib.hid (great_of (by rw [← hkN]; exact HALL.out))
          subst hkN
          clear HALL
          go_wp2_with fail
          exact ⟨⟨1, by omega, rfl, fun _ => HGR.out, fun h => absurd h (by omega), S6.out.keep ((Below.refl _ _).alloc (Nat.le_refl _) _)⟩, by simp [intOf]⟩
    · subst hi0
      have ix0 := index_0 B (d : Int) B' D' N M N' M'
      have ix1 := index_1 B (d : Int) B' D' N M N' M'
      go_wp2_with fail
      go_loopw [80] (fun a wr2 => ∃ k : Nat, k ≤ N'.size ∧ a = .int .i64 k ∧ (∀ j, j < k → 65 ≤ byS N' j ∧ byS N' j ≤ 90) ∧ wr2 = wr.alloc (.cells #[.int .i64 B', .string N', .int .i64 D', .string M'] 23)) (fun a _ => N'.size - (intOf a).toNat)
      case atStart => exact ⟨0, Nat.zero_le _, rfl, fun j hj => absurd hj (by omega), rfl⟩
      case round =>
        obtain ⟨k, hk, rfl, hall, rfl⟩ := hrel
        have HALL := Lib.hid hall
        clear hall
        by_cases hlt : k < N'.size
        · have C := Lib.hid (byS_get N' k hlt)
          by_cases h65 : 65 ≤ N'[k].toNat
          · have r1 : decide ((65 : Int) ≤ (N'[k].toNat : Int)) = true := decide_eq_true (by omega)
            by_cases h90 : N'[k].toNat ≤ 90
            · have r2 : decide ((N'[k].toNat : Int) ≤ 90) = true := decide_eq_true (by omega)
              have HN1 : Hid (∀ j, j < k + 1 → 65 ≤ byS N' j ∧ byS N' j ≤ 90) := Lib.hid (fun j hj => by
                by_cases hjk : j < k
                · exact HALL.out j hjk
                · obtain rfl : j = k := by omega
                  rw [C.out]; exact ⟨h65, h90⟩)
              clear h65 h90
              go_wp2_with fail
              exact ⟨⟨k + 1, by omega, by go_num, HN1.out, by trivial⟩, by simp [intOf]; omega⟩
            · have r2 : decide ((N'[k].toNat : Int) ≤ 90) = false := decide_eq_false (by omega)
              clear h65 h90
              go_wp2_with fail
              go_ret
              exact ⟨rfl, (S6.out.keep ((Below.refl _ _).alloc (Nat.le_refl _) _)).bel⟩
          · have r1 : decide ((65 : Int) ≤ (N'[k].toNat : Int)) = false := decide_eq_false (by omega)
            clear h65
            go_wp2_with fail
            go_ret
            exact ⟨rfl, (S6.out.keep ((Below.refl _ _).alloc (Nat.le_refl _) _)).bel⟩
        · have hkN : k = N'.size := by omega
          have HGR : Hid (greatN N') := Lib.hid (great_of (by rw [← hkN]; exact HALL.out))
          subst hkN
          clear HALL
          go_wp2_with fail
          exact ⟨⟨2, by omega, rfl, fun _ => G0.out (by omega), fun _ => HGR.out, S6.out.keep ((Below.refl _ _).alloc (Nat.le_refl _) _)⟩, by simp [intOf]⟩
    · subst hi0
      have ix0 := index_0 B (d : Int) B' D' N M N' M'
      have ix1 := index_1 B (d : Int) B' D' N M N' M'
      have gr0 := G0.out (by omega)
      have gr1 := G1.out (by omega)
      go_wp2_with fail
      refine (RB.out _).mono ?_
      rintro e w9 ⟨rfl, h9⟩
      have S9 := Lib.hid (S6.out.keep h9)
      clear h9 c0 c1 c2 c3 d0 d1 d2 d3
      obtain ⟨c0, c1, c2, c3, d0, d1, d2, d3, -⟩ := S9.out.all
      cases rb
      · go_wp2_with fail
        go_ret
        exact ⟨rfl, S9.out.bel⟩
      · have HYY : Hid (yy = typeS B' N' M') := Lib.hid (by rw [← HY.out]; exact ttS_yes' HRB.out)
        have HJ : Hid (xx.toList = yy.toList → B = B' ∧ N = N' ∧ (d : Int) = D' ∧ M = M') := Lib.hid (fun h => type_inj HR.out HRB.out (fun _ => gr0) (fun _ => gr1) (by rw [HX.out, ← HYY.out]; exact list_eq (by rw [← ByteArray.toList_eq, ← ByteArray.toList_eq]; exact h)))
        clear gr0 gr1
        by_cases e1 : B = B'
        · by_cases e2 : N.toList = N'.toList
          · by_cases e3 : (d : Int) = D'
            · by_cases e4 : M.toList = M'.toList
              · obtain rfl : N = N' := list_eq (by rw [← ByteArray.toList_eq, ← ByteArray.toList_eq]; exact e2)
                obtain rfl : M = M' := list_eq (by rw [← ByteArray.toList_eq, ← ByteArray.toList_eq]; exact e4)
                subst e1 e3
                obtain rfl : xx = yy := by rw [← HX.out, HYY.out]
                clear e2 e4
                go_wp2_with fail
                go_ret
                exact ⟨rfl, S9.out.bel⟩
              · have hxy : ¬ xx.toList = yy.toList := fun h => e4 (by rw [(HJ.out h).2.2.2])
                obtain rfl : N = N' := list_eq (by rw [← ByteArray.toList_eq, ← ByteArray.toList_eq]; exact e2)
                subst e1 e3
                clear e2
                go_wp2_with fail
                go_ret
                exact ⟨ret_bo (x := !(xx.toList == yy.toList)) (by simp [hxy]), S9.out.bel⟩
            · have hxy : ¬ xx.toList = yy.toList := fun h => e3 (HJ.out h).2.2.1
              obtain rfl : N = N' := list_eq (by rw [← ByteArray.toList_eq, ← ByteArray.toList_eq]; exact e2)
              subst e1
              clear e2
              go_wp2_with fail
              go_ret
              exact ⟨ret_bo (x := !(xx.toList == yy.toList)) (by simp [hxy]), S9.out.bel⟩
          · have hxy : ¬ xx.toList = yy.toList := fun h => e2 (by rw [(HJ.out h).2.1])
            subst e1
            go_wp2_with fail
            go_ret
            exact ⟨ret_bo (x := !(xx.toList == yy.toList)) (by simp [hxy]), S9.out.bel⟩
        · have hxy : ¬ xx.toList = yy.toList := fun h => e1 (HJ.out h).1
          go_wp2_with fail
          go_ret
          exact ⟨ret_bo (x := !(xx.toList == yy.toList)) (by simp [hxy]), S9.out.bel⟩
theorem types_any (B : Int) (N : ByteArray) (D : Int) (M : ByteArray) (sN : N.size ≤ maxLen) (sM : M.size ≤ maxLen) (B' : Int) (N' : ByteArray) (D' : Int) (M' : ByteArray) (sN' : N'.size ≤ maxLen) (sM' : M'.size ≤ maxLen) (w : World) (hT : Tabs w) :
    Calls Tryd.prog 3 #[.agg #[.int .i64 B, .string N, .int .i64 D, .string M], .agg #[.int .i64 B', .string N', .int .i64 D', .string M']] w fun e w' => e = .returned (.bool true) ∧ Below w.heap.size w w' := by
  by_cases s1 : N.size ≤ 50
  · have q1 : decide ((50 : Int) < (N.size : Int)) = false := decide_eq_false (by omega)
    by_cases s2 : N'.size ≤ 50
    · have q2 : decide ((50 : Int) < (N'.size : Int)) = false := decide_eq_false (by omega)
      by_cases s3 : M.size ≤ 50
      · have q3 : decide ((50 : Int) < (M.size : Int)) = false := decide_eq_false (by omega)
        by_cases s4 : M'.size ≤ 50
        · have q4 : decide ((50 : Int) < (M'.size : Int)) = false := decide_eq_false (by omega)
          cases hr : rightB B N D M
          · exact types_no B D B' D' N M N' M' w hT q1 q2 q3 q4 s1 s2 s3 s4 hr
          · obtain ⟨d, rfl, -, -⟩ := right_bounds hr
            cases hmk : markedM M
            · exact types_yes_false B B' D' d N M N' M' w hT q1 q2 q3 q4 s1 s2 s3 s4 hr hmk
            · exact types_yes_true B B' D' d N M N' M' w hT q1 q2 q3 q4 s1 s2 s3 s4 hr hmk
        · exact types_big4 B D B' D' N M N' M' w hT q1 q2 q3 (decide_eq_true (by omega))
      · exact types_big3 B D B' D' N M N' M' w hT q1 q2 (decide_eq_true (by omega))
    · exact types_big2 B D B' D' N M N' M' w hT q1 (decide_eq_true (by omega))
  · exact types_big1 B D B' D' N M N' M' w hT (decide_eq_true (by omega))
end Go.Proofs.YtljojfeiehkpeaaDoor

namespace Go.Proofs.YtljojfeiehkpeaaDoor
open Go.ChangeShapes Go.WideShapes Go.ChangeAt Go.RowKit
open Go.ChangeMaps (open_string shut_string)
set_option linter.unusedVariables false

open Go.Joins Go.Deep in
/-- a type, by value -/
theorem open_type {H : Type} {enc : TypeId × Value → H} {P : Program} {w : World} {base : Nat} {spare : Nat → Bool} {held : Bool} {r : Reach} {b0 : Nat} {t i st : TypeId} {f0 f1 f2 f3 : Field} {v : Value} {d : DataW H} {p : List MemPlace}
    (hs : P.underlying t = some (.struct #[f0, f1, f2, f3])) (hi : P.underlying i = some (.int .i64)) (hst : P.underlying st = some .string) (hone : oneCellFields P #[f0, f1, f2, f3] = true) (hC : P.cellsOf t = 4) (hf0 : f0.type = i) (hf1 : f1.type = st) (hf2 : f2.type = i) (hf3 : f3.type = st)
    (hv : Value.okWide P w r b0 t v) (h : DataW.Trod enc P w base spare held t v d p) :
    ∃ (B : Int) (N : ByteArray) (D : Int) (M : ByteArray), N.size ≤ maxLen ∧ M.size ≤ maxLen ∧ v = .agg #[.int .i64 B, .string N, .int .i64 D, .string M] := by
  obtain ⟨v0, v1, v2, v3, y0, y1, y2, y3, n, rfl, -, -, h0, h1, h2, h3⟩ := open_agg4 hs hone hC hv h
  rw [hf0] at h0
  rw [hf1] at h1
  rw [hf2] at h2
  rw [hf3] at h3
  obtain ⟨B, e0, -, -⟩ := DataW.trod_int hi h0
  obtain ⟨N, e1, -, s1⟩ := DataW.trod_string hst h1
  obtain ⟨D, e2, -, -⟩ := DataW.trod_int hi h2
  obtain ⟨M, e3, -, s3⟩ := DataW.trod_string hst h3
  simp at e0 e1 e2 e3
  subst e0 e1 e2 e3
  exact ⟨B, N, D, M, s1, s3, rfl⟩


theorem typesw_any (B : Int) (N : ByteArray) (D : Int) (M : ByteArray) (sN : N.size ≤ maxLen) (sM : M.size ≤ maxLen) (B' : Int) (N' : ByteArray) (D' : Int) (M' : ByteArray) (sN' : N'.size ≤ maxLen) (sM' : M'.size ≤ maxLen) (w : World) (hT : Tabs w) :
    Calls Tryd.prog 3 #[.agg #[.int .i64 B, .string N, .int .i64 D, .string M], .agg #[.int .i64 B', .string N', .int .i64 D', .string M']] w fun e w' => e = .returned (.bool true) ∧ Below w.heap.size w w' := types_any B N D M sN sM B' N' D' M' sN' sM' w hT

set_option maxRecDepth 100000 in
theorem treeTypes_contract (H : Type) (enc : TypeId × Value → H) (W : World) (base : Nat) (args : Array Value) (ds gs : List (DataW H)) (before : List MemPlace)
    (hval0 : ∀ (j : Nat) t v, Tryd.f3.params[j]? = some t → args[j]? = some v → Value.okWide Tryd.prog W .any base t v)
    (hW : DataW.Whole enc Tryd.prog Tryd.f3.params.toList Rows.treeTypesSpec.vars false W args.toList ds gs before) (hL : laidMetH Tryd.prog Rows.treeTypesRow.laid W) :
    Calls Tryd.prog 3 args W fun e W' => ∃ v, e = .returned v ∧ Rows.treeTypesSpec.post enc Tryd.prog Tryd.f3 false true false false W args v W' := by
  have hval : ∀ (j : Nat) t v, Tryd.f3.params[j]? = some t → args[j]? = some v → Value.okWide Tryd.prog W .any base t v := hval0
  have hW' := hW
  obtain ⟨p, q, hA0, hV, rfl, hfz, hnd⟩ := hW
  have hA : DataW.TrodAll enc Tryd.prog W 0 (fun _ => true) true Tryd.f3.params.toList args.toList ds p := hA0
  rw [Tryd.params3] at hA hval
  obtain ⟨v0, vs0, d0, ds0, p0, q0, hargs, rfl, rfl, h0, r0⟩ := trodAll_cons hA
  obtain ⟨v1, vs1, d1, ds1, p1, q1, rfl, rfl, rfl, h1, r1⟩ := trodAll_cons r0
  obtain ⟨rfl, rfl, rfl⟩ := trodAll_nil r1
  obtain rfl : args = #[v0, v1] := by cases args; simp_all
  obtain ⟨rfl, rfl⟩ := trodVars_none hV
  have k0 := h0
  have lt0 : ∀ x ∈ p0, x.block < W.heap.size := by obtain ⟨m, hm⟩ := k0; exact DataW.trod_lt m _ _ _ hm
  obtain ⟨B0, N0, D0, M0, sN0, sM0, rfl⟩ := open_type Tryd.underlying23 Tryd.underlying3 Tryd.underlying9 (by kernel_rfl) (by kernel_rfl) rfl rfl rfl rfl (hval 0 23 v0 rfl rfl) h0
  have k1 := h1
  have lt1 : ∀ x ∈ p1, x.block < W.heap.size := by obtain ⟨m, hm⟩ := k1; exact DataW.trod_lt m _ _ _ hm
  obtain ⟨B1, N1, D1, M1, sN1, sM1, rfl⟩ := open_type Tryd.underlying23 Tryd.underlying3 Tryd.underlying9 (by kernel_rfl) (by kernel_rfl) rfl rfl rfl rfl (hval 1 23 v1 rfl rfl) h1
  clear hA0 hval0
  refine (typesw_any B0 N0 D0 M0 sN0 sM0 B1 N1 D1 M1 sN1 sM1 W (tabs_of (by rw [MakeChecks.laidMetH_plain _ _ _ (by kernel_rfl)] at hL; exact hL))).mono fun e W' ⟨he, bel⟩ => ?_
  subst he
  exact ⟨_, rfl, _, _, _, [], _, [], hW', trodAll_mk1 (shut_bool Tryd.underlying4 _), (trodAll_cons_mk (Below.trod laidOut (by kernel_rfl) (of_decide_eq_true (by kernel_rfl)) k0 bel lt0) (trodAll_cons_mk (Below.trod laidOut (by kernel_rfl) (of_decide_eq_true (by kernel_rfl)) k1 bel lt1) trodAll_mk0)), rfl, bel.frame _, fun h => by cases h⟩

set_option maxRecDepth 100000 in
theorem treeTypes_lifted (os : Os) (started : os.Started) (H : Type) (enc : TypeId × Value → H) :
    ReturnsInHanded {} Tryd.checked os 3 .any (fun w args => (Rows.treeTypesSpec.pre enc Tryd.prog Tryd.f3 Rows.treeTypesRow.domain false w args ∧ laidMetH Tryd.prog Rows.treeTypesRow.laid w) ∧ sizedMet enc Tryd.prog Tryd.f3 (OpenSpec.ofChange Rows.treeTypesSpec) false w args)
      (Rows.treeTypesSpec.post enc Tryd.prog Tryd.f3 false true false false) := by
  refine returnsInHanded_of_change_and (C := Tryd.checked) (X := fun w _ => laidMetH Tryd.prog Rows.treeTypesRow.laid w) (fun _ _ _ hh h => h.of_heap hh) own started (by kernel_rfl) Tryd.func3
    (ChangeSpec.witness_shaped (enc := enc) (C := Tryd.checked) (os := os) (X := fun w _ => laidMetH Tryd.prog Rows.treeTypesRow.laid w) false (World.laidAll Tryd.prog os laidL) #[.agg #[.int .i64 0, .string ⟨#[]⟩, .int .i64 0, .string ⟨#[]⟩], .agg #[.int .i64 0, .string ⟨#[]⟩, .int .i64 0, .string ⟨#[]⟩]] 8 (World.laidAll_os _ _ _)
      (World.shaped_of_ZipB (by kernel_rfl) (by kernel_rfl)) (by kernel_rfl) (by kernel_rfl) (by kernel_rfl)
      (by rw [MakeChecks.laidMetH_plain _ _ _ (by kernel_rfl)]; exact laidMet_laidAll _ (by kernel_rfl) (by kernel_rfl))) ?_
  intro W base args ds gs before hval hW _ _ hL _
  exact treeTypes_contract H enc W base args ds gs before hval hW hL

theorem treeTypes_said : Rows.TreeTypesSaid :=
  OpenClaim.holds_of_wide 3 Tryd.f3 rfl rfl rfl rfl rfl rfl rfl ⟨rfl, rfl, rfl, rfl, rfl⟩ rfl rfl rfl rfl rfl (by kernel_rfl) Tryd.func3 (by kernel_rfl)
    (of_decide_eq_true (by kernel_rfl)) (by unfold Func.isWrapper; first | (rw [if_pos (by decide +kernel)]; kernel_rfl) | (rw [if_neg (by decide +kernel)]; exact ⟨rfl, rfl⟩))
    (fun os started H enc _ => treeTypes_lifted os started H enc)

theorem treeTypes_plain (f : FuncId) (fn : Func) (hf : Tryd.pinned.checked.prog.funcNamed "caulker/caulkerlaw07.TreeTypes" = some f) (hfn : Tryd.pinned.checked.prog.funcs[f]? = some fn) :
    false = Tryd.pinned.checked.prog.looks [] ∧ ∀ (j : Nat) t, fn.params[j]? = some t → Tryd.pinned.checked.prog.wantsStandIn t = false := by
  obtain rfl : f = 3 := Option.some.inj ((show Tryd.prog.funcNamed "caulker/caulkerlaw07.TreeTypes" = some 3 by kernel_rfl).symm.trans hf) |>.symm
  obtain rfl : fn = Tryd.f3 := (Option.some.inj (Tryd.func3.symm.trans hfn)).symm
  refine ⟨by kernel_rfl, fun j t ht => ?_⟩
  rw [Tryd.params3] at ht
  have hm := Array.mem_of_getElem? ht
  simp only [List.mem_toArray, List.mem_cons, List.not_mem_nil, or_false] at hm
  rcases hm with rfl | rfl
  · exact (show Tryd.prog.wantsStandIn 23 = false by kernel_rfl)
  · exact (show Tryd.prog.wantsStandIn 23 = false by kernel_rfl)

/-- THE CARD. -/
theorem treeTypes_proved : Rows.TreeTypesCardSaid :=
  Claim7.holds_tied_plain_at .later [] _ _ _ _ treeTypes_said (fun _ h => by cases h) (by kernel_rfl) (fun _ h => by cases h) treeTypes_row_tie rfl ⟨rfl, rfl⟩ (by kernel_rfl) rfl treeTypes_plain (by kernel_rfl)
end Go.Proofs.YtljojfeiehkpeaaDoor
