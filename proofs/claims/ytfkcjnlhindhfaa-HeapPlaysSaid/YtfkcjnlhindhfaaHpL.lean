/- Contract of the statements' own example. -/
import Derived.Test.YtfkcjnlhindhfaaHpK
import Derived.Test.YtfkcjnlhindhfaaHpC
import Derived.Deep.RegionHeld3
namespace Go.Proofs.Ytfkcjnlhindhfaa
open Go Go.RowKit
set_option linter.unusedVariables false
set_option linter.unusedSimpArgs false

theorem keeps_class (w W : World) (l : List (Nat × Vl)) (g g' : Nat) (y : Value) (hk : KS w W l [(kA2, g), (kB, g')] 5 y) : Calls Try.prog 14 #[.pointer (some ⟨w.heap.size, 0, none⟩), .agg #[.int .i64 5, .int .i64 0, .string ⟨#[]⟩]] W fun e w' => e = .returned (.tuple #[.string ⟨#[65]⟩, .bool true]) ∧ Below W.heap.size W w' :=
  class_yes w.heap.size w.heap.size 5 [(kA2, g), (kB, g')] y 0 ⟨#[]⟩ W hk.hp (Nat.succ_pos _) rfl
/-- the example at its end -/
def KQ (w W : World) (pa pb pv pu g1 g2 : Nat) (y : Value) : Prop := KS w W [(pu, (2, 0, ⟨#[]⟩)), (pv, (5, 1, ⟨#[]⟩)), (pb, (5, 1, ⟨#[]⟩)), (pa, (5, 0, ⟨#[]⟩))] [(kA2, g1), (kB, g2)] 5 y
theorem KQ.keep {w W W' : World} {pa pb pv pu g1 g2 : Nat} {y : Value} (h : KQ w W pa pb pv pu g1 g2 y) (hb : Below W.heap.size W W') : KQ w W' pa pb pv pu g1 g2 y := KS.step h hb
theorem KQ.all {w W : World} {pa pb pv pu g1 g2 : Nat} {y : Value} (h : KQ w W pa pb pv pu g1 g2 y) :
    W.cell? ⟨pa, 0, none⟩ = some (.int .i64 5) ∧ W.cell? ⟨pa, 1, none⟩ = some (.int .i64 0) ∧ W.cell? ⟨pa, 2, none⟩ = some (.string ⟨#[]⟩) ∧ W.cell? ⟨pb, 0, none⟩ = some (.int .i64 5) ∧ W.cell? ⟨pb, 1, none⟩ = some (.int .i64 1) ∧ W.cell? ⟨pb, 2, none⟩ = some (.string ⟨#[]⟩) ∧
    W.cell? ⟨pv, 0, none⟩ = some (.int .i64 5) ∧ W.cell? ⟨pv, 1, none⟩ = some (.int .i64 1) ∧ W.cell? ⟨pv, 2, none⟩ = some (.string ⟨#[]⟩) ∧ W.cell? ⟨pu, 0, none⟩ = some (.int .i64 2) ∧ W.cell? ⟨pu, 1, none⟩ = some (.int .i64 0) ∧ W.cell? ⟨pu, 2, none⟩ = some (.string ⟨#[]⟩) ∧ KQ w W pa pb pv pu g1 g2 y := by
  obtain ⟨a0, a1, a2, -⟩ := KS.three h (p := pa) (x := (5, 0, ⟨#[]⟩)) (by simp)
  obtain ⟨b0, b1, b2, -⟩ := KS.three h (p := pb) (x := (5, 1, ⟨#[]⟩)) (by simp)
  obtain ⟨c0, c1, c2, -⟩ := KS.three h (p := pv) (x := (5, 1, ⟨#[]⟩)) (by simp)
  obtain ⟨d0, d1, d2, -⟩ := KS.three h (p := pu) (x := (2, 0, ⟨#[]⟩)) (by simp)
  exact ⟨a0, a1, a2, b0, b1, b2, c0, c1, c2, d0, d1, d2, h⟩
theorem kq_len {w W : World} {pa pb pv pu g1 g2 : Nat} {y : Value} (h : KQ w W pa pb pv pu g1 g2 y) : Calls Try.prog 16 #[.pointer (some ⟨w.heap.size, 0, none⟩), .agg #[.int .i64 5, .int .i64 1, .string ⟨#[]⟩]] W fun e w' => e = .returned (.int .i64 3) ∧ Below W.heap.size W w' :=
  len_yes w.heap.size w.heap.size 5 [(kA2, g1), (kB, g2)] y 1 ⟨#[]⟩ W (KS.hp h) (Nat.le_of_ble_eq_true rfl)
theorem kq_objects {w W : World} {pa pb pv pu g1 g2 : Nat} {y : Value} (h : KQ w W pa pb pv pu g1 g2 y) : Calls Try.prog 12 #[.pointer (some ⟨w.heap.size, 0, none⟩)] W fun e w' => e = .returned (.int .i64 2) ∧ Below W.heap.size W w' :=
  objects_any w.heap.size w.heap.size 5 [(kA2, g1), (kB, g2)] y W (KS.hp h)
theorem kq_cells {w W : World} {pa pb pv pu g1 g2 : Nat} {y : Value} (h : KQ w W pa pb pv pu g1 g2 y) : Calls Try.prog 13 #[.pointer (some ⟨w.heap.size, 0, none⟩)] W fun e w' => e = .returned (.int .i64 5) ∧ Below W.heap.size W w' :=
  cells_any w.heap.size w.heap.size 5 [(kA2, g1), (kB, g2)] y W (KS.hp h)

set_option maxRecDepth 100000 in
set_option maxHeartbeats 4000000 in
theorem keeps_any (w : World) : Calls Try.prog 5 #[] w fun e w' => e = .returned (.bool true) ∧ Below w.heap.size w w' := by
  have K0 : Hid (KS w (w.alloc (.cells #[.slice none 0 0, .int .i64 0] 26)) [] [] 0 (.slice none 0 0)) := Lib.hid ⟨by repeat (first | exact Below.refl _ _ | apply Below.setCell _ (by first | omega | (simp <;> omega)) | apply Below.alloc _ (by first | omega | (simp <;> omega))), HpM.new w, fun x hx => by cases hx⟩
  have KO := Lib.hid (keeps_object w _ K0.out)
  simp only [World.size_alloc] at KO
  go_enter Try.func5, Try.ntmps5
  go_wp2_with fail
  refine KO.out.mono ?_
  rintro e w1 ⟨rfl, g1, y1, hk1⟩
  have G1 : Hid (g1 < w1.heap.size) := Lib.hid (hk1.hp.cells _ (List.mem_cons_self)).2.lt
  have hne0 : w.heap.size < w1.heap.size := hk1.hp.box.lt
  have K1 := Lib.hid (hk1.new (5, 0, ⟨#[]⟩))
  clear hk1 K0 KO
  have KR := Lib.hid (keeps_array w _ g1 y1 _ (fun x hx => by simp at hx; subst hx; simp; omega) K1.out)
  go_wp2_with fail
  refine KR.out.mono ?_
  rintro e w2 ⟨rfl, g2, y2, hk2⟩
  have hne1 : w1.heap.size < w2.heap.size := (hk2.three (p := w1.heap.size) (x := (5, 0, ⟨#[]⟩)) (by simp)).2.2.2
  have P2 := Lib.hid hk2
  have K2 := Lib.hid (hk2.new (5, 1, ⟨#[]⟩))
  clear hk2 K1 KR
  have KS3 := Lib.hid (keeps_store w _ g1 g2 y2 _ (fun x hx => by have := G1.out; simp at hx; rcases hx with rfl | rfl <;> simp <;> omega) K2.out)
  obtain ⟨a0, a1, a2, al⟩ := P2.out.three (p := w1.heap.size) (x := (5, 0, ⟨#[]⟩)) (by simp)
  go_wp2_with fail
  refine KS3.out.mono ?_
  rintro e w3 ⟨rfl, hk3⟩
  have K3 := Lib.hid hk3
  clear hk3 KS3 K2 P2
  clear a0 a1 a2 al
  obtain ⟨a0, a1, a2, al⟩ := K3.out.three (p := w1.heap.size) (x := (5, 0, ⟨#[]⟩)) (by simp)
  obtain ⟨b0, b1, b2, bl⟩ := K3.out.three (p := w2.heap.size) (x := (5, 1, ⟨#[]⟩)) (by simp)
  have LD := Lib.hid (load_in w.heap.size w.heap.size 5 [(kA2, g1), (kB, g2)] y2 0 ⟨#[]⟩ 1 _ (5, 1, ⟨#[]⟩) K3.out.hp (Nat.succ_pos _) (Nat.le_of_ble_eq_true rfl) rfl)
  go_wp2_with fail
  refine LD.out.mono ?_
  rintro e w4 ⟨rfl, h4⟩
  have P4 := Lib.hid (K3.out.step h4)
  have K4 := Lib.hid ((K3.out.step h4).new (5, 1, ⟨#[]⟩))
  clear h4 K3 LD
  clear a0 a1 a2 al b0 b1 b2 bl
  obtain ⟨a0, a1, a2, al⟩ := P4.out.three (p := w1.heap.size) (x := (5, 0, ⟨#[]⟩)) (by simp)
  obtain ⟨b0, b1, b2, bl⟩ := P4.out.three (p := w2.heap.size) (x := (5, 1, ⟨#[]⟩)) (by simp)
  have LC := Lib.hid (keeps_class w _ _ g1 g2 y2 K4.out)
  go_wp2_with fail
  refine LC.out.mono ?_
  rintro e w5 ⟨rfl, h5⟩
  have K5 := Lib.hid (K4.out.step h5)
  clear h5 K4 LC P4
  clear a0 a1 a2 al b0 b1 b2 bl
  obtain ⟨a0, a1, a2, al⟩ := K5.out.three (p := w1.heap.size) (x := (5, 0, ⟨#[]⟩)) (by simp)
  obtain ⟨b0, b1, b2, bl⟩ := K5.out.three (p := w2.heap.size) (x := (5, 1, ⟨#[]⟩)) (by simp)
  obtain ⟨v0, v1, v2, vl⟩ := K5.out.three (p := w4.heap.size) (x := (5, 1, ⟨#[]⟩)) (by simp)
  have LC := Lib.hid (class_no w.heap.size w.heap.size 5 [(kA2, g1), (kB, g2)] y2 1 ⟨#[]⟩ _ K5.out.hp (Nat.le_of_ble_eq_true rfl) rfl)
  go_wp2_with fail
  refine LC.out.mono ?_
  rintro e w6 ⟨rfl, h6⟩
  have K6 := Lib.hid (K5.out.step h6)
  clear h6 K5 LC
  clear a0 a1 a2 al b0 b1 b2 bl v0 v1 v2 vl
  obtain ⟨a0, a1, a2, al⟩ := K6.out.three (p := w1.heap.size) (x := (5, 0, ⟨#[]⟩)) (by simp)
  obtain ⟨b0, b1, b2, bl⟩ := K6.out.three (p := w2.heap.size) (x := (5, 1, ⟨#[]⟩)) (by simp)
  obtain ⟨v0, v1, v2, vl⟩ := K6.out.three (p := w4.heap.size) (x := (5, 1, ⟨#[]⟩)) (by simp)
  have LD := Lib.hid (load_in w.heap.size w.heap.size 5 [(kA2, g1), (kB, g2)] y2 1 ⟨#[]⟩ 2 _ (2, 0, ⟨#[]⟩) K6.out.hp (Nat.le_of_ble_eq_true rfl) (Nat.le_of_ble_eq_true rfl) rfl)
  go_wp2_with fail
  refine LD.out.mono ?_
  rintro e w7 ⟨rfl, h7⟩
  have P7 := Lib.hid (K6.out.step h7)
  have K7 := Lib.hid ((K6.out.step h7).new (2, 0, ⟨#[]⟩))
  clear h7 K6 LD
  clear a0 a1 a2 al b0 b1 b2 bl v0 v1 v2 vl
  obtain ⟨a0, a1, a2, al⟩ := P7.out.three (p := w1.heap.size) (x := (5, 0, ⟨#[]⟩)) (by simp)
  obtain ⟨b0, b1, b2, bl⟩ := P7.out.three (p := w2.heap.size) (x := (5, 1, ⟨#[]⟩)) (by simp)
  obtain ⟨v0, v1, v2, vl⟩ := P7.out.three (p := w4.heap.size) (x := (5, 1, ⟨#[]⟩)) (by simp)
  go_wp2_with fail
  obtain ⟨W8, hW8⟩ : ∃ W8, W8 = w7.alloc (.cells #[.int .i64 2, .int .i64 0, .string ⟨#[]⟩] 32) := ⟨_, rfl⟩
  have Q8 : Hid (KQ w W8 w1.heap.size w2.heap.size w4.heap.size w7.heap.size g1 g2 y2) := Lib.hid (by rw [hW8]; exact K7.out)
  rw [← hW8]
  clear hW8 K7 P7 a0 a1 a2 al b0 b1 b2 bl v0 v1 v2 vl hne0 hne1 G1
  generalize w1.heap.size = pa at *
  generalize w2.heap.size = pb at *
  generalize w4.heap.size = pv at *
  generalize w7.heap.size = pu at *
  have hf1 : ∀ W : World, Sem.run Try.prog (Instr.field 32 (.agg #[.int .i64 1, .int .i64 7, .string ⟨#[]⟩]) 1) W = .ok (.int .i64 7) W := fun W => field_n (1, 7, ⟨#[]⟩) W
  have hf2 : ∀ W : World, Sem.run Try.prog (Instr.field 32 (.agg #[.int .i64 4, .int .i64 0, .string ⟨#[120]⟩]) 2) W = .ok (.string ⟨#[120]⟩) W := fun W => field_s (4, 0, ⟨#[120]⟩) W
  have hf3 : ∀ W : World, Sem.run Try.prog (Instr.field 32 (.agg #[.int .i64 3, .int .i64 9, .string ⟨#[]⟩]) 1) W = .ok (.int .i64 9) W := fun W => field_n (3, 9, ⟨#[]⟩) W
  dsimp only [List.append]
  go_region_held3 (fun w' => w'.cell? ⟨pa, 0, none⟩ = some (.int .i64 5) ∧ w'.cell? ⟨pa, 1, none⟩ = some (.int .i64 0) ∧ w'.cell? ⟨pa, 2, none⟩ = some (.string ⟨#[]⟩) ∧ w'.cell? ⟨pb, 0, none⟩ = some (.int .i64 5) ∧ w'.cell? ⟨pb, 1, none⟩ = some (.int .i64 1) ∧ w'.cell? ⟨pb, 2, none⟩ = some (.string ⟨#[]⟩) ∧ w'.cell? ⟨pv, 0, none⟩ = some (.int .i64 5) ∧ w'.cell? ⟨pv, 1, none⟩ = some (.int .i64 1) ∧ w'.cell? ⟨pv, 2, none⟩ = some (.string ⟨#[]⟩) ∧ w'.cell? ⟨pu, 0, none⟩ = some (.int .i64 2) ∧ w'.cell? ⟨pu, 1, none⟩ = some (.int .i64 0) ∧ w'.cell? ⟨pu, 2, none⟩ = some (.string ⟨#[]⟩) ∧ KQ w w' pa pb pv pu g1 g2 y2) (first | exact Q8.out.all | exact (KQ.keep Q8.out (Below.refl _ _).drew).all | exact (KQ.keep (by assumption) hb2).all) (first | (go_at_call 18; go_split_ands; refine (bool_no _).mono ?_; rintro e w2 ⟨rfl, hb2⟩) | (go_at_call 16; go_split_ands; refine (kq_len (pa := pa) (pb := pb) (pv := pv) (pu := pu) (g1 := g1) (g2 := g2) (y := y2) (by assumption)).mono ?_; rintro e w2 ⟨rfl, hb2⟩) | (go_at_call 12; go_split_ands; refine (kq_objects (pa := pa) (pb := pb) (pv := pv) (pu := pu) (g1 := g1) (g2 := g2) (y := y2) (by assumption)).mono ?_; rintro e w2 ⟨rfl, hb2⟩) | (go_at_call 13; go_split_ands; refine (kq_cells (pa := pa) (pb := pb) (pv := pv) (pu := pu) (g1 := g1) (g2 := g2) (y := y2) (by assumption)).mono ?_; rintro e w2 ⟨rfl, hb2⟩) | (go_at_call 20; go_split_ands; refine (wrap_ref 0 _).mono ?_; rintro e w2 ⟨rfl, hb2⟩) | (go_at_call 19; go_split_ands; refine (open_some 0 _).mono ?_; rintro e w2 ⟨rfl, hb2⟩) | (go_at_call 8; go_split_ands; refine (at_any 0 _).mono ?_; rintro e w2 ⟨rfl, hb2⟩) | (go_at_call 21; go_split_ands; refine (same_yes 5 0 ⟨#[]⟩ _).mono ?_; rintro e w2 ⟨rfl, hb2⟩) | (go_at_call 22; go_split_ands; refine (int_any 7 _).mono ?_; rintro e w2 ⟨rfl, hb2⟩) | (go_at_call 23; go_split_ands; refine (str_any ⟨#[120]⟩ _ (Nat.le_of_ble_eq_true rfl)).mono ?_; rintro e w2 ⟨rfl, hb2⟩) | (go_at_call 24; go_split_ands; refine (double9_any _).mono ?_; rintro e w2 ⟨rfl, hb2⟩))
  all_goals go_split_ands
  all_goals go_wp2_with fail
  all_goals go_ret
  all_goals exact ⟨rfl, (show KQ w _ pa pb pv pu g1 g2 y2 from by assumption).bel⟩
end Go.Proofs.Ytfkcjnlhindhfaa
