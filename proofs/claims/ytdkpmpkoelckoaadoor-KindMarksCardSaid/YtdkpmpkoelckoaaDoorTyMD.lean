/- KindMarks: more of its walks. Written by gen_km.py. -/
import Derived.Test.YtdkpmpkoelckoaaDoorTyMA
namespace Go.Proofs.YtdkpmpkoelckoaaDoor
open Go Go.RowKit
set_option linter.unusedVariables false
set_option linter.unusedSimpArgs false

set_option maxHeartbeats 8000000 in
theorem km_no_noref (B : Int) (N : ByteArray) (d : Nat) (M : ByteArray) (l : Nat) (m : UInt8) (w : World) (sN : N.size ≤ 60) (sM : M.size ≤ 60) (hr : rightB B N d M = true) (hl : l ≤ d) (hx : rightB B N d (putM M d l m) = false) (hq : d = 0 ∧ ¬ B = 5)  :
    Calls Tryd.prog 6 #[.agg #[.int .i64 B, .string N, .int .i64 ((d : Int)), .string M], .int .i64 (l : Int), .int .u8 (m.toNat : Int)] w fun e w' => e = .returned (.bool true) ∧ Below w.heap.size w w' := by
  have hm : M.size = d + 1 ∧ d ≤ 4 := by obtain ⟨d2, hd, h4, hm⟩ := right_bounds hr; omega
  have HP := Lib.hid (fun w => plain_any B N d M w sM)
  rw [hr] at HP
  have HA := Lib.hid (fun w => mark_in B N d M l m w sN sM hr hl)
  have q1 : decide ((l : Int) < 0) = false := decide_eq_false (by omega)
  have q2 : decide ((d : Int) < (l : Int)) = false := decide_eq_false (by omega)
  have q3 : IntKind.i64.wrap ((l : Int) + 1) = (l : Int) + 1 := IntWalk.i64_in _ ⟨by omega, by omega⟩
  have i1 : l ≤ M.size := by omega
  have i2 : l + 1 ≤ M.size := by omega
  have HX := Lib.hid (fun w => refR_any B N d (putM M d l m) w (by rw [putM_size M d l m hm.1 hl]; omega))
  rw [show markV B N d M l m = .tuple #[.agg #[.int .i64 0, .string ⟨#[]⟩, .int .i64 0, .string ⟨#[]⟩], .int .i64 81] by unfold markV; rw [hx]; rfl] at HA
  rw [hx] at HX
  obtain ⟨x, hP⟩ : ∃ x, putM M d l m = x := ⟨_, rfl⟩
  rw [hP] at HX
  have HPX := Lib.hid (show M.extract 0 l ++ ⟨#[m]⟩ ++ M.extract (l + 1) M.size = x by rw [← hP]; unfold putM; rw [hm.1])
  have HE := Lib.hid (fun w => with_no B N d M m w sN sM (by
    have h1 : litB B N d M = false := by
      cases h : litB B N d M
      · rfl
      · rw [lit_not_right h] at hr; cases hr
    unfold refB; rw [h1]; simp [hq.1, hq.2]))
  have g0 : ((d : Int) == 0) = true := by simp [hq.1]
  have g0' : (d == 0) = true := by simp [hq.1]
  have g5 : (B != 5) = true := by simpa using hq.2
  clear hr hm hx hP hq
  go_enter Tryd.func6, Tryd.ntmps6
  go_wp2_with fail
  refine (sorts_any _).mono ?_
  rintro e w1 ⟨rfl, hb⟩
  have hB2 := Boxes.keep ((Boxes.new (Boxes.start w) B N ((d : Int)) M 24)) hb
  clear hb
  have hB := Lib.hid hB2
  obtain ⟨l0_0, c0_0, c0_1, c0_2, c0_3, f0_0⟩ := Boxes.get (p := w.heap.size) (B := B) (N := N) (D := (d : Int)) (M := M) hB2 (by simp)
  clear hB2
  go_wp2_with fail
  refine (small1 _ _ _ _ _ _ (by unfold maxLen; omega) (by unfold maxLen; omega) true (by unfold sm; simp; omega)).mono ?_
  rintro e w2 ⟨rfl, hb⟩
  have hB2 := Boxes.keep (hB.out) hb
  clear hb hB l0_0 c0_0 c0_1 c0_2 c0_3 f0_0
  have hB := Lib.hid hB2
  obtain ⟨l0_0, c0_0, c0_1, c0_2, c0_3, f0_0⟩ := Boxes.get (p := w.heap.size) (B := B) (N := N) (D := (d : Int)) (M := M) hB2 (by simp)
  clear hB2
  go_wp2_with fail
  refine (HA.out _).mono ?_
  rintro e w3 ⟨rfl, hb⟩
  have hB2 := Boxes.keep (hB.out) hb
  clear hb hB l0_0 c0_0 c0_1 c0_2 c0_3 f0_0
  have hB := Lib.hid hB2
  obtain ⟨l0_0, c0_0, c0_1, c0_2, c0_3, f0_0⟩ := Boxes.get (p := w.heap.size) (B := B) (N := N) (D := (d : Int)) (M := M) hB2 (by simp)
  clear hB2
  go_wp2_with fail
  refine (HE.out _).mono ?_
  rintro e w4 ⟨rfl, hb⟩
  have hB2 := Boxes.keep (Boxes.new (hB.out) 0 (⟨#[]⟩) 0 (⟨#[]⟩) 24) hb
  clear hb hB l0_0 c0_0 c0_1 c0_2 c0_3 f0_0
  have hB := Lib.hid hB2
  obtain ⟨l0_0, c0_0, c0_1, c0_2, c0_3, f0_0⟩ := Boxes.get (p := w3.heap.size) (B := 0) (N := ⟨#[]⟩) (D := 0) (M := ⟨#[]⟩) hB2 (by simp)
  obtain ⟨l1_0, c1_0, c1_1, c1_2, c1_3, f1_0⟩ := Boxes.get (p := w.heap.size) (B := B) (N := N) (D := (d : Int)) (M := M) hB2 (by simp)
  clear hB2
  go_wp2_with fail
  refine (HP.out _).mono ?_
  rintro e w5 ⟨rfl, hb⟩
  have hB2 := Boxes.keep (Boxes.new (hB.out) 0 (⟨#[]⟩) 0 (⟨#[]⟩) 24) hb
  clear hb hB l0_0 c0_0 c0_1 c0_2 c0_3 f0_0 l1_0 c1_0 c1_1 c1_2 c1_3 f1_0
  have hB := Lib.hid hB2
  obtain ⟨l0_0, c0_0, c0_1, c0_2, c0_3, f0_0⟩ := Boxes.get (p := w4.heap.size) (B := 0) (N := ⟨#[]⟩) (D := 0) (M := ⟨#[]⟩) hB2 (by simp)
  obtain ⟨l1_0, c1_0, c1_1, c1_2, c1_3, f1_0⟩ := Boxes.get (p := w3.heap.size) (B := 0) (N := ⟨#[]⟩) (D := 0) (M := ⟨#[]⟩) hB2 (by simp)
  obtain ⟨l2_0, c2_0, c2_1, c2_2, c2_3, f2_0⟩ := Boxes.get (p := w.heap.size) (B := B) (N := N) (D := (d : Int)) (M := M) hB2 (by simp)
  clear hB2
  go_wp2_with fail
  have hcv := fun (wr : World) (cap : Nat) (h : wr.cell? ⟨w5.heap.size + 1, 0, none⟩ = some (.int .u8 (m.toNat : Int))) => conv_one wr (w5.heap.size + 1) cap m h
  go_region
  rw [HPX.out]
  clear hcv
  have hW := ((Boxes.new hB.out B N ((d : Int)) x 24).keep ((Below.refl _ _).alloc (Nat.le_refl _) (.cells #[.int .u8 (m.toNat : Int)] 5))).drew
  go_wp2_with fail
  refine (HX.out _).mono ?_
  rintro e w6 ⟨rfl, hb⟩
  have hB2 := Boxes.keep hW hb
  clear hb hB hW l0_0 c0_0 c0_1 c0_2 c0_3 f0_0 l1_0 c1_0 c1_1 c1_2 c1_3 f1_0 l2_0 c2_0 c2_1 c2_2 c2_3 f2_0
  have hB := Lib.hid hB2
  obtain ⟨l0_0, c0_0, c0_1, c0_2, c0_3, f0_0⟩ := Boxes.get (p := w5.heap.size) (B := B) (N := N) (D := (d : Int)) (M := x) hB2 (by simp)
  obtain ⟨l1_0, c1_0, c1_1, c1_2, c1_3, f1_0⟩ := Boxes.get (p := w4.heap.size) (B := 0) (N := ⟨#[]⟩) (D := 0) (M := ⟨#[]⟩) hB2 (by simp)
  obtain ⟨l2_0, c2_0, c2_1, c2_2, c2_3, f2_0⟩ := Boxes.get (p := w3.heap.size) (B := 0) (N := ⟨#[]⟩) (D := 0) (M := ⟨#[]⟩) hB2 (by simp)
  obtain ⟨l3_0, c3_0, c3_1, c3_2, c3_3, f3_0⟩ := Boxes.get (p := w.heap.size) (B := B) (N := N) (D := (d : Int)) (M := M) hB2 (by simp)
  clear hB2
  go_wp2_with fail
  all_goals go_ret
  all_goals exact ⟨rfl, by have hz := hB.out.bel; repeat (first | exact Below.refl _ _ | apply Below.setCell _ (by first | omega | (simp <;> omega)) | apply Below.alloc _ (by first | omega | (simp <;> omega)) | exact hz | refine after ?_ hz)⟩
set_option maxHeartbeats 8000000 in
theorem km_no_r0yes (B : Int) (N : ByteArray) (d : Nat) (M : ByteArray) (l : Nat) (m : UInt8) (w : World) (sN : N.size ≤ 60) (sM : M.size ≤ 60) (hr : rightB B N d M = true) (hl : l ≤ d) (hx : rightB B N d (putM M d l m) = false) (hq : d = 0 ∧ B = 5) (hy : rightB B N d (putM M d d m) = true)  :
    Calls Tryd.prog 6 #[.agg #[.int .i64 B, .string N, .int .i64 ((d : Int)), .string M], .int .i64 (l : Int), .int .u8 (m.toNat : Int)] w fun e w' => e = .returned (.bool true) ∧ Below w.heap.size w w' := by
  have hm : M.size = d + 1 ∧ d ≤ 4 := by obtain ⟨d2, hd, h4, hm⟩ := right_bounds hr; omega
  have HP := Lib.hid (fun w => plain_any B N d M w sM)
  rw [hr] at HP
  have HA := Lib.hid (fun w => mark_in B N d M l m w sN sM hr hl)
  have q1 : decide ((l : Int) < 0) = false := decide_eq_false (by omega)
  have q2 : decide ((d : Int) < (l : Int)) = false := decide_eq_false (by omega)
  have q3 : IntKind.i64.wrap ((l : Int) + 1) = (l : Int) + 1 := IntWalk.i64_in _ ⟨by omega, by omega⟩
  have i1 : l ≤ M.size := by omega
  have i2 : l + 1 ≤ M.size := by omega
  have HX := Lib.hid (fun w => refR_any B N d (putM M d l m) w (by rw [putM_size M d l m hm.1 hl]; omega))
  rw [show markV B N d M l m = .tuple #[.agg #[.int .i64 0, .string ⟨#[]⟩, .int .i64 0, .string ⟨#[]⟩], .int .i64 81] by unfold markV; rw [hx]; rfl] at HA
  rw [hx] at HX
  obtain ⟨x, hP⟩ : ∃ x, putM M d l m = x := ⟨_, rfl⟩
  rw [hP] at HX
  have HPX := Lib.hid (show M.extract 0 l ++ ⟨#[m]⟩ ++ M.extract (l + 1) M.size = x by rw [← hP]; unfold putM; rw [hm.1])
  have HE := Lib.hid (fun w => with_in B N d M m w sN sM (by
    have h1 : allB B N d M = true := by unfold allB; rw [hr]; simp
    unfold refB; rw [h1]; simp [hq]) hr)
  have HY := Lib.hid (fun w => refR_any B N d (putM M d d m) w (by rw [putM_size M d d m hm.1 (Nat.le_refl _)]; omega))
  rw [show markV B N d M d m = .tuple #[.agg #[.int .i64 B, .string N, .int .i64 d, .string (putM M d d m)], .int .i64 0] by unfold markV; rw [hy]; rfl] at HE
  rw [hy] at HY
  have hpl := putM_last M d m hm.1
  obtain ⟨y, hQ⟩ : ∃ y, M.extract 0 d ++ ⟨#[m]⟩ = y := ⟨_, rfl⟩
  rw [hQ] at hpl
  rw [hpl] at HE HY
  have HQ := Lib.hid hQ
  have i3 : d ≤ M.size := by omega
  have g0 : ((d : Int) == 0) = true := by simp [hq.1]
  have g0' : (d == 0) = true := by simp [hq.1]
  have g5 : (B != 5) = false := by simp [hq.2]
  clear hr hm hx hP hy hpl hQ hq
  go_enter Tryd.func6, Tryd.ntmps6
  go_wp2_with fail
  refine (sorts_any _).mono ?_
  rintro e w1 ⟨rfl, hb⟩
  have hB2 := Boxes.keep ((Boxes.new (Boxes.start w) B N ((d : Int)) M 24)) hb
  clear hb
  have hB := Lib.hid hB2
  obtain ⟨l0_0, c0_0, c0_1, c0_2, c0_3, f0_0⟩ := Boxes.get (p := w.heap.size) (B := B) (N := N) (D := (d : Int)) (M := M) hB2 (by simp)
  clear hB2
  go_wp2_with fail
  refine (small1 _ _ _ _ _ _ (by unfold maxLen; omega) (by unfold maxLen; omega) true (by unfold sm; simp; omega)).mono ?_
  rintro e w2 ⟨rfl, hb⟩
  have hB2 := Boxes.keep (hB.out) hb
  clear hb hB l0_0 c0_0 c0_1 c0_2 c0_3 f0_0
  have hB := Lib.hid hB2
  obtain ⟨l0_0, c0_0, c0_1, c0_2, c0_3, f0_0⟩ := Boxes.get (p := w.heap.size) (B := B) (N := N) (D := (d : Int)) (M := M) hB2 (by simp)
  clear hB2
  go_wp2_with fail
  refine (HA.out _).mono ?_
  rintro e w3 ⟨rfl, hb⟩
  have hB2 := Boxes.keep (hB.out) hb
  clear hb hB l0_0 c0_0 c0_1 c0_2 c0_3 f0_0
  have hB := Lib.hid hB2
  obtain ⟨l0_0, c0_0, c0_1, c0_2, c0_3, f0_0⟩ := Boxes.get (p := w.heap.size) (B := B) (N := N) (D := (d : Int)) (M := M) hB2 (by simp)
  clear hB2
  go_wp2_with fail
  refine (HE.out _).mono ?_
  rintro e w4 ⟨rfl, hb⟩
  have hB2 := Boxes.keep (Boxes.new (hB.out) 0 (⟨#[]⟩) 0 (⟨#[]⟩) 24) hb
  clear hb hB l0_0 c0_0 c0_1 c0_2 c0_3 f0_0
  have hB := Lib.hid hB2
  obtain ⟨l0_0, c0_0, c0_1, c0_2, c0_3, f0_0⟩ := Boxes.get (p := w3.heap.size) (B := 0) (N := ⟨#[]⟩) (D := 0) (M := ⟨#[]⟩) hB2 (by simp)
  obtain ⟨l1_0, c1_0, c1_1, c1_2, c1_3, f1_0⟩ := Boxes.get (p := w.heap.size) (B := B) (N := N) (D := (d : Int)) (M := M) hB2 (by simp)
  clear hB2
  go_wp2_with fail
  refine (HP.out _).mono ?_
  rintro e w5 ⟨rfl, hb⟩
  have hB2 := Boxes.keep (Boxes.new (hB.out) B N ((d : Int)) y 24) hb
  clear hb hB l0_0 c0_0 c0_1 c0_2 c0_3 f0_0 l1_0 c1_0 c1_1 c1_2 c1_3 f1_0
  have hB := Lib.hid hB2
  obtain ⟨l0_0, c0_0, c0_1, c0_2, c0_3, f0_0⟩ := Boxes.get (p := w4.heap.size) (B := B) (N := N) (D := (d : Int)) (M := y) hB2 (by simp)
  obtain ⟨l1_0, c1_0, c1_1, c1_2, c1_3, f1_0⟩ := Boxes.get (p := w3.heap.size) (B := 0) (N := ⟨#[]⟩) (D := 0) (M := ⟨#[]⟩) hB2 (by simp)
  obtain ⟨l2_0, c2_0, c2_1, c2_2, c2_3, f2_0⟩ := Boxes.get (p := w.heap.size) (B := B) (N := N) (D := (d : Int)) (M := M) hB2 (by simp)
  clear hB2
  go_wp2_with fail
  have hcv := fun (wr : World) (cap : Nat) (h : wr.cell? ⟨w5.heap.size + 1, 0, none⟩ = some (.int .u8 (m.toNat : Int))) => conv_one wr (w5.heap.size + 1) cap m h
  go_region
  rw [HPX.out]
  clear hcv
  have hW := ((Boxes.new hB.out B N ((d : Int)) x 24).keep ((Below.refl _ _).alloc (Nat.le_refl _) (.cells #[.int .u8 (m.toNat : Int)] 5))).drew
  go_wp2_with fail
  refine (HX.out _).mono ?_
  rintro e w6 ⟨rfl, hb⟩
  have hB2 := Boxes.keep hW hb
  clear hb hB hW l0_0 c0_0 c0_1 c0_2 c0_3 f0_0 l1_0 c1_0 c1_1 c1_2 c1_3 f1_0 l2_0 c2_0 c2_1 c2_2 c2_3 f2_0
  have hB := Lib.hid hB2
  obtain ⟨l0_0, c0_0, c0_1, c0_2, c0_3, f0_0⟩ := Boxes.get (p := w5.heap.size) (B := B) (N := N) (D := (d : Int)) (M := x) hB2 (by simp)
  obtain ⟨l1_0, c1_0, c1_1, c1_2, c1_3, f1_0⟩ := Boxes.get (p := w4.heap.size) (B := B) (N := N) (D := (d : Int)) (M := y) hB2 (by simp)
  obtain ⟨l2_0, c2_0, c2_1, c2_2, c2_3, f2_0⟩ := Boxes.get (p := w3.heap.size) (B := 0) (N := ⟨#[]⟩) (D := 0) (M := ⟨#[]⟩) hB2 (by simp)
  obtain ⟨l3_0, c3_0, c3_1, c3_2, c3_3, f3_0⟩ := Boxes.get (p := w.heap.size) (B := B) (N := N) (D := (d : Int)) (M := M) hB2 (by simp)
  clear hB2
  go_wp2_with fail
  have hcv := fun (wr : World) (cap : Nat) (h : wr.cell? ⟨w6.heap.size + 1, 0, none⟩ = some (.int .u8 (m.toNat : Int))) => conv_one wr (w6.heap.size + 1) cap m h
  go_region
  rw [HQ.out]
  clear hcv
  have hW := ((Boxes.new hB.out B N ((d : Int)) y 24).keep ((Below.refl _ _).alloc (Nat.le_refl _) (.cells #[.int .u8 (m.toNat : Int)] 5))).drew
  go_wp2_with fail
  refine (HY.out _).mono ?_
  rintro e w7 ⟨rfl, hb⟩
  have hB2 := Boxes.keep hW hb
  clear hb hB hW l0_0 c0_0 c0_1 c0_2 c0_3 f0_0 l1_0 c1_0 c1_1 c1_2 c1_3 f1_0 l2_0 c2_0 c2_1 c2_2 c2_3 f2_0 l3_0 c3_0 c3_1 c3_2 c3_3 f3_0
  have hB := Lib.hid hB2
  obtain ⟨l0_0, c0_0, c0_1, c0_2, c0_3, f0_0⟩ := Boxes.get (p := w6.heap.size) (B := B) (N := N) (D := (d : Int)) (M := y) hB2 (by simp)
  obtain ⟨l1_0, c1_0, c1_1, c1_2, c1_3, f1_0⟩ := Boxes.get (p := w5.heap.size) (B := B) (N := N) (D := (d : Int)) (M := x) hB2 (by simp)
  obtain ⟨l2_0, c2_0, c2_1, c2_2, c2_3, f2_0⟩ := Boxes.get (p := w4.heap.size) (B := B) (N := N) (D := (d : Int)) (M := y) hB2 (by simp)
  obtain ⟨l3_0, c3_0, c3_1, c3_2, c3_3, f3_0⟩ := Boxes.get (p := w3.heap.size) (B := 0) (N := ⟨#[]⟩) (D := 0) (M := ⟨#[]⟩) hB2 (by simp)
  obtain ⟨l4_0, c4_0, c4_1, c4_2, c4_3, f4_0⟩ := Boxes.get (p := w.heap.size) (B := B) (N := N) (D := (d : Int)) (M := M) hB2 (by simp)
  clear hB2
  go_wp2_with fail
  all_goals go_ret
  all_goals exact ⟨rfl, by have hz := hB.out.bel; repeat (first | exact Below.refl _ _ | apply Below.setCell _ (by first | omega | (simp <;> omega)) | apply Below.alloc _ (by first | omega | (simp <;> omega)) | exact hz | refine after ?_ hz)⟩
set_option maxHeartbeats 8000000 in
theorem km_no_r0no (B : Int) (N : ByteArray) (d : Nat) (M : ByteArray) (l : Nat) (m : UInt8) (w : World) (sN : N.size ≤ 60) (sM : M.size ≤ 60) (hr : rightB B N d M = true) (hl : l ≤ d) (hx : rightB B N d (putM M d l m) = false) (hq : d = 0 ∧ B = 5) (hy : rightB B N d (putM M d d m) = false)  :
    Calls Tryd.prog 6 #[.agg #[.int .i64 B, .string N, .int .i64 ((d : Int)), .string M], .int .i64 (l : Int), .int .u8 (m.toNat : Int)] w fun e w' => e = .returned (.bool true) ∧ Below w.heap.size w w' := by
  have hm : M.size = d + 1 ∧ d ≤ 4 := by obtain ⟨d2, hd, h4, hm⟩ := right_bounds hr; omega
  have HP := Lib.hid (fun w => plain_any B N d M w sM)
  rw [hr] at HP
  have HA := Lib.hid (fun w => mark_in B N d M l m w sN sM hr hl)
  have q1 : decide ((l : Int) < 0) = false := decide_eq_false (by omega)
  have q2 : decide ((d : Int) < (l : Int)) = false := decide_eq_false (by omega)
  have q3 : IntKind.i64.wrap ((l : Int) + 1) = (l : Int) + 1 := IntWalk.i64_in _ ⟨by omega, by omega⟩
  have i1 : l ≤ M.size := by omega
  have i2 : l + 1 ≤ M.size := by omega
  have HX := Lib.hid (fun w => refR_any B N d (putM M d l m) w (by rw [putM_size M d l m hm.1 hl]; omega))
  rw [show markV B N d M l m = .tuple #[.agg #[.int .i64 0, .string ⟨#[]⟩, .int .i64 0, .string ⟨#[]⟩], .int .i64 81] by unfold markV; rw [hx]; rfl] at HA
  rw [hx] at HX
  obtain ⟨x, hP⟩ : ∃ x, putM M d l m = x := ⟨_, rfl⟩
  rw [hP] at HX
  have HPX := Lib.hid (show M.extract 0 l ++ ⟨#[m]⟩ ++ M.extract (l + 1) M.size = x by rw [← hP]; unfold putM; rw [hm.1])
  have HE := Lib.hid (fun w => with_in B N d M m w sN sM (by
    have h1 : allB B N d M = true := by unfold allB; rw [hr]; simp
    unfold refB; rw [h1]; simp [hq]) hr)
  have HY := Lib.hid (fun w => refR_any B N d (putM M d d m) w (by rw [putM_size M d d m hm.1 (Nat.le_refl _)]; omega))
  rw [show markV B N d M d m = .tuple #[.agg #[.int .i64 0, .string ⟨#[]⟩, .int .i64 0, .string ⟨#[]⟩], .int .i64 81] by unfold markV; rw [hy]; rfl] at HE
  rw [hy] at HY
  have hpl := putM_last M d m hm.1
  obtain ⟨y, hQ⟩ : ∃ y, M.extract 0 d ++ ⟨#[m]⟩ = y := ⟨_, rfl⟩
  rw [hQ] at hpl
  rw [hpl] at HY
  have HQ := Lib.hid hQ
  have i3 : d ≤ M.size := by omega
  have g0 : ((d : Int) == 0) = true := by simp [hq.1]
  have g0' : (d == 0) = true := by simp [hq.1]
  have g5 : (B != 5) = false := by simp [hq.2]
  clear hr hm hx hP hy hpl hQ hq
  go_enter Tryd.func6, Tryd.ntmps6
  go_wp2_with fail
  refine (sorts_any _).mono ?_
  rintro e w1 ⟨rfl, hb⟩
  have hB2 := Boxes.keep ((Boxes.new (Boxes.start w) B N ((d : Int)) M 24)) hb
  clear hb
  have hB := Lib.hid hB2
  obtain ⟨l0_0, c0_0, c0_1, c0_2, c0_3, f0_0⟩ := Boxes.get (p := w.heap.size) (B := B) (N := N) (D := (d : Int)) (M := M) hB2 (by simp)
  clear hB2
  go_wp2_with fail
  refine (small1 _ _ _ _ _ _ (by unfold maxLen; omega) (by unfold maxLen; omega) true (by unfold sm; simp; omega)).mono ?_
  rintro e w2 ⟨rfl, hb⟩
  have hB2 := Boxes.keep (hB.out) hb
  clear hb hB l0_0 c0_0 c0_1 c0_2 c0_3 f0_0
  have hB := Lib.hid hB2
  obtain ⟨l0_0, c0_0, c0_1, c0_2, c0_3, f0_0⟩ := Boxes.get (p := w.heap.size) (B := B) (N := N) (D := (d : Int)) (M := M) hB2 (by simp)
  clear hB2
  go_wp2_with fail
  refine (HA.out _).mono ?_
  rintro e w3 ⟨rfl, hb⟩
  have hB2 := Boxes.keep (hB.out) hb
  clear hb hB l0_0 c0_0 c0_1 c0_2 c0_3 f0_0
  have hB := Lib.hid hB2
  obtain ⟨l0_0, c0_0, c0_1, c0_2, c0_3, f0_0⟩ := Boxes.get (p := w.heap.size) (B := B) (N := N) (D := (d : Int)) (M := M) hB2 (by simp)
  clear hB2
  go_wp2_with fail
  refine (HE.out _).mono ?_
  rintro e w4 ⟨rfl, hb⟩
  have hB2 := Boxes.keep (Boxes.new (hB.out) 0 (⟨#[]⟩) 0 (⟨#[]⟩) 24) hb
  clear hb hB l0_0 c0_0 c0_1 c0_2 c0_3 f0_0
  have hB := Lib.hid hB2
  obtain ⟨l0_0, c0_0, c0_1, c0_2, c0_3, f0_0⟩ := Boxes.get (p := w3.heap.size) (B := 0) (N := ⟨#[]⟩) (D := 0) (M := ⟨#[]⟩) hB2 (by simp)
  obtain ⟨l1_0, c1_0, c1_1, c1_2, c1_3, f1_0⟩ := Boxes.get (p := w.heap.size) (B := B) (N := N) (D := (d : Int)) (M := M) hB2 (by simp)
  clear hB2
  go_wp2_with fail
  refine (HP.out _).mono ?_
  rintro e w5 ⟨rfl, hb⟩
  have hB2 := Boxes.keep (Boxes.new (hB.out) 0 (⟨#[]⟩) 0 (⟨#[]⟩) 24) hb
  clear hb hB l0_0 c0_0 c0_1 c0_2 c0_3 f0_0 l1_0 c1_0 c1_1 c1_2 c1_3 f1_0
  have hB := Lib.hid hB2
  obtain ⟨l0_0, c0_0, c0_1, c0_2, c0_3, f0_0⟩ := Boxes.get (p := w4.heap.size) (B := 0) (N := ⟨#[]⟩) (D := 0) (M := ⟨#[]⟩) hB2 (by simp)
  obtain ⟨l1_0, c1_0, c1_1, c1_2, c1_3, f1_0⟩ := Boxes.get (p := w3.heap.size) (B := 0) (N := ⟨#[]⟩) (D := 0) (M := ⟨#[]⟩) hB2 (by simp)
  obtain ⟨l2_0, c2_0, c2_1, c2_2, c2_3, f2_0⟩ := Boxes.get (p := w.heap.size) (B := B) (N := N) (D := (d : Int)) (M := M) hB2 (by simp)
  clear hB2
  go_wp2_with fail
  have hcv := fun (wr : World) (cap : Nat) (h : wr.cell? ⟨w5.heap.size + 1, 0, none⟩ = some (.int .u8 (m.toNat : Int))) => conv_one wr (w5.heap.size + 1) cap m h
  go_region
  rw [HPX.out]
  clear hcv
  have hW := ((Boxes.new hB.out B N ((d : Int)) x 24).keep ((Below.refl _ _).alloc (Nat.le_refl _) (.cells #[.int .u8 (m.toNat : Int)] 5))).drew
  go_wp2_with fail
  refine (HX.out _).mono ?_
  rintro e w6 ⟨rfl, hb⟩
  have hB2 := Boxes.keep hW hb
  clear hb hB hW l0_0 c0_0 c0_1 c0_2 c0_3 f0_0 l1_0 c1_0 c1_1 c1_2 c1_3 f1_0 l2_0 c2_0 c2_1 c2_2 c2_3 f2_0
  have hB := Lib.hid hB2
  obtain ⟨l0_0, c0_0, c0_1, c0_2, c0_3, f0_0⟩ := Boxes.get (p := w5.heap.size) (B := B) (N := N) (D := (d : Int)) (M := x) hB2 (by simp)
  obtain ⟨l1_0, c1_0, c1_1, c1_2, c1_3, f1_0⟩ := Boxes.get (p := w4.heap.size) (B := 0) (N := ⟨#[]⟩) (D := 0) (M := ⟨#[]⟩) hB2 (by simp)
  obtain ⟨l2_0, c2_0, c2_1, c2_2, c2_3, f2_0⟩ := Boxes.get (p := w3.heap.size) (B := 0) (N := ⟨#[]⟩) (D := 0) (M := ⟨#[]⟩) hB2 (by simp)
  obtain ⟨l3_0, c3_0, c3_1, c3_2, c3_3, f3_0⟩ := Boxes.get (p := w.heap.size) (B := B) (N := N) (D := (d : Int)) (M := M) hB2 (by simp)
  clear hB2
  go_wp2_with fail
  have hcv := fun (wr : World) (cap : Nat) (h : wr.cell? ⟨w6.heap.size + 1, 0, none⟩ = some (.int .u8 (m.toNat : Int))) => conv_one wr (w6.heap.size + 1) cap m h
  go_region
  rw [HQ.out]
  clear hcv
  have hW := ((Boxes.new hB.out B N ((d : Int)) y 24).keep ((Below.refl _ _).alloc (Nat.le_refl _) (.cells #[.int .u8 (m.toNat : Int)] 5))).drew
  go_wp2_with fail
  refine (HY.out _).mono ?_
  rintro e w7 ⟨rfl, hb⟩
  have hB2 := Boxes.keep hW hb
  clear hb hB hW l0_0 c0_0 c0_1 c0_2 c0_3 f0_0 l1_0 c1_0 c1_1 c1_2 c1_3 f1_0 l2_0 c2_0 c2_1 c2_2 c2_3 f2_0 l3_0 c3_0 c3_1 c3_2 c3_3 f3_0
  have hB := Lib.hid hB2
  obtain ⟨l0_0, c0_0, c0_1, c0_2, c0_3, f0_0⟩ := Boxes.get (p := w6.heap.size) (B := B) (N := N) (D := (d : Int)) (M := y) hB2 (by simp)
  obtain ⟨l1_0, c1_0, c1_1, c1_2, c1_3, f1_0⟩ := Boxes.get (p := w5.heap.size) (B := B) (N := N) (D := (d : Int)) (M := x) hB2 (by simp)
  obtain ⟨l2_0, c2_0, c2_1, c2_2, c2_3, f2_0⟩ := Boxes.get (p := w4.heap.size) (B := 0) (N := ⟨#[]⟩) (D := 0) (M := ⟨#[]⟩) hB2 (by simp)
  obtain ⟨l3_0, c3_0, c3_1, c3_2, c3_3, f3_0⟩ := Boxes.get (p := w3.heap.size) (B := 0) (N := ⟨#[]⟩) (D := 0) (M := ⟨#[]⟩) hB2 (by simp)
  obtain ⟨l4_0, c4_0, c4_1, c4_2, c4_3, f4_0⟩ := Boxes.get (p := w.heap.size) (B := B) (N := N) (D := (d : Int)) (M := M) hB2 (by simp)
  clear hB2
  go_wp2_with fail
  all_goals go_ret
  all_goals exact ⟨rfl, by have hz := hB.out.bel; repeat (first | exact Below.refl _ _ | apply Below.setCell _ (by first | omega | (simp <;> omega)) | apply Below.alloc _ (by first | omega | (simp <;> omega)) | exact hz | refine after ?_ hz)⟩
set_option maxHeartbeats 8000000 in
theorem km_no_rDyes (B : Int) (N : ByteArray) (d : Nat) (M : ByteArray) (l : Nat) (m : UInt8) (w : World) (sN : N.size ≤ 60) (sM : M.size ≤ 60) (hr : rightB B N d M = true) (hl : l ≤ d) (hx : rightB B N d (putM M d l m) = false) (hq : 0 < d) (hy : rightB B N d (putM M d d m) = true)  :
    Calls Tryd.prog 6 #[.agg #[.int .i64 B, .string N, .int .i64 ((d : Int)), .string M], .int .i64 (l : Int), .int .u8 (m.toNat : Int)] w fun e w' => e = .returned (.bool true) ∧ Below w.heap.size w w' := by
  have hm : M.size = d + 1 ∧ d ≤ 4 := by obtain ⟨d2, hd, h4, hm⟩ := right_bounds hr; omega
  have HP := Lib.hid (fun w => plain_any B N d M w sM)
  rw [hr] at HP
  have HA := Lib.hid (fun w => mark_in B N d M l m w sN sM hr hl)
  have q1 : decide ((l : Int) < 0) = false := decide_eq_false (by omega)
  have q2 : decide ((d : Int) < (l : Int)) = false := decide_eq_false (by omega)
  have q3 : IntKind.i64.wrap ((l : Int) + 1) = (l : Int) + 1 := IntWalk.i64_in _ ⟨by omega, by omega⟩
  have i1 : l ≤ M.size := by omega
  have i2 : l + 1 ≤ M.size := by omega
  have HX := Lib.hid (fun w => refR_any B N d (putM M d l m) w (by rw [putM_size M d l m hm.1 hl]; omega))
  rw [show markV B N d M l m = .tuple #[.agg #[.int .i64 0, .string ⟨#[]⟩, .int .i64 0, .string ⟨#[]⟩], .int .i64 81] by unfold markV; rw [hx]; rfl] at HA
  rw [hx] at HX
  obtain ⟨x, hP⟩ : ∃ x, putM M d l m = x := ⟨_, rfl⟩
  rw [hP] at HX
  have HPX := Lib.hid (show M.extract 0 l ++ ⟨#[m]⟩ ++ M.extract (l + 1) M.size = x by rw [← hP]; unfold putM; rw [hm.1])
  have HE := Lib.hid (fun w => with_in B N d M m w sN sM (by
    have h1 : allB B N d M = true := by unfold allB; rw [hr]; simp
    unfold refB; rw [h1]; simp [hq]) hr)
  have HY := Lib.hid (fun w => refR_any B N d (putM M d d m) w (by rw [putM_size M d d m hm.1 (Nat.le_refl _)]; omega))
  rw [show markV B N d M d m = .tuple #[.agg #[.int .i64 B, .string N, .int .i64 d, .string (putM M d d m)], .int .i64 0] by unfold markV; rw [hy]; rfl] at HE
  rw [hy] at HY
  have hpl := putM_last M d m hm.1
  obtain ⟨y, hQ⟩ : ∃ y, M.extract 0 d ++ ⟨#[m]⟩ = y := ⟨_, rfl⟩
  rw [hQ] at hpl
  rw [hpl] at HE HY
  have HQ := Lib.hid hQ
  have i3 : d ≤ M.size := by omega
  have g0 : ((d : Int) == 0) = false := by simp; omega
  have g0' : (d == 0) = false := by simp; omega
  clear hr hm hx hP hy hpl hQ hq
  go_enter Tryd.func6, Tryd.ntmps6
  go_wp2_with fail
  refine (sorts_any _).mono ?_
  rintro e w1 ⟨rfl, hb⟩
  have hB2 := Boxes.keep ((Boxes.new (Boxes.start w) B N ((d : Int)) M 24)) hb
  clear hb
  have hB := Lib.hid hB2
  obtain ⟨l0_0, c0_0, c0_1, c0_2, c0_3, f0_0⟩ := Boxes.get (p := w.heap.size) (B := B) (N := N) (D := (d : Int)) (M := M) hB2 (by simp)
  clear hB2
  go_wp2_with fail
  refine (small1 _ _ _ _ _ _ (by unfold maxLen; omega) (by unfold maxLen; omega) true (by unfold sm; simp; omega)).mono ?_
  rintro e w2 ⟨rfl, hb⟩
  have hB2 := Boxes.keep (hB.out) hb
  clear hb hB l0_0 c0_0 c0_1 c0_2 c0_3 f0_0
  have hB := Lib.hid hB2
  obtain ⟨l0_0, c0_0, c0_1, c0_2, c0_3, f0_0⟩ := Boxes.get (p := w.heap.size) (B := B) (N := N) (D := (d : Int)) (M := M) hB2 (by simp)
  clear hB2
  go_wp2_with fail
  refine (HA.out _).mono ?_
  rintro e w3 ⟨rfl, hb⟩
  have hB2 := Boxes.keep (hB.out) hb
  clear hb hB l0_0 c0_0 c0_1 c0_2 c0_3 f0_0
  have hB := Lib.hid hB2
  obtain ⟨l0_0, c0_0, c0_1, c0_2, c0_3, f0_0⟩ := Boxes.get (p := w.heap.size) (B := B) (N := N) (D := (d : Int)) (M := M) hB2 (by simp)
  clear hB2
  go_wp2_with fail
  refine (HE.out _).mono ?_
  rintro e w4 ⟨rfl, hb⟩
  have hB2 := Boxes.keep (Boxes.new (hB.out) 0 (⟨#[]⟩) 0 (⟨#[]⟩) 24) hb
  clear hb hB l0_0 c0_0 c0_1 c0_2 c0_3 f0_0
  have hB := Lib.hid hB2
  obtain ⟨l0_0, c0_0, c0_1, c0_2, c0_3, f0_0⟩ := Boxes.get (p := w3.heap.size) (B := 0) (N := ⟨#[]⟩) (D := 0) (M := ⟨#[]⟩) hB2 (by simp)
  obtain ⟨l1_0, c1_0, c1_1, c1_2, c1_3, f1_0⟩ := Boxes.get (p := w.heap.size) (B := B) (N := N) (D := (d : Int)) (M := M) hB2 (by simp)
  clear hB2
  go_wp2_with fail
  refine (HP.out _).mono ?_
  rintro e w5 ⟨rfl, hb⟩
  have hB2 := Boxes.keep (Boxes.new (hB.out) B N ((d : Int)) y 24) hb
  clear hb hB l0_0 c0_0 c0_1 c0_2 c0_3 f0_0 l1_0 c1_0 c1_1 c1_2 c1_3 f1_0
  have hB := Lib.hid hB2
  obtain ⟨l0_0, c0_0, c0_1, c0_2, c0_3, f0_0⟩ := Boxes.get (p := w4.heap.size) (B := B) (N := N) (D := (d : Int)) (M := y) hB2 (by simp)
  obtain ⟨l1_0, c1_0, c1_1, c1_2, c1_3, f1_0⟩ := Boxes.get (p := w3.heap.size) (B := 0) (N := ⟨#[]⟩) (D := 0) (M := ⟨#[]⟩) hB2 (by simp)
  obtain ⟨l2_0, c2_0, c2_1, c2_2, c2_3, f2_0⟩ := Boxes.get (p := w.heap.size) (B := B) (N := N) (D := (d : Int)) (M := M) hB2 (by simp)
  clear hB2
  go_wp2_with fail
  have hcv := fun (wr : World) (cap : Nat) (h : wr.cell? ⟨w5.heap.size + 1, 0, none⟩ = some (.int .u8 (m.toNat : Int))) => conv_one wr (w5.heap.size + 1) cap m h
  go_region
  rw [HPX.out]
  clear hcv
  have hW := ((Boxes.new hB.out B N ((d : Int)) x 24).keep ((Below.refl _ _).alloc (Nat.le_refl _) (.cells #[.int .u8 (m.toNat : Int)] 5))).drew
  go_wp2_with fail
  refine (HX.out _).mono ?_
  rintro e w6 ⟨rfl, hb⟩
  have hB2 := Boxes.keep hW hb
  clear hb hB hW l0_0 c0_0 c0_1 c0_2 c0_3 f0_0 l1_0 c1_0 c1_1 c1_2 c1_3 f1_0 l2_0 c2_0 c2_1 c2_2 c2_3 f2_0
  have hB := Lib.hid hB2
  obtain ⟨l0_0, c0_0, c0_1, c0_2, c0_3, f0_0⟩ := Boxes.get (p := w5.heap.size) (B := B) (N := N) (D := (d : Int)) (M := x) hB2 (by simp)
  obtain ⟨l1_0, c1_0, c1_1, c1_2, c1_3, f1_0⟩ := Boxes.get (p := w4.heap.size) (B := B) (N := N) (D := (d : Int)) (M := y) hB2 (by simp)
  obtain ⟨l2_0, c2_0, c2_1, c2_2, c2_3, f2_0⟩ := Boxes.get (p := w3.heap.size) (B := 0) (N := ⟨#[]⟩) (D := 0) (M := ⟨#[]⟩) hB2 (by simp)
  obtain ⟨l3_0, c3_0, c3_1, c3_2, c3_3, f3_0⟩ := Boxes.get (p := w.heap.size) (B := B) (N := N) (D := (d : Int)) (M := M) hB2 (by simp)
  clear hB2
  go_wp2_with fail
  have hcv := fun (wr : World) (cap : Nat) (h : wr.cell? ⟨w6.heap.size + 1, 0, none⟩ = some (.int .u8 (m.toNat : Int))) => conv_one wr (w6.heap.size + 1) cap m h
  go_region
  rw [HQ.out]
  clear hcv
  have hW := ((Boxes.new hB.out B N ((d : Int)) y 24).keep ((Below.refl _ _).alloc (Nat.le_refl _) (.cells #[.int .u8 (m.toNat : Int)] 5))).drew
  go_wp2_with fail
  refine (HY.out _).mono ?_
  rintro e w7 ⟨rfl, hb⟩
  have hB2 := Boxes.keep hW hb
  clear hb hB hW l0_0 c0_0 c0_1 c0_2 c0_3 f0_0 l1_0 c1_0 c1_1 c1_2 c1_3 f1_0 l2_0 c2_0 c2_1 c2_2 c2_3 f2_0 l3_0 c3_0 c3_1 c3_2 c3_3 f3_0
  have hB := Lib.hid hB2
  obtain ⟨l0_0, c0_0, c0_1, c0_2, c0_3, f0_0⟩ := Boxes.get (p := w6.heap.size) (B := B) (N := N) (D := (d : Int)) (M := y) hB2 (by simp)
  obtain ⟨l1_0, c1_0, c1_1, c1_2, c1_3, f1_0⟩ := Boxes.get (p := w5.heap.size) (B := B) (N := N) (D := (d : Int)) (M := x) hB2 (by simp)
  obtain ⟨l2_0, c2_0, c2_1, c2_2, c2_3, f2_0⟩ := Boxes.get (p := w4.heap.size) (B := B) (N := N) (D := (d : Int)) (M := y) hB2 (by simp)
  obtain ⟨l3_0, c3_0, c3_1, c3_2, c3_3, f3_0⟩ := Boxes.get (p := w3.heap.size) (B := 0) (N := ⟨#[]⟩) (D := 0) (M := ⟨#[]⟩) hB2 (by simp)
  obtain ⟨l4_0, c4_0, c4_1, c4_2, c4_3, f4_0⟩ := Boxes.get (p := w.heap.size) (B := B) (N := N) (D := (d : Int)) (M := M) hB2 (by simp)
  clear hB2
  go_wp2_with fail
  all_goals go_ret
  all_goals exact ⟨rfl, by have hz := hB.out.bel; repeat (first | exact Below.refl _ _ | apply Below.setCell _ (by first | omega | (simp <;> omega)) | apply Below.alloc _ (by first | omega | (simp <;> omega)) | exact hz | refine after ?_ hz)⟩
set_option maxHeartbeats 8000000 in
theorem km_no_rDno (B : Int) (N : ByteArray) (d : Nat) (M : ByteArray) (l : Nat) (m : UInt8) (w : World) (sN : N.size ≤ 60) (sM : M.size ≤ 60) (hr : rightB B N d M = true) (hl : l ≤ d) (hx : rightB B N d (putM M d l m) = false) (hq : 0 < d) (hy : rightB B N d (putM M d d m) = false)  :
    Calls Tryd.prog 6 #[.agg #[.int .i64 B, .string N, .int .i64 ((d : Int)), .string M], .int .i64 (l : Int), .int .u8 (m.toNat : Int)] w fun e w' => e = .returned (.bool true) ∧ Below w.heap.size w w' := by
  have hm : M.size = d + 1 ∧ d ≤ 4 := by obtain ⟨d2, hd, h4, hm⟩ := right_bounds hr; omega
  have HP := Lib.hid (fun w => plain_any B N d M w sM)
  rw [hr] at HP
  have HA := Lib.hid (fun w => mark_in B N d M l m w sN sM hr hl)
  have q1 : decide ((l : Int) < 0) = false := decide_eq_false (by omega)
  have q2 : decide ((d : Int) < (l : Int)) = false := decide_eq_false (by omega)
  have q3 : IntKind.i64.wrap ((l : Int) + 1) = (l : Int) + 1 := IntWalk.i64_in _ ⟨by omega, by omega⟩
  have i1 : l ≤ M.size := by omega
  have i2 : l + 1 ≤ M.size := by omega
  have HX := Lib.hid (fun w => refR_any B N d (putM M d l m) w (by rw [putM_size M d l m hm.1 hl]; omega))
  rw [show markV B N d M l m = .tuple #[.agg #[.int .i64 0, .string ⟨#[]⟩, .int .i64 0, .string ⟨#[]⟩], .int .i64 81] by unfold markV; rw [hx]; rfl] at HA
  rw [hx] at HX
  obtain ⟨x, hP⟩ : ∃ x, putM M d l m = x := ⟨_, rfl⟩
  rw [hP] at HX
  have HPX := Lib.hid (show M.extract 0 l ++ ⟨#[m]⟩ ++ M.extract (l + 1) M.size = x by rw [← hP]; unfold putM; rw [hm.1])
  have HE := Lib.hid (fun w => with_in B N d M m w sN sM (by
    have h1 : allB B N d M = true := by unfold allB; rw [hr]; simp
    unfold refB; rw [h1]; simp [hq]) hr)
  have HY := Lib.hid (fun w => refR_any B N d (putM M d d m) w (by rw [putM_size M d d m hm.1 (Nat.le_refl _)]; omega))
  rw [show markV B N d M d m = .tuple #[.agg #[.int .i64 0, .string ⟨#[]⟩, .int .i64 0, .string ⟨#[]⟩], .int .i64 81] by unfold markV; rw [hy]; rfl] at HE
  rw [hy] at HY
  have hpl := putM_last M d m hm.1
  obtain ⟨y, hQ⟩ : ∃ y, M.extract 0 d ++ ⟨#[m]⟩ = y := ⟨_, rfl⟩
  rw [hQ] at hpl
  rw [hpl] at HY
  have HQ := Lib.hid hQ
  have i3 : d ≤ M.size := by omega
  have g0 : ((d : Int) == 0) = false := by simp; omega
  have g0' : (d == 0) = false := by simp; omega
  clear hr hm hx hP hy hpl hQ hq
  go_enter Tryd.func6, Tryd.ntmps6
  go_wp2_with fail
  refine (sorts_any _).mono ?_
  rintro e w1 ⟨rfl, hb⟩
  have hB2 := Boxes.keep ((Boxes.new (Boxes.start w) B N ((d : Int)) M 24)) hb
  clear hb
  have hB := Lib.hid hB2
  obtain ⟨l0_0, c0_0, c0_1, c0_2, c0_3, f0_0⟩ := Boxes.get (p := w.heap.size) (B := B) (N := N) (D := (d : Int)) (M := M) hB2 (by simp)
  clear hB2
  go_wp2_with fail
  refine (small1 _ _ _ _ _ _ (by unfold maxLen; omega) (by unfold maxLen; omega) true (by unfold sm; simp; omega)).mono ?_
  rintro e w2 ⟨rfl, hb⟩
  have hB2 := Boxes.keep (hB.out) hb
  clear hb hB l0_0 c0_0 c0_1 c0_2 c0_3 f0_0
  have hB := Lib.hid hB2
  obtain ⟨l0_0, c0_0, c0_1, c0_2, c0_3, f0_0⟩ := Boxes.get (p := w.heap.size) (B := B) (N := N) (D := (d : Int)) (M := M) hB2 (by simp)
  clear hB2
  go_wp2_with fail
  refine (HA.out _).mono ?_
  rintro e w3 ⟨rfl, hb⟩
  have hB2 := Boxes.keep (hB.out) hb
  clear hb hB l0_0 c0_0 c0_1 c0_2 c0_3 f0_0
  have hB := Lib.hid hB2
  obtain ⟨l0_0, c0_0, c0_1, c0_2, c0_3, f0_0⟩ := Boxes.get (p := w.heap.size) (B := B) (N := N) (D := (d : Int)) (M := M) hB2 (by simp)
  clear hB2
  go_wp2_with fail
  refine (HE.out _).mono ?_
  rintro e w4 ⟨rfl, hb⟩
  have hB2 := Boxes.keep (Boxes.new (hB.out) 0 (⟨#[]⟩) 0 (⟨#[]⟩) 24) hb
  clear hb hB l0_0 c0_0 c0_1 c0_2 c0_3 f0_0
  have hB := Lib.hid hB2
  obtain ⟨l0_0, c0_0, c0_1, c0_2, c0_3, f0_0⟩ := Boxes.get (p := w3.heap.size) (B := 0) (N := ⟨#[]⟩) (D := 0) (M := ⟨#[]⟩) hB2 (by simp)
  obtain ⟨l1_0, c1_0, c1_1, c1_2, c1_3, f1_0⟩ := Boxes.get (p := w.heap.size) (B := B) (N := N) (D := (d : Int)) (M := M) hB2 (by simp)
  clear hB2
  go_wp2_with fail
  refine (HP.out _).mono ?_
  rintro e w5 ⟨rfl, hb⟩
  have hB2 := Boxes.keep (Boxes.new (hB.out) 0 (⟨#[]⟩) 0 (⟨#[]⟩) 24) hb
  clear hb hB l0_0 c0_0 c0_1 c0_2 c0_3 f0_0 l1_0 c1_0 c1_1 c1_2 c1_3 f1_0
  have hB := Lib.hid hB2
  obtain ⟨l0_0, c0_0, c0_1, c0_2, c0_3, f0_0⟩ := Boxes.get (p := w4.heap.size) (B := 0) (N := ⟨#[]⟩) (D := 0) (M := ⟨#[]⟩) hB2 (by simp)
  obtain ⟨l1_0, c1_0, c1_1, c1_2, c1_3, f1_0⟩ := Boxes.get (p := w3.heap.size) (B := 0) (N := ⟨#[]⟩) (D := 0) (M := ⟨#[]⟩) hB2 (by simp)
  obtain ⟨l2_0, c2_0, c2_1, c2_2, c2_3, f2_0⟩ := Boxes.get (p := w.heap.size) (B := B) (N := N) (D := (d : Int)) (M := M) hB2 (by simp)
  clear hB2
  go_wp2_with fail
  have hcv := fun (wr : World) (cap : Nat) (h : wr.cell? ⟨w5.heap.size + 1, 0, none⟩ = some (.int .u8 (m.toNat : Int))) => conv_one wr (w5.heap.size + 1) cap m h
  go_region
  rw [HPX.out]
  clear hcv
  have hW := ((Boxes.new hB.out B N ((d : Int)) x 24).keep ((Below.refl _ _).alloc (Nat.le_refl _) (.cells #[.int .u8 (m.toNat : Int)] 5))).drew
  go_wp2_with fail
  refine (HX.out _).mono ?_
  rintro e w6 ⟨rfl, hb⟩
  have hB2 := Boxes.keep hW hb
  clear hb hB hW l0_0 c0_0 c0_1 c0_2 c0_3 f0_0 l1_0 c1_0 c1_1 c1_2 c1_3 f1_0 l2_0 c2_0 c2_1 c2_2 c2_3 f2_0
  have hB := Lib.hid hB2
  obtain ⟨l0_0, c0_0, c0_1, c0_2, c0_3, f0_0⟩ := Boxes.get (p := w5.heap.size) (B := B) (N := N) (D := (d : Int)) (M := x) hB2 (by simp)
  obtain ⟨l1_0, c1_0, c1_1, c1_2, c1_3, f1_0⟩ := Boxes.get (p := w4.heap.size) (B := 0) (N := ⟨#[]⟩) (D := 0) (M := ⟨#[]⟩) hB2 (by simp)
  obtain ⟨l2_0, c2_0, c2_1, c2_2, c2_3, f2_0⟩ := Boxes.get (p := w3.heap.size) (B := 0) (N := ⟨#[]⟩) (D := 0) (M := ⟨#[]⟩) hB2 (by simp)
  obtain ⟨l3_0, c3_0, c3_1, c3_2, c3_3, f3_0⟩ := Boxes.get (p := w.heap.size) (B := B) (N := N) (D := (d : Int)) (M := M) hB2 (by simp)
  clear hB2
  go_wp2_with fail
  have hcv := fun (wr : World) (cap : Nat) (h : wr.cell? ⟨w6.heap.size + 1, 0, none⟩ = some (.int .u8 (m.toNat : Int))) => conv_one wr (w6.heap.size + 1) cap m h
  go_region
  rw [HQ.out]
  clear hcv
  have hW := ((Boxes.new hB.out B N ((d : Int)) y 24).keep ((Below.refl _ _).alloc (Nat.le_refl _) (.cells #[.int .u8 (m.toNat : Int)] 5))).drew
  go_wp2_with fail
  refine (HY.out _).mono ?_
  rintro e w7 ⟨rfl, hb⟩
  have hB2 := Boxes.keep hW hb
  clear hb hB hW l0_0 c0_0 c0_1 c0_2 c0_3 f0_0 l1_0 c1_0 c1_1 c1_2 c1_3 f1_0 l2_0 c2_0 c2_1 c2_2 c2_3 f2_0 l3_0 c3_0 c3_1 c3_2 c3_3 f3_0
  have hB := Lib.hid hB2
  obtain ⟨l0_0, c0_0, c0_1, c0_2, c0_3, f0_0⟩ := Boxes.get (p := w6.heap.size) (B := B) (N := N) (D := (d : Int)) (M := y) hB2 (by simp)
  obtain ⟨l1_0, c1_0, c1_1, c1_2, c1_3, f1_0⟩ := Boxes.get (p := w5.heap.size) (B := B) (N := N) (D := (d : Int)) (M := x) hB2 (by simp)
  obtain ⟨l2_0, c2_0, c2_1, c2_2, c2_3, f2_0⟩ := Boxes.get (p := w4.heap.size) (B := 0) (N := ⟨#[]⟩) (D := 0) (M := ⟨#[]⟩) hB2 (by simp)
  obtain ⟨l3_0, c3_0, c3_1, c3_2, c3_3, f3_0⟩ := Boxes.get (p := w3.heap.size) (B := 0) (N := ⟨#[]⟩) (D := 0) (M := ⟨#[]⟩) hB2 (by simp)
  obtain ⟨l4_0, c4_0, c4_1, c4_2, c4_3, f4_0⟩ := Boxes.get (p := w.heap.size) (B := B) (N := N) (D := (d : Int)) (M := M) hB2 (by simp)
  clear hB2
  go_wp2_with fail
  all_goals go_ret
  all_goals exact ⟨rfl, by have hz := hB.out.bel; repeat (first | exact Below.refl _ _ | apply Below.setCell _ (by first | omega | (simp <;> omega)) | apply Below.alloc _ (by first | omega | (simp <;> omega)) | exact hz | refine after ?_ hz)⟩
end Go.Proofs.YtdkpmpkoelckoaaDoor
