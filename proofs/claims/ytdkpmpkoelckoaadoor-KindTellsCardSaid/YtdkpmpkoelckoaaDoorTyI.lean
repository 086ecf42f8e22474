/- Contract of kind.Array. -/
import Derived.Test.YtdkpmpkoelckoaaDoorTyH
namespace Go.Proofs.YtdkpmpkoelckoaaDoor
open Go Go.RowKit
set_option linter.unusedVariables false
set_option linter.unusedSimpArgs false
theorem TyAt.drew {w : World} {p : Nat} {B : Int} {N : ByteArray} {D : Int} {M : ByteArray} (h : TyAt w p B N D M) : TyAt w.drew p B N D M := h.keep ((Below.refl _ _).drew)
theorem out_right {B : Int} {N : ByteArray} {D : Int} {M : ByteArray} (h : rightB B N D M = true) : outS B N D M = byS M D.toNat := by
  unfold outS allB; rw [h]; simp

set_option maxHeartbeats 4000000 in
theorem array_no1 (B : Int) (N : ByteArray) (D : Int) (M : ByteArray) (w : World) (hN : N.size ≤ 60) (hM : M.size ≤ 59) (h : rightB B N D M = false) :
    Calls Tryd.prog 30 #[.agg #[.int .i64 B, .string N, .int .i64 D, .string M]] w fun e w' => e = .returned (.tuple #[.agg #[.int .i64 0, .string ⟨#[]⟩, .int .i64 0, .string ⟨#[]⟩], .int .i64 130]) ∧ Below w.heap.size w w' := by
  have HR := Lib.hid (fun w => kmay_any B N D M w hN (by omega))
  rw [h] at HR
  go_enter Tryd.func30, Tryd.ntmps30
  go_wp2_with fail
  refine (HR.out _).mono ?_
  rintro e w1 ⟨rfl, hb1⟩
  obtain ⟨hq1, hA1, hR1⟩ := box42 hb1
  have hA := Lib.hid hA1
  have hR := Lib.hid hR1
  obtain ⟨hl1, c10, c11, c12, c13, f1⟩ := hA1
  obtain ⟨gl1, g10, g11, g12, g13, e1⟩ := hR1
  go_wp2_with fail
  refine bodyPost_ret (v := .tuple #[.agg #[.int .i64 0, .string ⟨#[]⟩, .int .i64 0, .string ⟨#[]⟩], .int .i64 130]) (by simp [results, Tryd.results30, go_sem, g10, g11, g12, g13]) rfl ?_
  exact ⟨rfl, by repeat (first | exact Below.refl _ _ | apply Below.setCell _ (by first | omega | (simp <;> omega)) | apply Below.alloc _ (by first | omega | (simp <;> omega)) | exact hq1 | refine after ?_ hq1)⟩
set_option maxHeartbeats 4000000 in
theorem array_no2 (N : ByteArray) (D : Int) (M : ByteArray) (w : World) (hN : N.size ≤ 60) (hM : M.size ≤ 59) (h : rightB 6 N D M = true) :
    Calls Tryd.prog 30 #[.agg #[.int .i64 6, .string N, .int .i64 D, .string M]] w fun e w' => e = .returned (.tuple #[.agg #[.int .i64 0, .string ⟨#[]⟩, .int .i64 0, .string ⟨#[]⟩], .int .i64 130]) ∧ Below w.heap.size w w' := by
  have HR := Lib.hid (fun w => kmay_any 6 N D M w hN (by omega))
  rw [h] at HR
  go_enter Tryd.func30, Tryd.ntmps30
  go_wp2_with fail
  refine (HR.out _).mono ?_
  rintro e w1 ⟨rfl, hb1⟩
  obtain ⟨hq1, hA1, hR1⟩ := box42 hb1
  have hA := Lib.hid hA1
  have hR := Lib.hid hR1
  obtain ⟨hl1, c10, c11, c12, c13, f1⟩ := hA1
  obtain ⟨gl1, g10, g11, g12, g13, e1⟩ := hR1
  go_wp2_with fail
  refine bodyPost_ret (v := .tuple #[.agg #[.int .i64 0, .string ⟨#[]⟩, .int .i64 0, .string ⟨#[]⟩], .int .i64 130]) (by simp [results, Tryd.results30, go_sem, g10, g11, g12, g13]) rfl ?_
  exact ⟨rfl, by repeat (first | exact Below.refl _ _ | apply Below.setCell _ (by first | omega | (simp <;> omega)) | apply Below.alloc _ (by first | omega | (simp <;> omega)) | exact hq1 | refine after ?_ hq1)⟩
set_option maxHeartbeats 4000000 in
theorem array_no3 (B : Int) (N : ByteArray) (D : Int) (M : ByteArray) (w : World) (hN : N.size ≤ 60) (hM : M.size ≤ 59) (h : rightB B N D M = true) (h6 : ¬ B = 6) (ho : outS B N D M = 111) :
    Calls Tryd.prog 30 #[.agg #[.int .i64 B, .string N, .int .i64 D, .string M]] w fun e w' => e = .returned (.tuple #[.agg #[.int .i64 0, .string ⟨#[]⟩, .int .i64 0, .string ⟨#[]⟩], .int .i64 130]) ∧ Below w.heap.size w w' := by
  have HR := Lib.hid (fun w => kmay_any B N D M w hN (by omega))
  have HO := Lib.hid (fun w => outer_any B N D M w hN (by omega))
  rw [ho] at HO
  rw [h] at HR
  have q6 : (B == 6) = false := by simpa using h6
  clear ho h h6
  go_enter Tryd.func30, Tryd.ntmps30
  go_wp2_with fail
  refine (HR.out _).mono ?_
  rintro e w1 ⟨rfl, hb1⟩
  obtain ⟨hq1, hA1, hR1⟩ := box42 hb1
  have hA := Lib.hid hA1
  have hR := Lib.hid hR1
  obtain ⟨hl1, c10, c11, c12, c13, f1⟩ := hA1
  obtain ⟨gl1, g10, g11, g12, g13, e1⟩ := hR1
  go_wp2_with fail
  refine (HO.out _).mono ?_
  rintro e w2 ⟨rfl, hb2⟩
  have hA2 := hA.out.keep hb2
  have hR2 := hR.out.keep hb2
  have hq2 := after hq1 hb2
  clear hb1 hb2 hA hR hl1 c10 c11 c12 c13 f1 gl1 g10 g11 g12 g13 e1
  have hA := Lib.hid hA2
  have hR := Lib.hid hR2
  obtain ⟨hl2, c20, c21, c22, c23, f2⟩ := hA2
  obtain ⟨gl2, g20, g21, g22, g23, e2⟩ := hR2
  go_wp2_with fail
  refine bodyPost_ret (v := .tuple #[.agg #[.int .i64 0, .string ⟨#[]⟩, .int .i64 0, .string ⟨#[]⟩], .int .i64 130]) (by simp [results, Tryd.results30, go_sem, g20, g21, g22, g23]) rfl ?_
  exact ⟨rfl, by repeat (first | exact Below.refl _ _ | apply Below.setCell _ (by first | omega | (simp <;> omega)) | apply Below.alloc _ (by first | omega | (simp <;> omega)) | exact hq2 | refine after ?_ hq2)⟩

/-- what Array answers -/
def arrayV (B : Int) (N : ByteArray) (d : Nat) (M : ByteArray) : Value :=
  if rightB B N ((d : Int) + 1) (M ++ blankS 1) = true then .tuple #[.agg #[.int .i64 B, .string N, .int .i64 ((d : Int) + 1), .string (M ++ blankS 1)], .int .i64 0] else .tuple #[.agg #[.int .i64 0, .string ⟨#[]⟩, .int .i64 0, .string ⟨#[]⟩], .int .i64 2]
set_option maxHeartbeats 4000000 in
theorem array_in (B : Int) (N : ByteArray) (d : Nat) (M : ByteArray) (w : World) (hN : N.size ≤ 60) (hM : M.size ≤ 59) (h : rightB B N d M = true) (h6 : ¬ B = 6) (ho : outS B N d M ≠ 111) :
    Calls Tryd.prog 30 #[.agg #[.int .i64 B, .string N, .int .i64 d, .string M]] w fun e w' => e = .returned (arrayV B N d M) ∧ Below w.heap.size w w' := by
  have HR := Lib.hid (fun w => kmay_any B N d M w hN (by omega))
  have HO := Lib.hid (fun w => outer_any B N d M w hN (by omega))
  have HB := Lib.hid (fun w => blanks_any 1 w (by omega))
  have hz := Lib.hid (show (M ++ blankS 1).size ≤ 60 by rw [ByteArray.size_append, blankS_size]; omega)
  rw [h] at HR
  cases hx : rightB B N ((d : Int) + 1) (M ++ blankS 1)
  · have HW := Lib.hid (fun w => written_no B N ((d : Int) + 1) (M ++ blankS 1) 2 w hN hz.out hx)
    have E := Lib.hid (show arrayV B N d M = .tuple #[.agg #[.int .i64 0, .string ⟨#[]⟩, .int .i64 0, .string ⟨#[]⟩], .int .i64 2] by unfold arrayV; rw [hx]; rfl)
    clear hx
    obtain ⟨d', hd', hd4, hm⟩ := right_bounds h
    obtain rfl : d' = d := by omega
    have q6 : (B == 6) = false := by simpa using h6
    have q7 : ((outS B N (d' : Int) M : Int) == 111) = false := by simp; omega
    have q3 : IntKind.i64.wrap ((d' : Int) + 1) = (d' : Int) + 1 := IntWalk.i64_in _ ⟨by omega, by omega⟩
    clear ho h h6 hd'
    have hbs : (blankS 1).size ≤ 1 := by rw [blankS_size]; omega
    generalize blankS 1 = bl at *
    generalize outS B N (d' : Int) M = oo at *
    go_enter Tryd.func30, Tryd.ntmps30
    go_wp2_with fail
    refine (HR.out _).mono ?_
    rintro e w1 ⟨rfl, hb1⟩
    obtain ⟨hq1, hA1, hR1⟩ := box42 hb1
    have hA := Lib.hid hA1
    have hR := Lib.hid hR1
    obtain ⟨hl1, c10, c11, c12, c13, f1⟩ := hA1
    obtain ⟨gl1, g10, g11, g12, g13, e1⟩ := hR1
    go_wp2_with fail
    refine (HO.out _).mono ?_
    rintro e w2 ⟨rfl, hb2⟩
    have hA2 := hA.out.keep hb2
    have hR2 := hR.out.keep hb2
    have hq2 := after hq1 hb2
    clear hb1 hb2 hA hR hl1 c10 c11 c12 c13 f1 gl1 g10 g11 g12 g13 e1
    have hA := Lib.hid hA2
    have hR := Lib.hid hR2
    obtain ⟨hl2, c20, c21, c22, c23, f2⟩ := hA2
    obtain ⟨gl2, g20, g21, g22, g23, e2⟩ := hR2
    go_wp2_with fail
    have hA3 := (hA.out.put2 (D' := (d' : Int) + 1)).drew
    have hR3 := hR.out.other (q := w.heap.size) (k := 2) (v := .int .i64 ((d' : Int) + 1)) (by omega)
    have hR3 := hR3.drew
    have hq3 : Below w.heap.size w (w2.setCell ⟨w.heap.size, 2, none⟩ (.int .i64 ((d' : Int) + 1))).drew := Below.drew (by repeat (first | exact Below.refl _ _ | apply Below.setCell _ (by first | omega | (simp <;> omega)) | apply Below.alloc _ (by first | omega | (simp <;> omega)) | exact hq2 | refine after ?_ hq2))
    go_region_with (first | (go_at_call 34; refine (HB.out _).mono ?_; rintro e w3 ⟨rfl, hb3⟩; have hA4 := Lib.hid (hA3.keep hb3); obtain ⟨hl4, c40, c41, c42, c43, f4⟩ := hA3.keep hb3))
    all_goals
      have hA5 := hA4.out.put3 (M' := M ++ bl)
      have hR5 := Lib.hid ((hR3.keep hb3).other (q := w.heap.size) (k := 3) (v := .string (M ++ bl)) (by omega))
      have hq5 : Below w.heap.size w (w3.setCell ⟨w.heap.size, 3, none⟩ (.string (M ++ bl))) := (after hq3 hb3).setCell (Nat.le_refl _) _
      clear hA hR hl2 c20 c21 c22 c23 f2 gl2 g20 g21 g22 g23 e2 hA3 hR3 hq3 hb3 hA4 hl4 c40 c41 c42 c43 f4
      obtain ⟨hl5, c50, c51, c52, c53, f5⟩ := hA5
      go_wp2_with fail
      refine (HW.out _).mono ?_
      rintro e w4 ⟨rfl, hb4⟩
      have hR6 := hR5.out.keep hb4
      have hq6 := after hq5 hb4
      clear hR5 hb4 hl5 c50 c51 c52 c53 f5
      obtain ⟨gl6, g60, g61, g62, g63, e6⟩ := hR6
      go_wp2_with fail
      refine bodyPost_ret (v := .tuple #[.agg #[.int .i64 0, .string ⟨#[]⟩, .int .i64 0, .string ⟨#[]⟩], .int .i64 2]) (by simp [results, Tryd.results30, go_sem, g60, g61, g62, g63]) rfl ?_
      exact ⟨by rw [E.out], by repeat (first | exact Below.refl _ _ | apply Below.setCell _ (by first | omega | (simp <;> omega)) | apply Below.alloc _ (by first | omega | (simp <;> omega)) | exact hq6 | refine after ?_ hq6)⟩
  · have HW := Lib.hid (fun w => written_yes B N ((d : Int) + 1) (M ++ blankS 1) 2 w hN hz.out hx)
    have E := Lib.hid (show arrayV B N d M = .tuple #[.agg #[.int .i64 B, .string N, .int .i64 ((d : Int) + 1), .string (M ++ blankS 1)], .int .i64 0] by unfold arrayV; rw [hx]; rfl)
    clear hx
    obtain ⟨d', hd', hd4, hm⟩ := right_bounds h
    obtain rfl : d' = d := by omega
    have q6 : (B == 6) = false := by simpa using h6
    have q7 : ((outS B N (d' : Int) M : Int) == 111) = false := by simp; omega
    have q3 : IntKind.i64.wrap ((d' : Int) + 1) = (d' : Int) + 1 := IntWalk.i64_in _ ⟨by omega, by omega⟩
    clear ho h h6 hd'
    have hbs : (blankS 1).size ≤ 1 := by rw [blankS_size]; omega
    generalize blankS 1 = bl at *
    generalize outS B N (d' : Int) M = oo at *
    go_enter Tryd.func30, Tryd.ntmps30
    go_wp2_with fail
    refine (HR.out _).mono ?_
    rintro e w1 ⟨rfl, hb1⟩
    obtain ⟨hq1, hA1, hR1⟩ := box42 hb1
    have hA := Lib.hid hA1
    have hR := Lib.hid hR1
    obtain ⟨hl1, c10, c11, c12, c13, f1⟩ := hA1
    obtain ⟨gl1, g10, g11, g12, g13, e1⟩ := hR1
    go_wp2_with fail
    refine (HO.out _).mono ?_
    rintro e w2 ⟨rfl, hb2⟩
    have hA2 := hA.out.keep hb2
    have hR2 := hR.out.keep hb2
    have hq2 := after hq1 hb2
    clear hb1 hb2 hA hR hl1 c10 c11 c12 c13 f1 gl1 g10 g11 g12 g13 e1
    have hA := Lib.hid hA2
    have hR := Lib.hid hR2
    obtain ⟨hl2, c20, c21, c22, c23, f2⟩ := hA2
    obtain ⟨gl2, g20, g21, g22, g23, e2⟩ := hR2
    go_wp2_with fail
    have hA3 := (hA.out.put2 (D' := (d' : Int) + 1)).drew
    have hR3 := hR.out.other (q := w.heap.size) (k := 2) (v := .int .i64 ((d' : Int) + 1)) (by omega)
    have hR3 := hR3.drew
    have hq3 : Below w.heap.size w (w2.setCell ⟨w.heap.size, 2, none⟩ (.int .i64 ((d' : Int) + 1))).drew := Below.drew (by repeat (first | exact Below.refl _ _ | apply Below.setCell _ (by first | omega | (simp <;> omega)) | apply Below.alloc _ (by first | omega | (simp <;> omega)) | exact hq2 | refine after ?_ hq2))
    go_region_with (first | (go_at_call 34; refine (HB.out _).mono ?_; rintro e w3 ⟨rfl, hb3⟩; have hA4 := Lib.hid (hA3.keep hb3); obtain ⟨hl4, c40, c41, c42, c43, f4⟩ := hA3.keep hb3))
    all_goals
      have hA5 := hA4.out.put3 (M' := M ++ bl)
      have hR5 := Lib.hid ((hR3.keep hb3).other (q := w.heap.size) (k := 3) (v := .string (M ++ bl)) (by omega))
      have hq5 : Below w.heap.size w (w3.setCell ⟨w.heap.size, 3, none⟩ (.string (M ++ bl))) := (after hq3 hb3).setCell (Nat.le_refl _) _
      clear hA hR hl2 c20 c21 c22 c23 f2 gl2 g20 g21 g22 g23 e2 hA3 hR3 hq3 hb3 hA4 hl4 c40 c41 c42 c43 f4
      obtain ⟨hl5, c50, c51, c52, c53, f5⟩ := hA5
      go_wp2_with fail
      refine (HW.out _).mono ?_
      rintro e w4 ⟨rfl, hb4⟩
      have hR6 := hR5.out.keep hb4
      have hq6 := after hq5 hb4
      clear hR5 hb4 hl5 c50 c51 c52 c53 f5
      obtain ⟨gl6, g60, g61, g62, g63, e6⟩ := hR6
      go_wp2_with fail
      refine bodyPost_ret (v := .tuple #[.agg #[.int .i64 B, .string N, .int .i64 ((d' : Int) + 1), .string (M ++ bl)], .int .i64 0]) (by simp [results, Tryd.results30, go_sem, g60, g61, g62, g63]) rfl ?_
      exact ⟨by rw [E.out], by repeat (first | exact Below.refl _ _ | apply Below.setCell _ (by first | omega | (simp <;> omega)) | apply Below.alloc _ (by first | omega | (simp <;> omega)) | exact hq6 | refine after ?_ hq6)⟩
end Go.Proofs.YtdkpmpkoelckoaaDoor
