/- Contracts of kind.Mark and With. -/
import Derived.Test.YtdkpmpkoelckoaaDoorTyG
import Derived.Lib.ConvBytes
import Derived.Laws.IdiomStrings
namespace Go.Proofs.YtdkpmpkoelckoaaDoor
open Go Go.RowKit
set_option linter.unusedVariables false
set_option linter.unusedSimpArgs false

set_option maxHeartbeats 2000000 in
theorem mark_kind (B : Int) (N : ByteArray) (D : Int) (M : ByteArray) (l : Int) (m : UInt8) (w : World) (hN : N.size ≤ 60) (hM : M.size ≤ 60) (h : rightB B N D M = false) :
    Calls Tryd.prog 28 #[.agg #[.int .i64 B, .string N, .int .i64 D, .string M], .int .i64 l, .int .u8 (m.toNat : Int)] w fun e w' => e = .returned (.tuple #[.agg #[.int .i64 0, .string ⟨#[]⟩, .int .i64 0, .string ⟨#[]⟩], .int .i64 130]) ∧ Below w.heap.size w w' := by
  have HR := Lib.hid (fun w => kmay_any B N D M w hN hM)
  rw [h] at HR
  generalize m.toNat = mm at *
  go_enter Tryd.func28, Tryd.ntmps28
  go_wp2_with fail
  refine (HR.out _).mono ?_
  rintro e w1 ⟨rfl, hb1⟩
  obtain ⟨hq1, hA1, hR1⟩ := box42 hb1
  have hA := Lib.hid hA1
  have hR := Lib.hid hR1
  obtain ⟨hl1, c10, c11, c12, c13, f1⟩ := hA1
  obtain ⟨gl1, g10, g11, g12, g13, e1⟩ := hR1
  go_wp2_with fail
  refine bodyPost_ret (v := .tuple #[.agg #[.int .i64 0, .string ⟨#[]⟩, .int .i64 0, .string ⟨#[]⟩], .int .i64 130]) (by simp [results, Tryd.results28, go_sem, g10, g11, g12, g13]) rfl ?_
  exact ⟨rfl, by repeat (first | exact Below.refl _ _ | apply Below.setCell _ (by first | omega | (simp <;> omega)) | apply Below.alloc _ (by first | omega | (simp <;> omega)) | exact hq1 | refine after ?_ hq1)⟩
set_option maxHeartbeats 2000000 in
theorem mark_range (B : Int) (N : ByteArray) (D : Int) (M : ByteArray) (l : Int) (m : UInt8) (w : World) (hN : N.size ≤ 60) (hM : M.size ≤ 60) (h : rightB B N D M = true) (hl : l < 0 ∨ D < l) :
    Calls Tryd.prog 28 #[.agg #[.int .i64 B, .string N, .int .i64 D, .string M], .int .i64 l, .int .u8 (m.toNat : Int)] w fun e w' => e = .returned (.tuple #[.agg #[.int .i64 0, .string ⟨#[]⟩, .int .i64 0, .string ⟨#[]⟩], .int .i64 1]) ∧ Below w.heap.size w w' := by
  have HR := Lib.hid (fun w => kmay_any B N D M w hN hM)
  rw [h] at HR
  generalize m.toNat = mm at *
  by_cases h0 : l < 0
  · have q : decide (l < 0) = true := decide_eq_true h0
    clear hl
    go_enter Tryd.func28, Tryd.ntmps28
    go_wp2_with fail
    refine (HR.out _).mono ?_
    rintro e w1 ⟨rfl, hb1⟩
    obtain ⟨hq1, hA1, hR1⟩ := box42 hb1
    have hA := Lib.hid hA1
    have hR := Lib.hid hR1
    obtain ⟨hl1, c10, c11, c12, c13, f1⟩ := hA1
    obtain ⟨gl1, g10, g11, g12, g13, e1⟩ := hR1
    go_wp2_with fail
    refine bodyPost_ret (v := .tuple #[.agg #[.int .i64 0, .string ⟨#[]⟩, .int .i64 0, .string ⟨#[]⟩], .int .i64 1]) (by simp [results, Tryd.results28, go_sem, g10, g11, g12, g13]) rfl ?_
    exact ⟨rfl, by repeat (first | exact Below.refl _ _ | apply Below.setCell _ (by first | omega | (simp <;> omega)) | apply Below.alloc _ (by first | omega | (simp <;> omega)) | exact hq1 | refine after ?_ hq1)⟩
  · have q : decide (l < 0) = false := decide_eq_false h0
    have q2 : decide (D < l) = true := decide_eq_true (by omega)
    clear hl
    go_enter Tryd.func28, Tryd.ntmps28
    go_wp2_with fail
    refine (HR.out _).mono ?_
    rintro e w1 ⟨rfl, hb1⟩
    obtain ⟨hq1, hA1, hR1⟩ := box42 hb1
    have hA := Lib.hid hA1
    have hR := Lib.hid hR1
    obtain ⟨hl1, c10, c11, c12, c13, f1⟩ := hA1
    obtain ⟨gl1, g10, g11, g12, g13, e1⟩ := hR1
    go_wp2_with fail
    refine bodyPost_ret (v := .tuple #[.agg #[.int .i64 0, .string ⟨#[]⟩, .int .i64 0, .string ⟨#[]⟩], .int .i64 1]) (by simp [results, Tryd.results28, go_sem, g10, g11, g12, g13]) rfl ?_
    exact ⟨rfl, by repeat (first | exact Below.refl _ _ | apply Below.setCell _ (by first | omega | (simp <;> omega)) | apply Below.alloc _ (by first | omega | (simp <;> omega)) | exact hq1 | refine after ?_ hq1)⟩

theorem conv_one (wr : World) (b cap : Nat) (m : UInt8) (h : wr.cell? ⟨b, 0, none⟩ = some (.int .u8 (m.toNat : Int))) : (convert 41 9 (.slice (some ⟨b, 0, none⟩) 1 cap)).run Tryd.prog wr = .ok (.string ⟨#[m]⟩) wr := by
  have := run_convert_bytes_back (P := Tryd.prog) wr 41 9 5 ⟨b, 0, none⟩ cap [m] Tryd.underlying41 Tryd.underlying5 Tryd.underlying9 (fun j hj => by
    have h0 : j = 0 := by simpa using hj
    subst h0
    exact h)
  exact this
/-- a type's marks with another one at a layer -/
def putM (M : ByteArray) (d l : Nat) (m : UInt8) : ByteArray := M.extract 0 l ++ ⟨#[m]⟩ ++ M.extract (l + 1) (d + 1)
theorem putM_size (M : ByteArray) (d l : Nat) (m : UInt8) (hm : M.size = d + 1) (hl : l ≤ d) : (putM M d l m).size = d + 1 := by
  unfold putM
  rw [ByteArray.size_append, ByteArray.size_append, ByteArray.size_extract, ByteArray.size_extract, show (⟨#[m]⟩ : ByteArray).size = 1 from rfl]
  omega
/-- what Mark answers -/
def markV (B : Int) (N : ByteArray) (d : Nat) (M : ByteArray) (l : Nat) (m : UInt8) : Value :=
  if rightB B N d (putM M d l m) = true then .tuple #[.agg #[.int .i64 B, .string N, .int .i64 d, .string (putM M d l m)], .int .i64 0] else .tuple #[.agg #[.int .i64 0, .string ⟨#[]⟩, .int .i64 0, .string ⟨#[]⟩], .int .i64 81]
set_option maxHeartbeats 4000000 in
theorem mark_in (B : Int) (N : ByteArray) (d : Nat) (M : ByteArray) (l : Nat) (m : UInt8) (w : World) (hN : N.size ≤ 60) (hM : M.size ≤ 60) (h : rightB B N d M = true) (hl : l ≤ d) :
    Calls Tryd.prog 28 #[.agg #[.int .i64 B, .string N, .int .i64 d, .string M], .int .i64 l, .int .u8 (m.toNat : Int)] w fun e w' => e = .returned (markV B N d M l m) ∧ Below w.heap.size w w' := by
  have HR := Lib.hid (fun w => kmay_any B N d M w hN hM)
  rw [h] at HR
  cases hx : rightB B N d (putM M d l m)
  · have HW := Lib.hid (fun w => written_no B N d (putM M d l m) 81 w hN (by obtain ⟨d', hd', hd4, hm⟩ := right_bounds h; rw [putM_size M d l m (by omega) hl]; omega) hx)
    have E := Lib.hid (show markV B N d M l m = .tuple #[.agg #[.int .i64 0, .string ⟨#[]⟩, .int .i64 0, .string ⟨#[]⟩], .int .i64 81] by unfold markV; rw [hx]; rfl)
    clear hx
    obtain ⟨d', hd', hd4, hm⟩ := right_bounds h
    obtain rfl : d' = d := by omega
    have q : decide ((l : Int) < 0) = false := decide_eq_false (by omega)
    have q2 : decide ((d' : Int) < (l : Int)) = false := decide_eq_false (by omega)
    have q3 : IntKind.i64.wrap ((l : Int) + 1) = (l : Int) + 1 := IntWalk.i64_in _ ⟨by omega, by omega⟩
    have i1 : l ≤ M.size := by omega
    have i2 : l + 1 ≤ M.size := by omega
    have i3 : (0 : Int) ≤ (l : Int) := by omega
    have i4 : (l : Int) ≤ (M.size : Int) := by omega
    have i5 : (l : Int) + 1 ≤ (M.size : Int) := by omega
    have i6 : (0 : Int) ≤ (l : Int) + 1 := by omega
    clear h hd'
    go_enter Tryd.func28, Tryd.ntmps28
    go_wp2_with fail
    refine (HR.out _).mono ?_
    rintro e w1 ⟨rfl, hb1⟩
    obtain ⟨hq1, hA1, hR1⟩ := box42 hb1
    have hA := Lib.hid hA1
    have hR := Lib.hid hR1
    obtain ⟨hl1, c10, c11, c12, c13, f1⟩ := hA1
    obtain ⟨gl1, g10, g11, g12, g13, e1⟩ := hR1
    have hcv := fun (wr : World) (cap : Nat) (h : wr.cell? ⟨w1.heap.size, 0, none⟩ = some (.int .u8 (m.toNat : Int))) => conv_one wr w1.heap.size cap m h
    go_wp2_with fail
    go_region
    generalize hgx : M.extract 0 l ++ ⟨#[m]⟩ ++ M.extract (l + 1) (d' + 1) = x
    have hpx : putM M d' l m = x := hgx
    have hA2 := hA.out.put3 (M' := x)
    have hR2 := Lib.hid (hR.out.other (q := w.heap.size) (k := 3) (v := .string x) (by omega))
    obtain ⟨hl2, c20, c21, c22, c23, f2⟩ := hA2
    clear hcv hgx
    rw [hpx] at HW
    try rw [hpx] at E
    clear hpx
    go_wp2_with fail
    refine (HW.out _).mono ?_
    rintro e w2 ⟨rfl, hb2⟩
    have hb3 := after (((Below.refl (w1.setCell ⟨w.heap.size, 3, none⟩ (.string x)).heap.size (w1.setCell ⟨w.heap.size, 3, none⟩ (.string x))).alloc (Nat.le_refl _) _).drew) hb2
    have hR3 := hR2.out.keep hb3
    have hq3 : Below w.heap.size w w2 := by repeat (first | exact Below.refl _ _ | apply Below.setCell _ (by first | omega | (simp <;> omega)) | apply Below.alloc _ (by first | omega | (simp <;> omega)) | exact hb3 | refine after ?_ hb3 | exact hq1 | refine after ?_ hq1)
    clear hb1 hb2 hb3 hA hR hl1 c10 c11 c12 c13 f1 gl1 g10 g11 g12 g13 e1 hR2 hl2 c20 c21 c22 c23 f2
    obtain ⟨gl3, g30, g31, g32, g33, e3⟩ := hR3
    go_wp2_with fail
    refine bodyPost_ret (v := .tuple #[.agg #[.int .i64 0, .string ⟨#[]⟩, .int .i64 0, .string ⟨#[]⟩], .int .i64 81]) (by simp [results, Tryd.results28, go_sem, g30, g31, g32, g33]) rfl ?_
    exact ⟨by rw [E.out], by repeat (first | exact Below.refl _ _ | apply Below.setCell _ (by first | omega | (simp <;> omega)) | apply Below.alloc _ (by first | omega | (simp <;> omega)) | exact hq3 | refine after ?_ hq3)⟩
  · have HW := Lib.hid (fun w => written_yes B N d (putM M d l m) 81 w hN (by obtain ⟨d', hd', hd4, hm⟩ := right_bounds h; rw [putM_size M d l m (by omega) hl]; omega) hx)
    have E := Lib.hid (show markV B N d M l m = .tuple #[.agg #[.int .i64 B, .string N, .int .i64 d, .string (putM M d l m)], .int .i64 0] by unfold markV; rw [hx]; rfl)
    clear hx
    obtain ⟨d', hd', hd4, hm⟩ := right_bounds h
    obtain rfl : d' = d := by omega
    have q : decide ((l : Int) < 0) = false := decide_eq_false (by omega)
    have q2 : decide ((d' : Int) < (l : Int)) = false := decide_eq_false (by omega)
    have q3 : IntKind.i64.wrap ((l : Int) + 1) = (l : Int) + 1 := IntWalk.i64_in _ ⟨by omega, by omega⟩
    have i1 : l ≤ M.size := by omega
    have i2 : l + 1 ≤ M.size := by omega
    have i3 : (0 : Int) ≤ (l : Int) := by omega
    have i4 : (l : Int) ≤ (M.size : Int) := by omega
    have i5 : (l : Int) + 1 ≤ (M.size : Int) := by omega
    have i6 : (0 : Int) ≤ (l : Int) + 1 := by omega
    clear h hd'
    go_enter Tryd.func28, Tryd.ntmps28
    go_wp2_with fail
    refine (HR.out _).mono ?_
    rintro e w1 ⟨rfl, hb1⟩
    obtain ⟨hq1, hA1, hR1⟩ := box42 hb1
    have hA := Lib.hid hA1
    have hR := Lib.hid hR1
    obtain ⟨hl1, c10, c11, c12, c13, f1⟩ := hA1
    obtain ⟨gl1, g10, g11, g12, g13, e1⟩ := hR1
    have hcv := fun (wr : World) (cap : Nat) (h : wr.cell? ⟨w1.heap.size, 0, none⟩ = some (.int .u8 (m.toNat : Int))) => conv_one wr w1.heap.size cap m h
    go_wp2_with fail
    go_region
    generalize hgx : M.extract 0 l ++ ⟨#[m]⟩ ++ M.extract (l + 1) (d' + 1) = x
    have hpx : putM M d' l m = x := hgx
    have hA2 := hA.out.put3 (M' := x)
    have hR2 := Lib.hid (hR.out.other (q := w.heap.size) (k := 3) (v := .string x) (by omega))
    obtain ⟨hl2, c20, c21, c22, c23, f2⟩ := hA2
    clear hcv hgx
    rw [hpx] at HW
    try rw [hpx] at E
    clear hpx
    go_wp2_with fail
    refine (HW.out _).mono ?_
    rintro e w2 ⟨rfl, hb2⟩
    have hb3 := after (((Below.refl (w1.setCell ⟨w.heap.size, 3, none⟩ (.string x)).heap.size (w1.setCell ⟨w.heap.size, 3, none⟩ (.string x))).alloc (Nat.le_refl _) _).drew) hb2
    have hR3 := hR2.out.keep hb3
    have hq3 : Below w.heap.size w w2 := by repeat (first | exact Below.refl _ _ | apply Below.setCell _ (by first | omega | (simp <;> omega)) | apply Below.alloc _ (by first | omega | (simp <;> omega)) | exact hb3 | refine after ?_ hb3 | exact hq1 | refine after ?_ hq1)
    clear hb1 hb2 hb3 hA hR hl1 c10 c11 c12 c13 f1 gl1 g10 g11 g12 g13 e1 hR2 hl2 c20 c21 c22 c23 f2
    obtain ⟨gl3, g30, g31, g32, g33, e3⟩ := hR3
    go_wp2_with fail
    refine bodyPost_ret (v := .tuple #[.agg #[.int .i64 B, .string N, .int .i64 d', .string x], .int .i64 0]) (by simp [results, Tryd.results28, go_sem, g30, g31, g32, g33]) rfl ?_
    exact ⟨by rw [E.out], by repeat (first | exact Below.refl _ _ | apply Below.setCell _ (by first | omega | (simp <;> omega)) | apply Below.alloc _ (by first | omega | (simp <;> omega)) | exact hq3 | refine after ?_ hq3)⟩

set_option maxHeartbeats 4000000 in
theorem with_no (B : Int) (N : ByteArray) (D : Int) (M : ByteArray) (m : UInt8) (w : World) (hN : N.size ≤ 60) (hM : M.size ≤ 60) (h : refB B N D M = false) :
    Calls Tryd.prog 29 #[.agg #[.int .i64 B, .string N, .int .i64 D, .string M], .int .u8 (m.toNat : Int)] w fun e w' => e = .returned (.tuple #[.agg #[.int .i64 0, .string ⟨#[]⟩, .int .i64 0, .string ⟨#[]⟩], .int .i64 130]) ∧ Below w.heap.size w w' := by
  have HF := Lib.hid (fun w => ref_any B N D M w hN hM)
  rw [h] at HF
  generalize m.toNat = mm at *
  go_enter Tryd.func29, Tryd.ntmps29
  go_wp2_with fail
  refine (HF.out _).mono ?_
  rintro e w1 ⟨rfl, hb1⟩
  obtain ⟨hq1, hA1, hR1⟩ := box42 hb1
  have hR := Lib.hid hR1
  obtain ⟨hl1, c10, c11, c12, c13, f1⟩ := hA1
  obtain ⟨gl1, g10, g11, g12, g13, e1⟩ := hR1
  go_wp2_with fail
  refine bodyPost_ret (v := .tuple #[.agg #[.int .i64 0, .string ⟨#[]⟩, .int .i64 0, .string ⟨#[]⟩], .int .i64 130]) (by simp [results, Tryd.results29, go_sem, g10, g11, g12, g13]) rfl ?_
  exact ⟨rfl, by repeat (first | exact Below.refl _ _ | apply Below.setCell _ (by first | omega | (simp <;> omega)) | apply Below.alloc _ (by first | omega | (simp <;> omega)) | exact hq1 | refine after ?_ hq1)⟩
set_option maxHeartbeats 4000000 in
theorem with_lit (B : Int) (N : ByteArray) (D : Int) (M : ByteArray) (m : UInt8) (w : World) (hN : N.size ≤ 60) (hM : M.size ≤ 60) (h : refB B N D M = true) (hr : rightB B N D M = false) :
    Calls Tryd.prog 29 #[.agg #[.int .i64 B, .string N, .int .i64 D, .string M], .int .u8 (m.toNat : Int)] w fun e w' => e = .returned (.tuple #[.agg #[.int .i64 0, .string ⟨#[]⟩, .int .i64 0, .string ⟨#[]⟩], .int .i64 130]) ∧ Below w.heap.size w w' := by
  have HF := Lib.hid (fun w => ref_any B N D M w hN hM)
  rw [h] at HF
  have HM := Lib.hid (fun w => mark_kind B N D M D m w hN hM hr)
  generalize m.toNat = mm at *
  go_enter Tryd.func29, Tryd.ntmps29
  go_wp2_with fail
  refine (HF.out _).mono ?_
  rintro e w1 ⟨rfl, hb1⟩
  obtain ⟨hq1, hA1, hR1⟩ := box42 hb1
  have hR := Lib.hid hR1
  obtain ⟨hl1, c10, c11, c12, c13, f1⟩ := hA1
  obtain ⟨gl1, g10, g11, g12, g13, e1⟩ := hR1
  go_wp2_with fail
  refine (HM.out _).mono ?_
  rintro e w2 ⟨rfl, hb2⟩
  have hR2 := hR.out.keep hb2
  obtain ⟨gl2, g20, g21, g22, g23, e2⟩ := hR2
  have hq2 := after hq1 hb2
  clear hb1 hb2 gl1 g10 g11 g12 g13 e1 hl1 c10 c11 c12 c13 f1 hR
  go_wp2_with fail
  refine bodyPost_ret (v := .tuple #[.agg #[.int .i64 0, .string ⟨#[]⟩, .int .i64 0, .string ⟨#[]⟩], .int .i64 130]) (by simp [results, Tryd.results29, go_sem, g20, g21, g22, g23]) rfl ?_
  exact ⟨rfl, by repeat (first | exact Below.refl _ _ | apply Below.setCell _ (by first | omega | (simp <;> omega)) | apply Below.alloc _ (by first | omega | (simp <;> omega)) | exact hq2 | refine after ?_ hq2)⟩
set_option maxHeartbeats 4000000 in
theorem with_in (B : Int) (N : ByteArray) (d : Nat) (M : ByteArray) (m : UInt8) (w : World) (hN : N.size ≤ 60) (hM : M.size ≤ 60) (h : refB B N d M = true) (hr : rightB B N d M = true) :
    Calls Tryd.prog 29 #[.agg #[.int .i64 B, .string N, .int .i64 d, .string M], .int .u8 (m.toNat : Int)] w fun e w' => e = .returned (markV B N d M d m) ∧ Below w.heap.size w w' := by
  have HF := Lib.hid (fun w => ref_any B N d M w hN hM)
  rw [h] at HF
  have HM := Lib.hid (fun w => mark_in B N d M d m w hN hM hr (Nat.le_refl _))
  generalize m.toNat = mm at *
  cases hx : rightB B N d (putM M d d m)
  · have E := Lib.hid (show markV B N d M d m = .tuple #[.agg #[.int .i64 0, .string ⟨#[]⟩, .int .i64 0, .string ⟨#[]⟩], .int .i64 81] by unfold markV; rw [hx]; rfl)
    rw [E.out] at HM ⊢
    clear hx E
    go_enter Tryd.func29, Tryd.ntmps29
    go_wp2_with fail
    refine (HF.out _).mono ?_
    rintro e w1 ⟨rfl, hb1⟩
    obtain ⟨hq1, hA1, hR1⟩ := box42 hb1
    have hR := Lib.hid hR1
    obtain ⟨hl1, c10, c11, c12, c13, f1⟩ := hA1
    obtain ⟨gl1, g10, g11, g12, g13, e1⟩ := hR1
    go_wp2_with fail
    refine (HM.out _).mono ?_
    rintro e w2 ⟨rfl, hb2⟩
    have hR2 := hR.out.keep hb2
    obtain ⟨gl2, g20, g21, g22, g23, e2⟩ := hR2
    have hq2 := after hq1 hb2
    clear hb1 hb2 gl1 g10 g11 g12 g13 e1 hl1 c10 c11 c12 c13 f1 hR
    go_wp2_with fail
    refine bodyPost_ret (v := .tuple #[.agg #[.int .i64 0, .string ⟨#[]⟩, .int .i64 0, .string ⟨#[]⟩], .int .i64 81]) (by simp [results, Tryd.results29, go_sem, g20, g21, g22, g23]) rfl ?_
    exact ⟨rfl, by repeat (first | exact Below.refl _ _ | apply Below.setCell _ (by first | omega | (simp <;> omega)) | apply Below.alloc _ (by first | omega | (simp <;> omega)) | exact hq2 | refine after ?_ hq2)⟩
  · have E := Lib.hid (show markV B N d M d m = .tuple #[.agg #[.int .i64 B, .string N, .int .i64 d, .string (putM M d d m)], .int .i64 0] by unfold markV; rw [hx]; rfl)
    rw [E.out] at HM ⊢
    clear hx E
    generalize putM M d d m = x at *
    go_enter Tryd.func29, Tryd.ntmps29
    go_wp2_with fail
    refine (HF.out _).mono ?_
    rintro e w1 ⟨rfl, hb1⟩
    obtain ⟨hq1, hA1, hR1⟩ := box42 hb1
    have hR := Lib.hid hR1
    obtain ⟨hl1, c10, c11, c12, c13, f1⟩ := hA1
    obtain ⟨gl1, g10, g11, g12, g13, e1⟩ := hR1
    go_wp2_with fail
    refine (HM.out _).mono ?_
    rintro e w2 ⟨rfl, hb2⟩
    have hR2 := hR.out.keep hb2
    obtain ⟨gl2, g20, g21, g22, g23, e2⟩ := hR2
    have hq2 := after hq1 hb2
    clear hb1 hb2 gl1 g10 g11 g12 g13 e1 hl1 c10 c11 c12 c13 f1 hR
    go_wp2_with fail
    refine bodyPost_ret (v := .tuple #[.agg #[.int .i64 B, .string N, .int .i64 d, .string x], .int .i64 0]) (by simp [results, Tryd.results29, go_sem, g20, g21, g22, g23]) rfl ?_
    exact ⟨rfl, by repeat (first | exact Below.refl _ _ | apply Below.setCell _ (by first | omega | (simp <;> omega)) | apply Below.alloc _ (by first | omega | (simp <;> omega)) | exact hq2 | refine after ?_ hq2)⟩
end Go.Proofs.YtdkpmpkoelckoaaDoor
