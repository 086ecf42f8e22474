/- Contracts of kind.Right, own, blanks, written and of Of. -/
import Derived.Test.YtdkpmpkoelckoaaDoorTyD
namespace Go.Proofs.YtdkpmpkoelckoaaDoor
open Go Go.RowKit
set_option linter.unusedVariables false
set_option linter.unusedSimpArgs false

theorem lit_not_right {B : Int} {N : ByteArray} {D : Int} {M : ByteArray} (h : litB B N D M = true) : rightB B N D M = false := by
  apply rightB_no1
  unfold litB nullB noneB at h
  simp only [Bool.or_eq_true, decide_eq_true_iff] at h
  omega

/-- may a type be, or is it that of null or none? -/
def allB (B : Int) (N : ByteArray) (D : Int) (M : ByteArray) : Bool := litB B N D M || rightB B N D M

set_option maxHeartbeats 1000000 in
theorem kright_any (B : Int) (N : ByteArray) (D : Int) (M : ByteArray) (w : World) (hN : N.size ≤ 60) (hM : M.size ≤ 60) :
    Calls Tryd.prog 16 #[.agg #[.int .i64 B, .string N, .int .i64 D, .string M]] w fun e w' => e = .returned (.bool (allB B N D M)) ∧ Below w.heap.size w w' := by
  have HL := Lib.hid (fun w => literal_any B N D M w)
  have HR := Lib.hid (fun w => kmay_any B N D M w hN hM)
  unfold allB
  cases hl : litB B N D M
  · rw [hl] at HL
    clear hl
    go_enter Tryd.func16, Tryd.ntmps16
    go_wp2_with (first | (go_at_call 37; refine (HL.out _).mono ?_; rintro e w1 ⟨rfl, hb1⟩; obtain ⟨hq1, hy1⟩ := box4 hb1; obtain ⟨hl1, c10, c11, c12, c13, f1⟩ := hy1) | (go_at_call 35; refine (HR.out _).mono ?_; rintro e w2 ⟨rfl, hb2⟩))
    all_goals go_ret
    all_goals exact ⟨rfl, after hq1 hb2⟩
  · rw [hl] at HL
    clear hl
    go_enter Tryd.func16, Tryd.ntmps16
    go_wp2_with (first | (go_at_call 37; refine (HL.out _).mono ?_; rintro e w1 ⟨rfl, hb1⟩; obtain ⟨hq1, hy1⟩ := box4 hb1; obtain ⟨hl1, c10, c11, c12, c13, f1⟩ := hy1))
    all_goals go_ret
    all_goals exact ⟨rfl, hq1⟩

theorem TyAt.put1 {w : World} {p : Nat} {B : Int} {N N' : ByteArray} {D : Int} {M : ByteArray} (h : TyAt w p B N D M) : TyAt (w.setCell ⟨p, 1, none⟩ (.string N')) p B N' D M := by
  obtain ⟨h0, h1, h2, h3, h4, h5⟩ := h
  exact ⟨by simpa [go_sem] using h0, by simp [go_sem, h1], by simp [go_sem, h2], by simp [go_sem, h3], by simp [go_sem, h4], fun j => by simp [go_sem, h5]⟩
theorem TyAt.put2 {w : World} {p : Nat} {B : Int} {N : ByteArray} {D D' : Int} {M : ByteArray} (h : TyAt w p B N D M) : TyAt (w.setCell ⟨p, 2, none⟩ (.int .i64 D')) p B N D' M := by
  obtain ⟨h0, h1, h2, h3, h4, h5⟩ := h
  exact ⟨by simpa [go_sem] using h0, by simp [go_sem, h1], by simp [go_sem, h2], by simp [go_sem, h3], by simp [go_sem, h4], fun j => by simp [go_sem, h5]⟩
theorem TyAt.put3 {w : World} {p : Nat} {B : Int} {N : ByteArray} {D : Int} {M M' : ByteArray} (h : TyAt w p B N D M) : TyAt (w.setCell ⟨p, 3, none⟩ (.string M')) p B N D M' := by
  obtain ⟨h0, h1, h2, h3, h4, h5⟩ := h
  exact ⟨by simpa [go_sem] using h0, by simp [go_sem, h1], by simp [go_sem, h2], by simp [go_sem, h3], by simp [go_sem, h4], fun j => by simp [go_sem, h5]⟩

theorem TyAt.other {w : World} {p q k : Nat} {v : Value} {B : Int} {N : ByteArray} {D : Int} {M : ByteArray} (h : TyAt w p B N D M) (hne : p ≠ q) : TyAt (w.setCell ⟨q, k, none⟩ v) p B N D M := by
  obtain ⟨h0, h1, h2, h3, h4, h5⟩ := h
  exact ⟨by simpa [go_sem] using h0, by simp [go_sem, hne, Ne.symm hne, h1], by simp [go_sem, hne, Ne.symm hne, h2], by simp [go_sem, hne, Ne.symm hne, h3], by simp [go_sem, hne, Ne.symm hne, h4], fun j => by simp [go_sem, hne, Ne.symm hne, h5]⟩
/-- the box, and the result's box behind it -/
theorem box42 {w w1 : World} {B : Int} {N : ByteArray} {D : Int} {M : ByteArray} {T : TypeId} (h : Below ((w.alloc (.cells #[.int .i64 B, .string N, .int .i64 D, .string M] T)).alloc (.cells #[.int .i64 0, .string ⟨#[]⟩, .int .i64 0, .string ⟨#[]⟩] T)).heap.size ((w.alloc (.cells #[.int .i64 B, .string N, .int .i64 D, .string M] T)).alloc (.cells #[.int .i64 0, .string ⟨#[]⟩, .int .i64 0, .string ⟨#[]⟩] T)) w1) :
    Below w.heap.size w w1 ∧ TyAt w1 w.heap.size B N D M ∧ TyAt w1 (w.heap.size + 1) 0 ⟨#[]⟩ 0 ⟨#[]⟩ := by
  have h1 : Below (w.alloc (.cells #[.int .i64 B, .string N, .int .i64 D, .string M] T)).heap.size (w.alloc (.cells #[.int .i64 B, .string N, .int .i64 D, .string M] T)) w1 := after ((Below.refl _ _).alloc (Nat.le_refl _) _) h
  have h2 := (TyAt.new (w.alloc (.cells #[.int .i64 B, .string N, .int .i64 D, .string M] T)) 0 ⟨#[]⟩ 0 ⟨#[]⟩ T).keep h
  rw [World.size_alloc] at h2
  exact ⟨(box4 h1).1, (box4 h1).2, h2⟩

set_option maxHeartbeats 2000000 in
theorem own_any (B : Int) (N : ByteArray) (D : Int) (M : ByteArray) (w : World) (hN : N.size ≤ 60) (hM : M.size ≤ 60) :
    Calls Tryd.prog 36 #[.agg #[.int .i64 B, .string N, .int .i64 D, .string M]] w fun e w' => e = .returned (.agg #[.int .i64 B, .string N, .int .i64 D, .string M]) ∧ Below w.heap.size w w' := by
  have HN := Lib.hid (fun w => clone_any N w (by omega))
  have HM := Lib.hid (fun w => clone_any M w (by omega))
  go_enter Tryd.func36, Tryd.ntmps36
  go_wp2_with fail
  refine (HN.out _).mono ?_
  rintro e w1 ⟨rfl, hb1⟩
  obtain ⟨hq1, hA1, hR1⟩ := box42 hb1
  have hA := Lib.hid hA1
  have hR := Lib.hid hR1
  obtain ⟨hl1, c10, c11, c12, c13, f1⟩ := hA1
  obtain ⟨gl1, g10, g11, g12, g13, e1⟩ := hR1
  go_wp2_with fail
  refine (HM.out _).mono ?_
  rintro e w2 ⟨rfl, hb2⟩
  have hA2 := (hA.out.put1 (N' := N)).keep hb2
  have hR2 := (hR.out.other (q := w.heap.size) (k := 1) (v := .string N) (by omega)).keep hb2
  have hq2 : Below w.heap.size w w2 := by repeat (first | exact Below.refl _ _ | apply Below.setCell _ (by first | omega | (simp <;> omega)) | apply Below.alloc _ (by first | omega | (simp <;> omega)) | exact hb2 | refine after ?_ hb2 | exact hq1 | refine after ?_ hq1)
  clear hb1 hb2 hA hR hl1 c10 c11 c12 c13 f1 gl1 g10 g11 g12 g13 e1
  obtain ⟨hl2, c20, c21, c22, c23, f2⟩ := hA2
  obtain ⟨gl2, g20, g21, g22, g23, e2⟩ := hR2
  go_wp2_with fail
  refine bodyPost_ret (v := .agg #[.int .i64 B, .string N, .int .i64 D, .string M]) (by simp [results, Tryd.results36, go_sem, g20, g21, g22, g23]) rfl ?_
  exact ⟨rfl, by repeat (first | exact Below.refl _ _ | apply Below.setCell _ (by first | omega | (simp <;> omega)) | apply Below.alloc _ (by first | omega | (simp <;> omega)) | exact hq2 | refine after ?_ hq2)⟩

/-- so many blanks -/
def blankS (n : Nat) : ByteArray := ⟨(List.replicate n 32).toArray⟩
theorem repeatL_one (n : Nat) : Lib.repeatL [32] n = List.replicate n (32 : UInt8) := by
  induction n with
  | zero => rfl
  | succ n ih => rw [List.replicate_succ, ← ih]; rfl
set_option maxHeartbeats 1000000 in
theorem blanks_any (n : Nat) (w : World) (hn : n ≤ 60) :
    Calls Tryd.prog 34 #[.int .i64 n] w fun e w' => e = .returned (.string (blankS n)) ∧ Below w.heap.size w w' := by
  have HR := Lib.hid (fun w => Tryd.strings_Repeat ⟨#[32]⟩ n w (by omega) (by show 1 * n ≤ _; omega))
  go_enter Tryd.func34, Tryd.ntmps34
  go_wp2_with (go_at_call 40; refine (HR.out _).mono ?_; rintro e w1 ⟨rfl, hb1⟩)
  go_ret
  exact ⟨by rw [show (⟨(Lib.repeatL (⟨#[32]⟩ : ByteArray).data.toList n).toArray⟩ : ByteArray) = blankS n by unfold blankS; rw [← repeatL_one]]; rfl, hb1⟩

set_option maxHeartbeats 2000000 in
theorem written_yes (B : Int) (N : ByteArray) (D : Int) (M : ByteArray) (x : Int) (w : World) (hN : N.size ≤ 60) (hM : M.size ≤ 60) (hr : rightB B N D M = true) :
    Calls Tryd.prog 33 #[.agg #[.int .i64 B, .string N, .int .i64 D, .string M], .int .i64 x] w fun e w' => e = .returned (.tuple #[.agg #[.int .i64 B, .string N, .int .i64 D, .string M], .int .i64 0]) ∧ Below w.heap.size w w' := by
  have HR := Lib.hid (fun w => kmay_any B N D M w hN hM)
  rw [hr] at HR
  have HO := Lib.hid (fun w => own_any B N D M w hN hM)
  go_enter Tryd.func33, Tryd.ntmps33
  go_wp2_with fail
  refine (HR.out _).mono ?_
  rintro e w1 ⟨rfl, hb1⟩
  obtain ⟨hq1, hA1, hR1⟩ := box42 hb1
  have hR := Lib.hid hR1
  obtain ⟨hl1, c10, c11, c12, c13, f1⟩ := hA1
  go_wp2_with fail
  refine (HO.out _).mono ?_
  rintro e w2 ⟨rfl, hb2⟩
  have hR2 := hR.out.keep hb2
  obtain ⟨gl2, g20, g21, g22, g23, e2⟩ := hR2
  have hq2 := after hq1 hb2
  go_wp2_with fail
  refine bodyPost_ret (v := .tuple #[.agg #[.int .i64 B, .string N, .int .i64 D, .string M], .int .i64 0]) (by simp [results, Tryd.results33, go_sem, g20, g21, g22, g23]) rfl ?_
  exact ⟨rfl, by repeat (first | exact Below.refl _ _ | apply Below.setCell _ (by first | omega | (simp <;> omega)) | apply Below.alloc _ (by first | omega | (simp <;> omega)) | exact hq2 | refine after ?_ hq2)⟩
set_option maxHeartbeats 2000000 in
theorem written_no (B : Int) (N : ByteArray) (D : Int) (M : ByteArray) (x : Int) (w : World) (hN : N.size ≤ 60) (hM : M.size ≤ 60) (hr : rightB B N D M = false) :
    Calls Tryd.prog 33 #[.agg #[.int .i64 B, .string N, .int .i64 D, .string M], .int .i64 x] w fun e w' => e = .returned (.tuple #[.agg #[.int .i64 0, .string ⟨#[]⟩, .int .i64 0, .string ⟨#[]⟩], .int .i64 x]) ∧ Below w.heap.size w w' := by
  have HR := Lib.hid (fun w => kmay_any B N D M w hN hM)
  rw [hr] at HR
  go_enter Tryd.func33, Tryd.ntmps33
  go_wp2_with fail
  refine (HR.out _).mono ?_
  rintro e w1 ⟨rfl, hb1⟩
  obtain ⟨hq1, hA1, hR1⟩ := box42 hb1
  obtain ⟨gl1, g10, g11, g12, g13, e1⟩ := hR1
  go_wp2_with fail
  refine bodyPost_ret (v := .tuple #[.agg #[.int .i64 0, .string ⟨#[]⟩, .int .i64 0, .string ⟨#[]⟩], .int .i64 x]) (by simp [results, Tryd.results33, go_sem, g10, g11, g12, g13]) rfl ?_
  exact ⟨rfl, by repeat (first | exact Below.refl _ _ | apply Below.setCell _ (by first | omega | (simp <;> omega)) | apply Below.alloc _ (by first | omega | (simp <;> omega)) | exact hq1 | refine after ?_ hq1)⟩
end Go.Proofs.YtdkpmpkoelckoaaDoor
