/- Contracts of package kind's own helpers: may, literal, Right, own, written, and of Of. -/
import Derived.Test.YtdkpmpkoelckoaaDoorTyC
import Derived.Deep.RegionWith
import Derived.Deep.RegionHeld3
namespace Go.Proofs.YtdkpmpkoelckoaaDoor
open Go Go.RowKit
set_option linter.unusedVariables false

theorem ttS_no {B : Int} {N : ByteArray} {D : Int} {M : ByteArray} (h : rightB B N D M = false) : ttS B N D M = ⟨#[]⟩ := by unfold ttS; rw [h]; rfl
theorem ttS_yes {B : Int} {N : ByteArray} {D : Int} {M : ByteArray} (h : rightB B N D M = true) : ttS B N D M = typeS B N M ∧ (ttS B N D M).size ≠ 0 := by
  have e : ttS B N D M = typeS B N M := by unfold ttS; rw [h]; rfl
  exact ⟨e, by rw [e]; exact typeS_some B N D M h⟩

set_option maxHeartbeats 1000000 in
theorem kmay_any (B : Int) (N : ByteArray) (D : Int) (M : ByteArray) (w : World) (hN : N.size ≤ 60) (hM : M.size ≤ 60) :
    Calls Tryd.prog 35 #[.agg #[.int .i64 B, .string N, .int .i64 D, .string M]] w fun e w' => e = .returned (.bool (rightB B N D M)) ∧ Below w.heap.size w w' := by
  have HT := Lib.hid (fun w => typeText_any B N D M w hN hM)
  cases hr : rightB B N D M
  · rw [ttS_no hr] at HT
    clear hr
    go_enter Tryd.func35, Tryd.ntmps35
    go_wp2_with (go_at_call 39; refine (HT.out _).mono ?_; rintro e w1 ⟨rfl, hb1⟩; obtain ⟨hq1, hy1⟩ := box4 hb1)
    all_goals go_ret
    all_goals exact ⟨rfl, hq1⟩
  · obtain ⟨-, h2⟩ := ttS_yes hr
    obtain ⟨n1, n2⟩ := tl_ne _ h2
    generalize ttS B N D M = x at *
    clear hr
    go_enter Tryd.func35, Tryd.ntmps35
    go_wp2_with (go_at_call 39; refine (HT.out _).mono ?_; rintro e w1 ⟨rfl, hb1⟩; obtain ⟨hq1, hy1⟩ := box4 hb1)
    all_goals go_ret
    all_goals exact ⟨rfl, hq1⟩

set_option maxHeartbeats 1000000 in
theorem null_any (w : World) :
    Calls Tryd.prog 32 #[] w fun e w' => e = .returned (.agg #[.int .i64 7, .string ⟨#[]⟩, .int .i64 0, .string ⟨#[63]⟩]) ∧ Below w.heap.size w w' := by
  go_enter Tryd.func32, Tryd.ntmps32
  go_wp2_with fail
  refine bodyPost_ret (v := .agg #[.int .i64 7, .string ⟨#[]⟩, .int .i64 0, .string ⟨#[63]⟩]) (by simp [results, Tryd.results32, go_sem]) rfl ?_
  exact ⟨rfl, by repeat (first | exact Below.refl _ _ | apply Below.setCell _ (by first | omega | (simp <;> omega)) | apply Below.alloc _ (by first | omega | (simp <;> omega)))⟩
set_option maxHeartbeats 1000000 in
theorem none_any (w : World) :
    Calls Tryd.prog 38 #[] w fun e w' => e = .returned (.agg #[.int .i64 8, .string ⟨#[]⟩, .int .i64 0, .string ⟨#[111]⟩]) ∧ Below w.heap.size w w' := by
  go_enter Tryd.func38, Tryd.ntmps38
  go_wp2_with fail
  refine bodyPost_ret (v := .agg #[.int .i64 8, .string ⟨#[]⟩, .int .i64 0, .string ⟨#[111]⟩]) (by simp [results, Tryd.results38, go_sem]) rfl ?_
  exact ⟨rfl, by repeat (first | exact Below.refl _ _ | apply Below.setCell _ (by first | omega | (simp <;> omega)) | apply Below.alloc _ (by first | omega | (simp <;> omega)))⟩

/-- is a type that of null, or of none? -/
def nullB (B : Int) (N : ByteArray) (D : Int) (M : ByteArray) : Bool := decide (B = 7 ∧ N.toList = [] ∧ D = 0 ∧ M.toList = [63])
def noneB (B : Int) (N : ByteArray) (D : Int) (M : ByteArray) : Bool := decide (B = 8 ∧ N.toList = [] ∧ D = 0 ∧ M.toList = [111])
def litB (B : Int) (N : ByteArray) (D : Int) (M : ByteArray) : Bool := nullB B N D M || noneB B N D M

/-- a type's box, and that all else is kept -/
structure TyS (w0 : World) (p : Nat) (B : Int) (N : ByteArray) (D : Int) (M : ByteArray) (w : World) : Prop where
  at_ : TyAt w p B N D M
  bel : Below w0.heap.size w0 w
theorem TyS.new (w : World) (B : Int) (N : ByteArray) (D : Int) (M : ByteArray) (T : TypeId) : TyS w w.heap.size B N D M (w.alloc (.cells #[.int .i64 B, .string N, .int .i64 D, .string M] T)) :=
  ⟨TyAt.new w B N D M T, (Below.refl _ _).alloc (Nat.le_refl _) _⟩
theorem TyS.keep {w0 w w1 : World} {p : Nat} {B : Int} {N : ByteArray} {D : Int} {M : ByteArray} (h : TyS w0 p B N D M w) (hb : Below w.heap.size w w1) : TyS w0 p B N D M w1 := ⟨h.1.keep hb, after h.2 hb⟩
theorem TyS.drew {w0 w : World} {p : Nat} {B : Int} {N : ByteArray} {D : Int} {M : ByteArray} (h : TyS w0 p B N D M w) : TyS w0 p B N D M w.drew := h.keep ((Below.refl _ _).drew)
theorem TyS.all {w0 w : World} {p : Nat} {B : Int} {N : ByteArray} {D : Int} {M : ByteArray} (h : TyS w0 p B N D M w) : w.cell? ⟨p, 0, none⟩ = some (.int .i64 B) ∧ w.cell? ⟨p, 1, none⟩ = some (.string N) ∧ w.cell? ⟨p, 2, none⟩ = some (.int .i64 D) ∧ w.cell? ⟨p, 3, none⟩ = some (.string M) ∧ TyS w0 p B N D M w :=
  ⟨h.1.2.1, h.1.2.2.1, h.1.2.2.2.1, h.1.2.2.2.2.1, h⟩

set_option maxHeartbeats 4000000 in
theorem lit_c (B D : Int) (N M : ByteArray) (w : World) (h7 : ¬ B = 7) (h8 : ¬ B = 8) :
    Calls Tryd.prog 37 #[.agg #[.int .i64 B, .string N, .int .i64 D, .string M]] w fun e w' => e = .returned (.bool false) ∧ Below w.heap.size w w' := by
  have HS := Lib.hid ((TyS.new w B N D M 24).drew)
  go_enter Tryd.func37, Tryd.ntmps37
  go_wp2_with fail
  go_region_held3 (fun w' => w'.cell? ⟨w.heap.size, 0, none⟩ = some (.int .i64 B) ∧ w'.cell? ⟨w.heap.size, 1, none⟩ = some (.string N) ∧ w'.cell? ⟨w.heap.size, 2, none⟩ = some (.int .i64 D) ∧ w'.cell? ⟨w.heap.size, 3, none⟩ = some (.string M) ∧ TyS w w.heap.size B N D M w') (first | exact HS.out.all | exact (TyS.keep (by assumption) hb2).all) (first | (go_at_call 32; go_split_ands; refine (null_any _).mono ?_; rintro e w2 ⟨rfl, hb2⟩) | (go_at_call 38; go_split_ands; refine (none_any _).mono ?_; rintro e w2 ⟨rfl, hb2⟩))
  all_goals go_split_ands
  all_goals go_wp2_with fail
  all_goals go_ret
  all_goals exact ⟨rfl, TyS.bel (p := w.heap.size) (B := B) (N := N) (D := D) (M := M) (by assumption)⟩
set_option maxHeartbeats 4000000 in
theorem lit_7n (D : Int) (N M : ByteArray) (w : World) (hn : ¬ N.toList = []) :
    Calls Tryd.prog 37 #[.agg #[.int .i64 7, .string N, .int .i64 D, .string M]] w fun e w' => e = .returned (.bool false) ∧ Below w.heap.size w w' := by
  have HS := Lib.hid ((TyS.new w 7 N D M 24).drew)
  go_enter Tryd.func37, Tryd.ntmps37
  go_wp2_with fail
  go_region_held3 (fun w' => w'.cell? ⟨w.heap.size, 0, none⟩ = some (.int .i64 7) ∧ w'.cell? ⟨w.heap.size, 1, none⟩ = some (.string N) ∧ w'.cell? ⟨w.heap.size, 2, none⟩ = some (.int .i64 D) ∧ w'.cell? ⟨w.heap.size, 3, none⟩ = some (.string M) ∧ TyS w w.heap.size 7 N D M w') (first | exact HS.out.all | exact (TyS.keep (by assumption) hb2).all) (first | (go_at_call 32; go_split_ands; refine (null_any _).mono ?_; rintro e w2 ⟨rfl, hb2⟩) | (go_at_call 38; go_split_ands; refine (none_any _).mono ?_; rintro e w2 ⟨rfl, hb2⟩))
  all_goals go_split_ands
  all_goals go_wp2_with fail
  all_goals go_ret
  all_goals exact ⟨rfl, TyS.bel (p := w.heap.size) (B := 7) (N := N) (D := D) (M := M) (by assumption)⟩
set_option maxHeartbeats 4000000 in
theorem lit_7d (D : Int) (N M : ByteArray) (w : World) (hn : N.toList = []) (hd : ¬ D = 0) :
    Calls Tryd.prog 37 #[.agg #[.int .i64 7, .string N, .int .i64 D, .string M]] w fun e w' => e = .returned (.bool false) ∧ Below w.heap.size w w' := by
  have HS := Lib.hid ((TyS.new w 7 N D M 24).drew)
  go_enter Tryd.func37, Tryd.ntmps37
  go_wp2_with fail
  go_region_held3 (fun w' => w'.cell? ⟨w.heap.size, 0, none⟩ = some (.int .i64 7) ∧ w'.cell? ⟨w.heap.size, 1, none⟩ = some (.string N) ∧ w'.cell? ⟨w.heap.size, 2, none⟩ = some (.int .i64 D) ∧ w'.cell? ⟨w.heap.size, 3, none⟩ = some (.string M) ∧ TyS w w.heap.size 7 N D M w') (first | exact HS.out.all | exact (TyS.keep (by assumption) hb2).all) (first | (go_at_call 32; go_split_ands; refine (null_any _).mono ?_; rintro e w2 ⟨rfl, hb2⟩) | (go_at_call 38; go_split_ands; refine (none_any _).mono ?_; rintro e w2 ⟨rfl, hb2⟩))
  all_goals go_split_ands
  all_goals go_wp2_with fail
  all_goals go_ret
  all_goals exact ⟨rfl, TyS.bel (p := w.heap.size) (B := 7) (N := N) (D := D) (M := M) (by assumption)⟩
set_option maxHeartbeats 4000000 in
theorem lit_7m (N M : ByteArray) (w : World) (hn : N.toList = []) (hm : ¬ M.toList = [63]) :
    Calls Tryd.prog 37 #[.agg #[.int .i64 7, .string N, .int .i64 0, .string M]] w fun e w' => e = .returned (.bool false) ∧ Below w.heap.size w w' := by
  have HS := Lib.hid ((TyS.new w 7 N 0 M 24).drew)
  go_enter Tryd.func37, Tryd.ntmps37
  go_wp2_with fail
  go_region_held3 (fun w' => w'.cell? ⟨w.heap.size, 0, none⟩ = some (.int .i64 7) ∧ w'.cell? ⟨w.heap.size, 1, none⟩ = some (.string N) ∧ w'.cell? ⟨w.heap.size, 2, none⟩ = some (.int .i64 0) ∧ w'.cell? ⟨w.heap.size, 3, none⟩ = some (.string M) ∧ TyS w w.heap.size 7 N 0 M w') (first | exact HS.out.all | exact (TyS.keep (by assumption) hb2).all) (first | (go_at_call 32; go_split_ands; refine (null_any _).mono ?_; rintro e w2 ⟨rfl, hb2⟩) | (go_at_call 38; go_split_ands; refine (none_any _).mono ?_; rintro e w2 ⟨rfl, hb2⟩))
  all_goals go_split_ands
  all_goals go_wp2_with fail
  all_goals go_ret
  all_goals exact ⟨rfl, TyS.bel (p := w.heap.size) (B := 7) (N := N) (D := 0) (M := M) (by assumption)⟩
set_option maxHeartbeats 4000000 in
theorem lit_7y (N M : ByteArray) (w : World) (hn : N.toList = []) (hm : M.toList = [63]) :
    Calls Tryd.prog 37 #[.agg #[.int .i64 7, .string N, .int .i64 0, .string M]] w fun e w' => e = .returned (.bool true) ∧ Below w.heap.size w w' := by
  have HS := Lib.hid ((TyS.new w 7 N 0 M 24).drew)
  go_enter Tryd.func37, Tryd.ntmps37
  go_wp2_with fail
  go_region_with (first | (go_at_call 32; refine (null_any _).mono ?_; rintro e w2 ⟨rfl, hb2⟩; obtain ⟨hy2, hq2⟩ := TyS.keep HS.out hb2; obtain ⟨hl2, c20, c21, c22, c23, f2⟩ := hy2))
  all_goals go_wp2_with fail
  all_goals go_ret
  all_goals exact ⟨rfl, (by first | exact hq2 | exact hq2.drew)⟩
set_option maxHeartbeats 4000000 in
theorem lit_8n (D : Int) (N M : ByteArray) (w : World) (hn : ¬ N.toList = []) :
    Calls Tryd.prog 37 #[.agg #[.int .i64 8, .string N, .int .i64 D, .string M]] w fun e w' => e = .returned (.bool false) ∧ Below w.heap.size w w' := by
  have HS := Lib.hid ((TyS.new w 8 N D M 24).drew)
  go_enter Tryd.func37, Tryd.ntmps37
  go_wp2_with fail
  go_region_held3 (fun w' => w'.cell? ⟨w.heap.size, 0, none⟩ = some (.int .i64 8) ∧ w'.cell? ⟨w.heap.size, 1, none⟩ = some (.string N) ∧ w'.cell? ⟨w.heap.size, 2, none⟩ = some (.int .i64 D) ∧ w'.cell? ⟨w.heap.size, 3, none⟩ = some (.string M) ∧ TyS w w.heap.size 8 N D M w') (first | exact HS.out.all | exact (TyS.keep (by assumption) hb2).all) (first | (go_at_call 32; go_split_ands; refine (null_any _).mono ?_; rintro e w2 ⟨rfl, hb2⟩) | (go_at_call 38; go_split_ands; refine (none_any _).mono ?_; rintro e w2 ⟨rfl, hb2⟩))
  all_goals go_split_ands
  all_goals go_wp2_with fail
  all_goals go_ret
  all_goals exact ⟨rfl, TyS.bel (p := w.heap.size) (B := 8) (N := N) (D := D) (M := M) (by assumption)⟩
set_option maxHeartbeats 4000000 in
theorem lit_8d (D : Int) (N M : ByteArray) (w : World) (hn : N.toList = []) (hd : ¬ D = 0) :
    Calls Tryd.prog 37 #[.agg #[.int .i64 8, .string N, .int .i64 D, .string M]] w fun e w' => e = .returned (.bool false) ∧ Below w.heap.size w w' := by
  have HS := Lib.hid ((TyS.new w 8 N D M 24).drew)
  go_enter Tryd.func37, Tryd.ntmps37
  go_wp2_with fail
  go_region_held3 (fun w' => w'.cell? ⟨w.heap.size, 0, none⟩ = some (.int .i64 8) ∧ w'.cell? ⟨w.heap.size, 1, none⟩ = some (.string N) ∧ w'.cell? ⟨w.heap.size, 2, none⟩ = some (.int .i64 D) ∧ w'.cell? ⟨w.heap.size, 3, none⟩ = some (.string M) ∧ TyS w w.heap.size 8 N D M w') (first | exact HS.out.all | exact (TyS.keep (by assumption) hb2).all) (first | (go_at_call 32; go_split_ands; refine (null_any _).mono ?_; rintro e w2 ⟨rfl, hb2⟩) | (go_at_call 38; go_split_ands; refine (none_any _).mono ?_; rintro e w2 ⟨rfl, hb2⟩))
  all_goals go_split_ands
  all_goals go_wp2_with fail
  all_goals go_ret
  all_goals exact ⟨rfl, TyS.bel (p := w.heap.size) (B := 8) (N := N) (D := D) (M := M) (by assumption)⟩
set_option maxHeartbeats 4000000 in
theorem lit_8m (N M : ByteArray) (w : World) (hn : N.toList = []) (hm : ¬ M.toList = [111]) :
    Calls Tryd.prog 37 #[.agg #[.int .i64 8, .string N, .int .i64 0, .string M]] w fun e w' => e = .returned (.bool false) ∧ Below w.heap.size w w' := by
  have HS := Lib.hid ((TyS.new w 8 N 0 M 24).drew)
  go_enter Tryd.func37, Tryd.ntmps37
  go_wp2_with fail
  go_region_held3 (fun w' => w'.cell? ⟨w.heap.size, 0, none⟩ = some (.int .i64 8) ∧ w'.cell? ⟨w.heap.size, 1, none⟩ = some (.string N) ∧ w'.cell? ⟨w.heap.size, 2, none⟩ = some (.int .i64 0) ∧ w'.cell? ⟨w.heap.size, 3, none⟩ = some (.string M) ∧ TyS w w.heap.size 8 N 0 M w') (first | exact HS.out.all | exact (TyS.keep (by assumption) hb2).all) (first | (go_at_call 32; go_split_ands; refine (null_any _).mono ?_; rintro e w2 ⟨rfl, hb2⟩) | (go_at_call 38; go_split_ands; refine (none_any _).mono ?_; rintro e w2 ⟨rfl, hb2⟩))
  all_goals go_split_ands
  all_goals go_wp2_with fail
  all_goals go_ret
  all_goals exact ⟨rfl, TyS.bel (p := w.heap.size) (B := 8) (N := N) (D := 0) (M := M) (by assumption)⟩
set_option maxHeartbeats 4000000 in
theorem lit_8y (N M : ByteArray) (w : World) (hn : N.toList = []) (hm : M.toList = [111]) :
    Calls Tryd.prog 37 #[.agg #[.int .i64 8, .string N, .int .i64 0, .string M]] w fun e w' => e = .returned (.bool true) ∧ Below w.heap.size w w' := by
  have HS := Lib.hid ((TyS.new w 8 N 0 M 24).drew)
  go_enter Tryd.func37, Tryd.ntmps37
  go_wp2_with fail
  go_region_held3 (fun w' => w'.cell? ⟨w.heap.size, 0, none⟩ = some (.int .i64 8) ∧ w'.cell? ⟨w.heap.size, 1, none⟩ = some (.string N) ∧ w'.cell? ⟨w.heap.size, 2, none⟩ = some (.int .i64 0) ∧ w'.cell? ⟨w.heap.size, 3, none⟩ = some (.string M) ∧ TyS w w.heap.size 8 N 0 M w') (first | exact HS.out.all | exact (TyS.keep (by assumption) hb2).all) (first | (go_at_call 32; go_split_ands; refine (null_any _).mono ?_; rintro e w2 ⟨rfl, hb2⟩) | (go_at_call 38; go_split_ands; refine (none_any _).mono ?_; rintro e w2 ⟨rfl, hb2⟩))
  all_goals go_split_ands
  all_goals go_wp2_with fail
  all_goals go_ret
  all_goals exact ⟨rfl, TyS.bel (p := w.heap.size) (B := 8) (N := N) (D := 0) (M := M) (by assumption)⟩
theorem literal_any (B : Int) (N : ByteArray) (D : Int) (M : ByteArray) (w : World) :
    Calls Tryd.prog 37 #[.agg #[.int .i64 B, .string N, .int .i64 D, .string M]] w fun e w' => e = .returned (.bool (litB B N D M)) ∧ Below w.heap.size w w' := by
  by_cases h7 : B = 7
  · subst h7
    by_cases hn : N.toList = []
    · by_cases hd : D = 0
      · subst hd
        by_cases hm : M.toList = [63]
        · rw [show litB 7 N 0 M = true by simp [litB, nullB, noneB, hn, hm]]; exact lit_7y N M w hn hm
        · rw [show litB 7 N 0 M = false by simp [litB, nullB, noneB, hn, hm]]; exact lit_7m N M w hn hm
      · rw [show litB 7 N D M = false by simp [litB, nullB, noneB, hn, hd]]; exact lit_7d D N M w hn hd
    · rw [show litB 7 N D M = false by simp [litB, nullB, noneB, hn]]; exact lit_7n D N M w hn
  · by_cases h8 : B = 8
    · subst h8
      by_cases hn : N.toList = []
      · by_cases hd : D = 0
        · subst hd
          by_cases hm : M.toList = [111]
          · rw [show litB 8 N 0 M = true by simp [litB, nullB, noneB, hn, hm]]; exact lit_8y N M w hn hm
          · rw [show litB 8 N 0 M = false by simp [litB, nullB, noneB, hn, hm]]; exact lit_8m N M w hn hm
        · rw [show litB 8 N D M = false by simp [litB, nullB, noneB, hn, hd]]; exact lit_8d D N M w hn hd
      · rw [show litB 8 N D M = false by simp [litB, nullB, noneB, hn]]; exact lit_8n D N M w hn
    · rw [show litB B N D M = false by simp [litB, nullB, noneB, h7, h8]]; exact lit_c B D N M w h7 h8
end Go.Proofs.YtdkpmpkoelckoaaDoor
