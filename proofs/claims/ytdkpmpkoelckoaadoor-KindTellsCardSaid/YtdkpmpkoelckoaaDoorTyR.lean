/- Types in boxes, kept through calls; small at one, two and three types; facts for the statements of layer 10. -/
import Derived.Test.YtdkpmpkoelckoaaDoorTyQ
namespace Go.Proofs.YtdkpmpkoelckoaaDoor
open Go Go.RowKit
set_option linter.unusedVariables false
set_option linter.unusedSimpArgs false

/-- types in boxes, and that all else is kept -/
structure Boxes (w0 : World) (l : List (Nat × Ty4)) (w : World) : Prop where
  bel : Below w0.heap.size w0 w
  at_ : ∀ x ∈ l, TyAt w x.1 x.2.1 x.2.2.1 x.2.2.2.1 x.2.2.2.2
theorem Boxes.start (w : World) : Boxes w [] w := ⟨Below.refl _ _, fun x hx => by cases hx⟩
theorem Boxes.keep {w0 w w1 : World} {l : List (Nat × Ty4)} (h : Boxes w0 l w) (hb : Below w.heap.size w w1) : Boxes w0 l w1 := ⟨after h.1 hb, fun x hx => (h.2 x hx).keep hb⟩
theorem Boxes.new {w0 w : World} {l : List (Nat × Ty4)} (h : Boxes w0 l w) (B : Int) (N : ByteArray) (D : Int) (M : ByteArray) (T : TypeId) : Boxes w0 ((w.heap.size, (B, N, D, M)) :: l) (w.alloc (.cells #[.int .i64 B, .string N, .int .i64 D, .string M] T)) := by
  have hb : Below w.heap.size w (w.alloc (.cells #[.int .i64 B, .string N, .int .i64 D, .string M] T)) := (Below.refl _ _).alloc (Nat.le_refl _) _
  refine ⟨after h.1 hb, fun x hx => ?_⟩
  rcases List.mem_cons.1 hx with rfl | hx
  · exact TyAt.new w B N D M T
  · exact (h.2 x hx).keep hb
theorem Boxes.drew {w0 w : World} {l : List (Nat × Ty4)} (h : Boxes w0 l w) : Boxes w0 l w.drew := h.keep ((Below.refl _ _).drew)
theorem Boxes.get {w0 w : World} {l : List (Nat × Ty4)} (h : Boxes w0 l w) {p : Nat} {B : Int} {N : ByteArray} {D : Int} {M : ByteArray} (hx : (p, (B, N, D, M)) ∈ l) : TyAt w p B N D M := h.2 _ hx

theorem cells4 {w : World} {p : Nat} {B : Int} {N : ByteArray} {D : Int} {M : ByteArray} (h : TyAt w p B N D M) : w.cell? ⟨p, 0, none⟩ = some (.int .i64 B) ∧ w.cell? ⟨p, 1, none⟩ = some (.string N) ∧ w.cell? ⟨p, 2, none⟩ = some (.int .i64 D) ∧ w.cell? ⟨p, 3, none⟩ = some (.string M) := ⟨h.2.1, h.2.2.1, h.2.2.2.1, h.2.2.2.2.1⟩
theorem small1 (B : Int) (N : ByteArray) (D : Int) (M : ByteArray) (w1 : World) (T : TypeId) (sN : N.size ≤ maxLen) (sM : M.size ≤ maxLen) (x : Bool) (hx : sm (B, N, D, M) = x) :
    Calls Tryd.prog 15 #[.slice (some ⟨w1.heap.size, 0, none⟩) 1 1] (w1.alloc (.cells #[.int .i64 B, .string N, .int .i64 D, .string M] T)) fun e w' => e = .returned (.bool x) ∧ Below w1.heap.size w1 w' := by
  have hrow : Row4 (w1.alloc (.cells #[.int .i64 B, .string N, .int .i64 D, .string M] T)) w1.heap.size [(B, N, D, M)] := by
    refine ⟨by simp, fun i hi => ?_⟩
    have h0 : i = 0 := by simp at hi; omega
    subst h0
    exact cells4 (TyAt.new w1 B N D M T)
  have h := small_any w1.heap.size [(B, N, D, M)] _ (by simp) hrow (fun t ht => by simp at ht; subst ht; exact ⟨sN, sM⟩)
  refine h.mono ?_
  rintro e w' ⟨rfl, hb⟩
  refine ⟨by simp [hx], after ((Below.refl _ _).alloc (Nat.le_refl _) _) hb⟩
theorem small2 (B : Int) (N : ByteArray) (D : Int) (M : ByteArray) (B' : Int) (N' : ByteArray) (D' : Int) (M' : ByteArray) (w1 : World) (T : TypeId) (sN : N.size ≤ maxLen) (sM : M.size ≤ maxLen) (sN' : N'.size ≤ maxLen) (sM' : M'.size ≤ maxLen) (x : Bool) (hx : (sm (B, N, D, M) && sm (B', N', D', M')) = x) :
    Calls Tryd.prog 15 #[.slice (some ⟨w1.heap.size, 0, none⟩) 2 2] (w1.alloc (.cells #[.int .i64 B, .string N, .int .i64 D, .string M, .int .i64 B', .string N', .int .i64 D', .string M'] T)) fun e w' => e = .returned (.bool x) ∧ Below w1.heap.size w1 w' := by
  have hrow : Row4 (w1.alloc (.cells #[.int .i64 B, .string N, .int .i64 D, .string M, .int .i64 B', .string N', .int .i64 D', .string M'] T)) w1.heap.size [(B, N, D, M), (B', N', D', M')] := by
    refine ⟨by simp, fun i hi => ?_⟩
    have h0 : i = 0 ∨ i = 1 := by simp at hi; omega
    rcases h0 with rfl | rfl <;> simp [go_sem]
  have h := small_any w1.heap.size [(B, N, D, M), (B', N', D', M')] _ (by simp) hrow (fun t ht => by
    simp at ht
    rcases ht with rfl | rfl
    · exact ⟨sN, sM⟩
    · exact ⟨sN', sM'⟩)
  refine h.mono ?_
  rintro e w' ⟨rfl, hb⟩
  refine ⟨by simp [← hx], after ((Below.refl _ _).alloc (Nat.le_refl _) _) hb⟩
theorem small3 (B : Int) (N : ByteArray) (D : Int) (M : ByteArray) (B' : Int) (N' : ByteArray) (D' : Int) (M' : ByteArray) (B2 : Int) (N2 : ByteArray) (D2 : Int) (M2 : ByteArray) (w1 : World) (T : TypeId) (sN : N.size ≤ maxLen) (sM : M.size ≤ maxLen) (sN' : N'.size ≤ maxLen) (sM' : M'.size ≤ maxLen) (sN2 : N2.size ≤ maxLen) (sM2 : M2.size ≤ maxLen) (x : Bool) (hx : (sm (B, N, D, M) && (sm (B', N', D', M') && sm (B2, N2, D2, M2))) = x) :
    Calls Tryd.prog 15 #[.slice (some ⟨w1.heap.size, 0, none⟩) 3 3] (w1.alloc (.cells #[.int .i64 B, .string N, .int .i64 D, .string M, .int .i64 B', .string N', .int .i64 D', .string M', .int .i64 B2, .string N2, .int .i64 D2, .string M2] T)) fun e w' => e = .returned (.bool x) ∧ Below w1.heap.size w1 w' := by
  have hrow : Row4 (w1.alloc (.cells #[.int .i64 B, .string N, .int .i64 D, .string M, .int .i64 B', .string N', .int .i64 D', .string M', .int .i64 B2, .string N2, .int .i64 D2, .string M2] T)) w1.heap.size [(B, N, D, M), (B', N', D', M'), (B2, N2, D2, M2)] := by
    refine ⟨by simp, fun i hi => ?_⟩
    have h0 : i = 0 ∨ i = 1 ∨ i = 2 := by simp at hi; omega
    rcases h0 with rfl | rfl | rfl <;> simp [go_sem]
  have h := small_any w1.heap.size [(B, N, D, M), (B', N', D', M'), (B2, N2, D2, M2)] _ (by simp) hrow (fun t ht => by
    simp at ht
    rcases ht with rfl | rfl | rfl
    · exact ⟨sN, sM⟩
    · exact ⟨sN', sM'⟩
    · exact ⟨sN2, sM2⟩)
  refine h.mono ?_
  rintro e w' ⟨rfl, hb⟩
  refine ⟨by simp [← hx], after ((Below.refl _ _).alloc (Nat.le_refl _) _) hb⟩
theorem sm_sizes {B : Int} {N : ByteArray} {D : Int} {M : ByteArray} (h : sm (B, N, D, M) = true) : N.size ≤ 60 ∧ M.size ≤ 60 := by
  unfold sm at h; simpa using h

set_option maxHeartbeats 4000000 in
theorem array_no (B : Int) (N : ByteArray) (D : Int) (M : ByteArray) (w : World) (hN : N.size ≤ 60) (hM : M.size ≤ 60) (h : rightB B N D M = false) :
    Calls Tryd.prog 30 #[.agg #[.int .i64 B, .string N, .int .i64 D, .string M]] w fun e w' => e = .returned (.tuple #[.agg #[.int .i64 0, .string ⟨#[]⟩, .int .i64 0, .string ⟨#[]⟩], .int .i64 130]) ∧ Below w.heap.size w w' := by
  have HR := Lib.hid (fun w => kmay_any B N D M w hN hM)
  rw [h] at HR
  go_enter Tryd.func30, Tryd.ntmps30
  go_wp2_with fail
  refine (HR.out _).mono ?_
  rintro e w1 ⟨rfl, hb1⟩
  obtain ⟨hq1, hA1, hR1⟩ := box42 hb1
  obtain ⟨hl1, c10, c11, c12, c13, f1⟩ := hA1
  obtain ⟨gl1, g10, g11, g12, g13, e1⟩ := hR1
  go_wp2_with fail
  refine bodyPost_ret (v := .tuple #[.agg #[.int .i64 0, .string ⟨#[]⟩, .int .i64 0, .string ⟨#[]⟩], .int .i64 130]) (by simp [results, Tryd.results30, go_sem, g10, g11, g12, g13]) rfl ?_
  exact ⟨rfl, by repeat (first | exact Below.refl _ _ | apply Below.setCell _ (by first | omega | (simp <;> omega)) | apply Below.alloc _ (by first | omega | (simp <;> omega)) | exact hq1 | refine after ?_ hq1)⟩
end Go.Proofs.YtdkpmpkoelckoaaDoor
