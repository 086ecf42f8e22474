/- Contract of the statements' own first question of layer 10 (sorts). -/
import Derived.Test.YtdkpmpkoelckoaaDoorTyL
namespace Go.Proofs.YtdkpmpkoelckoaaDoor
open Go Go.RowKit
set_option linter.unusedVariables false
set_option linter.unusedSimpArgs false

theorem s_of (w : World) : Calls Tryd.prog 10 #[.int .i64 5, .string ⟨#[67]⟩, .int .i64 0] w fun e w' => e = .returned (.tuple #[.agg #[.int .i64 5, .string ⟨#[67]⟩, .int .i64 0, .string ⟨#[32]⟩], .int .i64 0]) ∧ Below w.heap.size w w' :=
  of_yes 5 ⟨#[67]⟩ 0 w (by decide) (by decide) (by decide +kernel)
theorem s_with (w : World) : Calls Tryd.prog 29 #[.agg #[.int .i64 5, .string ⟨#[67]⟩, .int .i64 0, .string ⟨#[32]⟩], .int .u8 63] w fun e w' => e = .returned (.tuple #[.agg #[.int .i64 5, .string ⟨#[67]⟩, .int .i64 0, .string ⟨#[63]⟩], .int .i64 0]) ∧ Below w.heap.size w w' := by
  have h := with_in 5 ⟨#[67]⟩ 0 ⟨#[32]⟩ 63 w (by decide) (by decide) (by decide +kernel) (by decide +kernel)
  rw [show markV 5 ⟨#[67]⟩ 0 ⟨#[32]⟩ 0 63 = .tuple #[.agg #[.int .i64 5, .string ⟨#[67]⟩, .int .i64 0, .string ⟨#[63]⟩], .int .i64 0] by kernel_rfl] at h
  exact h
theorem s_array (w : World) : Calls Tryd.prog 30 #[.agg #[.int .i64 5, .string ⟨#[67]⟩, .int .i64 0, .string ⟨#[63]⟩]] w fun e w' => e = .returned (.tuple #[.agg #[.int .i64 5, .string ⟨#[67]⟩, .int .i64 1, .string ⟨#[63, 32]⟩], .int .i64 0]) ∧ Below w.heap.size w w' := by
  have h := array_in 5 ⟨#[67]⟩ 0 ⟨#[63]⟩ w (by decide) (by decide) (by decide +kernel) (by decide) (by decide +kernel)
  rw [show arrayV 5 ⟨#[67]⟩ 0 ⟨#[63]⟩ = .tuple #[.agg #[.int .i64 5, .string ⟨#[67]⟩, .int .i64 1, .string ⟨#[63, 32]⟩], .int .i64 0] by kernel_rfl] at h
  exact h
theorem s_elem (w : World) : Calls Tryd.prog 31 #[.agg #[.int .i64 5, .string ⟨#[67]⟩, .int .i64 1, .string ⟨#[63, 32]⟩]] w fun e w' => e = .returned (.tuple #[.agg #[.int .i64 5, .string ⟨#[67]⟩, .int .i64 0, .string ⟨#[63]⟩], .int .i64 0]) ∧ Below w.heap.size w w' := by
  have h := elem_yes 5 ⟨#[67]⟩ 0 ⟨#[63, 32]⟩ w (by decide) (by decide) (by decide +kernel)
  rw [show (⟨#[63, 32]⟩ : ByteArray).extract 0 (0 + 1) = ⟨#[63]⟩ by decide +kernel] at h
  exact h
theorem s_mark (w : World) : Calls Tryd.prog 28 #[.agg #[.int .i64 5, .string ⟨#[67]⟩, .int .i64 1, .string ⟨#[63, 32]⟩], .int .i64 0, .int .u8 32] w fun e w' => e = .returned (.tuple #[.agg #[.int .i64 5, .string ⟨#[67]⟩, .int .i64 1, .string ⟨#[32, 32]⟩], .int .i64 0]) ∧ Below w.heap.size w w' := by
  have h := mark_in 5 ⟨#[67]⟩ 1 ⟨#[63, 32]⟩ 0 32 w (by decide) (by decide) (by decide +kernel) (by decide)
  rw [show markV 5 ⟨#[67]⟩ 1 ⟨#[63, 32]⟩ 0 32 = .tuple #[.agg #[.int .i64 5, .string ⟨#[67]⟩, .int .i64 1, .string ⟨#[32, 32]⟩], .int .i64 0] by kernel_rfl] at h
  exact h
theorem s_show1 (w : World) : Calls Tryd.prog 21 #[.agg #[.int .i64 5, .string ⟨#[67]⟩, .int .i64 1, .string ⟨#[63, 32]⟩]] w fun e w' => e = .returned (.string ⟨#[67, 63, 91, 93]⟩) ∧ Below w.heap.size w w' := by
  have h := kshow_any 5 ⟨#[67]⟩ 1 ⟨#[63, 32]⟩ w (by decide) (by decide)
  rw [show shS 5 ⟨#[67]⟩ 1 ⟨#[63, 32]⟩ = ⟨#[67, 63, 91, 93]⟩ by decide +kernel] at h
  exact h
theorem s_show2 (w : World) : Calls Tryd.prog 21 #[.agg #[.int .i64 5, .string ⟨#[67]⟩, .int .i64 1, .string ⟨#[32, 32]⟩]] w fun e w' => e = .returned (.string ⟨#[67, 91, 93]⟩) ∧ Below w.heap.size w w' := by
  have h := kshow_any 5 ⟨#[67]⟩ 1 ⟨#[32, 32]⟩ w (by decide) (by decide)
  rw [show shS 5 ⟨#[67]⟩ 1 ⟨#[32, 32]⟩ = ⟨#[67, 91, 93]⟩ by decide +kernel] at h
  exact h
theorem s_show3 (w : World) : Calls Tryd.prog 21 #[.agg #[.int .i64 7, .string ⟨#[]⟩, .int .i64 0, .string ⟨#[63]⟩]] w fun e w' => e = .returned (.string ⟨#[110, 117, 108, 108]⟩) ∧ Below w.heap.size w w' := by
  have h := kshow_any 7 ⟨#[]⟩ 0 ⟨#[63]⟩ w (by decide) (by decide)
  rw [show shS 7 ⟨#[]⟩ 0 ⟨#[63]⟩ = ⟨#[110, 117, 108, 108]⟩ by decide +kernel] at h
  exact h
theorem s_outer1 (w : World) : Calls Tryd.prog 19 #[.agg #[.int .i64 5, .string ⟨#[67]⟩, .int .i64 0, .string ⟨#[63]⟩]] w fun e w' => e = .returned (.int .u8 63) ∧ Below w.heap.size w w' := by
  have h := outer_any 5 ⟨#[67]⟩ 0 ⟨#[63]⟩ w (by decide) (by decide)
  rw [show outS 5 ⟨#[67]⟩ 0 ⟨#[63]⟩ = 63 by decide +kernel] at h
  exact h
theorem s_outer2 (w : World) : Calls Tryd.prog 19 #[.agg #[.int .i64 5, .string ⟨#[67]⟩, .int .i64 1, .string ⟨#[63, 32]⟩]] w fun e w' => e = .returned (.int .u8 32) ∧ Below w.heap.size w w' := by
  have h := outer_any 5 ⟨#[67]⟩ 1 ⟨#[63, 32]⟩ w (by decide) (by decide)
  rw [show outS 5 ⟨#[67]⟩ 1 ⟨#[63, 32]⟩ = 32 by decide +kernel] at h
  exact h
theorem s_layers (w : World) : Calls Tryd.prog 20 #[.agg #[.int .i64 5, .string ⟨#[67]⟩, .int .i64 1, .string ⟨#[63, 32]⟩]] w fun e w' => ∃ g cap, e = .returned (.slice (some ⟨g, 0, none⟩) 2 cap) ∧ 2 ≤ cap ∧ cap ≤ maxLen ∧ Below w.heap.size w w' := by
  have h := layers_in 5 ⟨#[67]⟩ 1 ⟨#[63, 32]⟩ w (by decide) (by decide) (by decide +kernel)
  refine h.mono ?_
  rintro e w' ⟨v, rfl, hb, hl⟩
  rcases hl with ⟨h0, -⟩ | ⟨g, cap, rfl, h1, h2, -, -, -⟩
  · exact absurd h0 (by decide)
  · exact ⟨g, cap, rfl, h1, h2, hb⟩
theorem s_alike (w : World) : Calls Tryd.prog 25 #[.agg #[.int .i64 5, .string ⟨#[67]⟩, .int .i64 1, .string ⟨#[63, 32]⟩], .agg #[.int .i64 5, .string ⟨#[67]⟩, .int .i64 1, .string ⟨#[32, 32]⟩]] w fun e w' => e = .returned (.bool true) ∧ Below w.heap.size w w' := by
  have h := alike_any 5 ⟨#[67]⟩ 1 ⟨#[63, 32]⟩ 5 ⟨#[67]⟩ 1 ⟨#[32, 32]⟩ w (by decide) (by decide) (by decide) (by decide)
  rw [show alikeB 5 ⟨#[67]⟩ 1 ⟨#[63, 32]⟩ 5 ⟨#[67]⟩ 1 ⟨#[32, 32]⟩ = true by decide +kernel] at h
  exact h
theorem s_inside (w : World) : Calls Tryd.prog 26 #[.agg #[.int .i64 5, .string ⟨#[67]⟩, .int .i64 1, .string ⟨#[63, 32]⟩], .agg #[.int .i64 5, .string ⟨#[67]⟩, .int .i64 1, .string ⟨#[32, 32]⟩]] w fun e w' => e = .returned (.bool false) ∧ Below w.heap.size w w' := by
  have h := inside_any 5 ⟨#[67]⟩ 1 ⟨#[63, 32]⟩ 5 ⟨#[67]⟩ 1 ⟨#[32, 32]⟩ w (by decide) (by decide) (by decide) (by decide)
  rw [show insideB 5 ⟨#[67]⟩ 1 ⟨#[63, 32]⟩ 5 ⟨#[67]⟩ 1 ⟨#[32, 32]⟩ = false by decide +kernel] at h
  exact h
theorem s_less1 (w : World) : Calls Tryd.prog 27 #[.agg #[.int .i64 5, .string ⟨#[67]⟩, .int .i64 1, .string ⟨#[32, 32]⟩], .agg #[.int .i64 5, .string ⟨#[67]⟩, .int .i64 1, .string ⟨#[63, 32]⟩]] w fun e w' => e = .returned (.bool true) ∧ Below w.heap.size w w' := by
  have h := less_any 5 ⟨#[67]⟩ 1 ⟨#[32, 32]⟩ 5 ⟨#[67]⟩ 1 ⟨#[63, 32]⟩ w (by decide) (by decide) (by decide) (by decide)
  rw [show lessB 5 ⟨#[67]⟩ 1 ⟨#[32, 32]⟩ 5 ⟨#[67]⟩ 1 ⟨#[63, 32]⟩ = true by decide +kernel] at h
  exact h
theorem s_less2 (w : World) : Calls Tryd.prog 27 #[.agg #[.int .i64 5, .string ⟨#[67]⟩, .int .i64 1, .string ⟨#[63, 32]⟩], .agg #[.int .i64 5, .string ⟨#[67]⟩, .int .i64 1, .string ⟨#[32, 32]⟩]] w fun e w' => e = .returned (.bool false) ∧ Below w.heap.size w w' := by
  have h := less_any 5 ⟨#[67]⟩ 1 ⟨#[63, 32]⟩ 5 ⟨#[67]⟩ 1 ⟨#[32, 32]⟩ w (by decide) (by decide) (by decide) (by decide)
  rw [show lessB 5 ⟨#[67]⟩ 1 ⟨#[63, 32]⟩ 5 ⟨#[67]⟩ 1 ⟨#[32, 32]⟩ = false by decide +kernel] at h
  exact h
/-- the four types that sorts has made, and that all else is kept -/
structure Srt (w0 : World) (pd pa px pm : Nat) (w : World) : Prop where
  d_ : TyAt w pd 5 ⟨#[67]⟩ 0 ⟨#[63]⟩
  a_ : TyAt w pa 5 ⟨#[67]⟩ 1 ⟨#[63, 32]⟩
  x_ : TyAt w px 5 ⟨#[67]⟩ 0 ⟨#[63]⟩
  m_ : TyAt w pm 5 ⟨#[67]⟩ 1 ⟨#[32, 32]⟩
  bel : Below w0.heap.size w0 w
theorem Srt.keep {w0 w w1 : World} {pd pa px pm : Nat} (h : Srt w0 pd pa px pm w) (hb : Below w.heap.size w w1) : Srt w0 pd pa px pm w1 := ⟨h.1.keep hb, h.2.keep hb, h.3.keep hb, h.4.keep hb, after h.5 hb⟩
theorem Srt.all {w0 w : World} {pd pa px pm : Nat} (h : Srt w0 pd pa px pm w) : (w.cell? ⟨pd, 0, none⟩ = some (.int .i64 5) ∧ w.cell? ⟨pd, 1, none⟩ = some (.string ⟨#[67]⟩) ∧ w.cell? ⟨pd, 2, none⟩ = some (.int .i64 0) ∧ w.cell? ⟨pd, 3, none⟩ = some (.string ⟨#[63]⟩)) ∧ (w.cell? ⟨pa, 0, none⟩ = some (.int .i64 5) ∧ w.cell? ⟨pa, 1, none⟩ = some (.string ⟨#[67]⟩) ∧ w.cell? ⟨pa, 2, none⟩ = some (.int .i64 1) ∧ w.cell? ⟨pa, 3, none⟩ = some (.string ⟨#[63, 32]⟩)) ∧ (w.cell? ⟨px, 0, none⟩ = some (.int .i64 5) ∧ w.cell? ⟨px, 1, none⟩ = some (.string ⟨#[67]⟩) ∧ w.cell? ⟨px, 2, none⟩ = some (.int .i64 0) ∧ w.cell? ⟨px, 3, none⟩ = some (.string ⟨#[63]⟩)) ∧ (w.cell? ⟨pm, 0, none⟩ = some (.int .i64 5) ∧ w.cell? ⟨pm, 1, none⟩ = some (.string ⟨#[67]⟩) ∧ w.cell? ⟨pm, 2, none⟩ = some (.int .i64 1) ∧ w.cell? ⟨pm, 3, none⟩ = some (.string ⟨#[32, 32]⟩)) :=
  ⟨⟨h.1.2.1, h.1.2.2.1, h.1.2.2.2.1, h.1.2.2.2.2.1⟩, ⟨h.2.2.1, h.2.2.2.1, h.2.2.2.2.1, h.2.2.2.2.2.1⟩, ⟨h.3.2.1, h.3.2.2.1, h.3.2.2.2.1, h.3.2.2.2.2.1⟩, ⟨h.4.2.1, h.4.2.2.1, h.4.2.2.2.1, h.4.2.2.2.2.1⟩⟩

set_option maxHeartbeats 8000000 in
theorem sorts_any (w : World) : Calls Tryd.prog 9 #[] w fun e w' => e = .returned (.bool true) ∧ Below w.heap.size w w' := by
  go_enter Tryd.func9, Tryd.ntmps9
  go_wp2_with fail
  refine (s_of _).mono ?_
  rintro e w1 ⟨rfl, hb1⟩
  go_wp2_with fail
  refine (s_with _).mono ?_
  rintro e w2 ⟨rfl, hb2⟩
  have q2 := after hb1 (box4 hb2).1
  go_wp2_with fail
  refine (s_array _).mono ?_
  rintro e w3 ⟨rfl, hb3⟩
  obtain ⟨e3, hD3⟩ := box4 hb3
  have q3 := after q2 e3
  have hD := Lib.hid hD3
  obtain ⟨ld, d0, d1, d2, d3, fd⟩ := hD3
  go_wp2_with fail
  refine (s_elem _).mono ?_
  rintro e w4 ⟨rfl, hb4⟩
  obtain ⟨e4, hA4⟩ := box4 hb4
  have q4 := after q3 e4
  have hD4 := hD.out.keep e4
  clear hD ld d0 d1 d2 d3 fd hb1 hb2 hb3 hb4
  have hD := Lib.hid hD4
  have hA := Lib.hid hA4
  obtain ⟨ld, d0, d1, d2, d3, fd⟩ := hD4
  obtain ⟨la, a0, a1, a2, a3, fa⟩ := hA4
  go_wp2_with fail
  refine (s_mark _).mono ?_
  rintro e w5 ⟨rfl, hb5⟩
  obtain ⟨e5, hX5⟩ := box4 hb5
  have q5 := after q4 e5
  have hD5 := hD.out.keep e5
  have hA5 := hA.out.keep e5
  clear hD ld d0 d1 d2 d3 fd hA la a0 a1 a2 a3 fa hb5
  have hal := (Below.refl w5.heap.size w5).alloc (Nat.le_refl _) (.cells #[.int .i64 5, .string ⟨#[67]⟩, .int .i64 1, .string ⟨#[32, 32]⟩] 24)
  have hS := Lib.hid (Srt.mk (hD5.keep hal) (hA5.keep hal) (hX5.keep hal) (TyAt.new w5 5 ⟨#[67]⟩ 1 ⟨#[32, 32]⟩ 24) (after q5 hal))
  clear hD5 hA5 hX5 hal q2 q3 q4 q5 e3 e4 e5
  obtain ⟨⟨d0, d1, d2, d3⟩, ⟨a0, a1, a2, a3⟩, ⟨x0, x1, x2, x3⟩, ⟨m0, m1, m2, m3⟩⟩ := hS.out.all
  go_wp2_with fail
  refine (s_show1 _).mono ?_
  rintro e w' ⟨rfl, hb⟩
  have hS2 := hS.out.keep hb
  clear hS hb d0 d1 d2 d3 a0 a1 a2 a3 x0 x1 x2 x3 m0 m1 m2 m3
  have hS := Lib.hid hS2
  clear hS2
  obtain ⟨⟨d0, d1, d2, d3⟩, ⟨a0, a1, a2, a3⟩, ⟨x0, x1, x2, x3⟩, ⟨m0, m1, m2, m3⟩⟩ := hS.out.all
  go_wp2_with fail
  refine (s_outer1 _).mono ?_
  rintro e w' ⟨rfl, hb⟩
  have hS2 := hS.out.keep hb
  clear hS hb d0 d1 d2 d3 a0 a1 a2 a3 x0 x1 x2 x3 m0 m1 m2 m3
  have hS := Lib.hid hS2
  clear hS2
  obtain ⟨⟨d0, d1, d2, d3⟩, ⟨a0, a1, a2, a3⟩, ⟨x0, x1, x2, x3⟩, ⟨m0, m1, m2, m3⟩⟩ := hS.out.all
  go_wp2_with fail
  refine (s_outer2 _).mono ?_
  rintro e w' ⟨rfl, hb⟩
  have hS2 := hS.out.keep hb
  clear hS hb d0 d1 d2 d3 a0 a1 a2 a3 x0 x1 x2 x3 m0 m1 m2 m3
  have hS := Lib.hid hS2
  clear hS2
  obtain ⟨⟨d0, d1, d2, d3⟩, ⟨a0, a1, a2, a3⟩, ⟨x0, x1, x2, x3⟩, ⟨m0, m1, m2, m3⟩⟩ := hS.out.all
  go_wp2_with fail
  refine (s_layers _).mono ?_
  rintro e w' ⟨g, cap, rfl, hg1, hg2, hb⟩
  have hS2 := hS.out.keep hb
  clear hS hb d0 d1 d2 d3 a0 a1 a2 a3 x0 x1 x2 x3 m0 m1 m2 m3
  have hS := Lib.hid hS2
  clear hS2
  obtain ⟨⟨d0, d1, d2, d3⟩, ⟨a0, a1, a2, a3⟩, ⟨x0, x1, x2, x3⟩, ⟨m0, m1, m2, m3⟩⟩ := hS.out.all
  go_wp2_with fail
  refine (s_show2 _).mono ?_
  rintro e w' ⟨rfl, hb⟩
  have hS2 := hS.out.keep hb
  clear hS hb d0 d1 d2 d3 a0 a1 a2 a3 x0 x1 x2 x3 m0 m1 m2 m3
  have hS := Lib.hid hS2
  clear hS2
  obtain ⟨⟨d0, d1, d2, d3⟩, ⟨a0, a1, a2, a3⟩, ⟨x0, x1, x2, x3⟩, ⟨m0, m1, m2, m3⟩⟩ := hS.out.all
  go_wp2_with fail
  refine (s_alike _).mono ?_
  rintro e w' ⟨rfl, hb⟩
  have hS2 := hS.out.keep hb
  clear hS hb d0 d1 d2 d3 a0 a1 a2 a3 x0 x1 x2 x3 m0 m1 m2 m3
  have hS := Lib.hid hS2
  clear hS2
  obtain ⟨⟨d0, d1, d2, d3⟩, ⟨a0, a1, a2, a3⟩, ⟨x0, x1, x2, x3⟩, ⟨m0, m1, m2, m3⟩⟩ := hS.out.all
  go_wp2_with fail
  refine (s_inside _).mono ?_
  rintro e w' ⟨rfl, hb⟩
  have hS2 := hS.out.keep hb
  clear hS hb d0 d1 d2 d3 a0 a1 a2 a3 x0 x1 x2 x3 m0 m1 m2 m3
  have hS := Lib.hid hS2
  clear hS2
  obtain ⟨⟨d0, d1, d2, d3⟩, ⟨a0, a1, a2, a3⟩, ⟨x0, x1, x2, x3⟩, ⟨m0, m1, m2, m3⟩⟩ := hS.out.all
  go_wp2_with fail
  refine (s_less1 _).mono ?_
  rintro e w' ⟨rfl, hb⟩
  have hS2 := hS.out.keep hb
  clear hS hb d0 d1 d2 d3 a0 a1 a2 a3 x0 x1 x2 x3 m0 m1 m2 m3
  have hS := Lib.hid hS2
  clear hS2
  obtain ⟨⟨d0, d1, d2, d3⟩, ⟨a0, a1, a2, a3⟩, ⟨x0, x1, x2, x3⟩, ⟨m0, m1, m2, m3⟩⟩ := hS.out.all
  go_wp2_with fail
  refine (s_less2 _).mono ?_
  rintro e w' ⟨rfl, hb⟩
  have hS2 := hS.out.keep hb
  clear hS hb d0 d1 d2 d3 a0 a1 a2 a3 x0 x1 x2 x3 m0 m1 m2 m3
  have hS := Lib.hid hS2
  clear hS2
  obtain ⟨⟨d0, d1, d2, d3⟩, ⟨a0, a1, a2, a3⟩, ⟨x0, x1, x2, x3⟩, ⟨m0, m1, m2, m3⟩⟩ := hS.out.all
  go_wp2_with fail
  refine (null_any _).mono ?_
  rintro e w' ⟨rfl, hb⟩
  have hS2 := hS.out.keep hb
  clear hS hb d0 d1 d2 d3 a0 a1 a2 a3 x0 x1 x2 x3 m0 m1 m2 m3
  have hS := Lib.hid hS2
  clear hS2
  obtain ⟨⟨d0, d1, d2, d3⟩, ⟨a0, a1, a2, a3⟩, ⟨x0, x1, x2, x3⟩, ⟨m0, m1, m2, m3⟩⟩ := hS.out.all
  go_wp2_with fail
  refine (s_show3 _).mono ?_
  rintro e w' ⟨rfl, hb⟩
  have hS2 := hS.out.keep hb
  clear hS hb d0 d1 d2 d3 a0 a1 a2 a3 x0 x1 x2 x3 m0 m1 m2 m3
  have hS := Lib.hid hS2
  clear hS2
  obtain ⟨⟨d0, d1, d2, d3⟩, ⟨a0, a1, a2, a3⟩, ⟨x0, x1, x2, x3⟩, ⟨m0, m1, m2, m3⟩⟩ := hS.out.all
  go_wp2_with fail
  go_ret
  exact ⟨rfl, hS.out.bel⟩
end Go.Proofs.YtdkpmpkoelckoaaDoor
