/- The statements' own first question: a mark and a guard are put into a text. -/
import Derived.Test.YtajfklhfjmoelaaEditI
namespace Go.Proofs.Ytajfklhfjmoelaa
open Go Go.RowKit
set_option linter.unusedVariables false

def txt0 : ByteArray := ⟨#[67, 32, 120, 59, 46, 102]⟩
def txt1 : ByteArray := ⟨#[67, 63, 32, 120, 59, 33, 46, 102]⟩
def eds0 : List NEd := [(1, 1, ⟨#[63]⟩), (4, 4, ⟨#[33]⟩)]
theorem eds0_ok : EdOk txt0.size 0 eds0 := ⟨by decide, by decide, by decide, by decide, by show (4 : Nat) ≤ 6; decide⟩
theorem eds0_makes : pieces txt0 0 eds0 = txt1 := by decide +kernel
theorem eds0_fits : fitsE txt0.size (eds0.map toI) = 0 ∧ costE (eds0.map toI) = (costN eds0 : Nat) ∧ checkE txt0.size (eds0.map toI) = 0 :=
  valid_fits eds0_ok (by decide) (by decide) (by decide) (by decide)

set_option maxRecDepth 100000 in
set_option maxHeartbeats 2000000 in
theorem edits_any (w : World) :
    Calls Try.prog 16 #[] w fun e w' => e = .returned (.bool true) ∧ Below w.heap.size w w' := by
  obtain ⟨k1, k2, k3⟩ := eds0_fits
  have K1 := Lib.hid k1
  have K2 := Lib.hid k2
  have K3 := Lib.hid k3
  have KM : Hid (pieces txt0 0 eds0 = ⟨#[67, 63, 32, 120, 59, 33, 46, 102]⟩) := Lib.hid eds0_makes
  obtain ⟨b1, b2, b3, b4⟩ := inv_back txt0 eds0 eds0_ok
  rw [eds0_makes] at b1 b2
  have B1 := Lib.hid b1
  have B2 : Hid (pieces txt1 0 (invFrom txt0 0 eds0) = ⟨#[67, 32, 120, 59, 46, 102]⟩) := Lib.hid b2
  have B3 : Hid (∀ e ∈ invFrom txt0 0 eds0, e.2.2.size ≤ 65536) := Lib.hid (by decide +kernel)
  have B4 : Hid ((txt1.size : Int) + growN (invFrom txt0 0 eds0) ≤ 65536) := Lib.hid (by decide +kernel)
  have BV := Lib.hid (valid_fits B1.out (by decide +kernel) (by decide +kernel) B4.out B3.out).1
  have R0 : Hid (EdsIn (w.alloc (.cells #[.int .i64 1, .int .i64 1, .string ⟨#[63]⟩, .int .i64 4, .int .i64 4, .string ⟨#[33]⟩] 37)) (some ⟨w.heap.size, 0, none⟩) (eds0.map toI)) := Lib.hid (fun _ => ⟨w.heap.size, 0, rfl, by simp, fun i hi => by
    match i, hi with
    | 0, _ => simp [go_sem, eds0, toI]
    | 1, _ => simp [go_sem, eds0, toI]⟩)
  clear b1 b2 b3 b4 k1 k2 k3
  go_enter Try.func16, Try.ntmps16
  go_wp2_with fail
  refine (apply_ok txt0 (some ⟨w.heap.size, 0, none⟩) 2 2 eds0 _ rfl (by omega) (by decide) eds0_ok (by decide) K1.out (by decide) R0.out).mono ?_
  rw [KM.out]
  rintro e w1 ⟨rfl, h01⟩
  have R1 := Lib.hid (R0.out.step h01)
  have H1 := Lib.hid (after ((Below.refl _ _).alloc (Nat.le_refl _) _) h01)
  clear h01 R0
  go_wp2_with fail
  refine (invert_ok txt0 (some ⟨w.heap.size, 0, none⟩) 2 2 eds0 _ rfl (by omega) (by decide) eds0_ok (by decide) K1.out (by decide) R1.out).mono ?_
  rintro e w2 ⟨g, rfl, h12, hg, hrow⟩
  have R2 := Lib.hid (R1.out.step h12)
  have H2 := Lib.hid (after H1.out h12)
  have HRW := Lib.hid (show EdsIn w2 (some ⟨g, 0, none⟩) ((invFrom txt0 0 eds0).map toI) from fun _ => ⟨g, 0, rfl, hg, hrow⟩)
  clear h12 R1 hrow
  go_wp2_with fail
  refine (apply_ok txt1 (some ⟨g, 0, none⟩) 2 2 (invFrom txt0 0 eds0) _ rfl (by omega) (by decide) B1.out B4.out BV.out B3.out HRW.out).mono ?_
  rw [B2.out]
  rintro e w3 ⟨rfl, h23⟩
  have R3 := Lib.hid (R2.out.step h23)
  have H3 := Lib.hid (after H2.out h23)
  clear h23 R2 HRW
  go_wp2_with fail
  have HK2 := Lib.hid (show costE (eds0.map toI) = 2 from K2.out)
  refine (cost_any (some ⟨w.heap.size, 0, none⟩) 2 2 (eds0.map toI) _ rfl (by omega) (by decide) R3.out).mono ?_
  rw [HK2.out]
  rintro e w4 ⟨rfl, h34⟩
  go_wp2_with fail
  refine (echeck_any 6 (some ⟨w.heap.size, 0, none⟩) 2 2 (eds0.map toI) _ rfl (by unfold maxLen; omega) (R3.out.step h34)).mono ?_
  rw [show checkE 6 (eds0.map toI) = 0 from K3.out]
  rintro e w5 ⟨rfl, h45⟩
  go_wp2_with fail
  go_ret
  exact ⟨rfl, after (after H3.out h34) h45⟩

end Go.Proofs.Ytajfklhfjmoelaa
