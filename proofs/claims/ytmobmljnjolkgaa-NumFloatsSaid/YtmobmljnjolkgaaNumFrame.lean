/- What the frames of the laws on numbers share. -/
import Derived.Test.YtmobmljnjolkgaaNumD
import Derived.ProofKit
import Derived.OpenShut
import Derived.ChangeOld
import Derived.Below
import Derived.Lib.SmallJoins
import Derived.Deep.Slices
import Derived.Deep.Fields
import Derived.ChangeSame
import Derived.ShutString
namespace Go.Proofs.Ytmobmljnjolkgaa
open Go.ChangeShapes Go.WideShapes Go.ChangeAt Go.RowKit
set_option linter.unusedVariables false

theorem own : ownKnob Try.prog.godebug = none := by kernel_rfl
theorem laidOut : laidOutB Try.prog = true := by kernel_rfl
theorem below_drewN {B : Nat} {a w : World} (h : Below B a w) (n : Nat) : Below B a (w.drewN n) := ⟨h.os, h.tape, h.output, h.size, h.block⟩
theorem drew_below (w : World) (n : Nat) : Below w.heap.size w (w.drewN n) := below_drewN (Below.refl _ _) n

/-! ### Any text is a whole number, or isn't one -/
set_option maxHeartbeats 1000000 in
theorem numInts_any (s : ByteArray) (hs : s.size ≤ maxLen) (w : World) :
    Calls Try.prog 3 #[.string s] w fun e w' => e = .returned (.bool true) ∧ Below w.heap.size w w' := by
  unfold maxLen at hs
  by_cases hl : 100 < s.size
  · have hl2 : 100 < (s.size : Int) := by omega
    go_enter Try.func3, Try.ntmps3
    go_wp2_with (go_at_call 16; refine (reckons_any _).mono ?_; rintro e w' ⟨rfl, n0, rfl⟩)
    go_ret
    exact ⟨rfl, drew_below _ _⟩
  · have hl2 : ¬ 100 < (s.size : Int) := by omega
    have HI := Lib.hid (fun w => int_any s w (by omega))
    have HR := Lib.hid (fun w => rint_any s w (by omega))
    generalize intR s = r at *
    go_enter Try.func3, Try.ntmps3
    go_wp2_with (first | (go_at_call 16; refine (reckons_any _).mono ?_; rintro e w' ⟨rfl, n0, rfl⟩) | (go_at_call 17; refine (HI.out _).mono ?_; rintro e w' ⟨rfl, rfl⟩) | (go_at_call 18; refine (HR.out _).mono ?_; rintro e w' ⟨rfl, rfl⟩))
    go_ret
    exact ⟨by simp, drew_below _ _⟩

end Go.Proofs.Ytmobmljnjolkgaa
