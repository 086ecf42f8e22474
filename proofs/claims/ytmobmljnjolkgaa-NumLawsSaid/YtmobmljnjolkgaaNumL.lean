/- Doubles together, or by each other: the walk. -/
import Derived.Test.YtmobmljnjolkgaaNumG
import Derived.Deep.QuietTactic
import Derived.BigQuiet
import Derived.Outline
namespace Go.Proofs.Ytmobmljnjolkgaa
open Go.RowKit
set_option linter.unusedVariables false

theorem orderSelf (a : Nat) (h : ¬ isNaN a) : (FloatKind.f64.format.order a a == some .eq) = true := by
  have := order_self' a
  rw [decide_eq_false h] at this
  exact this

theorem tmod_bd (i : Int) : -999999 ≤ i.tmod 1000000 ∧ i.tmod 1000000 ≤ 999999 := by
  have : (i.tmod 1000000).natAbs < 1000000 := by rw [Int.natAbs_tmod]; exact Nat.mod_lt _ (by decide)
  omega
theorem mul_bd (p r : Int) (p1 : -999999 ≤ p) (p2 : p ≤ 999999) (r1 : -999999 ≤ r) (r2 : r ≤ 999999) : -999998000001 ≤ p * r ∧ p * r ≤ 999998000001 ∧ p.natAbs * r.natAbs ≤ 9007199254740992 := by
  have h1 : p.natAbs * r.natAbs ≤ 999999 * 999999 := Nat.mul_le_mul (by omega) (by omega)
  have h2 := Int.natAbs_mul p r
  omega
set_option maxRecDepth 100000 in
set_option maxHeartbeats 4000000 in
theorem numLaws_nat (a b : Nat) (ha : a < 18446744073709551616) (hb : b < 18446744073709551616) (i j : Int) (i1 : -2147483648 ≤ i) (i2 : i ≤ 2147483647) (j1 : -2147483648 ≤ j) (j2 : j ≤ 2147483647) (w : World) :
    Calls Try.prog 9 #[.int .u64 (a : Nat), .int .u64 (b : Nat), .agg #[.int .i32 i, .int .i32 j]] w fun e w' => e = .returned (.bool true) ∧ Below w.heap.size w w' := by
  have hba := fun w => fadd_any b a w
  rw [fAdd_comm b a] at hba
  have HBA := Lib.hid hba
  have hmm := fun w => fmul_any b a w
  rw [fMul_comm b a] at hmm
  have HMM := Lib.hid hmm
  have hse := fun w => fadd_any a (norm (flip b)) w
  rw [← sub_norm a hb] at hse
  have HSE := Lib.hid hse
  have hs := fun w => fadd_any (toF i) (toF j) w
  rw [add_toF i j (by omega) (by omega)] at hs
  have HS := Lib.hid hs
  clear hba hmm hse hs
  go_enter Try.func9, Try.ntmps9
  go_wp2_with fail
  refine (reckons_any _).mono ?_
  rintro e w1 ⟨rfl, q0, rfl⟩
  go_wp2_with fail
  refine (fadd_any _ _ _).mono ?_
  rintro e w1 ⟨rfl, q1, rfl⟩
  go_wp2_with fail
  refine (HBA.out _).mono ?_
  rintro e w1 ⟨rfl, q2, rfl⟩
  go_wp2_with fail
  refine (fmul_any _ _ _).mono ?_
  rintro e w1 ⟨rfl, q3, rfl⟩
  go_wp2_with fail
  refine (HMM.out _).mono ?_
  rintro e w1 ⟨rfl, q4, rfl⟩
  go_wp2_with fail
  refine (fsub_any _ _ _).mono ?_
  rintro e w1 ⟨rfl, q5, rfl⟩
  go_wp2_with fail
  refine (fneg_any _ _ hb).mono ?_
  rintro e w1 ⟨rfl, rfl⟩
  go_wp2_with fail
  refine (HSE.out _).mono ?_
  rintro e w1 ⟨rfl, q6, rfl⟩
  go_wp2_with fail
  go_quiet (fail)
  go_wp2_with fail
  refine (tofloat_any _ _).mono ?_
  rintro e w1 ⟨rfl, rfl⟩
  go_wp2_with fail
  refine (tofloat_any _ _).mono ?_
  rintro e w1 ⟨rfl, rfl⟩
  go_wp2_with fail
  refine (HS.out _).mono ?_
  rintro e w1 ⟨rfl, q7, rfl⟩
  go_wp2_with fail
  obtain ⟨p1, p2⟩ := tmod_bd i
  obtain ⟨r1, r2⟩ := tmod_bd j
  generalize hp : i.tmod 1000000 = p at *
  generalize hr : j.tmod 1000000 = r at *
  have hm := mul_bd p r p1 p2 r1 r2
  have HMX := Lib.hid (mul_toF p r (by omega) (by omega) hm.2.2)
  have m1 := hm.1
  have m2 := hm.2.1
  clear hm
  have HI := Lib.hid (fun w => toint_any (fMul (toF p) (toF r)) w)
  rw [HMX.out] at HI
  have hfb := frombits_run (toF (i + j))
  have hos := orderSelf (toF (i + j)) (toF_notNaN _)
  have hfi := floatOfInt_eq (i + j)
  refine (tofloat_any _ _).mono ?_
  rintro e w1 ⟨rfl, rfl⟩
  go_wp2_with fail
  refine (tofloat_any _ _).mono ?_
  rintro e w1 ⟨rfl, rfl⟩
  go_wp2_with fail
  refine (fmul_any _ _ _).mono ?_
  rintro e w1 ⟨rfl, q8, rfl⟩
  go_wp2_with fail
  refine (tofloat_any _ _).mono ?_
  rintro e w1 ⟨rfl, rfl⟩
  go_wp2_with fail
  refine (HI.out _).mono ?_
  rintro e w1 ⟨rfl, rfl⟩
  go_wp2_with fail
  go_ret
  exact ⟨rfl, below_drewN ((Below.refl _ _).alloc (Nat.le_refl _) _) _⟩

end Go.Proofs.Ytmobmljnjolkgaa
