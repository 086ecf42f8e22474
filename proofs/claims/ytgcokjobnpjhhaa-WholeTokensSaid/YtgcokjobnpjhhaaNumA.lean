/- Contracts of package num's calls on doubles. -/
import Derived.Test.YtgcokjobnpjhhaaRows
import Derived.Test.YtgcokjobnpjhhaaFloatD
import Derived.WalkKit
import Derived.WalkSpells
import Derived.WalkLawsBesides
import Derived.Lib.Hide
import Derived.Laws.Externs
import Derived.Laws.Bits64
import Derived.Laws.BitsAllLaws
import Derived.Deep.Draws
namespace Go.Proofs.Ytgcokjobnpjhhaa
open Go.RowKit
set_option linter.unusedVariables false

theorem frombits_run (n : Nat) (w : World) : (callFunc 63 #[.int .u64 (n : Int)]).run Try.prog w = .ok (.value (.float .f64 n)) w := by
  rw [run_callFunc_extern Try.func63 (by kernel_rfl) (by kernel_rfl) (by kernel_rfl) (e := Extern.MathFloatBits.float64frombits) (by kernel_rfl)]; rfl
theorem tobits_run (n : Nat) (w : World) : (callFunc 62 #[.float .f64 n]).run Try.prog w = .ok (.value (.int .u64 (n : Int))) w := by
  rw [run_callFunc_extern Try.func62 (by kernel_rfl) (by kernel_rfl) (by kernel_rfl) (e := Extern.MathFloatBits.float64bits) (by kernel_rfl)]; rfl

theorem double_any (a : Nat) (w : World) :
    Calls Try.prog 47 #[.int .u64 (a : Int)] w fun e w' => e = .returned (.float .f64 a) ∧ w = w' := by
  have hx := frombits_run a
  go_enter Try.func47, Try.ntmps47
  go_wp2_with fail
  go_ret
  exact ⟨rfl, rfl⟩

/-- is it no number? -/
def nanB (a : Nat) : Bool := decide (9218868437227405312 < RW a)
theorem isnan_any (a : Nat) (w : World) :
    Calls Try.prog 48 #[.float .f64 a] w fun e w' => e = .returned (.bool (nanB a)) ∧ w = w' := by
  have hx : (FloatKind.f64.format.order a a != some .eq) = nanB a := order_self a
  go_enter Try.func48, Try.ntmps48
  go_wp2_with fail
  go_ret
  exact ⟨rfl, rfl⟩

theorem bitsOf_any (a : Nat) (w : World) :
    Calls Try.prog 44 #[.float .f64 a] w fun e w' => e = .returned (.int .u64 (norm a : Nat)) ∧ w = w' := by
  have hx := tobits_run a
  by_cases h : isNaN a
  · have H := Lib.hid (norm_nan h)
    have hn : nanB a = true := decide_eq_true h
    clear h
    go_enter Try.func44, Try.ntmps44
    go_wp2_with (go_at_call 48; refine (isnan_any _ _).mono ?_; rintro e w' ⟨rfl, rfl⟩)
    go_ret
    exact ⟨by rw [H.out]; rfl, rfl⟩
  · have H := Lib.hid (norm_of h)
    have hn : nanB a = false := decide_eq_false h
    clear h
    go_enter Try.func44, Try.ntmps44
    go_wp2_with (go_at_call 48; refine (isnan_any _ _).mono ?_; rintro e w' ⟨rfl, rfl⟩)
    go_ret
    exact ⟨by rw [H.out]; rfl, rfl⟩

theorem norm_any (a : Nat) (w : World) :
    Calls Try.prog 49 #[.int .u64 (a : Nat)] w fun e w' => e = .returned (.int .u64 (norm a : Nat)) ∧ w = w' := by
  go_enter Try.func49, Try.ntmps49
  go_wp2_with (first | (go_at_call 47; refine (double_any _ _).mono ?_; rintro e w' ⟨rfl, rfl⟩) | (go_at_call 44; refine (bitsOf_any _ _).mono ?_; rintro e w' ⟨rfl, rfl⟩))
  go_ret
  exact ⟨rfl, rfl⟩

theorem run_float_none (op : BinOp) (t : TypeId) (a b : Nat) (w : World) (hop : op = .add ∨ op = .sub ∨ op = .mul ∨ op = .quo) (h : floatBits op .f64 a b = none) :
    ∃ r, isNaN r ∧ (binOp op t (.float .f64 a) (.float .f64 b)).run Try.prog w = .ok (.float .f64 r) w.drew := by
  refine ⟨(w.tape w.drawn (.nanBits .f64 a b) % 2) * 2 ^ 63 + 0x7ff0000000000000 + 1 + (w.tape w.drawn (.nanBits .f64 a b) / 2) % (2 ^ 52 - 1), ?_, ?_⟩
  · unfold isNaN RW
    have e63 : (2 : Nat) ^ 63 = 9223372036854775808 := by decide
    have e52 : (2 : Nat) ^ 52 - 1 = 4503599627370495 := by decide
    rw [e63, e52]
    generalize w.tape w.drawn (.nanBits .f64 a b) = t
    have h1 : t / 2 % 4503599627370495 < 4503599627370495 := Nat.mod_lt _ (by decide)
    generalize t / 2 % 4503599627370495 = x at h1
    rcases (show t % 2 = 0 ∨ t % 2 = 1 by omega) with h2 | h2 <;> rw [h2] <;> omega
  · unfold floatBits at h
    rcases hop with rfl | rfl | rfl | rfl <;> simp only at h <;> simp [binOp, Op.floatArith, h, choose, Sem.run, Question.forced, Question.cut]

/-- two doubles together: NaN for what is none -/
theorem run_float (op : BinOp) (t : TypeId) (a b : Nat) (w : World) (hop : op = .add ∨ op = .sub ∨ op = .mul ∨ op = .quo) (hf : ∀ r, floatBits op .f64 a b = some r → ¬ isNaN r) :
    ∃ r w1, (binOp op t (.float .f64 a) (.float .f64 b)).run Try.prog w = .ok (.float .f64 r) w1 ∧ norm r = (floatBits op .f64 a b).getD 9221120237041090561 ∧ ∃ n, w1 = w.drewN n := by
  cases h : floatBits op .f64 a b with
  | none =>
    obtain ⟨r, hr, hrun⟩ := run_float_none op t a b w hop h
    exact ⟨r, w.drew, hrun, norm_nan hr, 1, rfl⟩
  | some r =>
    exact ⟨r, w, run_float_arith w op t .f64 a b r h, norm_of (hf r h), 0, rfl⟩



theorem fneg_any (a : Nat) (w : World) (ha : a < 18446744073709551616) :
    Calls Try.prog 24 #[.int .u64 (a : Nat)] w fun e w' => e = .returned (.int .u64 (norm (flip a) : Nat)) ∧ w = w' := by
  have hv : (BitVec.ofNat 64 a ^^^ 9223372036854775808#64).toNat % 18446744073709551616 = flip a := by
    have h2 : flip a < 18446744073709551616 := flip_lt ha
    have h3 : a % 2 ^ 64 = a := Nat.mod_eq_of_lt ha
    have h4 : 9223372036854775808 % 2 ^ 64 = 9223372036854775808 := by decide
    rw [BitVec.toNat_xor, BitVec.toNat_ofNat, BitVec.toNat_ofNat, h3, h4, xor_flip ha]
    exact Nat.mod_eq_of_lt h2
  have HV := Lib.hid hv
  clear hv
  go_enter Try.func24, Try.ntmps24
  go_wp2_with (go_at_call 49; refine (norm_any _ _).mono ?_; rintro e w' ⟨rfl, rfl⟩)
  go_ret
  exact ⟨by rw [← HV.out]; rfl, rfl⟩

/-- which sign is it, and does it hold? the number of an error beside it -/
def holdsN (c : ByteArray) (lt eq gt : Bool) : Bool × Int :=
  if (c.toList == [61, 61]) = true then (eq, 0) else if (c.toList == [33, 61]) = true then (!eq, 0) else if (c.toList == [60]) = true then (lt, 0)
  else if (c.toList == [60, 61]) = true then (lt || eq, 0) else if (c.toList == [62]) = true then (gt, 0) else if (c.toList == [62, 61]) = true then (gt || eq, 0) else (false, 3)

theorem ret_bi {x y : Bool} {i j : Int} (h : x = y) (k : i = j) : Ending.returned (.tuple #[.bool x, .int .i64 i]) = Ending.returned (.tuple #[.bool y, .int .i64 j]) := by rw [h, k]
set_option maxHeartbeats 2000000 in
theorem holdsF_any (c : ByteArray) (a b : Nat) (w : World) :
    Calls Try.prog 46 #[.string c, .float .f64 a, .float .f64 b] w fun e w' =>
      e = .returned (.tuple #[.bool (holdsN c (Ieee.double.order a b == some .lt) (Ieee.double.order a b == some .eq) (Ieee.double.order a b == some .gt)).1, .int .i64 (holdsN c (Ieee.double.order a b == some .lt) (Ieee.double.order a b == some .eq) (Ieee.double.order a b == some .gt)).2]) ∧ w = w' := by
  have HD := Lib.hid (show FloatKind.f64.format = Ieee.double from rfl)
  generalize hX : holdsN c (Ieee.double.order a b == some .lt) (Ieee.double.order a b == some .eq) (Ieee.double.order a b == some .gt) = X
  unfold holdsN at hX
  cases c1 : (c.toList == [61, 61])
  · cases c2 : (c.toList == [33, 61])
    · cases c3 : (c.toList == [60])
      · cases c4 : (c.toList == [60, 61])
        · cases c5 : (c.toList == [62])
          · cases c6 : (c.toList == [62, 61])
            · simp only [c1, c2, c3, c4, c5, c6, Bool.false_eq_true, if_false] at hX
              have HX := Lib.hid hX.symm
              clear hX
              go_enter Try.func46, Try.ntmps46
              go_wp2_with fail
              go_ret2
              exact ⟨by rw [HX.out]; rfl, rfl⟩
            · simp only [c1, c2, c3, c4, c5, c6, Bool.false_eq_true, if_false, if_true] at hX
              have HX := Lib.hid hX.symm
              clear hX
              go_enter Try.func46, Try.ntmps46
              go_wp2_with fail
              go_ret2
              exact ⟨by rw [HX.out]; rfl, rfl⟩
          · simp only [c1, c2, c3, c4, c5, Bool.false_eq_true, if_false, if_true] at hX
            have HX := Lib.hid hX.symm
            clear hX
            go_enter Try.func46, Try.ntmps46
            go_wp2_with fail
            go_ret2
            exact ⟨by rw [HX.out]; rfl, rfl⟩
        · simp only [c1, c2, c3, c4, Bool.false_eq_true, if_false, if_true] at hX
          have HX := Lib.hid hX.symm
          clear hX
          go_enter Try.func46, Try.ntmps46
          go_wp2_with fail
          go_ret2
          exact ⟨by rw [HX.out]; rfl, rfl⟩
      · simp only [c1, c2, c3, Bool.false_eq_true, if_false, if_true] at hX
        have HX := Lib.hid hX.symm
        clear hX
        go_enter Try.func46, Try.ntmps46
        go_wp2_with fail
        go_ret2
        exact ⟨by rw [HX.out]; rfl, rfl⟩
    · simp only [c1, c2, Bool.false_eq_true, if_false, if_true] at hX
      have HX := Lib.hid hX.symm
      clear hX
      go_enter Try.func46, Try.ntmps46
      go_wp2_with fail
      go_ret2
      exact ⟨by rw [HX.out]; rfl, rfl⟩
  · simp only [c1, if_true] at hX
    have HX := Lib.hid hX.symm
    clear hX
    go_enter Try.func46, Try.ntmps46
    go_wp2_with fail
    go_ret2
    exact ⟨by rw [HX.out]; rfl, rfl⟩

theorem fcompare_any (c : ByteArray) (a b : Nat) (w : World) (ha : a < 18446744073709551616) (hb : b < 18446744073709551616) :
    Calls Try.prog 21 #[.string c, .int .u64 (a : Nat), .int .u64 (b : Nat)] w fun e w' =>
      e = .returned (.tuple #[.bool (holdsN c (lessB a b) (sameB a b) (lessB b a)).1, .int .i64 (holdsN c (lessB a b) (sameB a b) (lessB b a)).2]) ∧ w = w' := by
  have hI := fun w => holdsF_any c a b w
  rw [less_order a b ha hb, same_order a b ha hb, more_order a b ha hb] at hI
  have HI := Lib.hid hI
  clear hI
  generalize holdsN c (lessB a b) (sameB a b) (lessB b a) = X at HI ⊢
  go_enter Try.func21, Try.ntmps21
  go_wp2_with (first | (go_at_call 47; refine (double_any _ _).mono ?_; rintro e w' ⟨rfl, rfl⟩) | (go_at_call 46; refine (HI.out _).mono ?_; rintro e w' ⟨rfl, rfl⟩))
  go_ret2
  exact ⟨rfl, rfl⟩

set_option maxHeartbeats 1000000 in
theorem toint_any (a : Nat) (w : World) :
    Calls Try.prog 23 #[.int .u64 (a : Nat)] w fun e w' => e = .returned (.int .i64 (toI a)) ∧ w = w' := by
  by_cases h : isNaN a
  · have H := Lib.hid (show toI a = 0 from if_pos h)
    have hn : nanB a = true := decide_eq_true h
    clear h
    go_enter Try.func23, Try.ntmps23
    go_wp2_with (first | (go_at_call 47; refine (double_any _ _).mono ?_; rintro e w' ⟨rfl, rfl⟩) | (go_at_call 48; refine (isnan_any _ _).mono ?_; rintro e w' ⟨rfl, rfl⟩))
    go_ret
    exact ⟨by rw [H.out]; rfl, rfl⟩
  · have hn : nanB a = false := decide_eq_false h
    have g1 : ((FloatKind.f64.format.order a 4890909195324358656 == some .gt) || (FloatKind.f64.format.order a 4890909195324358656 == some .eq)) = (!SG a && decide (4890909195324358656 ≤ RW a)) := ge_beyond a h
    have g2 : (FloatKind.f64.format.order a 14114281232179134464 == some .lt) = (SG a && decide (4890909195324358656 < RW a)) := lt_beyond a h
    have hR : RW a ≤ 9218868437227405312 := by unfold isNaN at h; omega
    have hT : toI a = if 4890909195324358656 ≤ RW a then (if SG a then -9223372036854775808 else 9223372036854775807) else sgn (SG a) (intN (RW a)) := if_neg h
    have hv := toIntVal_of a
    cases hs : SG a
    · by_cases hb : 4890909195324358656 ≤ RW a
      · rw [if_pos hb, hs] at hT
        rw [hs, decide_eq_true hb] at g1
        have H := Lib.hid hT
        clear h hT hv hs hb hR g2
        go_enter Try.func23, Try.ntmps23
        go_wp2_with (first | (go_at_call 47; refine (double_any _ _).mono ?_; rintro e w' ⟨rfl, rfl⟩) | (go_at_call 48; refine (isnan_any _ _).mono ?_; rintro e w' ⟨rfl, rfl⟩))
        go_ret
        exact ⟨by rw [H.out]; rfl, rfl⟩
      · have hx := hv (by omega) (.inl (by omega))
        have hc := run_convert_float_int (P := Try.prog) w 70 2 .f64 .i64 a (toI a) (by kernel_rfl) Try.underlying2 hx
        rw [hs, decide_eq_false hb] at g1
        rw [hs] at g2
        clear h hT hv hs hb hR hx
        go_enter Try.func23, Try.ntmps23
        go_wp2_with (first | (go_at_call 47; refine (double_any _ _).mono ?_; rintro e w' ⟨rfl, rfl⟩) | (go_at_call 48; refine (isnan_any _ _).mono ?_; rintro e w' ⟨rfl, rfl⟩))
        go_ret
        exact ⟨rfl, rfl⟩
    · by_cases hb : 4890909195324358656 < RW a
      · rw [if_pos (by omega), hs] at hT
        rw [hs] at g1
        rw [hs, decide_eq_true hb] at g2
        have H := Lib.hid hT
        clear h hT hv hs hb hR
        go_enter Try.func23, Try.ntmps23
        go_wp2_with (first | (go_at_call 47; refine (double_any _ _).mono ?_; rintro e w' ⟨rfl, rfl⟩) | (go_at_call 48; refine (isnan_any _ _).mono ?_; rintro e w' ⟨rfl, rfl⟩))
        go_ret
        exact ⟨by rw [H.out]; rfl, rfl⟩
      · have hx := hv (by omega) (by
          rcases Nat.lt_or_ge (RW a) 4890909195324358656 with h3 | h3
          · exact .inl h3
          · exact .inr ⟨hs, by omega⟩)
        have hc := run_convert_float_int (P := Try.prog) w 70 2 .f64 .i64 a (toI a) (by kernel_rfl) Try.underlying2 hx
        rw [hs] at g1
        rw [hs, decide_eq_false hb] at g2
        clear h hT hv hs hb hR hx
        go_enter Try.func23, Try.ntmps23
        go_wp2_with (first | (go_at_call 47; refine (double_any _ _).mono ?_; rintro e w' ⟨rfl, rfl⟩) | (go_at_call 48; refine (isnan_any _ _).mono ?_; rintro e w' ⟨rfl, rfl⟩))
        go_ret
        exact ⟨rfl, rfl⟩
theorem tofloat_any (n : Int) (w : World) :
    Calls Try.prog 22 #[.int .i64 n] w fun e w' => e = .returned (.int .u64 (toF n : Nat)) ∧ w = w' := by
  have H := Lib.hid (norm_of (toF_notNaN n))
  have H2 := Lib.hid (floatOfInt_eq n)
  go_enter Try.func22, Try.ntmps22
  go_wp2_with (go_at_call 44; refine (bitsOf_any _ _).mono ?_; rintro e w' ⟨rfl, rfl⟩)
  go_ret
  exact ⟨by rw [← H.out]; rfl, rfl⟩

end Go.Proofs.Ytgcokjobnpjhhaa
