/- Contracts of the functions of package span that look at one or two spans. -/
import Derived.Test.YtdhbcmbajbgblaaSpanA
namespace Go.Proofs.Ytdhbcmbajbgblaa
open Go.RowKit
set_option linter.unusedVariables false


/-- what Compare answers -/
def cmpI (a b c d : Int) : Int := if ordI a c = 0 then ordI b d else ordI a c


/-- is the second within the first? -/
def holdsB (a b c d : Int) : Bool := mayB a b && mayB c d && decide (a ≤ c ∧ d ≤ b)


/-- do two lie apart? -/
def apartB (a b c d : Int) : Bool := mayB a b && mayB c d && !(a == c && b == d) && (decide (b ≤ c) || decide (d ≤ a))

set_option maxHeartbeats 400000 in
theorem apart_any (a b c d : Int) (w : World) :
    Calls Try.prog 54 #[.agg #[.int .i64 a, .int .i64 b], .agg #[.int .i64 c, .int .i64 d]] w fun e w' => e = .returned (.bool (apartB a b c d)) ∧ Below w.heap.size w w' := by
  cases hm : mayB a b
  · have E := Lib.hid (show apartB a b c d = false by simp [apartB, hm])
    go_enter Try.func54, Try.ntmps54
    go_wp2_with (go_at_call 35; refine (mayBe_any _ _ _).mono ?_; rintro e w' ⟨rfl, rfl⟩)
    go_ret
    exact ⟨by rw [E.out]; rfl, by repeat (first | exact Below.refl _ _ | apply Below.setCell _ (by first | omega | (simp <;> omega)) | apply Below.alloc _ (by first | omega | (simp <;> omega)))⟩
  · cases hn : mayB c d
    · have E := Lib.hid (show apartB a b c d = false by simp [apartB, hn])
      go_enter Try.func54, Try.ntmps54
      go_wp2_with (go_at_call 35; refine (mayBe_any _ _ _).mono ?_; rintro e w' ⟨rfl, rfl⟩)
      go_ret
      exact ⟨by rw [E.out]; rfl, by repeat (first | exact Below.refl _ _ | apply Below.setCell _ (by first | omega | (simp <;> omega)) | apply Below.alloc _ (by first | omega | (simp <;> omega)))⟩
    · by_cases hac : a = c
      · subst hac
        by_cases hbd : b = d
        · subst hbd
          have E := Lib.hid (show apartB a b a b = false by simp [apartB])
          go_enter Try.func54, Try.ntmps54
          go_wp2_with (go_at_call 35; refine (mayBe_any _ _ _).mono ?_; rintro e w' ⟨rfl, rfl⟩)
          go_ret
          exact ⟨by rw [E.out]; rfl, by repeat (first | exact Below.refl _ _ | apply Below.setCell _ (by first | omega | (simp <;> omega)) | apply Below.alloc _ (by first | omega | (simp <;> omega)))⟩
        · have hbd' : (b == d) = false := by simp [hbd]
          have E := Lib.hid (show apartB a b a d = (decide (b ≤ a) || decide (d ≤ a)) by simp [apartB, hm, hn, hbd])
          by_cases hbc : b ≤ a
          · have E1 := Lib.hid (show (decide (b ≤ a) || decide (d ≤ a)) = true by simp [hbc])
            go_enter Try.func54, Try.ntmps54
            go_wp2_with (go_at_call 35; refine (mayBe_any _ _ _).mono ?_; rintro e w' ⟨rfl, rfl⟩)
            go_ret
            exact ⟨by rw [E.out, E1.out]; rfl, by repeat (first | exact Below.refl _ _ | apply Below.setCell _ (by first | omega | (simp <;> omega)) | apply Below.alloc _ (by first | omega | (simp <;> omega)))⟩
          · go_enter Try.func54, Try.ntmps54
            go_wp2_with (go_at_call 35; refine (mayBe_any _ _ _).mono ?_; rintro e w' ⟨rfl, rfl⟩)
            go_ret
            exact ⟨by rw [E.out]; rfl, by repeat (first | exact Below.refl _ _ | apply Below.setCell _ (by first | omega | (simp <;> omega)) | apply Below.alloc _ (by first | omega | (simp <;> omega)))⟩
      · have E := Lib.hid (show apartB a b c d = (decide (b ≤ c) || decide (d ≤ a)) by simp [apartB, hm, hn, hac])
        by_cases hbc : b ≤ c
        · have E1 := Lib.hid (show (decide (b ≤ c) || decide (d ≤ a)) = true by simp [hbc])
          go_enter Try.func54, Try.ntmps54
          go_wp2_with (go_at_call 35; refine (mayBe_any _ _ _).mono ?_; rintro e w' ⟨rfl, rfl⟩)
          go_ret
          exact ⟨by rw [E.out, E1.out]; rfl, by repeat (first | exact Below.refl _ _ | apply Below.setCell _ (by first | omega | (simp <;> omega)) | apply Below.alloc _ (by first | omega | (simp <;> omega)))⟩
        · go_enter Try.func54, Try.ntmps54
          go_wp2_with (go_at_call 35; refine (mayBe_any _ _ _).mono ?_; rintro e w' ⟨rfl, rfl⟩)
          go_ret
          exact ⟨by rw [E.out]; rfl, by repeat (first | exact Below.refl _ _ | apply Below.setCell _ (by first | omega | (simp <;> omega)) | apply Below.alloc _ (by first | omega | (simp <;> omega)))⟩

end Go.Proofs.Ytdhbcmbajbgblaa
