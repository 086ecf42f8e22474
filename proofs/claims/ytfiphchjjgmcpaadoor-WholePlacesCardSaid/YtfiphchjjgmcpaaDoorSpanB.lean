/- Contracts of the functions of package span that look at one or two spans. -/
import Derived.Test.YtfiphchjjgmcpaaDoorSpanA
namespace Go.Proofs.YtfiphchjjgmcpaaDoor
open Go.RowKit
set_option linter.unusedVariables false

set_option maxHeartbeats 400000 in
theorem of_no (f t : Int) (w : World) (hm : mayB f t = false) :
    Calls Tryd.prog 19 #[.int .i64 f, .int .i64 t] w fun e w' => e = .returned (.tuple #[.agg #[.int .i64 0, .int .i64 0], .int .i64 1]) ∧ Below w.heap.size w w' := by
  go_enter Tryd.func19, Tryd.ntmps19
  go_wp2_with (go_at_call 30; refine (mayBe_any _ _ _).mono ?_; rintro e w' ⟨rfl, rfl⟩)
  refine bodyPost_ret (v := .tuple #[.agg #[.int .i64 0, .int .i64 0], .int .i64 1]) (by simp [results, Tryd.results19, go_sem]) rfl ?_
  exact ⟨rfl, by repeat (first | exact Below.refl _ _ | apply Below.setCell _ (by first | omega | (simp <;> omega)) | apply Below.alloc _ (by first | omega | (simp <;> omega)))⟩
set_option maxHeartbeats 400000 in
theorem of_yes (f t : Int) (w : World) (hm : mayB f t = true) :
    Calls Tryd.prog 19 #[.int .i64 f, .int .i64 t] w fun e w' => e = .returned (.tuple #[.agg #[.int .i64 f, .int .i64 t], .int .i64 0]) ∧ Below w.heap.size w w' := by
  go_enter Tryd.func19, Tryd.ntmps19
  go_wp2_with (go_at_call 30; refine (mayBe_any _ _ _).mono ?_; rintro e w' ⟨rfl, rfl⟩)
  refine bodyPost_ret (v := .tuple #[.agg #[.int .i64 f, .int .i64 t], .int .i64 0]) (by simp [results, Tryd.results19, go_sem]) rfl ?_
  exact ⟨rfl, by repeat (first | exact Below.refl _ _ | apply Below.setCell _ (by first | omega | (simp <;> omega)) | apply Below.alloc _ (by first | omega | (simp <;> omega)))⟩

/-- what Compare answers -/
def cmpI (a b c d : Int) : Int := if ordI a c = 0 then ordI b d else ordI a c


/-- is the second within the first? -/
def holdsB (a b c d : Int) : Bool := mayB a b && mayB c d && decide (a ≤ c ∧ d ≤ b)


/-- do two lie apart? -/
def apartB (a b c d : Int) : Bool := mayB a b && mayB c d && !(a == c && b == d) && (decide (b ≤ c) || decide (d ≤ a))

set_option maxHeartbeats 400000 in
theorem apart_any (a b c d : Int) (w : World) :
    Calls Tryd.prog 32 #[.agg #[.int .i64 a, .int .i64 b], .agg #[.int .i64 c, .int .i64 d]] w fun e w' => e = .returned (.bool (apartB a b c d)) ∧ Below w.heap.size w w' := by
  cases hm : mayB a b
  · have E := Lib.hid (show apartB a b c d = false by simp [apartB, hm])
    go_enter Tryd.func32, Tryd.ntmps32
    go_wp2_with (go_at_call 30; refine (mayBe_any _ _ _).mono ?_; rintro e w' ⟨rfl, rfl⟩)
    go_ret
    exact ⟨by rw [E.out]; rfl, by repeat (first | exact Below.refl _ _ | apply Below.setCell _ (by first | omega | (simp <;> omega)) | apply Below.alloc _ (by first | omega | (simp <;> omega)))⟩
  · cases hn : mayB c d
    · have E := Lib.hid (show apartB a b c d = false by simp [apartB, hn])
      go_enter Tryd.func32, Tryd.ntmps32
      go_wp2_with (go_at_call 30; refine (mayBe_any _ _ _).mono ?_; rintro e w' ⟨rfl, rfl⟩)
      go_ret
      exact ⟨by rw [E.out]; rfl, by repeat (first | exact Below.refl _ _ | apply Below.setCell _ (by first | omega | (simp <;> omega)) | apply Below.alloc _ (by first | omega | (simp <;> omega)))⟩
    · by_cases hac : a = c
      · subst hac
        by_cases hbd : b = d
        · subst hbd
          have E := Lib.hid (show apartB a b a b = false by simp [apartB])
          go_enter Tryd.func32, Tryd.ntmps32
          go_wp2_with (go_at_call 30; refine (mayBe_any _ _ _).mono ?_; rintro e w' ⟨rfl, rfl⟩)
          go_ret
          exact ⟨by rw [E.out]; rfl, by repeat (first | exact Below.refl _ _ | apply Below.setCell _ (by first | omega | (simp <;> omega)) | apply Below.alloc _ (by first | omega | (simp <;> omega)))⟩
        · have hbd' : (b == d) = false := by simp [hbd]
          have E := Lib.hid (show apartB a b a d = (decide (b ≤ a) || decide (d ≤ a)) by simp [apartB, hm, hn, hbd])
          by_cases hbc : b ≤ a
          · have E1 := Lib.hid (show (decide (b ≤ a) || decide (d ≤ a)) = true by simp [hbc])
            go_enter Tryd.func32, Tryd.ntmps32
            go_wp2_with (go_at_call 30; refine (mayBe_any _ _ _).mono ?_; rintro e w' ⟨rfl, rfl⟩)
            go_ret
            exact ⟨by rw [E.out, E1.out]; rfl, by repeat (first | exact Below.refl _ _ | apply Below.setCell _ (by first | omega | (simp <;> omega)) | apply Below.alloc _ (by first | omega | (simp <;> omega)))⟩
          · go_enter Tryd.func32, Tryd.ntmps32
            go_wp2_with (go_at_call 30; refine (mayBe_any _ _ _).mono ?_; rintro e w' ⟨rfl, rfl⟩)
            go_ret
            exact ⟨by rw [E.out]; rfl, by repeat (first | exact Below.refl _ _ | apply Below.setCell _ (by first | omega | (simp <;> omega)) | apply Below.alloc _ (by first | omega | (simp <;> omega)))⟩
      · have E := Lib.hid (show apartB a b c d = (decide (b ≤ c) || decide (d ≤ a)) by simp [apartB, hm, hn, hac])
        by_cases hbc : b ≤ c
        · have E1 := Lib.hid (show (decide (b ≤ c) || decide (d ≤ a)) = true by simp [hbc])
          go_enter Tryd.func32, Tryd.ntmps32
          go_wp2_with (go_at_call 30; refine (mayBe_any _ _ _).mono ?_; rintro e w' ⟨rfl, rfl⟩)
          go_ret
          exact ⟨by rw [E.out, E1.out]; rfl, by repeat (first | exact Below.refl _ _ | apply Below.setCell _ (by first | omega | (simp <;> omega)) | apply Below.alloc _ (by first | omega | (simp <;> omega)))⟩
        · go_enter Tryd.func32, Tryd.ntmps32
          go_wp2_with (go_at_call 30; refine (mayBe_any _ _ _).mono ?_; rintro e w' ⟨rfl, rfl⟩)
          go_ret
          exact ⟨by rw [E.out]; rfl, by repeat (first | exact Below.refl _ _ | apply Below.setCell _ (by first | omega | (simp <;> omega)) | apply Below.alloc _ (by first | omega | (simp <;> omega)))⟩

end Go.Proofs.YtfiphchjjgmcpaaDoor
