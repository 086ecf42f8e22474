/- Contracts of the functions of package span that look at one or two spans. -/
import Derived.Test.YtonohpbkbifhnaaSpanA
namespace Go.Proofs.Ytonohpbkbifhnaa
open Go.RowKit
set_option linter.unusedVariables false

set_option maxHeartbeats 400000 in
theorem of_no (f t : Int) (w : World) (hm : mayB f t = false) :
    Calls Try.prog 10 #[.int .i64 f, .int .i64 t] w fun e w' => e = .returned (.tuple #[.agg #[.int .i64 0, .int .i64 0], .int .i64 1]) ∧ Below w.heap.size w w' := by
  go_enter Try.func10, Try.ntmps10
  go_wp2_with (go_at_call 24; refine (mayBe_any _ _ _).mono ?_; rintro e w' ⟨rfl, rfl⟩)
  refine bodyPost_ret (v := .tuple #[.agg #[.int .i64 0, .int .i64 0], .int .i64 1]) (by simp [results, Try.results10, go_sem]) rfl ?_
  exact ⟨rfl, by repeat (first | exact Below.refl _ _ | apply Below.setCell _ (by first | omega | (simp <;> omega)) | apply Below.alloc _ (by first | omega | (simp <;> omega)))⟩
set_option maxHeartbeats 400000 in
theorem of_yes (f t : Int) (w : World) (hm : mayB f t = true) :
    Calls Try.prog 10 #[.int .i64 f, .int .i64 t] w fun e w' => e = .returned (.tuple #[.agg #[.int .i64 f, .int .i64 t], .int .i64 0]) ∧ Below w.heap.size w w' := by
  go_enter Try.func10, Try.ntmps10
  go_wp2_with (go_at_call 24; refine (mayBe_any _ _ _).mono ?_; rintro e w' ⟨rfl, rfl⟩)
  refine bodyPost_ret (v := .tuple #[.agg #[.int .i64 f, .int .i64 t], .int .i64 0]) (by simp [results, Try.results10, go_sem]) rfl ?_
  exact ⟨rfl, by repeat (first | exact Below.refl _ _ | apply Below.setCell _ (by first | omega | (simp <;> omega)) | apply Below.alloc _ (by first | omega | (simp <;> omega)))⟩

/-- what Compare answers -/
def cmpI (a b c d : Int) : Int := if ordI a c = 0 then ordI b d else ordI a c

set_option maxHeartbeats 400000 in
theorem compare_any (a b c d : Int) (w : World) :
    Calls Try.prog 13 #[.agg #[.int .i64 a, .int .i64 b], .agg #[.int .i64 c, .int .i64 d]] w fun e w' => e = .returned (.int .i64 (cmpI a b c d)) ∧ Below w.heap.size w w' := by
  by_cases h : ordI a c = 0
  · have E := Lib.hid (show cmpI a b c d = ordI b d by unfold cmpI; rw [if_pos h])
    have h1 : (ordI a c == 0) = true := by simp [h]
    have h2 : (ordI a c != 0) = false := by simp [h]
    clear h
    go_enter Try.func13, Try.ntmps13
    go_wp2_with (go_at_call 25; refine (order_any _ _ _).mono ?_; rintro e w' ⟨rfl, rfl⟩)
    go_ret
    exact ⟨by rw [E.out]; rfl, by repeat (first | exact Below.refl _ _ | apply Below.setCell _ (by first | omega | (simp <;> omega)) | apply Below.alloc _ (by first | omega | (simp <;> omega)))⟩
  · have E := Lib.hid (show cmpI a b c d = ordI a c by unfold cmpI; rw [if_neg h])
    have h1 : (ordI a c == 0) = false := by simp [h]
    have h2 : (ordI a c != 0) = true := by simp [h]
    clear h
    go_enter Try.func13, Try.ntmps13
    go_wp2_with (go_at_call 25; refine (order_any _ _ _).mono ?_; rintro e w' ⟨rfl, rfl⟩)
    go_ret
    exact ⟨by rw [E.out]; rfl, by repeat (first | exact Below.refl _ _ | apply Below.setCell _ (by first | omega | (simp <;> omega)) | apply Below.alloc _ (by first | omega | (simp <;> omega)))⟩

/-- is the second within the first? -/
def holdsB (a b c d : Int) : Bool := mayB a b && mayB c d && decide (a ≤ c ∧ d ≤ b)

set_option maxHeartbeats 400000 in
theorem holds_any (a b c d : Int) (w : World) :
    Calls Try.prog 16 #[.agg #[.int .i64 a, .int .i64 b], .agg #[.int .i64 c, .int .i64 d]] w fun e w' => e = .returned (.bool (holdsB a b c d)) ∧ Below w.heap.size w w' := by
  cases hm : mayB a b
  · have E := Lib.hid (show holdsB a b c d = false by simp [holdsB, hm])
    go_enter Try.func16, Try.ntmps16
    go_wp2_with (go_at_call 24; refine (mayBe_any _ _ _).mono ?_; rintro e w' ⟨rfl, rfl⟩)
    go_ret
    exact ⟨by rw [E.out]; rfl, by repeat (first | exact Below.refl _ _ | apply Below.setCell _ (by first | omega | (simp <;> omega)) | apply Below.alloc _ (by first | omega | (simp <;> omega)))⟩
  · cases hn : mayB c d
    · have E := Lib.hid (show holdsB a b c d = false by simp [holdsB, hn])
      go_enter Try.func16, Try.ntmps16
      go_wp2_with (go_at_call 24; refine (mayBe_any _ _ _).mono ?_; rintro e w' ⟨rfl, rfl⟩)
      go_ret
      exact ⟨by rw [E.out]; rfl, by repeat (first | exact Below.refl _ _ | apply Below.setCell _ (by first | omega | (simp <;> omega)) | apply Below.alloc _ (by first | omega | (simp <;> omega)))⟩
    · by_cases h : a ≤ c
      · have E := Lib.hid (show holdsB a b c d = decide (d ≤ b) by simp [holdsB, hm, hn, h])
        go_enter Try.func16, Try.ntmps16
        go_wp2_with (go_at_call 24; refine (mayBe_any _ _ _).mono ?_; rintro e w' ⟨rfl, rfl⟩)
        go_ret
        exact ⟨by rw [E.out]; rfl, by repeat (first | exact Below.refl _ _ | apply Below.setCell _ (by first | omega | (simp <;> omega)) | apply Below.alloc _ (by first | omega | (simp <;> omega)))⟩
      · have E := Lib.hid (show holdsB a b c d = false by simp [holdsB, hm, hn, h])
        go_enter Try.func16, Try.ntmps16
        go_wp2_with (go_at_call 24; refine (mayBe_any _ _ _).mono ?_; rintro e w' ⟨rfl, rfl⟩)
        go_ret
        exact ⟨by rw [E.out]; rfl, by repeat (first | exact Below.refl _ _ | apply Below.setCell _ (by first | omega | (simp <;> omega)) | apply Below.alloc _ (by first | omega | (simp <;> omega)))⟩

/-- do two lie apart? -/
def apartB (a b c d : Int) : Bool := mayB a b && mayB c d && !(a == c && b == d) && (decide (b ≤ c) || decide (d ≤ a))

set_option maxHeartbeats 400000 in
theorem apart_any (a b c d : Int) (w : World) :
    Calls Try.prog 17 #[.agg #[.int .i64 a, .int .i64 b], .agg #[.int .i64 c, .int .i64 d]] w fun e w' => e = .returned (.bool (apartB a b c d)) ∧ Below w.heap.size w w' := by
  cases hm : mayB a b
  · have E := Lib.hid (show apartB a b c d = false by simp [apartB, hm])
    go_enter Try.func17, Try.ntmps17
    go_wp2_with (go_at_call 24; refine (mayBe_any _ _ _).mono ?_; rintro e w' ⟨rfl, rfl⟩)
    go_ret
    exact ⟨by rw [E.out]; rfl, by repeat (first | exact Below.refl _ _ | apply Below.setCell _ (by first | omega | (simp <;> omega)) | apply Below.alloc _ (by first | omega | (simp <;> omega)))⟩
  · cases hn : mayB c d
    · have E := Lib.hid (show apartB a b c d = false by simp [apartB, hn])
      go_enter Try.func17, Try.ntmps17
      go_wp2_with (go_at_call 24; refine (mayBe_any _ _ _).mono ?_; rintro e w' ⟨rfl, rfl⟩)
      go_ret
      exact ⟨by rw [E.out]; rfl, by repeat (first | exact Below.refl _ _ | apply Below.setCell _ (by first | omega | (simp <;> omega)) | apply Below.alloc _ (by first | omega | (simp <;> omega)))⟩
    · by_cases hac : a = c
      · subst hac
        by_cases hbd : b = d
        · subst hbd
          have E := Lib.hid (show apartB a b a b = false by simp [apartB])
          go_enter Try.func17, Try.ntmps17
          go_wp2_with (go_at_call 24; refine (mayBe_any _ _ _).mono ?_; rintro e w' ⟨rfl, rfl⟩)
          go_ret
          exact ⟨by rw [E.out]; rfl, by repeat (first | exact Below.refl _ _ | apply Below.setCell _ (by first | omega | (simp <;> omega)) | apply Below.alloc _ (by first | omega | (simp <;> omega)))⟩
        · have hbd' : (b == d) = false := by simp [hbd]
          have E := Lib.hid (show apartB a b a d = (decide (b ≤ a) || decide (d ≤ a)) by simp [apartB, hm, hn, hbd])
          by_cases hbc : b ≤ a
          · have E1 := Lib.hid (show (decide (b ≤ a) || decide (d ≤ a)) = true by simp [hbc])
            go_enter Try.func17, Try.ntmps17
            go_wp2_with (go_at_call 24; refine (mayBe_any _ _ _).mono ?_; rintro e w' ⟨rfl, rfl⟩)
            go_ret
            exact ⟨by rw [E.out, E1.out]; rfl, by repeat (first | exact Below.refl _ _ | apply Below.setCell _ (by first | omega | (simp <;> omega)) | apply Below.alloc _ (by first | omega | (simp <;> omega)))⟩
          · go_enter Try.func17, Try.ntmps17
            go_wp2_with (go_at_call 24; refine (mayBe_any _ _ _).mono ?_; rintro e w' ⟨rfl, rfl⟩)
            go_ret
            exact ⟨by rw [E.out]; rfl, by repeat (first | exact Below.refl _ _ | apply Below.setCell _ (by first | omega | (simp <;> omega)) | apply Below.alloc _ (by first | omega | (simp <;> omega)))⟩
      · have E := Lib.hid (show apartB a b c d = (decide (b ≤ c) || decide (d ≤ a)) by simp [apartB, hm, hn, hac])
        by_cases hbc : b ≤ c
        · have E1 := Lib.hid (show (decide (b ≤ c) || decide (d ≤ a)) = true by simp [hbc])
          go_enter Try.func17, Try.ntmps17
          go_wp2_with (go_at_call 24; refine (mayBe_any _ _ _).mono ?_; rintro e w' ⟨rfl, rfl⟩)
          go_ret
          exact ⟨by rw [E.out, E1.out]; rfl, by repeat (first | exact Below.refl _ _ | apply Below.setCell _ (by first | omega | (simp <;> omega)) | apply Below.alloc _ (by first | omega | (simp <;> omega)))⟩
        · go_enter Try.func17, Try.ntmps17
          go_wp2_with (go_at_call 24; refine (mayBe_any _ _ _).mono ?_; rintro e w' ⟨rfl, rfl⟩)
          go_ret
          exact ⟨by rw [E.out]; rfl, by repeat (first | exact Below.refl _ _ | apply Below.setCell _ (by first | omega | (simp <;> omega)) | apply Below.alloc _ (by first | omega | (simp <;> omega)))⟩

end Go.Proofs.Ytonohpbkbifhnaa
