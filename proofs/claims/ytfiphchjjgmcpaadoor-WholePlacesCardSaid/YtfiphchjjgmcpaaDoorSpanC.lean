/- Contracts of Meet. -/
import Derived.Test.YtfiphchjjgmcpaaDoorSpanA
namespace Go.Proofs.YtfiphchjjgmcpaaDoor
open Go.RowKit
set_option linter.unusedVariables false

/-- the greater and the lesser of two, as the walk writes them -/
def maxI (a c : Int) : Int := if a < c then c else a
def minI (b d : Int) : Int := if d < b then d else b
theorem maxI_ways (a c : Int) : (a < c ∧ maxI a c = c) ∨ (c ≤ a ∧ maxI a c = a) := by unfold maxI; by_cases h : a < c <;> simp [h] <;> omega
theorem minI_ways (b d : Int) : (d < b ∧ minI b d = d) ∨ (b ≤ d ∧ minI b d = b) := by unfold minI; by_cases h : d < b <;> simp [h] <;> omega

/-- is there something that is in both? -/
def meetB (a b c d : Int) : Bool := mayB a b && mayB c d && decide (maxI a c < minI b d)

set_option maxHeartbeats 1000000 in
theorem meet_no (a b c d : Int) (w : World) (hb : meetB a b c d = false) :
    Calls Tryd.prog 27 #[.agg #[.int .i64 a, .int .i64 b], .agg #[.int .i64 c, .int .i64 d]] w fun e w' => e = .returned (.tuple #[.agg #[.int .i64 0, .int .i64 0], .bool false]) ∧ Below w.heap.size w w' := by
  have key : mayB a b = true → mayB c d = true → minI b d ≤ maxI a c := by
    intro h1 h2
    have h3 : ¬ maxI a c < minI b d := by simpa [meetB, h1, h2] using hb
    omega
  clear hb
  rcases maxI_ways a c with ⟨h1, e1⟩ | ⟨h1, e1⟩ <;> rcases minI_ways b d with ⟨h2, e2⟩ | ⟨h2, e2⟩
  all_goals
    rw [e1, e2] at key
    clear e1 e2
    cases hm : mayB a b
    · clear key
      go_enter Tryd.func27, Tryd.ntmps27
      go_wp2_with (go_at_call 30; refine (mayBe_any _ _ _).mono ?_; rintro e w' ⟨rfl, rfl⟩)
      refine bodyPost_ret (v := .tuple #[.agg #[.int .i64 0, .int .i64 0], .bool false]) (by simp [results, Tryd.results27, go_sem]) rfl ?_
      exact ⟨rfl, by repeat (first | exact Below.refl _ _ | apply Below.setCell _ (by first | omega | (simp <;> omega)) | apply Below.alloc _ (by first | omega | (simp <;> omega)))⟩
    · cases hn : mayB c d
      · clear key
        go_enter Tryd.func27, Tryd.ntmps27
        go_wp2_with (go_at_call 30; refine (mayBe_any _ _ _).mono ?_; rintro e w' ⟨rfl, rfl⟩)
        refine bodyPost_ret (v := .tuple #[.agg #[.int .i64 0, .int .i64 0], .bool false]) (by simp [results, Tryd.results27, go_sem]) rfl ?_
        exact ⟨rfl, by repeat (first | exact Below.refl _ _ | apply Below.setCell _ (by first | omega | (simp <;> omega)) | apply Below.alloc _ (by first | omega | (simp <;> omega)))⟩
      · have K1 := key hm hn
        clear key
        go_enter Tryd.func27, Tryd.ntmps27
        go_wp2_with (go_at_call 30; refine (mayBe_any _ _ _).mono ?_; rintro e w' ⟨rfl, rfl⟩)
        refine bodyPost_ret (v := .tuple #[.agg #[.int .i64 0, .int .i64 0], .bool false]) (by simp [results, Tryd.results27, go_sem]) rfl ?_
        exact ⟨rfl, by repeat (first | exact Below.refl _ _ | apply Below.setCell _ (by first | omega | (simp <;> omega)) | apply Below.alloc _ (by first | omega | (simp <;> omega)))⟩

set_option maxHeartbeats 1000000 in
theorem meet_yes (a b c d : Int) (w : World) (hb : meetB a b c d = true) :
    Calls Tryd.prog 27 #[.agg #[.int .i64 a, .int .i64 b], .agg #[.int .i64 c, .int .i64 d]] w fun e w' => e = .returned (.tuple #[.agg #[.int .i64 (maxI a c), .int .i64 (minI b d)], .bool true]) ∧ Below w.heap.size w w' := by
  have hb' : (mayB a b = true ∧ mayB c d = true) ∧ maxI a c < minI b d := by simpa [meetB] using hb
  obtain ⟨⟨hm, hn⟩, hl⟩ := hb'
  clear hb
  rcases maxI_ways a c with ⟨h1, e1⟩ | ⟨h1, e1⟩ <;> rcases minI_ways b d with ⟨h2, e2⟩ | ⟨h2, e2⟩
  · rw [e1, e2] at hl ⊢
    clear e1 e2
    go_enter Tryd.func27, Tryd.ntmps27
    go_wp2_with (go_at_call 30; refine (mayBe_any _ _ _).mono ?_; rintro e w' ⟨rfl, rfl⟩)
    refine bodyPost_ret (v := .tuple #[.agg #[.int .i64 c, .int .i64 d], .bool true]) (by simp [results, Tryd.results27, go_sem]) rfl ?_
    exact ⟨rfl, by repeat (first | exact Below.refl _ _ | apply Below.setCell _ (by first | omega | (simp <;> omega)) | apply Below.alloc _ (by first | omega | (simp <;> omega)))⟩
  · rw [e1, e2] at hl ⊢
    clear e1 e2
    go_enter Tryd.func27, Tryd.ntmps27
    go_wp2_with (go_at_call 30; refine (mayBe_any _ _ _).mono ?_; rintro e w' ⟨rfl, rfl⟩)
    refine bodyPost_ret (v := .tuple #[.agg #[.int .i64 c, .int .i64 b], .bool true]) (by simp [results, Tryd.results27, go_sem]) rfl ?_
    exact ⟨rfl, by repeat (first | exact Below.refl _ _ | apply Below.setCell _ (by first | omega | (simp <;> omega)) | apply Below.alloc _ (by first | omega | (simp <;> omega)))⟩
  · rw [e1, e2] at hl ⊢
    clear e1 e2
    go_enter Tryd.func27, Tryd.ntmps27
    go_wp2_with (go_at_call 30; refine (mayBe_any _ _ _).mono ?_; rintro e w' ⟨rfl, rfl⟩)
    refine bodyPost_ret (v := .tuple #[.agg #[.int .i64 a, .int .i64 d], .bool true]) (by simp [results, Tryd.results27, go_sem]) rfl ?_
    exact ⟨rfl, by repeat (first | exact Below.refl _ _ | apply Below.setCell _ (by first | omega | (simp <;> omega)) | apply Below.alloc _ (by first | omega | (simp <;> omega)))⟩
  · rw [e1, e2] at hl ⊢
    clear e1 e2
    go_enter Tryd.func27, Tryd.ntmps27
    go_wp2_with (go_at_call 30; refine (mayBe_any _ _ _).mono ?_; rintro e w' ⟨rfl, rfl⟩)
    refine bodyPost_ret (v := .tuple #[.agg #[.int .i64 a, .int .i64 b], .bool true]) (by simp [results, Tryd.results27, go_sem]) rfl ?_
    exact ⟨rfl, by repeat (first | exact Below.refl _ _ | apply Below.setCell _ (by first | omega | (simp <;> omega)) | apply Below.alloc _ (by first | omega | (simp <;> omega)))⟩

end Go.Proofs.YtfiphchjjgmcpaaDoor
