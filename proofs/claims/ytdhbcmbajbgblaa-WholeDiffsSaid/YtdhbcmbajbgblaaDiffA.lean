/- Contracts of diff's diagonal, step. -/
import Derived.Test.YtdhbcmbajbgblaaEditF
import Derived.Test.YtdhbcmbajbgblaaFarFacts
namespace Go.Proofs.Ytdhbcmbajbgblaa
open Go Go.RowKit
set_option linter.unusedVariables false

/-- a row of numbers in memory -/
def NumsAt (w : World) (b : Nat) (n : Nat) (r : Nat → Nat) : Prop := ∀ i, i < n → w.cell? ⟨b, i, none⟩ = some (.int .i64 (r i : Nat))
theorem NumsAt.step {w w' : World} {b n : Nat} {r : Nat → Nat} (h : NumsAt w b n r) (hb : Below w.heap.size w w') (hB : b < w.heap.size) : NumsAt w' b n r := fun i hi => keep hb hB (h i hi)

theorem diagonal_any (n i : Nat) (w : World) (hn : n ≤ 1000000) (hi : i ≤ 1000000) :
    Calls Try.prog 42 #[.int .i64 (n : Nat), .int .i64 (i : Nat)] w fun e w' => e = .returned (.int .i64 (2 * (i : Int) - n)) ∧ Below w.heap.size w w' := by
  go_enter Try.func42, Try.ntmps42
  go_wp2_with fail
  go_ret
  exact ⟨rfl, Below.refl _ _⟩

set_option maxRecDepth 100000 in
set_option maxHeartbeats 1000000 in
theorem step_none (i : Nat) (cap : Nat) (src : Option Addr) (w : World) (hi : i ≤ 1000000) :
    Calls Try.prog 41 #[.slice src 0 cap, .int .i64 (i : Nat)] w fun e w' => e = .returned (.tuple #[.int .i64 0, .int .i64 0]) ∧ Below w.heap.size w w' := by
  go_enter Try.func41, Try.ntmps41
  go_wp2_with fail
  go_ret2
  exact ⟨rfl, by repeat (first | exact Below.refl _ _ | apply Below.setCell _ (by first | omega | (simp <;> omega)) | apply Below.alloc _ (by first | omega | (simp <;> omega)))⟩

set_option maxRecDepth 100000 in
set_option maxHeartbeats 2000000 in
theorem step_any (r : Nat → Nat) (b n cap i : Nat) (w : World) (hb : b < w.heap.size) (hr : NumsAt w b n r) (hn0 : 0 < n) (hn : n ≤ 1000000) (hnc : n ≤ cap) (hi : i ≤ n) (hs : ∀ j, r j ≤ 1000000) :
    Calls Try.prog 41 #[.slice (some ⟨b, 0, none⟩) n cap, .int .i64 (i : Nat)] w fun e w' => e = .returned (.tuple #[.int .i64 ((stepF r n i).1 : Nat), .int .i64 ((stepF r n i).2 : Nat)]) ∧ Below w.heap.size w w' := by
  have n0 : ¬ (n = 0) := by omega
  by_cases h0 : i = 0
  · subst h0
    have c0 := hr 0 hn0
    have HE : Hid (stepF r n 0 = (r 0, 0)) := Lib.hid (by unfold stepF; rw [if_neg n0, if_pos (.inl rfl)])
    have i1 : (0 : Int) < (n : Int) := by omega
    rw [HE.out]
    clear HE hr
    generalize r 0 = x at *
    go_enter Try.func41, Try.ntmps41
    go_wp2_with fail
    go_quiet (fail)
    go_wp2_with fail
    go_ret2
    exact ⟨rfl, below_drewN (Below.refl _ _) _⟩
  · obtain ⟨j, rfl⟩ : ∃ j, i = j + 1 := ⟨i - 1, by omega⟩
    have cj := hr j (by omega)
    have e0 : ((j + 1 : Nat) : Int) = (j : Int) + 1 := by omega
    have sj := hs j
    have sj1 := hs (j + 1)
    have w1 : IntKind.i64.wrap ((j : Int) + 1 - 1) = (j : Int) := by rw [show (j : Int) + 1 - 1 = (j : Int) by omega]; exact IntWalk.i64_in _ ⟨by omega, by omega⟩
    have i6 : ((j : Int) + 1).toNat = j + 1 := by omega
    have i7 : (j : Int) + 1 - 1 = (j : Int) := by omega
    have i8 : (j : Int) < (n : Int) := by omega
    have z0 : ((j : Int) + 1 == 0) = false := by rw [Bool.eq_false_iff]; intro h; simp at h; omega
    by_cases h1 : j + 1 < n
    · have ck := hr (j + 1) h1
      have i9 : (j : Int) + 1 < (n : Int) := by omega
      by_cases h2 : r j < r (j + 1)
      · have HE : Hid (stepF r n (j + 1) = (r (j + 1), j + 1)) := Lib.hid (by unfold stepF; rw [if_neg n0, if_pos (.inr ⟨h1, by simpa using h2⟩)])
        rw [HE.out]
        clear HE hr hs
        generalize r j = y at *
        generalize r (j + 1) = x at *
        have d1 : decide ((y : Int) < (x : Int)) = true := decide_eq_true (by omega)
        simp only [e0]
        go_enter Try.func41, Try.ntmps41
        go_wp2_with fail
        go_quiet (fail)
        go_wp2_with fail
        go_ret2
        exact ⟨rfl, below_drewN (Below.refl _ _) _⟩
      · have HE : Hid (stepF r n (j + 1) = (r j + 1, j)) := Lib.hid (by unfold stepF; rw [if_neg n0, if_neg (by rintro (h | ⟨_, h⟩) <;> first | omega | exact h2 (by simpa using h))]; rfl)
        rw [HE.out]
        clear HE hr hs
        generalize r j = y at *
        generalize r (j + 1) = x at *
        have d1 : decide ((y : Int) < (x : Int)) = false := decide_eq_false (by omega)
        simp only [e0]
        go_enter Try.func41, Try.ntmps41
        go_wp2_with fail
        go_quiet (fail)
        go_wp2_with fail
        go_ret2
        exact ⟨by simp, below_drewN (Below.refl _ _) _⟩
    · have HE : Hid (stepF r n (j + 1) = (r j + 1, j)) := Lib.hid (by unfold stepF; rw [if_neg n0, if_neg (by rintro (h | ⟨h, _⟩) <;> omega)]; rfl)
      rw [HE.out]
      clear HE hr hs
      generalize r j = y at *
      have d1 : decide ((j : Int) + 1 < (n : Int)) = false := decide_eq_false (by omega)
      simp only [e0]
      go_enter Try.func41, Try.ntmps41
      go_wp2_with fail
      go_quiet (fail)
      go_wp2_with fail
      go_ret2
      exact ⟨by simp, below_drewN (Below.refl _ _) _⟩

end Go.Proofs.Ytdhbcmbajbgblaa
