/- The document's own answer: a line without its end. -/
import Derived.Test.YtcmeeehhhnmfgaaDoorRefLines
namespace Go.Proofs.YtcmeeehhhnmfgaaDoor
open Go.RowKit
set_option linter.unusedVariables false

/-- a line without its end -/
def bareS (x : ByteArray) : ByteArray :=
  if x.size = 0 ∨ nlAt x (x.size - 1) = false then x
  else if 1 < x.size ∧ crAt x (x.size - 2) = true then x.extract 0 (x.size - 2) else x.extract 0 (x.size - 1)

theorem refbare_any (x : ByteArray) (w : World) (hs : x.size ≤ 65536) :
    Calls Tryd.prog 20 #[.string x] w fun e w' => e = .returned (.string (bareS x)) ∧ Below w.heap.size w w' := by
  by_cases h0 : x.size = 0
  · have e : bareS x = x := by unfold bareS; rw [if_pos (.inl h0)]
    rw [e]
    go_enter Tryd.func20, Tryd.ntmps20
    go_wp2_with fail
    go_ret
    exact ⟨rfl, by repeat (first | exact Below.refl _ _ | apply Below.setCell _ (by first | omega | (simp <;> omega)) | apply Below.alloc _ (by first | omega | (simp <;> omega)))⟩
  have h1 : x.size - 1 < x.size := by omega
  have ei : (x.size : Int) - 1 = ((x.size - 1 : Nat) : Int) := by omega
  cases hn : nlAt x (x.size - 1)
  · have e : bareS x = x := by unfold bareS; rw [if_pos (.inr hn)]
    have hb : ((x[x.size - 1].toNat : Int) != 10) = true := by rw [bne, nlAt_int x _ h1, hn]; rfl
    rw [e]
    clear hn
    go_enter Tryd.func20, Tryd.ntmps20
    go_wp2_with fail
    go_ret
    exact ⟨rfl, by repeat (first | exact Below.refl _ _ | apply Below.setCell _ (by first | omega | (simp <;> omega)) | apply Below.alloc _ (by first | omega | (simp <;> omega)))⟩
  · have hb : ((x[x.size - 1].toNat : Int) != 10) = false := by rw [bne, nlAt_int x _ h1, hn]; rfl
    have hc : ¬ (x.size = 0 ∨ nlAt x (x.size - 1) = false) := by rw [hn]; simp [h0]
    by_cases h2 : 1 < x.size
    · have h3 : x.size - 2 < x.size := by omega
      have ej : (x.size : Int) - 2 = ((x.size - 2 : Nat) : Int) := by omega
      cases hr : crAt x (x.size - 2)
      · have e : bareS x = x.extract 0 (x.size - 1) := by unfold bareS; rw [if_neg hc, if_neg (by rw [hr]; simp)]
        have hb2 : ((x[x.size - 2].toNat : Int) == 13) = false := by rw [crAt_int x _ h3]; exact hr
        rw [e]
        clear hn hr hc e
        go_enter Tryd.func20, Tryd.ntmps20
        go_wp2_with fail
        go_ret
        exact ⟨rfl, by repeat (first | exact Below.refl _ _ | apply Below.setCell _ (by first | omega | (simp <;> omega)) | apply Below.alloc _ (by first | omega | (simp <;> omega)))⟩
      · have e : bareS x = x.extract 0 (x.size - 2) := by unfold bareS; rw [if_neg hc, if_pos ⟨h2, hr⟩]
        have hb2 : ((x[x.size - 2].toNat : Int) == 13) = true := by rw [crAt_int x _ h3]; exact hr
        rw [e]
        clear hn hr hc e
        go_enter Tryd.func20, Tryd.ntmps20
        go_wp2_with fail
        go_ret
        exact ⟨rfl, by repeat (first | exact Below.refl _ _ | apply Below.setCell _ (by first | omega | (simp <;> omega)) | apply Below.alloc _ (by first | omega | (simp <;> omega)))⟩
    · have e : bareS x = x.extract 0 (x.size - 1) := by unfold bareS; rw [if_neg hc, if_neg (by omega)]
      rw [e]
      clear hn hc e
      go_enter Tryd.func20, Tryd.ntmps20
      go_wp2_with fail
      go_ret
      exact ⟨rfl, by repeat (first | exact Below.refl _ _ | apply Below.setCell _ (by first | omega | (simp <;> omega)) | apply Below.alloc _ (by first | omega | (simp <;> omega)))⟩

end Go.Proofs.YtcmeeehhhnmfgaaDoor
