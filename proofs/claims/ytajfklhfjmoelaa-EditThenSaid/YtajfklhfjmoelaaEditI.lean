/- Contracts of the statements' own helpers: are a text and edits small; the first question. -/
import Derived.Test.YtajfklhfjmoelaaEditH
namespace Go.Proofs.Ytajfklhfjmoelaa
open Go Go.RowKit
set_option linter.unusedVariables false

def smallTo (l : List IEd) : Bool := l.all fun e => decide (e.2.2.size ≤ 500)
theorem smallTo_snoc (l : List IEd) (k : Nat) (h : k < l.length) : smallTo (l.take (k + 1)) = (smallTo (l.take k) && decide (l[k].2.2.size ≤ 500)) := by
  unfold smallTo; rw [List.take_succ_eq_append_getElem h, List.all_append]; simp
theorem smallTo_take (l : List IEd) (k : Nat) (h : smallTo (l.take k) = false) : smallTo l = false := by
  unfold smallTo at *
  rw [List.all_eq_false] at *
  obtain ⟨x, hx, hp⟩ := h
  exact ⟨x, List.mem_of_mem_take hx, hp⟩
def smallB (s : ByteArray) (l : List IEd) : Bool := decide (s.size ≤ 2000) && decide (l.length ≤ 60) && smallTo l

set_option maxHeartbeats 1000000 in
theorem small_any (s : ByteArray) (src : Option Addr) (n cap : Nat) (l : List IEd) (w : World) (hl : l.length = n) (hr : EdsIn w src l) :
    Calls Try.prog 17 #[.string s, .slice src n cap] w fun e w' => e = .returned (.bool (smallB s l)) ∧ Below w.heap.size w w' := by
  have HR := Lib.hid hr
  have HL := Lib.hid hl
  clear hr hl
  by_cases hs : 2000 < s.size
  · have hs' : 2000 < (s.size : Int) := by omega
    have E := Lib.hid (show smallB s l = false by unfold smallB; rw [decide_eq_false (by omega)]; rfl)
    go_enter Try.func17, Try.ntmps17
    go_wp2_with fail
    go_ret
    exact ⟨by rw [E.out]; rfl, Below.refl _ _⟩
  · have hs' : ¬ 2000 < (s.size : Int) := by omega
    by_cases hq : 60 < n
    · have hq' : 60 < (n : Int) := by omega
      have E := Lib.hid (show smallB s l = false by unfold smallB; rw [decide_eq_false (show ¬ l.length ≤ 60 by have := HL.out; omega)]; simp)
      go_enter Try.func17, Try.ntmps17
      go_wp2_with fail
      go_ret
      exact ⟨by rw [E.out]; rfl, Below.refl _ _⟩
    · have hq' : ¬ 60 < (n : Int) := by omega
      have ES := Lib.hid (show smallB s l = smallTo l by unfold smallB; rw [decide_eq_true (by omega), decide_eq_true (show l.length ≤ 60 by have := HL.out; omega)]; simp)
      go_enter Try.func17, Try.ntmps17
      go_wp2_with fail
      go_loopw [17] (fun i wr => ∃ k : Nat, k ≤ n ∧ i = .int .i64 k ∧ smallTo (l.take k) = true ∧ Below w.heap.size w wr) (fun i _ => n - (intOf i).toNat)
      case atStart => exact ⟨0, Nat.zero_le _, rfl, rfl, Below.refl _ _⟩
      case round =>
        obtain ⟨k, hk, rfl, hall, hbel⟩ := hrel
        have HA := Lib.hid hall
        have HBEL := Lib.hid hbel
        have hsz := hbel.size
        clear hall
        by_cases hlt : k < n
        · have hkl : k < l.length := by rw [HL.out]; exact hlt
          obtain ⟨b, off, rfl, hb, hrow⟩ := HR.out (by omega)
          obtain ⟨c0, c1, c2⟩ := (hrow.below hbel hb) k hkl
          have SN := Lib.hid (smallTo_snoc l k hkl)
          have TK := Lib.hid (smallTo_take l (k + 1))
          clear hbel hrow
          revert c0 c1 c2 SN
          generalize l[k] = x
          obtain ⟨x1, x2, x3⟩ := x
          intro c0 c1 c2 SN
          dsimp only at c0 c1 c2 SN
          clear hkl
          by_cases hz : 500 < x3.size
          · have E := Lib.hid (show smallB s l = false by rw [ES.out]; exact TK.out (by rw [SN.out, decide_eq_false (by omega)]; simp))
            have hz' : 500 < (x3.size : Int) := by omega
            go_wp2_with fail
            go_ret
            have HB := HBEL.out
            exact ⟨by rw [E.out]; rfl, by repeat (first | exact Below.refl _ _ | apply Below.setCell _ (by first | omega | (simp <;> omega)) | apply Below.alloc _ (by first | omega | (simp <;> omega)) | exact HB | refine after ?_ HB)⟩
          · have E := Lib.hid (show smallTo (l.take (k + 1)) = true by rw [SN.out, HA.out, decide_eq_true (by omega)]; rfl)
            have hz' : ¬ 500 < (x3.size : Int) := by omega
            go_wp2_with fail
            go_roundw
            case rel =>
              have HB := HBEL.out
              exact ⟨k + 1, by omega, by go_num, E.out, by repeat (first | exact Below.refl _ _ | apply Below.setCell _ (by first | omega | (simp <;> omega)) | apply Below.alloc _ (by first | omega | (simp <;> omega)) | exact HB | refine after ?_ HB)⟩
            case measure => simp [intOf]; omega
        · have hk' : k = n := by omega
          subst hk'
          have E := Lib.hid (show smallB s l = true by rw [ES.out]; have := HA.out; rwa [← HL.out, List.take_length] at this)
          go_wp2_with fail
          go_ret
          exact ⟨by rw [E.out]; rfl, hbel⟩

end Go.Proofs.Ytajfklhfjmoelaa
