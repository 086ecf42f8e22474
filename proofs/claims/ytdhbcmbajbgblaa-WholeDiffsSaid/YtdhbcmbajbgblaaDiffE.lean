/- Contract of diff's Far. -/
import Derived.Test.YtdhbcmbajbgblaaDiffD
namespace Go.Proofs.Ytdhbcmbajbgblaa
open Go Go.RowKit
set_option linter.unusedVariables false

def longB (a b : ByteArray) : Bool := decide (16384 < a.size ∨ 16384 < b.size)
theorem longB_no {a b : ByteArray} (ha : a.size ≤ 16384) (hb : b.size ≤ 16384) : longB a b = false := decide_eq_false (by omega)
theorem longB_yes {a b : ByteArray} (h : 16384 < a.size ∨ 16384 < b.size) : longB a b = true := decide_eq_true h
theorem tooLong_any (a b : ByteArray) (w : World) (ha : a.size ≤ maxLen) (hb : b.size ≤ maxLen) :
    Calls Try.prog 18 #[.string a, .string b] w fun e w' => e = .returned (.bool (longB a b)) ∧ w = w' := by
  unfold maxLen at ha hb
  by_cases h1 : 16384 < a.size
  · have H := Lib.hid (longB_yes (a := a) (b := b) (.inl h1))
    have d : 16384 < (a.size : Int) := by omega
    go_enter Try.func18, Try.ntmps18
    go_wp2_with fail
    go_ret
    exact ⟨by rw [H.out]; rfl, rfl⟩
  · have d : ¬ 16384 < (a.size : Int) := by omega
    by_cases h2 : 16384 < b.size
    · have H := Lib.hid (longB_yes (a := a) (b := b) (.inr h2))
      have d2 : 16384 < (b.size : Int) := by omega
      go_enter Try.func18, Try.ntmps18
      go_wp2_with fail
      go_ret
      exact ⟨by rw [H.out]; rfl, rfl⟩
    · have H := Lib.hid (longB_no (a := a) (b := b) (by omega) (by omega))
      have d2 : ¬ 16384 < (b.size : Int) := by omega
      go_enter Try.func18, Try.ntmps18
      go_wp2_with fail
      go_ret
      exact ⟨by rw [H.out]; rfl, rfl⟩

/-- how far: the number, whether it was found -/
def FarIs (a b : ByteArray) (n : Nat) (f : Bool) : Prop :=
  (f = true ∧ n ≤ 512 ∧ (∃ i, EndAt a b n i) ∧ ∀ m, m < n → ∀ i, ¬ EndAt a b m i) ∨ (f = false ∧ n = 0 ∧ ∀ m, m ≤ 512 → ∀ i, ¬ EndAt a b m i)
theorem far_any (a b : ByteArray) (w : World) (ha : a.size ≤ 16384) (hb : b.size ≤ 16384) :
    Calls Try.prog 8 #[.string a, .string b] w fun e w' => (∃ n f, e = .returned (.tuple #[.int .i64 (n : Nat), .bool f]) ∧ FarIs a b n f) ∧ Below w.heap.size w w' := by
  have HL := Lib.hid (fun w => tooLong_any a b w (by unfold maxLen; omega) (by unfold maxLen; omega))
  rw [longB_no ha hb] at HL
  go_enter Try.func8, Try.ntmps8
  go_wp2_with fail
  refine (HL.out _).mono ?_
  rintro e w1 ⟨rfl, rfl⟩
  go_wp2_with fail
  refine (search_any a b _ (by omega) (by omega)).mono ?_
  rintro e w2 (⟨n, g, v, i, rfl, hn, hend, hno, hinv⟩ | ⟨rfl, hno, hbel⟩)
  · obtain ⟨g0, cap, hv⟩ : ∃ g0 cap, v = .slice (some ⟨g0, 0, none⟩) (n + 1) cap := by
      rcases hinv.2.1.2 with ⟨_, h0⟩ | ⟨g0, cap, cur, h0, _⟩
      · omega
      · exact ⟨g0, cap, h0⟩
    subst hv
    have HB := Lib.hid hinv.1
    have HF : Hid (FarIs a b n true) := Lib.hid (.inl ⟨rfl, hn, ⟨i, hend⟩, hno⟩)
    clear hinv hend hno
    go_wp2_with fail
    go_ret2
    exact ⟨⟨n, true, by simp, HF.out⟩, HB.out⟩
  · have HB := Lib.hid hbel
    have HF : Hid (FarIs a b 0 false) := Lib.hid (.inr ⟨rfl, rfl, hno⟩)
    clear hbel hno
    go_wp2_with fail
    go_ret2
    exact ⟨⟨0, false, rfl, HF.out⟩, HB.out⟩

end Go.Proofs.Ytdhbcmbajbgblaa
