/- The document's own answer: a number's digits. -/
import Derived.Test.YtcmeeehhhnmfgaaDoorLineShow
import Derived.Test.YtcmeeehhhnmfgaaDoorLineBlanks
namespace Go.Proofs.YtcmeeehhhnmfgaaDoor
open Go.RowKit
set_option linter.unusedVariables false

theorem digS_small (n : Nat) (h : n < 10) : digS n = ⟨#[UInt8.ofNat (48 + n)]⟩ := by unfold digS; rw [Lib.decDigits, dif_pos h]
theorem digS_big (n : Nat) (h : 10 ≤ n) : digS n = digS (n / 10) ++ digS (n % 10) := by
  rw [digS_small (n % 10) (by omega)]
  unfold digS
  conv => lhs; rw [Lib.decDigits, dif_neg (by omega)]
  apply ByteArray.ext
  rw [ByteArray.data_append]
  simp

theorem one_byte (n : Nat) (w : World) (hn : n < 10) :
    (convert 69 9 (.slice (some ⟨w.heap.size, 0, none⟩) 1 1)).run Tryd.prog (w.alloc (.cells #[.int .u8 (48 + (n : Int))] 5)) = .ok (.string (digS n)) (w.alloc (.cells #[.int .u8 (48 + (n : Int))] 5)) := by
  have := run_convert_bytes_back (P := Tryd.prog) (w.alloc (.cells #[.int .u8 (48 + (n : Int))] 5)) 69 9 5 ⟨w.heap.size, 0, none⟩ 1 [UInt8.ofNat (48 + n)] Tryd.underlying69 Tryd.underlying5 Tryd.underlying9 (fun j hj => by
    have hj0 : j = 0 := by simp at hj; omega
    subst hj0
    have : (48 + n) % 256 = 48 + n := by omega
    simp [go_sem, Addr.add]
    omega)
  rw [digS_small n hn]
  exact this

set_option maxRecDepth 100000 in
theorem number_small (n : Nat) (w : World) (hn : n < 10) :
    Calls Tryd.prog 15 #[.int .i64 (n : Nat)] w fun e w' => e = .returned (.string (digS n)) ∧ Below w.heap.size w w' := by
  have hcv := one_byte n w hn
  go_enter Tryd.func15, Tryd.ntmps15
  go_wp2_with fail
  go_ret
  exact ⟨rfl, by repeat (first | exact Below.refl _ _ | apply Below.setCell _ (by first | omega | (simp <;> omega)) | apply Below.alloc _ (by first | omega | (simp <;> omega)))⟩

set_option maxRecDepth 100000 in
theorem number_any (n : Nat) : ∀ (w : World) (hn : n ≤ 65537),
    Calls Tryd.prog 15 #[.int .i64 (n : Nat)] w fun e w' => e = .returned (.string (digS n)) ∧ Below w.heap.size w w' := by
  induction n using Nat.strongRecOn with
  | _ n ih =>
    intro w hn
    by_cases h : n < 10
    · exact number_small n w h
    · have ih1 := fun w => ih (n / 10) (by omega) w (by omega)
      clear ih
      have e1 : ((n / 10 : Nat) : Int) = (n : Int) / 10 := by omega
      have e2 : ((n % 10 : Nat) : Int) = (n : Int) % 10 := by omega
      have ih2 := fun w => number_small (n % 10) w (by omega)
      rw [e1] at ih1
      rw [e2] at ih2
      have IH := Lib.hid ih1
      have S2 := Lib.hid ih2
      clear ih1 ih2 e1 e2
      rw [digS_big n (by omega)]
      have s1 := digS_size (n / 10) (by omega)
      have s2 := digS_size (n % 10) (by omega)
      generalize digS (n / 10) = a at *
      generalize digS (n % 10) = b at *
      have n1 : ¬ 9223372036854775807 < a.size + b.size := by omega
      clear s1 s2
      go_enter Tryd.func15, Tryd.ntmps15
      go_wp2_with fail
      refine (IH.out _).mono ?_
      rintro e w1 ⟨rfl, h01⟩
      go_wp2_with fail
      refine (S2.out _).mono ?_
      rintro e w2 ⟨rfl, h12⟩
      go_wp2_with fail
      go_ret
      exact ⟨rfl, after h01 h12⟩

end Go.Proofs.YtcmeeehhhnmfgaaDoor
