/- Contracts of Table.Text. -/
import Derived.Test.YtfiphchjjgmcpaaDoorLineLine
import Derived.Deep.RegionHeld3
namespace Go.Proofs.YtfiphchjjgmcpaaDoor
open Go.RowKit
set_option linter.unusedVariables false

set_option maxHeartbeats 1000000 in
theorem ttext_no (s : ByteArray) (p : Nat) (n : Int) (w : World) (ht : TableAt w p s) (hb : hasB s n = false) :
    Calls Tryd.prog 26 #[.pointer (some ⟨p, 0, none⟩), .int .i64 n] w fun e w' => e = .returned (.tuple #[.string ⟨#[]⟩, .int .i64 1]) ∧ Below w.heap.size w w' := by
  have HT := Lib.hid ht
  have H := Lib.hid hb
  clear ht hb
  go_enter Tryd.func26, Tryd.ntmps26
  go_wp2_with (go_at_call 7; refine (line_no s p n _ HT.out H.out).mono ?_; rintro e w1 ⟨rfl, h01⟩; have hz := h01.size)
  go_ret2
  exact ⟨rfl, by repeat (first | exact Below.refl _ _ | refine below_drewN ?_ _ | apply Below.setCell _ (by first | omega | (simp <;> omega)) | apply Below.alloc _ (by first | omega | (simp <;> omega)) | exact h01 | refine after ?_ h01)⟩

/-- a line's text -/
def lineS (s : ByteArray) (n : Nat) : ByteArray := s.extract (bgN s (n - 1)) (endN s n)

set_option maxHeartbeats 1000000 in
theorem ttext_yes (s : ByteArray) (p n : Nat) (w : World) (hs : s.size ≤ 65536) (ht : TableAt w p s) (h1n : 1 ≤ n) (hnl : n ≤ (begs s).length) :
    Calls Tryd.prog 26 #[.pointer (some ⟨p, 0, none⟩), .int .i64 (n : Nat)] w fun e w' => e = .returned (.tuple #[.string (lineS s n), .int .i64 0]) ∧ Below w.heap.size w w' := by
  have HT := Lib.hid ht
  have hle := endN_le s n h1n hnl
  have HC := Lib.hid (show chkB (bgN s (n - 1) : Nat) (endN s n : Nat) s.size = true from chkB_iff.2 ⟨⟨by omega, by omega, by omega⟩, by omega, by omega⟩)
  have HQ := Lib.hid hnl
  have hp := ht.lt
  clear ht hnl
  unfold lineS
  generalize hB : bgN s (n - 1) = B at *
  generalize hE : endN s n = E at *
  have HB := Lib.hid hB
  have HE := Lib.hid hE
  clear hB hE
  go_enter Tryd.func26, Tryd.ntmps26
  go_wp2_with fail
  refine (line_yes s p n _ hs HT.out h1n HQ.out).mono ?_
  rw [HB.out, HE.out]
  rintro e w1 ⟨rfl, h01⟩
  have HT1 := Lib.hid (HT.out.step h01)
  have hz := h01.size
  have t0 : w1.cell? ⟨p, 0, none⟩ = some (.string s) := by obtain ⟨b, cap, q1, q2, q3, _⟩ := HT1.out; exact q3
  have hp1 : p < w1.heap.size := by omega
  go_wp2_with fail
  go_region_held3 (fun w' => w'.cell? ⟨p, 0, none⟩ = some (.string s) ∧ w'.cell? ⟨w1.heap.size, 0, none⟩ = some (.int .i64 (B : Int)) ∧ w'.cell? ⟨w1.heap.size, 1, none⟩ = some (.int .i64 (E : Int))) (first | go_keep | (refine ⟨keep h12 (by simp; omega) ?_, keep h12 (by simp) ?_, keep h12 (by simp) ?_⟩ <;> simp [go_sem, t0, hp1])) (first | (go_at_call 11; refine (text_yes s B E _ HC.out).mono ?_; rintro e w2 ⟨rfl, h12⟩))
  all_goals go_wp2_with fail
  all_goals go_ret2
  all_goals exact ⟨rfl, by repeat (first | exact Below.refl _ _ | refine below_drewN ?_ _ | apply Below.setCell _ (by first | omega | (simp <;> omega)) | apply Below.alloc _ (by first | omega | (simp <;> omega)) | exact (undrew h12) | refine after ?_ (undrew h12) | exact h01 | refine after ?_ h01)⟩

end Go.Proofs.YtfiphchjjgmcpaaDoor
