/- Contracts of Table.Lines, has, At, columns, Byte. -/
import Derived.Test.YtfiphchjjgmcpaaDoorLineSearch
import Derived.RegionTactic
namespace Go.Proofs.YtfiphchjjgmcpaaDoor
open Go.RowKit
set_option linter.unusedVariables false

set_option maxHeartbeats 1000000 in
theorem lines_any (s : ByteArray) (p : Nat) (w : World) (ht : TableAt w p s) :
    Calls Tryd.prog 6 #[.pointer (some ⟨p, 0, none⟩)] w fun e w' => e = .returned (.int .i64 ((begs s).length : Nat)) ∧ w = w' := by
  obtain ⟨b, cap, h1, h2, t0, t1, h5, h6, h7⟩ := ht
  clear h7
  generalize (begs s).length = n at *
  go_enter Tryd.func6, Tryd.ntmps6
  go_wp2_with fail
  go_ret
  exact ⟨rfl, rfl⟩

/-- is there a line of that number? -/
def hasB (s : ByteArray) (n : Int) : Bool := decide (1 ≤ n ∧ n ≤ (begs s).length)

set_option maxHeartbeats 1000000 in
theorem has_any (s : ByteArray) (p : Nat) (n : Int) (w : World) (ht : TableAt w p s) :
    Calls Tryd.prog 18 #[.pointer (some ⟨p, 0, none⟩), .int .i64 n] w fun e w' => e = .returned (.bool (hasB s n)) ∧ w = w' := by
  have HT := Lib.hid ht
  clear ht
  by_cases h1 : 1 ≤ n
  · have E := Lib.hid (show hasB s n = decide (n ≤ (begs s).length) by unfold hasB; simp [h1])
    go_enter Tryd.func18, Tryd.ntmps18
    go_wp2_with (go_at_call 6; refine (lines_any s p _ HT.out).mono ?_; rintro e w' ⟨rfl, rfl⟩)
    go_ret
    exact ⟨by rw [E.out]; rfl, rfl⟩
  · have E := Lib.hid (show hasB s n = false by unfold hasB; simp [h1])
    go_enter Tryd.func18, Tryd.ntmps18
    go_wp2_with (go_at_call 6; refine (lines_any s p _ HT.out).mono ?_; rintro e w' ⟨rfl, rfl⟩)
    go_ret
    exact ⟨by rw [E.out]; rfl, rfl⟩

set_option maxHeartbeats 1000000 in
theorem at_no (s : ByteArray) (p : Nat) (pos : Int) (w : World) (ht : TableAt w p s) (hpos : pos < 0 ∨ (s.size : Int) < pos) :
    Calls Tryd.prog 8 #[.pointer (some ⟨p, 0, none⟩), .int .i64 pos] w fun e w' => e = .returned (.tuple #[.agg #[.int .i64 0, .int .i64 0], .int .i64 1]) ∧ Below w.heap.size w w' := by
  obtain ⟨b, cap, h1, h2, t0, t1, h5, h6, h7⟩ := ht
  clear h7
  have h1a : p < w.heap.size + 1 := by omega
  have h1b : p < w.heap.size + 1 + 1 := by omega
  rcases hpos with k1 | k1
  · go_enter Tryd.func8, Tryd.ntmps8
    go_wp2_with fail
    go_quiet (fail)
    go_wp2_with fail
    refine bodyPost_ret (v := .tuple #[.agg #[.int .i64 0, .int .i64 0], .int .i64 1]) (by simp [results, Tryd.results8, go_sem]) rfl ?_
    exact ⟨rfl, by repeat (first | exact Below.refl _ _ | refine below_drewN ?_ _ | apply Below.setCell _ (by first | omega | (simp <;> omega)) | apply Below.alloc _ (by first | omega | (simp <;> omega)))⟩
  · have k0 : ¬ pos < 0 := by omega
    go_enter Tryd.func8, Tryd.ntmps8
    go_wp2_with fail
    go_quiet (fail)
    go_wp2_with fail
    refine bodyPost_ret (v := .tuple #[.agg #[.int .i64 0, .int .i64 0], .int .i64 1]) (by simp [results, Tryd.results8, go_sem]) rfl ?_
    exact ⟨rfl, by repeat (first | exact Below.refl _ _ | refine below_drewN ?_ _ | apply Below.setCell _ (by first | omega | (simp <;> omega)) | apply Below.alloc _ (by first | omega | (simp <;> omega)))⟩

set_option maxHeartbeats 1000000 in
theorem at_yes (s : ByteArray) (p pos : Nat) (w : World) (hs : s.size ≤ 65536) (ht : TableAt w p s) (hpos : pos ≤ s.size) :
    Calls Tryd.prog 8 #[.pointer (some ⟨p, 0, none⟩), .int .i64 (pos : Nat)] w fun e w' => e = .returned (.tuple #[.agg #[.int .i64 (lineN s pos : Nat), .int .i64 (colN s pos : Nat)], .int .i64 0]) ∧ Below w.heap.size w w' := by
  have HT := Lib.hid ht
  obtain ⟨b, cap, h1, h2, t0, t1, h5, h6, h7⟩ := ht
  have hl := lineN_le s pos hpos
  have hB := begN_le s pos
  have t2 := h7 (lineN s pos - 1) (by omega)
  rw [begs_at s pos hpos] at t2
  have hmf : ∀ (fn : Fn) (first cap : Array Value) (w : World), (Instr.makeFunc fn first cap).run Tryd.prog w = .ok (.func fn first cap) w := fun _ _ _ _ => rfl
  have hcol := Lib.hid (show ((colN s pos : Nat) : Int) = (pos : Int) - (begN s pos : Int) + 1 by unfold colN; omega)
  have hn := (begs_len s).2
  clear h7
  have h1a : p < w.heap.size + 1 := by omega
  have h1b : p < w.heap.size + 1 + 1 := by omega
  have h2a : b < w.heap.size + 1 := by omega
  have h2b : b < w.heap.size + 1 + 1 := by omega
  have k0 : ¬ (s.size : Int) < (pos : Int) := by omega
  go_enter Tryd.func8, Tryd.ntmps8
  go_wp2_with fail
  go_quiet (fail)
  go_wp2_with fail
  refine (lines_any s p _ (HT.out.step (by repeat (first | exact Below.refl _ _ | refine below_drewN ?_ _ | apply Below.setCell _ (by first | omega | (simp <;> omega)) | apply Below.alloc _ (by first | omega | (simp <;> omega)))))).mono ?_
  rintro e w' ⟨rfl, rfl⟩
  go_wp2_with fail
  refine (search_line s p w.heap.size (w.heap.size + 1) pos _ hs (HT.out.step (by repeat (first | exact Below.refl _ _ | refine below_drewN ?_ _ | apply Below.setCell _ (by first | omega | (simp <;> omega)) | apply Below.alloc _ (by first | omega | (simp <;> omega))))) hpos (by simp [go_sem]) (by simp [go_sem])).mono ?_
  rintro e w' ⟨rfl, mq, rfl⟩
  generalize begN s pos = B at *
  generalize hL : lineN s pos = L at *
  have HL := Lib.hid hL
  clear hL
  go_wp2_with fail
  have e1 : (1 : Int) ≤ (L : Int) := by omega
  have e2 : (L : Int) - 1 < ((begs s).length : Int) := by omega
  have e3 : ((L : Int) - 1).toNat = L - 1 := by omega
  have e4 : (B : Int) ≤ (pos : Int) := by omega
  go_region
  go_wp2_with fail
  refine bodyPost_ret (v := .tuple #[.agg #[.int .i64 (L : Int), .int .i64 ((pos : Int) - (B : Int) + 1)], .int .i64 0]) (by simp [results, Tryd.results8, go_sem]) rfl ?_
  exact ⟨by rw [HL.out, hcol.out], by repeat (first | exact Below.refl _ _ | refine below_drewN ?_ _ | apply Below.setCell _ (by first | omega | (simp <;> omega)) | apply Below.alloc _ (by first | omega | (simp <;> omega)))⟩

/-- how many places a line has -/
def colsN (s : ByteArray) (n : Nat) : Nat := if h : n < (begs s).length then (begs s)[n] - (begs s)[n - 1] else if h : n - 1 < (begs s).length then s.size - (begs s)[n - 1] + 1 else 0


theorem hasB_iff {s : ByteArray} {n : Int} : hasB s n = true ↔ 1 ≤ n ∧ n ≤ (begs s).length := by unfold hasB; simp
theorem has_at (s : ByteArray) (p : Nat) (n : Int) (w : World) (x : Bool) (ht : TableAt w p s) (h : hasB s n = x) :
    Calls Tryd.prog 18 #[.pointer (some ⟨p, 0, none⟩), .int .i64 n] w fun e w' => e = .returned (.bool x) ∧ w' = w :=
  (has_any s p n w ht).mono fun e w' q => ⟨by rw [q.1, h], q.2.symm⟩
theorem TableAt.box {w : World} {p : Nat} {s : ByteArray} (h : TableAt w p s) (o : Obj) : TableAt (w.alloc o) p s := h.step ((Below.refl _ _).alloc (Nat.le_refl _) _)

end Go.Proofs.YtfiphchjjgmcpaaDoor
