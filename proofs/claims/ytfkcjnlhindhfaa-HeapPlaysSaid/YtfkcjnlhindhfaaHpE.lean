/- Contracts of a heap's cell, Load, Class, Elem and Len. -/
import Derived.Test.YtfkcjnlhindhfaaHpD
namespace Go.Proofs.Ytfkcjnlhindhfaa
open Go Go.RowKit
set_option linter.unusedVariables false
set_option linter.unusedSimpArgs false

/-- a new box, a call behind it -/
theorem box1 {T : TypeId} {w w1 : World} {cs : Array Value} (h : Below (w.alloc (.cells cs T)).heap.size (w.alloc (.cells cs T)) w1) : Below w.heap.size w w1 ∧ Bx T w1 w.heap.size cs.toList :=
  ⟨after ((Below.refl _ _).alloc (Nat.le_refl _) _) h, (Bx.new T w cs).keep h⟩
theorem box2 {T T' : TypeId} {w w1 : World} {cs rs : Array Value} (h : Below ((w.alloc (.cells cs T)).alloc (.cells rs T')).heap.size ((w.alloc (.cells cs T)).alloc (.cells rs T')) w1) :
    Below w.heap.size w w1 ∧ Bx T w1 w.heap.size cs.toList ∧ Bx T' w1 (w.heap.size + 1) rs.toList := by
  have h1 : Below w.heap.size w ((w.alloc (.cells cs T)).alloc (.cells rs T')) := ((Below.refl _ _).alloc (Nat.le_refl _) _).alloc (by simp) _
  refine ⟨after h1 h, (((Bx.new T w cs).alloc _).keep h), ?_⟩
  have h2 := Bx.new T' (w.alloc (.cells cs T)) rs
  simp only [World.size_alloc] at h2
  exact h2.keep h

set_option maxHeartbeats 2000000 in
theorem cell_no (b bB m : Nat) (L : List ThR) (v : Value) (k n : Int) (s : ByteArray) (j : Int) (w : World) (h : HpM w bB b L m v) (ht : thereN L k n = false) :
    Calls Try.prog 30 #[.pointer (some ⟨b, 0, none⟩), .agg #[.int .i64 k, .int .i64 n, .string s], .int .i64 j] w fun e w' => e = .returned (.tuple #[.pointer none, .int .i64 3]) ∧ Below w.heap.size w w' := by
  have HC := Lib.hid (fun w2 (hb : Below w.heap.size w w2) => hat_no b bB m L v k n s w2 (h.step hb) ht)
  clear h ht
  go_enter Try.func30, Try.ntmps30
  go_wp2_with fail
  refine (HC.out _ (by repeat (first | exact Below.refl _ _ | apply Below.setCell _ (by first | omega | (simp <;> omega)) | apply Below.alloc _ (by first | omega | (simp <;> omega))))).mono ?_
  rintro e w1 ⟨rfl, h1⟩
  obtain ⟨hb1, -⟩ := box1 h1
  go_wp2_with fail
  go_ret2
  exact ⟨rfl, hb1⟩
set_option maxHeartbeats 2000000 in
theorem cell_out (b bB m : Nat) (L : List ThR) (v : Value) (i : Nat) (s : ByteArray) (j : Int) (w : World) (h : HpM w bB b L m v) (hi : i < L.length) (hj : j < 0 ∨ (L[i].1.vs.length : Int) ≤ j) :
    Calls Try.prog 30 #[.pointer (some ⟨b, 0, none⟩), .agg #[.int .i64 5, .int .i64 (i : Nat), .string s], .int .i64 j] w fun e w' => e = .returned (.tuple #[.pointer none, .int .i64 1]) ∧ Below w.heap.size w w' := by
  obtain ⟨g, c, rfl, -⟩ := h.thing i hi
  have HC := Lib.hid (fun w2 (hb : Below w.heap.size w w2) => hat_yes b bB m L g c i s w2 (h.step hb) hi)
  have HT := Lib.hid (fun w2 (hb : Below w.heap.size w w2) => (h.step hb).thing i hi)
  clear h
  have hjl := hj
  by_cases h0 : j < 0
  · clear hj hjl
    go_enter Try.func30, Try.ntmps30
    go_wp2_with fail
    refine (HC.out _ (by repeat (first | exact Below.refl _ _ | apply Below.setCell _ (by first | omega | (simp <;> omega)) | apply Below.alloc _ (by first | omega | (simp <;> omega))))).mono ?_
    rintro e w1 ⟨rfl, h1⟩
    obtain ⟨hb1, -⟩ := box1 h1
    go_wp2_with fail
    go_ret2
    exact ⟨rfl, hb1⟩
  · have hl : (L[i].1.vs.length : Int) ≤ j := by omega
    clear hj hjl
    go_enter Try.func30, Try.ntmps30
    go_wp2_with fail
    refine (HC.out _ (by repeat (first | exact Below.refl _ _ | apply Below.setCell _ (by first | omega | (simp <;> omega)) | apply Below.alloc _ (by first | omega | (simp <;> omega))))).mono ?_
    rintro e w1 ⟨rfl, h1⟩
    obtain ⟨hb1, -⟩ := box1 h1
    obtain ⟨g', c', hv, hg, c0, c1, c2, c3, c4, c5, c6⟩ := HT.out _ hb1
    simp only [Value.slice.injEq, Option.some.injEq, Addr.mk.injEq, and_true, true_and] at hv
    obtain ⟨rfl, rfl⟩ := hv
    go_wp2_with fail
    go_ret2
    exact ⟨rfl, hb1⟩
set_option maxHeartbeats 2000000 in
theorem cell_in (b bB m : Nat) (L : List ThR) (v : Value) (i : Nat) (s : ByteArray) (j : Nat) (w : World) (h : HpM w bB b L m v) (hi : i < L.length) (hj : j < L[i].1.vs.length) :
    Calls Try.prog 30 #[.pointer (some ⟨b, 0, none⟩), .agg #[.int .i64 5, .int .i64 (i : Nat), .string s], .int .i64 (j : Nat)] w fun e w' => e = .returned (.tuple #[.pointer (some ⟨L[i].2, j * 3, none⟩), .int .i64 0]) ∧ Below w.heap.size w w' := by
  obtain ⟨g, c, rfl, -⟩ := h.thing i hi
  have HC := Lib.hid (fun w2 (hb : Below w.heap.size w w2) => hat_yes b bB m L g c i s w2 (h.step hb) hi)
  have HT := Lib.hid (fun w2 (hb : Below w.heap.size w w2) => (h.step hb).thing i hi)
  have hfit := (h.fit _ (List.getElem_mem hi)).len
  clear h
  generalize hy : L[i] = y at *
  have HY := Lib.hid hy
  clear hy
  generalize y.1.vs.length = l at *
  have j0 : ¬ (j : Int) < 0 := by omega
  have jl : ¬ (l : Int) ≤ (j : Int) := by omega
  have jl2 : (j : Int) < (l : Int) := by omega
  go_enter Try.func30, Try.ntmps30
  go_wp2_with fail
  refine (HC.out _ (by repeat (first | exact Below.refl _ _ | apply Below.setCell _ (by first | omega | (simp <;> omega)) | apply Below.alloc _ (by first | omega | (simp <;> omega))))).mono ?_
  rintro e w1 ⟨rfl, h1⟩
  obtain ⟨hb1, -⟩ := box1 h1
  obtain ⟨g', c', hv, hg, c0, c1, c2, c3, c4, c5, c6⟩ := HT.out _ hb1
  simp only [Value.slice.injEq, Option.some.injEq, Addr.mk.injEq, and_true, true_and] at hv
  obtain ⟨rfl, rfl⟩ := hv
  go_wp2_with fail
  go_ret2
  exact ⟨by simp, hb1⟩
end Go.Proofs.Ytfkcjnlhindhfaa
