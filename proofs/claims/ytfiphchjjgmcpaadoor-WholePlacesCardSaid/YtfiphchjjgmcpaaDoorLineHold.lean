/- What a call keeps while it calls others: its own boxes, the table it was handed, the library's table of numbers. -/
import Derived.Test.YtfiphchjjgmcpaaDoorLineShow
namespace Go.Proofs.YtfiphchjjgmcpaaDoor
open Go.RowKit
set_option linter.unusedVariables false

/-- some cells, each its block, its place in it, and what it holds -/
def CellsAre (w : World) (L : List (Nat × Nat × Value)) : Prop := ∀ x ∈ L, x.1 < w.heap.size ∧ w.cell? ⟨x.1, x.2.1, none⟩ = some x.2.2
def Hold (w0 : World) (p : Nat) (s : ByteArray) (L : List (Nat × Nat × Value)) (w : World) : Prop :=
  Below w0.heap.size w0 w ∧ TableAt w p s ∧ Tab w ∧ CellsAre w L
theorem CellsAre.step {w w' : World} {L : List (Nat × Nat × Value)} (h : CellsAre w L) (hb : Below w.heap.size w w') : CellsAre w' L := fun x hx =>
  ⟨by have := hb.size; have := (h x hx).1; omega, keep hb (h x hx).1 (h x hx).2⟩
theorem Hold.step {w0 w w' : World} {p : Nat} {s : ByteArray} {L : List (Nat × Nat × Value)} (h : Hold w0 p s L w) (hb : Below w.heap.size w w') : Hold w0 p s L w' :=
  ⟨after h.1 hb, h.2.1.step hb, h.2.2.1.step hb, h.2.2.2.step hb⟩
theorem Hold.bel {w0 w : World} {p : Nat} {s : ByteArray} {L : List (Nat × Nat × Value)} (h : Hold w0 p s L w) : Below w0.heap.size w0 w := h.1
theorem Hold.tab {w0 w : World} {p : Nat} {s : ByteArray} {L : List (Nat × Nat × Value)} (h : Hold w0 p s L w) : TableAt w p s := h.2.1
theorem Hold.nums {w0 w : World} {p : Nat} {s : ByteArray} {L : List (Nat × Nat × Value)} (h : Hold w0 p s L w) : Tab w := h.2.2.1
theorem Hold.cell {w0 w : World} {p : Nat} {s : ByteArray} {L : List (Nat × Nat × Value)} (h : Hold w0 p s L w) {b o : Nat} {v : Value} (hx : (b, o, v) ∈ L) : w.cell? ⟨b, o, none⟩ = some v := (h.2.2.2 _ hx).2
theorem Hold.lt {w0 w : World} {p : Nat} {s : ByteArray} {L : List (Nat × Nat × Value)} (h : Hold w0 p s L w) {b o : Nat} {v : Value} (hx : (b, o, v) ∈ L) : b < w.heap.size := (h.2.2.2 _ hx).1
theorem Hold.text {w0 w : World} {p : Nat} {s : ByteArray} {L : List (Nat × Nat × Value)} (h : Hold w0 p s L w) : w.cell? ⟨p, 0, none⟩ = some (.string s) := by obtain ⟨b, cap, q1, q2, q3, _⟩ := h.tab; exact q3
theorem Hold.plt {w0 w : World} {p : Nat} {s : ByteArray} {L : List (Nat × Nat × Value)} (h : Hold w0 p s L w) : p < w.heap.size := h.tab.lt
theorem Hold.start {w0 : World} {p : Nat} {s : ByteArray} (h : TableAt w0 p s) (ht : Tab w0) : Hold w0 p s [] w0 := ⟨Below.refl _ _, h, ht, fun x hx => absurd hx (by simp)⟩
/-- a new box of two cells joins them -/
theorem Hold.box {w0 w : World} {p : Nat} {s : ByteArray} {L : List (Nat × Nat × Value)} (h : Hold w0 p s L w) (a b : Value) (T : TypeId) : Hold w0 p s ((w.heap.size, 0, a) :: (w.heap.size, 1, b) :: L) (w.alloc (.cells #[a, b] T)) := by
  have hb : Below w.heap.size w (w.alloc (.cells #[a, b] T)) := (Below.refl _ _).alloc (Nat.le_refl _) _
  obtain ⟨h1, h2, h3, h4⟩ := h.step hb
  refine ⟨h1, h2, h3, fun x hx => ?_⟩
  rcases List.mem_cons.1 hx with rfl | hx
  · exact ⟨by simp, by simp [go_sem]⟩
  · rcases List.mem_cons.1 hx with rfl | hx
    · exact ⟨by simp, by simp [go_sem]⟩
    · exact h4 x hx
theorem Hold.drew {w0 w : World} {p : Nat} {s : ByteArray} {L : List (Nat × Nat × Value)} (h : Hold w0 p s L w) : Hold w0 p s L w.drew := ⟨h.1.drew, h.2.1, h.2.2.1, h.2.2.2⟩

/-- what Show answers of a span -/
def showS (s : ByteArray) (f t : Nat) : ByteArray :=
  if f < t then placeS (lineN s f) (colN s f) ++ ⟨#[45]⟩ ++ placeS (lineN s t) (colN s t) else placeS (lineN s f) (colN s f)

set_option maxHeartbeats 1000000 in
theorem show_no (s : ByteArray) (p : Nat) (f t : Int) (w : World) (hs : s.size ≤ 65536) (ht : TableAt w p s) (hn : Tab w) (hb : chkB f t s.size = false) :
    Calls Tryd.prog 12 #[.pointer (some ⟨p, 0, none⟩), .agg #[.int .i64 f, .int .i64 t]] w fun e w' => e = .returned (.tuple #[.string ⟨#[]⟩, .int .i64 1]) ∧ Below w.heap.size w w' := by
  have H0 := ((Hold.start ht hn).box (.int .i64 f) (.int .i64 t) 24).drew
  have t0 := H0.text
  have hp := ht.lt
  have E := Lib.hid (show errI (chkB f t s.size) 1 = 1 by rw [hb]; rfl)
  clear hb ht hn
  go_enter Tryd.func12, Tryd.ntmps12
  go_wp2_with fail
  go_region_held3 (fun w' => w'.cell? ⟨w.heap.size, 0, none⟩ = some (.int .i64 f) ∧ w'.cell? ⟨w.heap.size, 1, none⟩ = some (.int .i64 t) ∧ w'.cell? ⟨p, 0, none⟩ = some (.string s) ∧ Hold w p s [(w.heap.size, 0, .int .i64 f), (w.heap.size, 1, .int .i64 t)] w') (first | exact ⟨H0.cell (by simp), H0.cell (by simp), H0.text, H0⟩ | exact (fun H => ⟨Hold.cell H (by simp), Hold.cell H (by simp), Hold.text H, H⟩) (H0.step hb2)) (first | (go_at_call 14; refine (check_any _ _ _ _).mono ?_; rw [E.out]; rintro e w2 ⟨rfl, hb2⟩))
  all_goals go_split_ands
  all_goals go_wp2_with fail
  all_goals go_ret2
  all_goals exact ⟨rfl, Hold.bel (p := p) (s := s) (L := [(w.heap.size, 0, .int .i64 f), (w.heap.size, 1, .int .i64 t)]) (by assumption)⟩

theorem lineN_bd (s : ByteArray) (i : Nat) (hs : s.size ≤ 65536) (h : i ≤ s.size) : lineN s i ≤ 65537 ∧ colN s i ≤ 65537 := by
  have h1 := lineN_le s i h
  have h2 := begs_len s
  unfold colN
  omega

end Go.Proofs.YtfiphchjjgmcpaaDoor
