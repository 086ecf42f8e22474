/- Contracts of Place.String and Table.Show. -/
import Derived.Test.YtfiphchjjgmcpaaDoorLineText
namespace Go.Proofs.YtfiphchjjgmcpaaDoor
open Go.RowKit
set_option linter.unusedVariables false

/-- the table of Go's library that numbers are written by -/
def Tab (w : World) : Prop := Lib.TabIs Tryd.prog w "internal/strconv.uint64pow10" .u64 Lib.pow10Tab
theorem Tab.step {w w' : World} (h : Tab w) (hb : Below w.heap.size w w') : Tab w' := by
  unfold Tab Lib.TabIs at *
  cases hg : Tryd.prog.globalNamed "internal/strconv.uint64pow10" with
  | none => simp [World.var?, hg] at h
  | some g =>
    refine var?_below hb hg ?_ h
    by_cases hlt : g < w.heap.size
    · exact hlt
    · simp [World.var?, hg, Array.getElem?_eq_none (show w.heap.size ≤ g by omega)] at h
theorem below_grow (w : World) (n : Nat) (os : Array Obj) : Below w.heap.size w (Sort.grow (w.drewN n) os) := by
  refine ⟨rfl, rfl, rfl, by simp [Sort.grow], fun k hk => ?_⟩
  show (w.heap ++ os)[k]? = _
  rw [Array.getElem?_append_left hk]

/-- a number's digits, as text -/
def digS (n : Nat) : ByteArray := ⟨(Lib.decDigits n).toArray⟩
theorem itoa_any (n : Nat) (w : World) (hn : n ≤ 65537) (ht : Tab w) :
    Calls Tryd.prog 33 #[.int .i64 (n : Nat)] w fun e w' => e = .returned (.string (digS n)) ∧ Below w.heap.size w w' := by
  refine (Tryd.strconv_Itoa (n : Int) (by omega) (by omega) w ht).mono ?_
  rintro e w' ⟨rfl, k, os, rfl⟩
  refine ⟨?_, below_grow _ _ _⟩
  unfold digS Lib.itoa
  rw [if_neg (by omega), Int.toNat_natCast]

theorem decDigits_le (k : Nat) : ∀ n, n < 10 ^ (k + 1) → (Lib.decDigits n).length ≤ k + 1 := by
  induction k with
  | zero => intro n hn; rw [Lib.decDigits, dif_pos (by omega)]; simp
  | succ k ih =>
    intro n hn
    by_cases h : n < 10
    · rw [Lib.decDigits, dif_pos h]; simp
    · rw [Lib.decDigits, dif_neg h]
      have := ih (n / 10) (by rw [Nat.pow_succ] at hn; omega)
      simp; omega
theorem digS_size (n : Nat) (h : n ≤ 65537) : (digS n).size ≤ 5 := decDigits_le 4 n (by omega)

/-- how a place is written -/
def placeS (l c : Nat) : ByteArray := digS l ++ ⟨#[58]⟩ ++ digS c

/-- what stands while a place is written -/
def PsInv (w : World) (l c : Nat) (w' : World) : Prop :=
  Below w.heap.size w w' ∧ w'.cell? ⟨w.heap.size, 0, none⟩ = some (.int .i64 (l : Int)) ∧ w'.cell? ⟨w.heap.size, 1, none⟩ = some (.int .i64 (c : Int)) ∧ Tab w' ∧ w.heap.size < w'.heap.size
theorem PsInv.step {w W w2 : World} {l c : Nat} (h : PsInv w l c W) (hb : Below W.heap.size W w2) : PsInv w l c w2 := by
  obtain ⟨h1, h2, h3, h4, h5⟩ := h
  exact ⟨after h1 hb, keep hb h5 h2, keep hb h5 h3, h4.step hb, by have := hb.size; omega⟩
theorem PsInv.tab {w W : World} {l c : Nat} (h : PsInv w l c W) : Tab W := h.2.2.2.1
theorem PsInv.bel {w W : World} {l c : Nat} (h : PsInv w l c W) : Below w.heap.size w W := h.1
theorem PsInv.all {w W : World} {l c : Nat} (h : PsInv w l c W) : W.cell? ⟨w.heap.size, 0, none⟩ = some (.int .i64 (l : Int)) ∧ W.cell? ⟨w.heap.size, 1, none⟩ = some (.int .i64 (c : Int)) ∧ PsInv w l c W := ⟨h.2.1, h.2.2.1, h⟩

set_option maxHeartbeats 1000000 in
theorem pstring_any (l c : Nat) (w : World) (hl : l ≤ 65537) (hc : c ≤ 65537) (ht : Tab w) :
    Calls Tryd.prog 25 #[.agg #[.int .i64 (l : Nat), .int .i64 (c : Nat)]] w fun e w' => e = .returned (.string (placeS l c)) ∧ Below w.heap.size w w' := by
  have t1 : PsInv w l c (w.alloc (.cells #[.int .i64 (l : Int), .int .i64 (c : Int)] 35)).drew :=
    ⟨((Below.refl _ _).alloc (Nat.le_refl _) _).drew, by simp [go_sem], by simp [go_sem], (ht.step ((Below.refl _ _).alloc (Nat.le_refl _) _) : Tab (w.alloc _)), by simp⟩
  have IL := fun w ht => itoa_any l w hl ht
  have IC := fun w ht => itoa_any c w hc ht
  have s1 := digS_size l hl
  have s2 := digS_size c hc
  have HL := Lib.hid IL
  have HC := Lib.hid IC
  clear IL IC
  unfold placeS
  generalize digS l = a at *
  generalize digS c = b at *
  have s3 : ¬ 9223372036854775807 < a.size + 1 := by omega
  have s4 : ¬ 9223372036854775807 < a.size + 1 + b.size := by omega
  go_enter Tryd.func25, Tryd.ntmps25
  go_wp2_with fail
  go_region_held3 (fun w' => w'.cell? ⟨w.heap.size, 0, none⟩ = some (.int .i64 (l : Int)) ∧ w'.cell? ⟨w.heap.size, 1, none⟩ = some (.int .i64 (c : Int)) ∧ PsInv w l c w') (first | exact t1.all | exact (PsInv.step (by assumption) hb2).all) (first | (go_at_call_of 33 (Value.int .i64 (l : Int)); go_split_ands; refine (HL.out _ (PsInv.tab (w := w) (l := l) (c := c) (by assumption))).mono ?_; rintro e w2 ⟨rfl, hb2⟩) | (go_at_call_of 33 (Value.int .i64 (c : Int)); go_split_ands; refine (HC.out _ (PsInv.tab (w := w) (l := l) (c := c) (by assumption))).mono ?_; rintro e w2 ⟨rfl, hb2⟩))
  all_goals go_wp2_with fail
  all_goals go_split_ands
  all_goals go_ret
  all_goals exact ⟨rfl, PsInv.bel (l := l) (c := c) (by assumption)⟩

end Go.Proofs.YtfiphchjjgmcpaaDoor
