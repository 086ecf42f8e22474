/- Contracts of tree's Walk. -/
import Derived.Test.YtfalgnapghienaaGreatDoorTrFrom
namespace Go.Proofs.YtfalgnapghienaaGreatDoor
open Go Go.RowKit
set_option linter.unusedVariables false
set_option linter.unusedSimpArgs false

set_option maxRecDepth 100000 in
set_option maxHeartbeats 4000000 in
theorem from_out (a : Int) (n : Nat) (b ncap : Nat) (nsrc : Option Addr) (w : World) (h : a < 0 ∨ (n : Int) ≤ a) (d0 : w.cell? ⟨b, 0, none⟩ = some (.slice nsrc n ncap)) :
    Calls Tryz.prog 41 #[.pointer (some ⟨b, 0, none⟩), .int .i64 a] w fun e w' => e = .returned (.bool false) ∧ ∃ m, w' = w.drewN m := by
  by_cases h0 : a < 0
  · have q1 : decide (a < 0) = true := decide_eq_true h0
    clear h
    go_enter Tryz.func41, Tryz.ntmps41
    go_wp2_with fail
    go_quiet (fail)
    go_wp2_with fail
    go_ret
    exact ⟨rfl, _, rfl⟩
  · have q1 : decide (a < 0) = false := decide_eq_false h0
    have q2 : decide ((n : Int) ≤ a) = true := decide_eq_true (by omega)
    clear h
    go_enter Tryz.func41, Tryz.ntmps41
    go_wp2_with fail
    go_quiet (fail)
    go_wp2_with fail
    go_ret
    exact ⟨rfl, _, rfl⟩

/-- a list of numbers that a call made or grew -/
def SeenV (w w' : World) (v : Value) (l : List Nat) : Prop := ∃ s c, v = .slice s l.length c ∧ NumsIn w' s (natI l) ∧ Below w.heap.size w w'
theorem own_nums {w : World} {B : Nat} {v : Value} {l : List Int} (h : w.ownsRow B 3 1 v l.length (numC l)) : ∃ s c, v = .slice s l.length c ∧ NumsIn w s l := by
  rcases h.2 with ⟨hv, h0⟩ | ⟨g, cap, cur, hv, hBg, hg, hnc, hcm, hcs, htake⟩
  · exact ⟨none, 0, by rw [hv, h0], fun h1 => by omega⟩
  · refine ⟨_, cap, hv, fun _ => ⟨g, 0, rfl, lt_block hg, fun i hi => ?_⟩⟩
    have := h.cells (g := g) (by rw [hv]; rfl) i (.int .i64 l[i]) (by simp [numC, hi])
    rwa [add_at] at this

set_option maxRecDepth 100000 in
set_option maxHeartbeats 4000000 in
theorem walk_any {l : List Nd} {root : Int} (P : ProgOk l root) (nv : Value) (a : Nat) (w : World) (hn : NdsV w nv l) (ha : a < l.length) (hf : ∀ x ∈ l, NdFit x) :
    Calls Tryz.prog 16 #[.agg #[nv, .int .i64 root], .int .i64 (a : Nat)] w fun e w' => ∃ v, e = .returned v ∧ SeenV w w' v (walkS l a) := by
  have hP := P.long
  obtain ⟨W0, hW0⟩ : ∃ W0, W0 = w.alloc (.cells #[nv, .int .i64 root] 24) := ⟨_, rfl⟩
  have HB0 : Hid (Below w.heap.size w W0) := Lib.hid (by rw [hW0]; exact (Below.refl _ _).alloc (Nat.le_refl _) _)
  have HS0 : Hid (W0.heap.size = w.heap.size + 1) := Lib.hid (by rw [hW0]; simp)
  have HI : Hid (WkInv W0 (W0.alloc (.cells #[nv, .slice none 0 0] 72)) (w.heap.size + 1) nv [] (.slice none 0 0)) := Lib.hid (by
    rw [← HS0.out]
    exact ⟨(Below.refl _ _).alloc (Nat.le_refl _) _, Bx.new 72 W0 _, World.ownsRow_nil _ _ _ _⟩)
  have HC := Lib.hid (from_any P W0 (w.heap.size + 1) nv (hn.step HB0.out) (by rw [HS0.out]; exact Nat.le_refl _) a ha [] (.slice none 0 0) _ HI.out (by simpa using walk_once P a ha) (fun x hx => by cases hx) hf)
  have HW0 := Lib.hid hW0
  obtain ⟨src, cap, rfl, -⟩ := hn
  have q1 : decide ((16384 : Int) < (l.length : Int)) = false := decide_eq_false (by omega)
  have q1n : decide (16384 < l.length) = false := decide_eq_false (by omega)
  clear hW0 hf ha hP
  go_enter Tryz.func16, Tryz.ntmps16
  go_wp2_with fail
  rw [← HW0.out]
  refine HC.out.mono ?_
  rintro e w1 ⟨rfl, sv, h1⟩
  have H1 := Lib.hid h1
  rw [List.nil_append] at H1
  have d1 := h1.box.cell 1
  simp only [List.getElem?_cons_zero, List.getElem?_cons_succ] at d1
  obtain ⟨s, c, hsv, hnum⟩ := own_nums (B := w.heap.size + 1) (l := natI (walkS l a)) (v := sv) (w := w1) (by rw [natI_len]; exact H1.out.own)
  rw [natI_len] at hsv
  subst hsv
  have HN := Lib.hid hnum
  clear h1 hnum HC
  go_wp2_with fail
  go_ret
  exact ⟨_, rfl, s, c, rfl, HN.out, HB0.out.trans (H1.out.bel.mono (by omega))⟩
set_option maxRecDepth 100000 in
set_option maxHeartbeats 4000000 in
theorem walk_out (src : Option Addr) (n cap : Nat) (root a : Int) (w : World) (hn : n ≤ 16384) (h : a < 0 ∨ (n : Int) ≤ a) :
    Calls Tryz.prog 16 #[.agg #[.slice src n cap, .int .i64 root], .int .i64 a] w fun e w' => e = .returned (.slice none 0 0) ∧ Below w.heap.size w w' := by
  have q1 : decide ((16384 : Int) < (n : Int)) = false := decide_eq_false (by omega)
  have q1n : decide (16384 < n) = false := decide_eq_false (by omega)
  have HC := Lib.hid (fun (b : Nat) (w : World) (h2 : w.cell? ⟨b, 0, none⟩ = some (.slice src n cap)) => from_out a n b cap src w h h2)
  clear h
  go_enter Tryz.func16, Tryz.ntmps16
  go_wp2_with fail
  refine (HC.out _ _ (by simp [go_sem])).mono ?_
  rintro e w1 ⟨rfl, m, rfl⟩
  go_wp2_with fail
  go_ret
  exact ⟨rfl, below_drewN (by repeat (first | exact Below.refl _ _ | apply Below.setCell _ (by first | omega | (simp <;> omega)) | apply Below.alloc _ (by first | omega | (simp <;> omega)))) m⟩
end Go.Proofs.YtfalgnapghienaaGreatDoor
