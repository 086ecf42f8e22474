/- Two lists of spans behind one another in a new row; a row of noughts. -/
import Derived.Test.YtonohpbkbifhnaaGapsN
import Derived.Lib.SmallJoins
namespace Go.Proofs.Ytonohpbkbifhnaa
open Go Go.RowKit
set_option linter.unusedVariables false

theorem infoInt : (Try.prog.info? 3).map (fun i => (i.zero, i.size, i.bytes)) = some (some (.int .i64 0), 1, 8) := by kernel_rfl
/-- a row of noughts -/
theorem made_ints (m : Nat) (w : World) (hm : m ≤ 65537) :
    ∃ W1, (Instr.makeSlice 48 (.int .i64 (m : Int)) (.int .i64 (m : Int))).run Try.prog w = .ok (.slice (some ⟨w.heap.size, 0, none⟩) m m) W1 ∧ w.heap.size < W1.heap.size ∧
      Below w.heap.size w W1 ∧ (∀ j, j < m → W1.cell? ⟨w.heap.size, j, none⟩ = some (.int .i64 0)) ∧ (∀ j, W1.frozen? ⟨w.heap.size, j, none⟩ = false) := by
  obtain ⟨i0, hi, hz0, hz1, hz2⟩ := info_parts infoInt
  obtain ⟨W1, h1, h2, h3⟩ := run_makeSlice_full (P := Try.prog) w w.heap.size 48 3 i0 (.int .i64 0) 1 Try.underlying48 hi hz0 hz1 .i64 .i64 m (by omega) (by rw [hz2]; omega) (by unfold maxLen; omega) (Nat.le_refl _)
  refine ⟨W1, h1, (h2.lt _ rfl).2, Below.grown (Below.refl _ _) h3 (Nat.le_refl _) (fun j hj => by cases hj), fun j hj => ?_, fun j => h2.frozenAt j⟩
  rw [h2.cellAt j (by omega), show (Value.int .i64 0).cells = #[.int .i64 0] from rfl, toList_madeCells_one, List.getElem?_replicate, if_pos (by omega)]

/-- a list of spans as something to be appended: nil, or in memory -/
def SrcIs (w : World) (x : Value) (l : List (Int × Int)) : Prop :=
  (x = .slice none 0 0 ∧ l = []) ∨ ∃ a n cap, x = .slice (some a) n cap ∧ l.length = n ∧ ∀ j u, (flat l)[j]? = some u → w.cell? (a.add j) = some u
theorem SrcIs.at {w : World} {b off n cap : Nat} {l : List (Int × Int)} (hl : l.length = n) (h : SpanAt w b off l) : SrcIs w (.slice (some ⟨b, off, none⟩) n cap) l := .inr ⟨_, _, _, rfl, hl, h.src⟩
theorem SrcIs.row {w : World} {base : Nat} {v : Value} {g : List (Int × Int)} (h : w.ownsRow base 24 2 v g.length (flat g)) : SrcIs w v g := by
  rcases h.2 with ⟨h1, h2⟩ | ⟨b, cap, cur, h1, h2⟩
  · exact .inl ⟨h1, List.length_eq_zero_iff.1 h2⟩
  · exact .inr ⟨_, _, _, h1, rfl, h.cells (by rw [h1]; rfl)⟩
theorem SrcIs.grown {w w' : World} {x : Value} {l : List (Int × Int)} {row : Option Nat} (h : SrcIs w x l) (hg : w.grownBy w' row) (hne : ∀ b, x.ownBlock = some b → b < w.heap.size ∧ some b ≠ row) : SrcIs w' x l := by
  rcases h with h | ⟨a, n, cap, rfl, h2, h3⟩
  · exact .inl h
  · refine .inr ⟨a, n, cap, rfl, h2, fun j u hj => ?_⟩
    obtain ⟨q1, q2⟩ := hne a.block rfl
    rw [World.cell?_of_block (w := w) (by show w'.heap[(a.add j).block]? = _; have e : (a.add j).block = a.block := by unfold Addr.add; split <;> rfl
                                          rw [e]; exact hg.block _ q1 q2)]
    exact h3 j u hj

theorem append_one (W : World) (base : Nat) (v x : Value) (n : Nat) (xs : List Value) (l : List (Int × Int)) (hown : W.ownsRow base 24 2 v n xs) (hx : SrcIs W x l) (hb : base ≤ W.heap.size) (hs : n + l.length ≤ 1000000) :
    ∃ v' w', (Builtin.append_ #[36, 36] 36 #[v, x]).run Try.prog W = .ok v' w' ∧ w'.ownsRow base 24 2 v' (n + l.length) (xs ++ flat l) ∧ W.grownBy w' v.ownBlock ∧ (v' = .slice none 0 0 ↔ v = .slice none 0 0 ∧ l.length = 0) := by
  obtain ⟨i0, hi, hz0, hz1, hz2⟩ := info_parts infoSpan
  rcases hx with ⟨rfl, rfl⟩ | ⟨a, m, cap, rfl, hl, hc⟩
  · refine ⟨v, W, run_append_owned_none W base 36 36 24 i0 2 Try.underlying36 hi v n xs hown, ?_, ⟨rfl, rfl, rfl, Nat.le_refl _, fun _ _ _ => rfl⟩, by simp⟩
    simpa [flat] using hown
  · subst hl
    exact run_append_own W base 36 36 24 i0 (.agg #[.int .i64 0, .int .i64 0]) 2 16 Try.underlying36 hi hz0 hz1 hz2 rfl (by decide) v n xs hown a l.length cap (flat l) (flat_len l) hc (flat_one l)
      (by unfold maxLen; omega) (by omega) hb

/-- both behind one another, in a new row -/
theorem append_two (W1 : World) (x v : Value) (l g : List (Int × Int)) (hx : ∀ W, Below W1.heap.size W1 W → SrcIs W x l) (hv : SrcIs W1 v g) (hvb : ∀ b, v.ownBlock = some b → b < W1.heap.size) (hs : l.length + g.length ≤ 1000000) :
    ∃ va wa vb wb, (Builtin.append_ #[36, 36] 36 #[.slice (some ⟨W1.heap.size, 0, none⟩) 0 0, x]).run Try.prog (W1.alloc (.cells #[] 24)) = .ok va wa ∧
      (Builtin.append_ #[36, 36] 36 #[va, v]).run Try.prog wa = .ok vb wb ∧ Below W1.heap.size W1 wb ∧
      ∃ G cap', vb = .slice (some ⟨G, 0, none⟩) (l.length + g.length) cap' ∧ l.length + g.length ≤ cap' ∧ cap' ≤ maxLen ∧ W1.heap.size ≤ G ∧ G < wb.heap.size ∧ SpanAt wb G 0 (l ++ g) := by
  have o0 : (W1.alloc (.cells #[] 24)).ownsRow W1.heap.size 24 2 (.slice (some ⟨W1.heap.size, 0, none⟩) 0 0) 0 [] :=
    ⟨rfl, .inr ⟨W1.heap.size, 0, #[], rfl, Nat.le_refl _, by rw [← World.alloc_eq]; simp, Nat.le_refl _, Nat.zero_le _, rfl, rfl⟩⟩
  have gr0 : W1.grownBy (W1.alloc (.cells #[] 24)) none := 
    have b0 := (Below.refl W1.heap.size W1).alloc (Nat.le_refl _) (.cells #[] 24)
    ⟨b0.os, b0.tape, b0.output, b0.size, fun k hk _ => b0.block k hk⟩
  have sx : SrcIs (W1.alloc (.cells #[] 24)) x l := hx _ ((Below.refl _ _).alloc (Nat.le_refl _) _)
  obtain ⟨va, wa, ha, oa, ga, na⟩ := append_one _ _ _ x 0 [] l o0 sx (by simp) (by omega)
  have z1 : W1.heap.size < (W1.alloc (.cells #[] 24)).heap.size := by simp
  have sv : SrcIs wa v g := (hv.grown gr0 (fun b hb => ⟨hvb b hb, by simp⟩)).grown ga (fun b hb => ⟨by have := hvb b hb; omega, by
    have := hvb b hb
    simp [Value.ownBlock]; omega⟩)
  rw [Nat.zero_add, List.nil_append] at oa
  have bel_a : Below W1.heap.size W1 wa := Below.grown ((Below.refl _ _).alloc (Nat.le_refl _) _) ga (by omega) (fun j hj => by simp [Value.ownBlock] at hj; omega)
  obtain ⟨vb, wb, hbr, ob, gb, nb⟩ := append_one wa _ va v l.length (flat l) g oa sv bel_a.size hs
  have bel_b : Below W1.heap.size W1 wb := Below.grown bel_a gb bel_a.size (fun j hj => (oa.lt j hj).1)
  have hne : vb ≠ .slice none 0 0 := by
    intro h
    have h1 := nb.1 h
    have h2 := na.1 h1.1
    simp at h2
  rcases ob.2 with ⟨h1, h2⟩ | ⟨G, cap', cur, h1, h2, h3, h4, h5, h6, h7⟩
  · exact absurd h1 hne
  · refine ⟨va, wa, vb, wb, ha, hbr, bel_b, G, cap', h1, h4, h5, h2, (ob.lt G (by rw [h1]; rfl)).2, fun i hi => ?_⟩
    have hc := ob.cells (g := G) (by rw [h1]; rfl)
    rw [show flat l ++ flat g = flat (l ++ g) by simp [flat]] at hc
    have g0 := flat_get (l ++ g) (i * 2)
    have g1 := flat_get (l ++ g) (i * 2 + 1)
    rw [if_pos (by omega), show i * 2 / 2 = i by omega, List.getElem?_eq_getElem hi] at g0
    rw [if_neg (by omega), show (i * 2 + 1) / 2 = i by omega, List.getElem?_eq_getElem hi] at g1
    have c0 := hc _ _ g0
    have c1 := hc _ _ g1
    have e : ∀ j, (⟨G, 0, none⟩ : Addr).add j = ⟨G, 0 + j, none⟩ := fun j => by unfold Addr.add; by_cases h : j = 0 <;> simp [h]
    rw [e] at c0 c1
    exact ⟨c0, by rw [Nat.add_assoc]; exact c1⟩

end Go.Proofs.Ytonohpbkbifhnaa
