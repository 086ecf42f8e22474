/- Contract of the statements' own example. -/
import Derived.Test.YtfkcjnlhindhfaaHpJ
namespace Go.Proofs.Ytfkcjnlhindhfaa
open Go Go.RowKit
set_option linter.unusedVariables false
set_option linter.unusedSimpArgs false

/-- a heap and values in boxes -/
structure KS (w0 W : World) (l : List (Nat × Vl)) (L : List ThR) (n : Nat) (v : Value) : Prop where
  bel : Below w0.heap.size w0 W
  hp : HpM W w0.heap.size w0.heap.size L n v
  box : ∀ x ∈ l, Bx 32 W x.1 (vC x.2)
theorem KS.step {w0 W W' : World} {l : List (Nat × Vl)} {L : List ThR} {n : Nat} {v : Value} (h : KS w0 W l L n v) (hb : Below W.heap.size W W') : KS w0 W' l L n v :=
  ⟨h.bel.trans (hb.mono h.bel.size), h.hp.step hb, fun x hx => (h.box x hx).keep hb⟩
theorem KS.new {w0 W : World} {l : List (Nat × Vl)} {L : List ThR} {n : Nat} {v : Value} (h : KS w0 W l L n v) (x : Vl) : KS w0 (W.alloc (.cells (vC x).toArray 32)) ((W.heap.size, x) :: l) L n v := by
  have hb : Below W.heap.size W (W.alloc (.cells (vC x).toArray 32)) := (Below.refl _ _).alloc (Nat.le_refl _) _
  have h2 := h.step hb
  refine ⟨h2.bel, h2.hp, fun y hy => ?_⟩
  rcases List.mem_cons.1 hy with rfl | hy
  · exact Bx.new 32 W (vC x).toArray
  · exact h2.box y hy
theorem KS.three {w0 W : World} {l : List (Nat × Vl)} {L : List ThR} {n : Nat} {v : Value} (h : KS w0 W l L n v) {p : Nat} {x : Vl} (hx : (p, x) ∈ l) : W.cell? ⟨p, 0, none⟩ = some (.int .i64 x.1) ∧ W.cell? ⟨p, 1, none⟩ = some (.int .i64 x.2.1) ∧ W.cell? ⟨p, 2, none⟩ = some (.string x.2.2) ∧ p < W.heap.size :=
  have := (h.box _ hx).three
  ⟨this.1, this.2.1, this.2.2.1, this.2.2.2.1⟩
theorem KS.made {w0 W W' : World} {l : List (Nat × Vl)} {L : List ThR} {n : Nat} {v : Value} {t : Th} {e : Ending} (h : KS w0 W l L n v) (hl : ∀ x ∈ l, x.1 ≠ w0.heap.size) (hm : MadeH W w0.heap.size w0.heap.size L n t e W') : ∃ g v', KS w0 W' l (L ++ [(t, g)]) (n + t.vs.length) v' ∧ W.heap.size ≤ g := by
  obtain ⟨-, h1, ⟨g, v', h2, h3⟩, h4⟩ := hm
  exact ⟨g, v', ⟨h.bel.trans h1, h2, fun x hx => h4.bx (h.box x hx) (by decide) (hl x hx)⟩, h3⟩
theorem KS.stored {w0 W W' : World} {l : List (Nat × Vl)} {L : List ThR} {n : Nat} {v : Value} {i : Nat} {hi : i < L.length} {j : Nat} {x : Vl} {e : Ending} (h : KS w0 W l L n v) (hl : ∀ y ∈ l, y.1 ≠ L[i].2) (hm : StoreH W w0.heap.size w0.heap.size L n v i hi j x e W') : KS w0 W' l (L.set i (setT L[i] j x)) n v := by
  obtain ⟨-, h1, h2, h4⟩ := hm
  exact ⟨h.bel.trans h1, h2, fun y hy => (h.box y hy).at_ (k := 0) (h4 _ (h.box y hy).lt (hl y hy))⟩


def kTys : List Ty4 := [(1, ⟨#[]⟩, 0, ⟨#[32]⟩), (5, ⟨#[65]⟩, 0, ⟨#[32]⟩)]
theorem kTys_empty : kTys.map emptyT = [(1, 0, ⟨#[]⟩), (7, 0, ⟨#[]⟩)] := by decide +kernel
theorem kArr_empty : List.replicate 3 (emptyV 2 0 ⟨#[32]⟩) = [(2, 0, ⟨#[]⟩), (2, 0, ⟨#[]⟩), (2, 0, ⟨#[]⟩)] := by decide +kernel
def kA : Th := ⟨false, ⟨#[65]⟩, (0, ⟨#[]⟩, 0, ⟨#[]⟩), [(1, 0, ⟨#[]⟩), (7, 0, ⟨#[]⟩)]⟩
def kA2 : Th := ⟨false, ⟨#[65]⟩, (0, ⟨#[]⟩, 0, ⟨#[]⟩), [(1, 0, ⟨#[]⟩), (5, 1, ⟨#[]⟩)]⟩
def kB : Th := ⟨true, ⟨#[]⟩, (2, ⟨#[]⟩, 0, ⟨#[32]⟩), [(2, 0, ⟨#[]⟩), (2, 0, ⟨#[]⟩), (2, 0, ⟨#[]⟩)]⟩
theorem field_n (x : Vl) (w : World) : (Instr.field 32 (vA x) 1).run Try.prog w = .ok (.int .i64 x.2.1) w := by kernel_rfl
theorem field_s (x : Vl) (w : World) : (Instr.field 32 (vA x) 2).run Try.prog w = .ok (.string x.2.2) w := by kernel_rfl

theorem kTys_sizes : ∀ t ∈ kTys, t.2.2.2.size ≤ 9223372036854775807 := by
  intro t ht
  unfold kTys at ht
  simp only [List.mem_cons, List.not_mem_nil, or_false] at ht
  rcases ht with rfl | rfl <;> exact Nat.le_of_ble_eq_true rfl
theorem kTys_in (W : World) : TysIn (W.alloc (.cells #[.int .i64 1, .string ⟨#[]⟩, .int .i64 0, .string ⟨#[32]⟩, .int .i64 5, .string ⟨#[65]⟩, .int .i64 0, .string ⟨#[32]⟩] 30)) (some ⟨W.heap.size, 0, none⟩) kTys := fun h0 => ⟨_, _, rfl, by simp, fun i hi => by
  have h : i = 0 ∨ i = 1 := by unfold kTys at hi; simp at hi; omega
  rcases h with rfl | rfl <;> simp [kTys, go_sem]⟩
theorem keeps_object (w W : World) (hk : KS w W [] [] 0 (.slice none 0 0)) : Calls Try.prog 6 #[.pointer (some ⟨w.heap.size, 0, none⟩), .string ⟨#[65]⟩, .slice (some ⟨W.heap.size, 0, none⟩) 2 2] (W.alloc (.cells #[.int .i64 1, .string ⟨#[]⟩, .int .i64 0, .string ⟨#[32]⟩, .int .i64 5, .string ⟨#[65]⟩, .int .i64 0, .string ⟨#[32]⟩] 30))
    fun e w' => e = .returned (.tuple #[.agg #[.int .i64 5, .int .i64 0, .string ⟨#[]⟩], .int .i64 0]) ∧ ∃ g v', KS w w' [] [(kA, g)] 2 v' := by
  have h := object_yes w.heap.size w.heap.size 0 [] (.slice none 0 0) ⟨#[65]⟩ (some ⟨W.heap.size, 0, none⟩) kTys 2 (W.alloc (.cells #[.int .i64 1, .string ⟨#[]⟩, .int .i64 0, .string ⟨#[32]⟩, .int .i64 5, .string ⟨#[65]⟩, .int .i64 0, .string ⟨#[32]⟩] 30)) (hk.step ((Below.refl _ _).alloc (Nat.le_refl _) _)).hp (by have := hk.bel.size; simp; omega) (Nat.succ_pos _) (by unfold kTys; simp) (Nat.le_of_ble_eq_true rfl) (kTys_in W) kTys_sizes
  rw [kTys_empty] at h
  refine h.mono ?_
  rintro e w1 hm
  obtain ⟨g1, v1, hk1, hg1⟩ := (hk.step ((Below.refl _ _).alloc (Nat.le_refl _) (.cells #[.int .i64 1, .string ⟨#[]⟩, .int .i64 0, .string ⟨#[32]⟩, .int .i64 5, .string ⟨#[65]⟩, .int .i64 0, .string ⟨#[32]⟩] 30))).made (fun x hx => by cases hx) hm
  exact ⟨hm.1, g1, v1, hk1⟩
theorem keeps_array (w W : World) (g : Nat) (v : Value) (l : List (Nat × Vl)) (hl : ∀ x ∈ l, x.1 ≠ w.heap.size) (hk : KS w W l [(kA, g)] 2 v) : Calls Try.prog 9 #[.pointer (some ⟨w.heap.size, 0, none⟩), .agg #[.int .i64 2, .string ⟨#[]⟩, .int .i64 0, .string ⟨#[32]⟩], .int .i64 3] W
    fun e w' => e = .returned (.tuple #[.agg #[.int .i64 5, .int .i64 1, .string ⟨#[]⟩], .int .i64 0]) ∧ ∃ g' v', KS w w' l [(kA, g), (kB, g')] 5 v' := by
  have h := array_yes w.heap.size w.heap.size 2 [(kA, g)] v 2 ⟨#[]⟩ 0 ⟨#[32]⟩ 3 W hk.hp hk.bel.size (Nat.le_of_ble_eq_true rfl) (Nat.le_of_ble_eq_true rfl) (Nat.zero_le _) (Nat.le_of_ble_eq_true rfl)
  rw [kArr_empty] at h
  refine h.mono ?_
  rintro e w1 hm
  obtain ⟨g1, v1, hk1, hg1⟩ := hk.made hl hm
  exact ⟨hm.1, g1, v1, hk1⟩
theorem keeps_store (w W : World) (g g' : Nat) (v : Value) (l : List (Nat × Vl)) (hl : ∀ x ∈ l, x.1 ≠ g) (hk : KS w W l [(kA, g), (kB, g')] 5 v) : Calls Try.prog 11 #[.pointer (some ⟨w.heap.size, 0, none⟩), .agg #[.int .i64 5, .int .i64 0, .string ⟨#[]⟩], .int .i64 1, .agg #[.int .i64 5, .int .i64 1, .string ⟨#[]⟩]] W
    fun e w' => e = .returned (.int .i64 0) ∧ KS w w' l [(kA2, g), (kB, g')] 5 v := by
  have h := store_in w.heap.size w.heap.size 5 [(kA, g), (kB, g')] v 0 ⟨#[]⟩ 1 (5, 1, ⟨#[]⟩) W hk.hp hk.bel.size (Nat.succ_pos _) (Nat.le_of_ble_eq_true rfl) (Nat.zero_le _)
  refine h.mono ?_
  rintro e w1 hm
  exact ⟨hm.1, KS.stored (L := [(kA, g), (kB, g')]) (i := 0) (hi := Nat.succ_pos _) (j := 1) (x := (5, 1, ⟨#[]⟩)) hk hl hm⟩
end Go.Proofs.Ytfkcjnlhindhfaa
