/- GraphAdds: a graph, and beside it the list of its edges. -/
import Derived.Test.YtkhgpflpbdakoaaGrN
namespace Go.Proofs.Ytkhgpflpbdakoaa
open Go Go.RowKit
set_option linter.unusedVariables false
set_option linter.unusedSimpArgs false

/-- a graph at a block; a row beside it; no block of the graph is at top or behind -/
def AI (w wr : World) (B n g top : Nat) (L : List Eg) (T : TypeId) (La : List Eg) (av : Value) : Prop :=
  ∃ S : GrS, S.g = g ∧ GrM wr B n L S ∧ wr.ownsRow B T 4 av La.length (flatG La) ∧ (∀ k, av.ownBlock = some k → ¬ S.own k) ∧ Below w.heap.size w wr ∧ w.heap.size ≤ B ∧ B ≤ wr.heap.size ∧ ∀ k, S.own k → k < top
theorem AI.step {w wr wx : World} {B n g top : Nat} {L : List Eg} {T : TypeId} {La : List Eg} {av : Value} (h : AI w wr B n g top L T La av) (hb : Below wr.heap.size wr wx) : AI w wx B n g top L T La av := by
  obtain ⟨S, h1, h2, h3, h4, h5, h6, h7, h8⟩ := h
  exact ⟨S, h1, h2.step hb, ownsRow_step h3 hb, h4, after h5 hb, h6, Nat.le_trans h7 hb.size, h8⟩
theorem AI.tops {w wr : World} {B n g top : Nat} {L : List Eg} {T : TypeId} {La : List Eg} {av : Value} (h : AI w wr B n g top L T La av) : AI w wr B n g wr.heap.size L T La av := by
  obtain ⟨S, h1, h2, h3, h4, h5, h6, h7, h8⟩ := h
  exact ⟨S, h1, h2, h3, h4, h5, h6, h7, fun k hk => h2.own_lt hk⟩
theorem AI.new {w w1 w2 : World} {n : Nat} {S : GrS} (h1 : Below w.heap.size w w1) (h2 : Below w1.heap.size w1 w2) (h : GrM w2 w1.heap.size n [] S) (T : TypeId) : AI w w2 w1.heap.size n S.g w2.heap.size [] T [] (.slice none 0 0) :=
  ⟨S, rfl, h, World.ownsRow_nil _ _ _ _, fun k hk => (by cases hk), after h1 h2, h1.size, h2.size, fun k hk => h.own_lt hk⟩
theorem AI.bel {w wr : World} {B n g top : Nat} {L : List Eg} {T : TypeId} {La : List Eg} {av : Value} (h : AI w wr B n g top L T La av) : Below w.heap.size w wr := by
  obtain ⟨S, h1, h2, h3, h4, h5, h6, h7, h8⟩ := h
  exact h5
theorem AI.range {w wr : World} {B n g top : Nat} {L : List Eg} {T : TypeId} {La : List Eg} {av : Value} (h : AI w wr B n g top L T La av) (e : Eg) (he : EgIn e) (h1 : ¬ okE n e) :
    Calls Try.prog 10 #[(.pointer (some ⟨g, 0, none⟩)), .agg #[.int .i64 e.1, .int .i64 e.2.1, .int .i64 e.2.2.1, .int .i64 e.2.2.2]] wr fun x w' => x = .returned (.int .i64 1) ∧ Below wr.heap.size wr w' := by
  obtain ⟨S, rfl, h2, h3, h4, h5, h6, h7, h8⟩ := h
  exact add_range h2 e he h1
theorem AI.twice {w wr : World} {B n g top : Nat} {L : List Eg} {T : TypeId} {La : List Eg} {av : Value} (h : AI w wr B n g top L T La av) (e : Eg) (he : EgIn e) (h1 : okE n e) (hm : e ∈ L) :
    Calls Try.prog 10 #[(.pointer (some ⟨g, 0, none⟩)), .agg #[.int .i64 e.1, .int .i64 e.2.1, .int .i64 e.2.2.1, .int .i64 e.2.2.2]] wr fun x w' => x = .returned (.int .i64 4) ∧ Below wr.heap.size wr w' := by
  obtain ⟨S, rfl, h2, h3, h4, h5, h6, h7, h8⟩ := h
  exact add_twice h2 e he h1 hm
theorem AI.fresh {w wr : World} {B n g top : Nat} {L : List Eg} {T : TypeId} {La : List Eg} {av : Value} (h : AI w wr B n g top L T La av) (e : Eg) (he : EgIn e) (h1 : okE n e) (hm : e ∉ L) (hl : L.length < 16384) :
    Calls Try.prog 10 #[(.pointer (some ⟨g, 0, none⟩)), .agg #[.int .i64 e.1, .int .i64 e.2.1, .int .i64 e.2.2.1, .int .i64 e.2.2.2]] wr fun x w' => x = .returned (.int .i64 0) ∧ AI w w' B n g w'.heap.size (L ++ [e]) T La av ∧ ∀ k, top ≤ k → k < wr.heap.size → w'.heap[k]? = wr.heap[k]? := by
  obtain ⟨S, rfl, h2, h3, h4, h5, h6, h7, h8⟩ := h
  refine (add_new h2 e he h1 hm hl h7).mono ?_
  rintro x w' ⟨rfl, S', hg, hG, hc, ho⟩
  refine ⟨rfl, ⟨S', hg, hG, ?_, ?_, ?_, h6, Nat.le_trans h7 hc.1.size, fun k hk => hG.own_lt hk⟩, fun k hk hkl => hc.2 k hkl (fun q => by have := h8 k q; omega)⟩
  · exact row_at h3 hc.1.size (fun k hk => hc.2 k (row_lt h3 hk) (h4 k hk))
  · intro k hk q
    rcases ho k q with q | q
    · exact h4 k hk q
    · have := row_lt h3 hk
      omega
  · exact h5.trans (hc.1.mono h6)
/-- the row's append, beside -/
theorem AI.push {w wr w9 : World} {B n g top : Nat} {L : List Eg} {T : TypeId} {La : List Eg} {av v9 : Value} {e : Eg} {o : Obj} (h : AI w wr B n g top L T La av)
    (hown : w9.ownsRow B T 4 v9 (La.length + 1) (flatG La ++ egC e)) (hgr : (wr.alloc o).grownBy w9 av.ownBlock) (hat : v9.ownBlock = av.ownBlock ∨ v9.ownBlock = some (wr.alloc o).heap.size) : AI w w9 B n g w9.heap.size L T (La ++ [e]) v9 := by
  obtain ⟨S, h1, h2, h3, h4, h5, h6, h7, h8⟩ := h
  have ha : Below wr.heap.size wr (wr.alloc o) := by repeat (first | exact Below.refl _ _ | apply Below.setCell _ (by first | omega | (simp <;> omega)) | apply Below.alloc _ (by first | omega | (simp <;> omega)))
  have hz : wr.heap.size ≤ w9.heap.size := Nat.le_trans ha.size hgr.size
  have hG : GrM w9 B n L S := h2.kept hz (fun k hk => (hgr.block k (Nat.lt_of_lt_of_le (h2.own_lt hk) ha.size) (fun q => h4 k q.symm hk)).trans (ha.block k (h2.own_lt hk)))
  refine ⟨S, h1, hG, ?_, ?_, ?_, h6, Nat.le_trans h7 hz, fun k hk => hG.own_lt hk⟩
  · rw [List.length_append]
    have : flatG (La ++ [e]) = flatG La ++ egC e := by unfold flatG; rw [List.flatMap_append]; simp
    rw [this]
    exact hown
  · intro k hk q
    rcases hat with q2 | q2
    · exact h4 k (by rw [← q2]; exact hk) q
    · have h9 := h2.own_lt q
      rw [q2] at hk
      cases hk
      have := ha.size
      omega
  · have h9 := after h5 ha
    exact ⟨hgr.os.trans h9.os, hgr.tape.trans h9.tape, hgr.output.trans h9.output, Nat.le_trans h9.size hgr.size, fun k hk => (hgr.block k (Nat.lt_of_lt_of_le hk h9.size) (fun q => by have := row_base h3 q.symm; omega)).trans (h9.block k hk)⟩
theorem AI.row {w wr : World} {B n g top : Nat} {L : List Eg} {T : TypeId} {La : List Eg} {av : Value} (h : AI w wr B n g top L T La av) : wr.ownsRow B T 4 av La.length (flatG La) ∧ B ≤ wr.heap.size := by
  obtain ⟨S, h1, h2, h3, h4, h5, h6, h7, h8⟩ := h
  exact ⟨h3, h7⟩
theorem AI.graph {w wr : World} {B n g top : Nat} {L : List Eg} {T : TypeId} {La : List Eg} {av : Value} (h : AI w wr B n g top L T La av) : ∃ S, S.g = g ∧ GrM wr B n L S := by
  obtain ⟨S, h1, h2, h3, h4, h5, h6, h7, h8⟩ := h
  exact ⟨S, h1, h2⟩

theorem want_range {n : Nat} {A : List Eg} {e : Eg} (h : ¬ okE n e) : wantP n A e = 1 := by unfold wantP; rw [if_pos h]
theorem want_mem {n : Nat} {A : List Eg} {e : Eg} (h : okE n e) (hm : e ∈ A) : wantP n A e = 4 := by unfold wantP; rw [if_neg (fun q => q h), if_pos hm]
theorem want_new {n : Nat} {A : List Eg} {e : Eg} (h : okE n e) (hm : e ∉ A) : wantP n A e = 0 := by unfold wantP; rw [if_neg (fun q => q h), if_neg hm]
open Classical in
theorem want_next {n : Nat} {A : List Eg} {e : Eg} {j : Nat} (hj : j < A.length) : wantP n (A.take (j + 1)) e = if e = A[j] ∧ wantP n (A.take j) e = 0 then 4 else wantP n (A.take j) e := by
  rw [List.take_succ_eq_append_getElem hj]
  by_cases h : okE n e
  · by_cases hm : e ∈ A.take j
    · rw [want_mem h (List.mem_append_left _ hm), want_mem h hm, if_neg (by intro q; cases q.2)]
    · by_cases he : e = A[j]
      · rw [want_mem h (List.mem_append_right _ (by rw [← he]; simp)), want_new h hm, if_pos ⟨he, rfl⟩]
      · rw [want_new h hm, if_neg (fun q => he q.1), want_new h]
        intro q
        rcases List.mem_append.1 q with q | q
        · exact hm q
        · exact he (List.mem_singleton.1 q)
  · rw [want_range h, want_range h, if_neg (by intro q; cases q.2)]
open Classical in
theorem want_start {n : Nat} {A : List Eg} {e : Eg} : wantP n (A.take 0) e = if okE n e then 0 else 1 := by
  by_cases h : okE n e
  · rw [if_pos h, List.take_zero, want_new h (by simp)]
  · rw [if_neg h, want_range h]
end Go.Proofs.Ytkhgpflpbdakoaa
