/- Graphs in memory: keys, a graph's blocks. -/
import Derived.Test.YtkhgpflpbdakoaaGrA
namespace Go.Proofs.Ytkhgpflpbdakoaa
open Go Go.RowKit
open Go.Maps (Keyed)
set_option linter.unusedVariables false
set_option linter.unusedSimpArgs false

theorem int_key {z : Int} (h : In64 z) : ∃ kl, keyOf Try.prog 3 (.int .i64 z) = some kl := ⟨_, Maps.keyOf_int_mk Try.underlying3 (in_wf h)⟩
theorem litsI (n : Nat) {z : Int} (h : In64 z) : Try.prog.keyLits (n + 1) 3 [.int .i64 z] = some [.int .i64 z] := by
  unfold Program.keyLits
  rw [Try.underlying3]
  simp [in_wf h]
theorem egA_lits (n : Nat) (x : Eg) (h : EgIn x) : Try.prog.keyLits (n + 2) 29 (egC x) = some [.int .i64 x.1, .int .i64 x.2.1, .int .i64 x.2.2.1, .int .i64 x.2.2.2] := by
  obtain ⟨h0, h1, h2, h3⟩ := h
  have hc : Try.prog.cellsOf 29 = 4 := by kernel_rfl
  have hi : Try.prog.cellsOf 3 = 1 := by kernel_rfl
  unfold Program.keyLits
  rw [Try.underlying29]
  simp only [egC]
  simp [hc, hi, litsI n h0, litsI n h1, litsI n h2, litsI n h3]
theorem egA_key {x : Eg} (h : EgIn x) : ∃ kl, keyOf Try.prog 29 (egA x) = some kl := by
  have hk : Try.prog.keyType 29 = true := by kernel_rfl
  have hf : (egA x).formed Try.prog 29 = true := by
    unfold Value.formed egA
    rw [Try.underlying29]
    rfl
  have hs : 1 ≤ Try.prog.types.size := of_decide_eq_true (by kernel_rfl)
  obtain ⟨m, hm⟩ : ∃ m, Try.prog.types.size + 1 = m + 2 := ⟨Try.prog.types.size - 1, by omega⟩
  have hl := egA_lits m x h
  unfold keyOf
  rw [Try.underlying29]
  simp only [hk, hf, Bool.and_self, if_true, hm]
  have hv : (egA x).cells.toList = egC x := rfl
  rw [hv, hl]
  exact ⟨_, rfl⟩

/-- the numbers of the edges that come from a node -/
def idx (L : List Eg) (z : Int) : List Nat := (List.range L.length).filter (fun i => (L.map (·.1))[i]? == some z)
theorem idx_add (L : List Eg) (e : Eg) (z : Int) : idx (L ++ [e]) z = idx L z ++ (if e.1 = z then [L.length] else []) := by
  unfold idx
  rw [List.length_append, List.length_singleton, List.range_succ, List.filter_append]
  congr 1
  · apply List.filter_congr
    intro i hi
    rw [List.mem_range] at hi
    rw [List.map_append, List.getElem?_append_left (by simpa using hi)]
  · simp only [List.filter_cons, List.filter_nil, List.map_append, List.map_cons, List.map_nil]
    rw [List.getElem?_append_right (by simp)]
    by_cases h : e.1 = z
    · simp [h]
    · simp [h]
theorem idx_nil (z : Int) : idx [] z = [] := rfl
theorem idx_lt {L : List Eg} {z : Int} {i : Nat} (h : i ∈ idx L z) : ∃ hi : i < L.length, L[i].1 = z := by
  unfold idx at h
  rw [List.mem_filter, List.mem_range] at h
  refine ⟨h.1, ?_⟩
  have := h.2
  rw [List.getElem?_eq_getElem (by simpa using h.1)] at this
  simpa using this
theorem idx_mem {L : List Eg} {i : Nat} (h : i < L.length) : i ∈ idx L L[i].1 := by
  unfold idx
  rw [List.mem_filter, List.mem_range]
  refine ⟨h, ?_⟩
  rw [List.getElem?_eq_getElem (by simpa using h)]
  simp
theorem idx_len (L : List Eg) (z : Int) : (idx L z).length ≤ L.length := by
  unfold idx
  have := List.length_filter_le (fun i => (L.map (·.1))[i]? == some z) (List.range L.length)
  simpa using this

/-- whole numbers as cells -/
def natC (l : List Nat) : List Value := l.map fun (i : Nat) => .int .i64 (i : Int)
open Classical in
/-- which edges are there -/
noncomputable def setF (L : List Eg) : Value → Option Value := fun v => if ∃ e ∈ L, v = egA e then some (.agg #[]) else none
theorem setF_yes {L : List Eg} {e : Eg} (h : e ∈ L) : setF L (egA e) = some (.agg #[]) := by unfold setF; rw [if_pos ⟨e, h, rfl⟩]
theorem setF_no {L : List Eg} {e : Eg} (h : e ∉ L) : setF L (egA e) = none := by
  unfold setF
  rw [if_neg]
  rintro ⟨x, hx, hq⟩
  rw [egA_inj hq] at h
  exact h hx
theorem setF_add (L : List Eg) (e : Eg) : putF (setF L) (egA e) (.agg #[]) = setF (L ++ [e]) := by
  funext v
  by_cases h : v = egA e
  · rw [h, putF_same, setF_yes (by simp)]
  · rw [putF_other _ _ _ h]
    unfold setF
    have : (∃ x ∈ L, v = egA x) ↔ ∃ x ∈ L ++ [e], v = egA x := by
      constructor
      · rintro ⟨x, hx, hq⟩; exact ⟨x, by simp [hx], hq⟩
      · rintro ⟨x, hx, hq⟩
        rw [List.mem_append, List.mem_singleton] at hx
        rcases hx with hx | rfl
        · exact ⟨x, hx, hq⟩
        · exact absurd hq h
    by_cases c : ∃ x ∈ L, v = egA x
    · rw [if_pos c, if_pos (this.1 c)]
    · rw [if_neg c, if_neg (fun q => c (this.2 q))]

/-- where a graph's parts lie: its box, its two maps; the slice of its edges; the slices of the numbers -/
structure GrS where
  g : Nat
  mo : Nat
  mt : Nat
  ev : Value
  f : Value → Option Value
/-- does a block belong to a graph? -/
def GrS.own (S : GrS) (k : Nat) : Prop := k = S.g ∨ k = S.mo ∨ k = S.mt ∨ S.ev.ownBlock = some k ∨ ∃ z v, S.f (.int .i64 z) = some v ∧ v.ownBlock = some k
/-- a graph in memory: n nodes; the edges as its row has them, as the numbers do, as the set does -/
structure GrP (w : World) (B n : Nat) (L Lo Lt : List Eg) (S : GrS) : Prop where
  bg : B ≤ S.g
  bo : B ≤ S.mo
  bt : B ≤ S.mt
  not : S.mo ≠ S.mt
  box : Bx 57 w S.g [.int .i64 n, S.ev, .map (some S.mo), .map (some S.mt)]
  es : w.ownsRow B 29 4 S.ev L.length (flatG L)
  out : MapIs Try.prog 3 w S.mo Lo.length S.f
  there : MapIs Try.prog 29 w S.mt Lt.length (setF Lt)
  rows : ∀ z v, S.f (.int .i64 z) = some v → w.ownsRow B 3 1 v (idx Lo z).length (natC (idx Lo z))
  rows0 : ∀ z, S.f (.int .i64 z) = none → idx Lo z = []
  apart : ∀ y z u v, S.f (.int .i64 y) = some u → S.f (.int .i64 z) = some v → y ≠ z → u.ownBlock = none ∨ u.ownBlock ≠ v.ownBlock
  inn : ∀ e ∈ L, EgIn e
/-- .. the same ones -/
abbrev GrM (w : World) (B n : Nat) (L : List Eg) (S : GrS) : Prop := GrP w B n L L L S
theorem GrP.step {w w' : World} {B n : Nat} {L Lo Lt : List Eg} {S : GrS} (h : GrP w B n L Lo Lt S) (hb : Below w.heap.size w w') : GrP w' B n L Lo Lt S :=
  ⟨h.bg, h.bo, h.bt, h.not, h.box.keep hb, ownsRow_step h.es hb, h.out.keep hb, h.there.keep hb, fun z v hv => ownsRow_step (h.rows z v hv) hb, h.rows0, h.apart, h.inn⟩
/-- a row stays while its own block does -/
theorem row_at {w w' : World} {B : Nat} {e : TypeId} {s : Nat} {v : Value} {n : Nat} {xs : List Value} (h : w.ownsRow B e s v n xs) (hz : w.heap.size ≤ w'.heap.size) (hk : ∀ k, v.ownBlock = some k → w'.heap[k]? = w.heap[k]?) : w'.ownsRow B e s v n xs := by
  obtain ⟨h1, h2⟩ := h
  refine ⟨h1, ?_⟩
  rcases h2 with h2 | ⟨g, cap, cur, hv, hg, hh, r⟩
  · exact Or.inl h2
  · exact Or.inr ⟨g, cap, cur, hv, hg, (hk g (by rw [hv]; rfl)).trans hh, r⟩
theorem GrP.kept {w w' : World} {B n : Nat} {L Lo Lt : List Eg} {S : GrS} (h : GrP w B n L Lo Lt S) (hz : w.heap.size ≤ w'.heap.size) (hk : ∀ k, S.own k → w'.heap[k]? = w.heap[k]?) : GrP w' B n L Lo Lt S :=
  ⟨h.bg, h.bo, h.bt, h.not, h.box.at_ (k := S.g) (hk _ (.inl rfl)), row_at h.es hz (fun k q => hk k (.inr (.inr (.inr (.inl q))))), h.out.at_ (hk _ (.inr (.inl rfl))), h.there.at_ (hk _ (.inr (.inr (.inl rfl)))),
    fun z v hv => row_at (h.rows z v hv) hz (fun k q => hk k (.inr (.inr (.inr (.inr ⟨z, v, hv, q⟩))))), h.rows0, h.apart, h.inn⟩
theorem row_lt {w : World} {B : Nat} {e : TypeId} {s : Nat} {v : Value} {n : Nat} {xs : List Value} (h : w.ownsRow B e s v n xs) {k : Nat} (hk : v.ownBlock = some k) : k < w.heap.size := by
  rcases h.2 with ⟨rfl, _⟩ | ⟨g, cap, cur, rfl, _, hg, _⟩
  · cases hk
  · cases hk
    exact lt_block hg
theorem row_base {w : World} {B : Nat} {e : TypeId} {s : Nat} {v : Value} {n : Nat} {xs : List Value} (h : w.ownsRow B e s v n xs) {k : Nat} (hk : v.ownBlock = some k) : B ≤ k := by
  rcases h.2 with ⟨rfl, _⟩ | ⟨g, cap, cur, rfl, hB, _⟩
  · cases hk
  · cases hk
    exact hB
theorem GrP.own_lt {w : World} {B n : Nat} {L Lo Lt : List Eg} {S : GrS} (h : GrP w B n L Lo Lt S) {k : Nat} (hk : S.own k) : k < w.heap.size := by
  rcases hk with rfl | rfl | rfl | q | ⟨z, v, hv, q⟩
  · exact h.box.lt
  · exact h.out.lt
  · exact h.there.lt
  · exact row_lt h.es q
  · exact row_lt (h.rows z v hv) q
theorem GrP.own_base {w : World} {B n : Nat} {L Lo Lt : List Eg} {S : GrS} (h : GrP w B n L Lo Lt S) {k : Nat} (hk : S.own k) : B ≤ k := by
  rcases hk with rfl | rfl | rfl | q | ⟨z, v, hv, q⟩
  · exact h.bg
  · exact h.bo
  · exact h.bt
  · exact row_base h.es q
  · exact row_base (h.rows z v hv) q
end Go.Proofs.Ytkhgpflpbdakoaa
