/- Rows of edits: made, copied; the list with the text's end behind it. -/
import Derived.Test.YtdhbcmbajbgblaaEditC
import Derived.Laws.OwnMore
import Derived.Laws.IdiomCopy
namespace Go.Proofs.Ytdhbcmbajbgblaa
open Go Go.RowKit
set_option linter.unusedVariables false

theorem infoEdit : (Try.prog.info? 27).map (fun i => (i.zero, i.size, i.bytes)) = some (some (.agg #[.int .i64 0, .int .i64 0, .string ⟨#[]⟩]), 3, 32) := by kernel_rfl

def flatE (l : List IEd) : List Value := l.flatMap fun x => [.int .i64 x.1, .int .i64 x.2.1, .string x.2.2]
theorem flatE_cons (x : IEd) (l : List IEd) : flatE (x :: l) = .int .i64 x.1 :: .int .i64 x.2.1 :: .string x.2.2 :: flatE l := by simp [flatE]
theorem flatE_len (l : List IEd) : (flatE l).length = l.length * 3 := by
  induction l with
  | nil => rfl
  | cons x l ih => rw [flatE_cons]; simp [ih]; omega
theorem flatE_get (l : List IEd) : ∀ i (h : i < l.length), (flatE l)[i * 3]? = some (.int .i64 l[i].1) ∧ (flatE l)[i * 3 + 1]? = some (.int .i64 l[i].2.1) ∧ (flatE l)[i * 3 + 2]? = some (.string l[i].2.2) := by
  induction l with
  | nil => intro i h; exact absurd h (by simp)
  | cons x l ih =>
    intro i h
    rw [flatE_cons]
    cases i with
    | zero => simp
    | succ i =>
      have := ih i (by simpa using h)
      rw [show (i + 1) * 3 = i * 3 + 3 by omega, show i * 3 + 3 + 1 = (i * 3 + 1) + 3 by omega, show i * 3 + 3 + 2 = (i * 3 + 2) + 3 by omega]
      simpa using this
theorem flatE_one (l : List IEd) : ∀ v ∈ flatE l, v.oneCell' = true := by
  intro v hv
  simp only [flatE, List.mem_flatMap] at hv
  obtain ⟨x, _, hx⟩ := hv
  simp at hx
  rcases hx with rfl | rfl | rfl <;> rfl
theorem add_at (b off j : Nat) : (⟨b, off, none⟩ : Addr).add j = ⟨b, off + j, none⟩ := by unfold Addr.add; by_cases h : j = 0 <;> simp [h]
theorem EditAt.src {w : World} {b off : Nat} {l : List IEd} (h : EditAt w b off l) : ∀ j v, (flatE l)[j]? = some v → w.cell? ((⟨b, off, none⟩ : Addr).add j) = some v := by
  intro j v hj
  rw [add_at]
  have hlt : j < l.length * 3 := by
    have := (List.getElem?_eq_some_iff.1 hj).1
    rwa [flatE_len] at this
  obtain ⟨c0, c1, c2⟩ := h (j / 3) (by omega)
  obtain ⟨f0, f1, f2⟩ := flatE_get l (j / 3) (by omega)
  have hr : j % 3 = 0 ∨ j % 3 = 1 ∨ j % 3 = 2 := by omega
  rcases hr with hr | hr | hr
  · have e : j / 3 * 3 = j := by omega
    rw [e] at c0 f0
    rw [c0]; rw [f0] at hj; exact hj
  · have e : j / 3 * 3 + 1 = j := by omega
    rw [e] at f1
    rw [show off + j / 3 * 3 + 1 = off + j by omega] at c1
    rw [c1]; rw [f1] at hj; exact hj
  · have e : j / 3 * 3 + 2 = j := by omega
    rw [e] at f2
    rw [show off + j / 3 * 3 + 2 = off + j by omega] at c2
    rw [c2]; rw [f2] at hj; exact hj

theorem run_copy_cells {P : Program} (sz : Nat) (w : World) (dT sT ty elem : TypeId) (b o dLen dCap : Nat) (a : Addr) (sLen sCap k : Nat) (cs : List Value)
    (hu : P.underlying dT = some (.slice elem)) (hs : (P.info? elem).map (·.size) = some sz) (hk : Nat.min sLen dLen = k) (hn : cs.length = k * sz)
    (hsrc : ∀ j v, cs[j]? = some v → w.cell? (a.add j) = some v) (hc : ∀ j, j < cs.length → (w.cell? ⟨b, o + j, none⟩).isSome = true) (hf : ∀ j, j < cs.length → w.frozen? ⟨b, o + j, none⟩ = false) (h1 : ∀ v ∈ cs, v.oneCell' = true) :
    (Builtin.copy_ #[dT, sT] ty #[.slice (some ⟨b, o, none⟩) dLen dCap, .slice (some a) sLen sCap]).run P w = .ok (goInt k) (w.setCells b o cs) := by
  have hl := run_loadCells_list (P := P) w a cs hsrc
  have hst := run_storeCells_cells (P := P) b o cs 0 w (by simpa using hc) (by simpa using hf) h1
  rw [hn] at hl
  cases hq : P.info? elem with
  | none => simp [hq] at hs
  | some i =>
    have hi : i.size = sz := by simpa [hq] using hs
    simp [Builtin.copy_, run_underlying hu, Builtin.lenOf, Builtin.firstCells, sizeOf, typeInfo, hq, hi, hk, hl, hst]
theorem run_copy_nil {P : Program} (w : World) (dT sT ty elem : TypeId) (d a : Option Addr) (dLen dCap sLen sCap : Nat) (hu : P.underlying dT = some (.slice elem)) (hs : ∃ sz, (P.info? elem).map (·.size) = some sz) (hn : Nat.min sLen dLen = 0) :
    (Builtin.copy_ #[dT, sT] ty #[.slice d dLen dCap, .slice a sLen sCap]).run P w = .ok (goInt 0) w := by
  obtain ⟨sz, hs⟩ := hs
  cases hq : P.info? elem with
  | none => simp [hq] at hs
  | some i =>
    have hl : ∀ (x : Addr), (loadCells x 0).run P w = .ok #[] w := fun x => by simpa using run_loadCells_list (P := P) w x [] (by simp)
    cases d <;> cases a <;> simp [Builtin.copy_, run_underlying hu, Builtin.lenOf, Builtin.firstCells, sizeOf, typeInfo, hq, hn, storeCells, hl]

theorem edits_below_set {B b : Nat} {w0 : World} (hB : B ≤ b) : ∀ (vs : List Value) (o : Nat) (w : World), Below B w0 w → Below B w0 (w.setCells b o vs)
  | [], _, _, h => h
  | v :: r, o, w, h => edits_below_set hB r (o + 1) _ (h.setCell hB _)
theorem edits_size_set (b : Nat) : ∀ (vs : List Value) (o : Nat) (w : World), (w.setCells b o vs).heap.size = w.heap.size
  | [], _, _ => rfl
  | v :: r, o, w => by rw [World.setCells, edits_size_set b r]; simp [World.setCell]

/-- what a block's cells are -/
def IsT (w : World) (k : Nat) (T : TypeId) : Prop := ∃ c fz, w.heap[k]? = some (.cells c T fz)
theorem IsT.setCell {w : World} {k : Nat} {T : TypeId} (h : IsT w k T) (a : Addr) (v : Value) : IsT (w.setCell a v) k T := by
  obtain ⟨c, fz, h⟩ := h
  unfold World.setCell IsT
  simp only [Array.getElem?_modify]
  by_cases hq : a.block = k
  · rw [if_pos hq, h]; exact ⟨_, _, rfl⟩
  · rw [if_neg hq, h]; exact ⟨_, _, rfl⟩
theorem IsT.setCells {b k : Nat} {T : TypeId} : ∀ (vs : List Value) (o : Nat) (w : World), IsT w k T → IsT (w.setCells b o vs) k T
  | [], _, _, h => h
  | v :: r, o, w, h => IsT.setCells r (o + 1) _ (h.setCell _ v)
theorem IsT.lt {w : World} {k : Nat} {T : TypeId} (h : IsT w k T) : k < w.heap.size := by
  obtain ⟨c, fz, h⟩ := h
  exact (Array.getElem?_eq_some_iff.1 h).1
theorem IsT.step {w w' : World} {k : Nat} {T : TypeId} (h : IsT w k T) (hb : Below w.heap.size w w') : IsT w' k T := by
  obtain ⟨c, fz, h'⟩ := id h
  exact ⟨c, fz, (hb.block k h.lt).trans h'⟩
theorem IsT.new (w : World) (c : Array Value) (T : TypeId) : IsT (w.alloc (.cells c T)) w.heap.size T := ⟨c, (0, 0), by rw [← World.alloc_eq]; simp⟩

/-- a row of so many edits that change nothing -/
def ZeroRow (w : World) (g N : Nat) : Prop := ∀ i, i < N → w.cell? ⟨g, i * 3, none⟩ = some (.int .i64 0) ∧ w.cell? ⟨g, i * 3 + 1, none⟩ = some (.int .i64 0) ∧ w.cell? ⟨g, i * 3 + 2, none⟩ = some (.string ⟨#[]⟩)
theorem made_get (z : Array Value) (n j : Nat) (h : j < n) : (madeCells z n).toList[j]? = some z[j % z.size]! := by
  unfold madeCells
  simp [h]
theorem made_edits (N : Nat) (w : World) (hN : N ≤ 5000) :
    ∃ W1, (Instr.makeSlice 22 (.int .i64 (N : Int)) (.int .i64 (N : Int))).run Try.prog w = .ok (.slice (some ⟨w.heap.size, 0, none⟩) N N) W1 ∧ Below w.heap.size w W1 ∧ w.heap.size < W1.heap.size ∧ ZeroRow W1 w.heap.size N ∧ (∀ j, W1.frozen? ⟨w.heap.size, j, none⟩ = false) ∧ IsT W1 w.heap.size 27 := by
  obtain ⟨i0, hi, hz0, hz1, hz2⟩ := info_parts infoEdit
  obtain ⟨W1, h1, h2, h3⟩ := run_makeSlice_full (P := Try.prog) w w.heap.size 22 27 i0 (.agg #[.int .i64 0, .int .i64 0, .string ⟨#[]⟩]) 3 Try.underlying22 hi hz0 hz1 .i64 .i64 N (by omega) (by rw [hz2]; omega) (by unfold maxLen; omega) (Nat.le_refl _)
  have hIT : IsT W1 w.heap.size 27 := by
    rcases h2.2 with ⟨hq, _⟩ | ⟨g, cap, cur, hq, _, hh, _⟩
    · exact absurd hq (by simp)
    · simp at hq; obtain ⟨rfl, _⟩ := hq; exact ⟨_, _, hh⟩
  refine ⟨W1, h1, Below.grown (Below.refl _ _) h3 (Nat.le_refl _) (fun j hj => by cases hj), (h2.lt _ rfl).2, fun i hi' => ?_, fun j => h2.frozenAt j, hIT⟩
  rw [h2.cellAt _ (by omega), h2.cellAt _ (by omega), h2.cellAt _ (by omega), made_get _ _ _ (by omega), made_get _ _ _ (by omega), made_get _ _ _ (by omega)]
  have e : (Value.agg #[.int .i64 0, .int .i64 0, .string ⟨#[]⟩]).cells = #[.int .i64 0, .int .i64 0, .string ⟨#[]⟩] := rfl
  rw [e]
  have e3 : (#[Value.int .i64 0, .int .i64 0, .string ⟨#[]⟩] : Array Value).size = 3 := rfl
  rw [e3, show i * 3 % 3 = 0 by omega, show (i * 3 + 1) % 3 = 1 by omega, show (i * 3 + 2) % 3 = 2 by omega]
  exact ⟨rfl, rfl, rfl⟩

/-- a list copied to the beginning of such a row -/
theorem copied_edits (W1 : World) (g N : Nat) (src : Option Addr) (n cap : Nat) (l : List IEd) (hl : l.length = n) (hn : n ≤ N) (hr : EdsIn W1 src l) (hz : ZeroRow W1 g N) (hf : ∀ j, W1.frozen? ⟨g, j, none⟩ = false) :
    ∃ W2, (Builtin.copy_ #[22, 22] 3 #[.slice (some ⟨g, 0, none⟩) N N, .slice src n cap]).run Try.prog W1 = .ok (goInt n) W2 ∧ (∀ B w0, B ≤ g → Below B w0 W1 → Below B w0 W2) ∧ W2.heap.size = W1.heap.size ∧
      EditAt W2 g 0 l ∧ (∀ j, n * 3 ≤ j → W2.cell? ⟨g, j, none⟩ = W1.cell? ⟨g, j, none⟩) ∧ (∀ j, W2.frozen? ⟨g, j, none⟩ = false) ∧ (∀ k T, IsT W1 k T → IsT W2 k T) := by
  obtain ⟨i0, hi, hz0, hz1, hz2⟩ := info_parts infoEdit
  have hmin : Nat.min n N = n := Nat.min_eq_left hn
  by_cases h0 : n = 0
  · have hl0 : l = [] := List.length_eq_zero_iff.1 (by omega)
    subst h0 hl0
    exact ⟨W1, run_copy_nil W1 22 22 3 27 _ _ _ _ _ _ Try.underlying22 ⟨3, by rw [hi]; simp [hz1]⟩ hmin, fun _ _ _ h => h, rfl, fun i hi' => absurd hi' (by simp), fun _ _ => rfl, hf, fun _ _ h => h⟩
  · obtain ⟨b, off, rfl, hb, hrow⟩ := hr (by omega)
    have hcell : ∀ j, j < (flatE l).length → (W1.cell? ⟨g, 0 + j, none⟩).isSome = true := by
      intro j hj
      rw [flatE_len] at hj
      obtain ⟨c0, c1, c2⟩ := hz (j / 3) (by omega)
      have hr : j % 3 = 0 ∨ j % 3 = 1 ∨ j % 3 = 2 := by omega
      rw [Nat.zero_add]
      rcases hr with hr | hr | hr
      · rw [show j / 3 * 3 = j by omega] at c0; rw [c0]; rfl
      · rw [show j / 3 * 3 + 1 = j by omega] at c1; rw [c1]; rfl
      · rw [show j / 3 * 3 + 2 = j by omega] at c2; rw [c2]; rfl
    have hc := run_copy_cells (P := Try.prog) 3 W1 22 22 3 27 g 0 N N ⟨b, off, none⟩ n cap n (flatE l) Try.underlying22 (by rw [hi]; simp [hz1]) hmin (by rw [flatE_len, hl])
      hrow.src hcell (fun j _ => hf _) (flatE_one l)
    refine ⟨_, hc, fun B w0 hB h => edits_below_set hB _ _ _ h, edits_size_set _ _ _ _, fun i hi' => ?_, fun j hj => ?_, fun j => ?_, fun k T h => h.setCells _ _ _⟩
    · have hin : ∀ j (hj : j < (flatE l).length), (W1.setCells g 0 (flatE l)).cell? ⟨g, 0 + j, none⟩ = some (flatE l)[j] := World.cell?_setCells_in g (flatE l) 0 W1 hcell
      have hfl := flatE_len l
      obtain ⟨f0, f1, f2⟩ := flatE_get l i hi'
      obtain ⟨q0, e0⟩ := List.getElem?_eq_some_iff.1 f0
      obtain ⟨q1, e1⟩ := List.getElem?_eq_some_iff.1 f1
      obtain ⟨q2, e2⟩ := List.getElem?_eq_some_iff.1 f2
      refine ⟨?_, ?_, ?_⟩
      · rw [hin _ q0, e0]
      · rw [show 0 + i * 3 + 1 = 0 + (i * 3 + 1) by omega, hin _ q1, e1]
      · rw [show 0 + i * 3 + 2 = 0 + (i * 3 + 2) by omega, hin _ q2, e2]
    · exact World.cell?_setCells_out _ _ _ _ _ (fun _ _ => .inr (by rw [flatE_len, hl]; simp; omega))
    · rw [World.frozen?_setCells]; exact hf _

set_option maxRecDepth 100000 in
set_option maxHeartbeats 1000000 in
theorem ewithEnd_any (src : Option Addr) (n cap : Nat) (l : List IEd) (m : Int) (w : World) (hl : l.length = n) (hn : n ≤ 4096) (hr : EdsIn w src l) :
    Calls Try.prog 29 #[.int .i64 m, .slice src n cap] w fun e w' => e = .returned (.slice (some ⟨w.heap.size, 0, none⟩) (n + 1) (n + 1)) ∧ Below w.heap.size w w' ∧ w.heap.size < w'.heap.size ∧ EditAt w' w.heap.size 0 (l ++ [(m, m, ByteArray.empty)]) ∧ IsT w' w.heap.size 27 := by
  obtain ⟨W1, hmk, hb1, hs1, hz1, hf1, ht1⟩ := made_edits (n + 1) w (by omega)
  obtain ⟨W2, hcp, hb2, hs2, hrow, hout, hf2, ht2⟩ := copied_edits W1 w.heap.size (n + 1) src n cap l hl (by omega) (hr.step hb1) hz1 hf1
  obtain ⟨a0, a1, a2⟩ := hz1 n (by omega)
  rw [← hout _ (by omega)] at a0 a1 a2
  have f1 := hf2 (n * 3)
  have f2 := hf2 (n * 3 + 1)
  have HB := Lib.hid (hb2 _ _ (Nat.le_refl _) hb1)
  have HS := Lib.hid (show w.heap.size < W2.heap.size by omega)
  have HROW := Lib.hid hrow
  have HA2 := Lib.hid a2
  have HA0 := Lib.hid a0
  have HA1 := Lib.hid a1
  have HL := Lib.hid hl
  have HT := Lib.hid (ht2 _ _ ht1)
  clear ht1 ht2
  rw [show ((n + 1 : Nat) : Int) = (n : Int) + 1 by omega] at hmk
  clear hr hb1 hb2 hrow hout hf1 hf2 hz1 hs1 hs2 a2
  go_enter Try.func29, Try.ntmps29
  go_wp2_with fail
  go_ret
  refine ⟨rfl, (HB.out.setCell (Nat.le_refl _) _).setCell (Nat.le_refl _) _, by simpa [World.setCell] using HS.out, fun i hi => ?_, (HT.out.setCell _ _).setCell _ _⟩
  by_cases hlt : i < l.length
  · obtain ⟨c0, c1, c2⟩ := HROW.out i hlt
    rw [List.getElem_append_left hlt]
    have hL := HL.out
    have hne0 : ∀ x, x < n * 3 → (⟨w.heap.size, n * 3, none⟩ : Addr) ≠ ⟨w.heap.size, x, none⟩ := by
      intro x hx h; injection h with _ h; omega
    have hne1 : ∀ x, x < n * 3 → (⟨w.heap.size, n * 3 + 1, none⟩ : Addr) ≠ ⟨w.heap.size, x, none⟩ := by
      intro x hx h; injection h with _ h; omega
    refine ⟨?_, ?_, ?_⟩
    · rw [World.cell?_setCell_other _ _ _ _ (hne1 _ (by omega)), World.cell?_setCell_other _ _ _ _ (hne0 _ (by omega))]; exact c0
    · rw [World.cell?_setCell_other _ _ _ _ (hne1 _ (by omega)), World.cell?_setCell_other _ _ _ _ (hne0 _ (by omega))]; exact c1
    · rw [World.cell?_setCell_other _ _ _ _ (hne1 _ (by omega)), World.cell?_setCell_other _ _ _ _ (hne0 _ (by omega))]; exact c2
  · have hi' : i = n := by have := HL.out; simp at hi; omega
    subst hi'
    rw [List.getElem_append_right (by omega)]
    simp only [HL.out, Nat.sub_self, List.getElem_cons_zero, Nat.zero_add]
    refine ⟨?_, ?_, ?_⟩
    · rw [World.cell?_setCell_other _ _ _ _ (by simp)]; exact World.cell?_setCell_same _ _ _ HA0.out
    · have a3 : (W2.setCell ⟨w.heap.size, i * 3, none⟩ (.int .i64 m)).cell? ⟨w.heap.size, i * 3 + 1, none⟩ = some (.int .i64 0) := by
        rw [World.cell?_setCell_other _ _ _ _ (by simp)]; exact HA1.out
      exact World.cell?_setCell_same _ _ _ a3
    · rw [World.cell?_setCell_other _ _ _ _ (by simp), World.cell?_setCell_other _ _ _ _ (by simp)]; exact HA2.out

end Go.Proofs.Ytdhbcmbajbgblaa
