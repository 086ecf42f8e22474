/- Nodes one behind the other, as cells; tree's list at nodes. -/
import Derived.Test.YtfalgnapghienaaGreatDoorTrClone
namespace Go.Proofs.YtfalgnapghienaaGreatDoor
open Go Go.RowKit
set_option linter.unusedVariables false
set_option linter.unusedSimpArgs false

/-- a node and its two lists as values -/
abbrev NdR := Nd × Value × Value
def ndC (y : NdR) : List Value := ndL y.1 y.2.1 y.2.2
def flatN (L : List NdR) : List Value := L.flatMap ndC
theorem ndC_len (y : NdR) : (ndC y).length = 13 := rfl
theorem flatN_len : ∀ L : List NdR, (flatN L).length = L.length * 13
  | [] => rfl
  | y :: L => by
    have := flatN_len L
    unfold flatN at *
    rw [List.flatMap_cons, List.length_append, this, ndC_len, List.length_cons]; omega
theorem flatN_app (K L : List NdR) : flatN (K ++ L) = flatN K ++ flatN L := by unfold flatN; rw [List.flatMap_append]
theorem flatN_at : ∀ (L : List NdR) (i : Nat) (h : i < L.length) (j : Nat), j < 13 → (flatN L)[i * 13 + j]? = (ndC L[i])[j]?
  | [], i, h, j, hj => absurd h (by simp)
  | y :: L, 0, h, j, hj => by
    unfold flatN
    rw [List.flatMap_cons, Nat.zero_mul, Nat.zero_add, List.getElem?_append_left (by rw [ndC_len]; exact hj)]; rfl
  | y :: L, i + 1, h, j, hj => by
    have := flatN_at L i (by simpa using h) j hj
    unfold flatN at *
    rw [List.flatMap_cons, List.getElem?_append_right (by rw [ndC_len]; omega), ndC_len, show (i + 1) * 13 + j - 13 = i * 13 + j by omega, this]
    rfl
theorem flatN_in {L : List NdR} {m : Nat} {u : Value} (h : (flatN L)[m]? = some u) : ∃ (hi : m / 13 < L.length), (ndC L[m / 13])[m % 13]? = some u := by
  have hm := (List.getElem?_eq_some_iff.1 h).1
  rw [flatN_len] at hm
  have hi : m / 13 < L.length := by omega
  refine ⟨hi, ?_⟩
  rw [← flatN_at L (m / 13) hi (m % 13) (by omega), show m / 13 * 13 + m % 13 = m by omega]
  exact h
/-- the lists of a row's nodes can be read -/
def RowOk (w : World) (L : List NdR) : Prop := ∀ y ∈ L, NumsV w y.2.1 y.1.kids ∧ NumsV w y.2.2 y.1.ends
theorem RowOk.step {w w' : World} {L : List NdR} (h : RowOk w L) (hb : Below w.heap.size w w') : RowOk w' L := fun y hy => ⟨(h y hy).1.step hb, (h y hy).2.step hb⟩
theorem RowOk.one {w : World} {L : List NdR} (h : RowOk w L) : ∀ u ∈ flatN L, u.oneCell' = true := by
  intro u hu
  obtain ⟨y, hy, hu⟩ := List.mem_flatMap.1 hu
  obtain ⟨⟨s1, c1, h1, -⟩, ⟨s2, c2, h2, -⟩⟩ := h y hy
  unfold ndC ndL at hu
  rw [h1, h2] at hu
  simp only [List.mem_cons, List.not_mem_nil, or_false] at hu
  rcases hu with rfl | rfl | rfl | rfl | rfl | rfl | rfl | rfl | rfl | rfl | rfl | rfl | rfl <;> rfl
/-- a list of nodes, its cells known -/
def RowAt (w : World) (src : Option Addr) (L : List NdR) : Prop := 0 < L.length → ∃ b off, src = some ⟨b, off, none⟩ ∧ b < w.heap.size ∧ ∀ m u, (flatN L)[m]? = some u → w.cell? ⟨b, off + m, none⟩ = some u
theorem RowAt.step {w w' : World} {src : Option Addr} {L : List NdR} (h : RowAt w src L) (hb : Below w.heap.size w w') : RowAt w' src L := fun h0 => by
  obtain ⟨b, off, h1, h2, h3⟩ := h h0
  exact ⟨b, off, h1, Nat.lt_of_lt_of_le h2 hb.size, fun m u hm => keep hb h2 (h3 m u hm)⟩
theorem row_list {α : Type} {Q : Nat → α → Prop} (n : Nat) (h : ∀ i, i < n → ∃ x, Q i x) : ∃ l : List α, l.length = n ∧ ∀ i (hi : i < l.length), Q i l[i] := by
  induction n with
  | zero => exact ⟨[], rfl, fun i hi => absurd hi (by simp)⟩
  | succ n ih =>
    obtain ⟨l, hl, hq⟩ := ih fun i hi => h i (by omega)
    obtain ⟨x, hx⟩ := h n (by omega)
    refine ⟨l ++ [x], by simp [hl], fun i hi => ?_⟩
    by_cases hlt : i < l.length
    · rw [List.getElem_append_left hlt]; exact hq i hlt
    · have hin : i = n := by simp at hi; omega
      subst hin
      rw [List.getElem_append_right (by omega)]
      simpa [hl] using hx
theorem NdsV.rows {w : World} {v : Value} {l : List Nd} (h : NdsV w v l) : ∃ (L : List NdR) (src : Option Addr) (cap : Nat), L.map (·.1) = l ∧ v = .slice src L.length cap ∧ RowOk w L ∧ RowAt w src L := by
  obtain ⟨src, cap, rfl, h1⟩ := h
  by_cases h0 : 0 < l.length
  · obtain ⟨b, off, rfl, hb, hat⟩ := h1 h0
    obtain ⟨L, hL, hq⟩ := row_list (Q := fun i (y : NdR) => ∃ hi : i < l.length, y.1 = l[i] ∧ NdAt w b (off + i * 13) y.1 y.2.1 y.2.2) l.length (fun i hi => by
      obtain ⟨kv, ev, h⟩ := hat i hi
      exact ⟨(l[i], kv, ev), hi, rfl, h⟩)
    refine ⟨L, _, cap, ?_, by rw [hL], ?_, fun _ => ⟨b, off, rfl, hb, ?_⟩⟩
    · apply List.ext_getElem (by simp [hL])
      intro i h2 h3
      rw [List.getElem_map]
      obtain ⟨hi2, h4, _⟩ := hq i (by simpa using h2)
      exact h4
    · intro y hy
      obtain ⟨i, hi, rfl⟩ := List.getElem_of_mem hy
      obtain ⟨hi2, _, h4⟩ := hq i hi
      exact ⟨h4.kids, h4.ends⟩
    · intro m u hm
      obtain ⟨hi, hu⟩ := flatN_in hm
      obtain ⟨hi2, _, h4⟩ := hq (m / 13) hi
      have := h4.list (m % 13) u hu
      rwa [show off + m / 13 * 13 + m % 13 = off + m by omega] at this
  · have hl : l = [] := List.eq_nil_of_length_eq_zero (by omega)
    subst hl
    exact ⟨[], src, cap, rfl, rfl, (fun y hy => by cases hy), fun h => absurd h (by simp)⟩
theorem rows_nds {w : World} {src : Option Addr} {cap : Nat} {L : List NdR} (h1 : RowOk w L) (h2 : RowAt w src L) : NdsV w (.slice src L.length cap) (L.map (·.1)) := by
  refine ⟨src, cap, by simp, fun h0 => ?_⟩
  obtain ⟨b, off, h3, h4, h5⟩ := h2 (by simpa using h0)
  refine ⟨b, off, h3, h4, fun i hi => ?_⟩
  have hi' : i < L.length := by simpa using hi
  refine ⟨L[i].2.1, L[i].2.2, ?_⟩
  rw [List.getElem_map]
  obtain ⟨k1, k2⟩ := h1 _ (List.getElem_mem hi')
  refine NdAt.of_list k1 k2 fun j u hj => ?_
  have hj13 : j < 13 := (List.getElem?_eq_some_iff.1 hj).1
  have := h5 (i * 13 + j) u (by rw [flatN_at L i hi' j hj13]; exact hj)
  rwa [show off + i * 13 + j = off + (i * 13 + j) by omega]

/-- a node whose lists and texts are of sizes that memory has -/
structure NdFit (x : Nd) : Prop where
  kids : x.kids.length ≤ 17592186044416
  ends : x.ends.length ≤ 17592186044416
  text : x.text.size ≤ 281474976710656
  N : x.N.size ≤ 281474976710656
  M : x.M.size ≤ 281474976710656
/-- the lists of a row's nodes are ones that a call made -/
def RowNew (w : World) (B : Nat) (L : List NdR) : Prop := ∀ y ∈ L, NewNums w B y.2.1 y.1.kids ∧ NewNums w B y.2.2 y.1.ends
theorem RowNew.ok {w : World} {B : Nat} {L : List NdR} (h : RowNew w B L) : RowOk w L := fun y hy => ⟨(h y hy).1.nums, (h y hy).2.nums⟩
theorem RowNew.step {w w' : World} {B : Nat} {L : List NdR} (h : RowNew w B L) (hb : Below w.heap.size w w') : RowNew w' B L := fun y hy => ⟨(h y hy).1.step hb, (h y hy).2.step hb⟩
theorem RowNew.mono {w : World} {B B' : Nat} {L : List NdR} (h : RowNew w B L) (hB : B' ≤ B) : RowNew w B' L := fun y hy => ⟨(h y hy).1.mono hB, (h y hy).2.mono hB⟩
/-- a list of nodes that a call made -/
def NewNds (w : World) (B : Nat) (v : Value) (l : List Nd) : Prop :=
  (l = [] ∧ v = .slice none 0 0) ∨ (0 < l.length ∧ ∃ (g : Nat) (L : List NdR), v = .slice (some ⟨g, 0, none⟩) l.length l.length ∧ B ≤ g ∧ L.map (·.1) = l ∧ BoxN w g (flatN L) ∧ RowNew w B L)
theorem NewNds.nds {w : World} {B : Nat} {v : Value} {l : List Nd} (h : NewNds w B v l) : NdsV w v l := by
  rcases h with ⟨rfl, rfl⟩ | ⟨h0, g, L, rfl, hB, rfl, hg, hn⟩
  · exact NdsV.nil w
  · have := rows_nds (w := w) (src := some ⟨g, 0, none⟩) (cap := L.length) (L := L) hn.ok (fun _ => ⟨g, 0, rfl, hg.lt, fun m u hm => by rw [Nat.zero_add, hg.cell]; exact hm⟩)
    simpa using this
theorem NewNds.step {w w' : World} {B : Nat} {v : Value} {l : List Nd} (h : NewNds w B v l) (hb : Below w.heap.size w w') : NewNds w' B v l := by
  rcases h with h | ⟨h0, g, L, h1, h2, h3, h4, h5⟩
  · exact .inl h
  · exact .inr ⟨h0, g, L, h1, h2, h3, h4.keep hb, h5.step hb⟩
theorem NewNds.mono {w : World} {B B' : Nat} {v : Value} {l : List Nd} (h : NewNds w B v l) (hB : B' ≤ B) : NewNds w B' v l := by
  rcases h with h | ⟨h0, g, L, h1, h2, h3, h4, h5⟩
  · exact .inl h
  · exact .inr ⟨h0, g, L, h1, Nat.le_trans hB h2, h3, h4, h5.mono hB⟩

set_option maxRecDepth 100000 in
set_option maxHeartbeats 1000000 in
theorem listN_any (src : Option Addr) (cap : Nat) (L : List NdR) (w : World) (hl : L.length ≤ 1099511627776) (ho : RowOk w L) (hr : RowAt w src L) :
    Calls Tryz.prog 45 #[.slice src L.length cap] w fun e w' => Below w.heap.size w w' ∧
      ((L = [] ∧ e = .returned (.slice none 0 0)) ∨ (0 < L.length ∧ e = .returned (.slice (some ⟨w.heap.size, 0, none⟩) L.length L.length) ∧ BoxN w' w.heap.size (flatN L))) := by
  by_cases h0 : L.length = 0
  · have hl0 := List.eq_nil_of_length_eq_zero h0
    subst hl0
    clear h0 hl hr ho
    go_enter Tryz.func45, Tryz.ntmps45
    go_wp2_with fail
    go_ret
    exact ⟨Below.refl _ _, .inl ⟨by trivial, rfl⟩⟩
  · obtain ⟨b, off, rfl, hb, hrow⟩ := hr (by omega)
    obtain ⟨i0, hi, hz0, hz1, hz2⟩ := info_parts infoNode
    obtain ⟨W1, W2, hmk, hcp, hbel, hblk⟩ := make_copy (P := Tryz.prog) 13 w 22 46 3 i0 _ Tryz.underlying22 hi hz0 hz1 L.length cap ⟨b, off, none⟩ (flatN L) (flatN_len L) hb
      (fun j v hj => by rw [add_at]; exact hrow j v hj) ho.one (by rw [hz2]; omega) (by unfold maxLen; omega)
    have HB := Lib.hid hbel
    have HN : Hid (BoxN W2 w.heap.size (flatN L)) := Lib.hid hblk
    have i1 : ¬ (L.length : Int) = 0 := by omega
    have HP : Hid (0 < L.length) := Lib.hid (by omega)
    clear hr hrow hbel hblk ho
    have HC := Lib.hid hcp
    generalize hn : L.length = n at *
    clear hcp
    have hcp := HC.out
    clear HC
    go_enter Tryz.func45, Tryz.ntmps45
    go_wp2_with fail
    go_ret
    exact ⟨HB.out, .inr ⟨HP.out, rfl, HN.out⟩⟩
end Go.Proofs.YtfalgnapghienaaGreatDoor
