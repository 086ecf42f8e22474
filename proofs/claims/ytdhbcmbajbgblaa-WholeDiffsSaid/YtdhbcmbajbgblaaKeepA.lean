/- What edits leave: the spans taken away, in order, and the gaps between them, strictly apart. -/
import Derived.Test.YtdhbcmbajbgblaaDiffI
import Derived.Test.YtdhbcmbajbgblaaGapFacts
namespace Go.Proofs.Ytdhbcmbajbgblaa
open Go Go.RowKit
set_option linter.unusedVariables false

def prN (e : NEd) : Int × Int := ((e.1 : Int), (e.2.1 : Int))
def takesB (e : NEd) : Bool := decide (e.1 < e.2.1)
/-- the spans that edits take away -/
def tkN (L : List NEd) : List (Int × Int) := (L.filter takesB).map prN
theorem edOk_all {n : Nat} : ∀ (L : List NEd) (a : Nat), EdOk n a L → (∀ e ∈ L, a ≤ e.1 ∧ e.1 ≤ e.2.1 ∧ e.2.1 ≤ n) ∧ L.Pairwise (fun x y => x.2.1 ≤ y.1)
  | [], a, _ => ⟨fun e he => (by cases he), List.Pairwise.nil⟩
  | e :: L, a, h => by
    have hle := h.2.2.le
    obtain ⟨h1, h2, h3⟩ := h
    obtain ⟨i1, i2⟩ := edOk_all L _ h3
    refine ⟨fun x hx => ?_, List.pairwise_cons.2 ⟨fun y hy => (i1 y hy).1, i2⟩⟩
    rcases List.mem_cons.1 hx with rfl | hx
    · exact ⟨h1, h2, hle⟩
    · have := i1 x hx; omega
theorem tk_eq (L : List NEd) (hs : ∀ e ∈ L, e.1 ≤ e.2.1 ∧ e.2.1 ≤ 65536) : ∀ k, k ≤ L.length → tkK (L.map toI) k = tkN (L.take k)
  | 0, _ => rfl
  | k + 1, h => by
    have hk : k < L.length := h
    have ih := tk_eq L hs k (by omega)
    have hg : (L.map toI).getD k noEd = toI L[k] := by rw [getE _ k (by simpa using hk)]; simp
    obtain ⟨h1, h2⟩ := hs _ (List.getElem_mem hk)
    have hl : lenI (toI L[k]).1 (toI L[k]).2.1 = (L[k].2.1 : Int) - L[k].1 := lenI_nat h1 h2
    unfold tkK
    rw [hg, hl, ih, List.take_succ_eq_append_getElem hk]
    unfold tkN
    rw [List.filter_append, List.map_append]
    by_cases hq : L[k].1 < L[k].2.1
    · rw [if_pos (by omega)]
      simp [takesB, hq, prN, toI]
    · rw [if_neg (by omega)]
      simp [takesB, hq]
theorem tkN_facts {n : Nat} {L : List NEd} (h : EdOk n 0 L) : (∀ x ∈ tkN L, 0 ≤ x.1 ∧ x.1 < x.2 ∧ x.2 ≤ (n : Int)) ∧ (tkN L).Pairwise (fun x y => x.2 ≤ y.1) := by
  obtain ⟨h1, h2⟩ := edOk_all L 0 h
  constructor
  · intro x hx
    obtain ⟨e, he, rfl⟩ := List.mem_map.1 hx
    obtain ⟨h3, h4⟩ := List.mem_filter.1 he
    have := h1 e h3
    have h5 : e.1 < e.2.1 := by simpa [takesB] using h4
    simp only [prN]; omega
  · unfold tkN
    rw [List.pairwise_map]
    exact (h2.filter _).imp fun {x y} hxy => by simp only [prN]; omega
theorem tkN_chk {n : Nat} {L : List NEd} (h : EdOk n 0 L) (hn : n ≤ 65536) : chkTo (n : Int) (tkN L) = true := by
  unfold chkTo
  rw [List.all_eq_true]
  intro x hx
  have := (tkN_facts h).1 x hx
  exact chkB_iff.2 ⟨⟨by omega, by omega, by omega⟩, by omega, by omega⟩
theorem tkN_ord {n : Nat} {L : List NEd} (h : EdOk n 0 L) : Ord (tkN L) := by
  obtain ⟨h1, h2⟩ := tkN_facts h
  refine ⟨fun k hk => ?_, fun k hk => ?_⟩
  · rw [getD_get _ k hk]
    have := h1 _ (List.getElem_mem hk); omega
  · rw [getD_get _ k (by omega), getD_get _ (k + 1) hk]
    exact List.pairwise_iff_getElem.1 h2 k (k + 1) (by omega) hk (by omega)
/-- the gaps of spans of which none is empty stand strictly apart -/
theorem gap_strict {l : List (Int × Int)} (h : Ord l) : ∀ k, k ≤ l.length → (∀ j, j + 1 < k → (l.getD j (0, 0)).1 < (l.getD j (0, 0)).2) → (gapTo l k).Pairwise (fun x y => x.2 < y.1) ∧ ((0 < k → (l.getD (k - 1) (0, 0)).1 < (l.getD (k - 1) (0, 0)).2) → ∀ x ∈ gapTo l k, x.2 < atTo l k)
  | 0, _, _ => ⟨by simp [gapTo], fun _ x hx => by simp [gapTo] at hx⟩
  | k + 1, hk, hne => by
    have hk' : k < l.length := by omega
    obtain ⟨i1, i2⟩ := gap_strict h k (by omega) (fun j hj => hne j (by omega))
    have i2 := i2 (fun h0 => hne (k - 1) (by omega))
    have h2 := h.atTo_le k hk'
    have e2 : atTo l (k + 1) = (l.getD k (0, 0)).2 := rfl
    have e3 : gapTo l (k + 1) = if atTo l k < (l.getD k (0, 0)).1 then gapTo l k ++ [(atTo l k, (l.getD k (0, 0)).1)] else gapTo l k := rfl
    rw [e2, e3, Nat.add_sub_cancel]
    generalize l.getD k (0, 0) = s at *
    generalize atTo l k = a at *
    by_cases hq : a < s.1
    · rw [if_pos hq]
      refine ⟨?_, fun hs x hx => ?_⟩
      · rw [List.pairwise_append]
        refine ⟨i1, by simp, fun x hx y hy => ?_⟩
        simp at hy; subst hy
        exact i2 x hx
      · have hs := hs (by omega)
        rcases List.mem_append.1 hx with hx | hx
        · have := i2 x hx; omega
        · simp at hx; subst hx; simp only; omega
    · rw [if_neg hq]
      exact ⟨i1, fun hs x hx => by have := hs (by omega); have := i2 x hx; omega⟩

end Go.Proofs.Ytdhbcmbajbgblaa
