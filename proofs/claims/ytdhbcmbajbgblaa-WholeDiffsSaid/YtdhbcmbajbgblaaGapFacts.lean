/- Facts on what lies between spans: each place is held once by the spans and the gaps together. -/
import Derived.Test.YtdhbcmbajbgblaaGaps
namespace Go.Proofs.Ytdhbcmbajbgblaa
open Go Go.RowKit
set_option linter.unusedVariables false

/-- does a span hold a place? -/
def covN (j : Int) (s : Int × Int) : Nat := if s.1 ≤ j ∧ j < s.2 then 1 else 0
def cntN (j : Int) (l : List (Int × Int)) : Nat := (l.map (covN j)).sum
theorem cntN_nil (j : Int) : cntN j [] = 0 := rfl
theorem cntN_snoc (j : Int) (l : List (Int × Int)) (s : Int × Int) : cntN j (l ++ [s]) = cntN j l + covN j s := by simp [cntN]
theorem cntN_append (j : Int) (l r : List (Int × Int)) : cntN j (l ++ r) = cntN j l + cntN j r := by simp [cntN]

/-- spans in order, each as it may be -/
def Ord (l : List (Int × Int)) : Prop :=
  (∀ k, k < l.length → 0 ≤ (l.getD k (0, 0)).1 ∧ (l.getD k (0, 0)).1 ≤ (l.getD k (0, 0)).2) ∧ ∀ k, k + 1 < l.length → (l.getD k (0, 0)).2 ≤ (l.getD (k + 1) (0, 0)).1

theorem Ord.atTo_le {l : List (Int × Int)} (h : Ord l) (k : Nat) (hk : k < l.length) : 0 ≤ atTo l k ∧ atTo l k ≤ (l.getD k (0, 0)).1 := by
  cases k with
  | zero => exact ⟨Int.le_refl _, (h.1 0 hk).1⟩
  | succ k =>
    have h1 := h.1 k (by omega)
    have h2 := h.2 k hk
    exact ⟨by show 0 ≤ (l.getD k (0, 0)).2; omega, h2⟩

theorem gap_count {l : List (Int × Int)} (h : Ord l) (j : Int) : ∀ k, k ≤ l.length → cntN j (l.take k) + cntN j (gapTo l k) = if 0 ≤ j ∧ j < atTo l k then 1 else 0 := by
  intro k
  induction k with
  | zero =>
    intro _
    have e : atTo l 0 = 0 := rfl
    rw [e, if_neg (by omega)]
    simp [cntN, gapTo]
  | succ k ih =>
    intro hk
    have hk' : k < l.length := by omega
    have ih := ih (by omega)
    have h1 := h.1 k hk'
    have h2 := h.atTo_le k hk'
    have e1 : l.take (k + 1) = l.take k ++ [l.getD k (0, 0)] := by
      rw [List.take_succ_eq_append_getElem hk', getD_get l k hk']
    have e2 : atTo l (k + 1) = (l.getD k (0, 0)).2 := rfl
    have e3 : gapTo l (k + 1) = if atTo l k < (l.getD k (0, 0)).1 then gapTo l k ++ [(atTo l k, (l.getD k (0, 0)).1)] else gapTo l k := rfl
    rw [e1, e2, e3, cntN_snoc]
    generalize l.getD k (0, 0) = s at *
    generalize atTo l k = a at *
    by_cases hq : a < s.1
    · rw [if_pos hq, cntN_snoc]
      unfold covN
      simp only
      split at ih <;> repeat' split
      all_goals omega
    · rw [if_neg hq]
      unfold covN
      split at ih <;> repeat' split
      all_goals omega

theorem gap_order {l : List (Int × Int)} (h : Ord l) : ∀ k, k ≤ l.length → (∀ x ∈ gapTo l k, 0 ≤ x.1 ∧ x.1 < x.2 ∧ x.2 ≤ atTo l k) ∧ (gapTo l k).Pairwise (fun x y => x.2 ≤ y.1) := by
  intro k
  induction k with
  | zero => intro _; simp [gapTo]
  | succ k ih =>
    intro hk
    have hk' : k < l.length := by omega
    obtain ⟨i1, i2⟩ := ih (by omega)
    have h1 := h.1 k hk'
    have h2 := h.atTo_le k hk'
    have e2 : atTo l (k + 1) = (l.getD k (0, 0)).2 := rfl
    have e3 : gapTo l (k + 1) = if atTo l k < (l.getD k (0, 0)).1 then gapTo l k ++ [(atTo l k, (l.getD k (0, 0)).1)] else gapTo l k := rfl
    rw [e2, e3]
    generalize l.getD k (0, 0) = s at *
    generalize atTo l k = a at *
    by_cases hq : a < s.1
    · rw [if_pos hq]
      refine ⟨fun x hx => ?_, ?_⟩
      · rcases List.mem_append.1 hx with hx | hx
        · have := i1 x hx; omega
        · simp at hx; subst hx; simp only; omega
      · rw [List.pairwise_append]
        refine ⟨i2, by simp, fun x hx y hy => ?_⟩
        simp at hy; subst hy
        exact (i1 x hx).2.2
    · rw [if_neg hq]
      exact ⟨fun x hx => by have := i1 x hx; omega, i2⟩

/-- with the text's end behind them: each place of the text is held once -/
theorem gap_whole {l : List (Int × Int)} {m : Int} (h : Ord l) (hm : 0 ≤ m) (hle : ∀ k, k < l.length → (l.getD k (0, 0)).2 ≤ m) : Ord (l ++ [(m, m)]) := by
  have g1 : ∀ k, k < l.length → (l ++ [(m, m)]).getD k (0, 0) = l.getD k (0, 0) := fun k hk => by
    rw [List.getD_eq_getElem?_getD, List.getD_eq_getElem?_getD, List.getElem?_append_left hk]
  have g2 : (l ++ [(m, m)]).getD l.length (0, 0) = (m, m) := by
    rw [List.getD_eq_getElem?_getD, List.getElem?_append_right (Nat.le_refl _)]; simp
  refine ⟨fun k hk => ?_, fun k hk => ?_⟩
  · by_cases hlt : k < l.length
    · rw [g1 k hlt]; exact h.1 k hlt
    · have hk' : k = l.length := by simp at hk; omega
      subst hk'
      rw [g2]; exact ⟨hm, Int.le_refl _⟩
  · have hk0 : k < l.length := by simp at hk; omega
    rw [g1 k hk0]
    by_cases hlt : k + 1 < l.length
    · rw [g1 (k + 1) hlt]; exact h.2 k hlt
    · have hk' : k + 1 = l.length := by omega
      rw [hk', g2]; exact hle k hk0
theorem gap_once {l : List (Int × Int)} {m : Int} (h : Ord l) (hm : 0 ≤ m) (hle : ∀ k, k < l.length → (l.getD k (0, 0)).2 ≤ m) (j : Int) (h0 : 0 ≤ j) (hj : j < m) :
    cntN j (l ++ gapTo (l ++ [(m, m)]) (l.length + 1)) = 1 := by
  have hw := gap_whole h hm hle
  have c := gap_count hw j (l.length + 1) (by simp)
  have g2 : (l ++ [(m, m)]).getD l.length (0, 0) = (m, m) := by
    rw [List.getD_eq_getElem?_getD, List.getElem?_append_right (Nat.le_refl _)]; simp
  have e : atTo (l ++ [(m, m)]) (l.length + 1) = m := by show ((l ++ [(m, m)]).getD l.length (0, 0)).2 = m; rw [g2]
  rw [e, if_pos ⟨h0, hj⟩, List.take_of_length_le (by simp), cntN_snoc] at c
  rw [cntN_append]
  have z : covN j (m, m) = 0 := by unfold covN; rw [if_neg (by simp only; omega)]
  omega

end Go.Proofs.Ytdhbcmbajbgblaa
