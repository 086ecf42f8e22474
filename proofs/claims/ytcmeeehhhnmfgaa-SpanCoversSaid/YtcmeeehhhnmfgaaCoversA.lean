/- SpanCovers: plain facts on the span over some. -/
import Derived.Test.YtcmeeehhhnmfgaaSpanF
namespace Go.Proofs.Ytcmeeehhhnmfgaa
open Go.RowKit
set_option linter.unusedVariables false

theorem minI_le (a b : Int) : minI a b ≤ a ∧ minI a b ≤ b ∧ (minI a b = a ∨ minI a b = b) := by rcases minI_ways a b with ⟨h, e⟩ | ⟨h, e⟩ <;> rw [e] <;> omega
theorem maxI_ge (a b : Int) : a ≤ maxI a b ∧ b ≤ maxI a b ∧ (maxI a b = a ∨ maxI a b = b) := by rcases maxI_ways a b with ⟨h, e⟩ | ⟨h, e⟩ <;> rw [e] <;> omega

theorem covF_le (t : List (Int × Int)) : ∀ s : Int, covF s t ≤ s ∧ (∀ x ∈ t, covF s t ≤ x.1) ∧ (covF s t = s ∨ ∃ x ∈ t, x.1 = covF s t) := by
  induction t with
  | nil => intro s; exact ⟨Int.le_refl _, by simp, .inl rfl⟩
  | cons y t ih =>
    intro s
    have e : covF s (y :: t) = covF (minI s y.1) t := rfl
    obtain ⟨h1, h2, h3⟩ := ih (minI s y.1)
    obtain ⟨m1, m2, m3⟩ := minI_le s y.1
    rw [e]
    refine ⟨by omega, ?_, ?_⟩
    · intro x hx
      rcases List.mem_cons.1 hx with rfl | hx
      · omega
      · exact h2 x hx
    · rcases h3 with h3 | ⟨x, hx, h3⟩
      · rcases m3 with m3 | m3
        · exact .inl (by omega)
        · exact .inr ⟨y, by simp, by omega⟩
      · exact .inr ⟨x, by simp [hx], h3⟩
theorem covT_ge (t : List (Int × Int)) : ∀ s : Int, s ≤ covT s t ∧ (∀ x ∈ t, x.2 ≤ covT s t) ∧ (covT s t = s ∨ ∃ x ∈ t, x.2 = covT s t) := by
  induction t with
  | nil => intro s; exact ⟨Int.le_refl _, by simp, .inl rfl⟩
  | cons y t ih =>
    intro s
    have e : covT s (y :: t) = covT (maxI s y.2) t := rfl
    obtain ⟨h1, h2, h3⟩ := ih (maxI s y.2)
    obtain ⟨m1, m2, m3⟩ := maxI_ge s y.2
    rw [e]
    refine ⟨by omega, ?_, ?_⟩
    · intro x hx
      rcases List.mem_cons.1 hx with rfl | hx
      · omega
      · exact h2 x hx
    · rcases h3 with h3 | ⟨x, hx, h3⟩
      · rcases m3 with m3 | m3
        · exact .inl (by omega)
        · exact .inr ⟨y, by simp, by omega⟩
      · exact .inr ⟨x, by simp [hx], h3⟩

/-- does one of some begin, or end, there? -/
def anyF (X : Int) (l : List (Int × Int)) : Bool := l.any fun s => s.1 == X
def anyT (Y : Int) (l : List (Int × Int)) : Bool := l.any fun s => s.2 == Y
theorem anyF_snoc (X : Int) (l : List (Int × Int)) (k : Nat) (h : k < l.length) : anyF X (l.take (k + 1)) = (anyF X (l.take k) || (l[k].1 == X)) := by
  unfold anyF; rw [List.take_succ_eq_append_getElem h, List.any_append]; simp
theorem anyT_snoc (X : Int) (l : List (Int × Int)) (k : Nat) (h : k < l.length) : anyT X (l.take (k + 1)) = (anyT X (l.take k) || (l[k].2 == X)) := by
  unfold anyT; rw [List.take_succ_eq_append_getElem h, List.any_append]; simp

theorem allB_mem {l : List (Int × Int)} (h : allB l = true) {x : Int × Int} (hx : x ∈ l) : 0 ≤ x.1 ∧ x.1 ≤ x.2 ∧ x.2 ≤ 65536 := by
  unfold allB at h; rw [List.all_eq_true] at h; exact mayB_iff.1 (h x hx)

theorem covers_law (s0 s1 : Int) (t : List (Int × Int)) (h : allB ((s0, s1) :: t) = true) :
    (∀ x ∈ (s0, s1) :: t, holdsB (covF s0 t) (covT s1 t) x.1 x.2 = true) ∧ anyF (covF s0 t) ((s0, s1) :: t) = true ∧ anyT (covT s1 t) ((s0, s1) :: t) = true := by
  obtain ⟨f1, f2, f3⟩ := covF_le t s0
  obtain ⟨t1, t2, t3⟩ := covT_ge t s1
  have h0 := allB_mem h (x := (s0, s1)) (by simp)
  simp only at h0
  have hX : 0 ≤ covF s0 t := by
    rcases f3 with f3 | ⟨x, hx, f3⟩
    · omega
    · have := allB_mem h (x := x) (by simp [hx]); omega
  have hY : covT s1 t ≤ 65536 := by
    rcases t3 with t3 | ⟨x, hx, t3⟩
    · omega
    · have := allB_mem h (x := x) (by simp [hx]); omega
  have hM : mayB (covF s0 t) (covT s1 t) = true := mayB_iff.2 ⟨hX, by omega, hY⟩
  refine ⟨?_, ?_, ?_⟩
  · intro x hx
    have hm := mayB_iff.2 (allB_mem h hx)
    have : covF s0 t ≤ x.1 ∧ x.2 ≤ covT s1 t := by
      rcases List.mem_cons.1 hx with rfl | hx
      · exact ⟨f1, t1⟩
      · exact ⟨f2 x hx, t2 x hx⟩
    simp [holdsB, hM, hm, this]
  · unfold anyF
    rcases f3 with f3 | ⟨x, hx, f3⟩
    · simp [f3]
    · simp only [List.any_cons, Bool.or_eq_true, List.any_eq_true]; exact .inr ⟨x, hx, by simp [f3]⟩
  · unfold anyT
    rcases t3 with t3 | ⟨x, hx, t3⟩
    · simp [t3]
    · simp only [List.any_cons, Bool.or_eq_true, List.any_eq_true]; exact .inr ⟨x, hx, by simp [t3]⟩

end Go.Proofs.Ytcmeeehhhnmfgaa
