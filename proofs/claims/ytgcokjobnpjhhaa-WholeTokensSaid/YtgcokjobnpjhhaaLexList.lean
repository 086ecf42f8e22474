/- All tokens of a text: plain functions on bytes, no Go. -/
import Derived.Test.YtgcokjobnpjhhaaLexTok
namespace Go.Proofs.Ytgcokjobnpjhhaa
set_option linter.unusedVariables false

abbrev Tok := Nat × Nat × Nat
/-- the tokens from a place on (of which so many stand ahead), and what is wrong behind them, and where -/
def toksF (g : Nat → Nat) (n : Nat) : Nat → Nat → Nat → List Tok × Nat × Nat
  | 0, i, _ => ([], 0, i)
  | k + 1, i, c =>
    if i < n then
      if c = 16384 then ([], 2, i) else
      if (tokenG g n i).1 = 0 then
        (((tokenG g n i).2.1, i, (tokenG g n i).2.2) :: (toksF g n k (gapG g n (tokenG g n i).2.2) (c + 1)).1, (toksF g n k (gapG g n (tokenG g n i).2.2) (c + 1)).2)
      else ([], (tokenG g n i).1, i)
    else ([], 0, i)
def toksG (g : Nat → Nat) (n i c : Nat) : List Tok × Nat × Nat := toksF g n (n - i + 1) i c
theorem token_to {g : Nat → Nat} {n i : Nat} (h : i < n) (h0 : (tokenG g n i).1 = 0) : i + 1 ≤ (tokenG g n i).2.2 ∧ (tokenG g n i).2.2 ≤ n ∧ 1 ≤ (tokenG g n i).2.1 ∧ (tokenG g n i).2.1 ≤ 5 := by
  obtain ⟨e, a, b, c, d, f, _⟩ := token_facts h h0
  rw [e]
  exact ⟨a, b, d, f⟩
theorem toksF_fuel {g : Nat → Nat} {n : Nat} : ∀ (k m i c : Nat), n - i < k → n - i < m → toksF g n k i c = toksF g n m i c
  | 0, _, i, _, h, _ => by omega
  | _, 0, i, _, _, h => by omega
  | k + 1, m + 1, i, c, h1, h2 => by
    show (if _ then _ else _) = (if _ then _ else _)
    by_cases hi : i < n
    · rw [if_pos hi, if_pos hi]
      by_cases hc : c = 16384
      · rw [if_pos hc, if_pos hc]
      · rw [if_neg hc, if_neg hc]
        by_cases h0 : (tokenG g n i).1 = 0
        · obtain ⟨a, b, _⟩ := token_to hi h0
          have := gap_ge g b
          have hb := gap_le g b
          rw [if_pos h0, if_pos h0, toksF_fuel k m _ _ (by omega) (by omega)]
        · rw [if_neg h0, if_neg h0]
    · rw [if_neg hi, if_neg hi]
theorem toks_end {g : Nat → Nat} {n i c : Nat} (h : ¬ i < n) : toksG g n i c = ([], 0, i) := by
  show (if _ then _ else _) = _
  rw [if_neg h]
theorem toks_full {g : Nat → Nat} {n i : Nat} (h : i < n) : toksG g n i 16384 = ([], 2, i) := by
  show (if _ then _ else _) = _
  rw [if_pos h, if_pos rfl]
theorem toks_bad {g : Nat → Nat} {n i c : Nat} (h : i < n) (hc : c ≠ 16384) (h0 : (tokenG g n i).1 ≠ 0) : toksG g n i c = ([], (tokenG g n i).1, i) := by
  show (if _ then _ else _) = _
  rw [if_pos h, if_neg hc, if_neg h0]
theorem toks_next {g : Nat → Nat} {n i c : Nat} (h : i < n) (hc : c ≠ 16384) (h0 : (tokenG g n i).1 = 0) : toksG g n i c = (((tokenG g n i).2.1, i, (tokenG g n i).2.2) :: (toksG g n (gapG g n (tokenG g n i).2.2) (c + 1)).1, (toksG g n (gapG g n (tokenG g n i).2.2) (c + 1)).2) := by
  obtain ⟨a, b, _⟩ := token_to h h0
  have := gap_ge g b
  have hb := gap_le g b
  show (if _ then _ else _) = _
  rw [if_pos h, if_neg hc, if_pos h0]
  unfold toksG
  rw [toksF_fuel (n - i) (n - gapG g n (tokenG g n i).2.2 + 1) _ _ (by omega) (by omega)]
/-- induction over a text's tokens -/
theorem toks_ind (g : Nat → Nat) {n : Nat} {P : Nat → Nat → Prop} (h : ∀ i c, i ≤ n → (i < n → (tokenG g n i).1 = 0 → P (gapG g n (tokenG g n i).2.2) (c + 1)) → P i c) : ∀ i c, i ≤ n → P i c := by
  have : ∀ d i c, n - i = d → i ≤ n → P i c := by
    intro d
    induction d using Nat.strongRecOn with
    | _ d ih =>
      intro i c hd hi
      refine h i c hi (fun hlt h0 => ?_)
      obtain ⟨a, b, _⟩ := token_to hlt h0
      have := gap_ge g b
      have hb := gap_le g b
      exact ih _ (by omega) _ _ rfl hb
  exact fun i c hi => this _ i c rfl hi

/-- tokens stand in order, and between them there is nothing -/
def Chain (g : Nat → Nat) (n : Nat) : Nat → List Tok → Prop
  | a, [] => gapG g n a = n
  | a, x :: l => a ≤ x.2.1 ∧ x.2.1 < n ∧ gapG g n a = x.2.1 ∧ tokenG g n x.2.1 = (0, x.1, x.2.2) ∧ x.2.1 < x.2.2 ∧ x.2.2 ≤ n ∧ 1 ≤ x.1 ∧ x.1 ≤ 5 ∧ Chain g n x.2.2 l
theorem toks_chain {g : Nat → Nat} {n : Nat} : ∀ i c, i ≤ n → ∀ a, a ≤ n → gapG g n a = i → (toksG g n i c).2.1 = 0 → Chain g n a (toksG g n i c).1 ∧ (toksG g n i c).2.2 = n := by
  refine toks_ind g (fun i c hi ih => ?_)
  intro a ha hga h0
  have hag := gap_ge g ha
  by_cases hlt : i < n
  · by_cases hc : c = 16384
    · subst hc; rw [toks_full hlt] at h0; cases h0
    · by_cases ht : (tokenG g n i).1 = 0
      · obtain ⟨q1, q2, q3, q4⟩ := token_to hlt ht
        rw [toks_next hlt hc ht] at h0 ⊢
        obtain ⟨r1, r2⟩ := ih hlt ht _ q2 rfl h0
        obtain ⟨e, _⟩ := token_facts hlt ht
        refine ⟨⟨by simp only; omega, hlt, hga, ?_, q1, q2, q3, q4, r1⟩, r2⟩
        show tokenG g n i = (0, (tokenG g n i).2.1, (tokenG g n i).2.2)
        rw [e]
      · rw [toks_bad hlt hc ht] at h0; exact absurd h0 ht
  · rw [toks_end hlt]
    exact ⟨by show gapG g n a = n; omega, by show i = n; omega⟩
/-- there are no more of them than bytes -/
theorem toks_len {g : Nat → Nat} {n : Nat} : ∀ i c, i ≤ n → (toksG g n i c).1.length ≤ n - i := by
  refine toks_ind g (fun i c hi ih => ?_)
  by_cases hlt : i < n
  · by_cases hc : c = 16384
    · subst hc; rw [toks_full hlt]; simp
    · by_cases ht : (tokenG g n i).1 = 0
      · obtain ⟨q1, q2, _⟩ := token_to hlt ht
        have := gap_ge g q2
        have := gap_le g q2
        have := ih hlt ht
        rw [toks_next hlt hc ht]
        simp only [List.length_cons]
        omega
      · rw [toks_bad hlt hc ht]; simp
  · rw [toks_end hlt]; simp
/-- .. and where a text is short, how many stand ahead doesn't matter -/
theorem toks_count {g : Nat → Nat} {n : Nat} : ∀ i c, i ≤ n → ∀ c', c + (n - i) ≤ 16384 → c' + (n - i) ≤ 16384 → toksG g n i c = toksG g n i c' := by
  refine toks_ind g (fun i c hi ih => ?_)
  intro c' h1 h2
  by_cases hlt : i < n
  · by_cases ht : (tokenG g n i).1 = 0
    · obtain ⟨q1, q2, _⟩ := token_to hlt ht
      have := gap_ge g q2
      rw [toks_next hlt (by omega) ht, toks_next hlt (by omega) ht, ih hlt ht (c' + 1) (by omega) (by omega)]
    · rw [toks_bad hlt (by omega) ht, toks_bad hlt (by omega) ht]
  · rw [toks_end hlt, toks_end hlt]
def moveT (k : Nat) (x : Tok) : Tok := (x.1, k + x.2.1, k + x.2.2)
theorem toks_shift {g g' : Nat → Nat} {n n' k : Nat} (hn : n = k + n') (hg : ∀ j, j < n' → g' j = g (k + j)) : ∀ i c, i ≤ n' → toksG g n (k + i) c = ((toksG g' n' i c).1.map (moveT k), (toksG g' n' i c).2.1, k + (toksG g' n' i c).2.2) := by
  refine toks_ind g' (fun i c hi ih => ?_)
  by_cases hlt : i < n'
  · have hlt' : k + i < n := by omega
    obtain ⟨t1, t2, t3⟩ := token_shift hlt hn hg
    by_cases hc : c = 16384
    · subst hc; rw [toks_full hlt, toks_full hlt']; rfl
    · by_cases ht : (tokenG g' n' i).1 = 0
      · obtain ⟨q1, q2, _⟩ := token_to hlt ht
        rw [toks_next hlt hc ht, toks_next hlt' hc (by rw [t1]; exact ht), t2, t3 ht, gap_shift hn hg _ q2, ih hlt ht]
        rfl
      · rw [toks_bad hlt hc ht, toks_bad hlt' hc (by rw [t1]; exact ht), t1]; rfl
  · rw [toks_end hlt, toks_end (show ¬ k + i < n by omega)]; rfl
/-- a text that a line end and more follow -/
theorem toks_more {g g' : Nat → Nat} {n n' : Nat} (hn : n < n') (hg : ∀ j, j < n → g' j = g j) (h10 : g' n = 10) : ∀ i c, i ≤ n → c + (n' - i) ≤ 16384 →
    toksG g' n' (if i < n then i else gapG g' n' (n + 1)) c =
      if (toksG g n i c).2.1 = 0 then ((toksG g n i c).1 ++ (toksG g' n' (gapG g' n' (n + 1)) (c + (toksG g n i c).1.length)).1, (toksG g' n' (gapG g' n' (n + 1)) (c + (toksG g n i c).1.length)).2)
      else toksG g n i c := by
  refine toks_ind g (fun i c hi ih => ?_)
  intro hcn
  by_cases hlt : i < n
  · have hlt' : i < n' := by omega
    have hc : c ≠ 16384 := by omega
    rw [if_pos hlt]
    have et := token_more hlt hn hg h10
    by_cases ht : (tokenG g n i).1 = 0
    · obtain ⟨q1, q2, _⟩ := token_to hlt ht
      have hge := gap_ge g q2
      have := ih hlt ht (by omega)
      rw [toks_next hlt' hc (by rw [et]; exact ht), et, toks_next hlt hc ht, gap_more hn hg h10 _ q2]
      rw [this]
      by_cases hz : (toksG g n (gapG g n (tokenG g n i).2.2) (c + 1)).2.1 = 0
      · rw [if_pos hz, if_pos hz]
        simp only [List.cons_append, List.length_cons, Nat.add_assoc, Nat.add_comm 1]
      · rw [if_neg hz, if_neg hz]
    · rw [toks_bad hlt' hc (by rw [et]; exact ht), et, toks_bad hlt hc ht, if_neg ht]
  · rw [if_neg hlt, toks_end hlt, if_pos rfl]
    simp
/-- Lex: tokens (with the end's), what is wrong, and where -/
def lexG (g : Nat → Nat) (n : Nat) : List Tok × Nat × Nat :=
  if 65536 < n then ([], 2, 0) else
  if (toksG g n (gapG g n 0) 0).2.1 = 0 then ((toksG g n (gapG g n 0) 0).1 ++ [(0, n, n)], 0, 0) else ([], (toksG g n (gapG g n 0) 0).2)

end Go.Proofs.Ytgcokjobnpjhhaa
