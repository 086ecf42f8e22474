/- Which token begins at a place, and all of a text's tokens: plain functions on bytes, no Go. -/
import Derived.Test.YtgcokjobnpjhhaaLexFacts
namespace Go.Proofs.Ytgcokjobnpjhhaa
set_option linter.unusedVariables false

def pairS (a b : Nat) : Bool := decide ((a = 61 ∧ b = 61) ∨ (a = 33 ∧ b = 61) ∨ (a = 60 ∧ b = 61) ∨ (a = 62 ∧ b = 61) ∨ (a = 38 ∧ b = 38) ∨ (a = 124 ∧ b = 124))
def oneL : List Nat := [123, 125, 40, 41, 91, 93, 59, 44, 46, 61, 60, 62, 43, 45, 42, 47, 37, 33, 63]
def oneS (c : Nat) : Bool := oneL.contains c
/-- how many bytes of a sign stand at a place -/
def signG (g : Nat → Nat) (n i : Nat) : Nat := if i + 1 < n ∧ pairS (g i) (g (i + 1)) = true then 2 else if oneS (g i) = true then 1 else 0
/-- how far a text in quotes reaches -/
def qskipF (g : Nat → Nat) : Nat → Nat → Bool → Nat
  | 0, i, _ => i
  | k + 1, i, b => if g i = 10 ∨ (g i = 34 ∧ b = false) then i else qskipF g k (i + 1) (decide (g i = 92) && !b)
def qskip (g : Nat → Nat) (n i : Nat) (b : Bool) : Nat := qskipF g (n - i) i b
def quotedG (g : Nat → Nat) (n i : Nat) : Nat := if qskip g n (i + 1) false < n ∧ g (qskip g n (i + 1) false) = 34 then qskip g n (i + 1) false + 1 else qskip g n (i + 1) false
def meantS (c : Nat) : Option Nat := if c = 110 then some 10 else if c = 116 then some 9 else if c = 34 then some 34 else if c = 92 then some 92 else none
/-- what a text in quotes says, or what is wrong with it -/
def saidF (g : Nat → Nat) : Nat → Nat → Bool → List Nat → Nat × List Nat
  | 0, _, _, _ => (61, [])
  | k + 1, i, b, acc =>
    if seenB (g i) = false then (60, []) else
    if b = true then (match meantS (g i) with | none => (5, []) | some m => saidF g k (i + 1) false (acc ++ [m])) else
    if g i = 34 then (0, acc) else if g i = 92 then saidF g k (i + 1) true acc else saidF g k (i + 1) false (acc ++ [g i])
def saidG (g : Nat → Nat) (n i : Nat) (b : Bool) (acc : List Nat) : Nat × List Nat := saidF g (n - i) i b acc
def numberG (g : Nat → Nat) (n i : Nat) : Nat × Nat :=
  if skipG digitB g n i + 1 < n ∧ g (skipG digitB g n i) = 46 ∧ digitB (g (skipG digitB g n i + 1)) = true then (3, skipG digitB g n (skipG digitB g n i + 1)) else (2, skipG digitB g n i)
/-- which kind of token begins at a place, and how far it reaches -/
def reachG (g : Nat → Nat) (n i : Nat) : Nat × Nat :=
  if letterB (g i) = true then (1, skipG inWordB g n i) else if digitB (g i) = true then numberG g n i else if g i = 34 then (4, quotedG g n i) else (5, i + signG g n i)
def longG (k : Nat) : Nat := if k = 1 then 64 else if k = 4 then 256 else 20
/-- the token at a place: what is wrong, its kind, where it ends -/
def tokenG (g : Nat → Nat) (n i : Nat) : Nat × Nat × Nat :=
  if longG (reachG g n i).1 < (reachG g n i).2 - i then (2, 0, 0) else
  if (reachG g n i).1 = 5 ∧ (reachG g n i).2 = i then (60, 0, 0) else
  if (reachG g n i).1 = 4 ∧ (saidG (fun j => g (i + j)) ((reachG g n i).2 - i) 1 false []).1 ≠ 0 then ((saidG (fun j => g (i + j)) ((reachG g n i).2 - i) 1 false []).1, 0, 0) else
  (0, (reachG g n i).1, (reachG g n i).2)

theorem qskip_go {g : Nat → Nat} {n i : Nat} {b : Bool} (h : i < n) (h1 : ¬ (g i = 10 ∨ (g i = 34 ∧ b = false))) : qskip g n i b = qskip g n (i + 1) (decide (g i = 92) && !b) := by
  unfold qskip
  rw [show n - i = (n - (i + 1)) + 1 by omega]
  show (if _ then _ else _) = _
  rw [if_neg h1]
theorem qskip_stop {g : Nat → Nat} {n i : Nat} {b : Bool} (h1 : g i = 10 ∨ (g i = 34 ∧ b = false)) : qskip g n i b = i := by
  unfold qskip
  cases n - i with
  | zero => rfl
  | succ k => show (if _ then _ else _) = _; rw [if_pos h1]
theorem qskip_end {g : Nat → Nat} {n i : Nat} {b : Bool} (h : n ≤ i) : qskip g n i b = i := by
  unfold qskip; rw [show n - i = 0 by omega]; rfl
theorem qskip_facts {g : Nat → Nat} {n : Nat} : ∀ (d i : Nat) (b : Bool), n - i = d → i ≤ n → i ≤ qskip g n i b ∧ qskip g n i b ≤ n ∧ (qskip g n i b < n → g (qskip g n i b) = 10 ∨ g (qskip g n i b) = 34) ∧ (∀ j, i ≤ j → j < qskip g n i b → g j ≠ 10)
  | 0, i, b, hd, h => by
    rw [qskip_end (by omega)]
    exact ⟨Nat.le_refl _, h, fun h' => by omega, fun j q1 q2 => by omega⟩
  | d + 1, i, b, hd, h => by
    by_cases h1 : g i = 10 ∨ (g i = 34 ∧ b = false)
    · rw [qskip_stop h1]
      exact ⟨Nat.le_refl _, h, fun _ => by rcases h1 with h | ⟨h, _⟩ <;> simp [h], fun j q1 q2 => by omega⟩
    · rw [qskip_go (n := n) (by omega) h1]
      obtain ⟨a, b', c, e⟩ := qskip_facts (g := g) (n := n) d (i + 1) (decide (g i = 92) && !b) (by omega) (by omega)
      refine ⟨by omega, b', c, fun j q1 q2 => ?_⟩
      by_cases hj : j = i
      · subst hj; intro h10; exact h1 (.inl h10)
      · exact e j (by omega) q2
theorem quoted_facts {g : Nat → Nat} {n i : Nat} (h : i < n) : i + 1 ≤ quotedG g n i ∧ quotedG g n i ≤ n := by
  obtain ⟨a, b, _, _⟩ := qskip_facts (g := g) (n := n) _ (i + 1) false rfl (by omega)
  unfold quotedG
  by_cases hc : qskip g n (i + 1) false < n ∧ g (qskip g n (i + 1) false) = 34
  · rw [if_pos hc]; omega
  · rw [if_neg hc]; omega
theorem sign_le {g : Nat → Nat} {n i : Nat} (h : i < n) : i + signG g n i ≤ n := by
  unfold signG
  split
  · omega
  · split <;> omega
theorem number_facts {g : Nat → Nat} {n i : Nat} (h : i < n) (hd : digitB (g i) = true) : i + 1 ≤ (numberG g n i).2 ∧ (numberG g n i).2 ≤ n ∧ ((numberG g n i).1 = 2 ∨ (numberG g n i).1 = 3) := by
  have h1 : i + 1 ≤ skipG digitB g n i := by rw [skip_yes h hd]; exact skip_ge _ _ (by omega)
  have h2 := skip_le digitB g (show i ≤ n by omega)
  unfold numberG
  split
  · have := skip_ge digitB g (show skipG digitB g n i + 1 ≤ n by omega)
    have := skip_le digitB g (show skipG digitB g n i + 1 ≤ n by omega)
    exact ⟨by simp only; omega, by simp only; omega, .inr rfl⟩
  · exact ⟨h1, h2, .inl rfl⟩
theorem reach_facts {g : Nat → Nat} {n i : Nat} (h : i < n) : i ≤ (reachG g n i).2 ∧ (reachG g n i).2 ≤ n ∧ ((reachG g n i).1 ≠ 5 → i + 1 ≤ (reachG g n i).2) ∧ 1 ≤ (reachG g n i).1 ∧ (reachG g n i).1 ≤ 5 := by
  unfold reachG
  split
  · rename_i hl
    have h1 : i + 1 ≤ skipG inWordB g n i := by rw [skip_yes h (by unfold inWordB; rw [hl]; rfl)]; exact skip_ge _ _ (by omega)
    have h2 := skip_le inWordB g (show i ≤ n by omega)
    exact ⟨by simp only; omega, h2, fun _ => h1, by simp, by simp⟩
  · split
    · rename_i hd
      obtain ⟨a, b, c⟩ := number_facts h hd
      exact ⟨by omega, b, fun _ => a, by omega, by omega⟩
    · split
      · obtain ⟨a, b⟩ := quoted_facts (g := g) h
        exact ⟨by simp only; omega, b, fun _ => a, by simp, by simp⟩
      · exact ⟨by simp only; omega, sign_le h, fun h => absurd rfl h, by simp, by simp⟩
theorem token_facts {g : Nat → Nat} {n i : Nat} (h : i < n) (h0 : (tokenG g n i).1 = 0) : tokenG g n i = (0, reachG g n i) ∧ i + 1 ≤ (reachG g n i).2 ∧ (reachG g n i).2 ≤ n ∧ (reachG g n i).2 - i ≤ longG (reachG g n i).1 ∧ 1 ≤ (reachG g n i).1 ∧ (reachG g n i).1 ≤ 5 ∧ ((reachG g n i).1 = 4 → (saidG (fun j => g (i + j)) ((reachG g n i).2 - i) 1 false []).1 = 0) := by
  obtain ⟨a, b, c, d, e⟩ := reach_facts (g := g) h
  unfold tokenG at h0 ⊢
  by_cases h1 : longG (reachG g n i).1 < (reachG g n i).2 - i
  · rw [if_pos h1] at h0; cases h0
  · rw [if_neg h1] at h0 ⊢
    by_cases h2 : (reachG g n i).1 = 5 ∧ (reachG g n i).2 = i
    · rw [if_pos h2] at h0; cases h0
    · rw [if_neg h2] at h0 ⊢
      by_cases h3 : (reachG g n i).1 = 4 ∧ (saidG (fun j => g (i + j)) ((reachG g n i).2 - i) 1 false []).1 ≠ 0
      · rw [if_pos h3] at h0; exact absurd h0 h3.2
      · rw [if_neg h3]
        refine ⟨rfl, ?_, b, by omega, d, e, fun h4 => ?_⟩
        · by_cases h5 : (reachG g n i).1 = 5
          · have : (reachG g n i).2 ≠ i := fun hh => h2 ⟨h5, hh⟩
            omega
          · exact c h5
        · by_cases hs : (saidG (fun j => g (i + j)) ((reachG g n i).2 - i) 1 false []).1 = 0
          · exact hs
          · exact absurd ⟨h4, hs⟩ h3

/-- what a text in quotes says hangs on its own bytes alone -/
theorem saidF_congr {g g' : Nat → Nat} : ∀ (k i : Nat) (b : Bool) (acc : List Nat), (∀ j, i ≤ j → j < i + k → g' j = g j) → saidF g' k i b acc = saidF g k i b acc
  | 0, _, _, _, _ => rfl
  | k + 1, i, b, acc, h => by
    have h0 := h i (Nat.le_refl _) (by omega)
    have ih := fun b acc => saidF_congr (g := g) (g' := g') k (i + 1) b acc (fun j q1 q2 => h j (by omega) (by omega))
    show (if _ then _ else if _ then (match meantS (g' i) with | none => _ | some m => _) else _) = (if _ then _ else if _ then (match meantS (g i) with | none => _ | some m => _) else _)
    rw [h0, ih, ih]
    cases meantS (g i) <;> simp only [ih]
theorem said_congr {g g' : Nat → Nat} {n i : Nat} {b : Bool} {acc : List Nat} (h : ∀ j, i ≤ j → j < n → g' j = g j) : saidG g' n i b acc = saidG g n i b acc := by
  unfold saidG
  exact saidF_congr _ _ _ _ (fun j q1 q2 => h j q1 (by omega))
theorem qskip_same {g g' : Nat → Nat} {n n' : Nat} : ∀ (d i i' : Nat) (b : Bool), n - i = d → i ≤ n → (∀ j, j < qskip g n i b - i → g' (i' + j) = g (i + j)) → i' + (qskip g n i b - i) ≤ n' → (i' + (qskip g n i b - i) < n' → g' (i' + (qskip g n i b - i)) = 10 ∨ (qskip g n i b < n ∧ g' (i' + (qskip g n i b - i)) = g (qskip g n i b))) → qskip g' n' i' b = i' + (qskip g n i b - i)
  | 0, i, i', b, hd, hi, h1, h2, h3 => by
    have eq := qskip_end (g := g) (n := n) (i := i) (b := b) (by omega)
    rw [eq] at h1 h2 h3 ⊢
    rw [Nat.sub_self] at h2 h3 ⊢
    by_cases h : i' < n'
    · rcases h3 (by omega) with h10 | ⟨h4, _⟩
      · exact qskip_stop (.inl h10)
      · omega
    · exact qskip_end (by omega)
  | d + 1, i, i', b, hd, hi, h1, h2, h3 => by
    by_cases hs : g i = 10 ∨ (g i = 34 ∧ b = false)
    · rw [qskip_stop hs] at h1 h2 h3 ⊢
      rw [Nat.sub_self] at h2 h3 ⊢
      by_cases h : i' < n'
      · rcases h3 (by omega) with h10 | ⟨h4, h5⟩
        · exact qskip_stop (.inl h10)
        · rw [Nat.add_zero] at h5
          exact qskip_stop (by rw [h5]; exact hs)
      · exact qskip_end (by omega)
    · obtain ⟨a, b', _, _⟩ := qskip_facts (g := g) (n := n) d (i + 1) (decide (g i = 92) && !b) (by omega) (by omega)
      rw [qskip_go (n := n) (by omega) hs] at h1 h2 h3 ⊢
      have e0 : g' i' = g i := by have := h1 0 (by omega); simpa using this
      have key := qskip_same (g := g) (g' := g') (n := n) (n' := n') d (i + 1) (i' + 1) (decide (g i = 92) && !b) (by omega) (by omega) (fun j hj => by
        have := h1 (j + 1) (by omega)
        rw [show i' + 1 + j = i' + (j + 1) by omega, this, show i + (j + 1) = i + 1 + j by omega]) (by omega) (fun h => by
        have h4 := h3 (by omega)
        rwa [show i' + (qskip g n (i + 1) (decide (g i = 92) && !b) - i) = i' + 1 + (qskip g n (i + 1) (decide (g i = 92) && !b) - (i + 1)) by omega] at h4)
      rw [qskip_go (n := n') (by omega) (by rw [e0]; exact hs), e0, key]
      omega

/-- a text that looks the same from a place on, up to where the token ends, and goes on with what doesn't belong to it -/
def Alike (g : Nat → Nat) (n i : Nat) (g' : Nat → Nat) (n' i' m : Nat) : Prop :=
  i + m ≤ n ∧ i' + m ≤ n' ∧ (∀ j, j < m → g' (i' + j) = g (i + j))
/-- .. behind it: the same (as far as there is anything), a line end, or nothing -/
def Behind (g : Nat → Nat) (n i : Nat) (g' : Nat → Nat) (n' i' m : Nat) : Prop :=
  (i' + m = n') ∨ (∃ d, m ≤ d ∧ i + d ≤ n ∧ i' + d ≤ n' ∧ (∀ j, m ≤ j → j < d → g' (i' + j) = g (i + j)) ∧ (i + d = n ∧ (i' + d = n' ∨ i' + d < n' ∧ g' (i' + d) = 10)))
theorem behind_at {g g' : Nat → Nat} {n i n' i' m : Nat} (h : Behind g n i g' n' i' m) (hlt : i' + m < n') : g' (i' + m) = 10 ∨ (i + m < n ∧ g' (i' + m) = g (i + m)) := by
  rcases h with h | ⟨d, h1, h2, h3, h4, h5, h6⟩
  · omega
  · by_cases hd : m = d
    · subst hd
      rcases h6 with h6 | ⟨_, h6⟩
      · omega
      · exact .inl h6
    · exact .inr ⟨by omega, h4 m (Nat.le_refl _) (by omega)⟩
theorem behind_next {g g' : Nat → Nat} {n i n' i' m : Nat} (h : Behind g n i g' n' i' m) (hlt : i' + m + 1 < n') : g' (i' + m) = 10 ∨ g' (i' + m + 1) = 10 ∨ (i + m + 1 < n ∧ g' (i' + m) = g (i + m) ∧ g' (i' + m + 1) = g (i + m + 1)) := by
  rcases h with h | ⟨d, h1, h2, h3, h4, h5, h6⟩
  · omega
  · by_cases hd : m = d
    · subst hd
      rcases h6 with h6 | ⟨_, h6⟩
      · omega
      · exact .inl h6
    · have e1 := h4 m (Nat.le_refl _) (by omega)
      by_cases hd1 : m + 1 = d
      · rcases h6 with h6 | ⟨_, h6⟩
        · omega
        · exact .inr (.inl (by rw [← hd1] at h6; exact h6))
      · have e2 := h4 (m + 1) (by omega) (by omega)
        exact .inr (.inr ⟨by omega, e1, e2⟩)
theorem skip_alike {p : Nat → Bool} (h10 : p 10 = false) {g g' : Nat → Nat} {n i n' i' m : Nat} (hi : i ≤ n) (hm : skipG p g n i = i + m) (ha : Alike g n i g' n' i' m) (hb : Behind g n i g' n' i' m) : skipG p g' n' i' = i' + m := by
  obtain ⟨h1, h2, h3⟩ := ha
  refine skip_of (by omega) h2 (fun j q1 q2 => ?_) (fun h => ?_)
  · have := h3 (j - i') (by omega)
    rw [show i' + (j - i') = j by omega] at this
    rw [this]
    exact skip_in hi _ (by omega) (by omega)
  · rcases behind_at hb h with h4 | ⟨h4, h5⟩
    · rw [h4]; exact h10
    · rw [h5]
      have := skip_stop (p := p) (g := g) hi (by omega)
      rwa [hm] at this
theorem inWord_nl : inWordB 10 = false := by decide
theorem digit_nl : digitB 10 = false := by decide
theorem behind_skip {g g' : Nat → Nat} {n i n' i' k m : Nat} (hb : Behind g n i g' n' i' (k + m)) : Behind g n (i + k) g' n' (i' + k) m := by
  rcases hb with h | ⟨d, h1, h2, h3, h4, h5, h6⟩
  · exact .inl (by omega)
  · refine .inr ⟨d - k, by omega, by omega, by omega, fun j q1 q2 => ?_, by omega, ?_⟩
    · have := h4 (k + j) (by omega) (by omega)
      rwa [show i' + k + j = i' + (k + j) by omega, show i + k + j = i + (k + j) by omega]
    · rcases h6 with h6 | ⟨h6, h7⟩
      · exact .inl (by omega)
      · exact .inr ⟨by omega, by rwa [show i' + k + (d - k) = i' + d by omega]⟩
theorem alike_skip {g g' : Nat → Nat} {n i n' i' k m : Nat} (ha : Alike g n i g' n' i' (k + m)) : Alike g n (i + k) g' n' (i' + k) m := by
  obtain ⟨h1, h2, h3⟩ := ha
  refine ⟨by omega, by omega, fun j hj => ?_⟩
  have := h3 (k + j) (by omega)
  rwa [show i' + k + j = i' + (k + j) by omega, show i + k + j = i + (k + j) by omega]
theorem alike_less {g g' : Nat → Nat} {n i n' i' k m : Nat} (ha : Alike g n i g' n' i' m) (h : k ≤ m) : Alike g n i g' n' i' k := ⟨by have := ha.1; omega, by have := ha.2.1; omega, fun j hj => ha.2.2 j (by omega)⟩
/-- a longer stretch that looks the same, with what is behind it: a shorter one -/
theorem behind_less {g g' : Nat → Nat} {n i n' i' k m : Nat} (ha : Alike g n i g' n' i' m) (hb : i' + m = n' → i + m < n → False) (hbb : Behind g n i g' n' i' m) (h : k ≤ m) : Behind g n i g' n' i' k := by
  obtain ⟨h1, h2, h3⟩ := ha
  rcases hbb with h0 | ⟨d, q1, q2, q3, q4, q5, q6⟩
  · have : i + m = n := by
      by_cases hx : i + m < n
      · exact absurd (hb h0 hx) (fun h => h)
      · omega
    exact .inr ⟨m, h, h1, h2, fun j _ hj => h3 j hj, this, .inl h0⟩
  · refine .inr ⟨d, by omega, q2, q3, fun j r1 r2 => ?_, q5, q6⟩
    by_cases hj : j < m
    · exact h3 j hj
    · exact q4 j (by omega) r2
theorem reach_alike {g g' : Nat → Nat} {n i n' i' m : Nat} (hi : i < n) (hi' : i' < n') (hm : (reachG g n i).2 = i + m) (h5 : (reachG g n i).1 = 5 → g' i' = g i) (ha : Alike g n i g' n' i' m) (hb : Behind g n i g' n' i' m) : reachG g' n' i' = ((reachG g n i).1, i' + m) := by
  obtain ⟨a1, a2, a3, a4, a5⟩ := reach_facts (g := g) hi
  have e0 : g' i' = g i := by
    by_cases h : (reachG g n i).1 = 5
    · exact h5 h
    · have := a3 h
      have := ha.2.2 0 (by omega)
      simpa using this
  unfold reachG at hm ⊢
  rw [e0]
  by_cases hl : letterB (g i) = true
  · rw [if_pos hl] at hm ⊢
    rw [if_pos hl, skip_alike inWord_nl (by omega) hm ha hb]
  · rw [if_neg hl] at hm ⊢
    rw [if_neg hl]
    by_cases hd : digitB (g i) = true
    · rw [if_pos hd] at hm ⊢
      rw [if_pos hd]
      have k1 := skip_ge digitB g (show i ≤ n by omega)
      have k2 := skip_le digitB g (show i ≤ n by omega)
      unfold numberG at hm ⊢
      by_cases hc : skipG digitB g n i + 1 < n ∧ g (skipG digitB g n i) = 46 ∧ digitB (g (skipG digitB g n i + 1)) = true
      · rw [if_pos hc] at hm ⊢
        obtain ⟨c1, c2, c3⟩ := hc
        have k3 : skipG digitB g n i + 2 ≤ skipG digitB g n (skipG digitB g n i + 1) := by
          rw [skip_yes c1 c3]; exact skip_ge _ _ (by omega)
        obtain ⟨q, hq⟩ : ∃ q, skipG digitB g n i = i + q := ⟨skipG digitB g n i - i, by omega⟩
        have e1 : skipG digitB g' n' i' = i' + q := by
          refine skip_of (by omega) (by have := ha.2.1; omega) (fun j q1 q2 => ?_) (fun h => ?_)
          · have := ha.2.2 (j - i') (by omega)
            rw [show i' + (j - i') = j by omega] at this
            rw [this]
            exact skip_in (n := n) (i := i) (by omega) _ (by omega) (by omega)
          · rw [ha.2.2 q (by omega), ← hq, c2]; rfl
        have e46 : g' (i' + q) = 46 := by rw [ha.2.2 q (by omega), ← hq]; exact c2
        have ed : digitB (g' (i' + q + 1)) = true := by
          have := ha.2.2 (q + 1) (by omega)
          rw [show i' + q + 1 = i' + (q + 1) by omega, this, show i + (q + 1) = i + q + 1 by omega, ← hq]; exact c3
        rw [e1, if_pos ⟨by have := ha.2.1; omega, e46, ed⟩]
        obtain ⟨r, hr⟩ : ∃ r, m = (q + 1) + r := ⟨m - (q + 1), by omega⟩
        subst hr
        have := skip_alike digit_nl (i := i + (q + 1)) (i' := i' + (q + 1)) (m := r) (by omega) (by rw [hq] at hm; rw [show i + (q + 1) = i + q + 1 by omega]; omega) (alike_skip ha) (behind_skip hb)
        rw [show i' + q + 1 = i' + (q + 1) by omega, this]
        simp only [Prod.mk.injEq, true_and]; omega
      · rw [if_neg hc] at hm ⊢
        have e1 := skip_alike digit_nl (by omega) hm ha hb
        rw [e1, if_neg]
        rintro ⟨c1, c2, c3⟩
        rcases behind_next hb c1 with h | h | ⟨r1, r2, r3⟩
        · omega
        · rw [h] at c3; exact absurd c3 (by decide)
        · simp only at hm
          exact hc ⟨by omega, by rw [hm, ← r2]; exact c2, by rw [hm, ← r3]; exact c3⟩
    · rw [if_neg hd] at hm ⊢
      rw [if_neg hd]
      by_cases hq : g i = 34
      · rw [if_pos hq] at hm ⊢
        rw [if_pos hq]
        obtain ⟨k1, k2, k3, k4⟩ := qskip_facts (g := g) (n := n) _ (i + 1) false rfl (by omega)
        unfold quotedG at hm ⊢
        by_cases hc : qskip g n (i + 1) false < n ∧ g (qskip g n (i + 1) false) = 34
        · rw [if_pos hc] at hm ⊢
          simp only at hm
          have key := qskip_same (g := g) (g' := g') (n := n) (n' := n') _ (i + 1) (i' + 1) false rfl (by omega) (fun j hj => by
            have := ha.2.2 (j + 1) (by omega)
            rw [show i' + 1 + j = i' + (j + 1) by omega, this, show i + (j + 1) = i + 1 + j by omega]) (by have := ha.2.1; omega) (fun h => .inr ⟨hc.1, by
            have := ha.2.2 (1 + (qskip g n (i + 1) false - (i + 1))) (by omega)
            rw [show i' + 1 + (qskip g n (i + 1) false - (i + 1)) = i' + (1 + (qskip g n (i + 1) false - (i + 1))) by omega, this, show i + (1 + (qskip g n (i + 1) false - (i + 1))) = qskip g n (i + 1) false by omega]⟩)
          have h34 : g' (qskip g' n' (i' + 1) false) = 34 := by
            rw [key]
            have := ha.2.2 (1 + (qskip g n (i + 1) false - (i + 1))) (by omega)
            rw [show i' + 1 + (qskip g n (i + 1) false - (i + 1)) = i' + (1 + (qskip g n (i + 1) false - (i + 1))) by omega, this, show i + (1 + (qskip g n (i + 1) false - (i + 1))) = qskip g n (i + 1) false by omega]
            exact hc.2
          rw [if_pos ⟨by rw [key]; have := ha.2.1; omega, h34⟩, key]
          simp only [Prod.mk.injEq, true_and]; omega
        · rw [if_neg hc] at hm ⊢
          simp only at hm
          have key := qskip_same (g := g) (g' := g') (n := n) (n' := n') _ (i + 1) (i' + 1) false rfl (by omega) (fun j hj => by
            have := ha.2.2 (j + 1) (by omega)
            rw [show i' + 1 + j = i' + (j + 1) by omega, this, show i + (j + 1) = i + 1 + j by omega]) (by have := ha.2.1; omega) (fun h => by
            have e := behind_at hb (by omega)
            rw [show i' + 1 + (qskip g n (i + 1) false - (i + 1)) = i' + m by omega]
            rcases e with e | ⟨e, e'⟩
            · exact .inl e
            · exact .inr ⟨by omega, by rw [e', show i + m = qskip g n (i + 1) false by omega]⟩)
          have key' : qskip g' n' (i' + 1) false = i' + m := by rw [key]; omega
          rw [key', if_neg]
          rintro ⟨c1, c2⟩
          rcases behind_at hb c1 with e | ⟨e, e'⟩
          · omega
          · exact hc ⟨by omega, by rw [hm, ← e']; exact c2⟩
      · rw [if_neg hq] at hm ⊢
        rw [if_neg hq]
        simp only at hm
        have hm' : signG g n i = m := by omega
        have : signG g' n' i' = m := by
          unfold signG at hm' ⊢
          by_cases hp : i + 1 < n ∧ pairS (g i) (g (i + 1)) = true
          · rw [if_pos hp] at hm'
            subst hm'
            have := ha.2.2 1 (by omega)
            rw [if_pos ⟨by have := ha.2.1; omega, by rw [e0, this]; exact hp.2⟩]
          · rw [if_neg hp] at hm'
            have hnp : ¬ (i' + 1 < n' ∧ pairS (g' i') (g' (i' + 1)) = true) := by
              rintro ⟨c1, c2⟩
              have p10 : ∀ x, pairS x 10 = false := fun x => by unfold pairS; simp
              by_cases ho : oneS (g i) = true
              · rw [if_pos ho] at hm'
                subst hm'
                rcases behind_at hb c1 with e | ⟨e, e'⟩
                · rw [e, p10] at c2; cases c2
                · rw [e0, e'] at c2; exact hp ⟨e, c2⟩
              · rw [if_neg ho] at hm'
                subst hm'
                rcases behind_next hb c1 with e | e | ⟨r1, r2, r3⟩
                · simp only [Nat.add_zero] at e
                  rw [e] at c2
                  exact absurd c2 (by unfold pairS; simp)
                · simp only [Nat.add_zero] at e
                  rw [e, p10] at c2; cases c2
                · simp only [Nat.add_zero] at r1 r2 r3
                  rw [e0, r3] at c2; exact hp ⟨r1, c2⟩
            rw [if_neg hnp, e0]; exact hm'
        rw [this]
theorem token_alike {g g' : Nat → Nat} {n i n' i' m : Nat} (hi : i < n) (hi' : i' < n') (hm : (reachG g n i).2 = i + m) (h5 : (reachG g n i).1 = 5 → g' i' = g i) (ha : Alike g n i g' n' i' m) (hb : Behind g n i g' n' i' m) : reachG g' n' i' = ((reachG g n i).1, i' + m) ∧ (tokenG g' n' i').1 = (tokenG g n i).1 ∧ (tokenG g' n' i').2.1 = (tokenG g n i).2.1 := by
  have hr := reach_alike hi hi' hm h5 ha hb
  refine ⟨hr, ?_⟩
  have hs : saidG (fun j => g' (i' + j)) (i' + m - i') 1 false [] = saidG (fun j => g (i + j)) ((reachG g n i).2 - i) 1 false [] := by
    rw [hm, Nat.add_sub_cancel_left, Nat.add_sub_cancel_left]
    exact said_congr (fun j _ hj => ha.2.2 j hj)
  unfold tokenG
  rw [hr]
  simp only
  rw [hs, show i' + m - i' = (reachG g n i).2 - i by omega]
  by_cases h1 : longG (reachG g n i).1 < (reachG g n i).2 - i
  · rw [if_pos h1, if_pos h1]; exact ⟨rfl, rfl⟩
  · rw [if_neg h1, if_neg h1]
    by_cases h2 : (reachG g n i).1 = 5 ∧ (reachG g n i).2 = i
    · rw [if_pos h2, if_pos ⟨h2.1, by omega⟩]; exact ⟨rfl, rfl⟩
    · rw [if_neg h2, if_neg (fun h => h2 ⟨h.1, by omega⟩)]
      split <;> exact ⟨rfl, rfl⟩
/-- a token, cut by itself -/
theorem token_cut {g g' : Nat → Nat} {n i : Nat} (hi : i < n) (h0 : (tokenG g n i).1 = 0) (hg : ∀ j, j < (tokenG g n i).2.2 - i → g' j = g (i + j)) : tokenG g' ((tokenG g n i).2.2 - i) 0 = (0, (tokenG g n i).2.1, (tokenG g n i).2.2 - i) := by
  obtain ⟨e, a, b, c, d, f, _⟩ := token_facts hi h0
  rw [e] at hg ⊢
  simp only at hg ⊢
  obtain ⟨m, hm⟩ : ∃ m, (reachG g n i).2 = i + m := ⟨(reachG g n i).2 - i, by omega⟩
  rw [hm, Nat.add_sub_cancel_left] at hg ⊢
  obtain ⟨k1, k2, k3⟩ := token_alike (g' := g') (n' := m) (i' := 0) hi (by omega) hm (fun _ => by have := hg 0 (by omega); simpa using this) ⟨by omega, by omega, fun j hj => by rw [Nat.zero_add]; exact hg j hj⟩ (.inl (by omega))
  have h0' : (tokenG g' m 0).1 = 0 := by rw [k2]; exact h0
  obtain ⟨e', _⟩ := token_facts (show 0 < m by omega) h0'
  rw [e', k1, Nat.zero_add]
/-- a token of a text that a line end and more follow -/
theorem token_more {g g' : Nat → Nat} {n n' i : Nat} (hi : i < n) (hn : n < n') (hg : ∀ j, j < n → g' j = g j) (h10 : g' n = 10) : tokenG g' n' i = tokenG g n i := by
  obtain ⟨a1, a2, a3, a4, a5⟩ := reach_facts (g := g) hi
  obtain ⟨m, hm⟩ : ∃ m, (reachG g n i).2 = i + m := ⟨(reachG g n i).2 - i, by omega⟩
  obtain ⟨k1, k2, k3⟩ := token_alike (g' := g') (n' := n') (i' := i) hi (by omega) hm (fun _ => hg i hi) ⟨by omega, by omega, fun j hj => hg _ (by omega)⟩
    (.inr ⟨n - i, by omega, by omega, by omega, fun j q1 q2 => hg _ (by omega), by omega, .inr ⟨by omega, by rw [show i + (n - i) = n by omega]; exact h10⟩⟩)
  rw [← hm] at k1
  have kr : reachG g' n' i = reachG g n i := by rw [k1]
  have hs : saidG (fun j => g' (i + j)) ((reachG g n i).2 - i) 1 false [] = saidG (fun j => g (i + j)) ((reachG g n i).2 - i) 1 false [] := said_congr (fun j _ hj => hg _ (by omega))
  unfold tokenG
  rw [kr, hs]
/-- .. seen from another beginning -/
theorem token_shift {g g' : Nat → Nat} {n n' k i : Nat} (hi : i < n') (hn : n = k + n') (hg : ∀ j, j < n' → g' j = g (k + j)) : (tokenG g n (k + i)).1 = (tokenG g' n' i).1 ∧ (tokenG g n (k + i)).2.1 = (tokenG g' n' i).2.1 ∧ ((tokenG g' n' i).1 = 0 → (tokenG g n (k + i)).2.2 = k + (tokenG g' n' i).2.2) := by
  obtain ⟨a1, a2, a3, a4, a5⟩ := reach_facts (g := g') hi
  obtain ⟨m, hm⟩ : ∃ m, (reachG g' n' i).2 = i + m := ⟨(reachG g' n' i).2 - i, by omega⟩
  have hg' : ∀ j, i + j < n' → g (k + i + j) = g' (i + j) := fun j hj => by rw [hg _ hj, show k + i + j = k + (i + j) by omega]
  obtain ⟨k1, k2, k3⟩ := token_alike (g := g') (g' := g) (n := n') (n' := n) (i := i) (i' := k + i) hi (by omega) hm (fun _ => (hg i hi).symm) ⟨by omega, by omega, fun j hj => hg' j (by omega)⟩
    (.inr ⟨n' - i, by omega, by omega, by omega, fun j q1 q2 => hg' j (by omega), by omega, .inl (by omega)⟩)
  refine ⟨k2, k3, fun h0 => ?_⟩
  obtain ⟨e, _⟩ := token_facts hi h0
  obtain ⟨e', _⟩ := token_facts (g := g) (n := n) (i := k + i) (by omega) (by rw [k2]; exact h0)
  rw [e', e, k1]
  simp only
  omega

end Go.Proofs.Ytgcokjobnpjhhaa
