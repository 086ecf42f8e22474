/- How a text is cut into tokens: plain functions on bytes, no Go. -/
import Derived.Below
namespace Go.Proofs.Ytgcokjobnpjhhaa
set_option linter.unusedVariables false

/-- a text's byte at a place; 0 where there is none -/
def byS (s : ByteArray) (k : Nat) : Nat := if h : k < s.size then (s[k]'h).toNat else 0
theorem byS_get (s : ByteArray) (k : Nat) (h : k < s.size) : byS s k = s[k].toNat := by unfold byS; rw [dif_pos h]
theorem byS_lt (s : ByteArray) (k : Nat) : byS s k < 256 := by
  unfold byS
  split
  · exact UInt8.toNat_lt _
  · omega
def letterB (c : Nat) : Bool := decide (97 ≤ c ∧ c ≤ 122) || decide (65 ≤ c ∧ c ≤ 90) || decide (c = 95)
def digitB (c : Nat) : Bool := decide (48 ≤ c ∧ c ≤ 57)
def inWordB (c : Nat) : Bool := letterB c || digitB c
def blankB (c : Nat) : Bool := decide (c = 32) || decide (c = 9) || decide (c = 10) || decide (c = 13)
def lineB (c : Nat) : Bool := decide (c ≠ 10)
def seenB (c : Nat) : Bool := decide (32 ≤ c ∧ c ≤ 126)

/-- the first place from one on whose byte isn't of a sort -/
def skipF (p : Nat → Bool) (g : Nat → Nat) : Nat → Nat → Nat
  | 0, i => i
  | k + 1, i => if p (g i) = true then skipF p g k (i + 1) else i
def skipG (p : Nat → Bool) (g : Nat → Nat) (n i : Nat) : Nat := skipF p g (n - i) i
theorem skip_yes {p : Nat → Bool} {g : Nat → Nat} {n i : Nat} (h : i < n) (hp : p (g i) = true) : skipG p g n i = skipG p g n (i + 1) := by
  unfold skipG
  rw [show n - i = (n - (i + 1)) + 1 by omega]
  show (if p (g i) = true then _ else _) = _
  rw [if_pos hp]
theorem skip_no {p : Nat → Bool} {g : Nat → Nat} {n i : Nat} (hp : p (g i) = false) : skipG p g n i = i := by
  unfold skipG
  cases n - i with
  | zero => rfl
  | succ k => show (if p (g i) = true then _ else _) = _; rw [if_neg (by simp [hp])]
theorem skip_end {p : Nat → Bool} {g : Nat → Nat} {n i : Nat} (h : n ≤ i) : skipG p g n i = i := by
  unfold skipG; rw [show n - i = 0 by omega]; rfl
theorem skip_eq {p : Nat → Bool} {g : Nat → Nat} {n : Nat} : ∀ (d i m : Nat), m - i = d → i ≤ m → m ≤ n → (∀ j, i ≤ j → j < m → p (g j) = true) → (m < n → p (g m) = false) → skipG p g n i = m
  | 0, i, m, hd, h1, h2, h3, h4 => by
    obtain rfl : i = m := by omega
    by_cases h : i < n
    · exact skip_no (h4 h)
    · exact skip_end (by omega)
  | d + 1, i, m, hd, h1, h2, h3, h4 => by
    rw [skip_yes (by omega) (h3 i (Nat.le_refl _) (by omega))]
    exact skip_eq d (i + 1) m (by omega) (by omega) h2 (fun j q1 q2 => h3 j (by omega) q2) h4
theorem skip_facts {p : Nat → Bool} {g : Nat → Nat} {n : Nat} : ∀ (d i : Nat), n - i = d → i ≤ n → i ≤ skipG p g n i ∧ skipG p g n i ≤ n ∧ (∀ j, i ≤ j → j < skipG p g n i → p (g j) = true) ∧ (skipG p g n i < n → p (g (skipG p g n i)) = false)
  | 0, i, hd, h => by
    rw [skip_end (by omega)]
    exact ⟨Nat.le_refl _, h, fun j _ _ => by omega, fun _ => by omega⟩
  | d + 1, i, hd, h => by
    cases hp : p (g i)
    · rw [skip_no hp]
      exact ⟨Nat.le_refl _, h, fun j _ _ => by omega, fun _ => hp⟩
    · rw [skip_yes (n := n) (by omega) hp]
      obtain ⟨a, b, c, e⟩ := skip_facts (p := p) (g := g) (n := n) d (i + 1) (by omega) (by omega)
      refine ⟨by omega, b, fun j q1 q2 => ?_, e⟩
      by_cases hj : j = i
      · rw [hj]; exact hp
      · exact c j (by omega) q2
theorem skip_ge (p : Nat → Bool) (g : Nat → Nat) {n i : Nat} (h : i ≤ n) : i ≤ skipG p g n i := (skip_facts _ i rfl h).1
theorem skip_le (p : Nat → Bool) (g : Nat → Nat) {n i : Nat} (h : i ≤ n) : skipG p g n i ≤ n := (skip_facts _ i rfl h).2.1
theorem skip_in {p : Nat → Bool} {g : Nat → Nat} {n i : Nat} (h : i ≤ n) : ∀ j, i ≤ j → j < skipG p g n i → p (g j) = true := (skip_facts _ i rfl h).2.2.1
theorem skip_stop {p : Nat → Bool} {g : Nat → Nat} {n i : Nat} (h : i ≤ n) : skipG p g n i < n → p (g (skipG p g n i)) = false := (skip_facts _ i rfl h).2.2.2
theorem skip_of {p : Nat → Bool} {g : Nat → Nat} {n i m : Nat} (h1 : i ≤ m) (h2 : m ≤ n) (h3 : ∀ j, i ≤ j → j < m → p (g j) = true) (h4 : m < n → p (g m) = false) : skipG p g n i = m := skip_eq (m - i) i m rfl h1 h2 h3 h4
/-- the same seen from another beginning -/
theorem skip_shift {p : Nat → Bool} {g g' : Nat → Nat} {n n' k i : Nat} (hi : i ≤ n') (hn : n = k + n') (hg : ∀ j, j < n' → g' j = g (k + j)) : skipG p g n (k + i) = k + skipG p g' n' i := by
  have a := skip_ge p g' hi
  have b := skip_le p g' hi
  refine skip_of (by omega) (by omega) (fun j q1 q2 => ?_) (fun h => ?_)
  · have := skip_in (p := p) (g := g') hi (j - k) (by omega) (by omega)
    rwa [hg _ (by omega), show k + (j - k) = j by omega] at this
  · have := skip_stop (p := p) (g := g') hi (by omega)
    rwa [hg _ (by omega)] at this

/-- where what isn't between tokens begins -/
def comB (g : Nat → Nat) (n a : Nat) : Bool := decide (a + 1 < n) && decide (g a = 47) && decide (g (a + 1) = 47)
theorem comB_iff {g : Nat → Nat} {n a : Nat} : comB g n a = true ↔ a + 1 < n ∧ g a = 47 ∧ g (a + 1) = 47 := by
  unfold comB; simp [and_assoc]
theorem comB_no {g : Nat → Nat} {n a : Nat} (h : ¬ (a + 1 < n ∧ g a = 47 ∧ g (a + 1) = 47)) : comB g n a = false := by
  cases hc : comB g n a
  · rfl
  · exact absurd (comB_iff.1 hc) h
def gapF (g : Nat → Nat) (n : Nat) : Nat → Nat → Nat
  | 0, i => i
  | k + 1, i => if comB g n (skipG blankB g n i) = true then gapF g n k (skipG lineB g n (skipG blankB g n i)) else skipG blankB g n i
def gapG (g : Nat → Nat) (n i : Nat) : Nat := gapF g n (n - i + 1) i
theorem line_past {g : Nat → Nat} {n a : Nat} (h : comB g n a = true) : a + 2 ≤ skipG lineB g n a ∧ skipG lineB g n a ≤ n := by
  obtain ⟨h1, h2, h3⟩ := comB_iff.1 h
  rw [skip_yes (by omega) (by unfold lineB; simp [h2]), skip_yes (by omega) (by unfold lineB; simp [h3])]
  exact ⟨skip_ge _ _ (by omega), skip_le _ _ (by omega)⟩
theorem gapF_fuel {g : Nat → Nat} {n : Nat} : ∀ (k m i : Nat), i ≤ n → n - i < k → n - i < m → gapF g n k i = gapF g n m i
  | 0, _, i, _, h, _ => by omega
  | _, 0, i, _, _, h => by omega
  | k + 1, m + 1, i, hi, h1, h2 => by
    have ha := skip_ge blankB g hi
    show (if _ then _ else _) = (if _ then _ else _)
    cases hc : comB g n (skipG blankB g n i)
    · rfl
    · rw [if_pos rfl, if_pos rfl]
      have := line_past hc
      exact gapF_fuel k m _ (by omega) (by omega) (by omega)
theorem gap_eq {g : Nat → Nat} {n i : Nat} (hi : i ≤ n) : gapG g n i = if comB g n (skipG blankB g n i) = true then gapG g n (skipG lineB g n (skipG blankB g n i)) else skipG blankB g n i := by
  have ha := skip_ge blankB g hi
  show (if _ then _ else _) = _
  cases hc : comB g n (skipG blankB g n i)
  · rfl
  · rw [if_pos rfl, if_pos rfl]
    have := line_past hc
    unfold gapG
    exact gapF_fuel _ _ _ (by omega) (by omega) (by omega)
theorem gap_com {g : Nat → Nat} {n i : Nat} (hi : i ≤ n) (h : comB g n (skipG blankB g n i) = true) : gapG g n i = gapG g n (skipG lineB g n (skipG blankB g n i)) := by rw [gap_eq hi, if_pos h]
theorem gap_stop {g : Nat → Nat} {n i : Nat} (hi : i ≤ n) (h : comB g n (skipG blankB g n i) = false) : gapG g n i = skipG blankB g n i := by rw [gap_eq hi, if_neg (by simp [h])]
theorem gap_ind {n : Nat} {P : Nat → Prop} (g : Nat → Nat) (h : ∀ i, i ≤ n → (comB g n (skipG blankB g n i) = true → P (skipG lineB g n (skipG blankB g n i))) → P i) : ∀ i, i ≤ n → P i := by
  have : ∀ d i, n - i = d → i ≤ n → P i := by
    intro d
    induction d using Nat.strongRecOn with
    | _ d ih =>
      intro i hd hi
      refine h i hi (fun hc => ?_)
      have ha := skip_ge blankB g hi
      have := line_past hc
      exact ih _ (by omega) _ rfl (by omega)
  exact fun i hi => this _ i rfl hi
theorem gap_facts (g : Nat → Nat) {n : Nat} : ∀ i, i ≤ n → i ≤ gapG g n i ∧ gapG g n i ≤ n ∧ (gapG g n i < n → blankB (g (gapG g n i)) = false) ∧ comB g n (gapG g n i) = false := by
  refine gap_ind g (fun i hi ih => ?_)
  have ha := skip_ge blankB g hi
  cases hc : comB g n (skipG blankB g n i)
  · rw [gap_stop hi hc]
    exact ⟨ha, skip_le _ _ hi, skip_stop hi, hc⟩
  · rw [gap_com hi hc]
    have := line_past hc
    obtain ⟨a, b, c, e⟩ := ih hc
    exact ⟨by omega, b, c, e⟩
theorem gap_ge (g : Nat → Nat) {n i : Nat} (h : i ≤ n) : i ≤ gapG g n i := (gap_facts g i h).1
theorem gap_le (g : Nat → Nat) {n i : Nat} (h : i ≤ n) : gapG g n i ≤ n := (gap_facts g i h).2.1
/-- the document's own steps -/
theorem gap_blank {g : Nat → Nat} {n i : Nat} (h : i < n) (hb : blankB (g i) = true) : gapG g n i = gapG g n (i + 1) := by
  rw [gap_eq (by omega), gap_eq (show i + 1 ≤ n from h), skip_yes h hb]
theorem gap_line {g : Nat → Nat} {n i : Nat} (hc : comB g n i = true) : gapG g n i = gapG g n (skipG lineB g n i) := by
  obtain ⟨h1, h2, h3⟩ := comB_iff.1 hc
  have e : skipG blankB g n i = i := skip_no (by rw [h2]; rfl)
  have := gap_com (g := g) (n := n) (i := i) (by omega) (by rw [e]; exact hc)
  rwa [e] at this
theorem gap_here {g : Nat → Nat} {n i : Nat} (hi : i ≤ n) (hb : i < n → blankB (g i) = false) (hc : comB g n i = false) : gapG g n i = i := by
  have e : skipG blankB g n i = i := by
    by_cases h : i < n
    · exact skip_no (hb h)
    · exact skip_end (by omega)
  rw [gap_stop hi (by rw [e]; exact hc), e]
theorem gap_end {g : Nat → Nat} {n : Nat} : gapG g n n = n := gap_here (Nat.le_refl _) (fun h => by omega) (comB_no (by omega))
/-- .. in a text that ends where it ends -/
theorem gap_cut {g g' : Nat → Nat} {n m : Nat} (hg : ∀ j, j < m → g' j = g j) : ∀ i, i ≤ n → gapG g n i = m → gapG g' m i = m := by
  refine gap_ind g (fun i hi ih => ?_)
  intro hm
  have ha := skip_ge blankB g hi
  have hal := skip_le blankB g hi
  cases hc : comB g n (skipG blankB g n i)
  · rw [gap_stop hi hc] at hm
    have e : skipG blankB g' m i = m := skip_of (by omega) (Nat.le_refl _) (fun j q1 q2 => by rw [hg j q2]; exact skip_in hi j q1 (by omega)) (fun h => by omega)
    rw [gap_stop (by omega) (by rw [e]; exact comB_no (by omega)), e]
  · have h2 := line_past hc
    rw [gap_com hi hc] at hm
    obtain ⟨c1, c2, c3⟩ := comB_iff.1 hc
    have hb := gap_ge g (show skipG lineB g n (skipG blankB g n i) ≤ n by omega)
    have hb2 := gap_le g (show skipG lineB g n (skipG blankB g n i) ≤ n by omega)
    have e : skipG blankB g' m i = skipG blankB g n i := skip_of (by omega) (by omega) (fun j q1 q2 => by rw [hg j (by omega)]; exact skip_in hi j q1 q2) (fun h => by rw [hg _ (by omega), c2]; rfl)
    have hc' : comB g' m (skipG blankB g' m i) = true := by rw [e]; exact comB_iff.2 ⟨by omega, by rw [hg _ (by omega)]; exact c2, by rw [hg _ (by omega)]; exact c3⟩
    have e2 : skipG lineB g' m (skipG blankB g n i) = skipG lineB g n (skipG blankB g n i) := skip_of (by omega) (by omega) (fun j q1 q2 => by rw [hg j (by omega)]; exact skip_in (by omega) j q1 q2) (fun h => by rw [hg _ (by omega)]; exact skip_stop (by omega) (by omega))
    rw [gap_com (show i ≤ m by omega) hc', e, e2]
    exact ih hc hm
/-- .. in a text that a line end and more follow -/
theorem gap_more {g g' : Nat → Nat} {n n' : Nat} (hn : n < n') (hg : ∀ j, j < n → g' j = g j) (h10 : g' n = 10) : ∀ i, i ≤ n → gapG g' n' i = if gapG g n i < n then gapG g n i else gapG g' n' (n + 1) := by
  refine gap_ind g (fun i hi ih => ?_)
  have ha := skip_ge blankB g hi
  have hal := skip_le blankB g hi
  have last : gapG g' n' n = gapG g' n' (n + 1) := gap_blank hn (by rw [h10]; rfl)
  cases hc : comB g n (skipG blankB g n i)
  · rw [gap_stop hi hc]
    by_cases hlt : skipG blankB g n i < n
    · have e : skipG blankB g' n' i = skipG blankB g n i := skip_of (by omega) (by omega) (fun j q1 q2 => by rw [hg j (by omega)]; exact skip_in hi j q1 q2) (fun h => by rw [hg _ hlt]; exact skip_stop hi hlt)
      rw [if_pos hlt, gap_stop (by omega) (by
        rw [e]
        refine comB_no (fun ⟨q1, q2, q3⟩ => ?_)
        by_cases hx : skipG blankB g n i + 1 < n
        · have := comB_iff.2 ⟨hx, (hg _ hlt).symm.trans q2, (hg _ hx).symm.trans q3⟩
          rw [hc] at this; cases this
        · rw [show skipG blankB g n i + 1 = n by omega, h10] at q3; omega), e]
    · rw [if_neg hlt]
      have hm : skipG blankB g n i = n := by omega
      have : ∀ d j, n - j = d → i ≤ j → j ≤ n → gapG g' n' j = gapG g' n' (n + 1) := by
        intro d
        induction d with
        | zero => intro j q1 q2 q3; (obtain rfl : j = n := (by omega)); exact last
        | succ d ihd =>
          intro j q1 q2 q3
          rw [gap_blank (by omega) (by rw [hg j (by omega)]; exact skip_in hi j q2 (by omega))]
          exact ihd (j + 1) (by omega) (by omega) (by omega)
      exact this _ i rfl (Nat.le_refl _) hi
  · have h2 := line_past hc
    obtain ⟨c1, c2, c3⟩ := comB_iff.1 hc
    have e : skipG blankB g' n' i = skipG blankB g n i := skip_of (by omega) (by omega) (fun j q1 q2 => by rw [hg j (by omega)]; exact skip_in hi j q1 q2) (fun h => by rw [hg _ (by omega), c2]; rfl)
    have hc' : comB g' n' (skipG blankB g' n' i) = true := by rw [e]; exact comB_iff.2 ⟨by omega, by rw [hg _ (by omega)]; exact c2, by rw [hg _ (by omega)]; exact c3⟩
    have e2 : skipG lineB g' n' (skipG blankB g n i) = skipG lineB g n (skipG blankB g n i) := skip_of (by omega) (by omega) (fun j q1 q2 => by rw [hg j (by omega)]; exact skip_in (by omega) j q1 q2) (fun h => by
      by_cases hx : skipG lineB g n (skipG blankB g n i) < n
      · rw [hg _ hx]; exact skip_stop (by omega) hx
      · rw [show skipG lineB g n (skipG blankB g n i) = n by omega, h10]; rfl)
    rw [gap_com (by omega) hc', e, e2, gap_com hi hc]
    exact ih hc
theorem com_shift {g g' : Nat → Nat} {n n' k a : Nat} (ha : a ≤ n') (hn : n = k + n') (hg : ∀ j, j < n' → g' j = g (k + j)) : comB g n (k + a) = comB g' n' a := by
  unfold comB
  by_cases h : a + 1 < n'
  · rw [hg a (by omega), hg (a + 1) h, show k + a + 1 = k + (a + 1) by omega, decide_eq_true h, decide_eq_true (show k + (a + 1) < n by omega)]
  · rw [decide_eq_false h, decide_eq_false (show ¬ k + a + 1 < n by omega)]; rfl
theorem gap_shift {g g' : Nat → Nat} {n n' k : Nat} (hn : n = k + n') (hg : ∀ j, j < n' → g' j = g (k + j)) : ∀ i, i ≤ n' → gapG g n (k + i) = k + gapG g' n' i := by
  refine gap_ind g' (fun i hi ih => ?_)
  have e := skip_shift (p := blankB) hi hn hg
  have hal := skip_le blankB g' hi
  have hcs := com_shift (g := g) (g' := g') hal hn hg
  cases hc : comB g' n' (skipG blankB g' n' i)
  · rw [gap_stop hi hc, gap_stop (by omega) (by rw [e, hcs]; exact hc), e]
  · have h2 := line_past hc
    rw [gap_com hi hc, gap_com (by omega) (by rw [e, hcs]; exact hc), e, skip_shift (p := lineB) hal hn hg]
    exact ih hc

end Go.Proofs.Ytgcokjobnpjhhaa
