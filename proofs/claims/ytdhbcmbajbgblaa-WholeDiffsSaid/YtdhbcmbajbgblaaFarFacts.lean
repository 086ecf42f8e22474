/- Facts on the fewest bytes: ways through two texts, the rows that come farthest, the table of all pairs. -/
import Derived.Test.YtdhbcmbajbgblaaThenFacts
namespace Go.Proofs.Ytdhbcmbajbgblaa
set_option linter.unusedVariables false
/- the fewest bytes -/
/-- one comes to a place of both texts with so many bytes taken away or put in (places behind a text's end count too) -/
inductive Way (a b : ByteArray) : Nat → Nat → Nat → Prop
  | start : Way a b 0 0 0
  | del {n x y : Nat} : Way a b n x y → Way a b (n + 1) (x + 1) y
  | ins {n x y : Nat} : Way a b n x y → Way a b (n + 1) x (y + 1)
  | keep {n x y : Nat} : Way a b n x y → x < a.size → y < b.size → by' a x = by' b y → Way a b n (x + 1) (y + 1)

theorem Way.clip {a b : ByteArray} {n x y : Nat} (h : Way a b n x y) : ∃ m, Way a b m (min x a.size) (min y b.size) ∧ m + (x - a.size) + (y - b.size) ≤ n := by
  induction h with
  | start => exact ⟨0, by simpa using Way.start, by simp⟩
  | @del n x y h ih =>
    obtain ⟨m, h1, h2⟩ := ih
    by_cases hq : x < a.size
    · refine ⟨m + 1, ?_, by omega⟩
      have := h1.del
      rwa [show min x a.size + 1 = min (x + 1) a.size by omega] at this
    · refine ⟨m, ?_, by omega⟩
      rwa [show min x a.size = min (x + 1) a.size by omega] at h1
  | @ins n x y h ih =>
    obtain ⟨m, h1, h2⟩ := ih
    by_cases hq : y < b.size
    · refine ⟨m + 1, ?_, by omega⟩
      have := h1.ins
      rwa [show min y b.size + 1 = min (y + 1) b.size by omega] at this
    · refine ⟨m, ?_, by omega⟩
      rwa [show min y b.size = min (y + 1) b.size by omega] at h1
  | @keep n x y h hx hy he ih =>
    obtain ⟨m, h1, h2⟩ := ih
    refine ⟨m, ?_, by omega⟩
    rw [show min x a.size = x by omega, show min y b.size = y by omega] at h1
    rw [show min (x + 1) a.size = x + 1 by omega, show min (y + 1) b.size = y + 1 by omega]
    exact h1.keep hx hy he
theorem Way.side {a b : ByteArray} {n x y : Nat} (h : Way a b n x y) : ∃ i, i ≤ n ∧ x + n = y + 2 * i := by
  induction h with
  | start => exact ⟨0, by simp⟩
  | del h ih => obtain ⟨i, h1, h2⟩ := ih; exact ⟨i + 1, by omega, by omega⟩
  | ins h ih => obtain ⟨i, h1, h2⟩ := ih; exact ⟨i, by omega, by omega⟩
  | keep h hx hy he ih => obtain ⟨i, h1, h2⟩ := ih; exact ⟨i, by omega, by omega⟩
theorem Way.dels {a b : ByteArray} {n x y : Nat} (h : Way a b n x y) : ∀ k, Way a b (n + k) (x + k) y
  | 0 => h
  | k + 1 => (Way.dels h k).del
theorem Way.inss {a b : ByteArray} {n x y : Nat} (h : Way a b n x y) : ∀ k, Way a b (n + k) x (y + k)
  | 0 => h
  | k + 1 => (Way.inss h k).ins
theorem Way.keeps {a b : ByteArray} {n x y : Nat} (h : Way a b n x y) : ∀ k, x + k ≤ a.size → y + k ≤ b.size → (∀ j, j < k → by' a (x + j) = by' b (y + j)) → Way a b n (x + k) (y + k)
  | 0, _, _, _ => h
  | k + 1, h1, h2, h3 => (Way.keeps h k (by omega) (by omega) (fun j hj => h3 j (by omega))).keep (by omega) (by omega) (h3 k (by omega))
theorem Way.swap {a b : ByteArray} {n x y : Nat} (h : Way a b n x y) : Way b a n y x := by
  induction h with
  | start => exact .start
  | del h ih => exact ih.ins
  | ins h ih => exact ih.del
  | keep h hx hy he ih => exact ih.keep hy hx he.symm
theorem by_of_ext {s t : ByteArray} {a b n : Nat} (h : s.extract a (a + n) = t.extract b (b + n)) (hs : a + n ≤ s.size) (ht : b + n ≤ t.size) : ∀ j, j < n → by' s (a + j) = by' t (b + j) := by
  intro j hj
  have h1 := by_extract (s := s) (i := a) (j := a + n) (k := j) (by omega) hs
  have h2 := by_extract (s := t) (i := b) (j := b + n) (k := j) (by omega) ht
  rw [← h1, ← h2, h]
theorem ext_of_by {s t : ByteArray} {a b : Nat} : ∀ {n : Nat}, a + n ≤ s.size → b + n ≤ t.size → (∀ j, j < n → by' s (a + j) = by' t (b + j)) → s.extract a (a + n) = t.extract b (b + n)
  | 0, _, _, _ => by simp
  | n + 1, h1, h2, h => by
    have := ext_of_by (n := n) (a := a) (b := b) (by omega) (by omega) (fun j hj => h j (by omega))
    have e := by_one (show a + n < s.size by omega) (show b + n < t.size by omega) (h n (by omega))
    rw [show a + (n + 1) = a + n + 1 by omega, show b + (n + 1) = b + n + 1 by omega, ← ext_join s (show a ≤ a + n by omega) (by omega), ← ext_join t (show b ≤ b + n by omega) (by omega), this, e]

/-- stretches that stay make a way -/
theorem RunOk.way {s t : ByteArray} : ∀ {M : List Run} {w i n : Nat}, RunOk s t w i M → Way s t n w i → ∃ m, Way s t m s.size t.size ∧ m + 2 * sumR M = n + (s.size - w) + (t.size - i)
  | [], w, i, n, h, hw => by
    obtain ⟨h1, h2⟩ := h
    refine ⟨n + (s.size - w) + (t.size - i), ?_, by simp [sumR]⟩
    have := (hw.dels (s.size - w)).inss (t.size - i)
    rwa [show w + (s.size - w) = s.size by omega, show i + (t.size - i) = t.size by omega] at this
  | r :: M, w, i, n, h, hw => by
    have hle := h.2.2.2.le
    obtain ⟨h1, h2, h3, h4⟩ := h
    have k1 := (hw.dels (r.1 - w)).inss (r.2.1 - i)
    rw [show w + (r.1 - w) = r.1 by omega, show i + (r.2.1 - i) = r.2.1 by omega] at k1
    have k2 := k1.keeps r.2.2 (by omega) (by omega) (by_of_ext h3 (by omega) (by omega))
    obtain ⟨m, m1, m2⟩ := h4.way k2
    exact ⟨m, m1, by simp only [sumR]; omega⟩
/-- edits that make one text of another make a way -/
theorem way_of_edits {s t : ByteArray} {l : List NEd} (h : EdOk s.size 0 l) (he : pieces s 0 l = t) : Way s t (costN l) s.size t.size := by
  obtain ⟨a1, a2⟩ := keep_does s t l 0 0 h (Nat.zero_le _) (by rw [ByteArray.extract_zero_size]; exact he.symm)
  obtain ⟨m, m1, m2⟩ := a1.way .start
  have : m = costN l := by omega
  exact this ▸ m1

/-- stretches up to a place -/
def RunIn (s t : ByteArray) (X Y : Nat) : Nat → Nat → List Run → Prop
  | w, i, [] => w ≤ X ∧ i ≤ Y
  | w, i, r :: M => w ≤ r.1 ∧ i ≤ r.2.1 ∧ s.extract r.1 (r.1 + r.2.2) = t.extract r.2.1 (r.2.1 + r.2.2) ∧ RunIn s t X Y (r.1 + r.2.2) (r.2.1 + r.2.2) M
theorem RunIn.ok {s t : ByteArray} : ∀ {M : List Run} {w i : Nat}, RunIn s t s.size t.size w i M → RunOk s t w i M
  | [], _, _, h => h
  | r :: M, _, _, h => ⟨h.1, h.2.1, h.2.2.1, h.2.2.2.ok⟩
theorem RunIn.mono {s t : ByteArray} {X Y X' Y' : Nat} : ∀ {M : List Run} {w i : Nat}, RunIn s t X Y w i M → X ≤ X' → Y ≤ Y' → RunIn s t X' Y' w i M
  | [], _, _, h, h1, h2 => ⟨Nat.le_trans h.1 h1, Nat.le_trans h.2 h2⟩
  | r :: M, _, _, h, h1, h2 => ⟨h.1, h.2.1, h.2.2.1, h.2.2.2.mono h1 h2⟩
theorem RunIn.snoc {s t : ByteArray} {r : Run} : ∀ {M : List Run} {w i : Nat}, RunIn s t r.1 r.2.1 w i M → s.extract r.1 (r.1 + r.2.2) = t.extract r.2.1 (r.2.1 + r.2.2) → RunIn s t (r.1 + r.2.2) (r.2.1 + r.2.2) w i (M ++ [r])
  | [], _, _, h, h1 => ⟨h.1, h.2, h1, Nat.le_refl _, Nat.le_refl _⟩
  | q :: M, _, _, h, h1 => ⟨h.1, h.2.1, h.2.2.1, h.2.2.2.snoc h1⟩
/-- a way makes stretches that stay -/
theorem Way.runs {a b : ByteArray} {n x y : Nat} (h : Way a b n x y) : ∃ M, RunIn a b x y 0 0 M ∧ x + y = n + 2 * sumR M := by
  induction h with
  | start => exact ⟨[], ⟨Nat.le_refl _, Nat.le_refl _⟩, rfl⟩
  | del h ih => obtain ⟨M, h1, h2⟩ := ih; exact ⟨M, h1.mono (by omega) (by omega), by omega⟩
  | ins h ih => obtain ⟨M, h1, h2⟩ := ih; exact ⟨M, h1.mono (by omega) (by omega), by omega⟩
  | @keep n x y h hx hy he ih =>
    obtain ⟨M, h1, h2⟩ := ih
    exact ⟨M ++ [(x, y, 1)], RunIn.snoc (r := (x, y, 1)) h1 (by_one hx hy he), by simp only [sumR_append, sumR]; omega⟩
/-- by way of a third text -/
theorem Way.trans {a b c : ByteArray} {n m : Nat} (h : Way a b n a.size b.size) (k : Way b c m b.size c.size) : ∃ q, q ≤ n + m ∧ Way a c q a.size c.size := by
  obtain ⟨A, a1, a2⟩ := h.runs
  obtain ⟨B, b1, b2⟩ := k.runs
  obtain ⟨c1, c2⟩ := thr_does a b c _ A B 0 0 0 0 0 0 0 rfl a1.ok b1.ok (by cases A with | nil => trivial | cons a A => exact ⟨by omega, by omega⟩)
    (by cases B with | nil => trivial | cons a A => exact ⟨by omega, by omega⟩) (by omega) (by omega) (by omega) (fun _ _ _ _ => Nat.zero_le _)
  obtain ⟨q, q1, q2⟩ := c1.way .start
  have r1 : ∀ A : List Run, remA 0 A = sumR A := fun A => by cases A <;> simp [remA, sumR]
  have r2 : ∀ A : List Run, remB 0 A = sumR A := fun A => by cases A <;> simp [remB, sumR]
  rw [r1, r2] at c2
  exact ⟨q, by omega, q1⟩

/-- how far all is alike from a place on -/
def slide (a b : ByteArray) : Nat → Nat → Nat → Nat
  | 0, x, y => x
  | f + 1, x, y => if x < a.size ∧ y < b.size ∧ by' a x = by' b y then slide a b f (x + 1) (y + 1) else x
theorem slide_does (a b : ByteArray) : ∀ (f x y : Nat), a.size ≤ x + f → x ≤ slide a b f x y ∧ (∀ j, x + j < slide a b f x y → x + j < a.size ∧ y + j < b.size ∧ by' a (x + j) = by' b (y + j)) ∧
    ¬ (slide a b f x y < a.size ∧ y + (slide a b f x y - x) < b.size ∧ by' a (slide a b f x y) = by' b (y + (slide a b f x y - x)))
  | 0, x, y, h => by
    simp only [slide]
    exact ⟨Nat.le_refl _, fun j hj => absurd hj (by omega), fun h' => by omega⟩
  | f + 1, x, y, h => by
    simp only [slide]
    by_cases hq : x < a.size ∧ y < b.size ∧ by' a x = by' b y
    · rw [if_pos hq]
      obtain ⟨h1, h2, h3⟩ := slide_does a b f (x + 1) (y + 1) (by omega)
      refine ⟨by omega, fun j hj => ?_, ?_⟩
      · cases j with
        | zero => simpa using hq
        | succ j =>
          have := h2 j (by omega)
          rwa [show x + 1 + j = x + (j + 1) by omega, show y + 1 + j = y + (j + 1) by omega] at this
      · rwa [show y + 1 + (slide a b f (x + 1) (y + 1) - (x + 1)) = y + (slide a b f (x + 1) (y + 1) - x) by omega] at h3
    · rw [if_neg hq]
      exact ⟨Nat.le_refl _, fun j hj => absurd hj (by omega), by rwa [Nat.sub_self]⟩

/-- where one more byte brings one, out of the row ahead: how far, and from which entry -/
def stepF (r : Nat → Nat) (n i : Nat) : Nat × Nat :=
  if n = 0 then (0, 0) else if i = 0 ∨ (i < n ∧ r (i - 1) < r i) then (r i, i) else (r (i - 1) + 1, i - 1)
/-- the rows -/
def rowF (a b : ByteArray) : Nat → Nat → Nat
  | 0, i => slide a b a.size 0 0
  | n + 1, i => slide a b a.size (stepF (rowF a b n) (n + 1) i).1 ((stepF (rowF a b n) (n + 1) i).1 + (n + 1) - 2 * i)
theorem rowF_way (a b : ByteArray) : ∀ (n i : Nat), i ≤ n → 2 * i ≤ rowF a b n i + n ∧ Way a b n (rowF a b n i) (rowF a b n i + n - 2 * i)
  | 0, i, h => by
    have hi : i = 0 := by omega
    subst hi
    obtain ⟨h1, h2, h3⟩ := slide_does a b a.size 0 0 (by omega)
    refine ⟨by omega, ?_⟩
    simp only [rowF]
    by_cases hz : slide a b a.size 0 0 = 0
    · rw [hz]; exact .start
    · have hh := h2 (slide a b a.size 0 0 - 1) (by omega)
      have := Way.keeps (a := a) (b := b) .start (slide a b a.size 0 0) (by omega) (by omega) (fun j hj => (h2 j (by omega)).2.2)
      simpa using this
  | n + 1, i, h => by
    have key : 2 * i ≤ (stepF (rowF a b n) (n + 1) i).1 + (n + 1) ∧ Way a b (n + 1) (stepF (rowF a b n) (n + 1) i).1 ((stepF (rowF a b n) (n + 1) i).1 + (n + 1) - 2 * i) := by
      unfold stepF
      rw [if_neg (by omega)]
      by_cases hq : i = 0 ∨ (i < n + 1 ∧ rowF a b n (i - 1) < rowF a b n i)
      · rw [if_pos hq]
        obtain ⟨h1, h2⟩ := rowF_way a b n i (by omega)
        refine ⟨by simp only; omega, ?_⟩
        have := h2.ins
        rwa [show rowF a b n i + n - 2 * i + 1 = rowF a b n i + (n + 1) - 2 * i by omega] at this
      · rw [if_neg hq]
        obtain ⟨h1, h2⟩ := rowF_way a b n (i - 1) (by omega)
        refine ⟨by simp only; omega, ?_⟩
        have := h2.del
        rwa [show rowF a b n (i - 1) + n - 2 * (i - 1) = rowF a b n (i - 1) + 1 + (n + 1) - 2 * i by omega] at this
    obtain ⟨k1, k2⟩ := key
    simp only [rowF]
    generalize (stepF (rowF a b n) (n + 1) i).1 = x at *
    obtain ⟨h1, h2, h3⟩ := slide_does a b a.size x (x + (n + 1) - 2 * i) (by omega)
    generalize slide a b a.size x (x + (n + 1) - 2 * i) = z at *
    refine ⟨by omega, ?_⟩
    by_cases hz : z = x
    · rw [hz]; exact k2
    · have hh := h2 (z - x - 1) (by omega)
      have := k2.keeps (z - x) (by omega) (by omega) (fun j hj => (h2 j (by omega)).2.2)
      rwa [show x + (z - x) = z by omega, show x + (n + 1) - 2 * i + (z - x) = z + (n + 1) - 2 * i by omega] at this
/-- no way comes farther -/
theorem rowF_far {a b : ByteArray} {n p q : Nat} (h : Way a b n p q) : ∀ i, i ≤ n → p + n = q + 2 * i → p ≤ rowF a b n i := by
  induction h with
  | start => intro i _ _; exact Nat.zero_le _
  | @del n x y h ih =>
    intro i hi he
    obtain ⟨j, j1, j2⟩ := h.side
    have h1 := ih (i - 1) (by omega) (by omega)
    obtain ⟨s1, -, -⟩ := slide_does a b a.size (stepF (rowF a b n) (n + 1) i).1 ((stepF (rowF a b n) (n + 1) i).1 + (n + 1) - 2 * i) (by omega)
    refine Nat.le_trans ?_ s1
    unfold stepF
    rw [if_neg (by omega)]
    by_cases hq : i = 0 ∨ (i < n + 1 ∧ rowF a b n (i - 1) < rowF a b n i)
    · rw [if_pos hq]; simp only; omega
    · rw [if_neg hq]; simp only; omega
  | @ins n x y h ih =>
    intro i hi he
    obtain ⟨j, j1, j2⟩ := h.side
    have h1 := ih i (by omega) (by omega)
    obtain ⟨s1, -, -⟩ := slide_does a b a.size (stepF (rowF a b n) (n + 1) i).1 ((stepF (rowF a b n) (n + 1) i).1 + (n + 1) - 2 * i) (by omega)
    refine Nat.le_trans ?_ s1
    unfold stepF
    rw [if_neg (by omega)]
    by_cases hq : i = 0 ∨ (i < n + 1 ∧ rowF a b n (i - 1) < rowF a b n i)
    · rw [if_pos hq]; exact h1
    · rw [if_neg hq]; simp only; omega
  | @keep n x y h hx hy hb ih =>
    intro i hi he
    have h1 := ih i hi (by omega)
    by_cases hlt : x < rowF a b n i
    · exact hlt
    · exfalso
      have hxe : rowF a b n i = x := by omega
      have hstop : ¬ (rowF a b n i < a.size ∧ rowF a b n i + n - 2 * i < b.size ∧ by' a (rowF a b n i) = by' b (rowF a b n i + n - 2 * i)) := by
        cases n with
        | zero =>
          have hi0 : i = 0 := by omega
          subst hi0
          obtain ⟨h1, h2, h3⟩ := slide_does a b a.size 0 0 (by omega)
          simpa [rowF] using h3
        | succ n =>
          obtain ⟨w1, w2⟩ := rowF_way a b (n + 1) i hi
          simp only [rowF] at w1 ⊢
          have hk : 2 * i ≤ (stepF (rowF a b n) (n + 1) i).1 + (n + 1) := by
            unfold stepF
            rw [if_neg (by omega)]
            by_cases hq : i = 0 ∨ (i < n + 1 ∧ rowF a b n (i - 1) < rowF a b n i)
            · rw [if_pos hq]
              obtain ⟨h1, h2⟩ := rowF_way a b n i (by omega)
              simp only; omega
            · rw [if_neg hq]
              obtain ⟨h1, h2⟩ := rowF_way a b n (i - 1) (by omega)
              simp only; omega
          obtain ⟨h1, h2, h3⟩ := slide_does a b a.size (stepF (rowF a b n) (n + 1) i).1 ((stepF (rowF a b n) (n + 1) i).1 + (n + 1) - 2 * i) (by omega)
          generalize (stepF (rowF a b n) (n + 1) i).1 = z at *
          generalize slide a b a.size z (z + (n + 1) - 2 * i) = u at *
          rwa [show z + (n + 1) - 2 * i + (u - z) = u + (n + 1) - 2 * i by omega] at h3
      rw [hxe] at hstop
      exact hstop ⟨hx, by omega, by rw [hb]; congr 1; omega⟩
/-- does a row come to both ends? -/
def EndAt (a b : ByteArray) (n i : Nat) : Prop := i ≤ n ∧ rowF a b n i = a.size ∧ a.size + n = b.size + 2 * i
theorem EndAt.way {a b : ByteArray} {n i : Nat} (h : EndAt a b n i) : Way a b n a.size b.size := by
  obtain ⟨h1, h2, h3⟩ := h
  have := (rowF_way a b n i h1).2
  rwa [h2, show a.size + n - 2 * i = b.size by omega] at this
theorem end_of_least {a b : ByteArray} {n : Nat} (h : Way a b n a.size b.size) (hl : ∀ m, m < n → ¬ Way a b m a.size b.size) : ∃ i, EndAt a b n i := by
  obtain ⟨i, h1, h2⟩ := h.side
  have h3 := rowF_far h i h1 h2
  refine ⟨i, h1, ?_, h2⟩
  by_cases hq : a.size < rowF a b n i
  · exfalso
    obtain ⟨k1, k2⟩ := rowF_way a b n i h1
    obtain ⟨m, m1, m2⟩ := k2.clip
    rw [show min (rowF a b n i) a.size = a.size by omega, show min (rowF a b n i + n - 2 * i) b.size = b.size by omega] at m1
    exact hl m (by omega) m1
  · omega
/-- how far one text is from another -/
theorem way_some (a b : ByteArray) : Way a b (a.size + b.size) a.size b.size := by
  have := (Way.start (a := a) (b := b)).dels a.size |>.inss b.size
  simpa using this
/-- the stretches along the way that was found, in order -/
def alikeF (a b : ByteArray) : Nat → Nat → List Run
  | 0, i => if 0 < rowF a b 0 i then [(0, 0, rowF a b 0 i)] else []
  | n + 1, i => alikeF a b n (stepF (rowF a b n) (n + 1) i).2 ++
      if (stepF (rowF a b n) (n + 1) i).1 < rowF a b (n + 1) i then [((stepF (rowF a b n) (n + 1) i).1, (stepF (rowF a b n) (n + 1) i).1 + (n + 1) - 2 * i, rowF a b (n + 1) i - (stepF (rowF a b n) (n + 1) i).1)] else []
theorem alike_does (a b : ByteArray) : ∀ (n i : Nat), i ≤ n → RunIn a b (rowF a b n i) (rowF a b n i + n - 2 * i) 0 0 (alikeF a b n i) ∧ rowF a b n i + (rowF a b n i + n - 2 * i) = n + 2 * sumR (alikeF a b n i) ∧ (∀ r ∈ alikeF a b n i, 0 < r.2.2)
  | 0, i, h => by
    have hi : i = 0 := by omega
    subst hi
    obtain ⟨h1, h2, h3⟩ := slide_does a b a.size 0 0 (by omega)
    simp only [alikeF]
    have e : rowF a b 0 0 = slide a b a.size 0 0 := rfl
    rw [← e] at h1 h2 h3
    by_cases hz : 0 < rowF a b 0 0
    · rw [if_pos hz]
      have hh := h2 (rowF a b 0 0 - 1) (by omega)
      refine ⟨RunIn.snoc (M := []) (r := (0, 0, rowF a b 0 0)) ⟨Nat.le_refl _, Nat.le_refl _⟩ ?_ |>.mono (by simp) (by simp), by simp only [sumR]; omega, fun r hr => by simp at hr; subst hr; exact hz⟩
      exact ext_of_by (by simp only; omega) (by simp only; omega) (fun j hj => (h2 j (by simp only at hj; omega)).2.2)
    · rw [if_neg hz]
      exact ⟨⟨Nat.zero_le _, Nat.zero_le _⟩, by simp only [sumR]; omega, fun r hr => absurd hr (by simp)⟩
  | n + 1, i, h => by
    have hfrom : (stepF (rowF a b n) (n + 1) i).2 ≤ n ∧ (stepF (rowF a b n) (n + 1) i).1 + ((stepF (rowF a b n) (n + 1) i).1 + (n + 1) - 2 * i) = rowF a b n (stepF (rowF a b n) (n + 1) i).2 + (rowF a b n (stepF (rowF a b n) (n + 1) i).2 + n - 2 * (stepF (rowF a b n) (n + 1) i).2) + 1 ∧
        rowF a b n (stepF (rowF a b n) (n + 1) i).2 ≤ (stepF (rowF a b n) (n + 1) i).1 ∧ rowF a b n (stepF (rowF a b n) (n + 1) i).2 + n - 2 * (stepF (rowF a b n) (n + 1) i).2 ≤ (stepF (rowF a b n) (n + 1) i).1 + (n + 1) - 2 * i ∧ 2 * i ≤ (stepF (rowF a b n) (n + 1) i).1 + (n + 1) := by
      unfold stepF
      rw [if_neg (by omega)]
      by_cases hq : i = 0 ∨ (i < n + 1 ∧ rowF a b n (i - 1) < rowF a b n i)
      · rw [if_pos hq]
        obtain ⟨h1, h2⟩ := rowF_way a b n i (by omega)
        refine ⟨by simp only; omega, by simp only; omega, by simp only; omega, by simp only; omega, by simp only; omega⟩
      · rw [if_neg hq]
        obtain ⟨h1, h2⟩ := rowF_way a b n (i - 1) (by omega)
        refine ⟨by simp only; omega, by simp only; omega, by simp only; omega, by simp only; omega, by simp only; omega⟩
    obtain ⟨f1, f2, f3, f4, f5⟩ := hfrom
    obtain ⟨i1, i2, i3⟩ := alike_does a b n _ f1
    obtain ⟨h1, h2, h3⟩ := slide_does a b a.size (stepF (rowF a b n) (n + 1) i).1 ((stepF (rowF a b n) (n + 1) i).1 + (n + 1) - 2 * i) (by omega)
    have e : rowF a b (n + 1) i = slide a b a.size (stepF (rowF a b n) (n + 1) i).1 ((stepF (rowF a b n) (n + 1) i).1 + (n + 1) - 2 * i) := rfl
    rw [← e] at h1 h2 h3
    simp only [alikeF]
    generalize rowF a b (n + 1) i = u at *
    generalize stepF (rowF a b n) (n + 1) i = z at *
    by_cases hz : z.1 < u
    · rw [if_pos hz]
      have hh := h2 (u - z.1 - 1) (by omega)
      refine ⟨?_, by simp only [sumR_append, sumR]; omega, fun r hr => ?_⟩
      · have := RunIn.snoc (r := (z.1, z.1 + (n + 1) - 2 * i, u - z.1)) (i1.mono f3 f4) (ext_of_by (by simp only; omega) (by simp only; omega) (fun j hj => (h2 j (by simp only at hj; omega)).2.2))
        exact this.mono (by simp only; omega) (by simp only; omega)
      · rcases List.mem_append.1 hr with hr | hr
        · exact i3 r hr
        · simp at hr; subst hr; simp only; omega
    · rw [if_neg hz]
      refine ⟨by simpa using i1.mono (by omega) (by omega), by simp only [List.append_nil]; omega, fun r hr => i3 r (by simpa using hr)⟩

/-- what makes b of a, if some stretches of both stay -/
def diffE (s t : ByteArray) : Nat → Nat → List Run → List NEd
  | w, i, [] => if w < s.size ∨ i < t.size then [(w, s.size, t.extract i t.size)] else []
  | w, i, r :: M => (if w < r.1 ∨ i < r.2.1 then [(w, r.1, t.extract i r.2.1)] else []) ++ diffE s t (r.1 + r.2.2) (r.2.1 + r.2.2) M
theorem diffE_does (s t : ByteArray) : ∀ (M : List Run) (w i : Nat), RunOk s t w i M → (∀ r ∈ M, 0 < r.2.2) →
    EdOk s.size w (diffE s t w i M) ∧ pieces s w (diffE s t w i M) = t.extract i t.size ∧ costN (diffE s t w i M) + 2 * sumR M = (s.size - w) + (t.size - i) ∧
    (∀ e ∈ diffE s t w i M, Changes e) ∧ (diffE s t w i M).Pairwise (fun x y => x.2.1 < y.1) ∧ (∀ e ∈ diffE s t w i M, w ≤ e.1 ∧ e.1 ≤ e.2.1)
  | [], w, i, h, hp => by
    obtain ⟨h1, h2⟩ := h
    simp only [diffE]
    by_cases hq : w < s.size ∨ i < t.size
    · rw [if_pos hq]
      refine ⟨⟨Nat.le_refl _, h1, Nat.le_refl _⟩, ?_, ?_, fun e he => ?_, by simp, fun e he => ?_⟩
      · simp only [pieces, ByteArray.extract_same]; simp
      · simp only [costN, sumR, ByteArray.size_extract]; omega
      · simp at he; subst he; unfold Changes; simp only [ByteArray.size_extract]; omega
      · simp at he; subst he; exact ⟨Nat.le_refl _, h1⟩
    · rw [if_neg hq]
      refine ⟨h1, ?_, by simp only [costN, sumR]; omega, fun e he => absurd he (by simp), by simp, fun e he => absurd he (by simp)⟩
      simp only [pieces]
      rw [show w = s.size by omega, show i = t.size by omega, ByteArray.extract_same, ByteArray.extract_same]
  | r :: M, w, i, h, hp => by
    have hle := h.2.2.2.le
    obtain ⟨h1, h2, h3, h4⟩ := h
    have hr := hp r (by simp)
    obtain ⟨i1, i2, i3, i4, i5, i6⟩ := diffE_does s t M _ _ h4 (fun q hq => hp q (by simp [hq]))
    have hP : pieces s r.1 (diffE s t (r.1 + r.2.2) (r.2.1 + r.2.2) M) = t.extract r.2.1 t.size := by
      rw [pieces_from s _ (show r.1 ≤ r.1 + r.2.2 by omega) i1, i2, h3, ext_join t (by omega) (by omega)]
    simp only [diffE]
    by_cases hq : w < r.1 ∨ i < r.2.1
    · rw [if_pos hq]
      refine ⟨⟨Nat.le_refl _, h1, i1.mono (by simp only; omega)⟩, ?_, ?_, fun e he => ?_, ?_, fun e he => ?_⟩
      · simp only [List.cons_append, List.nil_append, pieces, ByteArray.extract_same]
        rw [hP]
        simp only [ByteArray.empty_append]
        rw [ext_join t h2 (by omega)]
      · simp only [List.cons_append, List.nil_append, costN, sumR, ByteArray.size_extract]; omega
      · rcases List.mem_append.1 he with he | he
        · simp at he; subst he; unfold Changes; simp only [ByteArray.size_extract]; omega
        · exact i4 e he
      · rw [List.pairwise_append]
        refine ⟨by simp, i5, fun x hx y hy => ?_⟩
        simp at hx; subst hx
        have := (i6 y hy).1
        simp only; omega
      · rcases List.mem_append.1 he with he | he
        · simp at he; subst he; exact ⟨Nat.le_refl _, h1⟩
        · have := i6 e he; exact ⟨by omega, this.2⟩
    · rw [if_neg hq]
      rw [List.nil_append]
      refine ⟨i1.mono (by omega), ?_, by simp only [sumR]; omega, i4, i5, fun e he => ?_⟩
      · rw [show w = r.1 by omega, show i = r.2.1 by omega, hP]
      · have := i6 e he; exact ⟨by omega, this.2⟩

/- the document's table -/
def lcsN (a b : ByteArray) : Nat → Nat → Nat
  | 0, _ => 0
  | _ + 1, 0 => 0
  | x + 1, y + 1 => max (max (lcsN a b x (y + 1)) (lcsN a b (x + 1) y)) (if by' a x = by' b y then lcsN a b x y + 1 else 0)
theorem lcsN_zero (a b : ByteArray) (x : Nat) : lcsN a b x 0 = 0 := by cases x <;> simp [lcsN]
theorem lcsN_way (a b : ByteArray) : ∀ (x y : Nat), x ≤ a.size → y ≤ b.size → ∃ n, Way a b n x y ∧ n + 2 * lcsN a b x y = x + y
  | 0, y, _, _ => ⟨y, by have := (Way.start (a := a) (b := b)).inss y; simpa using this, by simp [lcsN]⟩
  | x + 1, 0, _, _ => ⟨x + 1, by have := (Way.start (a := a) (b := b)).dels (x + 1); simpa using this, by simp [lcsN]⟩
  | x + 1, y + 1, hx, hy => by
    rw [lcsN]
    obtain ⟨n1, w1, e1⟩ := lcsN_way a b x (y + 1) (by omega) hy
    obtain ⟨n2, w2, e2⟩ := lcsN_way a b (x + 1) y hx (by omega)
    obtain ⟨n3, w3, e3⟩ := lcsN_way a b x y (by omega) (by omega)
    by_cases h1 : lcsN a b (x + 1) y ≤ lcsN a b x (y + 1)
    · by_cases h2 : by' a x = by' b y
      · rw [if_pos h2]
        by_cases h3 : lcsN a b x y + 1 ≤ lcsN a b x (y + 1)
        · exact ⟨n1 + 1, w1.del, by omega⟩
        · exact ⟨n3, w3.keep (by omega) (by omega) h2, by omega⟩
      · rw [if_neg h2]; exact ⟨n1 + 1, w1.del, by omega⟩
    · by_cases h2 : by' a x = by' b y
      · rw [if_pos h2]
        by_cases h3 : lcsN a b x y + 1 ≤ lcsN a b (x + 1) y
        · exact ⟨n2 + 1, w2.ins, by omega⟩
        · exact ⟨n3, w3.keep (by omega) (by omega) h2, by omega⟩
      · rw [if_neg h2]; exact ⟨n2 + 1, w2.ins, by omega⟩
theorem lcsN_mono_x (a b : ByteArray) (x y : Nat) : lcsN a b x y ≤ lcsN a b (x + 1) y := by
  cases y with
  | zero => simp [lcsN_zero]
  | succ y => rw [lcsN]; omega
theorem lcsN_mono_y (a b : ByteArray) (x y : Nat) : lcsN a b x y ≤ lcsN a b x (y + 1) := by
  cases x with
  | zero => simp [lcsN]
  | succ x => rw [lcsN]; omega
theorem lcsN_far {a b : ByteArray} {n x y : Nat} (h : Way a b n x y) : x + y ≤ n + 2 * lcsN a b x y := by
  induction h with
  | start => omega
  | @del n x y h ih => have := lcsN_mono_x a b x y; omega
  | @ins n x y h ih => have := lcsN_mono_y a b x y; omega
  | @keep n x y h hx hy he ih =>
    have : lcsN a b x y + 1 ≤ lcsN a b (x + 1) (y + 1) := by rw [lcsN, if_pos he]; omega
    omega
/-- the fewest bytes, by the table -/
def farN (a b : ByteArray) : Nat := a.size + b.size - 2 * lcsN a b a.size b.size
theorem farN_way (a b : ByteArray) : Way a b (farN a b) a.size b.size := by
  obtain ⟨n, h1, h2⟩ := lcsN_way a b a.size b.size (Nat.le_refl _) (Nat.le_refl _)
  have : farN a b = n := by unfold farN; omega
  rwa [this]
theorem farN_least {a b : ByteArray} {n : Nat} (h : Way a b n a.size b.size) : farN a b ≤ n := by
  have := lcsN_far h
  unfold farN; omega
theorem farN_end (a b : ByteArray) : ∃ i, EndAt a b (farN a b) i := end_of_least (farN_way a b) fun m hm h => by have := farN_least h; omega
theorem farN_none {a b : ByteArray} {n i : Nat} (h : n < farN a b) : ¬ EndAt a b n i := fun hh => by have := farN_least hh.way; omega
theorem farN_swap (a b : ByteArray) : farN a b = farN b a := Nat.le_antisymm (farN_least (farN_way b a).swap) (farN_least (farN_way a b).swap)
theorem farN_tri (a b c : ByteArray) : farN a c ≤ farN a b + farN b c := by
  obtain ⟨q, q1, q2⟩ := (farN_way a b).trans (farN_way b c)
  exact Nat.le_trans (farN_least q2) q1
theorem farN_le (a b : ByteArray) : farN a b ≤ a.size + b.size := farN_least (way_some a b)
theorem farN_sub (a b : ByteArray) : b.size ≤ a.size + farN a b ∧ a.size ≤ b.size + farN a b := by
  obtain ⟨i, h1, h2⟩ := (farN_way a b).side
  omega
theorem farN_zero (a b : ByteArray) : farN a b = 0 ↔ a = b := by
  constructor
  · intro h
    have hw := farN_way a b
    rw [h] at hw
    obtain ⟨M, m1, m2⟩ := hw.runs
    have hsz := farN_sub a b
    have hl := m1.ok.le
    obtain ⟨d1, d2, d3⟩ := betw_does a b M 0 0 m1.ok
    have hcost : costN (betw a b 0 0 M) = 0 := by omega
    have hsame : ∀ (l : List NEd) (w : Nat), EdOk a.size w l → costN l = 0 → pieces a w l = a.extract w a.size := by
      intro l
      induction l with
      | nil => intro w _ _; rfl
      | cons e l ih =>
        intro w hk hc
        simp only [costN] at hc
        obtain ⟨k1, k2, k3⟩ := hk
        have e3 : e.2.2 = ByteArray.empty := ByteArray.size_eq_zero_iff.1 (by omega)
        have hk3 := k3.le
        simp only [pieces]
        rw [ih _ k3 (by omega), e3, show e.2.1 = e.1 by omega]
        simp only [ByteArray.append_empty]
        rw [ext_join a k1 (by omega)]
    rw [hsame _ 0 d1 hcost, ByteArray.extract_zero_size, ByteArray.extract_zero_size] at d2
    exact d2
  · rintro rfl
    have := lcsN_far (Way.keeps (a := a) (b := a) .start a.size (by omega) (by omega) (fun j _ => rfl))
    simp only [Nat.zero_add] at this
    unfold farN; omega
/-- what is found makes the other text, of the fewest bytes -/
theorem found_does {a b : ByteArray} {i : Nat} (h : EndAt a b (farN a b) i) :
    let l := diffE a b 0 0 (alikeF a b (farN a b) i)
    EdOk a.size 0 l ∧ pieces a 0 l = b ∧ costN l = farN a b ∧ (∀ e ∈ l, Changes e) ∧ l.Pairwise (fun x y => x.2.1 < y.1) := by
  intro l
  obtain ⟨h1, h2, h3⟩ := h
  obtain ⟨k1, k2, k3⟩ := alike_does a b (farN a b) i h1
  rw [h2, show a.size + farN a b - 2 * i = b.size by omega] at k1 k2
  obtain ⟨d1, d2, d3, d4, d5, d6⟩ := diffE_does a b _ 0 0 k1.ok k3
  have d3 : costN l + _ = _ := d3
  exact ⟨d1, by rw [d2, ByteArray.extract_zero_size], by omega, d4, d5⟩
end Go.Proofs.Ytdhbcmbajbgblaa
