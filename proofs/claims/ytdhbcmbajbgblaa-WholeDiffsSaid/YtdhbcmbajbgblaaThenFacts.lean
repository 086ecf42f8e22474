/- Facts on what edits leave, and on one step for two. -/
import Derived.Test.YtdhbcmbajbgblaaTidyFacts
namespace Go.Proofs.Ytdhbcmbajbgblaa
set_option linter.unusedVariables false
/- what edits leave, and one step for two -/
/-- bytes that stay: where they stood, where they stand, how many -/
abbrev Run := Nat × Nat × Nat
/-- stretches of two texts that are alike, one behind the other -/
def RunOk (s t : ByteArray) : Nat → Nat → List Run → Prop
  | w, i, [] => w ≤ s.size ∧ i ≤ t.size
  | w, i, r :: M => w ≤ r.1 ∧ i ≤ r.2.1 ∧ s.extract r.1 (r.1 + r.2.2) = t.extract r.2.1 (r.2.1 + r.2.2) ∧ RunOk s t (r.1 + r.2.2) (r.2.1 + r.2.2) M
def sumR : List Run → Nat
  | [] => 0
  | r :: M => r.2.2 + sumR M
theorem sumR_append (A B : List Run) : sumR (A ++ B) = sumR A + sumR B := by
  induction A with
  | nil => simp [sumR]
  | cons r A ih => simp only [List.cons_append, sumR, ih]; omega
theorem RunOk.le {s t : ByteArray} : ∀ {M : List Run} {w i : Nat}, RunOk s t w i M → w + sumR M ≤ s.size ∧ i + sumR M ≤ t.size
  | [], w, i, h => ⟨by have := h.1; simp only [sumR]; omega, by have := h.2; simp only [sumR]; omega⟩
  | r :: M, w, i, h => by
    have := h.2.2.2.le
    have := h.1
    have := h.2.1
    simp only [sumR]; omega
theorem RunOk.mono {s t : ByteArray} {M : List Run} {w i w' i' : Nat} (h : RunOk s t w i M) (h1 : w' ≤ w) (h2 : i' ≤ i) : RunOk s t w' i' M := by
  cases M with
  | nil => exact ⟨Nat.le_trans h1 h.1, Nat.le_trans h2 h.2⟩
  | cons r M => exact ⟨Nat.le_trans h1 h.1, Nat.le_trans h2 h.2.1, h.2.2⟩

/-- the edits that change all but what stays -/
def betw (s t : ByteArray) : Nat → Nat → List Run → List NEd
  | w, i, [] => [(w, s.size, t.extract i t.size)]
  | w, i, r :: M => (w, r.1, t.extract i r.2.1) :: betw s t (r.1 + r.2.2) (r.2.1 + r.2.2) M
theorem betw_len (s t : ByteArray) : ∀ (M : List Run) (w i : Nat), (betw s t w i M).length = M.length + 1
  | [], _, _ => rfl
  | r :: M, w, i => by simp [betw, betw_len s t M]
theorem betw_does (s t : ByteArray) : ∀ (M : List Run) (w i : Nat), RunOk s t w i M →
    EdOk s.size w (betw s t w i M) ∧ pieces s w (betw s t w i M) = t.extract i t.size ∧ costN (betw s t w i M) + 2 * sumR M = (s.size - w) + (t.size - i)
  | [], w, i, h => by
    obtain ⟨h1, h2⟩ := h
    refine ⟨⟨Nat.le_refl _, h1, Nat.le_refl _⟩, ?_, ?_⟩
    · simp only [betw, pieces, ByteArray.extract_same]; simp
    · simp only [betw, costN, sumR, ByteArray.size_extract]; omega
  | r :: M, w, i, h => by
    have hle := h.2.2.2.le
    obtain ⟨h1, h2, h3, h4⟩ := h
    obtain ⟨i1, i2, i3⟩ := betw_does s t M _ _ h4
    refine ⟨⟨Nat.le_refl _, h1, i1.mono (by simp only; omega)⟩, ?_, ?_⟩
    · simp only [betw, pieces, ByteArray.extract_same]
      rw [pieces_from s _ (show r.1 ≤ r.1 + r.2.2 by omega) i1, i2, h3, ext_join t (by omega) (by omega)]
      simp only [ByteArray.empty_append]
      rw [ext_join t h2 (by omega)]
    · simp only [betw, costN, sumR, ByteArray.size_extract]; omega

/-- what edits leave -/
def keepE : Nat → Nat → List NEd → List Run
  | a, p, [] => []
  | a, p, e :: l => (if a < e.1 then [(a, p, e.1 - a)] else []) ++ keepE e.2.1 (p + (e.1 - a) + e.2.2.size) l
theorem keep_does (s t : ByteArray) : ∀ (l : List NEd) (a p : Nat), EdOk s.size a l → p ≤ t.size → t.extract p t.size = pieces s a l →
    RunOk s t a p (keepE a p (l ++ [(s.size, s.size, ByteArray.empty)])) ∧ costN l + 2 * sumR (keepE a p (l ++ [(s.size, s.size, ByteArray.empty)])) = (s.size - a) + (t.size - p)
  | [], a, p, h, hp, he => by
    have h : a ≤ s.size := h
    simp only [pieces] at he
    have hz := congrArg ByteArray.size he
    simp only [ByteArray.size_extract] at hz
    simp only [List.nil_append, keepE, List.append_nil, costN]
    by_cases hq : a < s.size
    · rw [if_pos hq]
      refine ⟨⟨Nat.le_refl _, Nat.le_refl _, ?_, ?_, ?_⟩, ?_⟩
      · simp only
        rw [show a + (s.size - a) = s.size by omega, show p + (s.size - a) = t.size by omega]; exact he.symm
      · simp only; omega
      · simp only; omega
      · simp only [sumR]; omega
    · rw [if_neg hq]
      exact ⟨⟨h, hp⟩, by simp only [sumR]; omega⟩
  | e :: l, a, p, h, hp, he => by
    obtain ⟨h1, h2, h3⟩ := h
    have hle := h3.le
    simp only [pieces] at he
    obtain ⟨c1, c2, c3, c4⟩ := cut_two hp (show t.extract p t.size = s.extract a e.1 ++ (e.2.2 ++ pieces s e.2.1 l) by rw [he, ByteArray.append_assoc])
    have hA : (s.extract a e.1).size = e.1 - a := by rw [ByteArray.size_extract]; omega
    rw [hA] at c1 c2 c3 c4
    obtain ⟨d1, d2, d3, d4⟩ := cut_two c3 c2
    obtain ⟨i1, i2⟩ := keep_does s t l e.2.1 (p + (e.1 - a) + e.2.2.size) h3 d3 d2
    simp only [List.cons_append, keepE, costN]
    by_cases hq : a < e.1
    · rw [if_pos hq]
      refine ⟨⟨Nat.le_refl _, Nat.le_refl _, ?_, i1.mono ?_ ?_⟩, ?_⟩
      · simp only
        rw [show a + (e.1 - a) = e.1 by omega]; exact c1.symm
      · simp only; omega
      · simp only; omega
      · simp only [sumR_append, sumR]; omega
    · rw [if_neg hq]
      refine ⟨i1.mono (by omega) (by omega), ?_⟩
      simp only [List.nil_append]; omega

/-- what is left by both -/
def thr : List Run → List Run → List Run
  | [], _ => []
  | _ :: _, [] => []
  | a :: A, b :: B =>
    (if max a.2.1 b.1 < min (a.2.1 + a.2.2) (b.1 + b.2.2) then [(a.1 + max a.2.1 b.1 - a.2.1, b.2.1 + max a.2.1 b.1 - b.1, min (a.2.1 + a.2.2) (b.1 + b.2.2) - max a.2.1 b.1)] else []) ++
    if min (a.2.1 + a.2.2) (b.1 + b.2.2) = a.2.1 + a.2.2 then thr A (b :: B) else thr (a :: A) B
  termination_by A B => A.length + B.length

def SideA (p w : Nat) : List Run → Prop
  | [] => True
  | a :: _ => p ≤ a.2.1 + a.2.2 ∧ w ≤ a.1 + (max p a.2.1 - a.2.1)
def SideB (p i : Nat) : List Run → Prop
  | [] => True
  | b :: _ => p ≤ b.1 + b.2.2 ∧ i ≤ b.2.1 + (max p b.1 - b.1)
/-- what of some stretches is left behind a place between -/
def remA (p : Nat) : List Run → Nat
  | [] => 0
  | a :: A => sumR (a :: A) - (p - a.2.1)
def remB (p : Nat) : List Run → Nat
  | [] => 0
  | b :: B => sumR (b :: B) - (p - b.1)
theorem ext_same {s m : ByteArray} {a b n f c : Nat} (h : s.extract a (a + n) = m.extract b (b + n)) (h1 : f + c ≤ n) (hs : a + n ≤ s.size) (hm : b + n ≤ m.size) : s.extract (a + f) (a + f + c) = m.extract (b + f) (b + f + c) := by
  have := congrArg (fun x => ByteArray.extract x f (f + c)) h
  simp only [ByteArray.extract_extract] at this
  rw [show min (a + (f + c)) (a + n) = a + f + c by omega, show min (b + (f + c)) (b + n) = b + f + c by omega] at this
  exact this

theorem thr_does (s m t : ByteArray) (N : Nat) : ∀ (A B : List Run) (p w i wa ma mb ib : Nat), A.length + B.length = N → RunOk s m wa ma A → RunOk m t mb ib B → SideA p w A → SideB p i B → p ≤ m.size → w ≤ s.size → i ≤ t.size →
    (∀ a ∈ A.head?, ∀ b ∈ B.head?, p ≤ max a.2.1 b.1) →
    RunOk s t w i (thr A B) ∧ remA p A + remB p B ≤ sumR (thr A B) + (m.size - p) := by
  induction N with
  | zero =>
    intro A B p w i wa ma mb ib hN hA hB sA sB hp hw hi hh
    have : A = [] := List.length_eq_zero_iff.1 (by omega)
    have : B = [] := List.length_eq_zero_iff.1 (by omega)
    subst A B
    simp only [thr, remA, remB, sumR]
    exact ⟨⟨hw, hi⟩, by omega⟩
  | succ N ih =>
    intro A B p w i wa ma mb ib hN hA hB sA sB hp hw hi hh
    match A, B with
    | [], B =>
      simp only [thr, remA, sumR]
      refine ⟨⟨hw, hi⟩, ?_⟩
      cases B with
      | nil => simp only [remB]; omega
      | cons b B =>
        have := hB.2.2.2.le
        obtain ⟨s1, s2⟩ := sB
        simp only [remB, sumR]; omega
    | a :: A, [] =>
      simp only [thr, remB, sumR]
      refine ⟨⟨hw, hi⟩, ?_⟩
      have := hA.2.2.2.le
      obtain ⟨s1, s2⟩ := sA
      simp only [remA, sumR]; omega
    | a :: A, b :: B =>
      obtain ⟨a1, a2, a3, a4⟩ := hA
      obtain ⟨b1, b2, b3, b4⟩ := hB
      obtain ⟨sa1, sa2⟩ := sA
      obtain ⟨sb1, sb2⟩ := sB
      have hpm := hh a (by simp) b (by simp)
      have la := a4.le
      have lb := b4.le
      rw [thr]
      have key : ∀ c : Nat, max a.2.1 b.1 + c ≤ min (a.2.1 + a.2.2) (b.1 + b.2.2) → s.extract (a.1 + max a.2.1 b.1 - a.2.1) (a.1 + max a.2.1 b.1 - a.2.1 + c) = t.extract (b.2.1 + max a.2.1 b.1 - b.1) (b.2.1 + max a.2.1 b.1 - b.1 + c) := by
        intro c hc
        have k1 := ext_same (f := max a.2.1 b.1 - a.2.1) (c := c) a3 (by omega) (by omega) (by omega)
        have k2 := ext_same (f := max a.2.1 b.1 - b.1) (c := c) b3 (by omega) (by omega) (by omega)
        rw [show a.1 + max a.2.1 b.1 - a.2.1 = a.1 + (max a.2.1 b.1 - a.2.1) by omega, show b.2.1 + max a.2.1 b.1 - b.1 = b.2.1 + (max a.2.1 b.1 - b.1) by omega, k1, ← k2]
        congr 1 <;> omega
      by_cases hT : min (a.2.1 + a.2.2) (b.1 + b.2.2) = a.2.1 + a.2.2
      · rw [if_pos hT]
        have hT' : a.2.1 + a.2.2 ≤ b.1 + b.2.2 := by omega
        have sA' : ∀ w', w' ≤ a.1 + a.2.2 → SideA (a.2.1 + a.2.2) w' A := by
          intro w' hw'
          cases A with
          | nil => trivial
          | cons a' A => exact ⟨by have := a4.2.1; omega, by have := a4.1; omega⟩
        have hh' : ∀ x ∈ A.head?, ∀ y ∈ (b :: B).head?, a.2.1 + a.2.2 ≤ max x.2.1 y.1 := by
          intro x hx y hy
          cases A with
          | nil => simp at hx
          | cons a' A => simp at hx; subst hx; have := a4.2.1; omega
        have rA : remA (a.2.1 + a.2.2) A = sumR A := by
          cases A with
          | nil => rfl
          | cons a' A => simp only [remA]; have := a4.2.1; omega
        by_cases hq : max a.2.1 b.1 < min (a.2.1 + a.2.2) (b.1 + b.2.2)
        · rw [if_pos hq]
          have K := key (min (a.2.1 + a.2.2) (b.1 + b.2.2) - max a.2.1 b.1) (by omega)
          rw [hT] at hq K ⊢
          obtain ⟨r1, r2⟩ := ih A (b :: B) (a.2.1 + a.2.2) (a.1 + a.2.2) (b.2.1 + (a.2.1 + a.2.2 - b.1)) _ _ mb ib (by simp at hN ⊢; omega) a4 ⟨b1, b2, b3, b4⟩ (sA' _ (Nat.le_refl _)) ⟨hT', by omega⟩ (by omega) (by omega) (by omega) hh'
          refine ⟨⟨by simp only; omega, by simp only; omega, K, r1.mono (by simp only; omega) (by simp only; omega)⟩, ?_⟩
          rw [rA] at r2
          simp only [remA, remB, sumR, sumR_append] at r2 ⊢
          omega
        · rw [if_neg hq]
          rw [hT] at hq
          obtain ⟨r1, r2⟩ := ih A (b :: B) (a.2.1 + a.2.2) w i _ _ mb ib (by simp at hN ⊢; omega) a4 ⟨b1, b2, b3, b4⟩ (sA' _ (by omega)) ⟨hT', by omega⟩ (by omega) hw hi hh'
          refine ⟨r1, ?_⟩
          rw [rA] at r2
          simp only [remA, remB, sumR, List.nil_append] at r2 ⊢
          omega
      · rw [if_neg hT]
        have hT2 : min (a.2.1 + a.2.2) (b.1 + b.2.2) = b.1 + b.2.2 := by omega
        have hT' : b.1 + b.2.2 ≤ a.2.1 + a.2.2 := by omega
        have sB' : ∀ i', i' ≤ b.2.1 + b.2.2 → SideB (b.1 + b.2.2) i' B := by
          intro w' hw'
          cases B with
          | nil => trivial
          | cons b' B => exact ⟨by have := b4.1; omega, by have := b4.2.1; omega⟩
        have hh' : ∀ x ∈ (a :: A).head?, ∀ y ∈ B.head?, b.1 + b.2.2 ≤ max x.2.1 y.1 := by
          intro x hx y hy
          cases B with
          | nil => simp at hy
          | cons b' B => simp at hy; subst hy; have := b4.1; omega
        have rB : remB (b.1 + b.2.2) B = sumR B := by
          cases B with
          | nil => rfl
          | cons b' B => simp only [remB]; have := b4.1; omega
        by_cases hq : max a.2.1 b.1 < min (a.2.1 + a.2.2) (b.1 + b.2.2)
        · rw [if_pos hq]
          have K := key (min (a.2.1 + a.2.2) (b.1 + b.2.2) - max a.2.1 b.1) (by omega)
          rw [hT2] at hq K ⊢
          obtain ⟨r1, r2⟩ := ih (a :: A) B (b.1 + b.2.2) (a.1 + (b.1 + b.2.2 - a.2.1)) (b.2.1 + b.2.2) wa ma _ _ (by simp at hN ⊢; omega) ⟨a1, a2, a3, a4⟩ b4 ⟨hT', by omega⟩ (sB' _ (Nat.le_refl _)) (by omega) (by omega) (by omega) hh'
          refine ⟨⟨by simp only; omega, by simp only; omega, K, r1.mono (by simp only; omega) (by simp only; omega)⟩, ?_⟩
          rw [rB] at r2
          simp only [remA, remB, sumR, sumR_append] at r2 ⊢
          omega
        · rw [if_neg hq]
          rw [hT2] at hq
          obtain ⟨r1, r2⟩ := ih (a :: A) B (b.1 + b.2.2) w i wa ma _ _ (by simp at hN ⊢; omega) ⟨a1, a2, a3, a4⟩ b4 ⟨hT', by omega⟩ (sB' _ (by omega)) (by omega) hw hi hh'
          refine ⟨r1, ?_⟩
          rw [rB] at r2
          simp only [remA, remB, sumR, List.nil_append] at r2 ⊢
          omega

theorem thr_len (N : Nat) : ∀ (A B : List Run), A.length + B.length = N → (thr A B).length ≤ N := by
  induction N with
  | zero =>
    intro A B hN
    have : A = [] := List.length_eq_zero_iff.1 (by omega)
    subst A
    simp [thr]
  | succ N ih =>
    intro A B hN
    match A, B with
    | [], B => simp [thr]
    | a :: A, [] => simp [thr]
    | a :: A, b :: B =>
      rw [thr]
      have h1 := ih A (b :: B) (by simp at hN ⊢; omega)
      have h2 := ih (a :: A) B (by simp at hN ⊢; omega)
      rw [List.length_append]
      repeat' split
      all_goals simp <;> omega

/-- ONE STEP FOR TWO: what is left by both makes edits that do both, and cost no more -/
theorem then_does (s : ByteArray) (l r : List NEd) (hl : EdOk s.size 0 l) (hr : EdOk (pieces s 0 l).size 0 r) :
    let m := pieces s 0 l
    let t := pieces m 0 r
    let M := thr (keepE 0 0 (l ++ [(s.size, s.size, ByteArray.empty)])) (keepE 0 0 (r ++ [(m.size, m.size, ByteArray.empty)]))
    EdOk s.size 0 (betw s t 0 0 M) ∧ pieces s 0 (betw s t 0 0 M) = t ∧ costN (betw s t 0 0 M) ≤ costN l + costN r := by
  intro m t M
  obtain ⟨a1, a2⟩ := keep_does s m l 0 0 hl (Nat.zero_le _) ByteArray.extract_zero_size
  obtain ⟨b1, b2⟩ := keep_does m t r 0 0 hr (Nat.zero_le _) ByteArray.extract_zero_size
  obtain ⟨c1, c2⟩ := thr_does s m t _ _ _ 0 0 0 0 0 0 0 rfl a1 b1 (by cases keepE 0 0 (l ++ [(s.size, s.size, ByteArray.empty)]) with | nil => trivial | cons a A => exact ⟨by omega, by omega⟩)
    (by cases keepE 0 0 (r ++ [(m.size, m.size, ByteArray.empty)]) with | nil => trivial | cons a A => exact ⟨by omega, by omega⟩) (by omega) (by omega) (by omega) (fun _ _ _ _ => Nat.zero_le _)
  obtain ⟨d1, d2, d3⟩ := betw_does s t M 0 0 c1
  refine ⟨d1, by rw [d2, ByteArray.extract_zero_size], ?_⟩
  have r1 : ∀ A : List Run, remA 0 A = sumR A := fun A => by cases A <;> simp [remA, sumR]
  have r2 : ∀ A : List Run, remB 0 A = sumR A := fun A => by cases A <;> simp [remB, sumR]
  rw [r1, r2] at c2
  have c2 : _ ≤ sumR M + (m.size - 0) := c2
  omega
end Go.Proofs.Ytdhbcmbajbgblaa
