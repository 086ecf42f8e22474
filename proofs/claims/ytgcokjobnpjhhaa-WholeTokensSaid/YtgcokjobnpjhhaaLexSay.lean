/- Texts in quotes, there and back; two texts one behind the other; a token by itself; texts of one byte: plain facts, no Go. -/
import Derived.Test.YtgcokjobnpjhhaaLexList
namespace Go.Proofs.Ytgcokjobnpjhhaa
set_option linter.unusedVariables false

def writS (c : Nat) : Option Nat := if c = 10 then some 110 else if c = 9 then some 116 else if c = 34 then some 34 else if c = 92 then some 92 else none
def goodC (c : Nat) : Bool := (writS c).isSome || seenB c
def qOne (c : Nat) : List Nat := match writS c with | some m => [92, m] | none => [c]
/-- a text in quotes that says some bytes -/
def quoteL (l : List Nat) : List Nat := l.flatMap qOne
theorem goodC_iff {c : Nat} : goodC c = true ↔ (32 ≤ c ∧ c ≤ 126) ∨ c = 10 ∨ c = 9 := by
  unfold goodC writS seenB
  by_cases h1 : c = 10
  · simp [h1]
  · by_cases h2 : c = 9
    · simp [h2]
    · by_cases h3 : c = 34
      · simp [h3]
      · by_cases h4 : c = 92
        · simp [h4]
        · simp [h1, h2, h3, h4]
theorem quoteL_snoc (l : List Nat) (c : Nat) : quoteL (l ++ [c]) = quoteL l ++ qOne c := by unfold quoteL; simp
theorem qOne_len (c : Nat) : 1 ≤ (qOne c).length ∧ (qOne c).length ≤ 2 := by unfold qOne; split <;> simp
theorem quoteL_len : ∀ l : List Nat, (quoteL l).length ≤ 2 * l.length
  | [] => by simp [quoteL]
  | c :: l => by
    have := quoteL_len l
    have := qOne_len c
    show (qOne c ++ quoteL l).length ≤ _
    simp; omega
/-- some bytes of a text, from a place on -/
def Reads (g : Nat → Nat) (i : Nat) (l : List Nat) : Prop := ∀ j (h : j < l.length), g (i + j) = l[j]
theorem Reads.head {g : Nat → Nat} {i c : Nat} {l : List Nat} (h : Reads g i (c :: l)) : g i = c := h 0 (by simp)
theorem Reads.tail {g : Nat → Nat} {i c : Nat} {l : List Nat} (h : Reads g i (c :: l)) : Reads g (i + 1) l := fun j hj => by
  have := h (j + 1) (by simpa using hj)
  rw [show i + 1 + j = i + (j + 1) by omega, this]; rfl
theorem said_stop {g : Nat → Nat} {n i : Nat} {acc : List Nat} (h : i < n) (hg : g i = 34) : saidG g n i false acc = (0, acc) := by
  unfold saidG
  rw [show n - i = (n - i - 1) + 1 by omega]
  simp [saidF, hg, seenB]
theorem said_pair {g : Nat → Nat} {n i m : Nat} {acc : List Nat} (h : i + 1 < n) (hg : g i = 92) (hs : seenB (g (i + 1)) = true) (hm : meantS (g (i + 1)) = some m) : saidG g n i false acc = saidG g n (i + 2) false (acc ++ [m]) := by
  unfold saidG
  rw [show n - i = (n - (i + 2)) + 1 + 1 by omega]
  have h1 : seenB 92 = true := by decide
  simp [saidF, hg, h1, hs, hm]
theorem said_one {g : Nat → Nat} {n i : Nat} {acc : List Nat} (h : i < n) (hs : seenB (g i) = true) (h1 : g i ≠ 34) (h2 : g i ≠ 92) : saidG g n i false acc = saidG g n (i + 1) false (acc ++ [g i]) := by
  unfold saidG
  rw [show n - i = (n - (i + 1)) + 1 by omega]
  simp [saidF, hs, h1, h2]
theorem quote_says {g : Nat → Nat} {n : Nat} : ∀ (l : List Nat) (i : Nat) (acc : List Nat), l.all goodC = true → Reads g i (quoteL l ++ [34]) → i + (quoteL l ++ [34]).length = n → saidG g n i false acc = (0, acc ++ l) ∧ qskip g n i false = n - 1 ∧ g (n - 1) = 34
  | [], i, acc, _, hr, hn => by
    have h34 : g i = 34 := hr.head
    simp [quoteL] at hn
    refine ⟨?_, ?_, ?_⟩
    · rw [said_stop (by omega) h34, List.append_nil]
    · rw [qskip_stop (.inr ⟨h34, rfl⟩)]; omega
    · rw [show n - 1 = i by omega]; exact h34
  | c :: l, i, acc, ha, hr, hn => by
    simp only [List.all_cons, Bool.and_eq_true] at ha
    obtain ⟨hc, ha⟩ := ha
    have e : quoteL (c :: l) = qOne c ++ quoteL l := rfl
    rw [e] at hr hn
    cases hw : writS c with
    | some m =>
      have eq : qOne c = [92, m] := by unfold qOne; rw [hw]
      rw [eq] at hr hn
      have g0 : g i = 92 := Reads.head hr
      have r1 := Reads.tail hr
      have g1 : g (i + 1) = m := Reads.head r1
      have r2 := Reads.tail r1
      have hmm : seenB m = true ∧ meantS m = some c ∧ m ≠ 10 := by
        unfold writS at hw
        by_cases h1 : c = 10
        · simp [h1] at hw; subst hw; subst h1; decide
        · by_cases h2 : c = 9
          · simp [h2] at hw; subst hw; subst h2; decide
          · by_cases h3 : c = 34
            · simp [h3] at hw; subst hw; subst h3; decide
            · by_cases h4 : c = 92
              · simp [h4] at hw; subst hw; subst h4; decide
              · simp [h1, h2, h3, h4] at hw
      obtain ⟨hs, hm, h10⟩ := hmm
      simp only [List.cons_append, List.nil_append, List.length_cons] at hn
      obtain ⟨k1, k2, k3⟩ := quote_says (n := n) l (i + 2) (acc ++ [c]) ha r2 (by omega)
      refine ⟨?_, ?_, k3⟩
      · rw [said_pair (by omega) g0 (by rw [g1]; exact hs) (by rw [g1]; exact hm), k1]; simp
      · rw [qskip_go (n := n) (by omega) (by rw [g0]; simp), g0, qskip_go (n := n) (by omega) (by rw [g1]; simp; omega), g1, ← k2]
        simp
    | none =>
      have eq : qOne c = [c] := by unfold qOne; rw [hw]
      rw [eq] at hr hn
      have g0 : g i = c := Reads.head hr
      have r1 := Reads.tail hr
      have hc' : seenB c = true := by unfold goodC at hc; rw [hw] at hc; simpa using hc
      have hne : c ≠ 10 ∧ c ≠ 34 ∧ c ≠ 92 := by
        refine ⟨?_, ?_, ?_⟩ <;> rintro rfl <;> simp [writS] at hw
      simp only [List.cons_append, List.nil_append, List.length_cons] at hn
      obtain ⟨k1, k2, k3⟩ := quote_says (n := n) l (i + 1) (acc ++ [c]) ha r1 (by omega)
      refine ⟨?_, ?_, k3⟩
      · rw [said_one (by omega) (by rw [g0]; exact hc') (by rw [g0]; exact hne.2.1) (by rw [g0]; exact hne.2.2), g0, k1]; simp
      · rw [qskip_go (n := n) (by omega) (by rw [g0]; omega), g0, ← k2, decide_eq_false hne.2.2]; rfl
/-- quoted, and what that says -/
theorem quote_back {g : Nat → Nat} {n : Nat} {l : List Nat} (ha : l.all goodC = true) (hr : Reads g 0 (34 :: (quoteL l ++ [34]))) (hn : n = (quoteL l).length + 2) : g 0 = 34 ∧ quotedG g n 0 = n ∧ saidG g n 1 false [] = (0, l) := by
  obtain ⟨k1, k2, k3⟩ := quote_says (g := g) (n := n) l 1 [] ha (by have := hr.tail; rwa [Nat.zero_add] at this) (by simp; omega)
  refine ⟨hr.head, ?_, by rw [k1]; rfl⟩
  unfold quotedG
  rw [Nat.zero_add, k2, if_pos ⟨by omega, k3⟩]; omega
/-- what a text in quotes says may be quoted -/
theorem said_good : ∀ (g : Nat → Nat) (k i : Nat) (b : Bool) (acc out : List Nat), acc.all goodC = true → saidF g k i b acc = (0, out) → out.all goodC = true
  | g, 0, i, b, acc, out, ha, h => by cases h
  | g, k + 1, i, b, acc, out, ha, h => by
    unfold saidF at h
    by_cases h1 : seenB (g i) = false
    · rw [if_pos h1] at h; cases h
    · rw [if_neg h1] at h
      by_cases h2 : b = true
      · rw [if_pos h2] at h
        cases hm : meantS (g i) with
        | none => rw [hm] at h; cases h
        | some m =>
          rw [hm] at h
          refine said_good g k (i + 1) false _ out ?_ h
          have : goodC m = true := by
            unfold meantS at hm
            by_cases q1 : g i = 110
            · simp [q1] at hm; subst hm; decide
            · by_cases q2 : g i = 116
              · simp [q2] at hm; subst hm; decide
              · by_cases q3 : g i = 34
                · simp [q3] at hm; subst hm; decide
                · by_cases q4 : g i = 92
                  · simp [q4] at hm; subst hm; decide
                  · simp [q1, q2, q3, q4] at hm
          simp [ha, this]
      · rw [if_neg h2] at h
        by_cases h3 : g i = 34
        · rw [if_pos h3] at h
          obtain rfl : acc = out := by injection h
          exact ha
        · rw [if_neg h3] at h
          by_cases h4 : g i = 92
          · rw [if_pos h4] at h
            exact said_good g k (i + 1) true _ out ha h
          · rw [if_neg h4] at h
            refine said_good g k (i + 1) false _ out ?_ h
            have : goodC (g i) = true := by unfold goodC; rw [show seenB (g i) = true by simpa using h1]; simp
            simp [ha, this]

/-- two texts with a line end between -/
theorem lex_apart {ga gb gz : Nat → Nat} {na nb nz : Nat} (hz : nz = na + 1 + nb) (ha : ∀ j, j < na → gz j = ga j) (h10 : gz na = 10) (hb : ∀ j, j < nb → gb j = gz (na + 1 + j)) (hl : nz ≤ 16384) :
    lexG gz nz = if (lexG ga na).2.1 ≠ 0 then ([], (lexG ga na).2) else if (lexG gb nb).2.1 ≠ 0 then ([], (lexG gb nb).2.1, na + 1 + (lexG gb nb).2.2) else
      ((toksG ga na (gapG ga na 0) 0).1 ++ ((toksG gb nb (gapG gb nb 0) 0).1 ++ [(0, nb, nb)]).map (moveT (na + 1)), 0, 0) := by
  have g0 := gap_le ga (Nat.zero_le na)
  have g1 := gap_le gb (Nat.zero_le nb)
  have hlen := toks_len (g := ga) _ 0 g0
  have e1 := gap_more (show na < nz by omega) ha h10 0 (Nat.zero_le _)
  have e2 := toks_more (show na < nz by omega) ha h10 _ 0 g0 (by omega)
  have e3 : gapG gz nz (na + 1) = na + 1 + gapG gb nb 0 := gap_shift (k := na + 1) hz hb 0 (Nat.zero_le _)
  have e4 := fun c => toks_shift (k := na + 1) hz hb (gapG gb nb 0) c g1
  rw [← e1, e3, e4, toks_count (g := gb) (n := nb) _ (0 + (toksG ga na (gapG ga na 0) 0).1.length) g1 0 (by omega) (by omega)] at e2
  unfold lexG
  rw [if_neg (show ¬ 65536 < nz by omega), if_neg (show ¬ 65536 < na by omega), if_neg (show ¬ 65536 < nb by omega), e2]
  by_cases ca : (toksG ga na (gapG ga na 0) 0).2.1 = 0
  · by_cases cb : (toksG gb nb (gapG gb nb 0) 0).2.1 = 0
    · simp [ca, cb, moveT, hz]
    · simp [ca, cb]
  · simp [ca]

/-- a token, cut by itself, is one token -/
theorem lex_cut {g g' : Nat → Nat} {n i : Nat} (hn : n ≤ 65536) (hi : i < n) (hb : blankB (g i) = false) (hc : comB g n i = false) (h0 : (tokenG g n i).1 = 0) (hg : ∀ j, j < (tokenG g n i).2.2 - i → g' j = g (i + j)) : lexG g' ((tokenG g n i).2.2 - i) = ([((tokenG g n i).2.1, 0, (tokenG g n i).2.2 - i), (0, (tokenG g n i).2.2 - i, (tokenG g n i).2.2 - i)], 0, 0) := by
  have ht := token_cut hi h0 hg
  obtain ⟨a, b, _⟩ := token_to hi h0
  generalize hm : (tokenG g n i).2.2 - i = m at *
  have e0 : g' 0 = g i := by have := hg 0 (by omega); simpa using this
  have hgap : gapG g' m 0 = 0 := gap_here (by omega) (fun _ => by rw [e0]; exact hb) (by
    refine comB_no (fun ⟨q1, q2, q3⟩ => ?_)
    have e1 := hg 1 (by omega)
    have := (comB_iff (g := g) (n := n) (a := i)).2 ⟨by omega, e0.symm.trans q2, e1.symm.trans q3⟩
    rw [hc] at this; cases this)
  unfold lexG
  rw [if_neg (by omega), hgap, toks_next (show 0 < m by omega) (by omega) (by rw [ht]), ht]
  simp only
  rw [gap_end, toks_end (by omega)]
  rfl

/-- a text of one sign many times -/
theorem toks_signs {g : Nat → Nat} {n : Nat} (hg : ∀ j, j < n → g j = 59) : ∀ d i c, n - i = d → i ≤ n → c ≤ 16384 → (c + d ≤ 16384 → (toksG g n i c).2.1 = 0 ∧ (toksG g n i c).1.length = d) ∧ (16384 < c + d → (toksG g n i c).2 = (2, i + (16384 - c)))
  | 0, i, c, hd, hi, hc => by
    rw [toks_end (by omega)]
    exact ⟨fun _ => ⟨rfl, rfl⟩, fun h => by omega⟩
  | d + 1, i, c, hd, hi, hc => by
    have hi' : i < n := by omega
    have g0 := hg i hi'
    by_cases hc' : c = 16384
    · subst hc'
      rw [toks_full hi']
      exact ⟨fun h => by omega, fun _ => rfl⟩
    · have hr : reachG g n i = (5, i + 1) := by
        unfold reachG signG
        rw [g0]
        have : pairS 59 (g (i + 1)) = false := by unfold pairS; simp
        simp [letterB, digitB, this, oneS, oneL]
      have ht : tokenG g n i = (0, 5, i + 1) := by
        unfold tokenG
        rw [hr]
        simp [longG]
      have hgap : gapG g n (i + 1) = i + 1 := gap_here (by omega) (fun h => by rw [hg _ h]; decide) (comB_no (fun ⟨q1, q2, q3⟩ => by rw [hg _ (by omega)] at q2; omega))
      rw [toks_next hi' hc' (by rw [ht]), ht]
      simp only
      rw [hgap]
      obtain ⟨k1, k2⟩ := toks_signs hg d (i + 1) (c + 1) (by omega) (by omega) (by omega)
      refine ⟨fun h => ?_, fun h => ?_⟩
      · obtain ⟨r1, r2⟩ := k1 (by omega)
        exact ⟨r1, by simp [r2]⟩
      · rw [k2 (by omega)]
        simp only [Prod.mk.injEq, true_and]; omega
theorem lex_signs {g : Nat → Nat} {n : Nat} (hn : n ≤ 65536) (hg : ∀ j, j < n → g j = 59) : (n ≤ 16384 → (lexG g n).2 = (0, 0) ∧ (lexG g n).1.length = n + 1) ∧ (16384 < n → lexG g n = ([], 2, 16384)) := by
  have hgap : gapG g n 0 = 0 := gap_here (by omega) (fun h => by rw [hg _ h]; decide) (comB_no (fun ⟨q1, q2, q3⟩ => by rw [hg _ (by omega)] at q2; omega))
  obtain ⟨k1, k2⟩ := toks_signs hg n 0 0 rfl (by omega) (by omega)
  unfold lexG
  rw [if_neg (by omega), hgap]
  refine ⟨fun h => ?_, fun h => ?_⟩
  · obtain ⟨r1, r2⟩ := k1 (by omega)
    rw [if_pos r1]
    exact ⟨rfl, by simp [r2]⟩
  · have := k2 (by omega)
    rw [if_neg (by rw [this]; simp), this]
/-- a text that is one word, number or text in quotes -/
theorem lex_one {g : Nat → Nat} {n k : Nat} (h0 : 0 < n) (hn : n ≤ 65536) (hb : blankB (g 0) = false) (hc : g 0 ≠ 47) (hr : reachG g n 0 = (k, n)) (hk : k ≠ 5) (hs : k = 4 → (saidG g n 1 false []).1 = 0) : (lexG g n).2.1 = if longG k < n then 2 else 0 := by
  have hgap : gapG g n 0 = 0 := gap_here (by omega) (fun h => hb) (comB_no (fun ⟨q1, q2, q3⟩ => hc q2))
  have ht : tokenG g n 0 = if longG k < n then (2, 0, 0) else (0, k, n) := by
    unfold tokenG
    rw [hr]
    simp only [Nat.sub_zero, Nat.zero_add]
    by_cases h1 : longG k < n
    · rw [if_pos h1, if_pos h1]
    · rw [if_neg h1, if_neg h1, if_neg (fun h => hk h.1), if_neg (fun h => h.2 (hs h.1))]
  unfold lexG
  rw [if_neg (by omega), hgap]
  by_cases h1 : longG k < n
  · rw [if_pos h1] at ht ⊢
    rw [toks_bad h0 (by omega) (by rw [ht]; simp), ht]
    simp
  · rw [if_neg h1] at ht ⊢
    rw [toks_next h0 (by omega) (by rw [ht]), ht]
    simp only
    rw [gap_end, toks_end (by omega)]
    rfl
theorem lex_word {g : Nat → Nat} {n : Nat} (h0 : 0 < n) (hn : n ≤ 65536) (hg : ∀ j, j < n → g j = 119) : (lexG g n).2.1 = if 64 < n then 2 else 0 := by
  have hr : reachG g n 0 = (1, n) := by
    unfold reachG
    rw [hg 0 h0, if_pos (by decide), skip_of (Nat.zero_le _) (Nat.le_refl _) (fun j _ hj => by rw [hg j hj]; decide) (fun h => by omega)]
  exact lex_one h0 hn (by rw [hg 0 h0]; decide) (by rw [hg 0 h0]; decide) hr (by decide) (fun h => by omega)
theorem lex_digits {g : Nat → Nat} {n : Nat} (h0 : 0 < n) (hn : n ≤ 65536) (hg : ∀ j, j < n → g j = 49) : (lexG g n).2.1 = if 20 < n then 2 else 0 := by
  have hr : reachG g n 0 = (2, n) := by
    unfold reachG numberG
    rw [hg 0 h0, if_neg (by decide), if_pos (by decide), skip_of (Nat.zero_le _) (Nat.le_refl _) (fun j _ hj => by rw [hg j hj]; decide) (fun h => by omega), if_neg (by omega)]
  exact lex_one h0 hn (by rw [hg 0 h0]; decide) (by rw [hg 0 h0]; decide) hr (by decide) (fun h => by omega)
theorem quoteL_w : ∀ n, quoteL (List.replicate n 119) = List.replicate n 119
  | 0 => rfl
  | n + 1 => by
    show qOne 119 ++ quoteL (List.replicate n 119) = _
    rw [quoteL_w n]; rfl
theorem lex_quotes {g : Nat → Nat} {n : Nat} (hn : n + 2 ≤ 65536) (hr : Reads g 0 (34 :: (List.replicate n 119 ++ [34]))) : (lexG g (n + 2)).2.1 = if 256 < n + 2 then 2 else 0 := by
  have hw := quoteL_w n
  obtain ⟨k1, k2, k3⟩ := quote_back (g := g) (n := n + 2) (l := List.replicate n 119) (by simp [goodC, writS, seenB]) (by rw [hw]; exact hr) (by rw [hw]; simp)
  have hr : reachG g (n + 2) 0 = (4, n + 2) := by
    unfold reachG
    rw [k1, if_neg (by decide), if_neg (by decide), if_pos rfl, k2]
  exact lex_one (by omega) hn (by rw [k1]; decide) (by rw [k1]; decide) hr (by decide) (fun _ => by rw [k3])

/-- where the token ahead of one ends -/
def atK (l : List Tok) (k : Nat) : Nat := if k = 0 then 0 else (l.getD (k - 1) (0, 0, 0)).2.2
theorem atK_succ (l : List Tok) (k : Nat) (h : k < l.length) : atK l (k + 1) = l[k].2.2 := by
  unfold atK
  rw [if_neg (by omega), Nat.add_sub_cancel, List.getD_eq_getElem?_getD, List.getElem?_eq_getElem h]; rfl
def atA (a : Nat) (l : List Tok) (k : Nat) : Nat := if k = 0 then a else (l.getD (k - 1) (0, 0, 0)).2.2
theorem chain_get {g : Nat → Nat} {n : Nat} : ∀ (l : List Tok) (a : Nat), a ≤ n → Chain g n a l → (∀ k (h : k < l.length), atA a l k ≤ l[k].2.1 ∧ l[k].2.1 < n ∧ gapG g n (atA a l k) = l[k].2.1 ∧ tokenG g n l[k].2.1 = (0, l[k].1, l[k].2.2) ∧ l[k].2.1 < l[k].2.2 ∧ l[k].2.2 ≤ n ∧ 1 ≤ l[k].1 ∧ l[k].1 ≤ 5) ∧ gapG g n (atA a l l.length) = n ∧ atA a l l.length ≤ n
  | [], a, ha, h => ⟨fun k hk => absurd hk (by simp), h, ha⟩
  | x :: l, a, ha, h => by
    obtain ⟨h1, h2, h3, h4, h5, h6, h7, h8, h9⟩ := h
    obtain ⟨i1, i2, i3⟩ := chain_get l x.2.2 h6 h9
    have e : ∀ k, atA a (x :: l) (k + 1) = atA x.2.2 l k := fun k => by
      unfold atA
      rw [if_neg (by omega), Nat.add_sub_cancel]
      cases k with
      | zero => rfl
      | succ k => rw [if_neg (by omega)]; rfl
    refine ⟨fun k hk => ?_, ?_, ?_⟩
    · cases k with
      | zero => exact ⟨h1, h2, h3, h4, h5, h6, h7, h8⟩
      | succ k =>
        have := i1 k (by simpa using hk)
        rw [e k]; exact this
    · rw [List.length_cons, e]; exact i2
    · rw [List.length_cons, e]; exact i3
/-- Lex without a fault: what is said of each token -/
def TokOk (g : Nat → Nat) (n at0 : Nat) (x : Tok) : Prop := at0 ≤ x.2.1 ∧ x.2.1 < x.2.2 ∧ x.2.2 ≤ n ∧ 1 ≤ x.1 ∧ x.1 ≤ 5 ∧ gapG g n at0 = x.2.1 ∧ tokenG g n x.2.1 = (0, x.1, x.2.2) ∧ blankB (g x.2.1) = false ∧ comB g n x.2.1 = false
theorem lex_ok {g : Nat → Nat} {n : Nat} (h : (lexG g n).2.1 = 0) : n ≤ 65536 ∧ (lexG g n).2.2 = 0 ∧ ∃ l : List Tok, (lexG g n).1 = l ++ [(0, n, n)] ∧ l.length ≤ n ∧ (∀ k (h : k < l.length), TokOk g n (atK l k) l[k]) ∧ gapG g n (atK l l.length) = n ∧ atK l l.length ≤ n := by
  unfold lexG at h ⊢
  by_cases h1 : 65536 < n
  · rw [if_pos h1] at h; cases h
  · rw [if_neg h1] at h ⊢
    by_cases h2 : (toksG g n (gapG g n 0) 0).2.1 = 0
    · rw [if_pos h2]
      obtain ⟨c1, c2⟩ := toks_chain (g := g) (n := n) _ 0 (gap_le g (Nat.zero_le _)) 0 (Nat.zero_le _) rfl h2
      obtain ⟨d1, d2, d3⟩ := chain_get _ 0 (Nat.zero_le _) c1
      have hl := toks_len (g := g) (n := n) _ 0 (gap_le g (Nat.zero_le _))
      refine ⟨by omega, rfl, _, rfl, by omega, fun k hk => ?_, d2, d3⟩
      obtain ⟨e1, e2, e3, e4, e5, e6, e7, e8⟩ := d1 k hk
      have hle : atK (toksG g n (gapG g n 0) 0).1 k ≤ n := by have : atK (toksG g n (gapG g n 0) 0).1 k = atA 0 (toksG g n (gapG g n 0) 0).1 k := rfl; omega
      obtain ⟨f1, f2, f3, f4⟩ := gap_facts g _ hle
      have ee : gapG g n (atK (toksG g n (gapG g n 0) 0).1 k) = _ := e3
      rw [ee] at f3 f4
      exact ⟨e1, e5, e6, e7, e8, e3, e4, f3 e2, f4⟩
    · rw [if_neg h2] at h; exact absurd h h2
theorem lex_no {g : Nat → Nat} {n : Nat} (h : (lexG g n).2.1 ≠ 0) : (lexG g n).1 = [] := by
  unfold lexG at h ⊢
  by_cases h1 : 65536 < n
  · rw [if_pos h1]
  · rw [if_neg h1] at h ⊢
    by_cases h2 : (toksG g n (gapG g n 0) 0).2.1 = 0
    · rw [if_pos h2] at h; exact absurd rfl h
    · rw [if_neg h2]

end Go.Proofs.Ytgcokjobnpjhhaa
