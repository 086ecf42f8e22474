/- What a token's own bytes are, and what they say as a number, a double, a text, a word: plain facts. -/
import Derived.Test.YtgcokjobnpjhhaaLexO
import Derived.Test.YtgcokjobnpjhhaaNumD
namespace Go.Proofs.Ytgcokjobnpjhhaa
open Go Go.RowKit
set_option linter.unusedVariables false

/-- a token by itself -/
theorem token_self {g g' : Nat → Nat} {n i k t : Nat} (hi : i < n) (h : tokenG g n i = (0, k, t)) (hg : ∀ j, j < t - i → g' j = g (i + j)) : 0 < t - i ∧ reachG g' (t - i) 0 = (k, t - i) ∧ t - i ≤ longG k ∧ (k = 4 → (saidG g' (t - i) 1 false []).1 = 0) := by
  have h0 : (tokenG g n i).1 = 0 := by rw [h]
  obtain ⟨a1, a2, _⟩ := token_to hi h0
  have hc := token_cut hi h0 (g' := g') (by rw [h]; exact hg)
  rw [h] at hc a1
  simp only at hc a1
  have hp : 0 < t - i := by omega
  obtain ⟨e, _, _, b, _, _, c⟩ := token_facts hp (g := g') (by rw [hc])
  rw [hc] at e
  have e' : reachG g' (t - i) 0 = (k, t - i) := by injection e with _ e; exact e.symm
  rw [e'] at b c
  refine ⟨hp, e', by simpa using b, fun h4 => ?_⟩
  have := c h4
  simpa using this

theorem digB_C (c : UInt8) : digitB c.toNat = digC c := rfl
theorem all_dig (x : ByteArray) (a b : Nat) (h : ∀ j, a ≤ j → j < b → digitB (byS x j) = true) (hb : b ≤ x.size) : (x.extract a b).data.toList.all digC = true := by
  rw [List.all_eq_true]
  intro c hc
  obtain ⟨j, hj, rfl⟩ := List.getElem_of_mem hc
  have hz : (x.extract a b).data.toList.length = b - a := by simp; omega
  have h1 := h (a + j) (by omega) (by omega)
  have e : (x.extract a b).data.toList[j] = (x.extract a b)[j]'(by simp; omega) := rfl
  have e2 : ((x.extract a b)[j]'(by simp; omega)).toNat = byS x (a + j) := by
    rw [← byS_get _ _ (by simp; omega), byS_extract x a b j hb (by omega)]
  rw [e, ← digB_C, e2]; exact h1
theorem dig_full (x : ByteArray) (h0 : 0 < x.size) (h : ∀ j, j < x.size → digitB (byS x j) = true) : digS x = true := by
  have h1 := all_dig x 0 x.size (fun j _ hj => h j hj) (Nat.le_refl _)
  have e : x.extract 0 x.size = x := by
    apply ByteArray.ext; simp
  rw [e] at h1
  unfold digS
  rw [h1]
  cases he : x.data.toList.isEmpty
  · rfl
  · have := (empty_iff x).1 he; omega

/-- a number -/
theorem number_says (x : ByteArray) (h0 : 0 < x.size) (h : reachG (byS x) x.size 0 = (2, x.size)) : 0 ≤ (intR x).1 ∧ ((intR x).2 = 0 ∨ (intR x).2 = 1 ∨ ((intR x).2 = 5 ∧ byS x 0 = 48 ∧ 1 < x.size)) := by
  have hd : digS x = true := by
    unfold reachG at h
    by_cases hl : letterB (byS x 0) = true
    · rw [if_pos hl] at h; injection h with h _; omega
    · rw [if_neg hl] at h
      by_cases hd : digitB (byS x 0) = true
      · rw [if_pos hd] at h
        unfold numberG at h
        split at h
        · injection h with h _; omega
        · injection h with _ h
          refine dig_full x h0 (fun j hj => ?_)
          exact skip_in (n := x.size) (i := 0) (Nat.zero_le _) j (Nat.zero_le _) (by rw [h]; exact hj)
      · rw [if_neg hd] at h
        split at h
        · injection h with h _; omega
        · injection h with h _; omega
  have hw := wholeS_iff x hd
  unfold intR
  by_cases hh : wholeS x = true
  · rw [if_pos hh]
    split
    · exact ⟨by simp only; omega, .inl rfl⟩
    · exact ⟨by simp, .inr (.inl rfl)⟩
  · rw [if_neg hh]
    refine ⟨by simp, .inr (.inr ⟨rfl, ?_⟩)⟩
    rw [hw] at hh
    simp at hh
    have : byN x 0 = byS x 0 := rfl
    omega
/-- a double -/
theorem float_says (x : ByteArray) (h0 : 0 < x.size) (h : reachG (byS x) x.size 0 = (3, x.size)) :
    (fltR x).1 < 18446744073709551616 ∧ ¬ isNaN (fltR x).1 ∧ SG (fltR x).1 = false ∧ ((fltR x).2 = 0 ∨ (fltR x).2 = 2 ∨ ((fltR x).2 = 5 ∧ byS x 0 = 48)) := by
  have z0 : (0 : Nat) < 18446744073709551616 ∧ ¬ isNaN 0 ∧ SG 0 = false := by decide
  obtain ⟨q, q1, q2, q3, q4⟩ : ∃ q, 0 < q ∧ q + 1 < x.size ∧ byS x q = 46 ∧ (∀ j, j < x.size → j ≠ q → digitB (byS x j) = true) := by
    unfold reachG at h
    by_cases hl : letterB (byS x 0) = true
    · rw [if_pos hl] at h; injection h with h _; omega
    · rw [if_neg hl] at h
      by_cases hd : digitB (byS x 0) = true
      · rw [if_pos hd] at h
        unfold numberG at h
        split at h
        · rename_i hc
          injection h with _ h
          refine ⟨skipG digitB (byS x) x.size 0, ?_, hc.1, hc.2.1, fun j hj hjq => ?_⟩
          · rw [skip_yes h0 hd]
            have := skip_ge digitB (byS x) (show 0 + 1 ≤ x.size by omega)
            omega
          · by_cases hlt : j < skipG digitB (byS x) x.size 0
            · exact skip_in (n := x.size) (i := 0) (Nat.zero_le _) j (Nat.zero_le _) hlt
            · exact skip_in (n := x.size) (i := skipG digitB (byS x) x.size 0 + 1) (by omega) j (by omega) (by omega)
        · injection h with h _; omega
      · rw [if_neg hd] at h
        split at h
        · injection h with h _; omega
        · injection h with h _; omega
  have hl : x.data.toList.length = x.size := by simp
  have get : ∀ j (hj : j < x.size), x.data.toList[j]? = some x[j] := fun j hj => by
    rw [List.getElem?_eq_getElem (by omega)]; rfl
  have hp : posOf x.data.toList 46 = some q := by
    refine posOf_of _ _ _ ?_ (fun j hj => ?_)
    · rw [get q (by omega)]
      congr 1
      have := byS_get x q (by omega)
      exact UInt8.toNat_inj.1 (by rw [← this, q3]; rfl)
    · rw [get j (by omega)]
      intro he
      injection he with he
      have h1 := q4 j (by omega) (by omega)
      rw [byS_get x j (by omega), he] at h1
      exact absurd h1 (by decide)
  have ha : digS (x.extract 0 q) = true := by
    refine dig_full _ (by simp; omega) (fun j hj => ?_)
    have hj' : j < q := by simp at hj; omega
    rw [byS_extract x 0 q j (by omega) (by omega), Nat.zero_add]
    exact q4 j (by omega) (by omega)
  have hb : digS (x.extract (q + 1) x.size) = true := by
    refine dig_full _ (by simp; omega) (fun j hj => ?_)
    have hj' : j < x.size - (q + 1) := by simp at hj; omega
    rw [byS_extract x (q + 1) x.size j (Nat.le_refl _) (by omega)]
    exact q4 _ (by omega) (by omega)
  have hw := wholeS_iff _ ha
  have h48 : byN (x.extract 0 q) 0 = byS x 0 := by
    show byS (x.extract 0 q) 0 = _
    rw [byS_extract x 0 q 0 (by omega) (by omega)]
  unfold fltR
  rw [hp]
  simp only
  by_cases hok : (wholeS (x.extract 0 q) && digS (x.extract (q + 1) x.size)) = true
  · by_cases h15 : 15 < (x.extract 0 q).size + (x.extract (q + 1) x.size).size
    · rw [fltOf_long hok h15]
      exact ⟨z0.1, z0.2.1, z0.2.2, .inr (.inl rfl)⟩
    · rw [fltOf_yes hok h15]
      obtain ⟨v1, v2⟩ := fltV_small _ _ hok h15
      rw [app_list] at v2
      obtain ⟨_, f2, f3, f4⟩ := flt_bits (valL ((x.extract 0 q).data.toList ++ (x.extract (q + 1) x.size).data.toList)) (x.extract (q + 1) x.size).size v2 (by omega)
      exact ⟨f4, f2, f3, .inl rfl⟩
  · have hok' : (wholeS (x.extract 0 q) && digS (x.extract (q + 1) x.size)) = false := by simpa using hok
    rw [fltOf_no hok']
    refine ⟨z0.1, z0.2.1, z0.2.2, .inr (.inr ⟨rfl, ?_⟩)⟩
    rw [hb, Bool.and_true, hw, h48] at hok'
    simp at hok'
    omega
theorem holds_less (l s m : Bool) : holdsN ⟨#[60]⟩ l s m = (l, 0) := by
  have e : (⟨#[60]⟩ : ByteArray).toList = [60] := toList_mk [60]
  unfold holdsN
  rw [e]
  rfl
theorem whole_less {x : Nat} (h1 : x < 18446744073709551616) (h2 : ¬ isNaN x) (h3 : SG x = false) : lessB x (toF (toI x)) = false := by
  rw [← less_order x _ h1 (toF_lt _)]
  exact not_less_whole x h1 h2 h3
theorem neg_neg {x : Nat} (h1 : x < 18446744073709551616) (h2 : ¬ isNaN x) : norm (flip (norm (flip x))) = x ∧ norm (flip x) < 18446744073709551616 := by
  have e : ¬ isNaN (flip x) := fun h => h2 ((isNaN_flip h1).1 h)
  rw [norm_of e, flip_flip h1, norm_of h2]
  exact ⟨rfl, flip_lt h1⟩
/-- a text in quotes -/
theorem said_len : ∀ (g : Nat → Nat) (k i : Nat) (b : Bool) (acc out : List Nat), saidF g k i b acc = (0, out) → out.length ≤ acc.length + k
  | g, 0, i, b, acc, out, h => by cases h
  | g, k + 1, i, b, acc, out, h => by
    unfold saidF at h
    by_cases h1 : seenB (g i) = false
    · rw [if_pos h1] at h; cases h
    · rw [if_neg h1] at h
      by_cases h2 : b = true
      · rw [if_pos h2] at h
        cases hm : meantS (g i) with
        | none => rw [hm] at h; cases h
        | some m =>
          rw [hm] at h
          have := said_len g k (i + 1) false _ out h
          simp at this; omega
      · rw [if_neg h2] at h
        by_cases h3 : g i = 34
        · rw [if_pos h3] at h
          obtain rfl : acc = out := by injection h
          omega
        · rw [if_neg h3] at h
          by_cases h4 : g i = 92
          · rw [if_pos h4] at h
            have := said_len g k (i + 1) true _ out h
            omega
          · rw [if_neg h4] at h
            have := said_len g k (i + 1) false _ out h
            simp at this; omega
theorem natsOf_strN (l : List Nat) (h : ∀ c ∈ l, c < 256) : natsOf (strN l) = l := by
  unfold natsOf strN ofN
  rw [List.map_map]
  conv => rhs; rw [← List.map_id l]
  refine List.map_congr_left fun c hc => ?_
  have := h c hc
  simp [Function.comp, Nat.toUInt8]
  omega
theorem text_says (x : ByteArray) (h0 : 0 < x.size) (h : reachG (byS x) x.size 0 = (4, x.size)) (hs : (saidG (byS x) x.size 1 false []).1 = 0) :
    ∃ out, unqF x = (0, out) ∧ out.length ≤ x.size ∧ quoF (strN out) = (0, 34 :: (quoteL out ++ [34])) ∧ unqF (strN (34 :: (quoteL out ++ [34]))) = (0, out) := by
  obtain ⟨h34, hq⟩ : byS x 0 = 34 ∧ quotedG (byS x) x.size 0 = x.size := by
    unfold reachG at h
    split at h
    · injection h with h _; omega
    · split at h
      · unfold numberG at h
        split at h
        · injection h with h _; omega
        · injection h with h _; omega
      · split at h
        · rename_i h34
          injection h with _ h
          exact ⟨h34, h⟩
        · injection h with h _; omega
  obtain ⟨⟨c, out⟩, hr⟩ : ∃ R, saidG (byS x) x.size 1 false [] = R := ⟨_, rfl⟩
  rw [hr] at hs
  simp only at hs
  subst hs
  have hg := said_good (byS x) _ 1 false [] out rfl hr
  have hl := said_len (byS x) _ 1 false [] out hr
  have hlt : ∀ c ∈ out, c < 256 := fun c hc => good_lt (List.all_eq_true.1 hg c hc)
  refine ⟨out, ?_, by simp at hl; omega, ?_, unq_quo out hg⟩
  · unfold unqF
    rw [hq, hr, h34, decide_eq_true h0]
    simp
  · unfold quoF
    rw [natsOf_strN out hlt, if_pos hg]
/-- a word -/
theorem word_says (x : ByteArray) (h0 : 0 < x.size) (h : reachG (byS x) x.size 0 = (1, x.size)) (h64 : x.size ≤ 64) : nameS x = !keptS x := by
  unfold reachG at h
  by_cases hl : letterB (byS x 0) = true
  · rw [if_pos hl] at h
    injection h with _ h
    unfold nameS
    rw [decide_eq_true h0, decide_eq_true h64, hl, decide_eq_true h]
    rfl
  · rw [if_neg hl] at h
    split at h
    · unfold numberG at h
      split at h
      · injection h with h _; omega
      · injection h with h _; omega
    · split at h
      · injection h with h _; omega
      · injection h with h _; omega

end Go.Proofs.Ytgcokjobnpjhhaa
