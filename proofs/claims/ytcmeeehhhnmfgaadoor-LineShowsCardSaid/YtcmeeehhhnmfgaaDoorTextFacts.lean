/- Facts on a text's lines: what the document's answer tells is what the table tells. -/
import Derived.Test.YtcmeeehhhnmfgaaDoorRefBare
import Derived.Test.YtcmeeehhhnmfgaaDoorLineText
namespace Go.Proofs.YtcmeeehhhnmfgaaDoor
open Go.RowKit
set_option linter.unusedVariables false

theorem linesS_len (s : ByteArray) : (linesS s).length = (begs s).length := by
  have := outTo_len s s.size
  unfold linesS
  simp only [List.length_append, List.length_cons, List.length_nil]
  exact this

theorem begsTo_get_more (s : ByteArray) (k m j : Nat) (h : j < (begsTo s k).length) : (begsTo s (k + m)).getD j 0 = (begsTo s k).getD j 0 := by
  obtain ⟨r, hr, _⟩ := begsTo_more s k m
  rw [hr, List.getD_eq_getElem?_getD, List.getD_eq_getElem?_getD, List.getElem?_append_left h]
theorem begsTo_last (s : ByteArray) (k : Nat) : (begsTo s k).getD ((begsTo s k).length - 1) 0 = begN s k := by
  unfold begN
  have h := begsTo_len s k
  rw [List.getLast_eq_getElem, List.getD_eq_getElem?_getD, List.getElem?_eq_getElem (by omega)]
  rfl

theorem outTo_get (s : ByteArray) (k : Nat) : ∀ j (h : j < (outTo s k).length), (outTo s k)[j] = s.extract ((begsTo s k).getD j 0) ((begsTo s k).getD (j + 1) 0) := by
  induction k with
  | zero => intro j h; simp [outTo] at h
  | succ k ih =>
    intro j h
    have hl := outTo_len s k
    unfold lineN at hl
    cases hn : nlAt s k
    · have e1 := outTo_no hn
      have e2 := begsTo_no hn
      have h' : j < (outTo s k).length := by rw [e1] at h; exact h
      have := ih j h'
      rw [e2, ← this]
      congr 1
    · have e1 := outTo_yes hn
      have e2 := begsTo_yes hn
      by_cases hj : j < (outTo s k).length
      · have := ih j hj
        rw [e2, List.getD_eq_getElem?_getD, List.getD_eq_getElem?_getD, List.getElem?_append_left (by omega), List.getElem?_append_left (by omega), ← List.getD_eq_getElem?_getD, ← List.getD_eq_getElem?_getD, ← this]
        simp only [e1]
        rw [List.getElem_append_left hj]
      · have hj' : j = (outTo s k).length := by rw [e1] at h; simp at h; omega
        subst hj'
        simp only [e1]
        rw [List.getElem_append_right (by omega)]
        simp only [Nat.sub_self, List.getElem_cons_zero]
        have q1 : (begsTo s (k + 1)).getD (outTo s k).length 0 = begN s k := by
          rw [e2, List.getD_eq_getElem?_getD, List.getElem?_append_left (by omega), ← List.getD_eq_getElem?_getD]
          have : (outTo s k).length = (begsTo s k).length - 1 := by omega
          rw [this]; exact begsTo_last s k
        have q2 : (begsTo s (k + 1)).getD ((outTo s k).length + 1) 0 = k + 1 := by
          rw [e2, List.getD_eq_getElem?_getD, hl, List.getElem?_append_right (by omega)]
          simp
        rw [q1, q2]

theorem linesS_get (s : ByteArray) (j : Nat) (h : j < (linesS s).length) : (linesS s)[j] = s.extract (bgN s j) (if j + 1 < (begs s).length then bgN s (j + 1) else s.size) := by
  have hl := outTo_len s s.size
  have hL : lineN s s.size = (begs s).length := rfl
  rw [hL] at hl
  have hn := linesS_len s
  have h' : j < (outTo s s.size ++ [s.extract (begN s s.size) s.size]).length := h
  have e : (linesS s)[j] = (outTo s s.size ++ [s.extract (begN s s.size) s.size])[j]'h' := rfl
  refine e.trans ?_
  clear e
  by_cases hj : j < (outTo s s.size).length
  · rw [List.getElem_append_left hj, outTo_get s s.size j hj, if_pos (by omega)]
    rfl
  · have hj' : j = (outTo s s.size).length := by omega
    subst hj'
    rw [List.getElem_append_right (by omega), if_neg (by omega)]
    simp only [Nat.sub_self, List.getElem_cons_zero]
    have : bgN s (outTo s s.size).length = begN s s.size := by
      have e := begsTo_last s s.size
      have e2 : (outTo s s.size).length = (begsTo s s.size).length - 1 := by have : (begsTo s s.size).length = (begs s).length := rfl; omega
      unfold bgN; rw [e2]; exact e
    rw [this]

/-- ahead of a line's beginning there is a line end -/
theorem nl_before (s : ByteArray) (k : Nat) : ∀ j, 1 ≤ j → j < (begsTo s k).length → 1 ≤ (begsTo s k).getD j 0 ∧ nlAt s ((begsTo s k).getD j 0 - 1) = true := by
  induction k with
  | zero => intro j h1 h2; simp [begsTo] at h2; omega
  | succ k ih =>
    intro j h1 h2
    cases hn : nlAt s k
    · rw [begsTo_no hn] at h2 ⊢; exact ih j h1 h2
    · rw [begsTo_yes hn] at h2 ⊢
      by_cases hj : j < (begsTo s k).length
      · rw [List.getD_eq_getElem?_getD, List.getElem?_append_left hj, ← List.getD_eq_getElem?_getD]; exact ih j h1 hj
      · have hj' : j = (begsTo s k).length := by simp at h2; omega
        subst hj'
        rw [List.getD_eq_getElem?_getD, List.getElem?_append_right (by omega)]
        simp [hn]

theorem at_extract (s : ByteArray) (b e i : Nat) (h : b + i < e) (he : e ≤ s.size) : (s.extract b e).data.toList.getD i 0 = s.data.toList.getD (b + i) 0 := by
  rw [List.getD_eq_getElem?_getD, List.getD_eq_getElem?_getD]
  congr 1
  rw [ByteArray.data_extract, Array.getElem?_toList, Array.getElem?_toList, Array.getElem?_extract]
  have : s.data.size = s.size := rfl
  rw [if_pos (by omega)]
theorem nlAt_extract (s : ByteArray) (b e i : Nat) (h : b + i < e) (he : e ≤ s.size) : nlAt (s.extract b e) i = nlAt s (b + i) := by unfold nlAt; rw [at_extract s b e i h he]
theorem crAt_extract (s : ByteArray) (b e i : Nat) (h : b + i < e) (he : e ≤ s.size) : crAt (s.extract b e) i = crAt s (b + i) := by unfold crAt; rw [at_extract s b e i h he]

theorem bare_line (s : ByteArray) (n : Nat) (h1 : 1 ≤ n) (h2 : n ≤ (begs s).length) (h : n - 1 < (linesS s).length) : bareS (linesS s)[n - 1] = lineS s n := by
  rw [linesS_get s (n - 1) h]
  have e1 : n - 1 + 1 = n := by omega
  rw [e1]
  have hb := bgN_le s n
  have hb' := bgN_le s (n - 1)
  unfold lineS endN
  by_cases hn : n < (begs s).length
  · rw [if_pos hn, if_pos hn]
    have hlt := bgN_lt s n h1 hn
    have hnl := nl_before s s.size n h1 hn
    change 1 ≤ bgN s n ∧ nlAt s (bgN s n - 1) = true at hnl
    generalize bgN s n = e at *
    generalize bgN s (n - 1) = b at *
    have hsz : (s.extract b e).size = e - b := by rw [ByteArray.size_extract]; omega
    unfold bareS
    rw [hsz]
    rw [if_neg (by
      rw [nlAt_extract s b e _ (by omega) hb, show b + (e - b - 1) = e - 1 by omega, hnl.2]
      simp; omega)]
    by_cases hc : b < e - 1 ∧ crAt s (e - 1 - 1) = true
    · rw [if_pos ⟨by omega, by rw [crAt_extract s b e _ (by omega) hb, show b + (e - b - 2) = e - 1 - 1 by omega]; exact hc.2⟩, if_pos (by simp [hc.1, hc.2])]
      rw [ByteArray.extract_extract]
      congr 1 <;> omega
    · rw [if_neg (by
        rintro ⟨q1, q2⟩
        rw [crAt_extract s b e _ (by omega) hb, show b + (e - b - 2) = e - 1 - 1 by omega] at q2
        exact hc ⟨by omega, q2⟩), if_neg (by simpa using hc)]
      rw [ByteArray.extract_extract]
      congr 1 <;> omega
  · rw [if_neg hn, if_neg hn]
    have hlast : bgN s (n - 1) = begN s s.size := by
      have e := begsTo_last s s.size
      have e2 : n - 1 = (begsTo s s.size).length - 1 := by have : (begsTo s s.size).length = (begs s).length := rfl; omega
      unfold bgN; rw [e2]; exact e
    have hsz : (s.extract (bgN s (n - 1)) s.size).size = s.size - bgN s (n - 1) := by rw [ByteArray.size_extract]; omega
    unfold bareS
    rw [hsz, if_pos]
    by_cases h0 : s.size - bgN s (n - 1) = 0
    · exact .inl h0
    · right
      rw [nlAt_extract s _ _ _ (by omega) (Nat.le_refl _)]
      have : bgN s (n - 1) + (s.size - bgN s (n - 1) - 1) = s.size - 1 := by omega
      rw [this]
      cases hq : nlAt s (s.size - 1)
      · rfl
      · have h5 := begN_yes hq
        rw [show s.size - 1 + 1 = s.size by omega] at h5
        rw [hlast, h5.1] at h0
        omega

theorem line_size (s : ByteArray) (j : Nat) (hj : j + 1 < (begs s).length) (h : j < (linesS s).length) : (linesS s)[j].size + bgN s j = bgN s (j + 1) := by
  rw [linesS_get s j h, if_pos hj, ByteArray.size_extract]
  have h1 := bgN_le s (j + 1)
  have h2 := bgN_lt s (j + 1) (by omega) hj
  rw [show j + 1 - 1 = j by omega] at h2
  omega

end Go.Proofs.YtcmeeehhhnmfgaaDoor
