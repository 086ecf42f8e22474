/- The lines of a text as spans, and what lies between them: plain facts, no Go. -/
import Derived.Test.YtfiphchjjgmcpaaDoorGapsN
import Derived.Test.YtfiphchjjgmcpaaDoorLineText
namespace Go.Proofs.YtfiphchjjgmcpaaDoor
open Go Go.RowKit
set_option linter.unusedVariables false

theorem top_last (s : ByteArray) (k : Nat) : (begsTo s k).getD ((begsTo s k).length - 1) 0 = begN s k := by
  unfold begN
  have h := begsTo_len s k
  rw [List.getLast_eq_getElem, List.getD_eq_getElem?_getD, List.getElem?_eq_getElem (by omega)]
  rfl
/-- ahead of a line's beginning there is a line end -/
theorem top_nl (s : ByteArray) (k : Nat) : ∀ j, 1 ≤ j → j < (begsTo s k).length → 1 ≤ (begsTo s k).getD j 0 ∧ nlAt s ((begsTo s k).getD j 0 - 1) = true := by
  induction k with
  | zero => intro j h1 h2; simp [begsTo] at h2; omega
  | succ k ih =>
    intro j h1 h2
    cases hn : nlAt s k
    · rw [begsTo_no hn] at h2 ⊢; exact ih j h1 h2
    · rw [begsTo_yes hn] at h2 ⊢
      by_cases hj : j < (begsTo s k).length
      · rw [List.getD_eq_getElem?_getD, List.getElem?_append_left hj, ← List.getD_eq_getElem?_getD]; exact ih j h1 hj
      · have hj' : j = (begsTo s k).length := by simp at h2; omega
        subst hj'
        rw [List.getD_eq_getElem?_getD, List.getElem?_append_right (by omega)]
        simp [hn]
theorem bg_nl (s : ByteArray) (n : Nat) (h1 : 1 ≤ n) (h : n < (begs s).length) : 1 ≤ bgN s n ∧ nlAt s (bgN s n - 1) = true := top_nl s s.size n h1 h
theorem bg_zero (s : ByteArray) : bgN s 0 = 0 := by
  have := begs_zero s
  rwa [bgN_get s 0 (begs_len s).1] at this

/-- a line ends ahead of the next one -/
theorem end_lt (s : ByteArray) (n : Nat) (h1 : 1 ≤ n) (h : n < (begs s).length) : endN s n < bgN s n ∧ bgN s n ≤ endN s n + 2 := by
  have hb := bg_nl s n h1 h
  unfold endN
  rw [if_pos h]
  split
  · rename_i h5; simp only [Bool.and_eq_true, decide_eq_true_eq] at h5; omega
  · omega
theorem end_last (s : ByteArray) : endN s (begs s).length = s.size := by unfold endN; rw [if_neg (by omega)]

/-- each byte of a line, and its end, has that line, and a column that counts from its beginning -/
theorem line_place (s : ByteArray) (n i : Nat) (h1 : 1 ≤ n) (h2 : n ≤ (begs s).length) (h3 : bgN s (n - 1) ≤ i) (h4 : i ≤ endN s n) : i ≤ s.size ∧ lineN s i = n ∧ colN s i = i - bgN s (n - 1) + 1 := by
  have he := endN_le s n h1 h2
  have hi : i ≤ s.size := by omega
  have hL : n = lineN s i := begs_search s i n hi h2 (fun x hx hlt => by
      by_cases hq : x = n - 1
      · subst hq; rw [bgN_get s _ hx]; exact h3
      · have := begs_lt s x (n - 1) (by omega) (by omega)
        rw [bgN_get s (n - 1) (by omega)] at this; omega) (fun x hx hle => by
      have hn : n < (begs s).length := by omega
      have h5 := end_lt s n h1 hn
      by_cases hq : x = n
      · subst hq; rw [bgN_get s _ hx]; omega
      · have := begs_lt s n x (by omega) hx
        rw [bgN_get s n hn] at this; omega)
  refine ⟨hi, hL.symm, ?_⟩
  have hb := begs_at s i hi (by omega)
  rw [bgN_get s (lineN s i - 1) (by omega), ← hL] at hb
  unfold colN
  rw [hb]

/-- the first k lines, as spans -/
def lnsS (s : ByteArray) (k : Nat) : List (Int × Int) := (List.range k).map fun j => ((bgN s j : Int), (endN s (j + 1) : Int))
theorem lnsS_len (s : ByteArray) (k : Nat) : (lnsS s k).length = k := by simp [lnsS]
theorem lnsS_snoc (s : ByteArray) (k : Nat) : lnsS s (k + 1) = lnsS s k ++ [((bgN s k : Int), (endN s (k + 1) : Int))] := by simp [lnsS, List.range_succ]
theorem lnsS_get (s : ByteArray) (k j : Nat) (h : j < k) : (lnsS s k).getD j (0, 0) = ((bgN s j : Int), (endN s (j + 1) : Int)) := by
  rw [List.getD_eq_getElem?_getD]; simp [lnsS, h]
theorem lnsS_mem (s : ByteArray) (k : Nat) (x : Int × Int) (h : x ∈ lnsS s k) : ∃ j, j < k ∧ x = ((bgN s j : Int), (endN s (j + 1) : Int)) := by
  simp only [lnsS, List.mem_map, List.mem_range] at h
  obtain ⟨j, h1, h2⟩ := h
  exact ⟨j, h1, h2.symm⟩

theorem lns_chk (s : ByteArray) (hs : s.size ≤ 65536) (k : Nat) (hk : k ≤ (begs s).length) : chkTo (s.size : Nat) (lnsS s k) = true := by
  unfold chkTo
  rw [List.all_eq_true]
  intro x hx
  obtain ⟨j, hj, rfl⟩ := lnsS_mem s k x hx
  have := endN_le s (j + 1) (by omega) (by omega)
  rw [show j + 1 - 1 = j by omega] at this
  exact chkB_iff.2 ⟨⟨by simp only; omega, by simp only; omega, by simp only; omega⟩, by simp only; omega, by omega⟩
theorem lns_all (s : ByteArray) (hs : s.size ≤ 65536) (k : Nat) (hk : k ≤ (begs s).length) : allB (lnsS s k) = true := by
  have h := lns_chk s hs k hk
  unfold chkTo at h
  unfold allB
  rw [List.all_eq_true] at *
  intro x hx
  exact mayB_iff.2 (chkB_iff.1 (h x hx)).1
theorem lns_sorted (s : ByteArray) (hs : s.size ≤ 65536) : sortedB (lnsS s (begs s).length) = true := by
  unfold sortedB
  rw [lns_all s hs _ (Nat.le_refl _), Bool.and_true, lnsS_len]
  unfold okTo
  rw [List.all_eq_true]
  intro j hj
  rw [List.mem_range] at hj
  have h1 := endN_le s (j + 1) (by omega) (by omega)
  have h2 := endN_le s (j + 1 + 1) (by omega) (by omega)
  have h3 := end_lt s (j + 1) (by omega) (by omega)
  rw [show j + 1 - 1 = j by omega] at h1
  rw [show j + 1 + 1 - 1 = j + 1 by omega] at h2
  unfold pairB
  rw [lnsS_get s _ j (by omega), lnsS_get s _ (j + 1) (by omega)]
  have m1 : mayB (bgN s j : Nat) (endN s (j + 1) : Nat) = true := mayB_iff.2 ⟨by omega, by omega, by omega⟩
  have m2 : mayB (bgN s (j + 1) : Nat) (endN s (j + 1 + 1) : Nat) = true := mayB_iff.2 ⟨by omega, by omega, by omega⟩
  unfold apartB
  simp only [m1, m2]
  simp
  omega

/-- what lies between the lines -/
def betS (s : ByteArray) : List (Int × Int) := gapTo (lnsS s (begs s).length ++ [((s.size : Int), (s.size : Int))]) ((begs s).length + 1)

theorem ext_get (s : ByteArray) (k j : Nat) (m : Int) (h : j < k) : (lnsS s k ++ [(m, m)]).getD j (0, 0) = ((bgN s j : Int), (endN s (j + 1) : Int)) := by
  rw [List.getD_eq_getElem?_getD, List.getElem?_append_left (by rw [lnsS_len]; exact h), ← List.getD_eq_getElem?_getD, lnsS_get s k j h]
theorem ext_last (s : ByteArray) (k : Nat) (m : Int) : (lnsS s k ++ [(m, m)]).getD k (0, 0) = (m, m) := by
  rw [List.getD_eq_getElem?_getD, List.getElem?_append_right (by rw [lnsS_len]; exact Nat.le_refl _), lnsS_len]; simp

/-- the gaps are the line ends; with the lines they are all bytes -/
theorem gap_lines (s : ByteArray) (hs : s.size ≤ 65536) : ∀ k, k ≤ (begs s).length →
    (∀ x ∈ gapTo (lnsS s (begs s).length ++ [((s.size : Int), (s.size : Int))]) k, ∃ j, 1 ≤ j ∧ j < (begs s).length ∧ x = ((endN s j : Int), (bgN s j : Int))) ∧
    sumI (lnsS s k) + sumI (gapTo (lnsS s (begs s).length ++ [((s.size : Int), (s.size : Int))]) k) = atTo (lnsS s (begs s).length ++ [((s.size : Int), (s.size : Int))]) k := by
  intro k
  induction k with
  | zero => intro _; exact ⟨fun x hx => by simp [gapTo] at hx, rfl⟩
  | succ k ih =>
    intro hk
    obtain ⟨i1, i2⟩ := ih (by omega)
    generalize hl : lnsS s (begs s).length ++ [((s.size : Int), (s.size : Int))] = l at *
    have g1 : l.getD k (0, 0) = ((bgN s k : Int), (endN s (k + 1) : Int)) := by rw [← hl]; exact ext_get s _ k _ (by omega)
    have e2 : atTo l (k + 1) = (endN s (k + 1) : Int) := by show (l.getD k (0, 0)).2 = _; rw [g1]
    have e3 : gapTo l (k + 1) = if atTo l k < (bgN s k : Int) then gapTo l k ++ [(atTo l k, (bgN s k : Int))] else gapTo l k := by
      show (if atTo l k < (l.getD k (0, 0)).1 then gapTo l k ++ [(atTo l k, (l.getD k (0, 0)).1)] else gapTo l k) = _; rw [g1]
    have he := endN_le s (k + 1) (by omega) (by omega)
    rw [show k + 1 - 1 = k by omega] at he
    have eL : sumI (lnsS s (k + 1)) = sumI (lnsS s k) + ((endN s (k + 1) : Int) - (bgN s k : Int)) := by
      rw [lnsS_snoc]; unfold sumI; rw [List.map_append, List.sum_append]
      simp only [List.map_cons, List.map_nil, List.sum_cons, List.sum_nil]
      rw [lenI_yes (mayB_iff.2 ⟨by omega, by omega, by omega⟩)]; omega
    have eA : atTo l k = (if k = 0 then 0 else endN s k : Nat) := by
      cases k with
      | zero => rfl
      | succ j =>
        show (l.getD j (0, 0)).2 = _
        rw [← hl, ext_get s _ j _ (by omega)]
        rw [if_neg (by omega)]
    rw [e2, e3, eL]
    by_cases h0 : k = 0
    · have hz : bgN s k = 0 := by rw [h0]; exact bg_zero s
      rw [if_pos h0] at eA
      rw [if_neg (by omega)]
      exact ⟨i1, by omega⟩
    · rw [if_neg h0] at eA
      have h5 := end_lt s k (by omega) (by omega)
      rw [if_pos (by omega)]
      refine ⟨fun x hx => ?_, ?_⟩
      · rcases List.mem_append.1 hx with hx | hx
        · exact i1 x hx
        · simp at hx; subst hx; exact ⟨k, by omega, by omega, by rw [eA]⟩
      · have eG : sumI (gapTo l k ++ [(atTo l k, (bgN s k : Int))]) = sumI (gapTo l k) + ((bgN s k : Int) - atTo l k) := by
          unfold sumI; rw [List.map_append, List.sum_append]
          simp only [List.map_cons, List.map_nil, List.sum_cons, List.sum_nil]
          have := bgN_le s k
          rw [lenI_yes (mayB_iff.2 ⟨by omega, by omega, by omega⟩)]; omega
        rw [eG]; omega
theorem bet_all (s : ByteArray) (hs : s.size ≤ 65536) : (∀ x ∈ betS s, ∃ j, 1 ≤ j ∧ j < (begs s).length ∧ x = ((endN s j : Int), (bgN s j : Int))) ∧ sumI (lnsS s (begs s).length) + sumI (betS s) = (s.size : Int) := by
  obtain ⟨h1, h2⟩ := gap_lines s hs (begs s).length (Nat.le_refl _)
  have hb := begs_len s
  have eA : atTo (lnsS s (begs s).length ++ [((s.size : Int), (s.size : Int))]) (begs s).length = (s.size : Int) := by
    obtain ⟨m, hm⟩ : ∃ m, (begs s).length = m + 1 := ⟨(begs s).length - 1, by omega⟩
    have e := ext_get s (begs s).length m (s.size : Int) (by omega)
    have e2 := end_last s
    generalize (begs s).length = L at *
    subst hm
    show ((lnsS s (m + 1) ++ [((s.size : Int), (s.size : Int))]).getD m (0, 0)).2 = _
    rw [e, e2]
  have eG : betS s = gapTo (lnsS s (begs s).length ++ [((s.size : Int), (s.size : Int))]) (begs s).length := by
    show (if atTo (lnsS s (begs s).length ++ [((s.size : Int), (s.size : Int))]) (begs s).length < ((lnsS s (begs s).length ++ [((s.size : Int), (s.size : Int))]).getD (begs s).length (0, 0)).1 then _ else gapTo (lnsS s (begs s).length ++ [((s.size : Int), (s.size : Int))]) (begs s).length) = _
    rw [ext_last, eA, if_neg (by simp only; omega)]
  rw [eG]
  exact ⟨h1, h2.trans eA⟩

theorem one_byte {x : UInt8} (s : ByteArray) (i : Nat) (h : i < s.size) (hb : s.data.toList.getD i 0 = x) : s.extract i (i + 1) = ⟨#[x]⟩ := by
  apply ByteArray.ext
  rw [ByteArray.data_extract]
  apply Array.ext
  · have : s.data.size = s.size := rfl
    simp; omega
  · intro j h1 h2
    simp at h2
    subst h2
    have h' : i < s.data.toList.length := by simpa using h
    rw [List.getD_eq_getElem?_getD, List.getElem?_eq_getElem h'] at hb
    simpa using hb
/-- what lies between two lines is a line end -/
theorem bet_text (s : ByteArray) (j : Nat) (h1 : 1 ≤ j) (h : j < (begs s).length) : s.extract (endN s j) (bgN s j) = ⟨#[10]⟩ ∨ s.extract (endN s j) (bgN s j) = ⟨#[13, 10]⟩ := by
  have hb := bg_nl s j h1 h
  have hl := bgN_le s j
  have e : endN s j = if decide (bgN s (j - 1) < bgN s j - 1) && crAt s (bgN s j - 1 - 1) then bgN s j - 1 - 1 else bgN s j - 1 := by unfold endN; rw [if_pos h]
  have hn : s.data.toList.getD (bgN s j - 1) 0 = 10 := by have := hb.2; unfold nlAt at this; simpa using this
  split at e
  · rename_i hc
    simp only [Bool.and_eq_true, decide_eq_true_eq] at hc
    right
    have hr : s.data.toList.getD (bgN s j - 1 - 1) 0 = 13 := by have := hc.2; unfold crAt at this; simpa using this
    rw [e]
    generalize bgN s j = B at *
    obtain ⟨C, rfl⟩ : ∃ C, B = C + 2 := ⟨B - 2, by omega⟩
    rw [show C + 2 - 1 - 1 = C by omega] at *
    rw [show C + 2 - 1 = C + 1 by omega] at *
    rw [ByteArray.extract_eq_extract_append_extract (C + 1) (by omega) (by omega), one_byte s C (by omega) hr, one_byte s (C + 1) (by omega) hn]
    rfl
  · left
    rw [e]
    generalize bgN s j = B at *
    obtain ⟨C, rfl⟩ : ∃ C, B = C + 1 := ⟨B - 1, by omega⟩
    rw [show C + 1 - 1 = C by omega] at *
    exact one_byte s C (by omega) hn

end Go.Proofs.YtfiphchjjgmcpaaDoor
