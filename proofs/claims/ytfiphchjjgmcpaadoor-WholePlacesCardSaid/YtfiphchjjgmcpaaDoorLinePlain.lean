/- Where the lines of a text begin: plain facts, no Go. -/
import Derived.Test.YtfiphchjjgmcpaaDoorSpanA
namespace Go.Proofs.YtfiphchjjgmcpaaDoor
open Go.RowKit
set_option linter.unusedVariables false

/-- is the byte at a place a line end? -/
def nlAt (s : ByteArray) (i : Nat) : Bool := s.data.toList.getD i 0 == 10
theorem nlAt_get (s : ByteArray) (i : Nat) (h : i < s.size) : nlAt s i = (s[i] == 10) := by
  unfold nlAt
  have h' : i < s.data.toList.length := by simpa using h
  rw [List.getD_eq_getElem?_getD, List.getElem?_eq_getElem h']
  rfl
theorem nlAt_int (s : ByteArray) (i : Nat) (h : i < s.size) : ((s[i].toNat : Int) == 10) = nlAt s i := by
  rw [nlAt_get s i h, Bool.eq_iff_iff]
  simp only [beq_iff_eq]
  constructor
  · intro e; exact UInt8.toNat_inj.1 (by simpa using (show s[i].toNat = 10 by omega))
  · intro e; rw [e]; rfl

/-- where the lines begin that begin among the first k bytes, or at their end -/
def begsTo (s : ByteArray) : Nat → List Nat
  | 0 => [0]
  | k + 1 => if nlAt s k = true then begsTo s k ++ [k + 1] else begsTo s k
theorem begsTo_yes {s : ByteArray} {k : Nat} (h : nlAt s k = true) : begsTo s (k + 1) = begsTo s k ++ [k + 1] := by simp [begsTo, h]
theorem begsTo_no {s : ByteArray} {k : Nat} (h : nlAt s k = false) : begsTo s (k + 1) = begsTo s k := by simp [begsTo, h]
theorem begsTo_len (s : ByteArray) (k : Nat) : 1 ≤ (begsTo s k).length ∧ (begsTo s k).length ≤ k + 1 := by
  induction k with
  | zero => simp [begsTo]
  | succ k ih => cases h : nlAt s k
                 · rw [begsTo_no h]; omega
                 · rw [begsTo_yes h]; simp; omega
theorem begsTo_ne (s : ByteArray) (k : Nat) : begsTo s k ≠ [] := by
  intro h; have := begsTo_len s k; rw [h] at this; simp at this
theorem begsTo_le (s : ByteArray) (k : Nat) : ∀ x ∈ begsTo s k, x ≤ k := by
  induction k with
  | zero => simp [begsTo]
  | succ k ih =>
    intro x hx
    cases h : nlAt s k
    · rw [begsTo_no h] at hx; have := ih x hx; omega
    · rw [begsTo_yes h] at hx
      rcases List.mem_append.1 hx with hx | hx
      · have := ih x hx; omega
      · simp at hx; omega
theorem begsTo_sorted (s : ByteArray) (k : Nat) : (begsTo s k).Pairwise (· < ·) := by
  induction k with
  | zero => simp [begsTo]
  | succ k ih =>
    cases h : nlAt s k
    · rw [begsTo_no h]; exact ih
    · rw [begsTo_yes h, List.pairwise_append]
      refine ⟨ih, by simp, ?_⟩
      intro a ha b hb
      have := begsTo_le s k a ha
      simp at hb; omega
theorem begsTo_more (s : ByteArray) (k m : Nat) : ∃ r : List Nat, begsTo s (k + m) = begsTo s k ++ r ∧ ∀ x ∈ r, k < x := by
  induction m with
  | zero => exact ⟨[], by simp, by simp⟩
  | succ m ih =>
    obtain ⟨r, hr, hx⟩ := ih
    cases h : nlAt s (k + m)
    · exact ⟨r, by rw [show k + (m + 1) = k + m + 1 from rfl, begsTo_no h, hr], hx⟩
    · refine ⟨r ++ [k + m + 1], by rw [show k + (m + 1) = k + m + 1 from rfl, begsTo_yes h, hr, List.append_assoc], ?_⟩
      intro x hx'
      rcases List.mem_append.1 hx' with h1 | h1
      · exact hx x h1
      · simp at h1; omega

/-- where the lines of a text begin -/
def begs (s : ByteArray) : List Nat := begsTo s s.size
/-- the line of a place, and where that begins -/
def lineN (s : ByteArray) (i : Nat) : Nat := (begsTo s i).length
def begN (s : ByteArray) (i : Nat) : Nat := (begsTo s i).getLast (begsTo_ne s i)
def colN (s : ByteArray) (i : Nat) : Nat := i - begN s i + 1
theorem begN_le (s : ByteArray) (i : Nat) : begN s i ≤ i := begsTo_le s i _ (List.getLast_mem _)
theorem begN_zero (s : ByteArray) : begN s 0 = 0 := rfl
theorem begN_yes {s : ByteArray} {k : Nat} (h : nlAt s k = true) : begN s (k + 1) = k + 1 ∧ lineN s (k + 1) = lineN s k + 1 := by
  unfold begN lineN
  constructor
  · simp [begsTo_yes h]
  · rw [begsTo_yes h]; simp
theorem begN_no {s : ByteArray} {k : Nat} (h : nlAt s k = false) : begN s (k + 1) = begN s k ∧ lineN s (k + 1) = lineN s k := by
  unfold begN lineN
  constructor
  · simp [begsTo_no h]
  · rw [begsTo_no h]
theorem begs_split (s : ByteArray) (i : Nat) (h : i ≤ s.size) : ∃ r : List Nat, begs s = begsTo s i ++ r ∧ ∀ x ∈ r, i < x := by
  obtain ⟨r, hr, hx⟩ := begsTo_more s i (s.size - i)
  exact ⟨r, by unfold begs; rw [← hr]; congr 1; omega, hx⟩
theorem lineN_le (s : ByteArray) (i : Nat) (h : i ≤ s.size) : 1 ≤ lineN s i ∧ lineN s i ≤ (begs s).length := by
  obtain ⟨r, hr, -⟩ := begs_split s i h
  have := begsTo_len s i
  rw [hr]; unfold lineN; simp; omega
theorem begs_at (s : ByteArray) (i : Nat) (h : i ≤ s.size) (hl : lineN s i - 1 < (begs s).length) : (begs s)[lineN s i - 1] = begN s i := by
  obtain ⟨r, hr, -⟩ := begs_split s i h
  have h1 := begsTo_len s i
  have h2 : lineN s i - 1 < (begsTo s i).length := by unfold lineN; omega
  have : (begs s)[lineN s i - 1] = (begsTo s i)[lineN s i - 1] := by
    simp only [hr]; rw [List.getElem_append_left h2]
  rw [this]
  unfold begN
  rw [List.getLast_eq_getElem]
  rfl
/-- what the search for a line's number tells: how many lines begin no later -/
theorem begs_search (s : ByteArray) (i L : Nat) (h : i ≤ s.size) (hL : L ≤ (begs s).length) (hlo : ∀ x (hx : x < (begs s).length), x < L → (begs s)[x] ≤ i) (hhi : ∀ x (hx : x < (begs s).length), L ≤ x → i < (begs s)[x]) : L = lineN s i := by
  obtain ⟨r, hr, hx⟩ := begs_split s i h
  have hlen : (begs s).length = lineN s i + r.length := by rw [hr]; simp [lineN]
  have h1 := begsTo_len s i
  have hl1 : 1 ≤ lineN s i := h1.1
  rcases Nat.lt_trichotomy L (lineN s i) with hlt | heq | hgt
  · exfalso
    have := hhi (lineN s i - 1) (by omega) (by omega)
    rw [begs_at s i h (by omega)] at this
    have := begN_le s i
    omega
  · exact heq
  · exfalso
    have h2 := hlo (lineN s i) (by omega) hgt
    have h3 : (begs s)[lineN s i]'(by omega) = r[0]'(by omega) := by
      simp only [hr]; rw [List.getElem_append_right (by simp [lineN])]; simp [lineN]
    rw [h3] at h2
    have := hx _ (List.getElem_mem (show 0 < r.length by omega))
    omega
theorem begs_sorted (s : ByteArray) : (begs s).Pairwise (· < ·) := begsTo_sorted s s.size
theorem begs_lt (s : ByteArray) (i j : Nat) (hij : i < j) (hj : j < (begs s).length) : (begs s)[i]'(by omega) < (begs s)[j] := List.pairwise_iff_getElem.1 (begs_sorted s) i j (by omega) hj hij
theorem begs_le (s : ByteArray) (i : Nat) (hi : i < (begs s).length) : (begs s)[i] ≤ s.size := begsTo_le s s.size _ (List.getElem_mem hi)
theorem begs_len (s : ByteArray) : 1 ≤ (begs s).length ∧ (begs s).length ≤ s.size + 1 := begsTo_len s s.size
theorem begs_zero (s : ByteArray) : (begs s)[0]'(begs_len s).1 = 0 := by
  have h := begs_at s 0 (Nat.zero_le _) (by have := begs_len s; simp [lineN, begsTo]; omega)
  simpa [lineN, begsTo, begN] using h

end Go.Proofs.YtfiphchjjgmcpaaDoor
