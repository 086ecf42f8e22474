/- Types that are written alike are the same, if their names are of great letters alone. -/
import Derived.Test.YtljojfeiehkpeaaDoorTrText
namespace Go.Proofs.YtljojfeiehkpeaaDoor
set_option linter.unusedVariables false
set_option linter.unusedSimpArgs false

def optP : List UInt8 := [79, 112, 116, 105, 111, 110, 60]
def isO (M : ByteArray) (d : Nat) : Bool := decide (byS M d = 111)
theorem type_list (B : Int) (N : ByteArray) (M : ByteArray) (d : Nat) (hm : M.size = d + 1) (h : ∀ i, i < d → byS M i = 32 ∨ byS M i = 63) (hl : byS M d = 32 ∨ byS M d = 63 ∨ byS M d = 111) :
    (typeS B N M).data.toList = (if isO M d = true then optP else []) ++ ((baseS B N).data.toList ++ allM (bitM M 0) (bitsM M d)) ++ (if isO M d = true then [62] else []) := by
  unfold typeS
  rw [hm]
  by_cases ho : byS M d = 111
  · have e : isO M d = true := by unfold isO; rw [decide_eq_true ho]
    rw [e]
    have e1 : textTo M (baseS B N) (d + 1) = stepS M (textTo M (baseS B N) d) d := rfl
    rw [e1]
    unfold stepS
    rw [ho]
    simp only [show ¬ (111 : Nat) = 63 by omega, if_false, if_true]
    rw [dataApp, dataApp]
    cases d with
    | zero =>
      have hb : bitM M 0 = false := by unfold bitM; rw [ho]; rfl
      simp only [if_true]
      rw [hb]
      show optP ++ (textTo M (baseS B N) 0).data.toList ++ [62] = _
      simp [textTo, allM, qM, bitsM, restM]
    | succ k =>
      have hb : bitM M (k + 1) = false := by unfold bitM; rw [ho]; rfl
      simp only [show ¬ k + 1 = 0 by omega, if_false]
      rw [dataApp, text_list M _ k (fun i hi => h i hi)]
      have eb : bitsM M (k + 1) = bitsM M k ++ [bitM M (k + 1)] := by unfold bitsM; rw [List.range_succ, List.map_append]; rfl
      rw [eb, hb]
      unfold allM
      rw [rest_snoc]
      show optP ++ _ ++ [62] = _
      simp [qM]
  · have e : isO M d = false := by unfold isO; rw [decide_eq_false ho]
    rw [e]
    simp only [Bool.false_eq_true, if_false, List.nil_append, List.append_nil]
    exact text_list M _ d (fun i hi => by
      by_cases hid : i = d
      · rw [hid]; omega
      · exact h i (by omega))
/-- are all of a name's bytes great letters? -/
def greatN (N : ByteArray) : Prop := ∀ c ∈ N.data.toList, 65 ≤ c.toNat ∧ c.toNat ≤ 90
theorem base_plain {B : Int} {N : ByteArray} (hB : 1 ≤ B ∧ B ≤ 6) (hN : B = 5 → greatN N) : ∀ c ∈ (baseS B N).data.toList, c ≠ 63 ∧ c ≠ 91 := by
  have hb : B = 1 ∨ B = 2 ∨ B = 3 ∨ B = 4 ∨ B = 5 ∨ B = 6 := by omega
  rcases hb with rfl | rfl | rfl | rfl | rfl | rfl
  · show ∀ c ∈ ([105, 110, 116] : List UInt8), c ≠ 63 ∧ c ≠ 91
    decide
  · show ∀ c ∈ ([98, 111, 111, 108] : List UInt8), c ≠ 63 ∧ c ≠ 91
    decide
  · show ∀ c ∈ ([100, 111, 117, 98, 108, 101] : List UInt8), c ≠ 63 ∧ c ≠ 91
    decide
  · show ∀ c ∈ ([115, 116, 114] : List UInt8), c ≠ 63 ∧ c ≠ 91
    decide
  · intro c hc
    have := hN rfl c hc
    constructor
    · intro e; subst e; revert this; decide
    · intro e; subst e; revert this; decide
  · show ∀ c ∈ ([118, 111, 105, 100] : List UInt8), c ≠ 63 ∧ c ≠ 91
    decide
/-- what isn't in Option<..> doesn't begin as that does -/
theorem base_noP {B : Int} {N : ByteArray} (hB : 1 ≤ B ∧ B ≤ 6) (hn : B = 5 → N.size ≠ 0) (hN : B = 5 → greatN N) (s r : List UInt8) (hs : s = [] ∨ ∃ c t, s = c :: t ∧ (c = 63 ∨ c = 91)) : (baseS B N).data.toList ++ s ≠ 79 :: 112 :: r := by
  have hb : B = 1 ∨ B = 2 ∨ B = 3 ∨ B = 4 ∨ B = 5 ∨ B = 6 := by omega
  rcases hb with rfl | rfl | rfl | rfl | rfl | rfl
  · show ([105, 110, 116] : List UInt8) ++ s ≠ _
    simp
  · show ([98, 111, 111, 108] : List UInt8) ++ s ≠ _
    simp
  · show ([100, 111, 117, 98, 108, 101] : List UInt8) ++ s ≠ _
    simp
  · show ([115, 116, 114] : List UInt8) ++ s ≠ _
    simp
  · show N.data.toList ++ s ≠ _
    intro h
    have hsz : N.data.toList.length ≠ 0 := by rw [Array.length_toList]; exact hn rfl
    have hg := hN rfl
    unfold greatN at hg
    cases hl : N.data.toList with
    | nil => rw [hl] at hsz; exact hsz rfl
    | cons x xs =>
      rw [hl] at h hg
      cases xs with
      | nil =>
        rcases hs with rfl | ⟨c, t, rfl, hc⟩
        · simp at h
        · simp at h
          rcases hc with e | e <;> (rw [e] at h; exact absurd h.2.1 (by decide))
      | cons y ys =>
        simp at h
        have := hg y (by simp)
        rw [h.2.1] at this
        revert this; decide
  · show ([118, 111, 105, 100] : List UInt8) ++ s ≠ _
    simp
end Go.Proofs.YtljojfeiehkpeaaDoor
