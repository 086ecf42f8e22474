/- The statements' own small graph. -/
import Derived.Test.YtkhgpflpbdakoaaGrWs
import Derived.Test.YtkhgpflpbdakoaaGrY
import Derived.Test.YtkhgpflpbdakoaaGrF
namespace Go.Proofs.Ytkhgpflpbdakoaa
open Go Go.RowKit
set_option linter.unusedVariables false
set_option linter.unusedSimpArgs false

/-- the two edges -/
def cL : List Eg := [(-1, 1, 2, 5), (1, 0, 0, 0)]
theorem cL_ok : ∀ e ∈ cL, okE' 3 e := by
  intro e he
  simp only [cL, List.mem_cons, List.not_mem_nil, or_false] at he
  rcases he with rfl | rfl
  · exact ⟨.inl rfl, by decide, by decide⟩
  · exact ⟨.inr ⟨by decide, by decide⟩, by decide, by decide⟩
theorem cWay1 (op : Nat → Bool) (h : op 0 = true) : Way cL op 1 1 := Way.go (L := cL) (op := op) (k := 0) (i := 0) Way.start (by decide) h
theorem cWay0 (op : Nat → Bool) (h : op 0 = true) (h1 : op 1 = true) : Way cL op 2 0 := Way.go (L := cL) (op := op) (k := 1) (i := 1) (cWay1 op h) (by decide) h1
theorem cWay {op : Nat → Bool} {k : Nat} {z : Int} (h : Way cL op k z) : (k = 0 ∧ z = -1) ∨ (∃ i, i < 2 ∧ op i = true ∧ z = eto cL i ∧ Way cL op (k - 1) (efr cL i) ∧ 0 < k) := by
  cases h with
  | start => exact .inl ⟨rfl, rfl⟩
  | @go k i hw hi ho => exact .inr ⟨i, hi, ho, rfl, hw, by omega⟩
theorem cFar {s : Bf} (h : Found cL opAll 3 s) : s.far 0 = 2 ∧ s.far 1 = 1 ∧ s.far 2 = -1 := by
  have d0 := h.1.dist cL_ok h.2.1 0 (by omega)
  have d1 := h.1.dist cL_ok h.2.1 1 (by omega)
  have d2 := h.1.dist cL_ok h.2.1 2 (by omega)
  have w1 := cWay1 opAll rfl
  have w0 := cWay0 opAll rfl rfl
  refine ⟨?_, ?_, ?_⟩
  · rcases d0 with ⟨_, q⟩ | ⟨q1, q2, q3⟩
    · exact absurd w0 (q 2)
    · have h2 := q3 2 w0
      by_cases hq : s.far 0 = 1
      · rw [hq] at q2
        rcases cWay q2 with ⟨q, _⟩ | ⟨i, hi, _, hz, hw, _⟩
        · cases q
        · have : i = 0 ∨ i = 1 := by omega
          rcases this with rfl | rfl
          · exact absurd hz (by decide)
          · rcases cWay hw with ⟨_, q⟩ | ⟨_, _, _, _, _, q⟩
            · exact absurd q (by decide)
            · exact absurd q (by decide)
      · omega
  · rcases d1 with ⟨_, q⟩ | ⟨q1, q2, q3⟩
    · exact absurd w1 (q 1)
    · have := q3 1 w1
      omega
  · rcases d2 with ⟨q, _⟩ | ⟨q1, q2, q3⟩
    · exact q
    · rcases cWay q2 with ⟨q, q4⟩ | ⟨i, hi, _, hz, hw, _⟩
      · exact absurd q4 (by decide)
      · have : i = 0 ∨ i = 1 := by omega
        rcases this with rfl | rfl
        · exact absurd hz (by decide)
        · exact absurd hz (by decide)
theorem cPath {s : Bf} (h : Found cL opAll 3 s) {p : List Eg} (hp : PathIs cL s 0 p) : ∃ e, p = [(-1, 1, 2, 5), e] := by
  obtain ⟨f0, f1, f2⟩ := cFar h
  obtain ⟨c, i, l⟩ := hp.2 (by rw [f0]; decide)
  rw [f0] at l
  match p, l with
  | [a, b], _ =>
    refine ⟨b, ?_⟩
    have ha := i a (by simp)
    have : a.1 = -1 := c.1
    simp only [cL, List.mem_cons, List.not_mem_nil, or_false] at ha
    rcases ha with rfl | rfl
    · rfl
    · exact absurd this (by decide)
theorem cCut {F : Nat → Bool} : (cL.filter (cutsP [1] F)) = [(-1, 1, 2, 5)] := rfl
theorem cRight {F : Nat → Bool} (h0 : F 0 = true) (h1 : F 1 = true) : rightP cL F = true := by
  unfold rightP cL
  simp [comesP, h0, h1]
theorem okE_iff {n : Nat} {e : Eg} : okE n e ↔ okE' n e := Iff.rfl
end Go.Proofs.Ytkhgpflpbdakoaa
