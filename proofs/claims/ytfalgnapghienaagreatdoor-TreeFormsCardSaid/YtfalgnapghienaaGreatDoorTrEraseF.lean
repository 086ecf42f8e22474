/- What the statement on erased programs asks, without a program. -/
import Derived.Test.YtfalgnapghienaaGreatDoorTrEraseE
namespace Go.Proofs.YtfalgnapghienaaGreatDoor
set_option linter.unusedVariables false
set_option linter.unusedSimpArgs false

/-- the first node of the walk that is strict -/
def markedO (l : List Nd) : Option Nat := (walkS l (l.length - 1)).find? (strictAt l)
theorem strictAt_of {l : List Nd} (h : ∀ x ∈ l, strictN x = false) (i : Nat) : strictAt l i = false := by
  unfold strictAt
  by_cases hi : i < l.length
  · rw [List.getElem?_eq_getElem hi]; exact h _ (List.getElem_mem hi)
  · rw [List.getElem?_eq_none (by omega)]; rfl
theorem marked_none {l : List Nd} (h : ∀ x ∈ l, strictN x = false) : markedO l = none := by
  unfold markedO
  rw [List.find?_eq_none]
  intro i _
  rw [strictAt_of h i]; simp
theorem FormS_root (p : Pen) {l : List Nd} {root : Int} (h : checkE l root = 0) : FormS p l root root = formS p l (l.length - 1) := by
  have P := check_ok l root h
  have hs := P.some_
  have hr := P.root_
  unfold FormS
  rw [if_pos ⟨by omega, by omega, h⟩, show root.toNat = l.length - 1 by omega]
theorem erase_len {l : List Nd} (p : Pen) (hp : PenOk p) {root : Int} (P : ProgOk l root) : (eraseL l).length ≤ 2 * l.length := (erase_all p hp P l.length (Nat.le_refl _)).n
/-- a program and what is erased of it are the same just if nothing is marked -/
theorem same_erased (p : Pen) (hp : PenOk p) (l : List Nd) (root : Int) (hc : checkE l root = 0) (hl : l.length ≤ 8192) :
    sameB p l root (eraseL l) ((eraseL l).length - 1) = (markedO l).isNone := by
  have P := check_ok l root hc
  have hs := P.some_
  obtain ⟨e1, e2, e3⟩ := erase_ok p hp l root hc hl
  unfold sameB
  rw [decide_eq_true hc, decide_eq_true e1, Bool.true_and, Bool.true_and, FormS_root p hc, FormS_root p e1, e2]
  rcases bare_or p P (l.length - 1) (by omega) with ⟨g1, g2⟩ | ⟨g1, i, hi, g2⟩
  · rw [decide_eq_true g1]
    have : markedO l = none := by
      unfold markedO
      rw [List.find?_eq_none]
      intro i hi
      rw [g2 i hi]; simp
    rw [this]; rfl
  · rw [decide_eq_false g1.ne]
    cases hm : markedO l with
    | none =>
      unfold markedO at hm
      rw [List.find?_eq_none] at hm
      exact absurd g2 (hm i hi)
    | some x => rfl
/-- erased once more it is the same -/
theorem erase_twice (p : Pen) (hp : PenOk p) (l : List Nd) (root : Int) (hc : checkE l root = 0) (hl : l.length ≤ 4096) :
    sameB p (eraseL (eraseL l)) ((eraseL (eraseL l)).length - 1) (eraseL l) ((eraseL l).length - 1) = true := by
  have P := check_ok l root hc
  obtain ⟨e1, e2, e3⟩ := erase_ok p hp l root hc (by omega)
  have hl2 := erase_len p hp P
  have h := same_erased p hp (eraseL l) _ e1 (by omega)
  rw [marked_none e3] at h
  unfold sameB at h ⊢
  simp only [Option.isNone_none, Bool.and_eq_true, decide_eq_true_iff] at h ⊢
  exact ⟨⟨h.1.2, h.1.1⟩, h.2.symm⟩
end Go.Proofs.YtfalgnapghienaaGreatDoor
