/- A program without what is of the strict language alone, without a program: its nodes, and which of them stands for each; each has the bare form of that for which it stands. -/
import Derived.Test.YtfalgnapghienaaGreatDoorTrBareB
namespace Go.Proofs.YtfalgnapghienaaGreatDoor
set_option linter.unusedVariables false
set_option linter.unusedSimpArgs false

def toOf (to : List Nat) (k : Int) : Int := ((to.getD k.toNat 0 : Nat) : Int)
def nullNd (x : Int) : Nd := ⟨23, x, x, [], ⟨#[]⟩, 0, ⟨#[]⟩, 0, ⟨#[]⟩, 0, 0, 0, []⟩
def signOf (k : Int) : ByteArray := if k = 43 then ⟨#[33, 61]⟩ else ⟨#[61, 61]⟩
def heldNd (x : Nd) (v nul : Int) : Nd := { x with kind := 34, text := signOf x.kind, kids := [v, nul] }
def keptNd (x : Nd) (ks : List Int) : Nd := { x with kind := if x.kind = 42 then 23 else x.kind, kids := ks, M := blankT x.M.size }
structure Er where
  made : List Nd
  to : List Nat
def eraseStep (e : Er) (x : Nd) : Er :=
  if x.kind = 40 ∨ x.kind = 41 ∨ x.kind = 45 then ⟨e.made, e.to ++ [(toOf e.to (x.kids.headD 0)).toNat]⟩
  else if x.kind = 43 ∨ x.kind = 44 then ⟨e.made ++ [nullNd x.st, heldNd x (toOf e.to (x.kids.headD 0)) (e.made.length : Nat)], e.to ++ [e.made.length + 1]⟩
  else ⟨e.made ++ [keptNd x (x.kids.map (toOf e.to))], e.to ++ [e.made.length]⟩
def eraseTo (l : List Nd) : Nat → Er
  | 0 => ⟨[], []⟩
  | j + 1 => match l[j]? with
    | none => eraseTo l j
    | some x => eraseStep (eraseTo l j) x

/-- each node is made of ones ahead of it -/
def Ahead (l : List Nd) : Prop := ∀ j (h : j < l.length), ∀ k ∈ l[j].kids, 0 ≤ k ∧ k < (j : Nat)
theorem kids_app (l m : List Nd) (a : Nat) (ha : a < l.length) : kidsOf (l ++ m) a = kidsOf l a := by
  unfold kidsOf; rw [List.getElem?_append_left ha]
theorem ahead_lt {l : List Nd} (P : Ahead l) {a x : Nat} (ha : a < l.length) (hx : x ∈ kidsOf l a) : x < a := by
  rw [kidsOf_get l a ha] at hx
  obtain ⟨k, hk, rfl⟩ := List.mem_map.1 hx
  have := P a ha k hk
  omega
theorem form_app (p : Pen) {l : List Nd} (P : Ahead l) (m : List Nd) : ∀ (f a : Nat), a < l.length → formF p (l ++ m) f a = formF p l f a := by
  intro f
  induction f with
  | zero => intro a _; rfl
  | succ f ih =>
    intro a ha
    unfold formF
    rw [List.getElem?_append_left ha, List.getElem?_eq_getElem ha, kids_app l m a ha]
    simp only
    congr 1
    apply fold_congrB
    intro k hk
    have := ahead_lt P ha hk
    exact ih k (by omega)
theorem formA_fuel (p : Pen) {l : List Nd} (P : Ahead l) : ∀ (a : Nat), a < l.length → ∀ f, a + 1 ≤ f → formF p l f a = formS p l a := by
  intro a
  induction a using Nat.strongRecOn with
  | _ a ih =>
    intro ha f hf
    obtain ⟨g, rfl⟩ : ∃ g, f = g + 1 := ⟨f - 1, by omega⟩
    unfold formS
    unfold formF
    rw [List.getElem?_eq_getElem ha]
    simp only
    congr 1
    apply fold_congrB
    intro k hk
    have hk' := ahead_lt P ha hk
    rw [ih k hk' (by omega) g (by omega), ih k hk' (by omega) a (by omega)]
theorem formA_eq (p : Pen) {l : List Nd} (P : Ahead l) {a : Nat} (ha : a < l.length) :
    formS p l a = (kidsOf l a).foldl (fun (s : ByteArray) k => s ++ (⟨#[32]⟩ : ByteArray) ++ formS p l k) (headS p l[a]) ++ ⟨#[41]⟩ := by
  show formF p l (a + 1) a = _
  unfold formF
  rw [List.getElem?_eq_getElem ha]
  simp only
  congr 1
  apply fold_congrB
  intro k hk
  have hk' := ahead_lt P ha hk
  exact formA_fuel p P k (by omega) a (by omega)
theorem formS_app (p : Pen) {l : List Nd} (P : Ahead l) (m : List Nd) (a : Nat) (ha : a < l.length) : formS p (l ++ m) a = formS p l a := form_app p P m _ a ha

/-- the pen quotes the two signs as Go does -/
structure PenOk (p : Pen) : Prop where
  ne : p.quote ⟨#[33, 61]⟩ = ⟨#[34, 33, 61, 34]⟩
  eq : p.quote ⟨#[61, 61]⟩ = ⟨#[34, 61, 61, 34]⟩
/-- what has been made stands for what has been seen -/
structure ErF (p : Pen) (l : List Nd) (j : Nat) (e : Er) : Prop where
  len : e.to.length = j
  ahead : Ahead e.made
  in_ : ∀ i (h : i < e.to.length), e.to[i] < e.made.length
  form : ∀ i (h : i < e.to.length), formS p e.made e.to[i] = bareS p l i
theorem ahead_app {l : List Nd} (P : Ahead l) (x : Nd) (hx : ∀ k ∈ x.kids, 0 ≤ k ∧ k < (l.length : Nat)) : Ahead (l ++ [x]) := by
  intro j hj k hk
  by_cases h : j < l.length
  · rw [List.getElem_append_left h] at hk; exact P j h k hk
  · have hjl : j = l.length := by simp at hj; omega
    subst hjl
    rw [List.getElem_append_right (Nat.le_refl _)] at hk
    simp at hk
    exact hx k hk
theorem getD_to (to : List Nat) (i : Nat) (h : i < to.length) : to.getD i 0 = to[i] := by
  rw [List.getD_eq_getElem?_getD, List.getElem?_eq_getElem h]; rfl
/-- one more that stands where it is: the invariant's growth -/
theorem ErF.grow {p : Pen} {l : List Nd} {j : Nat} {e : Er} (h : ErF p l j e) (m : List Nd) (t : Nat) (ha : Ahead (e.made ++ m)) (ht : t < (e.made ++ m).length) (hf : formS p (e.made ++ m) t = bareS p l j) : ErF p l (j + 1) ⟨e.made ++ m, e.to ++ [t]⟩ := by
  refine ⟨by simp [h.len], ha, ?_, ?_⟩
  · intro i hi
    by_cases hlt : i < e.to.length
    · simp only [List.getElem_append_left hlt]
      have := h.in_ i hlt
      simp; omega
    · have hi2 : i = e.to.length := by simp at hi; omega
      subst hi2
      simp only [List.getElem_append_right (Nat.le_refl _)]
      simpa using ht
  · intro i hi
    by_cases hlt : i < e.to.length
    · simp only [List.getElem_append_left hlt]
      rw [formS_app p h.ahead m _ (h.in_ i hlt)]
      exact h.form i hlt
    · have hi2 : i = e.to.length := by simp at hi; omega
      subst hi2
      simp only [List.getElem_append_right (Nat.le_refl _), Nat.sub_self, List.getElem_cons_zero]
      rw [h.len]; exact hf
end Go.Proofs.YtfalgnapghienaaGreatDoor
