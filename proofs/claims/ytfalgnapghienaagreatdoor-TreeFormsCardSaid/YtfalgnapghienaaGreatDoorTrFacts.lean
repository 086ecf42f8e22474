/- What a program of nodes is, without a program: which nodes are one, and what follows. -/
import Derived.Test.YtfalgnapghienaaGreatDoorTyFacts
namespace Go.Proofs.YtfalgnapghienaaGreatDoor
set_option linter.unusedVariables false
set_option linter.unusedSimpArgs false

/-- a node: its kind, where it stands, what it is made of, its text, its type (base, name, arrays, marks), its number, where its type stands, and where that type's layers end -/
structure Nd where
  kind : Int
  sf : Int
  st : Int
  kids : List Int
  text : ByteArray
  B : Int
  N : ByteArray
  D : Int
  M : ByteArray
  num : Int
  wf : Int
  wt : Int
  ends : List Int

/-- what a kind's nodes have: how many nodes at least and at most (none: as many as one likes), a text, a type -/
structure Shp where
  least : Nat
  most : Option Nat
  text : Bool
  typ : Bool
def shapeL : List Shp := [
  ⟨0, some 0, false, false⟩,
  ⟨0, none, false, false⟩, ⟨0, none, true, false⟩, ⟨0, some 0, true, false⟩, ⟨0, some 0, true, true⟩, ⟨1, none, false, false⟩, ⟨1, none, true, true⟩, ⟨0, some 0, true, true⟩,
  ⟨0, none, false, false⟩, ⟨0, some 1, true, true⟩, ⟨2, some 2, false, false⟩, ⟨2, some 3, false, false⟩, ⟨2, some 2, false, false⟩, ⟨0, some 0, false, false⟩, ⟨0, some 0, false, false⟩,
  ⟨0, some 1, false, false⟩, ⟨1, some 1, false, false⟩, ⟨0, none, false, false⟩, ⟨1, some 1, false, false⟩,
  ⟨0, some 0, false, false⟩, ⟨0, some 0, true, false⟩, ⟨0, some 0, false, false⟩, ⟨0, some 0, true, false⟩, ⟨0, some 0, false, false⟩, ⟨0, some 0, false, false⟩, ⟨0, some 0, true, false⟩,
  ⟨1, some 1, true, false⟩, ⟨2, some 2, false, false⟩, ⟨1, some 1, false, false⟩, ⟨1, none, true, false⟩, ⟨0, none, false, true⟩, ⟨1, some 1, false, true⟩, ⟨1, some 1, false, false⟩, ⟨1, some 1, false, false⟩,
  ⟨2, some 2, true, false⟩, ⟨1, some 1, false, true⟩, ⟨1, some 1, false, false⟩, ⟨1, some 1, false, false⟩, ⟨0, some 0, false, false⟩, ⟨1, some 1, false, false⟩, ⟨1, some 1, false, false⟩, ⟨1, some 1, false, false⟩,
  ⟨0, some 0, false, false⟩, ⟨1, some 1, false, false⟩, ⟨1, some 1, false, false⟩, ⟨1, some 1, false, false⟩]
theorem shapeL_len : shapeL.length = 46 := rfl
def shp (k : Int) : Shp := shapeL.getD k.toNat ⟨0, some 0, false, false⟩
def knownB (k : Int) : Bool := decide (0 < k ∧ k < 46)
def overB (s : Shp) (n : Nat) : Bool := match s.most with | none => false | some m => decide (m < n)
def zeroT (x : Nd) : Bool := decide (x.B = 0 ∧ x.N.size = 0 ∧ x.D = 0 ∧ x.M.size = 0)
/-- has a node what its kind has, and nothing else? 0: it has; else the error's number -/
def shapedE (x : Nd) : Int :=
  if knownB x.kind = false then 3
  else if decide (x.kids.length < (shp x.kind).least) || overB (shp x.kind) x.kids.length then 131
  else if (decide (x.text.size ≠ 0) && !(shp x.kind).text) || (!zeroT x && !(shp x.kind).typ) || ((shp x.kind).typ && !rightB x.B x.N x.D x.M) then 5
  else 0

/-- a node's kids are taken: each is ahead of it, and nobody's yet; the error's number, and which nodes are taken then (the last one first) -/
def takeE (i : Nat) : List Int → List Nat → Int × List Nat
  | [], u => (0, u)
  | k :: ks, u => if k < 0 ∨ (i : Int) ≤ k then (7, u) else if k.toNat ∈ u then (4, u) else takeE i ks (k.toNat :: u)
def checkL : List Nd → Nat → List Nat → Int × List Nat
  | [], i, u => (0, u)
  | x :: xs, i, u => if shapedE x ≠ 0 then (shapedE x, u) else if (takeE i x.kids u).1 ≠ 0 then takeE i x.kids u else checkL xs (i + 1) (takeE i x.kids u).2
/-- whether nodes are a program (0), or why they aren't -/
def checkE (l : List Nd) (root : Int) : Int :=
  if 16384 < l.length then 2
  else if l.length = 0 ∨ root ≠ (l.length : Int) - 1 ∨ (l.getLast?.map Nd.kind) ≠ some 1 then 5
  else if (checkL l 0 []).1 ≠ 0 then (checkL l 0 []).1
  else if ∀ j, j < l.length - 1 → j ∈ (checkL l 0 []).2 then 0 else 3

theorem take_ok (i : Nat) : ∀ (ks : List Int) (u : List Nat), (takeE i ks u).1 = 0 → u.Nodup →
    (takeE i ks u).2 = (ks.map Int.toNat).reverse ++ u ∧ (∀ k ∈ ks, 0 ≤ k ∧ k < i) ∧ ((ks.map Int.toNat).reverse ++ u).Nodup := by
  intro ks
  induction ks with
  | nil => intro u h hu; exact ⟨rfl, (fun k hk => by cases hk), by simpa using hu⟩
  | cons k ks ih =>
    intro u h hu
    unfold takeE at h ⊢
    by_cases h1 : k < 0 ∨ (i : Int) ≤ k
    · rw [if_pos h1] at h; simp at h
    · rw [if_neg h1] at h ⊢
      by_cases h2 : k.toNat ∈ u
      · rw [if_pos h2] at h; simp at h
      · rw [if_neg h2] at h ⊢
        obtain ⟨a, b, c⟩ := ih (k.toNat :: u) h (List.nodup_cons.2 ⟨h2, hu⟩)
        refine ⟨by rw [a]; simp, ?_, by simpa using c⟩
        intro x hx
        rcases List.mem_cons.1 hx with rfl | hx
        · omega
        · exact b x hx

/-- all that nodes are made of -/
def allKids (l : List Nd) : List Nat := l.flatMap fun x => x.kids.map Int.toNat
theorem checkL_ok : ∀ (l : List Nd) (i : Nat) (u : List Nat), (checkL l i u).1 = 0 → u.Nodup →
    (∀ x ∈ (checkL l i u).2, x ∈ allKids l ∨ x ∈ u) ∧ (∀ x, x ∈ allKids l ∨ x ∈ u → x ∈ (checkL l i u).2) ∧
    (∀ j (h : j < l.length), shapedE l[j] = 0 ∧ ∀ k ∈ l[j].kids, 0 ≤ k ∧ k < (i + j : Nat)) ∧ (allKids l).Nodup ∧ (∀ x ∈ allKids l, x ∉ u) := by
  intro l
  induction l with
  | nil => intro i u h hu; exact ⟨fun x hx => .inr hx, fun x hx => hx.elim (fun h => by simp [allKids] at h) id, fun j hj => absurd hj (by simp), by simp [allKids], fun x hx => by simp [allKids] at hx⟩
  | cons y l ih =>
    intro i u h hu
    unfold checkL at h ⊢
    by_cases h1 : shapedE y ≠ 0
    · rw [if_pos h1] at h; exact absurd h h1
    · rw [if_neg h1] at h ⊢
      by_cases h2 : (takeE i y.kids u).1 ≠ 0
      · rw [if_pos h2] at h; exact absurd h h2
      · rw [if_neg h2] at h ⊢
        obtain ⟨a, b, c⟩ := take_ok i y.kids u (Classical.not_not.1 h2) hu
        rw [a] at h ⊢
        obtain ⟨g1, g2, g3, g4, g5⟩ := ih (i + 1) _ h c
        have e : allKids (y :: l) = y.kids.map Int.toNat ++ allKids l := by simp [allKids]
        rw [List.nodup_append] at c
        obtain ⟨c1, c2, c3⟩ := c
        refine ⟨?_, ?_, ?_, ?_, ?_⟩
        · intro x hx
          rcases g1 x hx with hx | hx
          · exact .inl (by rw [e]; exact List.mem_append_right _ hx)
          · rcases List.mem_append.1 hx with hx | hx
            · exact .inl (by rw [e]; exact List.mem_append_left _ (List.mem_reverse.1 hx))
            · exact .inr hx
        · intro x hx
          apply g2
          rcases hx with hx | hx
          · rw [e] at hx
            rcases List.mem_append.1 hx with hx | hx
            · exact .inr (List.mem_append_left _ (List.mem_reverse.2 hx))
            · exact .inl hx
          · exact .inr (List.mem_append_right _ hx)
        · intro j hj
          match j, hj with
          | 0, hj => exact ⟨Classical.not_not.1 h1, fun k hk => by have := b k hk; simpa using this⟩
          | j + 1, hj =>
            obtain ⟨q1, q2⟩ := g3 j (by simpa using hj)
            refine ⟨q1, fun k hk => ?_⟩
            have := q2 k hk
            omega
        · rw [e, List.nodup_append]
          refine ⟨(List.reverse_perm _).nodup_iff.1 c1, g4, ?_⟩
          intro x hx z hz hxz
          subst hxz
          exact g5 x hz (List.mem_append_left _ (List.mem_reverse.2 hx))
        · intro x hx hxu
          rw [e] at hx
          rcases List.mem_append.1 hx with hx | hx
          · exact c3 x (List.mem_reverse.2 hx) x hxu rfl
          · exact g5 x hx (List.mem_append_right _ hxu)

/-- what is known of nodes that are a program -/
structure ProgOk (l : List Nd) (root : Int) : Prop where
  long : l.length ≤ 16384
  some_ : 0 < l.length
  root_ : root = (l.length : Int) - 1
  shaped : ∀ j (h : j < l.length), shapedE l[j] = 0
  ahead : ∀ j (h : j < l.length), ∀ k ∈ l[j].kids, 0 ≤ k ∧ k < (j : Nat)
  once : (allKids l).Nodup
  each : ∀ j, j < l.length - 1 → j ∈ allKids l
theorem check_ok (l : List Nd) (root : Int) (h : checkE l root = 0) : ProgOk l root := by
  unfold checkE at h
  by_cases h1 : 16384 < l.length
  · rw [if_pos h1] at h; simp at h
  · rw [if_neg h1] at h
    by_cases h2 : l.length = 0 ∨ root ≠ (l.length : Int) - 1 ∨ (l.getLast?.map Nd.kind) ≠ some 1
    · rw [if_pos h2] at h; simp at h
    · rw [if_neg h2] at h
      by_cases h3 : (checkL l 0 []).1 ≠ 0
      · rw [if_pos h3] at h; exact absurd h h3
      · rw [if_neg h3] at h
        by_cases h4 : ∀ j, j < l.length - 1 → j ∈ (checkL l 0 []).2
        · obtain ⟨g1, g2, g3, g4, g5⟩ := checkL_ok l 0 [] (Classical.not_not.1 h3) List.nodup_nil
          refine ⟨by omega, by omega, ?_, fun j hj => (g3 j hj).1, fun j hj k hk => by have := (g3 j hj).2 k hk; simpa using this, g4, fun j hj => ?_⟩
          · apply Classical.byContradiction; intro hr; exact h2 (.inr (.inl hr))
          · rcases g1 j (h4 j hj) with hx | hx
            · exact hx
            · cases hx
        · rw [if_neg h4] at h; simp at h
end Go.Proofs.YtfalgnapghienaaGreatDoor
