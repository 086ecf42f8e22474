/- A node's form without what is of the strict language alone, without a program: it is the node's form, or differs from it. -/
import Derived.Test.YtfalgnapghienaaGreatDoorTrDiff
namespace Go.Proofs.YtfalgnapghienaaGreatDoor
set_option linter.unusedVariables false
set_option linter.unusedSimpArgs false

def strictK (k : Int) : Bool := decide (40 ≤ k ∧ k ≤ 45)
def markedM (M : ByteArray) : Bool := decide (∃ i, i < M.size ∧ byS M i ≠ 32)
def strictN (x : Nd) : Bool := strictK x.kind || markedM x.M
def strictAt (l : List Nd) (i : Nat) : Bool := ((l[i]?).map strictN).getD false
/-- a node whose type has no marks -/
def bareX (x : Nd) : Nd := { x with M := blankT x.M.size }
theorem blank_of {M : ByteArray} (h : markedM M = false) : blankT M.size = M := by
  apply ext_by _ _ (blankT_size _)
  intro k hk
  rw [blankT_size] at hk
  rw [blankT_by _ _ hk]
  unfold markedM at h
  rw [decide_eq_false_iff_not] at h
  apply Classical.byContradiction
  intro hne
  exact h ⟨k, hk, fun e => hne e.symm⟩
theorem bareX_of {x : Nd} (h : markedM x.M = false) : bareX x = x := by
  unfold bareX; rw [blank_of h]

def firstKid (l : List Nd) (a : Nat) : Nat := (kidsOf l a).headD 0
def bareF (p : Pen) (l : List Nd) : Nat → Nat → ByteArray
  | 0, _ => ⟨#[]⟩
  | f + 1, a => match l[a]? with
    | none => ⟨#[]⟩
    | some x =>
      if x.kind = 40 ∨ x.kind = 41 ∨ x.kind = 45 then bareF p l f (firstKid l a)
      else if x.kind = 42 then ⟨#[40]⟩ ++ ⟨#[110, 117, 108, 108]⟩ ++ ⟨#[41]⟩
      else if x.kind = 43 then ⟨#[40]⟩ ++ ⟨#[98, 105, 110, 97, 114, 121]⟩ ++ (⟨#[32, 34, 33, 61, 34, 32]⟩ ++ bareF p l f (firstKid l a) ++ ⟨#[32, 40, 110, 117, 108, 108, 41, 41]⟩)
      else if x.kind = 44 then ⟨#[40]⟩ ++ ⟨#[98, 105, 110, 97, 114, 121]⟩ ++ (⟨#[32, 34, 61, 61, 34, 32]⟩ ++ bareF p l f (firstKid l a) ++ ⟨#[32, 40, 110, 117, 108, 108, 41, 41]⟩)
      else (kidsOf l a).foldl (fun (s : ByteArray) k => s ++ (⟨#[32]⟩ : ByteArray) ++ bareF p l f k) (headS p (bareX x)) ++ ⟨#[41]⟩

/-- the names of kinds that the legacy language has too; those that it hasn't -/
def legacyL : List ByteArray := (nameL.drop 1).take 39
def strictL : List ByteArray := nameL.drop 40
theorem names_apart : ∀ a ∈ legacyL, ∀ b ∈ strictL, ∃ i, i < 7 ∧ i < a.size ∧ i < b.size ∧ byS b i ≠ byS a i := by decide +kernel

/-- a text that begins with a bracket and a name of some -/
def Front (L : List ByteArray) (s : ByteArray) : Prop := ∃ nm ∈ L, ∃ z, s = ⟨#[40]⟩ ++ nm ++ z
theorem front_differ {s t : ByteArray} (h : Front strictL s) (g : Front legacyL t) : Differ s t := by
  obtain ⟨b, hb, z, rfl⟩ := h
  obtain ⟨a, ha, y, rfl⟩ := g
  obtain ⟨i, -, h1, h2, h3⟩ := names_apart a ha b hb
  refine Differ.right ?_ z y
  refine Differ.left ?_ _
  exact ⟨i, h2, h1, h3⟩

theorem fold_front {f : Nat → ByteArray} : ∀ (ks : List Nat) (s : ByteArray), ∃ z, ks.foldl (fun (s : ByteArray) k => s ++ (⟨#[32]⟩ : ByteArray) ++ f k) s = s ++ z ∧ (z.size = 0 ∨ (0 < z.size ∧ byS z 0 = 32)) := by
  intro ks
  induction ks with
  | nil => intro s; exact ⟨⟨#[]⟩, (nil_app s).symm, .inl rfl⟩
  | cons k ks ih =>
    intro s
    obtain ⟨z, h1, -⟩ := ih (s ++ (⟨#[32]⟩ : ByteArray) ++ f k)
    refine ⟨(⟨#[32]⟩ : ByteArray) ++ f k ++ z, by rw [List.foldl_cons, h1]; simp only [app_assoc3], .inr ⟨?_, ?_⟩⟩
    · rw [ByteArray.size_append, ByteArray.size_append]; show 0 < 1 + _ + _; omega
    · rw [app_assoc3, byS_app, if_pos (by show 0 < 1; omega)]; rfl
theorem fold_diff {f g : Nat → ByteArray} : ∀ (ks : List Nat) (s s' : ByteArray), (s = s' ∨ Differ s s') → (∀ k ∈ ks, f k = g k ∨ Differ (f k) (g k)) →
    (ks.foldl (fun (s : ByteArray) k => s ++ (⟨#[32]⟩ : ByteArray) ++ f k) s = ks.foldl (fun (s : ByteArray) k => s ++ (⟨#[32]⟩ : ByteArray) ++ g k) s' ∧ s = s' ∧ ∀ k ∈ ks, f k = g k) ∨
    (Differ (ks.foldl (fun (s : ByteArray) k => s ++ (⟨#[32]⟩ : ByteArray) ++ f k) s) (ks.foldl (fun (s : ByteArray) k => s ++ (⟨#[32]⟩ : ByteArray) ++ g k) s') ∧ (Differ s s' ∨ ∃ k ∈ ks, Differ (f k) (g k))) := by
  intro ks
  induction ks with
  | nil =>
    intro s s' h _
    rcases h with h | h
    · exact .inl ⟨h, h, fun k hk => by cases hk⟩
    · exact .inr ⟨h, .inl h⟩
  | cons k ks ih =>
    intro s s' h hk
    rw [List.foldl_cons, List.foldl_cons]
    have h0 := hk k List.mem_cons_self
    have hs : (s ++ (⟨#[32]⟩ : ByteArray) ++ f k = s' ++ (⟨#[32]⟩ : ByteArray) ++ g k ∧ s = s' ∧ f k = g k) ∨ (Differ (s ++ (⟨#[32]⟩ : ByteArray) ++ f k) (s' ++ (⟨#[32]⟩ : ByteArray) ++ g k) ∧ (Differ s s' ∨ Differ (f k) (g k))) := by
      rcases h with rfl | h
      · rcases h0 with h0 | h0
        · exact .inl ⟨by rw [h0], rfl, h0⟩
        · exact .inr ⟨h0.left _, .inr h0⟩
      · refine .inr ⟨?_, .inl h⟩
        rw [app_assoc3, app_assoc3]
        exact h.right _ _
    rcases hs with ⟨e1, e2, e3⟩ | ⟨d1, d2⟩
    · rcases ih _ _ (.inl e1) (fun x hx => hk x (List.mem_cons_of_mem _ hx)) with ⟨q1, q2, q3⟩ | ⟨q1, q2⟩
      · refine .inl ⟨q1, e2, fun x hx => ?_⟩
        rcases List.mem_cons.1 hx with rfl | hx
        · exact e3
        · exact q3 x hx
      · refine .inr ⟨q1, ?_⟩
        rcases q2 with q2 | ⟨x, hx, q2⟩
        · exact absurd e1 q2.ne
        · exact .inr ⟨x, List.mem_cons_of_mem _ hx, q2⟩
    · rcases ih _ _ (.inr d1) (fun x hx => hk x (List.mem_cons_of_mem _ hx)) with ⟨q1, q2, q3⟩ | ⟨q1, q2⟩
      · exact absurd q2 d1.ne
      · refine .inr ⟨q1, ?_⟩
        rcases d2 with d2 | d2
        · exact .inl d2
        · exact .inr ⟨k, List.mem_cons_self, d2⟩
end Go.Proofs.YtfalgnapghienaaGreatDoor
