/- Types that are written alike are the same, if their names are of great letters alone: without a program. -/
import Derived.Test.YtljojfeiehkpeaaDoorTrDiff
namespace Go.Proofs.YtljojfeiehkpeaaDoor
set_option linter.unusedVariables false
set_option linter.unusedSimpArgs false

def qM (b : Bool) : List UInt8 := if b then [63] else []
/-- layers behind the first one -/
def restM : List Bool → List UInt8
  | [] => []
  | b :: bs => 91 :: 93 :: (qM b ++ restM bs)
theorem rest_inj : ∀ (a b : List Bool), restM a = restM b → a = b := by
  have key : ∀ (x : List Bool), restM x = [] ∨ ∃ t, restM x = 91 :: t := fun x => by cases x with | nil => exact .inl rfl | cons y ys => exact .inr ⟨_, rfl⟩
  intro a
  induction a with
  | nil => intro b h; cases b with | nil => rfl | cons y ys => simp [restM] at h
  | cons x xs ih =>
    intro b h
    cases b with
    | nil => simp [restM] at h
    | cons y ys =>
      simp only [restM, List.cons.injEq, true_and] at h
      cases x <;> cases y
      · simp [qM] at h; rw [ih ys h]
      · simp [qM] at h
        rcases key xs with e | ⟨t, e⟩ <;> (rw [e] at h; simp at h)
      · simp [qM] at h
        rcases key ys with e | ⟨t, e⟩ <;> (rw [e] at h; simp at h)
      · simp [qM] at h; rw [ih ys h]
def allM (b : Bool) (bs : List Bool) : List UInt8 := qM b ++ restM bs
theorem all_inj (a b : Bool) (as1 bs : List Bool) (h : allM a as1 = allM b bs) : a = b ∧ as1 = bs := by
  have : restM (a :: as1) = restM (b :: bs) := by unfold allM at h; simp [restM, h]
  have := rest_inj _ _ this
  simpa using this
theorem all_head (b : Bool) (bs : List Bool) : allM b bs = [] ∨ ∃ c t, allM b bs = c :: t ∧ (c = 63 ∨ c = 91) := by
  cases b
  · cases bs with
    | nil => exact .inl rfl
    | cons y ys => exact .inr ⟨91, _, rfl, .inr rfl⟩
  · exact .inr ⟨63, _, rfl, .inl rfl⟩
/-- what comes ahead of marks and brackets is told apart from them -/
theorem split_one : ∀ (a b s t : List UInt8), (∀ c ∈ a, c ≠ 63 ∧ c ≠ 91) → (∀ c ∈ b, c ≠ 63 ∧ c ≠ 91) → (s = [] ∨ ∃ c r, s = c :: r ∧ (c = 63 ∨ c = 91)) → (t = [] ∨ ∃ c r, t = c :: r ∧ (c = 63 ∨ c = 91)) → a ++ s = b ++ t → a = b ∧ s = t := by
  intro a
  induction a with
  | nil =>
    intro b s t _ hb hs ht h
    cases b with
    | nil => exact ⟨rfl, h⟩
    | cons y ys =>
      have hy := hb y List.mem_cons_self
      rcases hs with rfl | ⟨c, r, rfl, hc⟩
      · simp at h
      · simp at h
        rcases hc with e | e <;> (rw [e] at h; exact absurd h.1.symm (by first | exact hy.1 | exact hy.2))
  | cons x xs ih =>
    intro b s t ha hb hs ht h
    have hx := ha x List.mem_cons_self
    cases b with
    | nil =>
      rcases ht with rfl | ⟨c, r, rfl, hc⟩
      · simp at h
      · simp at h
        rcases hc with e | e <;> (rw [e] at h; exact absurd h.1 (by first | exact hx.1 | exact hx.2))
    | cons y ys =>
      simp only [List.cons_append, List.cons.injEq] at h
      obtain ⟨e1, e2⟩ := ih ys s t (fun c hc => ha c (List.mem_cons_of_mem _ hc)) (fun c hc => hb c (List.mem_cons_of_mem _ hc)) hs ht h.2
      exact ⟨by rw [h.1, e1], e2⟩
/-- the layers' marks as1 lists -/
def bitM (M : ByteArray) (i : Nat) : Bool := decide (byS M i = 63)
def bitsM (M : ByteArray) (k : Nat) : List Bool := (List.range k).map fun i => bitM M (i + 1)
theorem rest_snoc : ∀ (bs : List Bool) (b : Bool), restM (bs ++ [b]) = restM bs ++ (91 :: 93 :: qM b) := by
  intro bs
  induction bs with
  | nil => intro b; simp [restM]
  | cons x xs ih => intro b; simp [restM, ih b]
theorem dataApp (a b : ByteArray) : (a ++ b).data.toList = a.data.toList ++ b.data.toList := by
  show (a ++ b).data.toList = _
  rw [ByteArray.data_append, Array.toList_append]
/-- layers that aren't options, as1 a list of bytes -/
theorem text_list (M b : ByteArray) : ∀ k, (∀ i, i < k + 1 → byS M i = 32 ∨ byS M i = 63) → (textTo M b (k + 1)).data.toList = b.data.toList ++ allM (bitM M 0) (bitsM M k) := by
  intro k
  induction k with
  | zero =>
    intro h
    show (stepS M b 0).data.toList = _
    unfold stepS allM bitsM bitM
    rcases h 0 (by omega) with hc | hc
    · rw [hc]; simp [qM, restM]
    · rw [hc]; simp only [if_true]; rw [dataApp]; simp [qM, restM]
  | succ k ih =>
    intro h
    have e : textTo M b (k + 1 + 1) = stepS M (textTo M b (k + 1)) (k + 1) := rfl
    have eb : bitsM M (k + 1) = bitsM M k ++ [bitM M (k + 1)] := by unfold bitsM; rw [List.range_succ, List.map_append]; rfl
    have hk : ¬ k + 1 = 0 := by omega
    rw [e, eb]
    unfold stepS
    rcases h (k + 1) (by omega) with hc | hc
    · rw [hc]
      simp only [show ¬ (32 : Nat) = 63 by omega, show ¬ (32 : Nat) = 111 by omega, if_false, hk]
      rw [dataApp, ih (fun i hi => h i (by omega))]
      unfold allM
      rw [rest_snoc]
      simp [bitM, hc, qM]
    · rw [hc]
      simp only [if_true, hk, if_false]
      rw [dataApp, dataApp, ih (fun i hi => h i (by omega))]
      unfold allM
      rw [rest_snoc]
      simp [bitM, hc, qM]
end Go.Proofs.YtljojfeiehkpeaaDoor
