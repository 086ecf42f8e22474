/- Contracts of the document's Right (merged of XTrText XTrTextB XTrTextC XTrRef). -/
import Derived.Test.YtfalgnapghienaaGreatDoorTrDiff
import Derived.Test.YtfalgnapghienaaGreatDoorTrType
namespace Go.Proofs.YtfalgnapghienaaGreatDoor
set_option linter.unusedVariables false
set_option linter.unusedSimpArgs false

def qM (b : Bool) : List UInt8 := if b then [63] else []
/-- layers behind the first one -/
def restM : List Bool → List UInt8
  | [] => []
  | b :: bs => 91 :: 93 :: (qM b ++ restM bs)
theorem rest_inj : ∀ (a b : List Bool), restM a = restM b → a = b := by
  have key : ∀ (x : List Bool), restM x = [] ∨ ∃ t, restM x = 91 :: t := fun x => by cases x with | nil => exact .inl rfl | cons y ys => exact .inr ⟨_, rfl⟩
  intro a
  induction a with
  | nil => intro b h; cases b with | nil => rfl | cons y ys => simp [restM] at h
  | cons x xs ih =>
    intro b h
    cases b with
    | nil => simp [restM] at h
    | cons y ys =>
      simp only [restM, List.cons.injEq, true_and] at h
      cases x <;> cases y
      · simp [qM] at h; rw [ih ys h]
      · simp [qM] at h
        rcases key xs with e | ⟨t, e⟩ <;> (rw [e] at h; simp at h)
      · simp [qM] at h
        rcases key ys with e | ⟨t, e⟩ <;> (rw [e] at h; simp at h)
      · simp [qM] at h; rw [ih ys h]
def allM (b : Bool) (bs : List Bool) : List UInt8 := qM b ++ restM bs
theorem all_inj (a b : Bool) (as1 bs : List Bool) (h : allM a as1 = allM b bs) : a = b ∧ as1 = bs := by
  have : restM (a :: as1) = restM (b :: bs) := by unfold allM at h; simp [restM, h]
  have := rest_inj _ _ this
  simpa using this
theorem all_head (b : Bool) (bs : List Bool) : allM b bs = [] ∨ ∃ c t, allM b bs = c :: t ∧ (c = 63 ∨ c = 91) := by
  cases b
  · cases bs with
    | nil => exact .inl rfl
    | cons y ys => exact .inr ⟨91, _, rfl, .inr rfl⟩
  · exact .inr ⟨63, _, rfl, .inl rfl⟩
/-- what comes ahead of marks and brackets is told apart from them -/
theorem split_one : ∀ (a b s t : List UInt8), (∀ c ∈ a, c ≠ 63 ∧ c ≠ 91) → (∀ c ∈ b, c ≠ 63 ∧ c ≠ 91) → (s = [] ∨ ∃ c r, s = c :: r ∧ (c = 63 ∨ c = 91)) → (t = [] ∨ ∃ c r, t = c :: r ∧ (c = 63 ∨ c = 91)) → a ++ s = b ++ t → a = b ∧ s = t := by
  intro a
  induction a with
  | nil =>
    intro b s t _ hb hs ht h
    cases b with
    | nil => exact ⟨rfl, h⟩
    | cons y ys =>
      have hy := hb y List.mem_cons_self
      rcases hs with rfl | ⟨c, r, rfl, hc⟩
      · simp at h
      · simp at h
        rcases hc with e | e <;> (rw [e] at h; exact absurd h.1.symm (by first | exact hy.1 | exact hy.2))
  | cons x xs ih =>
    intro b s t ha hb hs ht h
    have hx := ha x List.mem_cons_self
    cases b with
    | nil =>
      rcases ht with rfl | ⟨c, r, rfl, hc⟩
      · simp at h
      · simp at h
        rcases hc with e | e <;> (rw [e] at h; exact absurd h.1 (by first | exact hx.1 | exact hx.2))
    | cons y ys =>
      simp only [List.cons_append, List.cons.injEq] at h
      obtain ⟨e1, e2⟩ := ih ys s t (fun c hc => ha c (List.mem_cons_of_mem _ hc)) (fun c hc => hb c (List.mem_cons_of_mem _ hc)) hs ht h.2
      exact ⟨by rw [h.1, e1], e2⟩
/-- the layers' marks as1 lists -/
def bitM (M : ByteArray) (i : Nat) : Bool := decide (byS M i = 63)
def bitsM (M : ByteArray) (k : Nat) : List Bool := (List.range k).map fun i => bitM M (i + 1)
theorem rest_snoc : ∀ (bs : List Bool) (b : Bool), restM (bs ++ [b]) = restM bs ++ (91 :: 93 :: qM b) := by
  intro bs
  induction bs with
  | nil => intro b; simp [restM]
  | cons x xs ih => intro b; simp [restM, ih b]
theorem dataApp (a b : ByteArray) : (a ++ b).data.toList = a.data.toList ++ b.data.toList := by
  show (a ++ b).data.toList = _
  rw [ByteArray.data_append, Array.toList_append]
/-- layers that aren't options, as1 a list of bytes -/
theorem text_list (M b : ByteArray) : ∀ k, (∀ i, i < k + 1 → byS M i = 32 ∨ byS M i = 63) → (textTo M b (k + 1)).data.toList = b.data.toList ++ allM (bitM M 0) (bitsM M k) := by
  intro k
  induction k with
  | zero =>
    intro h
    show (stepS M b 0).data.toList = _
    unfold stepS allM bitsM bitM
    rcases h 0 (by omega) with hc | hc
    · rw [hc]; simp [qM, restM]
    · rw [hc]; simp only [if_true]; rw [dataApp]; simp [qM, restM]
  | succ k ih =>
    intro h
    have e : textTo M b (k + 1 + 1) = stepS M (textTo M b (k + 1)) (k + 1) := rfl
    have eb : bitsM M (k + 1) = bitsM M k ++ [bitM M (k + 1)] := by unfold bitsM; rw [List.range_succ, List.map_append]; rfl
    have hk : ¬ k + 1 = 0 := by omega
    rw [e, eb]
    unfold stepS
    rcases h (k + 1) (by omega) with hc | hc
    · rw [hc]
      simp only [show ¬ (32 : Nat) = 63 by omega, show ¬ (32 : Nat) = 111 by omega, if_false, hk]
      rw [dataApp, ih (fun i hi => h i (by omega))]
      unfold allM
      rw [rest_snoc]
      simp [bitM, hc, qM]
    · rw [hc]
      simp only [if_true, hk, if_false]
      rw [dataApp, dataApp, ih (fun i hi => h i (by omega))]
      unfold allM
      rw [rest_snoc]
      simp [bitM, hc, qM]
end Go.Proofs.YtfalgnapghienaaGreatDoor
namespace Go.Proofs.YtfalgnapghienaaGreatDoor
set_option linter.unusedVariables false
set_option linter.unusedSimpArgs false

def optP : List UInt8 := [79, 112, 116, 105, 111, 110, 60]
def isO (M : ByteArray) (d : Nat) : Bool := decide (byS M d = 111)
theorem type_list (B : Int) (N : ByteArray) (M : ByteArray) (d : Nat) (hm : M.size = d + 1) (h : ∀ i, i < d → byS M i = 32 ∨ byS M i = 63) (hl : byS M d = 32 ∨ byS M d = 63 ∨ byS M d = 111) :
    (typeS B N M).data.toList = (if isO M d = true then optP else []) ++ ((baseS B N).data.toList ++ allM (bitM M 0) (bitsM M d)) ++ (if isO M d = true then [62] else []) := by
  unfold typeS
  rw [hm]
  by_cases ho : byS M d = 111
  · have e : isO M d = true := by unfold isO; rw [decide_eq_true ho]
    rw [e]
    have e1 : textTo M (baseS B N) (d + 1) = stepS M (textTo M (baseS B N) d) d := rfl
    rw [e1]
    unfold stepS
    rw [ho]
    simp only [show ¬ (111 : Nat) = 63 by omega, if_false, if_true]
    rw [dataApp, dataApp]
    cases d with
    | zero =>
      have hb : bitM M 0 = false := by unfold bitM; rw [ho]; rfl
      simp only [if_true]
      rw [hb]
      show optP ++ (textTo M (baseS B N) 0).data.toList ++ [62] = _
      simp [textTo, allM, qM, bitsM, restM]
    | succ k =>
      have hb : bitM M (k + 1) = false := by unfold bitM; rw [ho]; rfl
      simp only [show ¬ k + 1 = 0 by omega, if_false]
      rw [dataApp, text_list M _ k (fun i hi => h i hi)]
      have eb : bitsM M (k + 1) = bitsM M k ++ [bitM M (k + 1)] := by unfold bitsM; rw [List.range_succ, List.map_append]; rfl
      rw [eb, hb]
      unfold allM
      rw [rest_snoc]
      show optP ++ _ ++ [62] = _
      simp [qM]
  · have e : isO M d = false := by unfold isO; rw [decide_eq_false ho]
    rw [e]
    simp only [Bool.false_eq_true, if_false, List.nil_append, List.append_nil]
    exact text_list M _ d (fun i hi => by
      by_cases hid : i = d
      · rw [hid]; omega
      · exact h i (by omega))
/-- are all of a name's bytes great letters? -/
def greatN (N : ByteArray) : Prop := ∀ c ∈ N.data.toList, 65 ≤ c.toNat ∧ c.toNat ≤ 90
theorem base_plain {B : Int} {N : ByteArray} (hB : 1 ≤ B ∧ B ≤ 6) (hN : B = 5 → greatN N) : ∀ c ∈ (baseS B N).data.toList, c ≠ 63 ∧ c ≠ 91 := by
  have hb : B = 1 ∨ B = 2 ∨ B = 3 ∨ B = 4 ∨ B = 5 ∨ B = 6 := by omega
  rcases hb with rfl | rfl | rfl | rfl | rfl | rfl
  · show ∀ c ∈ ([105, 110, 116] : List UInt8), c ≠ 63 ∧ c ≠ 91
    decide
  · show ∀ c ∈ ([98, 111, 111, 108] : List UInt8), c ≠ 63 ∧ c ≠ 91
    decide
  · show ∀ c ∈ ([100, 111, 117, 98, 108, 101] : List UInt8), c ≠ 63 ∧ c ≠ 91
    decide
  · show ∀ c ∈ ([115, 116, 114] : List UInt8), c ≠ 63 ∧ c ≠ 91
    decide
  · intro c hc
    have := hN rfl c hc
    constructor
    · intro e; subst e; revert this; decide
    · intro e; subst e; revert this; decide
  · show ∀ c ∈ ([118, 111, 105, 100] : List UInt8), c ≠ 63 ∧ c ≠ 91
    decide
/-- what isn't in Option<..> doesn't begin as that does -/
theorem base_noP {B : Int} {N : ByteArray} (hB : 1 ≤ B ∧ B ≤ 6) (hn : B = 5 → N.size ≠ 0) (hN : B = 5 → greatN N) (s r : List UInt8) (hs : s = [] ∨ ∃ c t, s = c :: t ∧ (c = 63 ∨ c = 91)) : (baseS B N).data.toList ++ s ≠ 79 :: 112 :: r := by
  have hb : B = 1 ∨ B = 2 ∨ B = 3 ∨ B = 4 ∨ B = 5 ∨ B = 6 := by omega
  rcases hb with rfl | rfl | rfl | rfl | rfl | rfl
  · show ([105, 110, 116] : List UInt8) ++ s ≠ _
    simp
  · show ([98, 111, 111, 108] : List UInt8) ++ s ≠ _
    simp
  · show ([100, 111, 117, 98, 108, 101] : List UInt8) ++ s ≠ _
    simp
  · show ([115, 116, 114] : List UInt8) ++ s ≠ _
    simp
  · show N.data.toList ++ s ≠ _
    intro h
    have hsz : N.data.toList.length ≠ 0 := by rw [Array.length_toList]; exact hn rfl
    have hg := hN rfl
    unfold greatN at hg
    cases hl : N.data.toList with
    | nil => rw [hl] at hsz; exact hsz rfl
    | cons x xs =>
      rw [hl] at h hg
      cases xs with
      | nil =>
        rcases hs with rfl | ⟨c, t, rfl, hc⟩
        · simp at h
        · simp at h
          rcases hc with e | e <;> (rw [e] at h; exact absurd h.2.1 (by decide))
      | cons y ys =>
        simp at h
        have := hg y (by simp)
        rw [h.2.1] at this
        revert this; decide
  · show ([118, 111, 105, 100] : List UInt8) ++ s ≠ _
    simp
end Go.Proofs.YtfalgnapghienaaGreatDoor
namespace Go.Proofs.YtfalgnapghienaaGreatDoor
set_option linter.unusedVariables false
set_option linter.unusedSimpArgs false

theorem right_facts {B : Int} {N : ByteArray} {D : Int} {M : ByteArray} (h : rightB B N D M = true) : (1 ≤ B ∧ B ≤ 6) ∧ (B = 5 ↔ N.size ≠ 0) ∧ ∃ d : Nat, D = d ∧ M.size = d + 1 ∧ (∀ i, i < d → byS M i = 32 ∨ byS M i = 63) ∧ (byS M d = 32 ∨ byS M d = 63 ∨ byS M d = 111) := by
  unfold rightB marksB innerM lastM at h
  simp only [Bool.and_eq_true, Bool.or_eq_true, decide_eq_true_iff] at h
  obtain ⟨⟨⟨h1, h2⟩, h3⟩, ⟨⟨h4, h5⟩, h7⟩, h8⟩ := h
  exact ⟨h1, h2, D.toNat, by omega, h4, h7, h8⟩
theorem list_eq {a b : ByteArray} (h : a.data.toList = b.data.toList) : a = b := ByteArray.ext (Array.toList_inj.1 h)
theorem great_ne {N : ByteArray} (hg : greatN N) (hn : N.size ≠ 0) (x : UInt8) (xs : List UInt8) (hx : ¬ (65 ≤ x.toNat ∧ x.toNat ≤ 90)) : N.data.toList ≠ x :: xs := by
  intro h
  exact hx (hg x (by rw [h]; exact List.mem_cons_self))
theorem base_inj {B B' : Int} {N N' : ByteArray} (hB : 1 ≤ B ∧ B ≤ 6) (hB' : 1 ≤ B' ∧ B' ≤ 6) (hN : B = 5 ↔ N.size ≠ 0) (hN' : B' = 5 ↔ N'.size ≠ 0) (g : B = 5 → greatN N) (g' : B' = 5 → greatN N') (e : (baseS B N).data.toList = (baseS B' N').data.toList) : B = B' ∧ N = N' := by
  have emp : ∀ (C : Int) (K : ByteArray), (C = 5 ↔ K.size ≠ 0) → C ≠ 5 → K = ⟨#[]⟩ := fun C K hk hc => empty_of K (Classical.byContradiction fun h => hc (hk.2 h))
  by_cases h5 : B = 5
  · by_cases h5' : B' = 5
    · subst h5 h5'
      exact ⟨rfl, list_eq e⟩
    · exfalso
      subst h5
      have hs := hN.1 rfl
      have hg := g rfl
      have e2 : N.data.toList = (baseS B' N').data.toList := e
      have hb : B' = 1 ∨ B' = 2 ∨ B' = 3 ∨ B' = 4 ∨ B' = 6 := by omega
      rcases hb with rfl | rfl | rfl | rfl | rfl <;> exact great_ne hg hs _ _ (by decide) e2
  · by_cases h5' : B' = 5
    · exfalso
      subst h5'
      have hs := hN'.1 rfl
      have hg := g' rfl
      have e2 : N'.data.toList = (baseS B N).data.toList := e.symm
      have hb : B = 1 ∨ B = 2 ∨ B = 3 ∨ B = 4 ∨ B = 6 := by omega
      rcases hb with rfl | rfl | rfl | rfl | rfl <;> exact great_ne hg hs _ _ (by decide) e2
    · rw [emp B N hN h5, emp B' N' hN' h5'] at e
      refine ⟨?_, by rw [emp B N hN h5, emp B' N' hN' h5']⟩
      have hb : B = 1 ∨ B = 2 ∨ B = 3 ∨ B = 4 ∨ B = 6 := by omega
      have hb' : B' = 1 ∨ B' = 2 ∨ B' = 3 ∨ B' = 4 ∨ B' = 6 := by omega
      rcases hb with rfl | rfl | rfl | rfl | rfl <;> rcases hb' with rfl | rfl | rfl | rfl | rfl <;> first | rfl | (exfalso; revert e; decide)
theorem type_inj {B : Int} {N : ByteArray} {D : Int} {M : ByteArray} {B' : Int} {N' : ByteArray} {D' : Int} {M' : ByteArray} (h : rightB B N D M = true) (h' : rightB B' N' D' M' = true) (g : B = 5 → greatN N) (g' : B' = 5 → greatN N')
    (e : typeS B N M = typeS B' N' M') : B = B' ∧ N = N' ∧ D = D' ∧ M = M' := by
  obtain ⟨hB, hN, d, rfl, hm, hi, hl⟩ := right_facts h
  obtain ⟨hB', hN', d', rfl, hm', hi', hl'⟩ := right_facts h'
  have L : (typeS B N M).data.toList = (typeS B' N' M').data.toList := by rw [e]
  rw [type_list B N M d hm hi hl, type_list B' N' M' d' hm' hi' hl'] at L
  have core : isO M d = isO M' d' ∧ (baseS B N).data.toList ++ allM (bitM M 0) (bitsM M d) = (baseS B' N').data.toList ++ allM (bitM M' 0) (bitsM M' d') := by
    cases ho : isO M d <;> cases ho' : isO M' d'
    · rw [ho, ho'] at L
      simp only [Bool.false_eq_true, if_false, List.nil_append, List.append_nil] at L
      exact ⟨rfl, L⟩
    · exfalso
      rw [ho, ho'] at L
      simp only [Bool.false_eq_true, if_false, if_true, List.nil_append, List.append_nil] at L
      exact base_noP hB (fun k => hN.1 k) g _ _ (all_head _ _) L
    · exfalso
      rw [ho, ho'] at L
      simp only [Bool.false_eq_true, if_false, if_true, List.nil_append, List.append_nil] at L
      exact base_noP hB' (fun k => hN'.1 k) g' _ _ (all_head _ _) L.symm
    · rw [ho, ho'] at L
      simp only [if_true] at L
      exact ⟨rfl, List.append_cancel_left (List.append_cancel_right L)⟩
  obtain ⟨c1, c2⟩ := core
  obtain ⟨s1, s2⟩ := split_one _ _ _ _ (base_plain hB g) (base_plain hB' g') (all_head _ _) (all_head _ _) c2
  obtain ⟨b1, b2⟩ := base_inj hB hB' hN hN' g g' s1
  obtain ⟨q1, q2⟩ := all_inj _ _ _ _ s2
  have hd : d = d' := by
    have := congrArg List.length q2
    unfold bitsM at this
    simpa using this
  subst hd
  refine ⟨b1, b2, rfl, ext_by M M' (by omega) (fun k hk => ?_)⟩
  have hbit : bitM M k = bitM M' k := by
    cases k with
    | zero => exact q1
    | succ k =>
      have hk2 : k < d := by omega
      have e1 : (bitsM M d)[k]? = some (bitM M (k + 1)) := by unfold bitsM; rw [List.getElem?_map, List.getElem?_range hk2]; rfl
      have e2 : (bitsM M' d)[k]? = some (bitM M' (k + 1)) := by unfold bitsM; rw [List.getElem?_map, List.getElem?_range hk2]; rfl
      rw [q2, e2] at e1
      exact (Option.some.inj e1).symm
  unfold bitM at hbit
  unfold isO at c1
  by_cases hkd : k = d
  · subst hkd
    by_cases ho : byS M k = 111
    · rw [decide_eq_true ho] at c1
      rw [ho, of_decide_eq_true c1.symm]
    · rw [decide_eq_false ho] at c1
      have := of_decide_eq_false c1.symm
      by_cases h63 : byS M k = 63
      · rw [decide_eq_true h63] at hbit; rw [h63, of_decide_eq_true hbit.symm]
      · rw [decide_eq_false h63] at hbit
        have := of_decide_eq_false hbit.symm
        omega
  · have a1 := hi k (by omega)
    have a2 := hi' k (by omega)
    by_cases h63 : byS M k = 63
    · rw [decide_eq_true h63] at hbit; rw [h63, of_decide_eq_true hbit.symm]
    · rw [decide_eq_false h63] at hbit
      have := of_decide_eq_false hbit.symm
      omega
end Go.Proofs.YtfalgnapghienaaGreatDoor
namespace Go.Proofs.YtfalgnapghienaaGreatDoor
open Go Go.RowKit
set_option linter.unusedVariables false
set_option linter.unusedSimpArgs false

theorem right_bounds {B : Int} {N : ByteArray} {D : Int} {M : ByteArray} (h : rightB B N D M = true) : ∃ d : Nat, D = d ∧ d ≤ 4 ∧ M.size = d + 1 := by
  unfold rightB marksB at h
  simp only [Bool.and_eq_true, decide_eq_true_iff] at h
  obtain ⟨⟨⟨h1, h2⟩, h3⟩, ⟨⟨h4, h5⟩, h6⟩, h7⟩ := h
  exact ⟨D.toNat, by omega, by omega, h4⟩
/-- a type's box, and that all else is kept -/
structure TyS (w0 : World) (p : Nat) (B : Int) (N : ByteArray) (D : Int) (M : ByteArray) (w : World) : Prop where
  at_ : TyAt w p B N D M
  bel : Below w0.heap.size w0 w
theorem TyS.new (w : World) (B : Int) (N : ByteArray) (D : Int) (M : ByteArray) (T : TypeId) : TyS w w.heap.size B N D M (w.alloc (.cells #[.int .i64 B, .string N, .int .i64 D, .string M] T)) :=
  ⟨TyAt.new w B N D M T, (Below.refl _ _).alloc (Nat.le_refl _) _⟩
theorem TyS.keep {w0 w w1 : World} {p : Nat} {B : Int} {N : ByteArray} {D : Int} {M : ByteArray} (h : TyS w0 p B N D M w) (hb : Below w.heap.size w w1) : TyS w0 p B N D M w1 := ⟨h.1.keep hb, after h.2 hb⟩
theorem TyS.drew {w0 w : World} {p : Nat} {B : Int} {N : ByteArray} {D : Int} {M : ByteArray} (h : TyS w0 p B N D M w) : TyS w0 p B N D M w.drew := h.keep ((Below.refl _ _).drew)
theorem TyS.all {w0 w : World} {p : Nat} {B : Int} {N : ByteArray} {D : Int} {M : ByteArray} (h : TyS w0 p B N D M w) : w.cell? ⟨p, 0, none⟩ = some (.int .i64 B) ∧ w.cell? ⟨p, 1, none⟩ = some (.string N) ∧ w.cell? ⟨p, 2, none⟩ = some (.int .i64 D) ∧ w.cell? ⟨p, 3, none⟩ = some (.string M) ∧ TyS w0 p B N D M w :=
  ⟨h.1.2.1, h.1.2.2.1, h.1.2.2.2.1, h.1.2.2.2.2.1, h⟩

/-- are the marks below a layer ones that may be there? -/
def okAt (B : Int) (d : Nat) (M : ByteArray) (i : Nat) : Prop := (byS M i = 32 ∨ byS M i = 63 ∨ byS M i = 111) ∧ (byS M i = 32 ∨ i ≠ 0 ∨ B = 5) ∧ (byS M i = 111 → d ≤ i)
instance (B : Int) (d : Nat) (M : ByteArray) (i : Nat) : Decidable (okAt B d M i) := by unfold okAt; exact inferInstance
def okTo (B : Int) (d : Nat) (M : ByteArray) (k : Nat) : Bool := decide (∀ i, i < k → okAt B d M i)
theorem okTo_next {B : Int} {d : Nat} {M : ByteArray} {k : Nat} (h : okTo B d M k = true) : okTo B d M (k + 1) = decide (okAt B d M k) := by
  unfold okTo at h ⊢
  rw [decide_eq_true_iff] at h
  rw [Bool.eq_iff_iff, decide_eq_true_iff, decide_eq_true_iff]
  constructor
  · intro g; exact g k (by omega)
  · intro g i hi
    by_cases hik : i = k
    · rw [hik]; exact g
    · exact h i (by omega)
theorem okTo_stop {B : Int} {d : Nat} {M : ByteArray} {k n : Nat} (h : ¬ okAt B d M k) (hk : k < n) : okTo B d M n = false := by
  unfold okTo
  rw [decide_eq_false_iff_not]
  intro g; exact h (g k hk)
theorem ok_marks (B : Int) (d : Nat) (M : ByteArray) (hm : M.size = d + 1) : okTo B d M (d + 1) = marksB B d M := by
  unfold okTo marksB innerM lastM okAt
  rw [Bool.eq_iff_iff]
  simp only [decide_eq_true_iff, Bool.and_eq_true, Bool.or_eq_true]
  constructor
  · intro h
    refine ⟨⟨⟨hm, ?_⟩, ?_⟩, ?_⟩
    · have := h 0 (by omega); omega
    · intro i hi; have := h i (by omega); omega
    · have := h d (by omega); omega
  · rintro ⟨⟨⟨-, h1⟩, h2⟩, h3⟩ i hi
    by_cases hid : i = d
    · subst hid
      refine ⟨h3, ?_, fun _ => Nat.le_refl _⟩
      by_cases h0 : i = 0
      · subst h0; omega
      · omega
    · have := h2 i (by omega)
      refine ⟨by omega, ?_, by omega⟩
      by_cases h0 : i = 0
      · subst h0; omega
      · omega

set_option maxHeartbeats 8000000 in
/-- the loop, from its start on -/
theorem refR_in (B : Int) (N : ByteArray) (d : Nat) (M : ByteArray) (w : World) (hM : M.size ≤ 60) (hd : d ≤ 4) (hm : M.size = d + 1) (hB : 1 ≤ B ∧ B ≤ 6) (hN : B = 5 ↔ N.size ≠ 0) (h6 : B = 6 → d = 0) :
    Calls Tryz.prog 31 #[.agg #[.int .i64 B, .string N, .int .i64 (d : Int), .string M]] w fun e w' => e = .returned (.bool (marksB B d M)) ∧ Below w.heap.size w w' := by
  have E := Lib.hid (ok_marks B d M hm).symm
  have HM := Lib.hid hm
  have e1 : (M.size : Int) = (d : Int) + 1 := by omega
  have z1 : decide ((d : Int) < 0) = false := decide_eq_false (by omega)
  have z2 : decide ((4 : Int) < (d : Int)) = false := decide_eq_false (by omega)
  have z3 : IntKind.i64.wrap ((d : Int) + 1 - 1) = (d : Int) := by rw [show (d : Int) + 1 - 1 = (d : Int) by omega]; exact IntWalk.i64_in _ ⟨by omega, by omega⟩
  have z4 : decide (B < 1) = false := decide_eq_false (by omega)
  have z5 : decide (6 < B) = false := decide_eq_false (by omega)
  by_cases h5 : B = 5
  · obtain ⟨n1, n2⟩ := tl_ne N (hN.1 h5)
    have g5 : (B == 5) = true := by simpa using h5
    have g5' : (B != 5) = false := by simp [h5]
    have g6 : (B == 6) = false := by rw [h5]; rfl
    have H5 := Lib.hid h5
    clear hN hm h5 h6 hB
    go_enter Tryz.func31, Tryz.ntmps31
    go_wp2_with fail
    go_loopw [3] (fun i wr => ∃ k : Nat, k ≤ d + 1 ∧ i = .int .i64 k ∧ okTo B d M k = true ∧ wr = w.alloc (.cells #[.int .i64 B, .string N, .int .i64 (d : Int), .string M] 44)) (fun i _ => d + 1 - (intOf i).toNat)
    case atStart => exact ⟨0, Nat.zero_le _, rfl, by simp [okTo], rfl⟩
    case round =>
      obtain ⟨k, hk, rfl, hf, rfl⟩ := hrel
      by_cases hlt : k < d + 1
      · have HF := Lib.hid hf
        have hkm : k < M.size := by have := HM.out; omega
        have C := Lib.hid (byS_get M k hkm)
        have hkd : decide ((k : Int) < (d : Int)) = decide (k < d) := by simp
        clear hf
        by_cases h32 : M[k].toNat = 32
        · have HOK := Lib.hid (show okAt B d M k by unfold okAt; rw [C.out, h32]; omega)
          have r1 : ((M[k].toNat : Int) != 32) = false := by rw [h32]; rfl
          have r2 : ((M[k].toNat : Int) == 111) = false := by rw [h32]; rfl
          clear h32
          have HG := Lib.hid (show okTo B d M (k + 1) = true by rw [okTo_next HF.out, decide_eq_true_iff]; exact HOK.out)
          by_cases hk0 : k = 0
          · subst hk0
            go_wp2_with fail
            go_roundw
            case rel => exact ⟨1, by omega, rfl, HG.out, by trivial⟩
            case measure => simp [intOf]
          · have q0 : ((k : Int) == 0) = false := by simp; omega
            clear hk0
            go_wp2_with fail
            go_roundw
            case rel => exact ⟨k + 1, by omega, by go_num, HG.out, by trivial⟩
            case measure => simp [intOf]; omega
        · by_cases h63 : M[k].toNat = 63
          · have HOK := Lib.hid (show okAt B d M k by unfold okAt; rw [C.out, h63]; have := H5.out; omega)
            have r1 : ((M[k].toNat : Int) != 32) = true := by rw [h63]; rfl
            have r2 : ((M[k].toNat : Int) == 111) = false := by rw [h63]; rfl
            have r3 : ((M[k].toNat : Int) != 63) = false := by rw [h63]; rfl
            clear h32 h63
            have HG := Lib.hid (show okTo B d M (k + 1) = true by rw [okTo_next HF.out, decide_eq_true_iff]; exact HOK.out)
            by_cases hk0 : k = 0
            · subst hk0
              go_wp2_with fail
              go_roundw
              case rel => exact ⟨1, by omega, rfl, HG.out, by trivial⟩
              case measure => simp [intOf]
            · have q0 : ((k : Int) == 0) = false := by simp; omega
              clear hk0
              go_wp2_with fail
              go_roundw
              case rel => exact ⟨k + 1, by omega, by go_num, HG.out, by trivial⟩
              case measure => simp [intOf]; omega
          · by_cases h111 : M[k].toNat = 111
            · have r1 : ((M[k].toNat : Int) != 32) = true := by rw [h111]; rfl
              have r2 : ((M[k].toNat : Int) == 111) = true := by rw [h111]; rfl
              have r3 : ((M[k].toNat : Int) != 63) = true := by rw [h111]; rfl
              have r4 : ((M[k].toNat : Int) != 111) = false := by rw [h111]; rfl
              by_cases hkd2 : k < d
              · have HNO := Lib.hid (show ¬ okAt B d M k by unfold okAt; rw [C.out, h111]; omega)
                have r5 : decide ((k : Int) < (d : Int)) = true := decide_eq_true (by omega)
                clear h32 h63 h111 hkd
                by_cases hk0 : k = 0
                · subst hk0
                  go_wp2_with fail
                  go_ret
                  exact ⟨ret_bo (by rw [E.out]; exact (okTo_stop HNO.out hlt).symm), by repeat (first | exact Below.refl _ _ | apply Below.setCell _ (by first | omega | (simp <;> omega)) | apply Below.alloc _ (by first | omega | (simp <;> omega)))⟩
                · have q0 : ((k : Int) == 0) = false := by simp; omega
                  clear hk0
                  go_wp2_with fail
                  go_ret
                  exact ⟨ret_bo (by rw [E.out]; exact (okTo_stop HNO.out hlt).symm), by repeat (first | exact Below.refl _ _ | apply Below.setCell _ (by first | omega | (simp <;> omega)) | apply Below.alloc _ (by first | omega | (simp <;> omega)))⟩
              · have HOK := Lib.hid (show okAt B d M k by unfold okAt; rw [C.out, h111]; have := H5.out; omega)
                have r5 : decide ((k : Int) < (d : Int)) = false := decide_eq_false (by omega)
                clear h32 h63 h111 hkd
                have HG := Lib.hid (show okTo B d M (k + 1) = true by rw [okTo_next HF.out, decide_eq_true_iff]; exact HOK.out)
                by_cases hk0 : k = 0
                · subst hk0
                  go_wp2_with fail
                  go_roundw
                  case rel => exact ⟨1, by omega, rfl, HG.out, by trivial⟩
                  case measure => simp [intOf]
                · have q0 : ((k : Int) == 0) = false := by simp; omega
                  clear hk0
                  go_wp2_with fail
                  go_roundw
                  case rel => exact ⟨k + 1, by omega, by go_num, HG.out, by trivial⟩
                  case measure => simp [intOf]; omega
            · have HNO := Lib.hid (show ¬ okAt B d M k by unfold okAt; rw [C.out]; omega)
              have r1 : ((M[k].toNat : Int) != 32) = true := by simp; omega
              have r3 : ((M[k].toNat : Int) != 63) = true := by simp; omega
              have r4 : ((M[k].toNat : Int) != 111) = true := by simp; omega
              clear h32 h63 h111
              by_cases hk0 : k = 0
              · subst hk0
                go_wp2_with fail
                go_ret
                exact ⟨ret_bo (by rw [E.out]; exact (okTo_stop HNO.out hlt).symm), by repeat (first | exact Below.refl _ _ | apply Below.setCell _ (by first | omega | (simp <;> omega)) | apply Below.alloc _ (by first | omega | (simp <;> omega)))⟩
              · have q0 : ((k : Int) == 0) = false := by simp; omega
                clear hk0
                go_wp2_with fail
                go_ret
                exact ⟨ret_bo (by rw [E.out]; exact (okTo_stop HNO.out hlt).symm), by repeat (first | exact Below.refl _ _ | apply Below.setCell _ (by first | omega | (simp <;> omega)) | apply Below.alloc _ (by first | omega | (simp <;> omega)))⟩
      · have hk' : k = d + 1 := by omega
        subst hk'
        go_wp2_with fail
        go_ret
        exact ⟨ret_bo (by rw [E.out]; exact hf.symm), by repeat (first | exact Below.refl _ _ | apply Below.setCell _ (by first | omega | (simp <;> omega)) | apply Below.alloc _ (by first | omega | (simp <;> omega)))⟩
  · have n1 : N.toList = [] := (tl_nil N).2 (by apply Classical.byContradiction; intro h; exact h5 (hN.2 h))
    have n2 : (N.toList == []) = true := by rw [n1]; rfl
    have g5 : (B == 5) = false := by simpa using h5
    have g5' : (B != 5) = true := by simpa using h5
    have H5 := Lib.hid h5
    by_cases hb6 : B = 6
    · have z6 : decide ((0 : Int) < (d : Int)) = false := decide_eq_false (by have := h6 hb6; omega)
      have z7 : decide (0 < d) = false := decide_eq_false (by have := h6 hb6; omega)
      have g6 : (B == 6) = true := by simpa using hb6
      clear hN hm h5 h6 hB hb6
      go_enter Tryz.func31, Tryz.ntmps31
      go_wp2_with fail
      go_loopw [3] (fun i wr => ∃ k : Nat, k ≤ d + 1 ∧ i = .int .i64 k ∧ okTo B d M k = true ∧ wr = w.alloc (.cells #[.int .i64 B, .string N, .int .i64 (d : Int), .string M] 44)) (fun i _ => d + 1 - (intOf i).toNat)
      case atStart => exact ⟨0, Nat.zero_le _, rfl, by simp [okTo], rfl⟩
      case round =>
        obtain ⟨k, hk, rfl, hf, rfl⟩ := hrel
        by_cases hlt : k < d + 1
        · have HF := Lib.hid hf
          have hkm : k < M.size := by have := HM.out; omega
          have C := Lib.hid (byS_get M k hkm)
          have hkd : decide ((k : Int) < (d : Int)) = decide (k < d) := by simp
          clear hf
          by_cases h32 : M[k].toNat = 32
          · have HOK := Lib.hid (show okAt B d M k by unfold okAt; rw [C.out, h32]; omega)
            have r1 : ((M[k].toNat : Int) != 32) = false := by rw [h32]; rfl
            have r2 : ((M[k].toNat : Int) == 111) = false := by rw [h32]; rfl
            clear h32
            have HG := Lib.hid (show okTo B d M (k + 1) = true by rw [okTo_next HF.out, decide_eq_true_iff]; exact HOK.out)
            by_cases hk0 : k = 0
            · subst hk0
              go_wp2_with fail
              go_roundw
              case rel => exact ⟨1, by omega, rfl, HG.out, by trivial⟩
              case measure => simp [intOf]
            · have q0 : ((k : Int) == 0) = false := by simp; omega
              clear hk0
              go_wp2_with fail
              go_roundw
              case rel => exact ⟨k + 1, by omega, by go_num, HG.out, by trivial⟩
              case measure => simp [intOf]; omega
          · by_cases h63 : M[k].toNat = 63
            · have r1 : ((M[k].toNat : Int) != 32) = true := by rw [h63]; rfl
              have r2 : ((M[k].toNat : Int) == 111) = false := by rw [h63]; rfl
              have r3 : ((M[k].toNat : Int) != 63) = false := by rw [h63]; rfl
              by_cases hz : k = 0
              · have HNO := Lib.hid (show ¬ okAt B d M k by unfold okAt; rw [C.out, h63]; have := H5.out; omega)
                clear h32 h63
                subst hz
                go_wp2_with fail
                go_ret
                exact ⟨ret_bo (by rw [E.out]; exact (okTo_stop HNO.out hlt).symm), by repeat (first | exact Below.refl _ _ | apply Below.setCell _ (by first | omega | (simp <;> omega)) | apply Below.alloc _ (by first | omega | (simp <;> omega)))⟩
              · have HOK := Lib.hid (show okAt B d M k by unfold okAt; rw [C.out, h63]; omega)
                clear h32 h63
                have HG := Lib.hid (show okTo B d M (k + 1) = true by rw [okTo_next HF.out, decide_eq_true_iff]; exact HOK.out)
                have q0 : ((k : Int) == 0) = false := by simp; omega
                clear hz
                go_wp2_with fail
                go_roundw
                case rel => exact ⟨k + 1, by omega, by go_num, HG.out, by trivial⟩
                case measure => simp [intOf]; omega
            · by_cases h111 : M[k].toNat = 111
              · have r1 : ((M[k].toNat : Int) != 32) = true := by rw [h111]; rfl
                have r2 : ((M[k].toNat : Int) == 111) = true := by rw [h111]; rfl
                have r3 : ((M[k].toNat : Int) != 63) = true := by rw [h111]; rfl
                have r4 : ((M[k].toNat : Int) != 111) = false := by rw [h111]; rfl
                by_cases hkd2 : k < d
                · have HNO := Lib.hid (show ¬ okAt B d M k by unfold okAt; rw [C.out, h111]; omega)
                  have r5 : decide ((k : Int) < (d : Int)) = true := decide_eq_true (by omega)
                  clear h32 h63 h111 hkd
                  by_cases hk0 : k = 0
                  · subst hk0
                    go_wp2_with fail
                    go_ret
                    exact ⟨ret_bo (by rw [E.out]; exact (okTo_stop HNO.out hlt).symm), by repeat (first | exact Below.refl _ _ | apply Below.setCell _ (by first | omega | (simp <;> omega)) | apply Below.alloc _ (by first | omega | (simp <;> omega)))⟩
                  · have q0 : ((k : Int) == 0) = false := by simp; omega
                    clear hk0
                    go_wp2_with fail
                    go_ret
                    exact ⟨ret_bo (by rw [E.out]; exact (okTo_stop HNO.out hlt).symm), by repeat (first | exact Below.refl _ _ | apply Below.setCell _ (by first | omega | (simp <;> omega)) | apply Below.alloc _ (by first | omega | (simp <;> omega)))⟩
                · have r5 : decide ((k : Int) < (d : Int)) = false := decide_eq_false (by omega)
                  by_cases hz : k = 0
                  · have HNO := Lib.hid (show ¬ okAt B d M k by unfold okAt; rw [C.out, h111]; have := H5.out; omega)
                    clear h32 h63 h111 hkd
                    subst hz
                    go_wp2_with fail
                    go_ret
                    exact ⟨ret_bo (by rw [E.out]; exact (okTo_stop HNO.out hlt).symm), by repeat (first | exact Below.refl _ _ | apply Below.setCell _ (by first | omega | (simp <;> omega)) | apply Below.alloc _ (by first | omega | (simp <;> omega)))⟩
                  · have HOK := Lib.hid (show okAt B d M k by unfold okAt; rw [C.out, h111]; omega)
                    clear h32 h63 h111 hkd
                    have HG := Lib.hid (show okTo B d M (k + 1) = true by rw [okTo_next HF.out, decide_eq_true_iff]; exact HOK.out)
                    have q0 : ((k : Int) == 0) = false := by simp; omega
                    clear hz
                    go_wp2_with fail
                    go_roundw
                    case rel => exact ⟨k + 1, by omega, by go_num, HG.out, by trivial⟩
                    case measure => simp [intOf]; omega
              · have HNO := Lib.hid (show ¬ okAt B d M k by unfold okAt; rw [C.out]; omega)
                have r1 : ((M[k].toNat : Int) != 32) = true := by simp; omega
                have r3 : ((M[k].toNat : Int) != 63) = true := by simp; omega
                have r4 : ((M[k].toNat : Int) != 111) = true := by simp; omega
                clear h32 h63 h111
                by_cases hk0 : k = 0
                · subst hk0
                  go_wp2_with fail
                  go_ret
                  exact ⟨ret_bo (by rw [E.out]; exact (okTo_stop HNO.out hlt).symm), by repeat (first | exact Below.refl _ _ | apply Below.setCell _ (by first | omega | (simp <;> omega)) | apply Below.alloc _ (by first | omega | (simp <;> omega)))⟩
                · have q0 : ((k : Int) == 0) = false := by simp; omega
                  clear hk0
                  go_wp2_with fail
                  go_ret
                  exact ⟨ret_bo (by rw [E.out]; exact (okTo_stop HNO.out hlt).symm), by repeat (first | exact Below.refl _ _ | apply Below.setCell _ (by first | omega | (simp <;> omega)) | apply Below.alloc _ (by first | omega | (simp <;> omega)))⟩
        · have hk' : k = d + 1 := by omega
          subst hk'
          go_wp2_with fail
          go_ret
          exact ⟨ret_bo (by rw [E.out]; exact hf.symm), by repeat (first | exact Below.refl _ _ | apply Below.setCell _ (by first | omega | (simp <;> omega)) | apply Below.alloc _ (by first | omega | (simp <;> omega)))⟩
    · have g6 : (B == 6) = false := by simpa using hb6
      clear hN hm h5 h6 hB hb6
      go_enter Tryz.func31, Tryz.ntmps31
      go_wp2_with fail
      go_loopw [3] (fun i wr => ∃ k : Nat, k ≤ d + 1 ∧ i = .int .i64 k ∧ okTo B d M k = true ∧ wr = w.alloc (.cells #[.int .i64 B, .string N, .int .i64 (d : Int), .string M] 44)) (fun i _ => d + 1 - (intOf i).toNat)
      case atStart => exact ⟨0, Nat.zero_le _, rfl, by simp [okTo], rfl⟩
      case round =>
        obtain ⟨k, hk, rfl, hf, rfl⟩ := hrel
        by_cases hlt : k < d + 1
        · have HF := Lib.hid hf
          have hkm : k < M.size := by have := HM.out; omega
          have C := Lib.hid (byS_get M k hkm)
          have hkd : decide ((k : Int) < (d : Int)) = decide (k < d) := by simp
          clear hf
          by_cases h32 : M[k].toNat = 32
          · have HOK := Lib.hid (show okAt B d M k by unfold okAt; rw [C.out, h32]; omega)
            have r1 : ((M[k].toNat : Int) != 32) = false := by rw [h32]; rfl
            have r2 : ((M[k].toNat : Int) == 111) = false := by rw [h32]; rfl
            clear h32
            have HG := Lib.hid (show okTo B d M (k + 1) = true by rw [okTo_next HF.out, decide_eq_true_iff]; exact HOK.out)
            by_cases hk0 : k = 0
            · subst hk0
              go_wp2_with fail
              go_roundw
              case rel => exact ⟨1, by omega, rfl, HG.out, by trivial⟩
              case measure => simp [intOf]
            · have q0 : ((k : Int) == 0) = false := by simp; omega
              clear hk0
              go_wp2_with fail
              go_roundw
              case rel => exact ⟨k + 1, by omega, by go_num, HG.out, by trivial⟩
              case measure => simp [intOf]; omega
          · by_cases h63 : M[k].toNat = 63
            · have r1 : ((M[k].toNat : Int) != 32) = true := by rw [h63]; rfl
              have r2 : ((M[k].toNat : Int) == 111) = false := by rw [h63]; rfl
              have r3 : ((M[k].toNat : Int) != 63) = false := by rw [h63]; rfl
              by_cases hz : k = 0
              · have HNO := Lib.hid (show ¬ okAt B d M k by unfold okAt; rw [C.out, h63]; have := H5.out; omega)
                clear h32 h63
                subst hz
                go_wp2_with fail
                go_ret
                exact ⟨ret_bo (by rw [E.out]; exact (okTo_stop HNO.out hlt).symm), by repeat (first | exact Below.refl _ _ | apply Below.setCell _ (by first | omega | (simp <;> omega)) | apply Below.alloc _ (by first | omega | (simp <;> omega)))⟩
              · have HOK := Lib.hid (show okAt B d M k by unfold okAt; rw [C.out, h63]; omega)
                clear h32 h63
                have HG := Lib.hid (show okTo B d M (k + 1) = true by rw [okTo_next HF.out, decide_eq_true_iff]; exact HOK.out)
                have q0 : ((k : Int) == 0) = false := by simp; omega
                clear hz
                go_wp2_with fail
                go_roundw
                case rel => exact ⟨k + 1, by omega, by go_num, HG.out, by trivial⟩
                case measure => simp [intOf]; omega
            · by_cases h111 : M[k].toNat = 111
              · have r1 : ((M[k].toNat : Int) != 32) = true := by rw [h111]; rfl
                have r2 : ((M[k].toNat : Int) == 111) = true := by rw [h111]; rfl
                have r3 : ((M[k].toNat : Int) != 63) = true := by rw [h111]; rfl
                have r4 : ((M[k].toNat : Int) != 111) = false := by rw [h111]; rfl
                by_cases hkd2 : k < d
                · have HNO := Lib.hid (show ¬ okAt B d M k by unfold okAt; rw [C.out, h111]; omega)
                  have r5 : decide ((k : Int) < (d : Int)) = true := decide_eq_true (by omega)
                  clear h32 h63 h111 hkd
                  by_cases hk0 : k = 0
                  · subst hk0
                    go_wp2_with fail
                    go_ret
                    exact ⟨ret_bo (by rw [E.out]; exact (okTo_stop HNO.out hlt).symm), by repeat (first | exact Below.refl _ _ | apply Below.setCell _ (by first | omega | (simp <;> omega)) | apply Below.alloc _ (by first | omega | (simp <;> omega)))⟩
                  · have q0 : ((k : Int) == 0) = false := by simp; omega
                    clear hk0
                    go_wp2_with fail
                    go_ret
                    exact ⟨ret_bo (by rw [E.out]; exact (okTo_stop HNO.out hlt).symm), by repeat (first | exact Below.refl _ _ | apply Below.setCell _ (by first | omega | (simp <;> omega)) | apply Below.alloc _ (by first | omega | (simp <;> omega)))⟩
                · have r5 : decide ((k : Int) < (d : Int)) = false := decide_eq_false (by omega)
                  by_cases hz : k = 0
                  · have HNO := Lib.hid (show ¬ okAt B d M k by unfold okAt; rw [C.out, h111]; have := H5.out; omega)
                    clear h32 h63 h111 hkd
                    subst hz
                    go_wp2_with fail
                    go_ret
                    exact ⟨ret_bo (by rw [E.out]; exact (okTo_stop HNO.out hlt).symm), by repeat (first | exact Below.refl _ _ | apply Below.setCell _ (by first | omega | (simp <;> omega)) | apply Below.alloc _ (by first | omega | (simp <;> omega)))⟩
                  · have HOK := Lib.hid (show okAt B d M k by unfold okAt; rw [C.out, h111]; omega)
                    clear h32 h63 h111 hkd
                    have HG := Lib.hid (show okTo B d M (k + 1) = true by rw [okTo_next HF.out, decide_eq_true_iff]; exact HOK.out)
                    have q0 : ((k : Int) == 0) = false := by simp; omega
                    clear hz
                    go_wp2_with fail
                    go_roundw
                    case rel => exact ⟨k + 1, by omega, by go_num, HG.out, by trivial⟩
                    case measure => simp [intOf]; omega
              · have HNO := Lib.hid (show ¬ okAt B d M k by unfold okAt; rw [C.out]; omega)
                have r1 : ((M[k].toNat : Int) != 32) = true := by simp; omega
                have r3 : ((M[k].toNat : Int) != 63) = true := by simp; omega
                have r4 : ((M[k].toNat : Int) != 111) = true := by simp; omega
                clear h32 h63 h111
                by_cases hk0 : k = 0
                · subst hk0
                  go_wp2_with fail
                  go_ret
                  exact ⟨ret_bo (by rw [E.out]; exact (okTo_stop HNO.out hlt).symm), by repeat (first | exact Below.refl _ _ | apply Below.setCell _ (by first | omega | (simp <;> omega)) | apply Below.alloc _ (by first | omega | (simp <;> omega)))⟩
                · have q0 : ((k : Int) == 0) = false := by simp; omega
                  clear hk0
                  go_wp2_with fail
                  go_ret
                  exact ⟨ret_bo (by rw [E.out]; exact (okTo_stop HNO.out hlt).symm), by repeat (first | exact Below.refl _ _ | apply Below.setCell _ (by first | omega | (simp <;> omega)) | apply Below.alloc _ (by first | omega | (simp <;> omega)))⟩
        · have hk' : k = d + 1 := by omega
          subst hk'
          go_wp2_with fail
          go_ret
          exact ⟨ret_bo (by rw [E.out]; exact hf.symm), by repeat (first | exact Below.refl _ _ | apply Below.setCell _ (by first | omega | (simp <;> omega)) | apply Below.alloc _ (by first | omega | (simp <;> omega)))⟩
theorem rightB_no4 {B : Int} {N : ByteArray} {D : Int} {M : ByteArray} (h : ¬ (M.size : Int) - 1 = D) : rightB B N D M = false := by
  cases hr : rightB B N D M
  · rfl
  · obtain ⟨d, hd, -, hm⟩ := right_bounds hr
    omega
set_option maxHeartbeats 4000000 in
theorem refR_any (B : Int) (N : ByteArray) (D : Int) (M : ByteArray) (w : World) (hM : M.size ≤ 60) :
    Calls Tryz.prog 31 #[.agg #[.int .i64 B, .string N, .int .i64 D, .string M]] w fun e w' => e = .returned (.bool (rightB B N D M)) ∧ Below w.heap.size w w' := by
  have z3 : IntKind.i64.wrap ((M.size : Int) - 1) = (M.size : Int) - 1 := IntWalk.i64_in _ ⟨by omega, by omega⟩
  by_cases h0 : D < 0
  · have E := Lib.hid (rightB_no3 (B := B) (N := N) (D := D) (M := M) (by omega))
    have q1 : decide (D < 0) = true := decide_eq_true h0
    clear h0
    go_enter Tryz.func31, Tryz.ntmps31
    go_wp2_with fail
    all_goals go_ret
    all_goals exact ⟨ret_bo E.out.symm, by repeat (first | exact Below.refl _ _ | apply Below.setCell _ (by first | omega | (simp <;> omega)) | apply Below.alloc _ (by first | omega | (simp <;> omega)))⟩
  · have q1 : decide (D < 0) = false := decide_eq_false h0
    by_cases h1 : 4 < D
    · have E := Lib.hid (rightB_no3 (B := B) (N := N) (D := D) (M := M) (by omega))
      have q2 : decide (4 < D) = true := decide_eq_true h1
      clear h0 h1
      go_enter Tryz.func31, Tryz.ntmps31
      go_wp2_with fail
      all_goals go_ret
      all_goals exact ⟨ret_bo E.out.symm, by repeat (first | exact Below.refl _ _ | apply Below.setCell _ (by first | omega | (simp <;> omega)) | apply Below.alloc _ (by first | omega | (simp <;> omega)))⟩
    · have q2 : decide (4 < D) = false := decide_eq_false h1
      by_cases h2 : (M.size : Int) - 1 = D
      · by_cases h3 : B < 1
        · have E := Lib.hid (rightB_no1 (B := B) (N := N) (D := D) (M := M) (by omega))
          have q4 : decide (B < 1) = true := decide_eq_true h3
          have q3 : ((M.size : Int) - 1 != D) = false := by simpa using h2
          clear h0 h1 h2 h3
          go_enter Tryz.func31, Tryz.ntmps31
          go_wp2_with fail
          all_goals go_ret
          all_goals exact ⟨ret_bo E.out.symm, by repeat (first | exact Below.refl _ _ | apply Below.setCell _ (by first | omega | (simp <;> omega)) | apply Below.alloc _ (by first | omega | (simp <;> omega)))⟩
        · have q4 : decide (B < 1) = false := decide_eq_false h3
          by_cases h4 : 6 < B
          · have E := Lib.hid (rightB_no1 (B := B) (N := N) (D := D) (M := M) (by omega))
            have q5 : decide (6 < B) = true := decide_eq_true h4
            have q3 : ((M.size : Int) - 1 != D) = false := by simpa using h2
            clear h0 h1 h2 h3 h4
            go_enter Tryz.func31, Tryz.ntmps31
            go_wp2_with fail
            all_goals go_ret
            all_goals exact ⟨ret_bo E.out.symm, by repeat (first | exact Below.refl _ _ | apply Below.setCell _ (by first | omega | (simp <;> omega)) | apply Below.alloc _ (by first | omega | (simp <;> omega)))⟩
          · have q5 : decide (6 < B) = false := decide_eq_false h4
            by_cases hN : B = 5 ↔ N.size ≠ 0
            · by_cases h6 : B = 6 → D = 0
              · obtain ⟨d, rfl⟩ : ∃ d : Nat, D = d := ⟨D.toNat, by omega⟩
                rw [rightB_yes (M := M) ⟨by omega, by omega⟩ hN ⟨by omega, by omega, h6⟩, Int.toNat_natCast]
                exact refR_in B N d M w hM (by omega) (by omega) ⟨by omega, by omega⟩ hN (fun h => by have := h6 h; omega)
              · have E := Lib.hid (rightB_no3 (B := B) (N := N) (D := D) (M := M) (fun h => h6 h.2.2))
                have q3 : ((M.size : Int) - 1 != D) = false := by simpa using h2
                have hb6 : B = 6 := Classical.byContradiction fun h => h6 fun g => absurd g h
                have hd0 : 0 < D := by omega
                have n1 : N.toList = [] := (tl_nil N).2 (by apply Classical.byContradiction; intro h; have := hN.2 h; omega)
                have n2 : (N.toList == []) = true := by rw [n1]; rfl
                have g5 : (B == 5) = false := by rw [hb6]; rfl
                have g5' : (B != 5) = true := by rw [hb6]; rfl
                have g6 : (B == 6) = true := by rw [hb6]; rfl
                have z6 : decide (0 < D) = true := decide_eq_true hd0
                clear h0 h1 h2 h3 h4 hN h6 hb6 hd0
                go_enter Tryz.func31, Tryz.ntmps31
                go_wp2_with fail
                all_goals go_ret
                all_goals exact ⟨ret_bo E.out.symm, by repeat (first | exact Below.refl _ _ | apply Below.setCell _ (by first | omega | (simp <;> omega)) | apply Below.alloc _ (by first | omega | (simp <;> omega)))⟩
            · have E := Lib.hid (rightB_no2 (B := B) (N := N) (D := D) (M := M) hN)
              have q3 : ((M.size : Int) - 1 != D) = false := by simpa using h2
              by_cases h5 : B = 5
              · have n1 : N.toList = [] := (tl_nil N).2 (by apply Classical.byContradiction; intro h; exact hN ⟨fun _ => h, fun _ => h5⟩)
                have n2 : (N.toList == []) = true := by rw [n1]; rfl
                have g5 : (B == 5) = true := by simpa using h5
                clear h0 h1 h2 h3 h4 hN h5
                go_enter Tryz.func31, Tryz.ntmps31
                go_wp2_with fail
                all_goals go_ret
                all_goals exact ⟨ret_bo E.out.symm, by repeat (first | exact Below.refl _ _ | apply Below.setCell _ (by first | omega | (simp <;> omega)) | apply Below.alloc _ (by first | omega | (simp <;> omega)))⟩
              · obtain ⟨n1, n2⟩ := tl_ne N (by intro h; exact hN ⟨fun h' => absurd h' h5, fun h' => absurd h h'⟩)
                have g5 : (B == 5) = false := by simpa using h5
                have g5' : (B != 5) = true := by simpa using h5
                clear h0 h1 h2 h3 h4 hN h5
                go_enter Tryz.func31, Tryz.ntmps31
                go_wp2_with fail
                all_goals go_ret
                all_goals exact ⟨ret_bo E.out.symm, by repeat (first | exact Below.refl _ _ | apply Below.setCell _ (by first | omega | (simp <;> omega)) | apply Below.alloc _ (by first | omega | (simp <;> omega)))⟩
      · have E := Lib.hid (rightB_no4 (B := B) (N := N) (D := D) (M := M) h2)
        have q3 : ((M.size : Int) - 1 != D) = true := by simpa using h2
        clear h0 h1 h2
        go_enter Tryz.func31, Tryz.ntmps31
        go_wp2_with fail
        all_goals go_ret
        all_goals exact ⟨ret_bo E.out.symm, by repeat (first | exact Below.refl _ _ | apply Below.setCell _ (by first | omega | (simp <;> omega)) | apply Below.alloc _ (by first | omega | (simp <;> omega)))⟩

end Go.Proofs.YtfalgnapghienaaGreatDoor
