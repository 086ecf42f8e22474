/- Types that are written alike are the same, if their names are of great letters alone: the end. -/
import Derived.Test.YtljojfeiehkpeaaDoorTrTextB
namespace Go.Proofs.YtljojfeiehkpeaaDoor
set_option linter.unusedVariables false
set_option linter.unusedSimpArgs false

theorem right_facts {B : Int} {N : ByteArray} {D : Int} {M : ByteArray} (h : rightB B N D M = true) : (1 ≤ B ∧ B ≤ 6) ∧ (B = 5 ↔ N.size ≠ 0) ∧ ∃ d : Nat, D = d ∧ M.size = d + 1 ∧ (∀ i, i < d → byS M i = 32 ∨ byS M i = 63) ∧ (byS M d = 32 ∨ byS M d = 63 ∨ byS M d = 111) := by
  unfold rightB marksB innerM lastM at h
  simp only [Bool.and_eq_true, Bool.or_eq_true, decide_eq_true_iff] at h
  obtain ⟨⟨⟨h1, h2⟩, h3⟩, ⟨⟨h4, h5⟩, h7⟩, h8⟩ := h
  exact ⟨h1, h2, D.toNat, by omega, h4, h7, h8⟩
theorem list_eq {a b : ByteArray} (h : a.data.toList = b.data.toList) : a = b := ByteArray.ext (Array.toList_inj.1 h)
theorem great_ne {N : ByteArray} (hg : greatN N) (hn : N.size ≠ 0) (x : UInt8) (xs : List UInt8) (hx : ¬ (65 ≤ x.toNat ∧ x.toNat ≤ 90)) : N.data.toList ≠ x :: xs := by
  intro h
  exact hx (hg x (by rw [h]; exact List.mem_cons_self))
theorem base_inj {B B' : Int} {N N' : ByteArray} (hB : 1 ≤ B ∧ B ≤ 6) (hB' : 1 ≤ B' ∧ B' ≤ 6) (hN : B = 5 ↔ N.size ≠ 0) (hN' : B' = 5 ↔ N'.size ≠ 0) (g : B = 5 → greatN N) (g' : B' = 5 → greatN N') (e : (baseS B N).data.toList = (baseS B' N').data.toList) : B = B' ∧ N = N' := by
  have emp : ∀ (C : Int) (K : ByteArray), (C = 5 ↔ K.size ≠ 0) → C ≠ 5 → K = ⟨#[]⟩ := fun C K hk hc => empty_of K (Classical.byContradiction fun h => hc (hk.2 h))
  by_cases h5 : B = 5
  · by_cases h5' : B' = 5
    · subst h5 h5'
      exact ⟨rfl, list_eq e⟩
    · exfalso
      subst h5
      have hs := hN.1 rfl
      have hg := g rfl
      have e2 : N.data.toList = (baseS B' N').data.toList := e
      have hb : B' = 1 ∨ B' = 2 ∨ B' = 3 ∨ B' = 4 ∨ B' = 6 := by omega
      rcases hb with rfl | rfl | rfl | rfl | rfl <;> exact great_ne hg hs _ _ (by decide) e2
  · by_cases h5' : B' = 5
    · exfalso
      subst h5'
      have hs := hN'.1 rfl
      have hg := g' rfl
      have e2 : N'.data.toList = (baseS B N).data.toList := e.symm
      have hb : B = 1 ∨ B = 2 ∨ B = 3 ∨ B = 4 ∨ B = 6 := by omega
      rcases hb with rfl | rfl | rfl | rfl | rfl <;> exact great_ne hg hs _ _ (by decide) e2
    · rw [emp B N hN h5, emp B' N' hN' h5'] at e
      refine ⟨?_, by rw [emp B N hN h5, emp B' N' hN' h5']⟩
      have hb : B = 1 ∨ B = 2 ∨ B = 3 ∨ B = 4 ∨ B = 6 := by omega
      have hb' : B' = 1 ∨ B' = 2 ∨ B' = 3 ∨ B' = 4 ∨ B' = 6 := by omega
      rcases hb with rfl | rfl | rfl | rfl | rfl <;> rcases hb' with rfl | rfl | rfl | rfl | rfl <;> first | rfl | (exfalso; revert e; decide)
theorem type_inj {B : Int} {N : ByteArray} {D : Int} {M : ByteArray} {B' : Int} {N' : ByteArray} {D' : Int} {M' : ByteArray} (h : rightB B N D M = true) (h' : rightB B' N' D' M' = true) (g : B = 5 → greatN N) (g' : B' = 5 → greatN N')
    (e : typeS B N M = typeS B' N' M') : B = B' ∧ N = N' ∧ D = D' ∧ M = M' := by
  obtain ⟨hB, hN, d, rfl, hm, hi, hl⟩ := right_facts h
  obtain ⟨hB', hN', d', rfl, hm', hi', hl'⟩ := right_facts h'
  have L : (typeS B N M).data.toList = (typeS B' N' M').data.toList := by rw [e]
  rw [type_list B N M d hm hi hl, type_list B' N' M' d' hm' hi' hl'] at L
  have core : isO M d = isO M' d' ∧ (baseS B N).data.toList ++ allM (bitM M 0) (bitsM M d) = (baseS B' N').data.toList ++ allM (bitM M' 0) (bitsM M' d') := by
    cases ho : isO M d <;> cases ho' : isO M' d'
    · rw [ho, ho'] at L
      simp only [Bool.false_eq_true, if_false, List.nil_append, List.append_nil] at L
      exact ⟨rfl, L⟩
    · exfalso
      rw [ho, ho'] at L
      simp only [Bool.false_eq_true, if_false, if_true, List.nil_append, List.append_nil] at L
      exact base_noP hB (fun k => hN.1 k) g _ _ (all_head _ _) L
    · exfalso
      rw [ho, ho'] at L
      simp only [Bool.false_eq_true, if_false, if_true, List.nil_append, List.append_nil] at L
      exact base_noP hB' (fun k => hN'.1 k) g' _ _ (all_head _ _) L.symm
    · rw [ho, ho'] at L
      simp only [if_true] at L
      exact ⟨rfl, List.append_cancel_left (List.append_cancel_right L)⟩
  obtain ⟨c1, c2⟩ := core
  obtain ⟨s1, s2⟩ := split_one _ _ _ _ (base_plain hB g) (base_plain hB' g') (all_head _ _) (all_head _ _) c2
  obtain ⟨b1, b2⟩ := base_inj hB hB' hN hN' g g' s1
  obtain ⟨q1, q2⟩ := all_inj _ _ _ _ s2
  have hd : d = d' := by
    have := congrArg List.length q2
    unfold bitsM at this
    simpa using this
  subst hd
  refine ⟨b1, b2, rfl, ext_by M M' (by omega) (fun k hk => ?_)⟩
  have hbit : bitM M k = bitM M' k := by
    cases k with
    | zero => exact q1
    | succ k =>
      have hk2 : k < d := by omega
      have e1 : (bitsM M d)[k]? = some (bitM M (k + 1)) := by unfold bitsM; rw [List.getElem?_map, List.getElem?_range hk2]; rfl
      have e2 : (bitsM M' d)[k]? = some (bitM M' (k + 1)) := by unfold bitsM; rw [List.getElem?_map, List.getElem?_range hk2]; rfl
      rw [q2, e2] at e1
      exact (Option.some.inj e1).symm
  unfold bitM at hbit
  unfold isO at c1
  by_cases hkd : k = d
  · subst hkd
    by_cases ho : byS M k = 111
    · rw [decide_eq_true ho] at c1
      rw [ho, of_decide_eq_true c1.symm]
    · rw [decide_eq_false ho] at c1
      have := of_decide_eq_false c1.symm
      by_cases h63 : byS M k = 63
      · rw [decide_eq_true h63] at hbit; rw [h63, of_decide_eq_true hbit.symm]
      · rw [decide_eq_false h63] at hbit
        have := of_decide_eq_false hbit.symm
        omega
  · have a1 := hi k (by omega)
    have a2 := hi' k (by omega)
    by_cases h63 : byS M k = 63
    · rw [decide_eq_true h63] at hbit; rw [h63, of_decide_eq_true hbit.symm]
    · rw [decide_eq_false h63] at hbit
      have := of_decide_eq_false hbit.symm
      omega
end Go.Proofs.YtljojfeiehkpeaaDoor
