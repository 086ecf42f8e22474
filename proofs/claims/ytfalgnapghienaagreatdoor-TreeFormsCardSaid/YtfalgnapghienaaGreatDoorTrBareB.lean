/- A node's form without what is of the strict language alone is the node's form just if nothing below is of the strict language; else the two differ. -/
import Derived.Test.YtfalgnapghienaaGreatDoorTrBare
namespace Go.Proofs.YtfalgnapghienaaGreatDoor
set_option linter.unusedVariables false
set_option linter.unusedSimpArgs false

def bareS (p : Pen) (l : List Nd) (a : Nat) : ByteArray := bareF p l (a + 1) a
theorem shaped_parts {x : Nd} (h : shapedE x = 0) : knownB x.kind = true ∧ (shp x.kind).least ≤ x.kids.length ∧ ((shp x.kind).text = false → x.text.size = 0) ∧ (zeroT x = true ∨ (shp x.kind).typ = true) ∧ ((shp x.kind).typ = true → rightB x.B x.N x.D x.M = true) := by
  unfold shapedE at h
  split at h
  · simp at h
  · rename_i h1
    split at h
    · simp at h
    · rename_i h2
      split at h
      · simp at h
      · rename_i h3
        simp only [Bool.or_eq_true, Bool.and_eq_true, decide_eq_true_iff, Bool.not_eq_true', not_or, not_and, Bool.not_eq_true, Bool.not_eq_false] at h1 h2 h3
        refine ⟨h1, by omega, ?_, ?_, ?_⟩
        · intro ht
          apply Classical.byContradiction
          intro hne
          have := h3.1.1 hne
          rw [ht] at this; cases this
        · cases hz : zeroT x
          · exact .inr (h3.1.2 hz)
          · exact .inl rfl
        · intro ht
          exact h3.2 ht
theorem strict_least : ∀ k : Nat, k < 46 → (k = 40 ∨ k = 41 ∨ k = 43 ∨ k = 44 ∨ k = 45) → (shp (k : Int)).least = 1 := by decide +kernel
theorem typ_num : (shp 19).typ = false ∧ (shp 21).typ = false := ⟨rfl, rfl⟩
theorem legacyL_len : legacyL.length = 39 := rfl
theorem strictL_len : strictL.length = 6 := rfl
theorem name_get (k : Nat) (h : k < 46) : nameL.getD k ⟨#[]⟩ = nameL[k]'(by rw [nameL_len]; exact h) := by
  rw [List.getD_eq_getElem?_getD, List.getElem?_eq_getElem (by rw [nameL_len]; exact h)]; rfl
theorem name_in (k : Nat) (h : k < 46) (h0 : 0 < k) : (k < 40 → nameL.getD k ⟨#[]⟩ ∈ legacyL) ∧ (40 ≤ k → nameL.getD k ⟨#[]⟩ ∈ strictL) := by
  constructor
  · intro h1
    have hb : k - 1 < legacyL.length := by rw [legacyL_len]; omega
    have : nameL.getD k ⟨#[]⟩ = legacyL[k - 1] := by
      rw [name_get k h]
      simp only [legacyL, List.getElem_take, List.getElem_drop]
      congr 1
      omega
    rw [this]; exact List.getElem_mem hb
  · intro h1
    have hb : k - 40 < strictL.length := by rw [strictL_len]; omega
    have : nameL.getD k ⟨#[]⟩ = strictL[k - 40] := by
      rw [name_get k h]
      simp only [strictL, List.getElem_drop]
      congr 1
      omega
    rw [this]; exact List.getElem_mem hb
theorem known_nat {k : Int} (h : knownB k = true) : ∃ m : Nat, k = m ∧ 0 < m ∧ m < 46 := by
  unfold knownB at h
  rw [decide_eq_true_iff] at h
  exact ⟨k.toNat, by omega, by omega, by omega⟩
theorem name_legacy {k : Int} (h : knownB k = true) (hs : strictK k = false) : nameS k ∈ legacyL := by
  obtain ⟨m, rfl, h0, h1⟩ := known_nat h
  unfold nameS
  rw [if_pos h, Int.toNat_natCast]
  unfold strictK at hs
  rw [decide_eq_false_iff_not] at hs
  exact (name_in m h1 h0).1 (by omega)
theorem name_strict {k : Int} (h : knownB k = true) (hs : strictK k = true) : nameS k ∈ strictL := by
  obtain ⟨m, rfl, h0, h1⟩ := known_nat h
  unfold nameS
  rw [if_pos h, Int.toNat_natCast]
  unfold strictK at hs
  rw [decide_eq_true_iff] at hs
  exact (name_in m h1 h0).2 (by omega)
theorem head_front (p : Pen) (x : Nd) : ∃ z, headS p x = ⟨#[40]⟩ ++ nameS x.kind ++ z := by
  unfold headS
  simp only
  split
  · split
    · split
      · exact ⟨⟨#[32]⟩ ++ p.quote x.text ++ (⟨#[32]⟩ ++ typeS x.B x.N x.M) ++ (⟨#[32]⟩ ++ p.dec x.num), by simp only [app_assoc3]⟩
      · exact ⟨⟨#[32]⟩ ++ typeS x.B x.N x.M ++ (⟨#[32]⟩ ++ p.dec x.num), by simp only [app_assoc3]⟩
    · split
      · exact ⟨⟨#[32]⟩ ++ p.quote x.text ++ (⟨#[32]⟩ ++ p.dec x.num), by simp only [app_assoc3]⟩
      · exact ⟨⟨#[32]⟩ ++ p.dec x.num, by simp only [app_assoc3]⟩
  · split
    · split
      · exact ⟨⟨#[32]⟩ ++ p.quote x.text ++ (⟨#[32]⟩ ++ typeS x.B x.N x.M), by simp only [app_assoc3]⟩
      · exact ⟨⟨#[32]⟩ ++ typeS x.B x.N x.M, by simp only [app_assoc3]⟩
    · split
      · exact ⟨⟨#[32]⟩ ++ p.quote x.text, by simp only [app_assoc3]⟩
      · exact ⟨⟨#[]⟩, (nil_app _).symm⟩
/-- a head that has a type ends with it -/
theorem head_type (p : Pen) (x : Nd) (h : (shp x.kind).typ = true) : ∃ A, headS p x = A ++ typeS x.B x.N x.M ∧ headS p (bareX x) = A ++ typeS x.B x.N (blankT x.M.size) := by
  have hn : ¬ (x.kind = 19 ∨ x.kind = 21) := by
    rintro (e | e)
    · rw [e, typ_num.1] at h; cases h
    · rw [e, typ_num.2] at h; cases h
  refine ⟨(if (shp x.kind).text = true then (⟨#[40]⟩ ++ nameS x.kind) ++ (⟨#[32]⟩ ++ p.quote x.text) else ⟨#[40]⟩ ++ nameS x.kind) ++ ⟨#[32]⟩, ?_, ?_⟩
  · unfold headS
    simp only [if_neg hn, if_pos h]
    exact (app_assoc3 _ _ _).symm
  · unfold headS bareX
    simp only [if_neg hn, if_pos h]
    exact (app_assoc3 _ _ _).symm

theorem firstKid_mem {l : List Nd} {root : Int} (P : ProgOk l root) {a : Nat} (ha : a < l.length) (h : 1 ≤ l[a].kids.length) : firstKid l a ∈ kidsOf l a := by
  unfold firstKid
  rw [kidsOf_get l a ha]
  cases hk : l[a].kids with
  | nil => rw [hk] at h; simp at h
  | cons k ks => simp
theorem strict_kid {l : List Nd} {root : Int} (P : ProgOk l root) {a : Nat} (ha : a < l.length) (h : l[a].kind = 40 ∨ l[a].kind = 41 ∨ l[a].kind = 43 ∨ l[a].kind = 44 ∨ l[a].kind = 45) : firstKid l a < a := by
  have hp := shaped_parts (P.shaped a ha)
  obtain ⟨m, hm, h0, h1⟩ := known_nat hp.1
  have hl := strict_least m h1 (by omega)
  rw [hm, hl] at hp
  exact kidsOf_lt P ha (firstKid_mem P ha hp.2.1)
theorem bare_fuel (p : Pen) {l : List Nd} {root : Int} (P : ProgOk l root) : ∀ (a : Nat), a < l.length → ∀ f, a + 1 ≤ f → bareF p l f a = bareS p l a := by
  intro a
  induction a using Nat.strongRecOn with
  | _ a ih =>
    intro ha f hf
    obtain ⟨g, rfl⟩ : ∃ g, f = g + 1 := ⟨f - 1, by omega⟩
    unfold bareS
    unfold bareF
    rw [List.getElem?_eq_getElem ha]
    simp only
    have hk : ∀ k, k < a → bareF p l g k = bareF p l a k := fun k hk => by rw [ih k hk (by omega) g (by omega), ih k hk (by omega) a (by omega)]
    have hfold : (kidsOf l a).foldl (fun (s : ByteArray) k => s ++ (⟨#[32]⟩ : ByteArray) ++ bareF p l g k) (headS p (bareX l[a])) = (kidsOf l a).foldl (fun (s : ByteArray) k => s ++ (⟨#[32]⟩ : ByteArray) ++ bareF p l a k) (headS p (bareX l[a])) :=
      fold_congrB _ _ (fun k hkk => hk k (kidsOf_lt P ha hkk))
    by_cases h1 : l[a].kind = 40 ∨ l[a].kind = 41 ∨ l[a].kind = 45
    · rw [if_pos h1, if_pos h1, hk _ (strict_kid P ha (by omega))]
    · rw [if_neg h1, if_neg h1]
      by_cases h2 : l[a].kind = 42
      · rw [if_pos h2, if_pos h2]
      · rw [if_neg h2, if_neg h2]
        by_cases h3 : l[a].kind = 43
        · rw [if_pos h3, if_pos h3, hk _ (strict_kid P ha (by omega))]
        · rw [if_neg h3, if_neg h3]
          by_cases h4 : l[a].kind = 44
          · rw [if_pos h4, if_pos h4, hk _ (strict_kid P ha (by omega))]
          · rw [if_neg h4, if_neg h4, hfold]
theorem bare_eq (p : Pen) {l : List Nd} {root : Int} (P : ProgOk l root) {a : Nat} (ha : a < l.length) : bareS p l a =
    (if l[a].kind = 40 ∨ l[a].kind = 41 ∨ l[a].kind = 45 then bareS p l (firstKid l a)
      else if l[a].kind = 42 then ⟨#[40]⟩ ++ ⟨#[110, 117, 108, 108]⟩ ++ ⟨#[41]⟩
      else if l[a].kind = 43 then ⟨#[40]⟩ ++ ⟨#[98, 105, 110, 97, 114, 121]⟩ ++ (⟨#[32, 34, 33, 61, 34, 32]⟩ ++ bareS p l (firstKid l a) ++ ⟨#[32, 40, 110, 117, 108, 108, 41, 41]⟩)
      else if l[a].kind = 44 then ⟨#[40]⟩ ++ ⟨#[98, 105, 110, 97, 114, 121]⟩ ++ (⟨#[32, 34, 61, 61, 34, 32]⟩ ++ bareS p l (firstKid l a) ++ ⟨#[32, 40, 110, 117, 108, 108, 41, 41]⟩)
      else (kidsOf l a).foldl (fun (s : ByteArray) k => s ++ (⟨#[32]⟩ : ByteArray) ++ bareS p l k) (headS p (bareX l[a])) ++ ⟨#[41]⟩) := by
  show bareF p l (a + 1) a = _
  unfold bareF
  rw [List.getElem?_eq_getElem ha]
  simp only
  have hk : ∀ k, k < a → bareF p l a k = bareS p l k := fun k hk => bare_fuel p P k (by omega) a (by omega)
  have hfold : (kidsOf l a).foldl (fun (s : ByteArray) k => s ++ (⟨#[32]⟩ : ByteArray) ++ bareF p l a k) (headS p (bareX l[a])) = (kidsOf l a).foldl (fun (s : ByteArray) k => s ++ (⟨#[32]⟩ : ByteArray) ++ bareS p l k) (headS p (bareX l[a])) :=
    fold_congrB _ _ (fun k hkk => hk k (kidsOf_lt P ha hkk))
  by_cases h1 : l[a].kind = 40 ∨ l[a].kind = 41 ∨ l[a].kind = 45
  · rw [if_pos h1, if_pos h1, hk _ (strict_kid P ha (by omega))]
  · rw [if_neg h1, if_neg h1]
    by_cases h2 : l[a].kind = 42
    · rw [if_pos h2, if_pos h2]
    · rw [if_neg h2, if_neg h2]
      by_cases h3 : l[a].kind = 43
      · rw [if_pos h3, if_pos h3, hk _ (strict_kid P ha (by omega))]
      · rw [if_neg h3, if_neg h3]
        by_cases h4 : l[a].kind = 44
        · rw [if_pos h4, if_pos h4, hk _ (strict_kid P ha (by omega))]
        · rw [if_neg h4, if_neg h4, hfold]
theorem form_front (p : Pen) {l : List Nd} {root : Int} (P : ProgOk l root) {a : Nat} (ha : a < l.length) (hs : strictK l[a].kind = true) : Front strictL (formS p l a) := by
  obtain ⟨z, hz⟩ := head_front p l[a]
  obtain ⟨y, hy, -⟩ := fold_front (f := formS p l) (kidsOf l a) (headS p l[a])
  refine ⟨nameS l[a].kind, name_strict (shaped_parts (P.shaped a ha)).1 hs, z ++ y ++ ⟨#[41]⟩, ?_⟩
  rw [form_eq p P ha]
  have e : (kidsOf l a).foldl (fun s k => s ++ ⟨#[32]⟩ ++ formS p l k) (headS p l[a]) = headS p l[a] ++ y := hy
  rw [e, hz]
  simp only [app_assoc3]
theorem mem_legacy : (⟨#[110, 117, 108, 108]⟩ : ByteArray) ∈ legacyL ∧ (⟨#[98, 105, 110, 97, 114, 121]⟩ : ByteArray) ∈ legacyL := ⟨(name_in 23 (by omega) (by omega)).1 (by omega), (name_in 34 (by omega) (by omega)).1 (by omega)⟩
theorem bare_front (p : Pen) {l : List Nd} {root : Int} (P : ProgOk l root) : ∀ (a : Nat), a < l.length → Front legacyL (bareS p l a) := by
  intro a
  induction a using Nat.strongRecOn with
  | _ a ih =>
    intro ha
    rw [bare_eq p P ha]
    by_cases h1 : l[a].kind = 40 ∨ l[a].kind = 41 ∨ l[a].kind = 45
    · rw [if_pos h1]
      have := strict_kid P ha (by omega)
      exact ih _ this (by omega)
    · rw [if_neg h1]
      by_cases h2 : l[a].kind = 42
      · rw [if_pos h2]; exact ⟨_, mem_legacy.1, _, rfl⟩
      · rw [if_neg h2]
        by_cases h3 : l[a].kind = 43
        · rw [if_pos h3]; exact ⟨_, mem_legacy.2, _, rfl⟩
        · rw [if_neg h3]
          by_cases h4 : l[a].kind = 44
          · rw [if_pos h4]; exact ⟨_, mem_legacy.2, _, rfl⟩
          · rw [if_neg h4]
            obtain ⟨z, hz⟩ := head_front p (bareX l[a])
            obtain ⟨y, hy, -⟩ := fold_front (f := bareS p l) (kidsOf l a) (headS p (bareX l[a]))
            have hk := (shaped_parts (P.shaped a ha)).1
            have hs : strictK l[a].kind = false := by
              unfold strictK; rw [decide_eq_false_iff_not]; omega
            refine ⟨nameS l[a].kind, name_legacy hk hs, z ++ y ++ ⟨#[41]⟩, ?_⟩
            rw [hy, hz]
            show ⟨#[40]⟩ ++ nameS l[a].kind ++ z ++ y ++ ⟨#[41]⟩ = _
            simp only [app_assoc3]
/-- A NODE WITHOUT WHAT IS STRICT is written as it is, if nothing below it is strict; else the two texts differ -/
theorem bare_or (p : Pen) {l : List Nd} {root : Int} (P : ProgOk l root) : ∀ (a : Nat), a < l.length →
    (formS p l a = bareS p l a ∧ ∀ i ∈ walkS l a, strictAt l i = false) ∨ (Differ (formS p l a) (bareS p l a) ∧ ∃ i ∈ walkS l a, strictAt l i = true) := by
  intro a
  induction a using Nat.strongRecOn with
  | _ a ih =>
    intro ha
    have hp := shaped_parts (P.shaped a ha)
    have hat : strictAt l a = strictN l[a] := by unfold strictAt; rw [List.getElem?_eq_getElem ha]; rfl
    cases hs : strictK l[a].kind
    · have hk : ¬ (40 ≤ l[a].kind ∧ l[a].kind ≤ 45) := by unfold strictK at hs; rw [decide_eq_false_iff_not] at hs; exact hs
      have eb : bareS p l a = (kidsOf l a).foldl (fun (s : ByteArray) k => s ++ (⟨#[32]⟩ : ByteArray) ++ bareS p l k) (headS p (bareX l[a])) ++ ⟨#[41]⟩ := by
        rw [bare_eq p P ha, if_neg (by omega), if_neg (by omega), if_neg (by omega), if_neg (by omega)]
      have ef := form_eq p P ha
      cases hm : markedM l[a].M
      · rw [bareX_of hm] at eb
        have hst : strictAt l a = false := by rw [hat]; unfold strictN; rw [hs, hm]; rfl
        have hih : ∀ k ∈ kidsOf l a, formS p l k = bareS p l k ∨ Differ (formS p l k) (bareS p l k) := fun k hkk => by
          have h1 := kidsOf_lt P ha hkk
          rcases ih k h1 (by omega) with ⟨g, -⟩ | ⟨g, -⟩
          · exact .inl g
          · exact .inr g
        rcases fold_diff (f := formS p l) (g := bareS p l) (kidsOf l a) (headS p l[a]) (headS p l[a]) (.inl rfl) hih with ⟨q1, -, q3⟩ | ⟨q1, q2⟩
        · left
          refine ⟨by rw [ef, eb, q1], fun i hi => ?_⟩
          rw [walk_eq P ha] at hi
          rcases List.mem_cons.1 hi with rfl | hi
          · exact hst
          · obtain ⟨k, hkk, hik⟩ := List.mem_flatMap.1 hi
            have h1 := kidsOf_lt P ha hkk
            rcases ih k h1 (by omega) with ⟨-, g⟩ | ⟨g, -⟩
            · exact g i hik
            · exact absurd (q3 k hkk) g.ne
        · right
          refine ⟨by rw [ef, eb]; exact q1.right _ _, ?_⟩
          rcases q2 with q2 | ⟨k, hkk, q2⟩
          · exact absurd rfl q2.ne
          · have h1 := kidsOf_lt P ha hkk
            rcases ih k h1 (by omega) with ⟨g, -⟩ | ⟨-, i, hi, hst⟩
            · exact absurd g q2.ne
            · exact ⟨i, by rw [walk_eq P ha]; exact List.mem_cons_of_mem _ (List.mem_flatMap.2 ⟨k, hkk, hi⟩), hst⟩
      · right
        refine ⟨?_, a, walk_self P ha, by rw [hat]; unfold strictN; rw [hm]; simp⟩
        have hmk := hm
        unfold markedM at hmk
        rw [decide_eq_true_iff] at hmk
        have ht : (shp l[a].kind).typ = true := by
          rcases hp.2.2.2.1 with hz | hz
          · unfold zeroT at hz
            rw [decide_eq_true_iff] at hz
            obtain ⟨i, hi, -⟩ := hmk
            omega
          · exact hz
        obtain ⟨A, e1, e2⟩ := head_type p l[a] ht
        obtain ⟨y, hy, -⟩ := fold_front (f := formS p l) (kidsOf l a) (headS p l[a])
        obtain ⟨y', hy', hc⟩ := fold_front (f := bareS p l) (kidsOf l a) (headS p (bareX l[a]))
        have e : (kidsOf l a).foldl (fun s k => s ++ ⟨#[32]⟩ ++ formS p l k) (headS p l[a]) = headS p l[a] ++ y := hy
        rw [ef, eb, e, hy', e1, e2, app_assoc3, app_assoc3, app_assoc3, app_assoc3]
        refine Differ.left (type_differ (hp.2.2.2.2 ht) hmk _ _ ?_ ?_) A
        · rw [ByteArray.size_append]; show 0 < _ + 1; omega
        · rw [byS_app]
          rcases hc with hc | ⟨hc, hd⟩
          · rw [if_neg (by omega), hc]; exact .inr rfl
          · rw [if_pos hc]; exact .inl hd
    · right
      exact ⟨front_differ (form_front p P ha hs) (bare_front p P a ha), a, walk_self P ha, by rw [hat]; unfold strictN; rw [hs]; rfl⟩
end Go.Proofs.YtfalgnapghienaaGreatDoor
