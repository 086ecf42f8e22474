/- A program without what is of the strict language alone: one node more, which are nobody's. -/
import Derived.Test.YtfalgnapghienaaGreatDoorTrEraseC
namespace Go.Proofs.YtfalgnapghienaaGreatDoor
set_option linter.unusedVariables false
set_option linter.unusedSimpArgs false

theorem strict_most : ∀ k : Nat, k < 46 → (k = 40 ∨ k = 41 ∨ k = 43 ∨ k = 44 ∨ k = 45) → (shp (k : Int)).most = some 1 := by decide +kernel
theorem one_kid {l : List Nd} {root : Int} (P : ProgOk l root) {j : Nat} (hj : j < l.length) (h : l[j].kind = 40 ∨ l[j].kind = 41 ∨ l[j].kind = 43 ∨ l[j].kind = 44 ∨ l[j].kind = 45) :
    ∃ k, l[j].kids = [k] ∧ kidsOf l j = [k.toNat] := by
  obtain ⟨k, ks, hks, -, -⟩ := first_cons P hj h
  have hp := shaped_parts (P.shaped j hj)
  obtain ⟨m, hm, h0, h1⟩ := known_nat hp.1
  have ho := shaped_most (P.shaped j hj)
  unfold overB at ho
  rw [hm, strict_most m h1 (by omega), hks] at ho
  have hnil : ks = [] := by
    apply List.eq_nil_of_length_eq_zero
    have ho2 : decide (1 < (k :: ks).length) = false := ho
    rw [decide_eq_false_iff_not, List.length_cons] at ho2
    omega
  rw [hnil] at hks
  exact ⟨k, hks, by rw [kidsOf_get l j hj, hks]; rfl⟩
theorem nodup_mapOn {f : Nat → Nat} : ∀ (ks : List Nat), ks.Nodup → (∀ a ∈ ks, ∀ b ∈ ks, f a = f b → a = b) → (ks.map f).Nodup := by
  intro ks
  induction ks with
  | nil => intro _ _; exact List.nodup_nil
  | cons k ks ih =>
    intro hn h
    rw [List.nodup_cons] at hn
    rw [List.map_cons, List.nodup_cons]
    refine ⟨fun hm => ?_, ih hn.2 (fun a ha b hb => h a (List.mem_cons_of_mem _ ha) b (List.mem_cons_of_mem _ hb))⟩
    obtain ⟨b, hb, he⟩ := List.mem_map.1 hm
    have := h k List.mem_cons_self b (List.mem_cons_of_mem _ hb) he.symm
    exact hn.1 (this ▸ hb)
theorem toOf_toN (e : Er) (k : Int) : (toOf e.to k).toNat = toN e k.toNat := by unfold toOf toN; rw [Int.toNat_natCast]

theorem ErU.step {l : List Nd} {root : Int} (P : ProgOk l root) {j : Nat} (hj : j < l.length) {e : Er} (h : ErU l j e) (ha : Ahead (eraseStep e l[j]).made) : ErU l (j + 1) (eraseStep e l[j]) := by
  unfold eraseStep at ha ⊢
  by_cases h1 : l[j].kind = 40 ∨ l[j].kind = 41 ∨ l[j].kind = 45
  · rw [if_pos h1]
    obtain ⟨k, hk, hkk⟩ := one_kid P hj (by omega)
    have hd : l[j].kids.headD 0 = k := by rw [hk]; rfl
    rw [hd, toOf_toN]
    exact h.pass P hj k.toNat hkk
  · rw [if_neg h1] at ha ⊢
    by_cases h2 : l[j].kind = 43 ∨ l[j].kind = 44
    · rw [if_pos h2] at ha ⊢
      obtain ⟨k, hk, hkk⟩ := one_kid P hj (by omega)
      have hkm : k.toNat ∈ kidsOf l j := by rw [hkk]; exact List.mem_cons_self
      have hlt := h.in_ k.toNat (kidsOf_lt P hj hkm)
      have hd : l[j].kids.headD 0 = k := by rw [hk]; rfl
      have eA : allKids [nullNd l[j].st, heldNd l[j] (toOf e.to (l[j].kids.headD 0)) (e.made.length : Nat)] = [toN e k.toNat, e.made.length] := by
        have : allKids [nullNd l[j].st, heldNd l[j] (toOf e.to (l[j].kids.headD 0)) (e.made.length : Nat)] = [(toOf e.to (l[j].kids.headD 0)).toNat, ((e.made.length : Nat) : Int).toNat] := rfl
        rw [this, hd, toOf_toN, Int.toNat_natCast]
      refine h.grow P hj _ (e.made.length + 1) ha (by omega) (by simp) ?_ ?_ ?_ ?_
      · rw [eA]; simp; omega
      · rw [eA]
        intro x hx
        simp at hx
        rcases hx with rfl | rfl
        · exact .inl ⟨k.toNat, hkm, rfl⟩
        · exact .inr ⟨Nat.le_refl _, by omega⟩
      · rw [eA, hkk]
        intro q hq
        simp at hq
        rw [hq]; exact List.mem_cons_self
      · rw [eA]
        intro x hx1 hx2
        simp at hx2
        have : x = e.made.length ∨ x = e.made.length + 1 := by omega
        rcases this with rfl | rfl
        · right; simp
        · left; rfl
    · rw [if_neg h2] at ha ⊢
      have eA : allKids [keptNd l[j] (l[j].kids.map (toOf e.to))] = (kidsOf l j).map (toN e) := by
        have : allKids [keptNd l[j] (l[j].kids.map (toOf e.to))] = (l[j].kids.map (toOf e.to)).map Int.toNat := by simp [allKids, keptNd]
        rw [this, kidsOf_get l j hj, List.map_map, List.map_map]
        apply List.map_congr_left
        intro k hk
        exact toOf_toN e k
      refine h.grow P hj _ e.made.length ha (Nat.le_refl _) (by simp) ?_ ?_ ?_ ?_
      · rw [eA]
        refine nodup_mapOn _ (kids_nodup l P.once j) (fun a ha' b hb he => ?_)
        exact h.inj a b (kidsOf_lt P hj ha') (kidsOf_lt P hj hb) (kid_open P.once hj ha') (kid_open P.once hj hb) he
      · rw [eA]
        intro x hx
        obtain ⟨k, hk, rfl⟩ := List.mem_map.1 hx
        exact .inl ⟨k, hk, rfl⟩
      · rw [eA]
        intro k hk
        exact List.mem_map.2 ⟨k, hk, rfl⟩
      · intro x hx1 hx2
        simp at hx2
        exact .inl (by omega)
theorem right_blank {B : Int} {N : ByteArray} {D : Int} {M : ByteArray} (h : rightB B N D M = true) : rightB B N D (blankT M.size) = true := by
  unfold rightB marksB innerM lastM at h ⊢
  simp only [Bool.and_eq_true, Bool.or_eq_true, decide_eq_true_iff] at h ⊢
  obtain ⟨⟨⟨h1, h2⟩, h3⟩, ⟨⟨h4, h5⟩, h7⟩, h8⟩ := h
  refine ⟨⟨⟨h1, h2⟩, h3⟩, ⟨⟨by rw [blankT_size]; exact h4, .inr (blankT_by _ _ (by omega))⟩, fun i hi => .inl (blankT_by _ _ (by omega))⟩, .inl (blankT_by _ _ (by omega))⟩
theorem blank_plain (n : Nat) : markedM (blankT n) = false := by
  unfold markedM
  rw [decide_eq_false_iff_not]
  rintro ⟨i, hi, hne⟩
  rw [blankT_size] at hi
  exact hne (blankT_by n i hi)
/-- all that has been made has its kind's shape, and nothing strict -/
def ErS (e : Er) : Prop := ∀ x ∈ e.made, shapedE x = 0 ∧ strictN x = false
theorem null_shaped (x : Int) : shapedE (nullNd x) = 0 ∧ strictN (nullNd x) = false := by
  constructor
  · rfl
  · unfold strictN
    have : markedM (nullNd x).M = false := by
      unfold markedM
      rw [decide_eq_false_iff_not]
      rintro ⟨i, hi, -⟩
      exact absurd hi (by show ¬ i < 0; omega)
    rw [this]; rfl
theorem shaped_mk {x : Nd} (h1 : knownB x.kind = true) (h2 : (shp x.kind).least ≤ x.kids.length) (h3 : overB (shp x.kind) x.kids.length = false) (h4 : (shp x.kind).text = false → x.text.size = 0) (h5 : zeroT x = true ∨ (shp x.kind).typ = true) (h6 : (shp x.kind).typ = true → rightB x.B x.N x.D x.M = true) : shapedE x = 0 := by
  unfold shapedE
  rw [if_neg (by rw [h1]; simp), if_neg (by rw [h3]; simp; omega), if_neg ?_]
  simp only [Bool.or_eq_true, Bool.and_eq_true, decide_eq_true_iff, Bool.not_eq_true', not_or, not_and]
  refine ⟨⟨fun a b => a (h4 b), fun a b => ?_⟩, fun a b => ?_⟩
  · rcases h5 with h5 | h5
    · rw [h5] at a; cases a
    · rw [h5] at b; cases b
  · rw [h6 a] at b; cases b
theorem ErS.step {l : List Nd} {root : Int} (P : ProgOk l root) {j : Nat} (hj : j < l.length) {e : Er} (h : ErS e) : ErS (eraseStep e l[j]) := by
  have hp := shaped_parts (P.shaped j hj)
  have ho := shaped_most (P.shaped j hj)
  unfold eraseStep
  by_cases h1 : l[j].kind = 40 ∨ l[j].kind = 41 ∨ l[j].kind = 45
  · rw [if_pos h1]; exact h
  · rw [if_neg h1]
    by_cases h2 : l[j].kind = 43 ∨ l[j].kind = 44
    · rw [if_pos h2]
      have hz : zeroT l[j] = true := by
        rcases hp.2.2.2.1 with hz | hz
        · exact hz
        · rcases h2 with h2 | h2 <;> (rw [h2] at hz; cases hz)
      intro x hx
      rcases List.mem_append.1 hx with hx | hx
      · exact h x hx
      · simp only [List.mem_cons, List.not_mem_nil, or_false] at hx
        rcases hx with rfl | rfl
        · exact null_shaped _
        · constructor
          · exact shaped_mk (by rfl) (by show 2 ≤ 2; omega) (by rfl) (fun hh => by cases hh) (.inl hz) (fun hh => by cases hh)
          · unfold strictN
            have hm : markedM (heldNd l[j] (toOf e.to (l[j].kids.headD 0)) (e.made.length : Nat)).M = false := by
              show markedM l[j].M = false
              unfold zeroT at hz
              rw [decide_eq_true_iff] at hz
              unfold markedM
              rw [decide_eq_false_iff_not]
              rintro ⟨i, hi, -⟩
              omega
            rw [hm]; rfl
    · rw [if_neg h2]
      intro x hx
      rcases List.mem_append.1 hx with hx | hx
      · exact h x hx
      · simp only [List.mem_cons, List.not_mem_nil, or_false] at hx
        subst hx
        have hM : (keptNd l[j] (l[j].kids.map (toOf e.to))).M = blankT l[j].M.size := rfl
        have hz : zeroT l[j] = true → zeroT (keptNd l[j] (l[j].kids.map (toOf e.to))) = true := by
          unfold zeroT
          rw [decide_eq_true_iff, decide_eq_true_iff]
          rintro ⟨a, b, c, d⟩
          exact ⟨a, b, c, by rw [hM, blankT_size]; exact d⟩
        have hkl : (keptNd l[j] (l[j].kids.map (toOf e.to))).kids.length = l[j].kids.length := by show (l[j].kids.map (toOf e.to)).length = _; simp
        by_cases h4 : l[j].kind = 42
        · have hk : (keptNd l[j] (l[j].kids.map (toOf e.to))).kind = 23 := by show (if l[j].kind = 42 then (23 : Int) else l[j].kind) = 23; rw [if_pos h4]
          rw [h4] at hp ho
          have hlen : l[j].kids.length = 0 := by
            have hh : decide (0 < l[j].kids.length) = false := ho
            rw [decide_eq_false_iff_not] at hh; omega
          have hz2 : zeroT l[j] = true := by
            rcases hp.2.2.2.1 with g | g
            · exact g
            · cases g
          constructor
          · refine shaped_mk ?_ ?_ ?_ ?_ (.inl (hz hz2)) ?_
            · rw [hk]; rfl
            · rw [hk, hkl, hlen]; exact Nat.le_refl _
            · rw [hk, hkl, hlen]; rfl
            · intro _; exact hp.2.2.1 rfl
            · rw [hk]; intro g; cases g
          · unfold strictN
            rw [hM, blank_plain, hk]; rfl
        · have hk : (keptNd l[j] (l[j].kids.map (toOf e.to))).kind = l[j].kind := by show (if l[j].kind = 42 then (23 : Int) else l[j].kind) = _; rw [if_neg h4]
          constructor
          · refine shaped_mk ?_ ?_ ?_ ?_ ?_ ?_
            · rw [hk]; exact hp.1
            · rw [hk, hkl]; exact hp.2.1
            · rw [hk, hkl]; exact ho
            · rw [hk]; exact hp.2.2.1
            · rw [hk]
              rcases hp.2.2.2.1 with g | g
              · exact .inl (hz g)
              · exact .inr g
            · rw [hk]; intro g; exact right_blank (hp.2.2.2.2 g)
          · unfold strictN strictK
            rw [hM, blank_plain, hk, Bool.or_false, decide_eq_false_iff_not]
            omega
end Go.Proofs.YtfalgnapghienaaGreatDoor
