/- A program without what is of the strict language alone: one node more. -/
import Derived.Test.YtfalgnapghienaaGreatDoorTrErase
namespace Go.Proofs.YtfalgnapghienaaGreatDoor
set_option linter.unusedVariables false
set_option linter.unusedSimpArgs false

theorem shaped_most {x : Nd} (h : shapedE x = 0) : overB (shp x.kind) x.kids.length = false := by
  unfold shapedE at h
  split at h
  · simp at h
  · split at h
    · simp at h
    · rename_i h2
      simp only [Bool.or_eq_true, decide_eq_true_iff, not_or, Bool.not_eq_true] at h2
      exact h2.2
theorem fold_congrG {α : Type} {f g : α → ByteArray} : ∀ (ks : List α) (s : ByteArray), (∀ k ∈ ks, f k = g k) → ks.foldl (fun (s : ByteArray) k => s ++ (⟨#[32]⟩ : ByteArray) ++ f k) s = ks.foldl (fun (s : ByteArray) k => s ++ (⟨#[32]⟩ : ByteArray) ++ g k) s := by
  intro ks
  induction ks with
  | nil => intro s _; rfl
  | cons k ks ih =>
    intro s h
    rw [List.foldl_cons, List.foldl_cons, h k List.mem_cons_self]
    exact ih _ (fun x hx => h x (List.mem_cons_of_mem _ hx))
theorem head_null (p : Pen) (x : Int) : headS p (nullNd x) = ⟨#[40]⟩ ++ ⟨#[110, 117, 108, 108]⟩ := rfl
theorem head_held (p : Pen) (x : Nd) (v n : Int) : headS p (heldNd x v n) = ⟨#[40]⟩ ++ ⟨#[98, 105, 110, 97, 114, 121]⟩ ++ (⟨#[32]⟩ ++ p.quote (signOf x.kind)) := rfl
theorem head_kept (p : Pen) (x : Nd) (ks : List Int) (h : ¬ x.kind = 42) : headS p (keptNd x ks) = headS p (bareX x) := by
  unfold headS keptNd bareX
  simp only [if_neg h]
theorem head_kept42 (p : Pen) (x : Nd) (ks : List Int) (h : x.kind = 42) : headS p (keptNd x ks) = ⟨#[40]⟩ ++ ⟨#[110, 117, 108, 108]⟩ := by
  unfold headS keptNd
  simp only [if_pos h]
  rfl

theorem toOf_get {p : Pen} {l : List Nd} {root : Int} {j : Nat} {e : Er} (P : ProgOk l root) (hj : j < l.length) (h : ErF p l j e) {k : Int} (hk : k ∈ l[j].kids) :
    ∃ hi : k.toNat < e.to.length, toOf e.to k = (e.to[k.toNat] : Nat) ∧ e.to[k.toNat] < e.made.length ∧ formS p e.made e.to[k.toNat] = bareS p l k.toNat ∧ k.toNat ∈ kidsOf l j := by
  have ha := P.ahead j hj k hk
  have hi : k.toNat < e.to.length := by rw [h.len]; omega
  refine ⟨hi, ?_, h.in_ _ hi, h.form _ hi, ?_⟩
  · unfold toOf; rw [getD_to e.to _ hi]
  · rw [kidsOf_get l j hj]; exact List.mem_map.2 ⟨k, hk, rfl⟩
theorem first_cons {l : List Nd} {root : Int} (P : ProgOk l root) {j : Nat} (hj : j < l.length) (h : l[j].kind = 40 ∨ l[j].kind = 41 ∨ l[j].kind = 43 ∨ l[j].kind = 44 ∨ l[j].kind = 45) :
    ∃ k ks, l[j].kids = k :: ks ∧ l[j].kids.headD 0 = k ∧ firstKid l j = k.toNat := by
  have hp := shaped_parts (P.shaped j hj)
  obtain ⟨m, hm, h0, h1⟩ := known_nat hp.1
  have hl := strict_least m h1 (by omega)
  rw [hm, hl] at hp
  cases hk : l[j].kids with
  | nil => rw [hk] at hp; simp at hp
  | cons k ks =>
    refine ⟨k, ks, rfl, rfl, ?_⟩
    unfold firstKid
    rw [kidsOf_get l j hj, hk]; rfl

theorem ErF.step {p : Pen} {l : List Nd} {root : Int} {j : Nat} {e : Er} (P : ProgOk l root) (hp : PenOk p) (hj : j < l.length) (h : ErF p l j e) : ErF p l (j + 1) (eraseStep e l[j]) := by
  have eb := bare_eq p P hj
  unfold eraseStep
  by_cases h1 : l[j].kind = 40 ∨ l[j].kind = 41 ∨ l[j].kind = 45
  · rw [if_pos h1] at eb ⊢
    obtain ⟨k, ks, hks, hd, hf⟩ := first_cons P hj (by omega)
    obtain ⟨hi, e1, e2, e3, e4⟩ := toOf_get P hj h (k := k) (by rw [hks]; exact List.mem_cons_self)
    rw [hd, e1, Int.toNat_natCast]
    have := h.grow [] e.to[k.toNat] (by rw [List.append_nil]; exact h.ahead) (by rw [List.append_nil]; exact e2) (by rw [List.append_nil, e3, eb, hf])
    rw [List.append_nil] at this
    exact this
  · rw [if_neg h1] at eb ⊢
    by_cases h2 : l[j].kind = 43 ∨ l[j].kind = 44
    · rw [if_pos h2]
      rw [if_neg (by omega)] at eb
      obtain ⟨k, ks, hks, hd, hf⟩ := first_cons P hj (by omega)
      obtain ⟨hi, e1, e2, e3, e4⟩ := toOf_get P hj h (k := k) (by rw [hks]; exact List.mem_cons_self)
      rw [hd, e1]
      have hA1 : Ahead (e.made ++ [nullNd l[j].st]) := ahead_app h.ahead _ (fun k hk => by cases hk)
      have hA : Ahead (e.made ++ [nullNd l[j].st, heldNd l[j] ((e.to[k.toNat] : Nat) : Int) (e.made.length : Nat)]) := by
        have := ahead_app hA1 (heldNd l[j] ((e.to[k.toNat] : Nat) : Int) (e.made.length : Nat)) (fun x hx => by
          have hx' : x = ((e.to[k.toNat] : Nat) : Int) ∨ x = ((e.made.length : Nat) : Int) := by simpa [heldNd] using hx
          simp
          omega)
        rw [List.append_assoc] at this
        exact this
      refine h.grow _ _ hA (by simp) ?_
      generalize hL : e.made ++ [nullNd l[j].st, heldNd l[j] ((e.to[k.toNat] : Nat) : Int) (e.made.length : Nat)] = L at *
      have hlen : L.length = e.made.length + 2 := by rw [← hL]; simp
      have g0 : L[e.made.length]'(by omega) = nullNd l[j].st := by subst hL; rw [List.getElem_append_right (Nat.le_refl _)]; simp
      have g1 : L[e.made.length + 1]'(by omega) = heldNd l[j] ((e.to[k.toNat] : Nat) : Int) (e.made.length : Nat) := by subst hL; rw [List.getElem_append_right (by omega)]; simp
      have f0 : formS p L e.made.length = ⟨#[40]⟩ ++ ⟨#[110, 117, 108, 108]⟩ ++ ⟨#[41]⟩ := by
        rw [formA_eq p hA (by omega), g0, kidsOf_get L _ (by omega), g0, head_null]; rfl
      have fk : formS p L e.to[k.toNat] = bareS p l k.toNat := by rw [← hL, formS_app p h.ahead _ _ e2]; exact e3
      rw [formA_eq p hA (by omega), g1, kidsOf_get L _ (by omega), g1, head_held]
      show (((⟨#[40]⟩ : ByteArray) ++ ⟨#[98, 105, 110, 97, 114, 121]⟩ ++ (⟨#[32]⟩ ++ p.quote (signOf l[j].kind))) ++ (⟨#[32]⟩ : ByteArray) ++ formS p L (((e.to[k.toNat] : Nat) : Int)).toNat) ++ (⟨#[32]⟩ : ByteArray) ++ formS p L (((e.made.length : Nat) : Int)).toNat ++ ⟨#[41]⟩ = _
      rw [Int.toNat_natCast, Int.toNat_natCast, f0, fk, eb, hf]
      by_cases h3 : l[j].kind = 43
      · rw [if_pos h3, h3, show signOf 43 = ⟨#[33, 61]⟩ from rfl, hp.ne]
        simp only [app_assoc3]
        rfl
      · rw [if_neg h3, if_pos (by omega), show signOf l[j].kind = ⟨#[61, 61]⟩ by unfold signOf; rw [if_neg h3], hp.eq]
        simp only [app_assoc3]
        rfl
    · rw [if_neg h2]
      have hA : Ahead (e.made ++ [keptNd l[j] (l[j].kids.map (toOf e.to))]) := ahead_app h.ahead _ (fun x hx => by
        have hx' : x ∈ l[j].kids.map (toOf e.to) := hx
        obtain ⟨k, hk, rfl⟩ := List.mem_map.1 hx'
        obtain ⟨hi, e1, e2, e3, e4⟩ := toOf_get P hj h hk
        rw [e1]; omega)
      refine h.grow _ _ hA (by simp) ?_
      have g0 : (e.made ++ [keptNd l[j] (l[j].kids.map (toOf e.to))])[e.made.length]'(by simp) = keptNd l[j] (l[j].kids.map (toOf e.to)) := by rw [List.getElem_append_right (Nat.le_refl _)]; simp
      rw [formA_eq p hA (by simp), g0, kidsOf_get _ _ (by simp), g0]
      show ((l[j].kids.map (toOf e.to)).map Int.toNat).foldl _ _ ++ _ = _
      by_cases h4 : l[j].kind = 42
      · rw [if_pos h4] at eb
        have hmost := shaped_most (P.shaped j hj)
        rw [h4] at hmost
        have hnil : l[j].kids = [] := by
          apply List.eq_nil_of_length_eq_zero
          have : decide (0 < l[j].kids.length) = false := hmost
          rw [decide_eq_false_iff_not] at this
          omega
        rw [hnil, eb, head_kept42 p _ _ h4]; rfl
      · rw [if_neg h4, if_neg (by omega), if_neg (by omega)] at eb
        rw [eb, head_kept p _ _ h4, kidsOf_get l j hj, List.map_map, List.foldl_map, List.foldl_map]
        congr 1
        apply fold_congrG
        intro k hk
        obtain ⟨hi, e1, e2, e3, e4⟩ := toOf_get P hj h hk
        show formS p _ (toOf e.to k).toNat = _
        rw [e1, Int.toNat_natCast, formS_app p h.ahead _ _ e2]
        exact e3
end Go.Proofs.YtfalgnapghienaaGreatDoor
