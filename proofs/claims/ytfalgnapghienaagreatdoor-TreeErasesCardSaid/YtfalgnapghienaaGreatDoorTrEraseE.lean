/- A program without what is of the strict language alone is a program, has the bare form, and nothing strict. -/
import Derived.Test.YtfalgnapghienaaGreatDoorTrEraseD
namespace Go.Proofs.YtfalgnapghienaaGreatDoor
set_option linter.unusedVariables false
set_option linter.unusedSimpArgs false

theorem take_mk (i : Nat) : ∀ (ks : List Int) (u : List Nat), (∀ k ∈ ks, 0 ≤ k ∧ k < (i : Nat)) → ((ks.map Int.toNat).reverse ++ u).Nodup → (takeE i ks u).1 = 0 := by
  intro ks
  induction ks with
  | nil => intro u _ _; rfl
  | cons k ks ih =>
    intro u h hn
    have hk := h k List.mem_cons_self
    unfold takeE
    rw [if_neg (by omega)]
    have e : ((k :: ks).map Int.toNat).reverse ++ u = (ks.map Int.toNat).reverse ++ (k.toNat :: u) := by simp
    rw [e] at hn
    have hn2 := hn
    rw [List.nodup_append] at hn2
    have hku : k.toNat ∉ u := (List.nodup_cons.1 hn2.2.1).1
    rw [if_neg hku]
    exact ih (k.toNat :: u) (fun x hx => h x (List.mem_cons_of_mem _ hx)) hn
theorem checkL_mk : ∀ (l : List Nd) (i : Nat) (u : List Nat), (∀ j (h : j < l.length), shapedE l[j] = 0 ∧ ∀ k ∈ l[j].kids, 0 ≤ k ∧ k < (i + j : Nat)) → (allKids l).Nodup → u.Nodup → (∀ x ∈ allKids l, x ∉ u) → (checkL l i u).1 = 0 := by
  intro l
  induction l with
  | nil => intro i u _ _ _ _; rfl
  | cons y l ih =>
    intro i u h hn hu hd
    have e : allKids (y :: l) = y.kids.map Int.toNat ++ allKids l := by simp [allKids]
    rw [e] at hn hd
    have hn2 := hn
    rw [List.nodup_append] at hn2
    have h0 := h 0 (by simp)
    have hkid : ∀ k ∈ y.kids, 0 ≤ k ∧ k < (i : Nat) := fun k hk => by have := h0.2 k hk; simpa using this
    have hnd : ((y.kids.map Int.toNat).reverse ++ u).Nodup := by
      rw [List.nodup_append]
      refine ⟨(List.reverse_perm _).nodup_iff.2 hn2.1, hu, ?_⟩
      intro a ha b hb hab
      subst hab
      exact hd a (List.mem_append_left _ (List.mem_reverse.1 ha)) hb
    have ht := take_mk i y.kids u hkid hnd
    obtain ⟨t1, -, -⟩ := take_ok i y.kids u ht hu
    unfold checkL
    have hs0 : shapedE y = 0 := h0.1
    rw [if_neg (by rw [hs0]; simp), if_neg (by rw [ht]; simp), t1]
    refine ih (i + 1) _ (fun j hj => ?_) hn2.2.1 hnd (fun x hx hm => ?_)
    · have := h (j + 1) (by simpa using hj)
      refine ⟨this.1, fun k hk => ?_⟩
      have := this.2 k hk
      omega
    · rcases List.mem_append.1 hm with hm | hm
      · exact hn2.2.2 x (List.mem_reverse.1 hm) x hx rfl
      · exact hd x (List.mem_append_right _ hx) hm
theorem check_mk (l : List Nd) (P : ProgOk l ((l.length : Int) - 1)) (hk : l.getLast?.map Nd.kind = some 1) : checkE l ((l.length : Int) - 1) = 0 := by
  have h3 : (checkL l 0 []).1 = 0 := checkL_mk l 0 [] (fun j hj => ⟨P.shaped j hj, fun k hk => by have := P.ahead j hj k hk; simpa using this⟩) P.once List.nodup_nil (fun x _ hx => by cases hx)
  obtain ⟨g1, g2, -, -, -⟩ := checkL_ok l 0 [] h3 List.nodup_nil
  have hs := P.some_
  have hl := P.long
  unfold checkE
  rw [if_neg (by omega), if_neg ?_, if_neg (by rw [h3]; simp), if_pos (fun j hj => g2 j (.inl (P.each j hj)))]
  rintro (h | h | h)
  · omega
  · exact h rfl
  · exact h hk
theorem check_kind (l : List Nd) (root : Int) (h : checkE l root = 0) : l.getLast?.map Nd.kind = some 1 := by
  unfold checkE at h
  split at h
  · simp at h
  · split at h
    · simp at h
    · rename_i h2
      apply Classical.byContradiction
      intro hne
      exact h2 (.inr (.inr hne))

/-- all that holds while a program is gone through -/
structure ErA (p : Pen) (l : List Nd) (j : Nat) (e : Er) : Prop where
  f : ErF p l j e
  u : ErU l j e
  s : ErS e
  n : e.made.length ≤ 2 * j
theorem step_len (e : Er) (x : Nd) : (eraseStep e x).made.length ≤ e.made.length + 2 := by
  unfold eraseStep
  split
  · simp
  · split <;> simp
theorem erase_all (p : Pen) (hp : PenOk p) {l : List Nd} {root : Int} (P : ProgOk l root) : ∀ j, j ≤ l.length → ErA p l j (eraseTo l j) := by
  intro j
  induction j with
  | zero =>
    intro _
    exact ⟨⟨rfl, fun j hj => absurd hj (by simp [eraseTo]), fun i hi => absurd hi (by simp [eraseTo]), fun i hi => absurd hi (by simp [eraseTo])⟩, ErU.start l, fun x hx => by simp [eraseTo] at hx, by simp [eraseTo]⟩
  | succ j ih =>
    intro hj
    have h := ih (by omega)
    have e : eraseTo l (j + 1) = eraseStep (eraseTo l j) (l[j]'(by omega)) := by
      show (match l[j]? with | none => eraseTo l j | some x => eraseStep (eraseTo l j) x) = _
      rw [List.getElem?_eq_getElem (by omega)]
    rw [e]
    have hf := h.f.step P hp (by omega : j < l.length)
    refine ⟨hf, h.u.step P (by omega) hf.ahead, h.s.step P (by omega), ?_⟩
    have := step_len (eraseTo l j) (l[j]'(by omega))
    have := h.n
    omega
def eraseL (l : List Nd) : List Nd := (eraseTo l l.length).made
/-- ERASED it is a program, written as the bare form says, without anything strict -/
theorem erase_ok (p : Pen) (hp : PenOk p) (l : List Nd) (root : Int) (hc : checkE l root = 0) (hl : l.length ≤ 8192) :
    checkE (eraseL l) ((eraseL l).length - 1) = 0 ∧ formS p (eraseL l) ((eraseL l).length - 1) = bareS p l (l.length - 1) ∧ ∀ x ∈ eraseL l, strictN x = false := by
  have P := check_ok l root hc
  have hk1 := check_kind l root hc
  have hs := P.some_
  have A := erase_all p hp P l.length (Nat.le_refl _)
  obtain ⟨n, hn⟩ : ∃ n, l.length = n + 1 := ⟨l.length - 1, by omega⟩
  have hlast : l[n].kind = 1 := by
    rw [List.getLast?_eq_getElem?, hn, Nat.add_sub_cancel, List.getElem?_eq_getElem (by omega)] at hk1
    simpa using hk1
  have B := erase_all p hp P n (by omega)
  have e : eraseTo l (n + 1) = ⟨(eraseTo l n).made ++ [keptNd l[n] (l[n].kids.map (toOf (eraseTo l n).to))], (eraseTo l n).to ++ [(eraseTo l n).made.length]⟩ := by
    show (match l[n]? with | none => eraseTo l n | some x => eraseStep (eraseTo l n) x) = _
    rw [List.getElem?_eq_getElem (by omega)]
    show eraseStep (eraseTo l n) l[n] = _
    unfold eraseStep
    rw [if_neg (by omega), if_neg (by omega)]
  have eL0 : eraseL l = (eraseTo l (n + 1)).made := by unfold eraseL; rw [hn]
  have eL : eraseL l = (eraseTo l n).made ++ [keptNd l[n] (l[n].kids.map (toOf (eraseTo l n).to))] := by rw [eL0, e]
  have hlen : (eraseL l).length = (eraseTo l n).made.length + 1 := by rw [eL]; simp
  have hto : toN (eraseTo l (n + 1)) n = (eraseTo l n).made.length := by
    rw [e]
    have := toN_new (eraseTo l n) [keptNd l[n] (l[n].kids.map (toOf (eraseTo l n).to))] (eraseTo l n).made.length
    rw [B.u.len] at this
    exact this
  rw [hn] at A
  have hP : ProgOk (eraseL l) (((eraseL l).length : Int) - 1) := by
    refine ⟨?_, by omega, rfl, fun j hj => (A.s _ ?_).1, ?_, ?_, ?_⟩
    · have := A.n; unfold eraseL; rw [hn]; omega
    · have hm := List.getElem_mem hj; unfold eraseL at hm ⊢; simp only [hn] at hm ⊢; exact hm
    · have := A.f.ahead; unfold eraseL; rw [hn]; exact this
    · have := A.u.nodup; unfold eraseL; rw [hn]; exact this
    · intro j hj
      have hj2 : j < (eraseTo l (n + 1)).made.length := by have : eraseL l = (eraseTo l (n + 1)).made := by unfold eraseL; rw [hn]
                                                           rw [← this]; omega
      rcases A.u.all j hj2 with hm | ⟨i, h1, h2, h3⟩
      · unfold eraseL; rw [hn]; exact hm
      · have hin : i = n := by
          apply Classical.byContradiction
          intro hne
          have hi := P.each i (by omega)
          have ht : l.take (n + 1) = l := by rw [← hn]; exact List.take_length
          rw [ht] at h2
          exact h2 hi
        rw [hin, hto] at h3
        omega
  refine ⟨?_, ?_, fun x hx => (A.s x (by unfold eraseL at hx; rw [hn] at hx; exact hx)).2⟩
  · have := check_mk (eraseL l) hP (by
      rw [eL, List.getLast?_append]
      simp only [List.getLast?_singleton, Option.some_or, Option.map_some]
      show some (if l[n].kind = 42 then (23 : Int) else l[n].kind) = some 1
      rw [if_neg (by omega), hlast])
    exact this
  · have hf := A.f.form n (by rw [A.f.len]; omega)
    have ht : (eraseTo l (n + 1)).to[n]'(by rw [A.f.len]; omega) = (eraseTo l n).made.length := by
      rw [← hto]
      unfold toN
      rw [getD_to]
    rw [ht] at hf
    rw [hlen, hn, Nat.add_sub_cancel, Nat.add_sub_cancel]
    unfold eraseL
    rw [hn]
    exact hf
end Go.Proofs.YtfalgnapghienaaGreatDoor
