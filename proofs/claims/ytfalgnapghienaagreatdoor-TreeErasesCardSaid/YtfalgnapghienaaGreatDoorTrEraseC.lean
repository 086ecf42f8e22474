/- A program without what is of the strict language alone: which of its nodes are nobody's yet. -/
import Derived.Test.YtfalgnapghienaaGreatDoorTrEraseB
namespace Go.Proofs.YtfalgnapghienaaGreatDoor
set_option linter.unusedVariables false
set_option linter.unusedSimpArgs false

theorem allKids_app (a b : List Nd) : allKids (a ++ b) = allKids a ++ allKids b := by unfold allKids; rw [List.flatMap_append]
theorem allKids_take {l : List Nd} {j : Nat} (hj : j < l.length) : allKids (l.take (j + 1)) = allKids (l.take j) ++ kidsOf l j := by
  rw [List.take_succ_eq_append_getElem hj, allKids_app, kidsOf_get l j hj]
  simp [allKids]
theorem ahead_all {l : List Nd} (P : Ahead l) {x : Nat} (h : x ∈ allKids l) : x < l.length := by
  obtain ⟨y, hy, hx⟩ := List.mem_flatMap.1 h
  obtain ⟨q, hq, rfl⟩ := List.getElem_of_mem hy
  obtain ⟨k, hk, rfl⟩ := List.mem_map.1 hx
  have := P q hq k hk
  omega
theorem take_nodup {l : List Nd} (h : (allKids l).Nodup) (j : Nat) : (allKids (l.take j)).Nodup := by
  have e : allKids l = allKids (l.take j) ++ allKids (l.drop j) := by rw [← allKids_app, List.take_append_drop]
  rw [e, List.nodup_append] at h
  exact h.1
/-- what a node is made of is nobody's ahead of it -/
theorem kid_open {l : List Nd} (h : (allKids l).Nodup) {j k : Nat} (hj : j < l.length) (hk : k ∈ kidsOf l j) : k ∉ allKids (l.take j) := by
  have h2 := take_nodup h (j + 1)
  rw [allKids_take hj, List.nodup_append] at h2
  intro hm
  exact h2.2.2 k hm k hk rfl

def toN (e : Er) (i : Nat) : Nat := e.to.getD i 0
/-- who is nobody's yet, there and here -/
structure ErU (l : List Nd) (j : Nat) (e : Er) : Prop where
  len : e.to.length = j
  ahead : Ahead e.made
  in_ : ∀ i, i < j → toN e i < e.made.length
  nodup : (allKids e.made).Nodup
  open_ : ∀ i, i < j → i ∉ allKids (l.take j) → toN e i ∉ allKids e.made
  inj : ∀ i i', i < j → i' < j → i ∉ allKids (l.take j) → i' ∉ allKids (l.take j) → toN e i = toN e i' → i = i'
  all : ∀ m, m < e.made.length → m ∈ allKids e.made ∨ ∃ i, i < j ∧ i ∉ allKids (l.take j) ∧ toN e i = m
theorem ErU.start (l : List Nd) : ErU l 0 ⟨[], []⟩ :=
  ⟨rfl, fun j hj => absurd hj (by simp), fun i hi => absurd hi (by omega), by simp [allKids], fun i hi => absurd hi (by omega), fun i _ hi => absurd hi (by omega), fun m hm => absurd hm (by simp)⟩
theorem toN_old (e : Er) (m : List Nd) (t i : Nat) (h : i < e.to.length) : toN ⟨e.made ++ m, e.to ++ [t]⟩ i = toN e i := by
  unfold toN
  simp only [List.getD_eq_getElem?_getD, List.getElem?_append_left h]
theorem toN_new (e : Er) (m : List Nd) (t : Nat) : toN ⟨e.made ++ m, e.to ++ [t]⟩ e.to.length = t := by
  unfold toN
  simp only [List.getD_eq_getElem?_getD, List.getElem?_append_right (Nat.le_refl _)]
  simp
theorem j_open {l : List Nd} {root : Int} (P : ProgOk l root) {j : Nat} (hj : j < l.length) : j ∉ allKids (l.take (j + 1)) := by
  intro h
  obtain ⟨y, hy, hx⟩ := List.mem_flatMap.1 h
  obtain ⟨q, hq, rfl⟩ := List.getElem_of_mem hy
  have hq2 : q < j + 1 ∧ q < l.length := by rw [List.length_take] at hq; omega
  rw [List.getElem_take] at hx
  obtain ⟨k, hk, hkj⟩ := List.mem_map.1 hx
  have := P.ahead q hq2.2 k hk
  omega

/-- new nodes, the last of which stands for the node -/
theorem ErU.grow {l : List Nd} {root : Int} (P : ProgOk l root) {j : Nat} (hj : j < l.length) {e : Er} (h : ErU l j e) (m : List Nd) (t : Nat) (ha : Ahead (e.made ++ m)) (ht : e.made.length ≤ t) (htl : t < e.made.length + m.length)
    (hK : (allKids m).Nodup) (hs : ∀ x ∈ allKids m, (∃ k ∈ kidsOf l j, toN e k = x) ∨ (e.made.length ≤ x ∧ x ≠ t)) (hc : ∀ k ∈ kidsOf l j, toN e k ∈ allKids m)
    (hn : ∀ x, e.made.length ≤ x → x < e.made.length + m.length → x = t ∨ x ∈ allKids m) : ErU l (j + 1) ⟨e.made ++ m, e.to ++ [t]⟩ := by
  have hkj : ∀ k ∈ kidsOf l j, k < j ∧ k ∉ allKids (l.take j) := fun k hk => ⟨kidsOf_lt P hj hk, kid_open P.once hj hk⟩
  have ek := allKids_take hj
  have op : ∀ i, i < j + 1 → i ∉ allKids (l.take (j + 1)) → i ≠ j → i < j ∧ i ∉ allKids (l.take j) ∧ i ∉ kidsOf l j := by
    intro i hi ho hne
    rw [ek] at ho
    exact ⟨by omega, fun hm => ho (List.mem_append_left _ hm), fun hm => ho (List.mem_append_right _ hm)⟩
  have old : ∀ i, i < j → toN ⟨e.made ++ m, e.to ++ [t]⟩ i = toN e i := fun i hi => toN_old e m t i (by rw [h.len]; exact hi)
  have new : toN ⟨e.made ++ m, e.to ++ [t]⟩ j = t := by have := toN_new e m t; rw [h.len] at this; exact this
  refine ⟨by simp [h.len], ha, ?_, ?_, ?_, ?_, ?_⟩
  · intro i hi
    simp only [List.length_append]
    by_cases hij : i = j
    · rw [hij, new]; exact htl
    · rw [old i (by omega)]
      have := h.in_ i (by omega)
      omega
  · show (allKids (e.made ++ m)).Nodup
    rw [allKids_app, List.nodup_append]
    refine ⟨h.nodup, hK, ?_⟩
    intro x hx z hz hxz
    subst hxz
    rcases hs x hz with ⟨k, hk, rfl⟩ | ⟨h1, -⟩
    · obtain ⟨g1, g2⟩ := hkj k hk
      exact h.open_ k g1 g2 hx
    · have := ahead_all h.ahead hx
      omega
  · intro i hi ho
    show _ ∉ allKids (e.made ++ m)
    rw [allKids_app]
    intro hm
    by_cases hij : i = j
    · rw [hij, new] at hm
      rcases List.mem_append.1 hm with hm | hm
      · have := ahead_all h.ahead hm; omega
      · rcases hs t hm with ⟨k, hk, hkt⟩ | ⟨-, h2⟩
        · have := h.in_ k (hkj k hk).1; omega
        · exact h2 rfl
    · obtain ⟨g1, g2, g3⟩ := op i hi ho hij
      rw [old i g1] at hm
      rcases List.mem_append.1 hm with hm | hm
      · exact h.open_ i g1 g2 hm
      · rcases hs _ hm with ⟨k, hk, hkt⟩ | ⟨h2, -⟩
        · have := h.inj k i (hkj k hk).1 g1 (hkj k hk).2 g2 hkt
          exact g3 (this ▸ hk)
        · have := h.in_ i g1; omega
  · intro i i' hi hi' ho ho' he
    by_cases hij : i = j
    · by_cases hij' : i' = j
      · omega
      · obtain ⟨g1, g2, g3⟩ := op i' hi' ho' hij'
        rw [hij, new, old i' g1] at he
        have := h.in_ i' g1
        omega
    · obtain ⟨g1, g2, g3⟩ := op i hi ho hij
      by_cases hij' : i' = j
      · rw [hij', new, old i g1] at he
        have := h.in_ i g1
        omega
      · obtain ⟨q1, q2, q3⟩ := op i' hi' ho' hij'
        rw [old i g1, old i' q1] at he
        exact h.inj i i' g1 q1 g2 q2 he
  · intro x hx
    show x ∈ allKids (e.made ++ m) ∨ _
    rw [allKids_app]
    by_cases hlt : x < e.made.length
    · rcases h.all x hlt with hm | ⟨i, g1, g2, rfl⟩
      · exact .inl (List.mem_append_left _ hm)
      · by_cases hk : i ∈ kidsOf l j
        · exact .inl (List.mem_append_right _ (hc i hk))
        · refine .inr ⟨i, by omega, ?_, old i g1⟩
          rw [ek]
          intro hm
          rcases List.mem_append.1 hm with hm | hm
          · exact g2 hm
          · exact hk hm
    · rcases hn x (by omega) (by simpa using hx) with rfl | hm
      · exact .inr ⟨j, by omega, j_open P hj, new⟩
      · exact .inl (List.mem_append_right _ hm)
/-- a node that stands where what it is made of stands -/
theorem ErU.pass {l : List Nd} {root : Int} (P : ProgOk l root) {j : Nat} (hj : j < l.length) {e : Er} (h : ErU l j e) (k : Nat) (hk : kidsOf l j = [k]) : ErU l (j + 1) ⟨e.made, e.to ++ [toN e k]⟩ := by
  have hkm : k ∈ kidsOf l j := by rw [hk]; exact List.mem_cons_self
  have g : k < j ∧ k ∉ allKids (l.take j) := ⟨kidsOf_lt P hj hkm, kid_open P.once hj hkm⟩
  have ek := allKids_take hj
  have op : ∀ i, i < j + 1 → i ∉ allKids (l.take (j + 1)) → i ≠ j → i < j ∧ i ∉ allKids (l.take j) ∧ i ≠ k := by
    intro i hi ho hne
    rw [ek] at ho
    exact ⟨by omega, fun hm => ho (List.mem_append_left _ hm), fun hm => ho (List.mem_append_right _ (hm ▸ hkm))⟩
  have old : ∀ i, i < j → toN ⟨e.made, e.to ++ [toN e k]⟩ i = toN e i := fun i hi => by
    have := toN_old e [] (toN e k) i (by rw [h.len]; exact hi)
    rw [List.append_nil] at this; exact this
  have new : toN ⟨e.made, e.to ++ [toN e k]⟩ j = toN e k := by
    have := toN_new e [] (toN e k)
    rw [h.len, List.append_nil] at this; exact this
  refine ⟨by simp [h.len], h.ahead, ?_, h.nodup, ?_, ?_, ?_⟩
  · intro i hi
    by_cases hij : i = j
    · rw [hij, new]; exact h.in_ k g.1
    · rw [old i (by omega)]; exact h.in_ i (by omega)
  · intro i hi ho
    by_cases hij : i = j
    · rw [hij, new]; exact h.open_ k g.1 g.2
    · obtain ⟨g1, g2, g3⟩ := op i hi ho hij
      rw [old i g1]; exact h.open_ i g1 g2
  · intro i i' hi hi' ho ho' he
    by_cases hij : i = j
    · by_cases hij' : i' = j
      · omega
      · obtain ⟨g1, g2, g3⟩ := op i' hi' ho' hij'
        rw [hij, new, old i' g1] at he
        exact absurd (h.inj k i' g.1 g1 g.2 g2 he).symm g3
    · obtain ⟨g1, g2, g3⟩ := op i hi ho hij
      by_cases hij' : i' = j
      · rw [hij', new, old i g1] at he
        exact absurd (h.inj i k g1 g.1 g2 g.2 he) g3
      · obtain ⟨q1, q2, q3⟩ := op i' hi' ho' hij'
        rw [old i g1, old i' q1] at he
        exact h.inj i i' g1 q1 g2 q2 he
  · intro x hx
    rcases h.all x hx with hm | ⟨i, g1, g2, rfl⟩
    · exact .inl hm
    · by_cases hik : i = k
      · exact .inr ⟨j, by omega, j_open P hj, by rw [new, hik]⟩
      · refine .inr ⟨i, by omega, ?_, old i g1⟩
        rw [ek, hk]
        intro hm
        rcases List.mem_append.1 hm with hm | hm
        · exact g2 hm
        · exact hik (by simpa using hm)
end Go.Proofs.YtfalgnapghienaaGreatDoor
