/- The walk over a program's nodes, without a program: each node once, in order. -/
import Derived.Test.YtfalgnapghienaaGreatDoorTrFacts
namespace Go.Proofs.YtfalgnapghienaaGreatDoor
set_option linter.unusedVariables false
set_option linter.unusedSimpArgs false

theorem flat_congr {f g : Nat → List Nat} : ∀ (ks : List Nat), (∀ k ∈ ks, f k = g k) → ks.flatMap f = ks.flatMap g := by
  intro ks
  induction ks with
  | nil => intro _; rfl
  | cons k ks ih => intro h; rw [List.flatMap_cons, List.flatMap_cons, h k List.mem_cons_self, ih (fun x hx => h x (List.mem_cons_of_mem _ hx))]
/-- what a node is made of -/
def kidsOf (l : List Nd) (a : Nat) : List Nat := ((l[a]?.map Nd.kids).getD []).map Int.toNat
theorem kidsOf_get (l : List Nd) (a : Nat) (h : a < l.length) : kidsOf l a = l[a].kids.map Int.toNat := by
  unfold kidsOf; rw [List.getElem?_eq_getElem h]; rfl
theorem kidsOf_lt {l : List Nd} {root : Int} (P : ProgOk l root) {a x : Nat} (ha : a < l.length) (hx : x ∈ kidsOf l a) : x < a := by
  rw [kidsOf_get l a ha] at hx
  obtain ⟨k, hk, rfl⟩ := List.mem_map.1 hx
  have := P.ahead a ha k hk
  omega

/-- the walk, so many nodes deep at most -/
def walkF (l : List Nd) : Nat → Nat → List Nat
  | 0, _ => []
  | f + 1, a => a :: (kidsOf l a).flatMap (walkF l f)
def walkS (l : List Nd) (a : Nat) : List Nat := walkF l (a + 1) a
theorem walk_fuel {l : List Nd} {root : Int} (P : ProgOk l root) : ∀ (a : Nat), a < l.length → ∀ f, a + 1 ≤ f → walkF l f a = walkS l a := by
  intro a
  induction a using Nat.strongRecOn with
  | _ a ih =>
    intro ha f hf
    obtain ⟨g, rfl⟩ : ∃ g, f = g + 1 := ⟨f - 1, by omega⟩
    unfold walkS
    show a :: (kidsOf l a).flatMap (walkF l g) = a :: (kidsOf l a).flatMap (walkF l a)
    congr 1
    apply flat_congr
    intro k hk
    have hk' := kidsOf_lt P ha hk
    rw [ih k hk' (by omega) g (by omega), ih k hk' (by omega) a (by omega)]
theorem walk_eq {l : List Nd} {root : Int} (P : ProgOk l root) {a : Nat} (ha : a < l.length) : walkS l a = a :: (kidsOf l a).flatMap (walkS l) := by
  show a :: (kidsOf l a).flatMap (walkF l a) = _
  congr 1
  apply flat_congr
  intro k hk
  have hk' := kidsOf_lt P ha hk
  exact walk_fuel P k (by omega) a (by omega)

theorem walk_le {l : List Nd} {root : Int} (P : ProgOk l root) : ∀ (a : Nat), a < l.length → ∀ x ∈ walkS l a, x ≤ a := by
  intro a
  induction a using Nat.strongRecOn with
  | _ a ih =>
    intro ha x hx
    rw [walk_eq P ha] at hx
    rcases List.mem_cons.1 hx with rfl | hx
    · exact Nat.le_refl _
    · obtain ⟨k, hk, hxk⟩ := List.mem_flatMap.1 hx
      have hk' := kidsOf_lt P ha hk
      have := ih k hk' (by omega) x hxk
      omega
theorem walk_self {l : List Nd} {root : Int} (P : ProgOk l root) {a : Nat} (ha : a < l.length) : a ∈ walkS l a := by
  rw [walk_eq P ha]; exact List.mem_cons_self
/-- who is met has somebody who is made of it, and is met too -/
theorem walk_parent {l : List Nd} {root : Int} (P : ProgOk l root) : ∀ (a : Nat), a < l.length → ∀ x ∈ walkS l a, x = a ∨ ∃ p ∈ walkS l a, x ∈ kidsOf l p := by
  intro a
  induction a using Nat.strongRecOn with
  | _ a ih =>
    intro ha x hx
    rw [walk_eq P ha] at hx
    rcases List.mem_cons.1 hx with rfl | hx
    · exact .inl rfl
    · obtain ⟨k, hk, hxk⟩ := List.mem_flatMap.1 hx
      have hk' := kidsOf_lt P ha hk
      right
      rcases ih k hk' (by omega) x hxk with rfl | ⟨p, hp, hxp⟩
      · exact ⟨a, walk_self P ha, hk⟩
      · refine ⟨p, ?_, hxp⟩
        rw [walk_eq P ha]
        exact List.mem_cons_of_mem _ (List.mem_flatMap.2 ⟨k, hk, hp⟩)
/-- what somebody who is met is made of is met -/
theorem walk_kid {l : List Nd} {root : Int} (P : ProgOk l root) : ∀ (a : Nat), a < l.length → ∀ p ∈ walkS l a, ∀ x ∈ kidsOf l p, x ∈ walkS l a := by
  intro a
  induction a using Nat.strongRecOn with
  | _ a ih =>
    intro ha p hp x hx
    rw [walk_eq P ha] at hp ⊢
    rcases List.mem_cons.1 hp with rfl | hp
    · exact List.mem_cons_of_mem _ (List.mem_flatMap.2 ⟨x, hx, walk_self P (by have := kidsOf_lt P ha hx; omega)⟩)
    · obtain ⟨k, hk, hpk⟩ := List.mem_flatMap.1 hp
      have hk' := kidsOf_lt P ha hk
      exact List.mem_cons_of_mem _ (List.mem_flatMap.2 ⟨k, hk, ih k hk' (by omega) p hpk x hx⟩)

theorem allKids_mem (l : List Nd) : ∀ (q x : Nat), x ∈ kidsOf l q → x ∈ allKids l := by
  intro q x hx
  by_cases hq : q < l.length
  · rw [kidsOf_get l q hq] at hx
    exact List.mem_flatMap.2 ⟨l[q], List.getElem_mem hq, hx⟩
  · unfold kidsOf at hx
    rw [List.getElem?_eq_none (by omega)] at hx
    cases hx
theorem one_parent : ∀ (l : List Nd), (allKids l).Nodup → ∀ (p q x : Nat), x ∈ kidsOf l p → x ∈ kidsOf l q → p = q := by
  intro l
  induction l with
  | nil => intro _ p q x hp; simp [kidsOf] at hp
  | cons y l ih =>
    intro hn p q x hp hq
    have e : allKids (y :: l) = y.kids.map Int.toNat ++ allKids l := by simp [allKids]
    rw [e, List.nodup_append] at hn
    obtain ⟨h1, h2, h3⟩ := hn
    have k0 : kidsOf (y :: l) 0 = y.kids.map Int.toNat := rfl
    have ks : ∀ j, kidsOf (y :: l) (j + 1) = kidsOf l j := fun j => rfl
    match p, q with
    | 0, 0 => rfl
    | 0, q + 1 =>
      rw [k0] at hp
      rw [ks] at hq
      exact absurd rfl (h3 x hp x (allKids_mem l q x hq))
    | p + 1, 0 =>
      rw [k0] at hq
      rw [ks] at hp
      exact absurd rfl (h3 x hq x (allKids_mem l p x hp))
    | p + 1, q + 1 =>
      rw [ks] at hp hq
      rw [ih h2 p q x hp hq]
theorem kids_nodup : ∀ (l : List Nd), (allKids l).Nodup → ∀ p, (kidsOf l p).Nodup := by
  intro l
  induction l with
  | nil => intro _ p; simp [kidsOf]
  | cons y l ih =>
    intro hn p
    have e : allKids (y :: l) = y.kids.map Int.toNat ++ allKids l := by simp [allKids]
    rw [e, List.nodup_append] at hn
    match p with
    | 0 => exact hn.1
    | p + 1 => exact ih hn.2.1 p

/-- the walks of two of what a node is made of meet nobody in common -/
theorem walk_apart {l : List Nd} {root : Int} (P : ProgOk l root) {a k k' : Nat} (ha : a < l.length) (hk : k ∈ kidsOf l a) (hk' : k' ∈ kidsOf l a) (hne : k ≠ k') :
    ∀ (m x : Nat), l.length - x ≤ m → x ∈ walkS l k → x ∈ walkS l k' → False := by
  have b := kidsOf_lt P ha hk
  have b' := kidsOf_lt P ha hk'
  intro m
  induction m with
  | zero =>
    intro x hm hx _
    have := walk_le P k (by omega) x hx
    omega
  | succ m ih =>
    intro x hm hx hx'
    have hxk := walk_le P k (by omega) x hx
    rcases walk_parent P k (by omega) x hx with rfl | ⟨p, hp, hxp⟩
    · rcases walk_parent P k' (by omega) x hx' with rfl | ⟨q, hq, hxq⟩
      · exact hne rfl
      · obtain rfl := one_parent l P.once a q x hk hxq
        have := walk_le P k' (by omega) a hq
        omega
    · have hpk := walk_le P k (by omega) p hp
      rcases walk_parent P k' (by omega) x hx' with rfl | ⟨q, hq, hxq⟩
      · obtain rfl := one_parent l P.once a p x hk' hxp
        omega
      · obtain rfl := one_parent l P.once p q x hxp hxq
        have := kidsOf_lt P (by omega) hxp
        exact ih p (by omega) hp hq

theorem nodup_flat {f : Nat → List Nat} : ∀ (ks : List Nat), ks.Nodup → (∀ k ∈ ks, (f k).Nodup) → (∀ k ∈ ks, ∀ k' ∈ ks, k ≠ k' → ∀ x ∈ f k, x ∉ f k') → (ks.flatMap f).Nodup := by
  intro ks
  induction ks with
  | nil => intro _ _ _; simp
  | cons k ks ih =>
    intro hn h1 h2
    rw [List.flatMap_cons, List.nodup_append]
    rw [List.nodup_cons] at hn
    refine ⟨h1 k List.mem_cons_self, ih hn.2 (fun x hx => h1 x (List.mem_cons_of_mem _ hx)) (fun x hx y hy => h2 x (List.mem_cons_of_mem _ hx) y (List.mem_cons_of_mem _ hy)), ?_⟩
    intro x hx z hz hxz
    subst hxz
    obtain ⟨k', hk', hxk'⟩ := List.mem_flatMap.1 hz
    exact h2 k List.mem_cons_self k' (List.mem_cons_of_mem _ hk') (fun e => hn.1 (e ▸ hk')) x hx hxk'
/-- each is met once -/
theorem walk_once {l : List Nd} {root : Int} (P : ProgOk l root) : ∀ (a : Nat), a < l.length → (walkS l a).Nodup := by
  intro a
  induction a using Nat.strongRecOn with
  | _ a ih =>
    intro ha
    rw [walk_eq P ha, List.nodup_cons]
    refine ⟨?_, ?_⟩
    · intro h
      obtain ⟨k, hk, hxk⟩ := List.mem_flatMap.1 h
      have hk' := kidsOf_lt P ha hk
      have := walk_le P k (by omega) a hxk
      omega
    · refine nodup_flat _ (kids_nodup l P.once a) (fun k hk => ?_) (fun k hk k' hk' hne x hx hx' => ?_)
      · have hk' := kidsOf_lt P ha hk
        exact ih k hk' (by omega)
      · exact walk_apart P ha hk hk' hne (l.length - x) x (Nat.le_refl _) hx hx'
/-- the whole's walk meets all -/
theorem walk_all {l : List Nd} {root : Int} (P : ProgOk l root) : ∀ (m j : Nat), l.length - j ≤ m → j < l.length → j ∈ walkS l (l.length - 1) := by
  intro m
  induction m with
  | zero => intro j h1 h2; omega
  | succ m ih =>
    intro j hm hj
    have hs := P.some_
    by_cases hjr : j = l.length - 1
    · rw [hjr]; exact walk_self P (by omega)
    · have := P.each j (by omega)
      obtain ⟨y, hy, hjy⟩ := List.mem_flatMap.1 this
      obtain ⟨p, hp, rfl⟩ := List.getElem_of_mem hy
      have hk : j ∈ kidsOf l p := by rw [kidsOf_get l p hp]; exact hjy
      have hlt := kidsOf_lt P hp hk
      exact walk_kid P _ (by omega) p (ih p (by omega) hp) j hk
theorem nodup_len : ∀ (n : Nat) (L : List Nat), L.Nodup → (∀ x ∈ L, x < n) → L.length ≤ n := by
  intro n
  induction n with
  | zero =>
    intro L _ h
    match L with
    | [] => exact Nat.le_refl _
    | x :: _ => exact absurd (h x List.mem_cons_self) (by omega)
  | succ n ih =>
    intro L hn h
    by_cases hm : n ∈ L
    · have h1 := ih (L.erase n) (hn.erase n) (fun x hx => by
        have h2 := h x (List.mem_of_mem_erase hx)
        have h3 : x ≠ n := fun e => by subst e; exact (hn.mem_erase_iff.1 hx).1 rfl
        omega)
      rw [List.length_erase_of_mem hm] at h1
      omega
    · have := ih L hn (fun x hx => by
        have h2 := h x hx
        have h3 : x ≠ n := fun e => hm (e ▸ hx)
        omega)
      omega
theorem len_all : ∀ (n : Nat) (L : List Nat), (∀ j, j < n → j ∈ L) → n ≤ L.length := by
  intro n
  induction n with
  | zero => intro L _; omega
  | succ n ih =>
    intro L h
    have hm := h n (by omega)
    have h1 := ih (L.erase n) (fun j hj => (List.mem_erase_of_ne (by omega)).2 (h j (by omega)))
    rw [List.length_erase_of_mem hm] at h1
    have := List.length_pos_of_mem hm
    omega
/-- the whole's walk is as long as there are nodes -/
theorem walk_len {l : List Nd} {root : Int} (P : ProgOk l root) : (walkS l (l.length - 1)).length = l.length := by
  have hs := P.some_
  have h1 := nodup_len l.length _ (walk_once P (l.length - 1) (by omega)) (fun x hx => by have := walk_le P _ (by omega) x hx; omega)
  have h2 := len_all l.length (walkS l (l.length - 1)) (fun j hj => walk_all P _ j (Nat.le_refl _) hj)
  omega
/-- who was seen, and who will be: there is room -/
theorem walk_room {l : List Nd} {root : Int} (P : ProgOk l root) {s : List Nat} {a : Nat} (ha : a < l.length) (hn : (s ++ walkS l a).Nodup) (hs : ∀ x ∈ s, x < l.length) : s.length < l.length := by
  have h1 := nodup_len l.length (s ++ walkS l a) hn (fun x hx => by
    rcases List.mem_append.1 hx with hx | hx
    · exact hs x hx
    · have := walk_le P a ha x hx; omega)
  rw [walk_eq P ha] at h1
  simp at h1
  omega

/-- how many nodes stand one in the other below a node, so many deep at most -/
def deepF (l : List Nd) : Nat → Nat → Nat
  | 0, _ => 0
  | f + 1, a => (kidsOf l a).foldl (fun m k => max m (deepF l f k)) 0 + 1
def deepS (l : List Nd) (a : Nat) : Nat := deepF l (a + 1) a
theorem fold_congr {f g : Nat → Nat} : ∀ (ks : List Nat) (m : Nat), (∀ k ∈ ks, f k = g k) → ks.foldl (fun m k => max m (f k)) m = ks.foldl (fun m k => max m (g k)) m := by
  intro ks
  induction ks with
  | nil => intro m _; rfl
  | cons k ks ih =>
    intro m h
    rw [List.foldl_cons, List.foldl_cons, h k List.mem_cons_self]
    exact ih _ (fun x hx => h x (List.mem_cons_of_mem _ hx))
theorem deep_fuel {l : List Nd} {root : Int} (P : ProgOk l root) : ∀ (a : Nat), a < l.length → ∀ f, a + 1 ≤ f → deepF l f a = deepS l a := by
  intro a
  induction a using Nat.strongRecOn with
  | _ a ih =>
    intro ha f hf
    obtain ⟨g, rfl⟩ : ∃ g, f = g + 1 := ⟨f - 1, by omega⟩
    show (kidsOf l a).foldl (fun m k => max m (deepF l g k)) 0 + 1 = (kidsOf l a).foldl (fun m k => max m (deepF l a k)) 0 + 1
    congr 1
    apply fold_congr
    intro k hk
    have hk' := kidsOf_lt P ha hk
    rw [ih k hk' (by omega) g (by omega), ih k hk' (by omega) a (by omega)]
theorem deep_eq {l : List Nd} {root : Int} (P : ProgOk l root) {a : Nat} (ha : a < l.length) : deepS l a = (kidsOf l a).foldl (fun m k => max m (deepS l k)) 0 + 1 := by
  show (kidsOf l a).foldl (fun m k => max m (deepF l a k)) 0 + 1 = _
  congr 1
  apply fold_congr
  intro k hk
  have hk' := kidsOf_lt P ha hk
  exact deep_fuel P k (by omega) a (by omega)
end Go.Proofs.YtfalgnapghienaaGreatDoor
