/- Null's way through a graph, without a program: the nearest nodes first. -/
import Derived.Test.YtkhgpflpbdakoaaGrB
namespace Go.Proofs.Ytkhgpflpbdakoaa
open Go Go.RowKit
set_option linter.unusedVariables false
set_option linter.unusedSimpArgs false

def eto (L : List Eg) (i : Nat) : Int := (L[i]?.getD (0, 0, 0, 0)).2.1
def efr (L : List Eg) (i : Nat) : Int := (L[i]?.getD (0, 0, 0, 0)).1
theorem eto_eq {L : List Eg} {i : Nat} (h : i < L.length) : eto L i = L[i].2.1 := by unfold eto; rw [List.getElem?_eq_getElem h]; rfl
theorem efr_eq {L : List Eg} {i : Nat} (h : i < L.length) : efr L i = L[i].1 := by unfold efr; rw [List.getElem?_eq_getElem h]; rfl
theorem idx_iff {L : List Eg} {y : Int} {i : Nat} : i ∈ idx L y ↔ i < L.length ∧ efr L i = y := by
  constructor
  · intro h
    obtain ⟨h1, h2⟩ := idx_lt h
    exact ⟨h1, by rw [efr_eq h1, h2]⟩
  · rintro ⟨h1, rfl⟩
    rw [efr_eq h1]
    exact idx_mem h1

/-- may an edge be there? -/
def okE' (n : Nat) (e : Eg) : Prop := (e.1 = -1 ∨ (0 ≤ e.1 ∧ e.1 < n)) ∧ 0 ≤ e.2.1 ∧ e.2.1 < n
/-- null comes to a node along so many open edges -/
inductive Way (L : List Eg) (op : Nat → Bool) : Nat → Int → Prop
  | start : Way L op 0 (-1)
  | go {k : Nat} {i : Nat} (h : Way L op k (efr L i)) (hi : i < L.length) (ho : op i = true) : Way L op (k + 1) (eto L i)

/-- how far it has come -/
structure Bf where
  far : Nat → Int
  by_ : Nat → Nat
  line : List Int
def up {α : Type} (f : Nat → α) (z : Nat) (x : α) : Nat → α := fun y => if y = z then x else f y
theorem up_same {α : Type} (f : Nat → α) (z : Nat) (x : α) : up f z x z = x := by unfold up; rw [if_pos rfl]
theorem up_other {α : Type} (f : Nat → α) {z y : Nat} (x : α) (h : y ≠ z) : up f z x y = f y := by unfold up; rw [if_neg h]
def visit (L : List Eg) (op : Nat → Bool) (nx : Int) (s : Bf) (i : Nat) : Bf :=
  if s.far (eto L i).toNat = -1 ∧ op i = true then ⟨up s.far (eto L i).toNat nx, up s.by_ (eto L i).toNat i, s.line ++ [eto L i]⟩ else s
def key (s : Bf) (y : Int) : Int := if y = -1 then 0 else s.far y.toNat
def vis (n : Nat) (s : Bf) (y : Int) : Prop := y = -1 ∨ (0 ≤ y ∧ y < n ∧ s.far y.toNat ≠ -1)
def done (L : List Eg) (op : Nat → Bool) (s : Bf) (y : Int) : Prop := ∀ i ∈ idx L y, op i = true → s.far (eto L i).toNat ≠ -1 ∧ s.far (eto L i).toNat ≤ key s y + 1
def found (L : List Eg) (op : Nat → Bool) (n : Nat) (s : Bf) : Prop :=
  ∀ z, z < n → s.far z = -1 ∨ (1 ≤ s.far z ∧ s.by_ z < L.length ∧ op (s.by_ z) = true ∧ eto L (s.by_ z) = z ∧ ((efr L (s.by_ z) = -1 ∧ s.far z = 1) ∨ (0 ≤ efr L (s.by_ z) ∧ efr L (s.by_ z) < n ∧ s.far (efr L (s.by_ z)).toNat ≠ -1 ∧ s.far z = s.far (efr L (s.by_ z)).toNat + 1)))
/-- between two nodes -/
structure BI (L : List Eg) (op : Nat → Bool) (n : Nat) (s : Bf) : Prop where
  a : found L op n s
  b : ∀ y ∈ s.line, vis n s y
  c : ∀ y, vis n s y → y ∈ s.line ∨ done L op s y
  d : s.line.Pairwise (fun x y => key s x ≤ key s y)
  e : ∀ h t, s.line = h :: t → ∀ y, vis n s y → key s y ≤ key s h + 1
  m : ∀ z, n ≤ z → s.far z = -1
/-- at a node, some of its edges still to come -/
structure BJ (L : List Eg) (op : Nat → Bool) (n : Nat) (y : Int) (pre todo : List Nat) (s : Bf) : Prop where
  a : found L op n s
  b : ∀ x ∈ s.line, vis n s x
  c : ∀ x, vis n s x → x ∈ s.line ∨ x = y ∨ done L op s x
  c2 : ∀ i ∈ pre, op i = true → s.far (eto L i).toNat ≠ -1 ∧ s.far (eto L i).toNat ≤ key s y + 1
  d : s.line.Pairwise (fun x y => key s x ≤ key s y)
  e : ∀ x, vis n s x → key s x ≤ key s y + 1
  f : ∀ x ∈ s.line, key s y ≤ key s x
  v : vis n s y
  i : idx L y = pre ++ todo
  m : ∀ z, n ≤ z → s.far z = -1
def start : Bf := ⟨fun _ => -1, fun _ => 0, [-1]⟩
theorem BI.start (L : List Eg) (op : Nat → Bool) (n : Nat) : BI L op n start := by
  refine ⟨fun z _ => .inl rfl, fun y hy => .inl (by simpa [Proofs.Ytkhgpflpbdakoaa.start] using hy), ?_, by simp [Proofs.Ytkhgpflpbdakoaa.start], ?_, fun _ _ => rfl⟩
  · rintro y (rfl | ⟨_, _, h⟩)
    · exact .inl (by simp [Proofs.Ytkhgpflpbdakoaa.start])
    · exact absurd rfl h
  · rintro h t ht y (rfl | ⟨_, _, hy⟩)
    · have : h = -1 := by simp [Proofs.Ytkhgpflpbdakoaa.start] at ht; exact ht.1.symm
      subst this
      omega
    · exact absurd rfl hy
theorem BI.take {L : List Eg} {op : Nat → Bool} {n : Nat} {s : Bf} (h : BI L op n s) {y : Int} {r : List Int} (hl : s.line = y :: r) : BJ L op n y [] (idx L y) { s with line := r } := by
  have hp := h.d
  rw [hl] at hp
  obtain ⟨p1, p2⟩ := List.pairwise_cons.1 hp
  refine ⟨h.a, fun x hx => h.b x (by rw [hl]; exact List.mem_cons_of_mem _ hx), fun x hx => ?_, fun i hi => (by cases hi), p2, fun x hx => h.e y r hl x hx, fun x hx => p1 x hx, h.b y (by rw [hl]; exact List.mem_cons_self), rfl, h.m⟩
  rcases h.c x hx with q | q
  · rw [hl] at q
    rcases List.mem_cons.1 q with rfl | q
    · exact .inr (.inl rfl)
    · exact .inl q
  · exact .inr (.inr q)
theorem BJ.give {L : List Eg} {op : Nat → Bool} {n : Nat} {y : Int} {s : Bf} (h : BJ L op n y (idx L y) [] s) : BI L op n s := by
  refine ⟨h.a, h.b, fun x hx => ?_, h.d, fun x t ht z hz => ?_, h.m⟩
  · rcases h.c x hx with q | rfl | q
    · exact .inl q
    · exact .inr (fun i hi ho => h.c2 i hi ho)
    · exact .inr q
  · have h1 := h.e z hz
    have h2 := h.f x (by rw [ht]; exact List.mem_cons_self)
    omega
theorem BJ.visit {L : List Eg} {op : Nat → Bool} {n : Nat} {y : Int} {pre todo : List Nat} {i : Nat} {s : Bf} (hok : ∀ e ∈ L, okE' n e) (h : BJ L op n y pre (i :: todo) s) : BJ L op n y (pre ++ [i]) todo (visit L op (key s y + 1) s i) := by
  have hi : i ∈ idx L y := by rw [h.i]; simp
  obtain ⟨hil, hif⟩ := idx_iff.1 hi
  have hto : 0 ≤ eto L i ∧ eto L i < n := by
    have := (hok L[i] (List.getElem_mem hil)).2
    rwa [eto_eq hil]
  by_cases hc : s.far (eto L i).toNat = -1 ∧ op i = true
  · obtain ⟨hf, ho⟩ := hc
    obtain ⟨z, hz⟩ : ∃ z : Nat, z = (eto L i).toNat := ⟨_, rfl⟩
    have hzi : eto L i = (z : Int) := by omega
    have hzn : z < n := by omega
    rw [← hz] at hf
    have ev : Proofs.Ytkhgpflpbdakoaa.visit L op (key s y + 1) s i = ⟨up s.far z (key s y + 1), up s.by_ z i, s.line ++ [eto L i]⟩ := by
      unfold Proofs.Ytkhgpflpbdakoaa.visit
      rw [← hz, if_pos ⟨hf, ho⟩]
    rw [ev]
    have hyz : ¬ (0 ≤ y ∧ y.toNat = z) := by
      rintro ⟨h0, h1⟩
      rcases h.v with q | ⟨_, _, q⟩
      · omega
      · rw [h1] at q; exact q hf
    have ky : ∀ l, key ⟨up s.far z (key s y + 1), up s.by_ z i, l⟩ y = key s y := fun l => by
      show (if y = -1 then 0 else up s.far z (key s y + 1) y.toNat) = if y = -1 then 0 else s.far y.toNat
      by_cases q : y = -1
      · rw [if_pos q, if_pos q]
      · rw [if_neg q, if_neg q, up_other]
        rcases h.v with q2 | ⟨q2, _, _⟩
        · exact absurd q2 q
        · exact fun q3 => hyz ⟨q2, q3⟩
    have kx : ∀ l x, vis n s x → key ⟨up s.far z (key s y + 1), up s.by_ z i, l⟩ x = key s x := fun l x hx => by
      show (if x = -1 then 0 else up s.far z (key s y + 1) x.toNat) = if x = -1 then 0 else s.far x.toNat
      by_cases q : x = -1
      · rw [if_pos q, if_pos q]
      · rw [if_neg q, if_neg q, up_other]
        rcases hx with q2 | ⟨q2, _, q3⟩
        · exact absurd q2 q
        · intro q4
          rw [q4] at q3
          exact q3 hf
    have kz : ∀ l, key ⟨up s.far z (key s y + 1), up s.by_ z i, l⟩ (z : Int) = key s y + 1 := fun l => by
      show (if (z : Int) = -1 then 0 else up s.far z (key s y + 1) (z : Int).toNat) = _
      rw [if_neg (by omega), Int.toNat_natCast, up_same]
    have kpos : 0 ≤ key s y := by
      unfold key
      by_cases q : y = -1
      · rw [if_pos q]; omega
      · rw [if_neg q]
        rcases h.v with q2 | ⟨q2, q3, q4⟩
        · exact absurd q2 q
        · rcases h.a y.toNat (by omega) with q5 | q5
          · exact absurd q5 q4
          · omega
    have visx : ∀ l x, vis n s x → vis n ⟨up s.far z (key s y + 1), up s.by_ z i, l⟩ x := fun l x hx => by
      rcases hx with q | ⟨q1, q2, q3⟩
      · exact .inl q
      · refine .inr ⟨q1, q2, ?_⟩
        show up s.far z (key s y + 1) x.toNat ≠ -1
        rw [up_other]
        · exact q3
        · intro q4; rw [q4] at q3; exact q3 hf
    have visb : ∀ l x, vis n ⟨up s.far z (key s y + 1), up s.by_ z i, l⟩ x → vis n s x ∨ x = z := fun l x hx => by
      rcases hx with q | ⟨q1, q2, q3⟩
      · exact .inl (.inl q)
      · by_cases q4 : x.toNat = z
        · exact .inr (by omega)
        · have q3 : up s.far z (key s y + 1) x.toNat ≠ -1 := q3
          rw [up_other _ _ q4] at q3
          exact .inl (.inr ⟨q1, q2, q3⟩)
    have farx : ∀ j : Nat, s.far j ≠ -1 → up s.far z (key s y + 1) j = s.far j := fun j hj => up_other _ _ (fun q => by rw [q] at hj; exact hj hf)
    refine ⟨?_, ?_, ?_, ?_, ?_, ?_, ?_, visx _ y h.v, by rw [h.i]; simp, ?_⟩
    · intro x hx
      by_cases q : x = z
      · subst q
        refine .inr ⟨?_, ?_⟩
        · show 1 ≤ up s.far x (key s y + 1) x
          rw [up_same]; omega
        · show up s.by_ x i x < L.length ∧ op (up s.by_ x i x) = true ∧ eto L (up s.by_ x i x) = x ∧ ((efr L (up s.by_ x i x) = -1 ∧ up s.far x (key s y + 1) x = 1) ∨ (0 ≤ efr L (up s.by_ x i x) ∧ efr L (up s.by_ x i x) < n ∧ up s.far x (key s y + 1) (efr L (up s.by_ x i x)).toNat ≠ -1 ∧ up s.far x (key s y + 1) x = up s.far x (key s y + 1) (efr L (up s.by_ x i x)).toNat + 1))
          rw [up_same, up_same, hif]
          refine ⟨hil, ho, hzi, ?_⟩
          rcases h.v with q2 | ⟨q2, q3, q4⟩
          · exact .inl ⟨q2, by unfold key; rw [if_pos q2]; omega⟩
          · refine .inr ⟨q2, q3, ?_, ?_⟩
            · rw [farx _ q4]; exact q4
            · rw [farx _ q4]; unfold key; rw [if_neg (by omega)]
      · have e1 : up s.far z (key s y + 1) x = s.far x := up_other _ _ q
        have e2 : up s.by_ z i x = s.by_ x := up_other _ _ q
        show up s.far z (key s y + 1) x = -1 ∨ (1 ≤ up s.far z (key s y + 1) x ∧ up s.by_ z i x < L.length ∧ op (up s.by_ z i x) = true ∧ eto L (up s.by_ z i x) = x ∧ ((efr L (up s.by_ z i x) = -1 ∧ up s.far z (key s y + 1) x = 1) ∨ (0 ≤ efr L (up s.by_ z i x) ∧ efr L (up s.by_ z i x) < n ∧ up s.far z (key s y + 1) (efr L (up s.by_ z i x)).toNat ≠ -1 ∧ up s.far z (key s y + 1) x = up s.far z (key s y + 1) (efr L (up s.by_ z i x)).toNat + 1)))
        rw [e1, e2]
        rcases h.a x hx with q2 | ⟨q2, q3, q4, q5, q6⟩
        · exact .inl q2
        · refine .inr ⟨q2, q3, q4, q5, ?_⟩
          rcases q6 with q6 | ⟨q6, q7, q8, q9⟩
          · exact .inl q6
          · refine .inr ⟨q6, q7, ?_, ?_⟩
            · rw [farx _ q8]; exact q8
            · rw [farx _ q8]; exact q9
    · intro x hx
      rcases List.mem_append.1 hx with hx | hx
      · exact visx _ x (h.b x hx)
      · rw [List.mem_singleton] at hx
        subst hx
        refine .inr ⟨hto.1, hto.2, ?_⟩
        show up s.far z (key s y + 1) (eto L i).toNat ≠ -1
        rw [← hz, up_same]
        omega
    · intro x hx
      rcases visb _ x hx with hx | rfl
      · rcases h.c x hx with q | q | q
        · exact .inl (List.mem_append_left _ q)
        · exact .inr (.inl q)
        · refine .inr (.inr (fun j hj hoj => ?_))
          obtain ⟨g1, g2⟩ := q j hj hoj
          rw [kx _ x hx]
          show up s.far z (key s y + 1) (eto L j).toNat ≠ -1 ∧ up s.far z (key s y + 1) (eto L j).toNat ≤ key s x + 1
          rw [farx _ g1]
          exact ⟨g1, g2⟩
      · exact .inl (List.mem_append_right _ (by rw [hzi]; simp))
    · intro j hj hoj
      rw [ky]
      show up s.far z (key s y + 1) (eto L j).toNat ≠ -1 ∧ up s.far z (key s y + 1) (eto L j).toNat ≤ key s y + 1
      rcases List.mem_append.1 hj with hj | hj
      · obtain ⟨g1, g2⟩ := h.c2 j hj hoj
        rw [farx _ g1]
        exact ⟨g1, g2⟩
      · rw [List.mem_singleton] at hj
        subst hj
        rw [← hz, up_same]
        exact ⟨by omega, by omega⟩
    · refine List.pairwise_append.2 ⟨?_, by simp, ?_⟩
      · refine h.d.imp_of_mem ?_
        intro a b ha hb hab
        rw [kx _ a (h.b a ha), kx _ b (h.b b hb)]
        exact hab
      · intro a ha b hb
        rw [List.mem_singleton] at hb
        subst hb
        rw [kx _ a (h.b a ha), hzi, kz]
        exact h.e a (h.b a ha)
    · intro x hx
      rw [ky]
      rcases visb _ x hx with hx | rfl
      · rw [kx _ x hx]; exact h.e x hx
      · rw [kz]; omega
    · intro x hx
      rw [ky]
      rcases List.mem_append.1 hx with hx | hx
      · rw [kx _ x (h.b x hx)]; exact h.f x hx
      · rw [List.mem_singleton] at hx
        subst hx
        rw [hzi, kz]; omega
    · intro x hx
      show up s.far z (key s y + 1) x = -1
      rw [up_other _ _ (by omega)]
      exact h.m x hx
  · have ev : Proofs.Ytkhgpflpbdakoaa.visit L op (key s y + 1) s i = s := by unfold Proofs.Ytkhgpflpbdakoaa.visit; rw [if_neg hc]
    rw [ev]
    refine ⟨h.a, h.b, h.c, ?_, h.d, h.e, h.f, h.v, by rw [h.i]; simp, h.m⟩
    intro j hj hoj
    rcases List.mem_append.1 hj with hj | hj
    · exact h.c2 j hj hoj
    · rw [List.mem_singleton] at hj
      subst hj
      have h1 : s.far (eto L j).toNat ≠ -1 := fun q => hc ⟨q, hoj⟩
      refine ⟨h1, ?_⟩
      have h2 := h.e (eto L j) (.inr ⟨hto.1, hto.2, h1⟩)
      unfold key at h2 ⊢
      rw [if_neg (by omega)] at h2
      exact h2

/-- how many rounds are to come -/
def left (n : Nat) (s : Bf) : Nat := 2 * (List.range n).countP (fun z => s.far z == -1) + s.line.length
theorem BJ.pos {L : List Eg} {op : Nat → Bool} {n : Nat} {y : Int} {pre todo : List Nat} {s : Bf} (h : BJ L op n y pre todo s) : 0 ≤ key s y := by
  unfold key
  by_cases q : y = -1
  · rw [if_pos q]; omega
  · rw [if_neg q]
    rcases h.v with q2 | ⟨q2, q3, q4⟩
    · exact absurd q2 q
    · rcases h.a y.toNat (by omega) with q5 | q5
      · exact absurd q5 q4
      · omega
theorem left_visit {L : List Eg} {op : Nat → Bool} {n : Nat} {nx : Int} {s : Bf} {i : Nat} (hto : 0 ≤ eto L i ∧ eto L i < n) (hnx : nx ≠ -1) : left n (visit L op nx s i) ≤ left n s := by
  unfold visit
  by_cases hc : s.far (eto L i).toNat = -1 ∧ op i = true
  · rw [if_pos hc]
    unfold left
    have hz : (eto L i).toNat < n := by omega
    generalize (eto L i).toNat = z at *
    have key : ∀ l : List Nat, l.Nodup → z ∈ l → (l.countP (fun x => up s.far z nx x == -1)) + 1 ≤ l.countP (fun x => s.far x == -1) := by
      intro l
      induction l with
      | nil => intro _ h; cases h
      | cons x r ih =>
        intro hn hm
        obtain ⟨n1, n2⟩ := List.nodup_cons.1 hn
        rw [List.countP_cons, List.countP_cons]
        rcases List.mem_cons.1 hm with rfl | hm
        · have e1 : (up s.far z nx z == -1) = false := by rw [up_same]; simpa using hnx
          have e2 : (s.far z == -1) = true := by simpa using hc.1
          rw [e1, e2]
          have : r.countP (fun x => up s.far z nx x == -1) = r.countP (fun x => s.far x == -1) := by
            apply List.countP_congr
            intro x hx
            rw [up_other _ _ (fun q => by subst q; exact n1 hx)]
          simp [this]
        · have hxz : x ≠ z := fun q => by subst q; exact n1 hm
          rw [up_other _ _ hxz]
          have := ih n2 hm
          omega
    have := key (List.range n) List.nodup_range (List.mem_range.2 hz)
    show 2 * (List.range n).countP (fun x => up s.far z nx x == -1) + (s.line ++ [eto L i]).length ≤ 2 * (List.range n).countP (fun x => s.far x == -1) + s.line.length
    rw [List.length_append, List.length_singleton]
    omega
  · rw [if_neg hc]; exact Nat.le_refl _

theorem cnt_up (far : Nat → Int) (z : Nat) (nx : Int) (hz : far z = -1) (hnx : nx ≠ -1) : ∀ l : List Nat, l.Nodup → z ∈ l → (l.countP (fun x => up far z nx x == -1)) + 1 ≤ l.countP (fun x => far x == -1) := by
  intro l
  induction l with
  | nil => intro _ h; cases h
  | cons x r ih =>
    intro hn hm
    obtain ⟨n1, n2⟩ := List.nodup_cons.1 hn
    rw [List.countP_cons, List.countP_cons]
    rcases List.mem_cons.1 hm with rfl | hm
    · have e1 : (up far z nx z == -1) = false := by rw [up_same]; simpa using hnx
      have e2 : (far z == -1) = true := by simpa using hz
      rw [e1, e2]
      have : r.countP (fun x => up far z nx x == -1) = r.countP (fun x => far x == -1) := by
        apply List.countP_congr
        intro x hx
        rw [up_other _ _ (fun q => by subst q; exact n1 hx)]
      simp [this]
    · have hxz : x ≠ z := fun q => by subst q; exact n1 hm
      rw [up_other _ _ hxz]
      have := ih n2 hm
      omega
/-- no distance is greater than how many nodes have one -/
def Bd (n : Nat) (s : Bf) : Prop := ∀ z, z < n → -1 ≤ s.far z ∧ s.far z + ((List.range n).countP (fun x => s.far x == -1) : Nat) ≤ (n : Int)
theorem Bd.start (n : Nat) : Bd n Proofs.Ytkhgpflpbdakoaa.start := by
  intro z hz
  have h1 : (Proofs.Ytkhgpflpbdakoaa.start).far z = -1 := rfl
  have h2 := List.countP_le_length (p := fun x => (Proofs.Ytkhgpflpbdakoaa.start).far x == -1) (l := List.range n)
  rw [List.length_range] at h2
  rw [h1]
  exact ⟨Int.le_refl _, by omega⟩
theorem Bd.line {n : Nat} {s : Bf} (h : Bd n s) (l : List Int) : Bd n { s with line := l } := h
theorem Bd.key {n : Nat} {s : Bf} (h : Bd n s) {y : Int} (hv : vis n s y) : Proofs.Ytkhgpflpbdakoaa.key s y + ((List.range n).countP (fun x => s.far x == -1) : Nat) ≤ (n : Int) := by
  unfold Proofs.Ytkhgpflpbdakoaa.key
  by_cases q : y = -1
  · rw [if_pos q]
    have h2 := List.countP_le_length (p := fun x => s.far x == -1) (l := List.range n)
    rw [List.length_range] at h2
    omega
  · rw [if_neg q]
    rcases hv with q2 | ⟨q1, q2, _⟩
    · exact absurd q2 q
    · exact (h y.toNat (by omega)).2
theorem Bd.visit {L : List Eg} {op : Nat → Bool} {n : Nat} {s : Bf} {i : Nat} {y : Int} (h : Bd n s) (hv : vis n s y) (hk : 0 ≤ Proofs.Ytkhgpflpbdakoaa.key s y) (hto : 0 ≤ eto L i ∧ eto L i < n) : Bd n (visit L op (Proofs.Ytkhgpflpbdakoaa.key s y + 1) s i) := by
  unfold Proofs.Ytkhgpflpbdakoaa.visit
  by_cases hc : s.far (eto L i).toNat = -1 ∧ op i = true
  · rw [if_pos hc]
    have hy := h.key hv
    have hz : (eto L i).toNat < n := by omega
    generalize (eto L i).toNat = z at *
    have hcu := cnt_up s.far z (Proofs.Ytkhgpflpbdakoaa.key s y + 1) hc.1 (by omega) (List.range n) List.nodup_range (List.mem_range.2 hz)
    intro x hx
    show -1 ≤ up s.far z (Proofs.Ytkhgpflpbdakoaa.key s y + 1) x ∧ up s.far z (Proofs.Ytkhgpflpbdakoaa.key s y + 1) x + ((List.range n).countP (fun x => up s.far z (Proofs.Ytkhgpflpbdakoaa.key s y + 1) x == -1) : Nat) ≤ (n : Int)
    by_cases q : x = z
    · rw [q, up_same]; omega
    · rw [up_other _ _ q]
      have := h x hx
      omega
  · rw [if_neg hc]; exact h
/-- when nothing is left: how far it is to each node -/
def Dist (L : List Eg) (op : Nat → Bool) (z : Int) (d : Int) : Prop := (d = -1 ∧ ∀ k, ¬ Way L op k z) ∨ (1 ≤ d ∧ Way L op d.toNat z ∧ ∀ k, Way L op k z → d ≤ (k : Int))
theorem BI.dist {L : List Eg} {op : Nat → Bool} {n : Nat} {s : Bf} (hok : ∀ e ∈ L, okE' n e) (h : BI L op n s) (hl : s.line = []) (z : Nat) (hz : z < n) : Dist L op z (s.far z) := by
  have hd : ∀ y, vis n s y → done L op s y := fun y hy => by
    rcases h.c y hy with q | q
    · rw [hl] at q; cases q
    · exact q
  have all : ∀ k y, Way L op k y → vis n s y ∧ key s y ≤ (k : Int) := by
    intro k y hw
    induction hw with
    | start => exact ⟨.inl rfl, by unfold key; rw [if_pos rfl]; simp⟩
    | @go k i hw hi ho ih =>
      obtain ⟨g1, g2⟩ := hd _ ih.1 i (idx_iff.2 ⟨hi, rfl⟩) ho
      have hto : 0 ≤ eto L i ∧ eto L i < n := by
        have := (hok L[i] (List.getElem_mem hi)).2
        rwa [eto_eq hi]
      refine ⟨.inr ⟨hto.1, hto.2, g1⟩, ?_⟩
      have e : key s (eto L i) = s.far (eto L i).toNat := by unfold key; rw [if_neg (by omega)]
      rw [e]
      have := ih.2
      push_cast
      omega
  have back : ∀ (m : Nat) (z : Nat), z < n → s.far z = (m : Int) → Way L op m z := by
    intro m
    induction m with
    | zero =>
      intro z hz hm
      rcases h.a z hz with q | q
      · omega
      · omega
    | succ m ih =>
      intro z hz hm
      rcases h.a z hz with q | ⟨q1, q2, q3, q4, q5⟩
      · omega
      · rcases q5 with ⟨q5, q6⟩ | ⟨q5, q6, q7, q8⟩
        · have hm0 : m = 0 := by omega
          subst hm0
          have := Way.go (L := L) (op := op) (k := 0) (i := s.by_ z) (by rw [q5]; exact Way.start) q2 q3
          rwa [q4] at this
        · have hw := ih (efr L (s.by_ z)).toNat (by omega) (by omega)
          rw [Int.toNat_of_nonneg q5] at hw
          have := Way.go hw q2 q3
          rwa [q4] at this
  rcases h.a z hz with q | q
  · refine .inl ⟨q, fun k hk => ?_⟩
    rcases (all k z hk).1 with q2 | ⟨_, _, q2⟩
    · omega
    · rw [Int.toNat_natCast] at q2
      exact q2 q
  · refine .inr ⟨q.1, ?_, fun k hk => ?_⟩
    · exact back (s.far z).toNat z hz (by omega)
    · have := (all k z hk).2
      unfold key at this
      rw [if_neg (by omega), Int.toNat_natCast] at this
      exact this
end Go.Proofs.Ytkhgpflpbdakoaa
