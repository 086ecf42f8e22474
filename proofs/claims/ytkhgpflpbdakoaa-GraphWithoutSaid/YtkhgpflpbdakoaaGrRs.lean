/- The reference's Solve: edges are gone through until nothing changes. -/
import Derived.Test.YtkhgpflpbdakoaaGrWs
namespace Go.Proofs.Ytkhgpflpbdakoaa
open Go Go.RowKit
set_option linter.unusedVariables false
set_option linter.unusedSimpArgs false

/-- null comes to all that are in -/
def soundP (L : List Eg) (op : Nat → Bool) (n : Nat) (F : Nat → Bool) : Prop := ∀ z, z < n → F z = true → ∃ k, Way L op k z
/-- an edge is closed under a set -/
def shutE (L : List Eg) (op : Nat → Bool) (F : Nat → Bool) (i : Nat) : Prop := op i = true → comesP F (efr L i, eto L i, 0, 0) = true → F (eto L i).toNat = true
def cntB (n : Nat) (F : Nat → Bool) : Nat := (List.range n).countP fun z => F z == false
theorem cnt_put {n : Nat} {F : Nat → Bool} {z : Nat} (hz : z < n) (h : F z = false) : cntB n (up F z true) < cntB n F := by
  have key : ∀ l : List Nat, l.Nodup → z ∈ l → (l.countP (fun x => up F z true x == false)) + 1 ≤ l.countP (fun x => F x == false) := by
    intro l
    induction l with
    | nil => intro _ h; cases h
    | cons x r ih =>
      intro hn hm
      obtain ⟨n1, n2⟩ := List.nodup_cons.1 hn
      rw [List.countP_cons, List.countP_cons]
      rcases List.mem_cons.1 hm with rfl | hm
      · have e1 : (up F z true z == false) = false := by rw [up_same]; rfl
        have e2 : (F z == false) = true := by rw [h]; rfl
        rw [e1, e2]
        have : r.countP (fun x => up F z true x == false) = r.countP (fun x => F x == false) := by
          apply List.countP_congr
          intro x hx
          rw [up_other _ _ (fun q => by subst q; exact n1 hx)]
        rw [this]
        simp
      · have hxz : x ≠ z := fun q => by subst q; exact n1 hm
        rw [up_other _ _ hxz]
        have := ih n2 hm
        omega
  have := key (List.range n) List.nodup_range (List.mem_range.2 hz)
  unfold cntB
  omega
theorem sound_put {L : List Eg} {op : Nat → Bool} {n : Nat} {F : Nat → Bool} (hok : ∀ e ∈ L, okE' n e) (h : soundP L op n F) {i : Nat} (hi : i < L.length) (ho : op i = true) (hc : comesP F L[i] = true) : soundP L op n (up F L[i].2.1.toNat true) := by
  intro z hz hF
  by_cases q : z = L[i].2.1.toNat
  · have hto := (hok _ (List.getElem_mem hi)).2
    have hw : ∃ k, Way L op k (efr L i) := by
      rw [efr_eq hi]
      unfold comesP at hc
      rw [Bool.or_eq_true] at hc
      rcases hc with hc | hc
      · have : L[i].1 = -1 := by simpa using hc
        rw [this]
        exact ⟨0, Way.start⟩
      · by_cases q2 : L[i].1 = -1
        · rw [q2]; exact ⟨0, Way.start⟩
        · obtain ⟨h1, h2⟩ := (hok _ (List.getElem_mem hi)).1.resolve_left q2
          have := h L[i].1.toNat (by omega) hc
          rwa [Int.toNat_of_nonneg h1] at this
    obtain ⟨k, hk⟩ := hw
    have := Way.go hk hi ho
    rw [eto_eq hi] at this
    refine ⟨k + 1, ?_⟩
    rw [q, Int.toNat_of_nonneg hto.1]
    exact this
  · rw [up_other _ _ q] at hF
    exact h z hz hF
/-- what is right holds all to which null comes -/
theorem holds_all {L : List Eg} {op : Nat → Bool} {n : Nat} {F : Nat → Bool} (hok : ∀ e ∈ L, okE' n e) (h : ∀ i, i < L.length → shutE L op F i) : ∀ k y, Way L op k y → y = -1 ∨ F y.toNat = true := by
  intro k y hw
  induction hw with
  | start => exact .inl rfl
  | @go k i hw hi ho ih =>
    refine .inr (h i hi ho ?_)
    unfold comesP
    rcases ih with q | q
    · rw [q]; rfl
    · rw [Bool.or_eq_true]; exact .inr q
/-- the least set, told by ways -/
def leastP (L : List Eg) (op : Nat → Bool) (n : Nat) (F : Nat → Bool) : Prop := ∀ z : Nat, z < n → (F z = true ↔ ∃ k, Way L op k z)
theorem least_of {L : List Eg} {op : Nat → Bool} {n : Nat} {F : Nat → Bool} (hok : ∀ e ∈ L, okE' n e) (hs : soundP L op n F) (h : ∀ i, i < L.length → shutE L op F i) : leastP L op n F := by
  intro z hz
  refine ⟨hs z hz, fun ⟨k, hk⟩ => ?_⟩
  rcases holds_all hok h k z hk with q | q
  · omega
  · rwa [Int.toNat_natCast] at q
theorem least_eq {L : List Eg} {op : Nat → Bool} {n : Nat} {F H : Nat → Bool} (h1 : leastP L op n F) (h2 : leastP L op n H) {z : Nat} (hz : z < n) : F z = H z := by
  have := (h1 z hz).trans (h2 z hz).symm
  cases hf : F z <;> cases hh : H z <;> simp [hf, hh] at this <;> rfl
theorem found_least {L : List Eg} {op : Nat → Bool} {n : Nat} {s : Bf} (hok : ∀ e ∈ L, okE' n e) (h : Found L op n s) : leastP L op n (fun z => s.far z != -1) := by
  intro z hz
  have hd := h.1.dist hok h.2.1 z hz
  constructor
  · intro q
    have q : s.far z ≠ -1 := by simpa using q
    rcases hd with ⟨q2, _⟩ | ⟨_, q2, _⟩
    · exact absurd q2 q
    · exact ⟨_, q2⟩
  · rintro ⟨k, hk⟩
    rcases hd with ⟨_, q2⟩ | ⟨q1, _, _⟩
    · exact absurd hk (q2 k)
    · show (s.far z != -1) = true
      have : s.far z ≠ -1 := by omega
      simpa using this
/-- as far as a pass has come -/
structure PassI (L : List Eg) (op : Nat → Bool) (n : Nat) (F0 F : Nat → Bool) (j : Nat) (a : Bool) : Prop where
  s : soundP L op n F
  y : a = true → cntB n F < cntB n F0
  f : a = false → ∀ z, z < n → F z = F0 z
  c : a = false → ∀ i, i < j → shutE L op F0 i
theorem PassI.start {L : List Eg} {op : Nat → Bool} {n : Nat} {F : Nat → Bool} (h : soundP L op n F) : PassI L op n F F 0 false :=
  ⟨h, (fun q => by cases q), (fun _ _ _ => rfl), (fun _ i hi => by omega)⟩
theorem comes_congr {n : Nat} {F H : Nat → Bool} {e : Eg} (he : okE' n e) (h : ∀ z, z < n → F z = H z) : comesP F e = comesP H e := by
  unfold comesP
  by_cases q : e.1 = -1
  · have : (e.1 == -1) = true := by simpa using q
    rw [this]; rfl
  · obtain ⟨h1, h2⟩ := he.1.resolve_left q
    rw [h e.1.toNat (by omega)]
theorem comes_fe {L : List Eg} {F : Nat → Bool} {i : Nat} (hi : i < L.length) : comesP F (efr L i, eto L i, 0, 0) = comesP F L[i] := by unfold comesP; rw [efr_eq hi]
/-- an edge along which nothing new comes -/
theorem PassI.skip {L : List Eg} {op : Nat → Bool} {n : Nat} {F0 F : Nat → Bool} {j : Nat} {a : Bool} (h : PassI L op n F0 F j a) (hok : ∀ e ∈ L, okE' n e) (hj : j < L.length) (hc : ¬ (op j = true ∧ comesP F L[j] = true ∧ F L[j].2.1.toNat = false)) : PassI L op n F0 F (j + 1) a := by
  refine ⟨h.s, h.y, h.f, fun ha i hi => ?_⟩
  by_cases q : i = j
  · subst q
    intro ho hcm
    have hto := (hok _ (List.getElem_mem hj)).2
    have hf := h.f ha
    rw [comes_fe hj, ← comes_congr (hok _ (List.getElem_mem hj)) hf] at hcm
    rw [eto_eq hj, ← hf _ (by omega)]
    cases q2 : F L[i].2.1.toNat with
    | true => rfl
    | false => exact absurd ⟨ho, hcm, q2⟩ hc
  · exact h.c ha i (by omega)
/-- an edge along which something new comes -/
theorem PassI.take {L : List Eg} {op : Nat → Bool} {n : Nat} {F0 F : Nat → Bool} {j : Nat} {a : Bool} (h : PassI L op n F0 F j a) (hok : ∀ e ∈ L, okE' n e) (hj : j < L.length) (ho : op j = true) (hc : comesP F L[j] = true) (hf : F L[j].2.1.toNat = false) : PassI L op n F0 (up F L[j].2.1.toNat true) (j + 1) true := by
  have hto := (hok _ (List.getElem_mem hj)).2
  have h1 := cnt_put (n := n) (z := L[j].2.1.toNat) (by omega) hf
  have h0 : cntB n F ≤ cntB n F0 := by
    cases a with
    | true => exact Nat.le_of_lt (h.y rfl)
    | false =>
      refine Nat.le_of_eq ?_
      unfold cntB
      apply List.countP_congr
      intro z hz
      rw [h.f rfl z (List.mem_range.1 hz)]
  exact ⟨sound_put hok h.s hj ho hc, (fun _ => by omega), (fun q => by cases q), (fun q => by cases q)⟩
theorem PassI.done {L : List Eg} {op : Nat → Bool} {n : Nat} {F0 F : Nat → Bool} (h : PassI L op n F0 F L.length false) (hok : ∀ e ∈ L, okE' n e) : leastP L op n F := by
  refine least_of hok h.s (fun i hi ho hcm => ?_)
  have hto := (hok _ (List.getElem_mem hi)).2
  have := h.c rfl i hi ho (by
    rw [comes_fe hi] at hcm ⊢
    rw [← comes_congr (hok _ (List.getElem_mem hi)) (h.f rfl)]
    exact hcm)
  rw [eto_eq hi] at this ⊢
  rw [h.f rfl _ (by omega)]
  exact this
end Go.Proofs.Ytkhgpflpbdakoaa
