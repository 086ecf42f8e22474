/- The reference's Far: distances come down until nothing changes. -/
import Derived.Test.YtkhgpflpbdakoaaGrRs
namespace Go.Proofs.Ytkhgpflpbdakoaa
open Go Go.RowKit
set_option linter.unusedVariables false
set_option linter.unusedSimpArgs false

/-- how far it is to where an edge begins -/
def keyF (f : Nat → Int) (y : Int) : Int := if y = -1 then 0 else f y.toNat
def inB (f : Nat → Int) : Nat → Bool := fun z => f z != -1
/-- what a pass brings down -/
def valF (n : Nat) (f : Nat → Int) (z : Nat) : Nat := if f z = -1 then n + 1 else (f z).toNat
def mu (n : Nat) (f : Nat → Int) : Nat := ((List.range n).map (valF n f)).sum
theorem sum_le {l : List Nat} {g h : Nat → Nat} (hle : ∀ y ∈ l, g y ≤ h y) : (l.map g).sum ≤ (l.map h).sum := by
  induction l with
  | nil => simp
  | cons x r ih =>
    have h1 := hle x (by simp)
    have h2 := ih fun y hy => hle y (by simp [hy])
    simp only [List.map_cons, List.sum_cons]
    omega
theorem sum_lt {l : List Nat} {g h : Nat → Nat} {z : Nat} (hz : z ∈ l) (hle : ∀ y ∈ l, g y ≤ h y) (hlt : g z < h z) : (l.map g).sum < (l.map h).sum := by
  induction l with
  | nil => cases hz
  | cons x r ih =>
    have h1 := hle x (by simp)
    have h3 : ∀ y ∈ r, g y ≤ h y := fun y hy => hle y (by simp [hy])
    simp only [List.map_cons, List.sum_cons]
    rcases List.mem_cons.1 hz with rfl | hz
    · have := sum_le h3
      omega
    · have := ih hz h3
      omega
theorem mu_put {n : Nat} {f : Nat → Int} {z : Nat} {x : Int} (hz : z < n) (h : valF n (up f z x) z < valF n f z) : mu n (up f z x) < mu n f := by
  unfold mu
  refine sum_lt (List.mem_range.2 hz) (fun y _ => ?_) h
  by_cases q : y = z
  · subst q; omega
  · unfold valF
    rw [up_other _ _ q]
    exact Nat.le_refl _
theorem mu_congr {n : Nat} {f g : Nat → Int} (h : ∀ z, z < n → f z = g z) : mu n f = mu n g := by
  unfold mu
  congr 1
  apply List.map_congr_left
  intro z hz
  unfold valF
  rw [h z (List.mem_range.1 hz)]
theorem cnt_le (n : Nat) (F : Nat → Bool) : cntB n F ≤ n := by
  have := List.countP_le_length (p := fun z => F z == false) (l := List.range n)
  rw [List.length_range] at this
  exact this
/-- all that has come is a way, and short -/
structure FrS (L : List Eg) (n : Nat) (f : Nat → Int) : Prop where
  w : ∀ z, z < n → f z = -1 ∨ (1 ≤ f z ∧ Way L opAll (f z).toNat z)
  b : ∀ z, z < n → f z + (cntB n (inB f) : Int) ≤ n
theorem FrS.start (L : List Eg) (n : Nat) : FrS L n (fun _ => -1) :=
  ⟨fun _ _ => .inl rfl, fun z hz => by have := cnt_le n (inB fun _ => -1); omega⟩
theorem FrS.key {L : List Eg} {n : Nat} {f : Nat → Int} (h : FrS L n f) {e : Eg} (he : okE' n e) (hk : 0 ≤ keyF f e.1) : Way L opAll (keyF f e.1).toNat e.1 ∧ keyF f e.1 + (cntB n (inB f) : Int) ≤ n := by
  by_cases q : e.1 = -1
  · have : keyF f e.1 = 0 := by unfold keyF; rw [if_pos q]
    rw [this]
    have hc := cnt_le n (inB f)
    refine ⟨?_, by omega⟩
    rw [q]
    exact Way.start
  · obtain ⟨h1, h2⟩ := he.1.resolve_left q
    have e1 : keyF f e.1 = f e.1.toNat := by unfold keyF; rw [if_neg q]
    rw [e1] at hk ⊢
    have hb := h.b e.1.toNat (by omega)
    rcases h.w e.1.toNat (by omega) with g | ⟨g1, g2⟩
    · omega
    · refine ⟨?_, hb⟩
      rwa [Int.toNat_of_nonneg h1] at g2
theorem inB_put {f : Nat → Int} {z : Nat} {x : Int} (hx : 0 ≤ x) : inB (up f z x) = up (inB f) z true := by
  funext y
  unfold inB up
  by_cases q : y = z
  · rw [if_pos q, if_pos q]
    have : x ≠ -1 := by omega
    simpa using this
  · rw [if_neg q, if_neg q]
theorem FrS.put {L : List Eg} {n : Nat} {f : Nat → Int} (h : FrS L n f) (hok : ∀ e ∈ L, okE' n e) {i : Nat} (hi : i < L.length) (hk : 0 ≤ keyF f L[i].1) (hc : f L[i].2.1.toNat = -1 ∨ keyF f L[i].1 + 1 < f L[i].2.1.toNat) :
    FrS L n (up f L[i].2.1.toNat (keyF f L[i].1 + 1)) ∧ mu n (up f L[i].2.1.toNat (keyF f L[i].1 + 1)) < mu n f := by
  have he := hok _ (List.getElem_mem hi)
  obtain ⟨t0, t1⟩ := he.2
  obtain ⟨k1, k2⟩ := h.key he hk
  have hw : Way L opAll (keyF f L[i].1 + 1).toNat L[i].2.1 := by
    have := Way.go (i := i) (by rw [efr_eq hi]; exact k1) hi (show opAll i = true from rfl)
    rw [eto_eq hi] at this
    rwa [show (keyF f L[i].1 + 1).toNat = (keyF f L[i].1).toNat + 1 by omega]
  have htn : L[i].2.1.toNat < n := by omega
  have hto : ((L[i].2.1.toNat : Nat) : Int) = L[i].2.1 := Int.toNat_of_nonneg t0
  generalize hT : L[i].2.1.toNat = t at *
  generalize keyF f L[i].1 = d at *
  have hin := inB_put (f := f) (z := t) (x := d + 1) (by omega)
  have hct : cntB n (inB (up f t (d + 1))) ≤ cntB n (inB f) ∧ (f t = -1 → cntB n (inB (up f t (d + 1))) < cntB n (inB f)) := by
    rw [hin]
    by_cases q : f t = -1
    · have := cnt_put (n := n) (F := inB f) htn (by unfold inB; rw [q]; rfl)
      exact ⟨Nat.le_of_lt this, fun _ => this⟩
    · have : up (inB f) t true = inB f := by
        funext y
        by_cases q2 : y = t
        · subst q2
          rw [up_same]
          unfold inB
          symm
          simpa using q
        · rw [up_other _ _ q2]
      rw [this]
      exact ⟨Nat.le_refl _, fun g => absurd g q⟩
  have hft := h.b t htn
  refine ⟨⟨fun z hz => ?_, fun z hz => ?_⟩, ?_⟩
  · by_cases q : z = t
    · subst q
      rw [up_same]
      refine .inr ⟨by omega, ?_⟩
      rw [hto]
      exact hw
    · rw [up_other _ _ q]
      exact h.w z hz
  · by_cases q : z = t
    · subst q
      rw [up_same]
      rcases hc with g | g
      · have := hct.2 g
        omega
      · have := hct.1
        omega
    · rw [up_other _ _ q]
      have h1 := h.b z hz
      have h2 := hct.1
      omega
  · apply mu_put htn
    unfold valF
    rw [up_same, if_neg (by omega)]
    rcases hc with g | g
    · rw [if_pos g]
      omega
    · rw [if_neg (by omega)]
      omega
theorem key_congr {n : Nat} {f g : Nat → Int} {e : Eg} (he : okE' n e) (h : ∀ z, z < n → f z = g z) : keyF f e.1 = keyF g e.1 := by
  unfold keyF
  by_cases q : e.1 = -1
  · rw [if_pos q, if_pos q]
  · obtain ⟨h1, h2⟩ := he.1.resolve_left q
    rw [if_neg q, if_neg q, h _ (by omega)]
/-- as far as a pass has come -/
structure FrI (L : List Eg) (n : Nat) (f0 f : Nat → Int) (j : Nat) (a : Bool) : Prop where
  s : FrS L n f
  y : a = true → mu n f < mu n f0
  f : a = false → ∀ z, z < n → f z = f0 z
  c : a = false → ∀ i (hi : i < L.length), i < j → 0 ≤ keyF f0 L[i].1 → f0 L[i].2.1.toNat ≠ -1 ∧ f0 L[i].2.1.toNat ≤ keyF f0 L[i].1 + 1
theorem FrI.start {L : List Eg} {n : Nat} {f : Nat → Int} (h : FrS L n f) : FrI L n f f 0 false :=
  ⟨h, (fun q => by cases q), (fun _ _ _ => rfl), (fun _ i _ hi => by omega)⟩
theorem FrI.skip {L : List Eg} {n : Nat} {f0 f : Nat → Int} {j : Nat} {a : Bool} (h : FrI L n f0 f j a) (hok : ∀ e ∈ L, okE' n e) (hj : j < L.length) (hc : ¬ (0 ≤ keyF f L[j].1 ∧ (f L[j].2.1.toNat = -1 ∨ keyF f L[j].1 + 1 < f L[j].2.1.toNat))) : FrI L n f0 f (j + 1) a := by
  refine ⟨h.s, h.y, h.f, fun ha i hi hij hk => ?_⟩
  by_cases q : i = j
  · subst q
    have he := hok _ (List.getElem_mem hj)
    have hto := he.2
    have hf := h.f ha
    rw [← key_congr he hf] at hk ⊢
    rw [← hf _ (by omega)]
    refine ⟨fun g => hc ⟨hk, .inl g⟩, ?_⟩
    by_cases g : keyF f L[i].1 + 1 < f L[i].2.1.toNat
    · exact absurd ⟨hk, .inr g⟩ hc
    · omega
  · exact h.c ha i hi (by omega) hk
theorem FrI.take {L : List Eg} {n : Nat} {f0 f : Nat → Int} {j : Nat} {a : Bool} (h : FrI L n f0 f j a) (hok : ∀ e ∈ L, okE' n e) (hj : j < L.length) (hk : 0 ≤ keyF f L[j].1) (hc : f L[j].2.1.toNat = -1 ∨ keyF f L[j].1 + 1 < f L[j].2.1.toNat) : FrI L n f0 (up f L[j].2.1.toNat (keyF f L[j].1 + 1)) (j + 1) true := by
  obtain ⟨h1, h2⟩ := h.s.put hok hj hk hc
  refine ⟨h1, fun _ => ?_, (fun q => by cases q), (fun q => by cases q)⟩
  cases a with
  | true => exact Nat.lt_trans h2 (h.y rfl)
  | false => rw [← mu_congr (h.f rfl)]; exact h2
theorem FrI.done {L : List Eg} {n : Nat} {f0 f : Nat → Int} (h : FrI L n f0 f L.length false) (hok : ∀ e ∈ L, okE' n e) : ∀ z : Nat, z < n → Dist L opAll z (f z) := by
  have all : ∀ k y, Way L opAll k y → y = -1 ∨ (0 ≤ y ∧ y < n ∧ f y.toNat ≠ -1 ∧ f y.toNat ≤ (k : Int)) := by
    intro k y hw
    induction hw with
    | start => exact .inl rfl
    | @go k i hw hi ho ih =>
      right
      have he := hok _ (List.getElem_mem hi)
      obtain ⟨t0, t1⟩ := he.2
      rw [efr_eq hi] at ih
      rw [eto_eq hi]
      have hk : 0 ≤ keyF f L[i].1 ∧ keyF f L[i].1 ≤ (k : Int) := by
        unfold keyF
        by_cases q : L[i].1 = -1
        · rw [if_pos q]; omega
        · rw [if_neg q]
          obtain ⟨g1, g2, g3, g4⟩ := ih.resolve_left q
          rcases h.s.w _ (show L[i].1.toNat < n by omega) with g | ⟨g, _⟩
          · exact absurd g g3
          · omega
      have hf := h.f rfl
      have hc := h.c rfl i hi hi
      rw [← key_congr he hf, ← hf _ (by omega)] at hc
      obtain ⟨c1, c2⟩ := hc hk.1
      exact ⟨t0, t1, c1, by push_cast; omega⟩
  intro z hz
  rcases h.s.w z hz with q | ⟨q1, q2⟩
  · refine .inl ⟨q, fun k hk => ?_⟩
    rcases all k z hk with g | ⟨_, _, g, _⟩
    · omega
    · rw [Int.toNat_natCast] at g
      exact g q
  · refine .inr ⟨q1, q2, fun k hk => ?_⟩
    rcases all k z hk with g | ⟨_, _, _, g⟩
    · omega
    · rwa [Int.toNat_natCast] at g
theorem dist_eq {L : List Eg} {op : Nat → Bool} {z d e : Int} (h1 : Dist L op z d) (h2 : Dist L op z e) : d = e := by
  rcases h1 with ⟨a1, a2⟩ | ⟨a1, a2, a3⟩
  · rcases h2 with ⟨b1, b2⟩ | ⟨b1, b2, b3⟩
    · omega
    · exact absurd b2 (a2 _)
  · rcases h2 with ⟨b1, b2⟩ | ⟨b1, b2, b3⟩
    · exact absurd a2 (b2 _)
    · have h3 := a3 _ b2
      have h4 := b3 _ a2
      omega
end Go.Proofs.Ytkhgpflpbdakoaa
