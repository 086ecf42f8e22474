/- Where kept places go, and how many there are: plain facts. -/
import Derived.Test.YtdhbcmbajbgblaaWdA
namespace Go.Proofs.Ytdhbcmbajbgblaa
open Go Go.RowKit
set_option linter.unusedVariables false

theorem ext_list (s : ByteArray) (i j : Nat) : (s.extract i j).data.toList = (s.data.toList.take j).drop i := by
  rw [ByteArray.data_extract, Array.toList_extract, List.extract_eq_take_drop, List.drop_take]
theorem size_list (s : ByteArray) : s.data.toList.length = s.size := by simp
/-- a kept byte is the same one where it goes -/
theorem move_place (s : ByteArray) (p : Nat) (hp : p < s.size) : ∀ (L : List NEd) (a : Nat), EdOk s.size a L → a ≤ p → (∀ e ∈ L, ¬ (e.1 ≤ p ∧ p < e.2.1)) →
    ∃ q : Nat, (q : Int) = (p : Int) - a + mvL p L ∧ (pieces s a L).data.toList[q]? = s.data.toList[p]?
  | [], a, h, ha, _ => by
    refine ⟨p - a, by simp only [mvL]; omega, ?_⟩
    have hl := size_list s
    simp only [pieces]
    rw [ext_list, List.getElem?_drop, List.getElem?_take, if_pos (by omega)]
    congr 1; omega
  | e :: L, a, h, ha, hno => by
    have hle := h.2.2.le
    obtain ⟨h1, h2, h3⟩ := h
    have hl := size_list s
    have hne := hno e (by simp)
    have hz : (s.extract a e.1).data.toList.length = e.1 - a := by rw [size_list, ByteArray.size_extract]; omega
    have hap : (pieces s a (e :: L)).data.toList = (s.extract a e.1).data.toList ++ (e.2.2.data.toList ++ (pieces s e.2.1 L).data.toList) := by
      simp only [pieces]
      rw [ByteArray.data_append, Array.toList_append, ByteArray.data_append, Array.toList_append, List.append_assoc]
    by_cases hlt : p < e.1
    · refine ⟨p - a, ?_, ?_⟩
      · have := mvL_zero p s.size L e.2.1 h3 (by omega)
        simp only [mvL]
        rw [if_neg (by omega), this]; omega
      · rw [hap, List.getElem?_append_left (by omega), ext_list, List.getElem?_drop, List.getElem?_take, if_pos (by omega)]
        congr 1; omega
    · have hge : e.2.1 ≤ p := by omega
      obtain ⟨q, q1, q2⟩ := move_place s p hp L e.2.1 h3 hge (fun x hx => hno x (by simp [hx]))
      refine ⟨(e.1 - a) + e.2.2.size + q, ?_, ?_⟩
      · simp only [mvL]
        rw [if_pos hge]; omega
      · rw [hap, List.getElem?_append_right (by omega), List.getElem?_append_right (by rw [size_list]; omega)]
        rw [← q2]
        congr 1
        rw [hz, size_list]; omega
theorem le_sum_nat {a : Nat} : ∀ {l : List Nat}, a ∈ l → a ≤ l.sum
  | x :: l, h => by
    rcases List.mem_cons.1 h with rfl | h
    · simp
    · have := le_sum_nat h; simp; omega
def rmL (L : List NEd) : Int := (L.map fun e => (e.2.1 : Int) - e.1).sum
def inL (L : List NEd) : Int := (L.map fun e => (e.2.2.size : Int)).sum
theorem cost_parts (n : Nat) : ∀ (L : List NEd) (a : Nat), EdOk n a L → (costN L : Int) = inL L + rmL L ∧ growN L = inL L - rmL L
  | [], _, _ => by simp [costN, growN, inL, rmL]
  | e :: L, a, h => by
    obtain ⟨h1, h2, h3⟩ := h
    obtain ⟨i1, i2⟩ := cost_parts n L _ h3
    have e1 : inL (e :: L) = e.2.2.size + inL L := by simp [inL]
    have e2 : rmL (e :: L) = ((e.2.1 : Int) - e.1) + rmL L := by simp [rmL]
    simp only [costN, growN]
    rw [e1, e2]; omega
/-- how many places spans hold -/
def sumL (l : List (Int × Int)) : Int := (l.map fun x => x.2 - x.1).sum
theorem sumL_take (l : List (Int × Int)) (k : Nat) (h : k < l.length) : sumL (l.take (k + 1)) = sumL (l.take k) + (l[k].2 - l[k].1) := by
  unfold sumL; rw [List.take_succ_eq_append_getElem h, List.map_append, List.sum_append]; simp
theorem rm_tk : ∀ (L : List NEd), (∀ e ∈ L, e.1 ≤ e.2.1) → sumL (tkN L) = rmL L
  | [], _ => rfl
  | e :: L, h => by
    have ih := rm_tk L (fun x hx => h x (by simp [hx]))
    have he := h e (by simp)
    have e2 : rmL (e :: L) = ((e.2.1 : Int) - e.1) + rmL L := by simp [rmL]
    by_cases hq : e.1 < e.2.1
    · have : tkN (e :: L) = prN e :: tkN L := by unfold tkN; simp [takesB, hq]
      have e3 : sumL (prN e :: tkN L) = ((e.2.1 : Int) - e.1) + sumL (tkN L) := by simp [sumL, prN]
      rw [this, e3, e2]; omega
    · have : tkN (e :: L) = tkN L := by unfold tkN; simp [takesB, hq]
      rw [this, e2]; omega
def totN (n : Nat) (l : List (Int × Int)) : Nat := ((List.range n).map fun (j : Nat) => cntN (j : Int) l).sum
theorem totN_succ (n : Nat) (l : List (Int × Int)) : totN (n + 1) l = totN n l + cntN (n : Int) l := by
  unfold totN; rw [List.range_succ, List.map_append, List.sum_append]; simp
theorem totN_one (a b : Int) (h0 : 0 ≤ a) (h1 : a ≤ b) : ∀ n : Nat, (totN n [(a, b)] : Int) = if (n : Int) ≤ a then 0 else if (n : Int) ≤ b then (n : Int) - a else b - a
  | 0 => by rw [if_pos (by omega)]; rfl
  | n + 1 => by
    have ih := totN_one a b h0 h1 n
    have hc : cntN (n : Int) [(a, b)] = if a ≤ (n : Int) ∧ (n : Int) < b then 1 else 0 := by simp [cntN, covN]
    rw [totN_succ, hc]
    by_cases q1 : (n : Int) ≤ a
    · rw [if_pos q1] at ih
      by_cases q2 : (n : Int) = a
      · by_cases q3 : a < b
        · rw [if_pos ⟨by omega, by omega⟩, if_neg (by omega), if_pos (by omega)]; omega
        · rw [if_neg (by omega), if_neg (by omega), if_neg (by omega)]; omega
      · rw [if_neg (by omega), if_pos (by omega)]; omega
    · rw [if_neg q1] at ih
      by_cases q2 : (n : Int) ≤ b
      · rw [if_pos q2] at ih
        by_cases q3 : (n : Int) = b
        · rw [if_neg (by omega), if_neg (by omega), if_neg (by omega)]; omega
        · rw [if_pos ⟨by omega, by omega⟩, if_neg (by omega), if_pos (by omega)]; omega
      · rw [if_neg q2] at ih
        rw [if_neg (by omega), if_neg (by omega), if_neg (by omega)]; omega
theorem totN_cons (n : Nat) (x : Int × Int) (l : List (Int × Int)) : totN n (x :: l) = totN n [x] + totN n l := by
  induction n with
  | zero => rfl
  | succ n ih =>
    rw [totN_succ, totN_succ, totN_succ, ih]
    have : cntN (n : Int) (x :: l) = cntN (n : Int) [x] + cntN (n : Int) l := by simp [cntN]
    omega
theorem totN_sum (n : Nat) : ∀ (l : List (Int × Int)), (∀ x ∈ l, 0 ≤ x.1 ∧ x.1 ≤ x.2 ∧ x.2 ≤ (n : Int)) → (totN n l : Int) = sumL l
  | [], _ => by
    have : totN n [] = 0 := by
      induction n with
      | zero => rfl
      | succ n ih => rw [totN_succ, ih (by simp)]; rfl
    rw [this]; rfl
  | x :: l, h => by
    have ih := totN_sum n l (fun y hy => h y (by simp [hy]))
    obtain ⟨h0, h1, h2⟩ := h x (by simp)
    have h3 := totN_one x.1 x.2 h0 h1 n
    have e : sumL (x :: l) = (x.2 - x.1) + sumL l := by simp [sumL]
    rw [totN_cons, e]
    have e2 : totN n [x] = totN n [(x.1, x.2)] := rfl
    by_cases q : (n : Int) ≤ x.1
    · rw [if_pos q] at h3; omega
    · rw [if_neg q] at h3
      by_cases q2 : (n : Int) ≤ x.2
      · rw [if_pos q2] at h3; omega
      · rw [if_neg q2] at h3; omega
theorem totN_both (n : Nat) (T G : List (Int × Int)) : ∀ m, m ≤ n → (∀ j : Nat, j < n → cntN j T + cntN j G = 1) → totN m T + totN m G = m
  | 0, _, _ => rfl
  | m + 1, h, hj => by
    have ih := totN_both n T G m (by omega) hj
    have := hj m (by omega)
    rw [totN_succ, totN_succ]; omega
/-- how many bytes are kept -/
theorem kept_sum {n : Nat} {L : List NEd} {G : List (Int × Int)} (h : EdOk n 0 L) (hg : GapsOf n (tkN L) G) : sumL G = (n : Int) - rmL L := by
  obtain ⟨g1, g2, g3⟩ := hg
  have hall := (edOk_all L 0 h).1
  have t1 := totN_sum n (tkN L) (fun x hx => by have := (tkN_facts h).1 x hx; omega)
  have t2 := totN_sum n G (fun x hx => by have := g1 x hx; omega)
  have t3 := totN_both n (tkN L) G n (Nat.le_refl _) g3
  rw [rm_tk L (fun e he => (hall e he).2.1)] at t1
  omega
/-- a place in a kept span isn't taken away -/
theorem kept_not {n : Nat} {L : List NEd} {G : List (Int × Int)} (hg : GapsOf n (tkN L) G) {x : Int × Int} (hx : x ∈ G) {p : Nat} (h1 : x.1 ≤ (p : Int)) (h2 : (p : Int) < x.2) : p < n ∧ ∀ e ∈ L, ¬ (e.1 ≤ p ∧ p < e.2.1) := by
  obtain ⟨g1, g2, g3⟩ := hg
  have hb := g1 x hx
  have hpn : p < n := by omega
  refine ⟨hpn, fun e he hc => ?_⟩
  have h3 := g3 p hpn
  have c1 : 1 ≤ cntN (p : Int) G := by
    have : covN (p : Int) x ≤ cntN (p : Int) G := by
      unfold cntN
      exact le_sum_nat (List.mem_map_of_mem hx)
    unfold covN at this
    rw [if_pos ⟨h1, h2⟩] at this
    exact this
  have c2 : 1 ≤ cntN (p : Int) (tkN L) := by
    have hm : prN e ∈ tkN L := by
      unfold tkN
      refine List.mem_map_of_mem (List.mem_filter.2 ⟨he, ?_⟩)
      unfold takesB
      exact decide_eq_true (by omega)
    have : covN (p : Int) (prN e) ≤ cntN (p : Int) (tkN L) := by
      unfold cntN
      exact le_sum_nat (List.mem_map_of_mem hm)
    unfold covN prN at this
    rw [if_pos (by simp only; omega)] at this
    exact this
  omega

end Go.Proofs.Ytdhbcmbajbgblaa
