/- diff's Kept on edits that may be made, and on others. -/
import Derived.Test.YtdhbcmbajbgblaaKeepA
import Derived.Test.YtdhbcmbajbgblaaDiffJ
namespace Go.Proofs.Ytdhbcmbajbgblaa
open Go Go.RowKit
set_option linter.unusedVariables false

/-- edits that pass Check, over natural numbers -/
theorem check_valid {s : Nat} {l : List IEd} (h : checkE s l = 0) : ∃ L : List NEd, l = L.map toI ∧ EdOk s 0 L := by
  obtain ⟨k1, k2, k3⟩ := checkE_zero h
  have hb : ∀ e ∈ l, 0 ≤ e.1 ∧ e.1 ≤ e.2.1 ∧ e.2.1 ≤ s := fun e he => by have := chkB_iff.1 (k2 e he).2; omega
  have ho : ∀ k, k + 1 < l.length → (l.getD k noEd).2.1 ≤ (l.getD (k + 1) noEd).1 := fun k hk => by
    unfold ordE at k3
    have := List.all_eq_true.1 k3 k (List.mem_range.2 (by omega))
    unfold nextB at this
    exact of_decide_eq_true this
  have hL := edOk_of s l 0 hb ho (Nat.zero_le _) (fun h => by
    have : l.getD 0 noEd ∈ l := by rw [getE l 0 h]; exact List.getElem_mem _
    have := hb _ this; omega)
  have e1 : l = (l.map fun e => (e.1.toNat, e.2.1.toNat, e.2.2)).map toI := by
    rw [List.map_map]
    symm
    conv => rhs; rw [← List.map_id l]
    refine List.map_congr_left fun e he => ?_
    have := hb e he
    simp only [Function.comp, toI, id]
    rw [Int.toNat_of_nonneg (by omega), Int.toNat_of_nonneg (by omega)]
  exact ⟨_, e1, hL⟩
theorem tkN_sorted {n : Nat} {L : List NEd} (h : EdOk n 0 L) (hn : n ≤ 65536) : sortedB (tkN L) = true := by
  obtain ⟨h1, h2⟩ := tkN_facts h
  have hm : ∀ x ∈ tkN L, mayB x.1 x.2 = true := fun x hx => by have := h1 x hx; exact mayB_true (by omega) (by omega) (by omega)
  have ha : allB (tkN L) = true := by unfold allB; rw [List.all_eq_true]; exact hm
  unfold sortedB
  rw [ha, Bool.and_true]
  unfold okTo
  rw [List.all_eq_true]
  intro k hk
  have hk := List.mem_range.1 hk
  unfold pairB
  rw [getD_get _ k (by omega), getD_get _ (k + 1) (by omega)]
  have hp := List.pairwise_iff_getElem.1 h2 k (k + 1) (by omega) (by omega) (by omega)
  have m1 := h1 _ (List.getElem_mem (show k < (tkN L).length by omega))
  have m2 := h1 _ (List.getElem_mem (show k + 1 < (tkN L).length by omega))
  unfold apartB
  rw [hm _ (List.getElem_mem _), hm _ (List.getElem_mem _)]
  generalize (tkN L)[k] = x at *
  generalize (tkN L)[k + 1] = y at *
  have d1 : decide (x.2 ≤ y.1) = true := decide_eq_true hp
  have d2 : (x.1 == y.1) = false := by rw [beq_eq_false_iff_ne]; omega
  simp [d1, d2]

/-- what is said of the gaps: not empty, strictly apart, and each place is held once -/
def GapsOf (n : Nat) (T G : List (Int × Int)) : Prop :=
  (∀ x ∈ G, 0 ≤ x.1 ∧ x.1 < x.2 ∧ x.2 ≤ (n : Int)) ∧ G.Pairwise (fun x y => x.2 < y.1) ∧ ∀ j : Nat, j < n → cntN j T + cntN j G = 1
theorem gaps_of {n : Nat} {L : List NEd} (h : EdOk n 0 L) : GapsOf n (tkN L) (gapTo (tkN L ++ [((n : Int), (n : Int))]) ((tkN L).length + 1)) := by
  obtain ⟨h1, h2⟩ := tkN_facts h
  have ho := tkN_ord h
  generalize tkN L = T at *
  have hle : ∀ k, k < T.length → (T.getD k (0, 0)).2 ≤ (n : Int) := fun k hk => by rw [getD_get _ k hk]; exact (h1 _ (List.getElem_mem hk)).2.2
  have hw := gap_whole ho (Int.natCast_nonneg n) hle
  have hlen : (T ++ [((n : Int), (n : Int))]).length = T.length + 1 := by simp
  have g2 : (T ++ [((n : Int), (n : Int))]).getD T.length (0, 0) = ((n : Int), (n : Int)) := by
    rw [List.getD_eq_getElem?_getD, List.getElem?_append_right (Nat.le_refl _)]; simp
  have e : atTo (T ++ [((n : Int), (n : Int))]) (T.length + 1) = n := by show ((T ++ [((n : Int), (n : Int))]).getD T.length (0, 0)).2 = n; rw [g2]
  obtain ⟨a1, -⟩ := gap_order hw (T.length + 1) (by omega)
  rw [e] at a1
  refine ⟨a1, (gap_strict hw (T.length + 1) (by omega) (fun j hj => ?_)).1, fun j hj => ?_⟩
  · have hjl : j < T.length := by omega
    rw [List.getD_eq_getElem?_getD, List.getElem?_append_left hjl, ← List.getD_eq_getElem?_getD, getD_get _ j hjl]
    exact (h1 _ (List.getElem_mem hjl)).2.1
  · have := gap_once ho (Int.natCast_nonneg n) hle j (by omega) (by omega)
    rw [cntN_append] at this
    exact this

set_option maxRecDepth 100000 in
set_option maxHeartbeats 1000000 in
theorem kept_no (s : ByteArray) (src : Option Addr) (n cap : Nat) (l : List IEd) (w : World) (hl : l.length = n) (hn : n ≤ maxLen) (hr : EdsIn w src l) (hc : checkE s.size l ≠ 0) :
    Calls Try.prog 6 #[.string s, .slice src n cap] w fun e w' => e = .returned (.tuple #[.slice none 0 0, .int .i64 (checkE s.size l)]) ∧ Below w.heap.size w w' := by
  have HC := Lib.hid (fun w hr => echeck_any (s.size : Int) src n cap l w hl hn hr)
  generalize checkE s.size l = c at *
  have hc1 : (c == 0) = false := by simp; exact hc
  go_enter Try.func6, Try.ntmps6
  go_wp2_with fail
  refine (HC.out _ hr).mono ?_
  rintro e w1 ⟨rfl, h01⟩
  have H1 := Lib.hid h01
  clear h01
  go_wp2_with fail
  go_ret2
  exact ⟨rfl, H1.out⟩

/-- Kept of edits that may be made -/
theorem kept_yes (s : ByteArray) (src : Option Addr) (n cap : Nat) (L : List NEd) (w : World) (hl : L.length = n) (hn : n ≤ 4096) (hs : s.size ≤ 65536) (hok : EdOk s.size 0 L) (hr : EdsIn w src (L.map toI)) (hc : checkE s.size (L.map toI) = 0) :
    Calls Try.prog 6 #[.string s, .slice src n cap] w fun e w' => Below w.heap.size w w' ∧ ∃ v w1 G, e = .returned (.tuple #[v, .int .i64 0]) ∧ w.heap.size ≤ w1.heap.size ∧ GpInv w1 w' G v ∧ GapsOf s.size (tkN L) G := by
  have hall := (edOk_all L 0 hok).1
  have ht := tk_eq L (fun e he => by have := hall e he; omega) n (by omega)
  rw [List.take_of_length_le (by omega)] at ht
  refine (kept_ok s src n cap (L.map toI) w (by simpa using hl) hn hs hr hc (by rw [ht]; exact tkN_chk hok hs) (by rw [ht]; exact tkN_sorted hok hs)).mono ?_
  rintro e w' ⟨h1, v, w1, he, hz, hg⟩
  rw [ht] at hg
  exact ⟨h1, v, w1, _, he, hz, hg, gaps_of hok⟩

end Go.Proofs.Ytdhbcmbajbgblaa
