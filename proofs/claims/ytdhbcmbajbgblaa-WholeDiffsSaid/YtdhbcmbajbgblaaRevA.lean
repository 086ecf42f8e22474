/- slices.Reverse at stretches: arrays of three numbers. -/
import Derived.Test.YtdhbcmbajbgblaaDiffD
import Derived.RegionTactic
import Derived.ChangeAlike
import Derived.Laws.Rows
namespace Go.Proofs.Ytdhbcmbajbgblaa
open Go Go.RowKit
set_option linter.unusedVariables false

/-- a stretch's cells -/
def TriAt (w : World) (g j : Nat) (r : Run) : Prop := w.cell? ⟨g, j * 3, none⟩ = some (.int .i64 (r.1 : Nat)) ∧ w.cell? ⟨g, j * 3 + 1, none⟩ = some (.int .i64 (r.2.1 : Nat)) ∧ w.cell? ⟨g, j * 3 + 2, none⟩ = some (.int .i64 (r.2.2 : Nat))

theorem set_at {W : World} {g o : Nat} {v u : Value} (h : W.cell? ⟨g, o, none⟩ = some u) : (W.setCell ⟨g, o, none⟩ v).cell? ⟨g, o, none⟩ = some v := World.cell?_setCell_same _ _ _ h
theorem set_off {W : World} {g o o' : Nat} {v : Value} (h : o ≠ o') : (W.setCell ⟨g, o, none⟩ v).cell? ⟨g, o', none⟩ = W.cell? ⟨g, o', none⟩ :=
  World.cell?_setCell_other _ _ _ _ (by intro e; injection e with _ e2; exact h e2)
/-- three cells written -/
theorem set_three {W : World} {g i : Nat} {r x : Run} (h : TriAt W g i r) :
    TriAt (((W.setCell ⟨g, i * 3, none⟩ (.int .i64 (x.1 : Nat))).setCell ⟨g, i * 3 + 1, none⟩ (.int .i64 (x.2.1 : Nat))).setCell ⟨g, i * 3 + 2, none⟩ (.int .i64 (x.2.2 : Nat))) g i x ∧
    ∀ p s, p ≠ i → TriAt W g p s → TriAt (((W.setCell ⟨g, i * 3, none⟩ (.int .i64 (x.1 : Nat))).setCell ⟨g, i * 3 + 1, none⟩ (.int .i64 (x.2.1 : Nat))).setCell ⟨g, i * 3 + 2, none⟩ (.int .i64 (x.2.2 : Nat))) g p s := by
  obtain ⟨h0, h1, h2⟩ := h
  refine ⟨⟨?_, ?_, ?_⟩, fun p s hp ⟨q0, q1, q2⟩ => ⟨?_, ?_, ?_⟩⟩
  · rw [set_off (by omega), set_off (by omega)]; exact set_at h0
  · rw [set_off (by omega)]; exact set_at (u := .int .i64 (r.2.1 : Nat)) (by rw [set_off (by omega)]; exact h1)
  · exact set_at (u := .int .i64 (r.2.2 : Nat)) (by rw [set_off (by omega), set_off (by omega)]; exact h2)
  · rw [set_off (by omega), set_off (by omega), set_off (by omega)]; exact q0
  · rw [set_off (by omega), set_off (by omega), set_off (by omega)]; exact q1
  · rw [set_off (by omega), set_off (by omega), set_off (by omega)]; exact q2

theorem triDrew {W : World} {g p : Nat} {r : Run} (h : TriAt W g p r) : TriAt W.drew g p r := h
def rvF (L : Nat → Run) (n m p : Nat) : Run := if p < m ∨ n ≤ p + m then L (n - 1 - p) else L p
def BlkS (w : World) (g S : Nat) : Prop := ∃ cur, w.heap[g]? = some (.cells cur 84 (0, 0)) ∧ cur.size = S
theorem BlkS.frozen {w : World} {g S : Nat} (h : BlkS w g S) (k : Nat) : w.frozen? ⟨g, k, none⟩ = false := by
  obtain ⟨cur, h1, _⟩ := h
  simp [World.frozen?, h1]
theorem BlkS.set {w : World} {g S : Nat} (h : BlkS w g S) (o : Nat) (u : Value) : BlkS (w.setCell ⟨g, o, none⟩ u) g S := by
  obtain ⟨cur, h1, h2⟩ := h
  exact ⟨cur.setIfInBounds o u, by simp [World.setCell, Array.getElem?_modify, h1], by simpa using h2⟩
def RevInv (w : World) (g n S : Nat) (L : Nat → Run) (m : Nat) (wr : World) : Prop :=
  w.grownBy wr (some g) ∧ (∀ p, p < n → TriAt wr g p (rvF L n m p)) ∧ BlkS wr g S
theorem only_set {a w : World} {g : Nat} (h : a.grownBy w (some g)) (o : Nat) (u : Value) : a.grownBy (w.setCell ⟨g, o, none⟩ u) (some g) :=
  ⟨h.os, h.tape, h.output, by simpa [World.setCell] using h.size, fun i hi hne => (Below.heap_setCell w ⟨g, o, none⟩ u i (fun e => hne (by rw [e]))).trans (h.block i hi hne)⟩
theorem only_drew {a w : World} {row : Option Nat} (h : a.grownBy w row) : a.grownBy w.drew row := ⟨h.os, h.tape, h.output, h.size, h.block⟩

def put3 (W : World) (g i : Nat) (x : Run) : World := ((W.setCell ⟨g, i * 3, none⟩ (.int .i64 (x.1 : Nat))).setCell ⟨g, i * 3 + 1, none⟩ (.int .i64 (x.2.1 : Nat))).setCell ⟨g, i * 3 + 2, none⟩ (.int .i64 (x.2.2 : Nat))
theorem put3_at {W : World} {g i : Nat} {r x : Run} (h : TriAt W g i r) : TriAt (put3 W g i x) g i x := (set_three h).1
theorem put3_off {W : World} {g i p : Nat} {r x s : Run} (h : TriAt W g i r) (hp : p ≠ i) (hs : TriAt W g p s) : TriAt (put3 W g i x) g p s := (set_three h).2 p s hp hs
theorem put3_only {a w : World} {g : Nat} (h : a.grownBy w (some g)) (i : Nat) (x : Run) : a.grownBy (put3 w g i x) (some g) := only_set (only_set (only_set h _ _) _ _) _ _
theorem put3_blk {W : World} {g S i : Nat} {x : Run} (h : BlkS W g S) : BlkS (put3 W g i x) g S := ((h.set _ _).set _ _).set _ _
theorem BlkS.drew {w : World} {g S : Nat} (h : BlkS w g S) : BlkS w.drew g S := h
theorem swapRev {w wr : World} {g n S m j : Nat} {L : Nat → Run} (h : RevInv w g n S L m wr) (hmj : m < j) (hj : j + 1 + m = n) :
    RevInv w g n S L (m + 1) (put3 (put3 wr g m (L j)) g j (L m)).drew := by
  obtain ⟨h1, h2, h3⟩ := h
  have a1 := put3_at (x := L j) (h2 m (by omega))
  have a2 := fun p (hp : p ≠ m) (hpn : p < n) => put3_off (x := L j) (h2 m (by omega)) hp (h2 p hpn)
  have hj2 := a2 j (by omega) (by omega)
  have key : ∀ p, p < n → TriAt (put3 (put3 wr g m (L j)) g j (L m)) g p (rvF L n (m + 1) p) := by
    intro p hp
    by_cases e1 : p = m
    · have e : rvF L n (m + 1) p = L j := by unfold rvF; rw [if_pos (.inl (by omega)), show n - 1 - p = j by omega]
      rw [e, e1]; exact put3_off hj2 (by omega) a1
    · by_cases e2 : p = j
      · have e : rvF L n (m + 1) p = L m := by unfold rvF; rw [if_pos (.inr (by omega)), show n - 1 - p = m by omega]
        rw [e, e2]; exact put3_at hj2
      · have e : rvF L n (m + 1) p = rvF L n m p := by
          unfold rvF
          by_cases c : p < m ∨ n ≤ p + m
          · rw [if_pos c, if_pos (by omega)]
          · rw [if_neg c, if_neg (by omega)]
        rw [e]; exact put3_off hj2 e2 (a2 p e1 hp)
  have o1 := put3_only h1 m (L j)
  have o2 := put3_only o1 j (L m)
  have z1 := put3_blk (i := m) (x := L j) h3
  have z2 := put3_blk (i := j) (x := L m) z1
  generalize put3 (put3 wr g m (L j)) g j (L m) = W at *
  exact ⟨only_drew o2, fun p hp => triDrew (key p hp), z2.drew⟩

set_option maxRecDepth 100000 in
theorem rev_nil (w : World) : Calls Try.prog 43 #[.slice none 0 0] w fun e w' => e = .returned (.tuple #[]) ∧ w = w' := by
  go_enter Try.func43, Try.ntmps43
  go_wp2_with fail
  go_loop [2, 3] (fun u v => u = .int .i64 0 ∧ v = .int .i64 (-1)) (fun _ _ => 0)
  case atStart => exact ⟨rfl, rfl⟩
  case round =>
    obtain ⟨rfl, rfl⟩ := hrel
    go_wp2_with fail
    go_end0
    exact ⟨rfl, rfl⟩

set_option maxRecDepth 100000 in
set_option maxHeartbeats 2000000 in
theorem rev_any (g n cap S : Nat) (L : Nat → Run) (w : World) (hn0 : 0 < n) (hn : n ≤ 1000) (hx : ∀ p, p < n → TriAt w g p (L p)) (hf : BlkS w g S) :
    Calls Try.prog 43 #[.slice (some ⟨g, 0, none⟩) n cap] w fun e w' => e = .returned (.tuple #[]) ∧ w.grownBy w' (some g) ∧ (∀ p, p < n → TriAt w' g p (L (n - 1 - p))) ∧ BlkS w' g S := by
  have H0 : Hid (RevInv w g n S L 0 w) := Lib.hid ⟨⟨rfl, rfl, rfl, Nat.le_refl _, fun _ _ _ => rfl⟩, fun p hp => by
    have : rvF L n 0 p = L p := by unfold rvF; rw [if_neg (by omega)]
    rw [this]; exact hx p hp, hf⟩
  clear hx hf
  go_enter Try.func43, Try.ntmps43
  go_wp2_with fail
  go_loopw [2, 3] (fun u v wr => ∃ m : Nat, 2 * m ≤ n ∧ u = .int .i64 (m : Nat) ∧ v = .int .i64 ((n : Int) - 1 - m) ∧ RevInv w g n S L m wr) (fun u _ _ => n - (intOf u).toNat)
  case atStart => exact ⟨0, by omega, rfl, vl_int (by omega), H0.out⟩
  case round =>
    obtain ⟨m, hm, rfl, rfl, hinv⟩ := hrel
    have HV := Lib.hid hinv
    by_cases hlt : m + 1 + m < n
    · obtain ⟨j, hj⟩ : ∃ j, j + 1 + m = n := ⟨n - 1 - m, by omega⟩
      have hmj : m < j := by omega
      have HS := Lib.hid (swapRev HV.out hmj hj)
      have ej : (n : Int) - 1 - m = (j : Int) := by omega
      obtain ⟨v1, v2, v3⟩ := hinv
      obtain ⟨x0, x1, x2⟩ := v2 m (by omega)
      obtain ⟨y0, y1, y2⟩ := v2 j (by omega)
      have r1 : rvF L n m m = L m := by unfold rvF; rw [if_neg (by omega)]
      have r2 : rvF L n m j = L j := by unfold rvF; rw [if_neg (by omega)]
      rw [r1] at x0 x1 x2
      rw [r2] at y0 y1 y2
      have f0 := v3.frozen (m * 3)
      have f1 := v3.frozen (m * 3 + 1)
      have f2 := v3.frozen (m * 3 + 2)
      have f3 := v3.frozen (j * 3)
      have f4 := v3.frozen (j * 3 + 1)
      have f5 := v3.frozen (j * 3 + 2)
      rw [ej]
      clear v1 v2 v3 r1 r2 ej
      generalize L m = x at *
      generalize L j = y at *
      have i1 : (m : Int) < (j : Int) := by omega
      have i2 : (j : Int) < (n : Int) := by omega
      have i3 : (m : Int) < (n : Int) := by omega
      go_wp2_with fail
      go_region
      go_wp2_with fail
      refine ⟨⟨m + 1, by omega, by go_num, vl_int (by omega), HS.out⟩, by simp [intOf]; omega⟩
    · have i1 : ¬ (m : Int) < (n : Int) - 1 - m := by omega
      obtain ⟨v1, v2, v3⟩ := hinv
      have V1 := Lib.hid v1
      have V3 := Lib.hid v3
      have V2 : Hid (∀ p, p < n → TriAt wr g p (L (n - 1 - p))) := Lib.hid (fun p hp => by
        have := v2 p hp
        unfold rvF at this
        by_cases c : p < m ∨ n ≤ p + m
        · rwa [if_pos c] at this
        · rw [if_neg c] at this
          rwa [show n - 1 - p = p by omega])
      clear v1 v2 v3
      go_wp2_with fail
      go_end0
      exact ⟨rfl, V1.out, V2.out, V3.out⟩

/-- stretches as cells -/
def flatT (l : List Run) : List Value := l.flatMap fun x => [.int .i64 (x.1 : Nat), .int .i64 (x.2.1 : Nat), .int .i64 (x.2.2 : Nat)]
theorem flatT_snoc (l : List Run) (x : Run) : flatT (l ++ [x]) = flatT l ++ [.int .i64 (x.1 : Nat), .int .i64 (x.2.1 : Nat), .int .i64 (x.2.2 : Nat)] := by simp [flatT]
theorem flatT_len (l : List Run) : (flatT l).length = l.length * 3 := by
  induction l with
  | nil => rfl
  | cons x l ih =>
    have e : flatT (x :: l) = .int .i64 (x.1 : Nat) :: .int .i64 (x.2.1 : Nat) :: .int .i64 (x.2.2 : Nat) :: flatT l := by simp [flatT]
    rw [e]; simp [ih]; omega
theorem flatT_get (l : List Run) : ∀ i (h : i < l.length), (flatT l)[i * 3]? = some (.int .i64 (l[i].1 : Nat)) ∧ (flatT l)[i * 3 + 1]? = some (.int .i64 (l[i].2.1 : Nat)) ∧ (flatT l)[i * 3 + 2]? = some (.int .i64 (l[i].2.2 : Nat)) := by
  induction l with
  | nil => intro i h; exact absurd h (by simp)
  | cons x l ih =>
    intro i h
    have e : flatT (x :: l) = .int .i64 (x.1 : Nat) :: .int .i64 (x.2.1 : Nat) :: .int .i64 (x.2.2 : Nat) :: flatT l := by simp [flatT]
    rw [e]
    cases i with
    | zero => simp
    | succ i =>
      have := ih i (by simpa using h)
      rw [show (i + 1) * 3 = i * 3 + 3 by omega, show i * 3 + 3 + 1 = (i * 3 + 1) + 3 by omega, show i * 3 + 3 + 2 = (i * 3 + 2) + 3 by omega]
      simpa using this
theorem own_tri {w : World} {base g n cap : Nat} {l : List Run} (h : w.ownsRow base 84 3 (.slice (some ⟨g, 0, none⟩) n cap) n (flatT l)) (hl : l.length = n) : ∀ p (hp : p < l.length), TriAt w g p l[p] := by
  intro p hp
  obtain ⟨f0, f1, f2⟩ := flatT_get l p hp
  have hc := h.cells (g := g) rfl
  have c0 := hc _ _ f0
  have c1 := hc _ _ f1
  have c2 := hc _ _ f2
  have e : ∀ j, (⟨g, 0, none⟩ : Addr).add j = ⟨g, j, none⟩ := fun j => by unfold Addr.add; by_cases h : j = 0 <;> simp [h]
  rw [e] at c0 c1 c2
  exact ⟨c0, c1, c2⟩

/-- what grows is turned round -/
theorem rev_own (base : Nat) (v : Value) (l : List Run) (w : World) (hn : l.length ≤ 1000) (h : w.ownsRow base 84 3 v l.length (flatT l)) (hnil : l.length = 0 → v = .slice none 0 0) :
    Calls Try.prog 43 #[v] w fun e w' => e = .returned (.tuple #[]) ∧ w.grownBy w' v.ownBlock ∧ w'.ownsRow base 84 3 v l.length (flatT l.reverse) := by
  rcases h.2 with ⟨rfl, h0⟩ | ⟨g, cap, cur, rfl, hb, hh, hnc, hcm, hcs, htake⟩
  · have hl : l = [] := List.eq_nil_of_length_eq_zero h0
    subst hl
    refine (rev_nil w).mono ?_
    rintro e w' ⟨rfl, rfl⟩
    exact ⟨rfl, World.grownBy.refl w _, h⟩
  · rcases Nat.eq_zero_or_pos l.length with h0 | h0
    · have := hnil h0; cases this
    · have hx : ∀ p, p < l.length → TriAt w g p (l.getD p (0, 0, 0)) := fun p hp => by
        have := own_tri h rfl p hp
        rwa [List.getD_eq_getElem?_getD, List.getElem?_eq_getElem hp]
      refine (rev_any g l.length cap cur.size (fun p => l.getD p (0, 0, 0)) w h0 hn hx ⟨cur, hh, rfl⟩).mono ?_
      rintro e w' ⟨rfl, hg, hq, cur', hc', hs'⟩
      refine ⟨rfl, hg, ⟨by rw [flatT_len]; simp, .inr ⟨g, cap, cur', rfl, hb, hc', hnc, hcm, by rw [hs']; exact hcs, ?_⟩⟩⟩
      apply List.ext_getElem?
      intro q
      rw [List.getElem?_take]
      by_cases hlt : q < l.length * 3
      · rw [if_pos hlt]
        obtain ⟨p, c, hp, hc, rfl⟩ : ∃ p c, p < l.length ∧ c < 3 ∧ q = p * 3 + c := ⟨q / 3, q % 3, by omega, by omega, by omega⟩
        obtain ⟨t0, t1, t2⟩ := hq p hp
        have hr : l.reverse[p]'(by simpa using hp) = l.getD (l.length - 1 - p) (0, 0, 0) := by
          rw [List.getElem_reverse, List.getD_eq_getElem?_getD, List.getElem?_eq_getElem (by omega)]; rfl
        obtain ⟨f0, f1, f2⟩ := flatT_get l.reverse p (by simpa using hp)
        rw [hr] at f0 f1 f2
        have cc : ∀ o, w'.cell? ⟨g, o, none⟩ = cur'.toList[o]? := fun o => by simp [World.cell?, hc']
        rw [cc] at t0 t1 t2
        have : c = 0 ∨ c = 1 ∨ c = 2 := by omega
        rcases this with rfl | rfl | rfl
        · rw [Nat.add_zero, t0, f0]
        · rw [t1, f1]
        · rw [t2, f2]
      · rw [if_neg hlt, List.getElem?_eq_none (by rw [flatT_len]; simp; omega)]

end Go.Proofs.Ytdhbcmbajbgblaa
