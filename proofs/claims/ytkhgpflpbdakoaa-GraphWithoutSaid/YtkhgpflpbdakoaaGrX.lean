/- slices.Reverse at edges. -/
import Derived.Test.YtkhgpflpbdakoaaGrV
namespace Go.Proofs.Ytkhgpflpbdakoaa
open Go Go.RowKit
set_option linter.unusedVariables false
set_option linter.unusedSimpArgs false

theorem set_at {W : World} {g o : Nat} {v u : Value} (h : W.cell? ⟨g, o, none⟩ = some u) : (W.setCell ⟨g, o, none⟩ v).cell? ⟨g, o, none⟩ = some v := World.cell?_setCell_same _ _ _ h
theorem set_off {W : World} {g o o' : Nat} {v : Value} (h : o ≠ o') : (W.setCell ⟨g, o, none⟩ v).cell? ⟨g, o', none⟩ = W.cell? ⟨g, o', none⟩ :=
  World.cell?_setCell_other _ _ _ _ (by intro e; injection e with _ e2; exact h e2)
def put4 (W : World) (g i : Nat) (x : Eg) : World := (((W.setCell ⟨g, i * 4, none⟩ (.int .i64 x.1)).setCell ⟨g, i * 4 + 1, none⟩ (.int .i64 x.2.1)).setCell ⟨g, i * 4 + 2, none⟩ (.int .i64 x.2.2.1)).setCell ⟨g, i * 4 + 3, none⟩ (.int .i64 x.2.2.2)
theorem put4_at {W : World} {g i : Nat} {r x : Eg} (h : EgAt W g (i * 4) r) : EgAt (put4 W g i x) g (i * 4) x := by
  obtain ⟨h0, h1, h2, h3⟩ := h
  unfold put4
  refine ⟨?_, ?_, ?_, ?_⟩
  · rw [set_off (by omega), set_off (by omega), set_off (by omega)]; exact set_at h0
  · rw [set_off (by omega), set_off (by omega)]; exact set_at (u := .int .i64 r.2.1) (by rw [set_off (by omega)]; exact h1)
  · rw [set_off (by omega)]; exact set_at (u := .int .i64 r.2.2.1) (by rw [set_off (by omega), set_off (by omega)]; exact h2)
  · exact set_at (u := .int .i64 r.2.2.2) (by rw [set_off (by omega), set_off (by omega), set_off (by omega)]; exact h3)
theorem put4_off {W : World} {g i p : Nat} {x s : Eg} (hp : p ≠ i) (h : EgAt W g (p * 4) s) : EgAt (put4 W g i x) g (p * 4) s := by
  obtain ⟨q0, q1, q2, q3⟩ := h
  unfold put4
  refine ⟨?_, ?_, ?_, ?_⟩
  · rw [set_off (by omega), set_off (by omega), set_off (by omega), set_off (by omega)]; exact q0
  · rw [set_off (by omega), set_off (by omega), set_off (by omega), set_off (by omega)]; exact q1
  · rw [set_off (by omega), set_off (by omega), set_off (by omega), set_off (by omega)]; exact q2
  · rw [set_off (by omega), set_off (by omega), set_off (by omega), set_off (by omega)]; exact q3
theorem egDrew {W : World} {g p : Nat} {r : Eg} (h : EgAt W g p r) : EgAt W.drew g p r := h
def rvF (L : Nat → Eg) (n m p : Nat) : Eg := if p < m ∨ n ≤ p + m then L (n - 1 - p) else L p
def BlkS (w : World) (g : Nat) : Prop := ∃ cur, w.heap[g]? = some (.cells cur 29 (0, 0))
theorem BlkS.frozen {w : World} {g : Nat} (h : BlkS w g) (k : Nat) : w.frozen? ⟨g, k, none⟩ = false := by
  obtain ⟨cur, h1⟩ := h
  simp [World.frozen?, h1]
theorem BlkS.set {w : World} {g : Nat} (h : BlkS w g) (o : Nat) (u : Value) : BlkS (w.setCell ⟨g, o, none⟩ u) g := by
  obtain ⟨cur, h1⟩ := h
  exact ⟨cur.setIfInBounds o u, by simp [World.setCell, Array.getElem?_modify, h1]⟩
def RevInv (w : World) (g n : Nat) (L : Nat → Eg) (m : Nat) (wr : World) : Prop :=
  w.grownBy wr (some g) ∧ (∀ p, p < n → EgAt wr g (p * 4) (rvF L n m p)) ∧ BlkS wr g
theorem only_set {a w : World} {g : Nat} (h : a.grownBy w (some g)) (o : Nat) (u : Value) : a.grownBy (w.setCell ⟨g, o, none⟩ u) (some g) :=
  ⟨h.os, h.tape, h.output, by simpa [World.setCell] using h.size, fun i hi hne => (Below.heap_setCell w ⟨g, o, none⟩ u i (fun e => hne (by rw [e]))).trans (h.block i hi hne)⟩
theorem only_drew {a w : World} {row : Option Nat} (h : a.grownBy w row) : a.grownBy w.drew row := ⟨h.os, h.tape, h.output, h.size, h.block⟩
theorem put4_only {a w : World} {g : Nat} (h : a.grownBy w (some g)) (i : Nat) (x : Eg) : a.grownBy (put4 w g i x) (some g) := only_set (only_set (only_set (only_set h _ _) _ _) _ _) _ _
theorem put4_blk {W : World} {g i : Nat} {x : Eg} (h : BlkS W g) : BlkS (put4 W g i x) g := (((h.set _ _).set _ _).set _ _).set _ _
theorem BlkS.drew {w : World} {g : Nat} (h : BlkS w g) : BlkS w.drew g := h
theorem swapRev {w wr : World} {g n m j : Nat} {L : Nat → Eg} (h : RevInv w g n L m wr) (hmj : m < j) (hj : j + 1 + m = n) :
    RevInv w g n L (m + 1) (put4 (put4 wr g m (L j)) g j (L m)).drew := by
  obtain ⟨h1, h2, h3⟩ := h
  have a1 := put4_at (x := L j) (h2 m (by omega))
  have a2 := fun p (hp : p ≠ m) (hpn : p < n) => put4_off (x := L j) hp (h2 p hpn)
  have hj2 := a2 j (by omega) (by omega)
  have key : ∀ p, p < n → EgAt (put4 (put4 wr g m (L j)) g j (L m)) g (p * 4) (rvF L n (m + 1) p) := by
    intro p hp
    by_cases e1 : p = m
    · have e : rvF L n (m + 1) p = L j := by unfold rvF; rw [if_pos (.inl (by omega)), show n - 1 - p = j by omega]
      rw [e, e1]; exact put4_off (by omega) a1
    · by_cases e2 : p = j
      · have e : rvF L n (m + 1) p = L m := by unfold rvF; rw [if_pos (.inr (by omega)), show n - 1 - p = m by omega]
        rw [e, e2]; exact put4_at hj2
      · have e : rvF L n (m + 1) p = rvF L n m p := by
          unfold rvF
          by_cases c : p < m ∨ n ≤ p + m
          · rw [if_pos c, if_pos (by omega)]
          · rw [if_neg c, if_neg (by omega)]
        rw [e]; exact put4_off e2 (a2 p e1 hp)
  have o1 := put4_only h1 m (L j)
  have o2 := put4_only o1 j (L m)
  have z1 := put4_blk (i := m) (x := L j) h3
  have z2 := put4_blk (i := j) (x := L m) z1
  generalize put4 (put4 wr g m (L j)) g j (L m) = W at *
  exact ⟨only_drew o2, fun p hp => egDrew (key p hp), z2.drew⟩

set_option maxRecDepth 100000 in
theorem rev_nil (w : World) : Calls Try.prog 31 #[.slice none 0 0] w fun e w' => e = .returned (.tuple #[]) ∧ w = w' := by
  go_enter Try.func31, Try.ntmps31
  go_wp2_with fail
  go_loop [2, 3] (fun u v => u = .int .i64 0 ∧ v = .int .i64 (-1)) (fun _ _ => 0)
  case atStart => exact ⟨rfl, rfl⟩
  case round =>
    obtain ⟨rfl, rfl⟩ := hrel
    go_wp2_with fail
    go_end0
    exact ⟨rfl, rfl⟩

set_option maxRecDepth 100000 in
set_option maxHeartbeats 4000000 in
theorem rev_any (g n cap : Nat) (L : Nat → Eg) (w : World) (hn0 : 0 < n) (hn : n ≤ 20000) (hx : ∀ p, p < n → EgAt w g (p * 4) (L p)) (hf : BlkS w g) :
    Calls Try.prog 31 #[.slice (some ⟨g, 0, none⟩) n cap] w fun e w' => e = .returned (.tuple #[]) ∧ w.grownBy w' (some g) ∧ (∀ p, p < n → EgAt w' g (p * 4) (L (n - 1 - p))) ∧ BlkS w' g := by
  have H0 : Hid (RevInv w g n L 0 w) := Lib.hid ⟨⟨rfl, rfl, rfl, Nat.le_refl _, fun _ _ _ => rfl⟩, fun p hp => by
    have : rvF L n 0 p = L p := by unfold rvF; rw [if_neg (by omega)]
    rw [this]; exact hx p hp, hf⟩
  have ec : ((n - 1 : Nat) : Int) = (n : Int) - 1 := by omega
  have hw0 : IntKind.i64.wrap ((n : Int) - 1) = (n : Int) - 1 := IntWalk.i64_in _ ⟨by omega, by omega⟩
  clear hx hf ec
  go_enter Try.func31, Try.ntmps31
  go_wp2_with fail
  go_loopg [2, 3] n (fun gk u v wr => ∃ m j : Nat, m + gk = n ∧ 2 * m ≤ n ∧ u = .int .i64 (m : Nat) ∧ v = .int .i64 ((j : Int) - 1) ∧ j + m = n ∧ RevInv w g n L m wr)
  case atStart => exact ⟨0, n, by omega, by omega, rfl, rfl, by omega, H0.out⟩
  case round =>
    clear H0
    obtain ⟨m, jj, hgk, hm, rfl, rfl, hjm, hinv⟩ := hrel
    have HV := Lib.hid hinv
    by_cases hlt : m + 1 + m < n
    · obtain ⟨j, rfl⟩ : ∃ j, jj = j + 1 := ⟨jj - 1, by omega⟩
      have hmj : m < j := by omega
      have HS := Lib.hid (swapRev HV.out hmj (by omega))
      have ej : ((j + 1 : Nat) : Int) - 1 = (j : Int) := by omega
      obtain ⟨v1, v2, v3⟩ := hinv
      obtain ⟨x0, x1, x2, x3⟩ := v2 m (by omega)
      obtain ⟨y0, y1, y2, y3⟩ := v2 j (by omega)
      have r1 : rvF L n m m = L m := by unfold rvF; rw [if_neg (by omega)]
      have r2 : rvF L n m j = L j := by unfold rvF; rw [if_neg (by omega)]
      rw [r1] at x0 x1 x2 x3
      rw [r2] at y0 y1 y2 y3
      have f0 := v3.frozen (m * 4)
      have f1 := v3.frozen (m * 4 + 1)
      have f2 := v3.frozen (m * 4 + 2)
      have f3 := v3.frozen (m * 4 + 3)
      have f4 := v3.frozen (j * 4)
      have f5 := v3.frozen (j * 4 + 1)
      have f6 := v3.frozen (j * 4 + 2)
      have f7 := v3.frozen (j * 4 + 3)
      rw [ej]
      clear v1 v2 v3 r1 r2 ej
      generalize L m = x at *
      generalize L j = y at *
      have i1 : (m : Int) < (j : Int) := by omega
      have i2 : (j : Int) < (n : Int) := by omega
      have i3 : (m : Int) < (n : Int) := by omega
      have hw1 : IntKind.i64.wrap ((m : Int) + 1) = (m : Int) + 1 := IntWalk.i64_in _ ⟨by omega, by omega⟩
      have hw2 : IntKind.i64.wrap ((j : Int) - 1) = (j : Int) - 1 := IntWalk.i64_in _ ⟨by omega, by omega⟩
      go_wp2_with fail
      go_region
      go_wp2_with fail
      go_roundg (n - (m + 1))
      case measure => omega
      case rel => exact ⟨m + 1, j, by omega, by omega, by push_cast; rfl, rfl, by omega, HS.out⟩
    · have i1 : ¬ (m : Int) < (jj : Int) - 1 := by omega
      have i2 : decide ((m : Int) < (jj : Int) - 1) = false := decide_eq_false i1
      obtain ⟨v1, v2, v3⟩ := hinv
      have V1 := Lib.hid v1
      have V3 := Lib.hid v3
      have V2 : Hid (∀ p, p < n → EgAt wr g (p * 4) (L (n - 1 - p))) := Lib.hid (fun p hp => by
        have := v2 p hp
        unfold rvF at this
        by_cases c : p < m ∨ n ≤ p + m
        · rwa [if_pos c] at this
        · rw [if_neg c] at this
          rwa [show n - 1 - p = p by omega])
      clear v1 v2 v3
      go_wp2_with fail
      go_end0
      exact ⟨rfl, V1.out, V2.out, V3.out⟩
end Go.Proofs.Ytkhgpflpbdakoaa
