/- DiffKeeps: the walk. -/
import Derived.Test.YtdhbcmbajbgblaaKeepB
import Derived.Test.YtdhbcmbajbgblaaEditG
namespace Go.Proofs.Ytdhbcmbajbgblaa
open Go Go.RowKit
set_option linter.unusedVariables false

theorem infoBools : (Try.prog.info? 4).map (fun i => (i.zero, i.size, i.bytes)) = some (some (.bool false), 1, 1) := by kernel_rfl
/-- a row of bools in memory -/
def BInv (w : World) (n : Nat) (f : Nat → Bool) (wr : World) : Prop :=
  Below w.heap.size w wr ∧ w.heap.size < wr.heap.size ∧ (∀ j, j < n → wr.cell? ⟨w.heap.size, j, none⟩ = some (.bool (f j))) ∧ ∀ j, wr.frozen? ⟨w.heap.size, j, none⟩ = false
theorem BInv.step {w wr w2 : World} {n : Nat} {f : Nat → Bool} (h : BInv w n f wr) (hb : Below wr.heap.size wr w2) : BInv w n f w2 := by
  obtain ⟨h1, h2, h3, h4⟩ := h
  refine ⟨after h1 hb, by have := hb.size; omega, fun j hj => keep hb h2 (h3 j hj), fun j => ?_⟩
  rw [hb.frozen (p := ⟨w.heap.size, j, none⟩) h2]; exact h4 j
theorem BInv.drew {w wr : World} {n : Nat} {f : Nat → Bool} (h : BInv w n f wr) (m : Nat) : BInv w n f (wr.drewN m) := ⟨below_drewN h.1 m, h.2⟩
theorem BInv.put {w wr : World} {n : Nat} {f f' : Nat → Bool} (h : BInv w n f wr) (k : Nat) (b : Bool) (hk : k < n) (hf : ∀ j, j < n → f' j = if j = k then b else f j) : BInv w n f' (wr.setCell ⟨w.heap.size, k, none⟩ (.bool b)) := by
  obtain ⟨h1, h2, h3, h4⟩ := h
  refine ⟨h1.setCell (Nat.le_refl _) _, by simpa [World.setCell] using h2, fun j hj => ?_, fun j => by rw [World.frozen?_setCell]; exact h4 j⟩
  rw [hf j hj]
  by_cases e : j = k
  · subst e
    rw [if_pos rfl]
    exact World.cell?_setCell_same _ _ _ (h3 j hj)
  · rw [World.cell?_setCell_other _ _ _ _ (by intro hh; injection hh; omega), h3 j hj, if_neg e]
theorem made_bools (m : Nat) (w : World) (hm : m ≤ 65537) :
    ∃ W1, (Instr.makeSlice 33 (.int .i64 (m : Int)) (.int .i64 (m : Int))).run Try.prog w = .ok (.slice (some ⟨w.heap.size, 0, none⟩) m m) W1 ∧ BInv w m (fun _ => false) W1 := by
  obtain ⟨i0, hi, hz0, hz1, hz2⟩ := info_parts infoBools
  obtain ⟨W1, h1, h2, h3⟩ := run_makeSlice_full (P := Try.prog) w w.heap.size 33 4 i0 (.bool false) 1 Try.underlying33 hi hz0 hz1 .i64 .i64 m (by omega) (by rw [hz2]; omega) (by unfold maxLen; omega) (Nat.le_refl _)
  refine ⟨W1, h1, Below.grown (Below.refl _ _) h3 (Nat.le_refl _) (fun j hj => by cases hj), (h2.lt _ rfl).2, fun j hj => ?_, fun j => h2.frozenAt j⟩
  rw [h2.cellAt j (by omega), show (Value.bool false).cells = #[.bool false] from rfl, toList_madeCells_one, List.getElem?_replicate, if_pos (by omega)]

set_option maxRecDepth 100000 in
set_option maxHeartbeats 4000000 in
theorem keeps_no (s : ByteArray) (src : Option Addr) (n cap : Nat) (l : List IEd) (w : World) (hs : s.size ≤ 1000) (hl : l.length = n) (hn : n ≤ 60) (hr : EdsIn w src l) (hc : checkE s.size l ≠ 0) :
    Calls Try.prog 3 #[.string s, .slice src n cap] w fun e w' => e = .returned (.bool true) ∧ Below w.heap.size w w' := by
  have HK := Lib.hid (fun w hr => kept_no s src n cap l w hl (by unfold maxLen; omega) hr hc)
  have HC := Lib.hid (fun w hr => rcheck_any s.size src n cap l w hl (by unfold maxLen; omega) (by unfold maxLen; omega) hr)
  have HL := Lib.hid hl
  have k1 : ¬ 1000 < (s.size : Int) := by omega
  have k2 : ¬ 60 < (n : Int) := by omega
  generalize checkE s.size l = c at *
  have hc1 : (c == 0) = false := by simp; exact hc
  have hc2 : (c != 0) = true := by simp; exact hc
  clear hl
  go_enter Try.func3, Try.ntmps3
  go_wp2_with fail
  refine (finds_any _).mono ?_
  rintro e w1 ⟨rfl, h01⟩
  have HR1 := Lib.hid (hr.step h01)
  have H1 := Lib.hid h01
  clear h01 hr
  go_wp2_with fail
  go_loopw [32] (fun i wr => ∃ k : Nat, k ≤ n ∧ i = .int .i64 k ∧ Below w1.heap.size w1 wr) (fun i _ => n - (intOf i).toNat)
  case atStart => exact ⟨0, Nat.zero_le _, rfl, Below.refl _ _⟩
  case round =>
    obtain ⟨k, hk, rfl, hbel⟩ := hrel
    have HBEL := Lib.hid hbel
    by_cases hlt : k < n
    · have hkl : k < l.length := by rw [HL.out]; exact hlt
      obtain ⟨b, off, hs, hb, hrow⟩ := (HR1.out.step hbel) (by omega)
      subst hs
      obtain ⟨c0, c1, c2⟩ := hrow k hkl
      clear hrow hbel
      generalize l[k] = x at c0 c1 c2
      obtain ⟨x1, x2, x3⟩ := x
      dsimp only at c0 c1 c2
      have i1 : (k : Int) < (n : Int) := by omega
      clear hkl
      by_cases h100 : 100 < x3.size
      · have k3 : 100 < (x3.size : Int) := by omega
        go_wp2_with fail
        go_ret
        exact ⟨rfl, (H1.out.trans (HBEL.out.mono H1.out.size)).alloc (by have := H1.out.size; have := HBEL.out.size; omega) _⟩
      · have k3 : ¬ 100 < (x3.size : Int) := by omega
        go_wp2_with fail
        exact ⟨⟨k + 1, by omega, by go_num, HBEL.out.alloc HBEL.out.size _⟩, by simp [intOf] <;> omega⟩
    · have hk' : k = n := by omega
      subst hk'
      have HR2 := Lib.hid (HR1.out.step hbel)
      have H2 := Lib.hid (after H1.out hbel)
      clear hbel HBEL
      go_wp2_with fail
      refine (HK.out _ HR2.out).mono ?_
      rintro e w3 ⟨rfl, h23⟩
      have HR3 := Lib.hid (HR2.out.step h23)
      have H3 := Lib.hid (after H2.out h23)
      clear h23
      go_wp2_with fail
      refine (HC.out _ HR3.out).mono ?_
      rintro e w4 ⟨rfl, h34⟩
      have H4 := Lib.hid (after H3.out h34)
      clear h34
      go_wp2_with fail
      go_ret
      exact ⟨by simp, H4.out⟩

/-- places that no span of a list holds -/
def fT (T : List (Int × Int)) (j : Nat) : Bool := decide (cntN j T = 0)
/-- .. and that the part of a further span up to i doesn't hold -/
def fI (T : List (Int × Int)) (a i : Nat) (j : Nat) : Bool := fT T j && !decide (a ≤ j ∧ j < i)
theorem fI_put (T : List (Int × Int)) (a i j : Nat) (h : a ≤ i) : fI T a (i + 1) j = if j = i then false else fI T a i j := by
  unfold fI
  by_cases e : j = i
  · subst e; rw [if_pos rfl]; simp [h]
  · rw [if_neg e]; congr 2; exact decide_eq_decide.2 (by omega)
theorem fI_start (T : List (Int × Int)) (a j : Nat) : fI T a a j = fT T j := by
  unfold fI; rw [decide_eq_false (by omega)]; simp
theorem fI_end (T : List (Int × Int)) (a b j : Nat) : fI T a b j = fT (T ++ [((a : Int), (b : Int))]) j := by
  unfold fI fT
  rw [cntN_snoc]
  have hc : covN (j : Int) ((a : Int), (b : Int)) = if a ≤ j ∧ j < b then 1 else 0 := by
    unfold covN
    by_cases h : a ≤ j ∧ j < b
    · rw [if_pos h, if_pos (by simp only; omega)]
    · rw [if_neg h, if_neg (by simp only; omega)]
  rw [hc]
  by_cases h : a ≤ j ∧ j < b
  · simp [h]
  · rw [if_neg h]; simp only [h, decide_false, Bool.not_false, Bool.and_true, Nat.add_zero]
theorem BInv.cong {w wr : World} {n : Nat} {f f' : Nat → Bool} (h : BInv w n f wr) (he : ∀ j, j < n → f' j = f j) : BInv w n f' wr := ⟨h.1, h.2.1, fun j hj => by rw [he j hj]; exact h.2.2.1 j hj, h.2.2.2⟩
/-- empty spans hold nothing -/
theorem cnt_tkN (L : List NEd) (j : Int) : cntN j (tkN L) = cntN j (L.map prN) := by
  induction L with
  | nil => rfl
  | cons e L ih =>
    have e1 : cntN j ((e :: L).map prN) = covN j (prN e) + cntN j (L.map prN) := by simp [cntN]
    rw [e1, ← ih]
    by_cases h : e.1 < e.2.1
    · have : tkN (e :: L) = prN e :: tkN L := by unfold tkN; simp [takesB, h]
      rw [this]; simp [cntN]
    · have : tkN (e :: L) = tkN L := by unfold tkN; simp [takesB, h]
      have h0 : covN j (prN e) = 0 := by unfold covN prN; rw [if_neg (by simp only; omega)]
      rw [this, h0]; omega

end Go.Proofs.Ytdhbcmbajbgblaa
