/- Contract of kind.Layers. -/
import Derived.Test.YtdkpmpkoelckoaaDoorTyK
import Derived.OneCell
namespace Go.Proofs.YtdkpmpkoelckoaaDoor
open Go Go.RowKit
set_option linter.unusedVariables false
set_option linter.unusedSimpArgs false

theorem infoInt : (Tryd.prog.info? 3).map (fun i => (i.zero, i.size, i.bytes)) = some (some (.int .i64 0), 1, 8) := by kernel_rfl
/-- numbers as values -/
def nums (l : List Nat) : List Value := l.map fun (n : Nat) => Value.int .i64 (n : Int)
/-- the layers below one that may have marks -/
def layTo (B : Int) (k : Nat) : List Nat := (List.range k).filter fun i => decide (0 < i ∨ B = 5)
theorem layTo_yes {B : Int} {k : Nat} (h : 0 < k ∨ B = 5) : layTo B (k + 1) = layTo B k ++ [k] := by
  unfold layTo; rw [List.range_succ, List.filter_append]; simp [h]
theorem layTo_no {B : Int} {k : Nat} (h : ¬ (0 < k ∨ B = 5)) : layTo B (k + 1) = layTo B k := by
  unfold layTo; rw [List.range_succ, List.filter_append]; simp [h]
/-- the first layer that may have a mark -/
def firstL (B : Int) : Nat := if B = 5 then 0 else 1
theorem layTo_len (B : Int) (k : Nat) : (layTo B k).length = k - firstL B := by
  induction k with
  | zero => simp [layTo]
  | succ k ih =>
    by_cases h : 0 < k ∨ B = 5
    · rw [layTo_yes h, List.length_append, ih]
      unfold firstL
      split
      · simp
      · simp; omega
    · rw [layTo_no h, ih]
      unfold firstL
      split
      · rename_i h5; exact absurd (.inr h5) h
      · omega
theorem layTo_get (B : Int) (k j : Nat) (h : j < (layTo B k).length) : (layTo B k)[j] = firstL B + j := by
  induction k with
  | zero => simp [layTo] at h
  | succ k ih =>
    by_cases hk : 0 < k ∨ B = 5
    · have e := layTo_yes hk
      have hl := layTo_len B k
      by_cases hj : j < (layTo B k).length
      · have := ih hj
        simp only [e, List.getElem_append_left hj]
        exact this
      · have hj2 : j = (layTo B k).length := by rw [e, List.length_append] at h; simp at h; omega
        subst hj2
        simp only [e]
        rw [List.getElem_append_right (Nat.le_refl _)]
        simp only [Nat.sub_self, List.getElem_cons_zero, hl]
        unfold firstL at hl ⊢
        split
        · omega
        · rename_i h5
          have : 0 < k := by omega
          omega
    · have e := layTo_no hk
      simp only [e] at h ⊢
      exact ih h

/-- a list of numbers, one behind the other, that was made -/
def LayAt (w0 w : World) (v : Value) (f n : Nat) : Prop :=
  (n = 0 ∧ v = .slice none 0 0) ∨ ∃ g cap, v = .slice (some ⟨g, 0, none⟩) n cap ∧ n ≤ cap ∧ cap ≤ maxLen ∧ w0.heap.size ≤ g ∧ g < w.heap.size ∧ ∀ i, i < n → w.cell? ⟨g, i, none⟩ = some (.int .i64 ((f + i : Nat) : Int))
theorem lay_of_row {w0 w : World} {v : Value} {B : Int} {k b0 : Nat} (hb0 : w0.heap.size ≤ b0) (ho : w.ownsRow b0 3 1 v (layTo B k).length (nums (layTo B k))) : LayAt w0 w v (firstL B) (layTo B k).length := by
  have ho' := ho
  obtain ⟨hx, h2⟩ := ho
  rcases h2 with ⟨rfl, h0⟩ | ⟨g, cap, cur, rfl, hg, hgh, hn, hcap, hcs, htk⟩
  · exact .inl ⟨h0, rfl⟩
  · refine .inr ⟨g, cap, rfl, hn, hcap, by omega, lt_of_block hgh, fun i hi => ?_⟩
    have := ho'.cells (g := g) rfl i (.int .i64 ((layTo B k)[i] : Nat)) (by simp [nums, hi])
    have e : (⟨g, 0, none⟩ : Addr).add i = ⟨g, i, none⟩ := by unfold Addr.add; by_cases h : i = 0 <;> simp [h]
    rw [e] at this
    rw [this, layTo_get B k i hi]

/-- what stands in memory while Layers goes through the layers -/
structure LyInv (w : World) (B : Int) (N : ByteArray) (d : Nat) (M : ByteArray) (v : Value) (k : Nat) (wr : World) : Prop where
  ty : TyAt wr w.heap.size B N d M
  bel : Below w.heap.size w wr
  row : wr.ownsRow (w.heap.size + 1) 3 1 v (layTo B k).length (nums (layTo B k))

theorem TyAt.keepN {n : Nat} {w w1 : World} {p : Nat} {B : Int} {N : ByteArray} {D : Int} {M : ByteArray} (h : TyAt w p B N D M) (hb : Below n w w1) (hp : p < n) (hn : n ≤ w.heap.size) : TyAt w1 p B N D M := by
  obtain ⟨h0, h1, h2, h3, h4, h5⟩ := h
  exact ⟨Nat.lt_of_lt_of_le h0 hb.size, by rw [hb.cell (p := ⟨p, 0, none⟩) hp]; exact h1, by rw [hb.cell (p := ⟨p, 1, none⟩) hp]; exact h2, by rw [hb.cell (p := ⟨p, 2, none⟩) hp]; exact h3, by rw [hb.cell (p := ⟨p, 3, none⟩) hp]; exact h4, fun j => by rw [hb.frozen (p := ⟨p, j, none⟩) hp]; exact h5 j⟩
theorem LyInv.skip {w wr : World} {B : Int} {N : ByteArray} {d : Nat} {M : ByteArray} {v : Value} {k : Nat} (h : LyInv w B N d M v k wr) (hk : ¬ (0 < k ∨ B = 5)) : LyInv w B N d M v (k + 1) wr :=
  ⟨h.ty, h.bel, by rw [layTo_no hk]; exact h.row⟩
theorem LyInv.more {w wr w2 : World} {B : Int} {N : ByteArray} {d : Nat} {M : ByteArray} {v v' : Value} {k : Nat} {o : Obj} (h : LyInv w B N d M v k wr) (hk : 0 < k ∨ B = 5)
    (hown : w2.ownsRow (w.heap.size + 1) 3 1 v' ((layTo B k).length + 1) (nums (layTo B k) ++ [.int .i64 (k : Int)])) (hg : (wr.alloc o).grownBy w2 v.ownBlock) : LyInv w B N d M v' (k + 1) w2 := by
  have hlt := h.ty.1
  have hr : ∀ j, v.ownBlock = some j → w.heap.size + 1 ≤ j := fun j hj => (h.row.lt j hj).1
  have hb2 : Below (w.heap.size + 1) wr w2 := Below.grown ((Below.refl _ _).alloc (by omega) o) hg (by simp; omega) hr
  refine ⟨h.ty.keepN hb2 (by omega) (by omega), ?_, ?_⟩
  · exact Below.grown (h.bel.alloc h.bel.size o) hg (by simp; omega) (fun j hj => by have := hr j hj; omega)
  · rw [layTo_yes hk]
    have e : nums (layTo B k ++ [k]) = nums (layTo B k) ++ [.int .i64 (k : Int)] := by simp [nums]
    rw [e, List.length_append]
    exact hown

set_option maxHeartbeats 2000000 in
theorem layers_no (B : Int) (N : ByteArray) (D : Int) (M : ByteArray) (w : World) (hN : N.size ≤ 60) (hM : M.size ≤ 60) (h : rightB B N D M = false) :
    Calls Tryd.prog 20 #[.agg #[.int .i64 B, .string N, .int .i64 D, .string M]] w fun e w' => e = .returned (.slice none 0 0) ∧ Below w.heap.size w w' := by
  have HR := Lib.hid (fun w => kmay_any B N D M w hN hM)
  rw [h] at HR
  clear h
  go_enter Tryd.func20, Tryd.ntmps20
  go_wp2_with (go_at_call 35; refine (HR.out _).mono ?_; rintro e w1 ⟨rfl, hb1⟩; obtain ⟨hq1, hy1⟩ := box4 hb1)
  all_goals go_ret
  all_goals exact ⟨rfl, hq1⟩

set_option maxHeartbeats 4000000 in
theorem layers_in (B : Int) (N : ByteArray) (d : Nat) (M : ByteArray) (w : World) (hN : N.size ≤ 60) (hM : M.size ≤ 60) (h : rightB B N d M = true) :
    Calls Tryd.prog 20 #[.agg #[.int .i64 B, .string N, .int .i64 (d : Int), .string M]] w fun e w' => ∃ v, e = .returned v ∧ Below w.heap.size w w' ∧ LayAt w w' v (firstL B) (d + 1 - firstL B) := by
  obtain ⟨i0, hi, hz0, hz1, hz2⟩ := info_parts infoInt
  have HR := Lib.hid (fun w => kmay_any B N d M w hN hM)
  rw [h] at HR
  obtain ⟨d', hd', hd4, hm⟩ := right_bounds h
  obtain rfl : d' = d := by omega
  have q3 : IntKind.i64.wrap ((d' : Int) + 1) = (d' : Int) + 1 := IntWalk.i64_in _ ⟨by omega, by omega⟩
  clear h hd' hm
  go_enter Tryd.func20, Tryd.ntmps20
  go_wp2_with fail
  refine (HR.out _).mono ?_
  rintro e w1 ⟨rfl, hb1⟩
  obtain ⟨hq1, hy1⟩ := box4 hb1
  have hA := Lib.hid hy1
  obtain ⟨hl1, c10, c11, c12, c13, f1⟩ := hy1
  go_wp2_with fail
  go_loopw [3, 11] (fun v i wr => ∃ k : Nat, k ≤ d' + 1 ∧ i = .int .i64 k ∧ LyInv w B N d' M v k wr) (fun _ i _ => d' + 1 - (intOf i).toNat)
  case atStart => exact ⟨0, Nat.zero_le _, rfl, hA.out, hq1, rfl, .inl ⟨rfl, rfl⟩⟩
  case round =>
    obtain ⟨k, hk, rfl, hinv⟩ := hrel
    have HI := Lib.hid hinv
    obtain ⟨hlr, r0, r1, r2, r3, fr⟩ := hinv.ty
    by_cases hlt : k < d' + 1
    · by_cases hk5 : 0 < k ∨ B = 5
      · have HK := Lib.hid hk5
        have HO := Lib.hid hinv.row
        have hsz := hinv.bel.size
        have hlen : (layTo B k).length ≤ k := by rw [layTo_len]; omega
        have hq : (decide (0 < (k : Int)) || (B == 5)) = true := by
          rcases hk5 with h | h
          · rw [decide_eq_true (by omega)]; rfl
          · simp [h]
        clear hinv
        by_cases hk0 : 0 < k
        · have q1 : decide ((0 : Int) < (k : Int)) = true := decide_eq_true (by omega)
          clear hk5 hq
          go_wp2_with (at_builtin; refine wpList_append_own _ rfl _ _ 34 rfl (w.heap.size + 1) 3 i0 (.int .i64 0) 1 8 Tryd.underlying34 hi hz0 hz1 hz2 rfl (by decide) _ _ _ rfl (HO.out.alloc _) ⟨wr.heap.size, 0, none⟩ 1 1 [.int .i64 (k : Int)] rfl rfl ?c1 ?c2 ?c3 ?c4 ?c5 ?_)
          case c1 =>
            intro j u hj
            match j, hj with
            | 0, hj => simp at hj; subst hj; simp [Addr.add]
          case c2 => intro u hu; simp at hu; subst hu; rfl
          case c3 => unfold maxLen; omega
          case c4 => omega
          case c5 => simp; omega
          intro v' w2 hown' hgrow _
          have HR2 := Lib.hid (HI.out.more HK.out hown' hgrow)
          clear hown' hgrow
          go_wp2_with fail
          go_roundw
          case rel => exact ⟨k + 1, by omega, by go_num, HR2.out⟩
          case measure => simp [intOf]; omega
        · have h5 : B = 5 := by omega
          have q1 : decide ((0 : Int) < (k : Int)) = false := decide_eq_false (by omega)
          have q2 : (B == 5) = true := by simpa using h5
          clear hk5 hq h5
          go_wp2_with (at_builtin; refine wpList_append_own _ rfl _ _ 34 rfl (w.heap.size + 1) 3 i0 (.int .i64 0) 1 8 Tryd.underlying34 hi hz0 hz1 hz2 rfl (by decide) _ _ _ rfl (HO.out.alloc _) ⟨wr.heap.size, 0, none⟩ 1 1 [.int .i64 (k : Int)] rfl rfl ?c1 ?c2 ?c3 ?c4 ?c5 ?_)
          case c1 =>
            intro j u hj
            match j, hj with
            | 0, hj => simp at hj; subst hj; simp [Addr.add]
          case c2 => intro u hu; simp at hu; subst hu; rfl
          case c3 => unfold maxLen; omega
          case c4 => omega
          case c5 => simp; omega
          intro v' w2 hown' hgrow _
          have HR2 := Lib.hid (HI.out.more HK.out hown' hgrow)
          clear hown' hgrow
          go_wp2_with fail
          go_roundw
          case rel => exact ⟨k + 1, by omega, by go_num, HR2.out⟩
          case measure => simp [intOf]; omega
      · obtain rfl : k = 0 := by omega
        have h5 : ¬ B = 5 := fun h => hk5 (.inr h)
        have q2 : (B == 5) = false := by simpa using h5
        have HI' := Lib.hid (hinv.skip hk5)
        clear hinv hk5 HI
        go_wp2_with fail
        go_roundw
        case rel => exact ⟨1, by omega, rfl, HI'.out⟩
        case measure => simp [intOf]
    · have hk' : k = d' + 1 := by omega
      have HL := Lib.hid (lay_of_row (w0 := w) (by omega) hinv.row)
      have HB := Lib.hid hinv.bel
      clear hinv
      go_wp2_with fail
      go_ret
      refine ⟨_, rfl, HB.out, ?_⟩
      have h2 := HL.out
      rw [layTo_len, hk'] at h2
      have h3 := HL.out
      unfold LayAt at h2 h3 ⊢
      exact h2
end Go.Proofs.YtdkpmpkoelckoaaDoor
