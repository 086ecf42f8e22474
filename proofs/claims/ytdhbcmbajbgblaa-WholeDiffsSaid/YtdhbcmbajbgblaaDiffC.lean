/- Contract of diff's onward: the next row. -/
import Derived.Test.YtdhbcmbajbgblaaDiffB
import Derived.Test.YtdhbcmbajbgblaaEditK
import Derived.Laws.MakeOwn
import Derived.Outline
namespace Go.Proofs.Ytdhbcmbajbgblaa
open Go Go.RowKit
set_option linter.unusedVariables false

theorem vl_int {k : IntKind} {a b : Int} (h : a = b) : Value.int k a = Value.int k b := by rw [h]
theorem infoInts : (Try.prog.info? 3).map (fun i => (i.zero, i.size, i.bytes)) = some (some (.int .i64 0), 1, 8) := by kernel_rfl
/-- a row of noughts -/
theorem made_rowD (m : Nat) (w : World) (hm : m ≤ 65537) :
    ∃ W1, (Instr.makeSlice 81 (.int .i64 (m : Int)) (.int .i64 (m : Int))).run Try.prog w = .ok (.slice (some ⟨w.heap.size, 0, none⟩) m m) W1 ∧ w.heap.size < W1.heap.size ∧
      Below w.heap.size w W1 ∧ (∀ j, j < m → W1.cell? ⟨w.heap.size, j, none⟩ = some (.int .i64 0)) ∧ (∀ j, W1.frozen? ⟨w.heap.size, j, none⟩ = false) := by
  obtain ⟨i0, hi, hz0, hz1, hz2⟩ := info_parts infoInts
  obtain ⟨W1, h1, h2, h3⟩ := run_makeSlice_full (P := Try.prog) w w.heap.size 81 3 i0 (.int .i64 0) 1 Try.underlying81 hi hz0 hz1 .i64 .i64 m (by omega) (by rw [hz2]; omega) (by unfold maxLen; omega) (Nat.le_refl _)
  refine ⟨W1, h1, (h2.lt _ rfl).2, Below.grown (Below.refl _ _) h3 (Nat.le_refl _) (fun j hj => by cases hj), fun j hj => ?_, fun j => h2.frozenAt j⟩
  rw [h2.cellAt j (by omega), show (Value.int .i64 0).cells = #[.int .i64 0] from rfl, toList_madeCells_one, List.getElem?_replicate, if_pos (by omega)]

/-- one byte more, out of the row ahead -/
def stepN (a b : ByteArray) (n i : Nat) : Nat × Nat := if n = 0 then (0, 0) else stepF (rowF a b (n - 1)) n i
theorem rowF_stepN (a b : ByteArray) (n i : Nat) (h : i ≤ n) : rowF a b n i = slide a b a.size (stepN a b n i).1 ((stepN a b n i).1 + n - 2 * i) := by
  cases n with
  | zero => have : i = 0 := by omega
            subst this; rfl
  | succ n => rfl
theorem stepN_side (a b : ByteArray) (n i : Nat) (h : i ≤ n) : 2 * i ≤ (stepN a b n i).1 + n := by
  cases n with
  | zero => omega
  | succ n =>
    unfold stepN stepF
    rw [if_neg (by omega), if_neg (by omega)]
    simp only [Nat.add_sub_cancel]
    by_cases hq : i = 0 ∨ (i < n + 1 ∧ rowF a b n (i - 1) < rowF a b n i)
    · rw [if_pos hq]
      obtain ⟨h1, h2⟩ := rowF_way a b n i (by omega)
      simp only; omega
    · rw [if_neg hq]
      obtain ⟨h1, h2⟩ := rowF_way a b n (i - 1) (by omega)
      simp only; omega
theorem slide_le (a b : ByteArray) (x y : Nat) : slide a b a.size x y ≤ max x a.size := by
  obtain ⟨h1, h2, _⟩ := slide_does a b a.size x y (by omega)
  by_cases h : slide a b a.size x y = x
  · omega
  · have := h2 (slide a b a.size x y - x - 1) (by omega); omega
theorem rowF_le (a b : ByteArray) : ∀ n i, rowF a b n i ≤ a.size + n
  | 0, i => by have := slide_le a b 0 0; simp only [rowF]; omega
  | n + 1, i => by
    have h := slide_le a b (stepF (rowF a b n) (n + 1) i).1 ((stepF (rowF a b n) (n + 1) i).1 + (n + 1) - 2 * i)
    have h1 := rowF_le a b n i
    have h2 := rowF_le a b n (i - 1)
    have h3 : (stepF (rowF a b n) (n + 1) i).1 ≤ a.size + n + 1 := by
      unfold stepF
      rw [if_neg (by omega)]
      split <;> simp only <;> omega
    simp only [rowF]; omega
theorem stepN_le (a b : ByteArray) (n i : Nat) : (stepN a b n i).1 ≤ a.size + n := by
  unfold stepN
  by_cases h : n = 0
  · rw [if_pos h]; simp only; omega
  · rw [if_neg h]
    have h1 := rowF_le a b (n - 1) i
    have h2 := rowF_le a b (n - 1) (i - 1)
    unfold stepF
    rw [if_neg h]
    split <;> simp only <;> omega

/-- a row that is being made -/
def OnInv (w : World) (a b : ByteArray) (n k : Nat) (wr : World) : Prop :=
  Below w.heap.size w wr ∧ w.heap.size < wr.heap.size ∧ (∀ j, j < n + 1 → wr.cell? ⟨w.heap.size, j, none⟩ = some (.int .i64 ((if j < k then rowF a b n j else 0 : Nat) : Int))) ∧ ∀ j, wr.frozen? ⟨w.heap.size, j, none⟩ = false
theorem OnInv.step {w wr w2 : World} {a b : ByteArray} {n k : Nat} (h : OnInv w a b n k wr) (hb : Below wr.heap.size wr w2) : OnInv w a b n k w2 := by
  obtain ⟨h1, h2, h3, h4⟩ := h
  refine ⟨after h1 hb, by have := hb.size; omega, fun j hj => keep hb h2 (h3 j hj), fun j => ?_⟩
  rw [hb.frozen (p := ⟨w.heap.size, j, none⟩) h2]; exact h4 j
theorem OnInv.drew {w wr : World} {a b : ByteArray} {n k : Nat} (h : OnInv w a b n k wr) (m : Nat) : OnInv w a b n k (wr.drewN m) := ⟨below_drewN h.1 m, h.2⟩
theorem OnInv.put {w wr : World} {a b : ByteArray} {n k : Nat} (h : OnInv w a b n k wr) (hk : k < n + 1) : OnInv w a b n (k + 1) (wr.setCell ⟨w.heap.size, k, none⟩ (.int .i64 (rowF a b n k : Nat))) := by
  obtain ⟨h1, h2, h3, h4⟩ := h
  refine ⟨h1.setCell (Nat.le_refl _) _, by simpa [World.setCell] using h2, fun j hj => ?_, fun j => by rw [World.frozen?_setCell]; exact h4 j⟩
  by_cases e : j = k
  · subst e
    rw [if_pos (by omega)]
    exact World.cell?_setCell_same _ _ _ (h3 j hj)
  · rw [World.cell?_setCell_other _ _ _ _ (by intro hh; injection hh; omega), h3 j hj]
    by_cases hlt : j < k
    · rw [if_pos hlt, if_pos (by omega)]
    · rw [if_neg hlt, if_neg (by omega)]

set_option maxRecDepth 100000 in
set_option maxHeartbeats 4000000 in
theorem onward_any (a b : ByteArray) (A : Option Addr) (n cap : Nat) (w : World) (hn : n ≤ 600) (ha : a.size ≤ 20000) (hb : b.size ≤ 20000)
    (hst : ∀ (W : World) (i : Nat), Below w.heap.size w W → i ≤ n → Calls Try.prog 41 #[.slice A n cap, .int .i64 (i : Nat)] W fun e w' => e = .returned (.tuple #[.int .i64 ((stepN a b n i).1 : Nat), .int .i64 ((stepN a b n i).2 : Nat)]) ∧ Below W.heap.size W w') :
    Calls Try.prog 39 #[.string a, .string b, .slice A n cap] w fun e w' => e = .returned (.slice (some ⟨w.heap.size, 0, none⟩) (n + 1) (n + 1)) ∧ Below w.heap.size w w' ∧ w.heap.size < w'.heap.size ∧ NumsAt w' w.heap.size (n + 1) (rowF a b n) := by
  obtain ⟨W1, hmk, z1, b1, c1, f1⟩ := made_rowD (n + 1) w (by omega)
  have e1 : ((n + 1 : Nat) : Int) = (n : Int) + 1 := by omega
  rw [e1] at hmk
  have HI : Hid (OnInv w a b n 0 W1) := Lib.hid ⟨b1, z1, fun j hj => by rw [if_neg (by omega)]; exact c1 j hj, f1⟩
  have HST := Lib.hid hst
  clear hst b1 z1 c1 f1
  go_enter Try.func39, Try.ntmps39
  go_wp2_with fail
  go_loopw [18] (fun i wr => ∃ k : Nat, k ≤ n + 1 ∧ i = .int .i64 k ∧ OnInv w a b n k wr) (fun i _ => n + 1 - (intOf i).toNat)
  case atStart => exact ⟨0, Nat.zero_le _, rfl, HI.out⟩
  case round =>
    clear hmk
    obtain ⟨k, hk, rfl, hinv⟩ := hrel
    have HV := Lib.hid hinv
    clear hinv
    by_cases hlt : k < n + 1
    · have i1 : (k : Int) < (n : Int) + 1 := by omega
      go_wp2_with fail
      refine (HST.out _ k HV.out.1 (by omega)).mono ?_
      rintro e w2 ⟨rfl, h12⟩
      have HV2 := Lib.hid (HV.out.step h12)
      clear h12
      have hsd := stepN_side a b n k (by omega)
      have hrw := rowF_stepN a b n k (by omega)
      have hle := stepN_le a b n k
      generalize (stepN a b n k).1 = x at *
      generalize (stepN a b n k).2 = fr at *
      go_wp2_with fail
      refine (diagonal_any n k _ (by omega) (by omega)).mono ?_
      rintro e w3 ⟨rfl, h23⟩
      have HV3 := Lib.hid (HV2.out.step h23)
      clear h23 HV2
      obtain ⟨s1, s2, s3⟩ := slide_does a b a.size x (x + n - 2 * k) (by omega)
      rw [← hrw] at s1 s2 s3
      have hzl := rowF_le a b n k
      have S2 := Lib.hid s2
      have S3 := Lib.hid s3
      have HX := Lib.hid hrw
      obtain ⟨z, hz⟩ : ∃ z, z = rowF a b n k := ⟨_, rfl⟩
      have HZ := Lib.hid hz
      rw [← hz] at s1 S2 S3 hzl
      clear hrw s2 s3 hz
      go_wp2_with fail
      go_loopw [9, 11] (fun u v wi => ∃ X : Nat, x ≤ X ∧ X ≤ z ∧ u = .int .i64 X ∧ v = .int .i64 ((x + n - 2 * k + (X - x) : Nat) : Int) ∧ OnInv w a b n k wi) (fun u _ _ => z - (intOf u).toNat)
      case atStart => exact ⟨x, Nat.le_refl _, s1, rfl, vl_int (by omega), HV3.out⟩
      case round =>
        obtain ⟨X, x1, x2, rfl, rfl, hin⟩ := hrel
        have HN := Lib.hid hin
        clear hin
        have ga := get_by a
        have gb := get_by b
        by_cases hX : X < z
        · obtain ⟨q1, q2, q3⟩ := S2.out (X - x) (by omega)
          rw [show x + (X - x) = X by omega] at q1 q3
          obtain ⟨Y, hY⟩ : ∃ Y, Y = x + n - 2 * k + (X - x) := ⟨_, rfl⟩
          have HY := Lib.hid hY
          rw [← hY] at q2 q3 ⊢
          have d1 : decide ((X : Int) < (a.size : Int)) = true := decide_eq_true (by omega)
          have d2 : decide ((Y : Int) < (b.size : Int)) = true := decide_eq_true (by omega)
          have d3 : ((by' a X : Int) == (by' b Y : Int)) = true := by simp [q3]
          clear hY q3
          go_wp2_with fail
          go_quiet (fail)
          go_wp2_with fail
          refine ⟨⟨X + 1, by omega, by omega, by go_num, ?_, HN.out.drew _⟩, by simp [intOf]; omega⟩
          exact vl_int (by have := HY.out; omega)
        · have hXz : X = z := by omega
          have HXZ := Lib.hid hXz
          obtain ⟨Y, hY⟩ : ∃ Y, Y = x + n - 2 * k + (X - x) := ⟨_, rfl⟩
          have HY := Lib.hid hY
          have h3 := S3.out
          rw [← hXz, ← hY] at h3
          rw [← hY]
          have hput := (HN.out.drew 0).put (k := k) hlt
          clear hY hXz hput
          have HPT : Hid (∀ m, OnInv w a b n (k + 1) ((wr.drewN m).setCell ⟨w.heap.size, k, none⟩ (.int .i64 (X : Nat)))) := Lib.hid (fun m => by
            have := (HN.out.drew m).put (k := k) hlt
            rwa [← HZ.out, ← HXZ.out] at this)
          obtain ⟨v1, v2, v3, v4⟩ := HN.out
          have ck := v3 k hlt
          rw [if_neg (by omega)] at ck
          have fk := v4 k
          clear v1 v3 v4
          by_cases g1 : X < a.size
          · have d1 : decide ((X : Int) < (a.size : Int)) = true := decide_eq_true (by omega)
            by_cases g2 : Y < b.size
            · have d2 : decide ((Y : Int) < (b.size : Int)) = true := decide_eq_true (by omega)
              have d3 : ((by' a X : Int) == (by' b Y : Int)) = false := by
                rw [beq_eq_false_iff_ne]; intro h; exact h3 ⟨g1, g2, by omega⟩
              clear h3
              go_wp2_with fail
              go_quiet (fail)
              go_wp2_with fail
              refine ⟨⟨k + 1, by omega, by go_num, HPT.out _⟩, by simp [intOf]; omega⟩
            · have d2 : decide ((Y : Int) < (b.size : Int)) = false := decide_eq_false (by omega)
              clear h3 ga gb
              go_wp2_with fail
              go_quiet (fail)
              go_wp2_with fail
              refine ⟨⟨k + 1, by omega, by go_num, HPT.out _⟩, by simp [intOf]; omega⟩
          · have d1 : decide ((X : Int) < (a.size : Int)) = false := decide_eq_false (by omega)
            clear h3 ga gb
            go_wp2_with fail
            go_quiet (fail)
            go_wp2_with fail
            refine ⟨⟨k + 1, by omega, by go_num, HPT.out _⟩, by simp [intOf]; omega⟩
    · have hk' : k = n + 1 := by omega
      subst hk'
      have i1 : ¬ ((n + 1 : Nat) : Int) < (n : Int) + 1 := by omega
      go_wp2_with fail
      go_ret
      exact ⟨rfl, HV.out.1, HV.out.2.1, fun j hj => by have := HV.out.2.2.1 j hj; rwa [if_pos (by omega)] at this⟩

end Go.Proofs.Ytdhbcmbajbgblaa
