/- At the edges of doubles: the walk. -/
import Derived.Test.YtmobmljnjolkgaaNumG
import Derived.Deep.QuietTactic
import Derived.BigQuiet
import Derived.Outline
namespace Go.Proofs.Ytmobmljnjolkgaa
open Go.RowKit
set_option linter.unusedVariables false

def valE (a b : Nat) : Nat → Nat
  | 0 => fAdd a b
  | 1 => fSub a b
  | 2 => fMul a b
  | _ => fDiv a b
theorem getD_nan {o : Option Nat} (h : ∀ r, o = some r → ¬ isNaN r) : ¬ isNaN (o.getD 9221120237041090561) ∨ o.getD 9221120237041090561 = 9221120237041090561 := by
  cases o with
  | none => exact .inr rfl
  | some r => exact .inl (h r rfl)
theorem valE_nan (a b k : Nat) : nanB (valE a b k) = false ∨ valE a b k = 9221120237041090561 := by
  have key : ∀ x, (¬ isNaN x ∨ x = 9221120237041090561) → (nanB x = false ∨ x = 9221120237041090561) := by
    intro x h
    rcases h with h | h
    · exact .inl (decide_eq_false h)
    · exact .inr h
  match k with
  | 0 => exact key _ (getD_nan fun r h => add_notNaN h)
  | 1 => exact key _ (getD_nan fun r h => sub_notNaN h)
  | 2 => exact key _ (getD_nan fun r h => mul_notNaN h)
  | k + 3 => exact key _ (getD_nan fun r h => div_notNaN h)
theorem valE_lt (a b k : Nat) : valE a b k < 18446744073709551616 := by
  match k with
  | 0 => exact fAdd_lt a b
  | 1 => exact fSub_lt a b
  | 2 => exact fMul_lt a b
  | k + 3 => exact fDiv_lt a b

/-- what has been reckoned stands in its cells -/
def EInv (w : World) (B a b k : Nat) (wr : World) : Prop :=
  Below w.heap.size w wr ∧ w.heap.size ≤ B ∧ B < wr.heap.size ∧ ∀ j, j < 4 → wr.cell? ⟨B, j, none⟩ = some (.int .u64 ((if j < k then valE a b j else 0 : Nat) : Int)) ∧ wr.frozen? ⟨B, j, none⟩ = false
theorem EInv.put {w wr : World} {B a b k n : Nat} (h : EInv w B a b k wr) (hk : k < 4) : EInv w B a b (k + 1) ((wr.drewN n).setCell ⟨B, k, none⟩ (.int .u64 (valE a b k : Nat))) := by
  obtain ⟨h1, h2, h3, h4⟩ := h
  refine ⟨(below_drewN h1 n).setCell h2 _, h2, by simp [go_sem]; exact h3, fun j hj => ?_⟩
  obtain ⟨c, f⟩ := h4 j hj
  obtain ⟨ck, fk⟩ := h4 k hk
  by_cases e : j = k
  · subst e
    rw [if_neg (by omega)] at c
    rw [if_pos (by omega)]
    exact ⟨by simp [go_sem, c], by simp [go_sem, f]⟩
  · have e2 : (if j < k + 1 then valE a b j else 0) = if j < k then valE a b j else 0 := by
      by_cases hlt : j < k
      · rw [if_pos hlt, if_pos (by omega)]
      · rw [if_neg hlt, if_neg (by omega)]
    rw [e2]
    have e3 : ((wr.drewN n).setCell ⟨B, k, none⟩ (.int .u64 (valE a b k : Nat))).cell? ⟨B, j, none⟩ = wr.cell? ⟨B, j, none⟩ := by
      rw [World.cell?_setCell_other _ _ _ _ (by intro h; injection h; omega)]; rfl
    exact ⟨by rw [e3]; exact c, by simp [go_sem, f]⟩

theorem cells_of {W : World} {B j : Nat} {cs : Array Value} {t : TypeId} {v : Value} (hb : W.heap[B]? = some (.cells cs t (0, 0))) (hv : cs[j]? = some v) : W.cell? ⟨B, j, none⟩ = some v ∧ W.frozen? ⟨B, j, none⟩ = false :=
  ⟨by simp [World.cell?, hb, hv], by simp [World.frozen?, hb]⟩
theorem EInv.start (w : World) (q0 a b : Nat) (t : TypeId) : EInv w w.heap.size a b 0 ((w.drewN q0).alloc (.cells #[.int .u64 0, .int .u64 0, .int .u64 0, .int .u64 0] t)) := by
  refine ⟨(drew_below w q0).alloc (Nat.le_refl _) _, Nat.le_refl _, by simp, fun j hj => ?_⟩
  have hb : ((w.drewN q0).alloc (.cells #[.int .u64 0, .int .u64 0, .int .u64 0, .int .u64 0] t)).heap[w.heap.size]? = some (.cells #[.int .u64 0, .int .u64 0, .int .u64 0, .int .u64 0] t (0, 0)) := by
    show ((w.drewN q0).heap.push _)[(w.drewN q0).heap.size]? = _
    simp
  rw [if_neg (by omega)]
  refine cells_of hb ?_
  match j, hj with
  | 0, _ => rfl
  | 1, _ => rfl
  | 2, _ => rfl
  | 3, _ => rfl
theorem word_same {a b : Nat} (h : SG b = SG a) (r : Nat) : Ieee.double.word (SG a ^^ SG b) r = r := by rw [h, Bool.xor_self]; rfl
theorem word_diff {a b : Nat} (h : SG b = !SG a) (r : Nat) : Ieee.double.word (SG a ^^ SG b) r = 9223372036854775808 + r := by
  rw [h]; cases SG a <;> rfl
theorem sg_two (a b : Nat) : SG b = SG a ∨ SG b = !SG a := by cases SG a <;> cases SG b <;> simp
theorem ne_beq {a b : Nat} (h : a ≠ b) : ((a : Int) == (b : Int)) = false := by rw [beq_eq_false_iff_ne]; omega
theorem not_nan {a : Nat} (h : nanB a = false) : ¬ isNaN a := of_decide_eq_false h
/-- of three kinds -/
theorem kinds {a : Nat} (h : nanB a = false) : infB a = true ∧ zeroB a = false ∨ infB a = false ∧ zeroB a = true ∨ infB a = false ∧ zeroB a = false := by
  unfold infB zeroB
  by_cases h1 : RW a = 9218868437227405312
  · left; rw [h1]; decide
  · by_cases h2 : RW a = 0
    · right; left; rw [h2]; decide
    · right; right; rw [decide_eq_false h1, decide_eq_false h2]; exact ⟨rfl, rfl⟩
theorem fin_of {a : Nat} (h : nanB a = false) (hi : infB a = false) : RW a < 9218868437227405312 := by
  have h1 := not_nan h
  have h2 := of_decide_eq_false hi
  unfold isNaN at h1; omega
theorem inf_of {a : Nat} (hi : infB a = true) : isInf a := of_decide_eq_true hi
theorem zero_of {a : Nat} (hi : zeroB a = true) : isZero a := of_decide_eq_true hi
theorem nzero_of {a : Nat} (hi : zeroB a = false) : ¬ isZero a := of_decide_eq_false hi
theorem ninf_of {a : Nat} (hi : infB a = false) : ¬ isInf a := of_decide_eq_false hi
theorem zero_lit {a : Nat} (h : a < 18446744073709551616) (hz : zeroB a = true) : a = 0 ∨ a = 9223372036854775808 := by
  have := zero_of hz; unfold isZero RW at this; omega
theorem eq_of_bits {a b : Nat} (ha : a < 18446744073709551616) (hb : b < 18446744073709551616) (hs : SG b = SG a) (hr : RW a = RW b) : a = b := ((lt_of_RW a b ha hb hs.symm).2).2 hr
set_option maxRecDepth 100000 in
set_option maxHeartbeats 4000000 in
theorem numEdges_nat (a b : Nat) (ha : a < 18446744073709551616) (hb : b < 18446744073709551616) (w : World) :
    Calls Try.prog 8 #[.int .u64 (a : Nat), .int .u64 (b : Nat)] w fun e w' => e = .returned (.bool true) ∧ Below w.heap.size w w' := by
  go_enter Try.func8, Try.ntmps8
  go_wp2_with fail
  refine (reckons_any _).mono ?_
  rintro e w1 ⟨rfl, q0, rfl⟩
  go_wp2_with fail
  go_loopw [8, 28] (fun u i wr => ∃ (k : Nat) (v : Value), k ≤ 4 ∧ i = .int .i64 k ∧ u = v ∧ EInv w w.heap.size a b k wr) (fun _ i _ => 4 - (intOf i).toNat)
  case atStart => exact ⟨0, _, by omega, rfl, rfl, EInv.start w q0 a b _⟩
  case round =>
    obtain ⟨k, v, hk, rfl, rfl, hinv⟩ := hrel
    have HI := Lib.hid hinv
    have hnan := valE_nan a b k
    have HLT := Lib.hid (valE_lt a b k)
    by_cases h4 : k < 4
    · obtain ⟨c0, f0⟩ := hinv.2.2.2 k h4
      rw [if_neg (by omega)] at c0
      have hsz := hinv.2.2.1
      clear hinv
      have hput := fun n => HI.out.put (n := n) h4
      have HP := Lib.hid hput
      clear hput
      match k, h4 with
      | 0, _ =>
        have hc := fun w => fadd_any a b w
        have hv : fAdd a b = valE a b 0 := rfl
        rw [hv] at hc
        have HC := Lib.hid hc
        clear hc hv
        have hix : ∀ w, (Instr.index 48 (.agg #[.string ⟨#[43]⟩, .string ⟨#[45]⟩, .string ⟨#[42]⟩, .string ⟨#[47]⟩]) (.int .i64 0)).run Try.prog w = .ok (.string ⟨#[43]⟩) w := fun _ => by kernel_rfl
        generalize valE a b 0 = r at *
        rcases hnan with hn | rfl
        · skip
          go_wp2_with fail
          refine (HC.out _).mono ?_
          rintro e w2 ⟨rfl, n2, rfl⟩
          go_wp2_with fail
          refine (rnone_any _ _ HLT.out).mono ?_
          rintro e w3 ⟨rfl, rfl⟩
          go_wp2_with fail
          go_roundw
          case rel =>
            refine ⟨_, _, ?_, ?_, rfl, HP.out n2⟩
            · omega
            · rfl
          case measure => simp [intOf]
        · have hq : nanB 9221120237041090561 = true := by decide
          go_wp2_with fail
          refine (HC.out _).mono ?_
          rintro e w2 ⟨rfl, n2, rfl⟩
          go_wp2_with fail
          refine (rnone_any _ _ HLT.out).mono ?_
          rintro e w3 ⟨rfl, rfl⟩
          go_wp2_with fail
          go_roundw
          case rel =>
            refine ⟨_, _, ?_, ?_, rfl, HP.out n2⟩
            · omega
            · rfl
          case measure => simp [intOf]
      | 1, _ =>
        have hc := fun w => fsub_any a b w
        have hv : fSub a b = valE a b 1 := rfl
        rw [hv] at hc
        have HC := Lib.hid hc
        clear hc hv
        have hix : ∀ w, (Instr.index 48 (.agg #[.string ⟨#[43]⟩, .string ⟨#[45]⟩, .string ⟨#[42]⟩, .string ⟨#[47]⟩]) (.int .i64 1)).run Try.prog w = .ok (.string ⟨#[45]⟩) w := fun _ => by kernel_rfl
        generalize valE a b 1 = r at *
        rcases hnan with hn | rfl
        · skip
          go_wp2_with fail
          refine (HC.out _).mono ?_
          rintro e w2 ⟨rfl, n2, rfl⟩
          go_wp2_with fail
          refine (rnone_any _ _ HLT.out).mono ?_
          rintro e w3 ⟨rfl, rfl⟩
          go_wp2_with fail
          go_roundw
          case rel =>
            refine ⟨_, _, ?_, ?_, rfl, HP.out n2⟩
            · omega
            · rfl
          case measure => simp [intOf]
        · have hq : nanB 9221120237041090561 = true := by decide
          go_wp2_with fail
          refine (HC.out _).mono ?_
          rintro e w2 ⟨rfl, n2, rfl⟩
          go_wp2_with fail
          refine (rnone_any _ _ HLT.out).mono ?_
          rintro e w3 ⟨rfl, rfl⟩
          go_wp2_with fail
          go_roundw
          case rel =>
            refine ⟨_, _, ?_, ?_, rfl, HP.out n2⟩
            · omega
            · rfl
          case measure => simp [intOf]
      | 2, _ =>
        have hc := fun w => fmul_any a b w
        have hv : fMul a b = valE a b 2 := rfl
        rw [hv] at hc
        have HC := Lib.hid hc
        clear hc hv
        have hix : ∀ w, (Instr.index 48 (.agg #[.string ⟨#[43]⟩, .string ⟨#[45]⟩, .string ⟨#[42]⟩, .string ⟨#[47]⟩]) (.int .i64 2)).run Try.prog w = .ok (.string ⟨#[42]⟩) w := fun _ => by kernel_rfl
        generalize valE a b 2 = r at *
        rcases hnan with hn | rfl
        · skip
          go_wp2_with fail
          refine (HC.out _).mono ?_
          rintro e w2 ⟨rfl, n2, rfl⟩
          go_wp2_with fail
          refine (rnone_any _ _ HLT.out).mono ?_
          rintro e w3 ⟨rfl, rfl⟩
          go_wp2_with fail
          go_roundw
          case rel =>
            refine ⟨_, _, ?_, ?_, rfl, HP.out n2⟩
            · omega
            · rfl
          case measure => simp [intOf]
        · have hq : nanB 9221120237041090561 = true := by decide
          go_wp2_with fail
          refine (HC.out _).mono ?_
          rintro e w2 ⟨rfl, n2, rfl⟩
          go_wp2_with fail
          refine (rnone_any _ _ HLT.out).mono ?_
          rintro e w3 ⟨rfl, rfl⟩
          go_wp2_with fail
          go_roundw
          case rel =>
            refine ⟨_, _, ?_, ?_, rfl, HP.out n2⟩
            · omega
            · rfl
          case measure => simp [intOf]
      | 3, _ =>
        have hc := fun w => fdiv_any a b w
        have hv : fDiv a b = valE a b 3 := rfl
        rw [hv] at hc
        have HC := Lib.hid hc
        clear hc hv
        have hix : ∀ w, (Instr.index 48 (.agg #[.string ⟨#[43]⟩, .string ⟨#[45]⟩, .string ⟨#[42]⟩, .string ⟨#[47]⟩]) (.int .i64 3)).run Try.prog w = .ok (.string ⟨#[47]⟩) w := fun _ => by kernel_rfl
        generalize valE a b 3 = r at *
        rcases hnan with hn | rfl
        · skip
          go_wp2_with fail
          refine (HC.out _).mono ?_
          rintro e w2 ⟨rfl, n2, rfl⟩
          go_wp2_with fail
          refine (rnone_any _ _ HLT.out).mono ?_
          rintro e w3 ⟨rfl, rfl⟩
          go_wp2_with fail
          go_roundw
          case rel =>
            refine ⟨_, _, ?_, ?_, rfl, HP.out n2⟩
            · omega
            · rfl
          case measure => simp [intOf]
        · have hq : nanB 9221120237041090561 = true := by decide
          go_wp2_with fail
          refine (HC.out _).mono ?_
          rintro e w2 ⟨rfl, n2, rfl⟩
          go_wp2_with fail
          refine (rnone_any _ _ HLT.out).mono ?_
          rintro e w3 ⟨rfl, rfl⟩
          go_wp2_with fail
          go_roundw
          case rel =>
            refine ⟨_, _, ?_, ?_, rfl, HP.out n2⟩
            · omega
            · rfl
          case measure => simp [intOf]
    · have hk4 : k = 4 := by omega
      subst hk4
      obtain ⟨h1, h2, h3, hc⟩ := hinv
      obtain ⟨c0, f0⟩ := hc 0 (by omega)
      obtain ⟨c1, f1⟩ := hc 1 (by omega)
      obtain ⟨c2, f2⟩ := hc 2 (by omega)
      obtain ⟨c3, f3⟩ := hc 3 (by omega)
      rw [if_pos (by omega)] at c0 c1 c2 c3
      have HB := Lib.hid h1
      clear hc h1 hnan h4
      go_wp2_with fail
      go_quiet (fail)
      go_wp2_with fail
      have hv0 : valE a b 0 = fAdd a b := rfl
      have hv1 : valE a b 1 = fSub a b := rfl
      have hv2 : valE a b 2 = fMul a b := rfl
      have hv3 : valE a b 3 = fDiv a b := rfl
      cases na : nanB a
      · cases nb : nanB b
        · have xa := not_nan na
          have xb := not_nan nb
          have q1 := (norm_of (fun h => xa ((isNaN_flip ha).1 h)) : norm (flip a) = flip a)
          have q2 := (norm_of (fun h => xb ((isNaN_flip hb).1 h)) : norm (flip b) = flip b)
          have q3 : norm (flip (flip a)) = a := by rw [flip_flip ha]; exact norm_of xa
          have hfl := flip_lt ha
          have han := (ne_beq (fun h => by rw [h] at na; revert na; decide) : ((a : Int) == ((9221120237041090561 : Nat) : Int)) = false)
          have hbn := (ne_beq (fun h => by rw [h] at nb; revert nb; decide) : ((b : Int) == ((9221120237041090561 : Nat) : Int)) = false)
          have hanP : ¬ a = 9221120237041090561 := fun h => by rw [h] at na; revert na; decide
          have hbnP : ¬ b = 9221120237041090561 := fun h => by rw [h] at nb; revert nb; decide
          rcases kinds na with ⟨ia, za⟩ | ⟨ia, za⟩ | ⟨ia, za⟩
          · rcases kinds nb with ⟨ib, zb⟩ | ⟨ib, zb⟩ | ⟨ib, zb⟩
            · rcases sg_two a b with hs | hs
              · have hab := eq_of_bits ha hb hs ((inf_of ia).trans (inf_of ib).symm)
                subst hab
                have r0 := hv0.trans (add_inf_inf a a ha (inf_of ia) (inf_of ia))
                rw [if_pos rfl] at r0
                have r1 : valE a a 1 = 9221120237041090561 := by
                  rw [hv1, fSub_flip a ha, add_inf_inf a (flip a) ha (inf_of ia) (by unfold isInf; rw [RW_flip ha]; exact inf_of ia), if_neg (by rw [SG_flip ha]; cases SG a <;> decide)]
                have r2 := (hv2.trans (mul_inf a a xa xa (.inl ⟨inf_of ia, nzero_of za⟩))).trans (word_same rfl _)
                have r3 := hv3.trans (div_none a a (.inl ⟨inf_of ia, inf_of ia⟩))
                clear hs hv0 hv1 hv2 hv3 xa xb c0 c1 c2 c3 f0 f1 f2 f3
                refine (rnone_any _ _ ha).mono ?_
                rintro e w3 ⟨rfl, rfl⟩
                go_wp2_with (first | (go_at_call 32; refine (rnone_any _ _ (by assumption)).mono ?_; rintro e w' ⟨rfl, rfl⟩) | (go_at_call 35; refine (parts_any _ _ (by assumption)).mono ?_; rintro e w' ⟨rfl, rfl⟩) | (go_at_call 36; refine (rinf_any _ _ (by assumption)).mono ?_; rintro e w' ⟨rfl, rfl⟩) | (go_at_call 37; refine (rzero_any _ _ (by assumption)).mono ?_; rintro e w' ⟨rfl, rfl⟩) | (go_at_call 34; refine (fneg_any _ _ (by assumption)).mono ?_; rintro e w' ⟨rfl, rfl⟩))
                go_ret
                exact ⟨rfl, below_drewN HB.out _⟩
              · have hne := ne_beq (show a ≠ b by intro h; rw [h] at hs; cases hx : SG b <;> rw [hx] at hs <;> cases hs)
                have r0 := hv0.trans (add_inf_inf a b ha (inf_of ia) (inf_of ib))
                rw [if_neg (by rw [hs]; cases SG a <;> decide)] at r0
                have r1 : valE a b 1 = a := by
                  rw [hv1, fSub_flip a hb, add_inf_inf a (flip b) ha (inf_of ia) (by unfold isInf; rw [RW_flip hb]; exact inf_of ib), if_pos (by rw [SG_flip hb, hs]; cases SG a <;> rfl)]
                have r2 := (hv2.trans (mul_inf a b xa xb (.inl ⟨inf_of ia, nzero_of zb⟩))).trans (word_diff hs _)
                have r3 := hv3.trans (div_none a b (.inl ⟨inf_of ia, inf_of ib⟩))
                clear hv0 hv1 hv2 hv3 xa xb c0 c1 c2 c3 f0 f1 f2 f3
                refine (rnone_any _ _ ha).mono ?_
                rintro e w3 ⟨rfl, rfl⟩
                go_wp2_with (first | (go_at_call 32; refine (rnone_any _ _ (by assumption)).mono ?_; rintro e w' ⟨rfl, rfl⟩) | (go_at_call 35; refine (parts_any _ _ (by assumption)).mono ?_; rintro e w' ⟨rfl, rfl⟩) | (go_at_call 36; refine (rinf_any _ _ (by assumption)).mono ?_; rintro e w' ⟨rfl, rfl⟩) | (go_at_call 37; refine (rzero_any _ _ (by assumption)).mono ?_; rintro e w' ⟨rfl, rfl⟩) | (go_at_call 34; refine (fneg_any _ _ (by assumption)).mono ?_; rintro e w' ⟨rfl, rfl⟩))
                go_ret
                exact ⟨rfl, below_drewN HB.out _⟩
            · skip
              rcases sg_two a b with hs | hs
              · have hne := ne_beq (show a ≠ b from fun h => by rw [h, ib] at ia; cases ia)
                have r0 := hv0.trans (add_inf_left a b ha (inf_of ia) (fin_of nb ib))
                have r1 := hv1.trans ((fSub_flip a hb).trans (add_inf_left a (flip b) ha (inf_of ia) (by rw [RW_flip hb]; exact fin_of nb ib)))
                have r2 := hv2.trans (mul_inf_zero a b (.inl ⟨inf_of ia, zero_of zb⟩))
                have r3 := (hv3.trans (div_inf a b xa xb (.inl ⟨inf_of ia, ninf_of ib⟩))).trans (word_same hs _)
                clear hv0 hv1 hv2 hv3 xa xb c0 c1 c2 c3 f0 f1 f2 f3
                refine (rnone_any _ _ ha).mono ?_
                rintro e w3 ⟨rfl, rfl⟩
                go_wp2_with (first | (go_at_call 32; refine (rnone_any _ _ (by assumption)).mono ?_; rintro e w' ⟨rfl, rfl⟩) | (go_at_call 35; refine (parts_any _ _ (by assumption)).mono ?_; rintro e w' ⟨rfl, rfl⟩) | (go_at_call 36; refine (rinf_any _ _ (by assumption)).mono ?_; rintro e w' ⟨rfl, rfl⟩) | (go_at_call 37; refine (rzero_any _ _ (by assumption)).mono ?_; rintro e w' ⟨rfl, rfl⟩) | (go_at_call 34; refine (fneg_any _ _ (by assumption)).mono ?_; rintro e w' ⟨rfl, rfl⟩))
                go_ret
                exact ⟨rfl, below_drewN HB.out _⟩
              · have hne := ne_beq (show a ≠ b from fun h => by rw [h, ib] at ia; cases ia)
                have r0 := hv0.trans (add_inf_left a b ha (inf_of ia) (fin_of nb ib))
                have r1 := hv1.trans ((fSub_flip a hb).trans (add_inf_left a (flip b) ha (inf_of ia) (by rw [RW_flip hb]; exact fin_of nb ib)))
                have r2 := hv2.trans (mul_inf_zero a b (.inl ⟨inf_of ia, zero_of zb⟩))
                have r3 := (hv3.trans (div_inf a b xa xb (.inl ⟨inf_of ia, ninf_of ib⟩))).trans (word_diff hs _)
                clear hv0 hv1 hv2 hv3 xa xb c0 c1 c2 c3 f0 f1 f2 f3
                refine (rnone_any _ _ ha).mono ?_
                rintro e w3 ⟨rfl, rfl⟩
                go_wp2_with (first | (go_at_call 32; refine (rnone_any _ _ (by assumption)).mono ?_; rintro e w' ⟨rfl, rfl⟩) | (go_at_call 35; refine (parts_any _ _ (by assumption)).mono ?_; rintro e w' ⟨rfl, rfl⟩) | (go_at_call 36; refine (rinf_any _ _ (by assumption)).mono ?_; rintro e w' ⟨rfl, rfl⟩) | (go_at_call 37; refine (rzero_any _ _ (by assumption)).mono ?_; rintro e w' ⟨rfl, rfl⟩) | (go_at_call 34; refine (fneg_any _ _ (by assumption)).mono ?_; rintro e w' ⟨rfl, rfl⟩))
                go_ret
                exact ⟨rfl, below_drewN HB.out _⟩
            · skip
              rcases sg_two a b with hs | hs
              · have hne := ne_beq (show a ≠ b from fun h => by rw [h, ib] at ia; cases ia)
                have r0 := hv0.trans (add_inf_left a b ha (inf_of ia) (fin_of nb ib))
                have r1 := hv1.trans ((fSub_flip a hb).trans (add_inf_left a (flip b) ha (inf_of ia) (by rw [RW_flip hb]; exact fin_of nb ib)))
                have r2 := (hv2.trans (mul_inf a b xa xb (.inl ⟨inf_of ia, nzero_of zb⟩))).trans (word_same hs _)
                have r3 := (hv3.trans (div_inf a b xa xb (.inl ⟨inf_of ia, ninf_of ib⟩))).trans (word_same hs _)
                clear hv0 hv1 hv2 hv3 xa xb c0 c1 c2 c3 f0 f1 f2 f3
                refine (rnone_any _ _ ha).mono ?_
                rintro e w3 ⟨rfl, rfl⟩
                go_wp2_with (first | (go_at_call 32; refine (rnone_any _ _ (by assumption)).mono ?_; rintro e w' ⟨rfl, rfl⟩) | (go_at_call 35; refine (parts_any _ _ (by assumption)).mono ?_; rintro e w' ⟨rfl, rfl⟩) | (go_at_call 36; refine (rinf_any _ _ (by assumption)).mono ?_; rintro e w' ⟨rfl, rfl⟩) | (go_at_call 37; refine (rzero_any _ _ (by assumption)).mono ?_; rintro e w' ⟨rfl, rfl⟩) | (go_at_call 34; refine (fneg_any _ _ (by assumption)).mono ?_; rintro e w' ⟨rfl, rfl⟩))
                go_ret
                exact ⟨rfl, below_drewN HB.out _⟩
              · have hne := ne_beq (show a ≠ b from fun h => by rw [h, ib] at ia; cases ia)
                have r0 := hv0.trans (add_inf_left a b ha (inf_of ia) (fin_of nb ib))
                have r1 := hv1.trans ((fSub_flip a hb).trans (add_inf_left a (flip b) ha (inf_of ia) (by rw [RW_flip hb]; exact fin_of nb ib)))
                have r2 := (hv2.trans (mul_inf a b xa xb (.inl ⟨inf_of ia, nzero_of zb⟩))).trans (word_diff hs _)
                have r3 := (hv3.trans (div_inf a b xa xb (.inl ⟨inf_of ia, ninf_of ib⟩))).trans (word_diff hs _)
                clear hv0 hv1 hv2 hv3 xa xb c0 c1 c2 c3 f0 f1 f2 f3
                refine (rnone_any _ _ ha).mono ?_
                rintro e w3 ⟨rfl, rfl⟩
                go_wp2_with (first | (go_at_call 32; refine (rnone_any _ _ (by assumption)).mono ?_; rintro e w' ⟨rfl, rfl⟩) | (go_at_call 35; refine (parts_any _ _ (by assumption)).mono ?_; rintro e w' ⟨rfl, rfl⟩) | (go_at_call 36; refine (rinf_any _ _ (by assumption)).mono ?_; rintro e w' ⟨rfl, rfl⟩) | (go_at_call 37; refine (rzero_any _ _ (by assumption)).mono ?_; rintro e w' ⟨rfl, rfl⟩) | (go_at_call 34; refine (fneg_any _ _ (by assumption)).mono ?_; rintro e w' ⟨rfl, rfl⟩))
                go_ret
                exact ⟨rfl, below_drewN HB.out _⟩
          · rcases kinds nb with ⟨ib, zb⟩ | ⟨ib, zb⟩ | ⟨ib, zb⟩
            · skip
              rcases sg_two a b with hs | hs
              · have hne := ne_beq (show a ≠ b from fun h => by rw [h, ib] at ia; cases ia)
                have r0 := hv0.trans (add_inf_right a b hb (inf_of ib) (fin_of na ia))
                have r1 := hv1.trans ((fSub_flip a hb).trans (add_inf_right a (flip b) (flip_lt hb) (by unfold isInf; rw [RW_flip hb]; exact inf_of ib) (fin_of na ia)))
                have r2 := hv2.trans (mul_inf_zero a b (.inr ⟨zero_of za, inf_of ib⟩))
                have r3 := (hv3.trans (div_zero a b (fin_of na ia) xb (.inl (inf_of ib)))).trans (word_same hs _)
                clear hv0 hv1 hv2 hv3 xa xb c0 c1 c2 c3 f0 f1 f2 f3
                refine (rnone_any _ _ ha).mono ?_
                rintro e w3 ⟨rfl, rfl⟩
                go_wp2_with (first | (go_at_call 32; refine (rnone_any _ _ (by assumption)).mono ?_; rintro e w' ⟨rfl, rfl⟩) | (go_at_call 35; refine (parts_any _ _ (by assumption)).mono ?_; rintro e w' ⟨rfl, rfl⟩) | (go_at_call 36; refine (rinf_any _ _ (by assumption)).mono ?_; rintro e w' ⟨rfl, rfl⟩) | (go_at_call 37; refine (rzero_any _ _ (by assumption)).mono ?_; rintro e w' ⟨rfl, rfl⟩) | (go_at_call 34; refine (fneg_any _ _ (by assumption)).mono ?_; rintro e w' ⟨rfl, rfl⟩))
                go_ret
                exact ⟨rfl, below_drewN HB.out _⟩
              · have hne := ne_beq (show a ≠ b from fun h => by rw [h, ib] at ia; cases ia)
                have r0 := hv0.trans (add_inf_right a b hb (inf_of ib) (fin_of na ia))
                have r1 := hv1.trans ((fSub_flip a hb).trans (add_inf_right a (flip b) (flip_lt hb) (by unfold isInf; rw [RW_flip hb]; exact inf_of ib) (fin_of na ia)))
                have r2 := hv2.trans (mul_inf_zero a b (.inr ⟨zero_of za, inf_of ib⟩))
                have r3 := (hv3.trans (div_zero a b (fin_of na ia) xb (.inl (inf_of ib)))).trans (word_diff hs _)
                clear hv0 hv1 hv2 hv3 xa xb c0 c1 c2 c3 f0 f1 f2 f3
                refine (rnone_any _ _ ha).mono ?_
                rintro e w3 ⟨rfl, rfl⟩
                go_wp2_with (first | (go_at_call 32; refine (rnone_any _ _ (by assumption)).mono ?_; rintro e w' ⟨rfl, rfl⟩) | (go_at_call 35; refine (parts_any _ _ (by assumption)).mono ?_; rintro e w' ⟨rfl, rfl⟩) | (go_at_call 36; refine (rinf_any _ _ (by assumption)).mono ?_; rintro e w' ⟨rfl, rfl⟩) | (go_at_call 37; refine (rzero_any _ _ (by assumption)).mono ?_; rintro e w' ⟨rfl, rfl⟩) | (go_at_call 34; refine (fneg_any _ _ (by assumption)).mono ?_; rintro e w' ⟨rfl, rfl⟩))
                go_ret
                exact ⟨rfl, below_drewN HB.out _⟩
            · rcases zero_lit ha za with rfl | rfl
              · rcases zero_lit hb zb with rfl | rfl
                · have r0 : valE 0 0 0 = 0 := by decide +kernel
                  have r1 : valE 0 0 1 = 0 := by decide +kernel
                  have r2 : valE 0 0 2 = 0 := by decide +kernel
                  have r3 : valE 0 0 3 = 9221120237041090561 := by decide +kernel
                  have s0 : SG 0 = false := by decide
                  clear hv0 hv1 hv2 hv3 xa xb c0 c1 c2 c3 f0 f1 f2 f3
                  refine (rnone_any _ _ ha).mono ?_
                  rintro e w3 ⟨rfl, rfl⟩
                  go_wp2_with (first | (go_at_call 32; refine (rnone_any _ _ (by assumption)).mono ?_; rintro e w' ⟨rfl, rfl⟩) | (go_at_call 35; refine (parts_any _ _ (by assumption)).mono ?_; rintro e w' ⟨rfl, rfl⟩) | (go_at_call 36; refine (rinf_any _ _ (by assumption)).mono ?_; rintro e w' ⟨rfl, rfl⟩) | (go_at_call 37; refine (rzero_any _ _ (by assumption)).mono ?_; rintro e w' ⟨rfl, rfl⟩) | (go_at_call 34; refine (fneg_any _ _ (by assumption)).mono ?_; rintro e w' ⟨rfl, rfl⟩))
                  go_ret
                  exact ⟨rfl, below_drewN HB.out _⟩
                · have r0 : valE 0 9223372036854775808 0 = 0 := by decide +kernel
                  have r1 : valE 0 9223372036854775808 1 = 0 := by decide +kernel
                  have r2 : valE 0 9223372036854775808 2 = 9223372036854775808 := by decide +kernel
                  have r3 : valE 0 9223372036854775808 3 = 9221120237041090561 := by decide +kernel
                  have s0 : SG 0 = false := by decide
                  have s1 : SG 9223372036854775808 = true := by decide
                  clear hv0 hv1 hv2 hv3 xa xb c0 c1 c2 c3 f0 f1 f2 f3
                  refine (rnone_any _ _ ha).mono ?_
                  rintro e w3 ⟨rfl, rfl⟩
                  go_wp2_with (first | (go_at_call 32; refine (rnone_any _ _ (by assumption)).mono ?_; rintro e w' ⟨rfl, rfl⟩) | (go_at_call 35; refine (parts_any _ _ (by assumption)).mono ?_; rintro e w' ⟨rfl, rfl⟩) | (go_at_call 36; refine (rinf_any _ _ (by assumption)).mono ?_; rintro e w' ⟨rfl, rfl⟩) | (go_at_call 37; refine (rzero_any _ _ (by assumption)).mono ?_; rintro e w' ⟨rfl, rfl⟩) | (go_at_call 34; refine (fneg_any _ _ (by assumption)).mono ?_; rintro e w' ⟨rfl, rfl⟩))
                  go_ret
                  exact ⟨rfl, below_drewN HB.out _⟩
              · rcases zero_lit hb zb with rfl | rfl
                · have r0 : valE 9223372036854775808 0 0 = 0 := by decide +kernel
                  have r1 : valE 9223372036854775808 0 1 = 9223372036854775808 := by decide +kernel
                  have r2 : valE 9223372036854775808 0 2 = 9223372036854775808 := by decide +kernel
                  have r3 : valE 9223372036854775808 0 3 = 9221120237041090561 := by decide +kernel
                  have s0 : SG 0 = false := by decide
                  have s1 : SG 9223372036854775808 = true := by decide
                  clear hv0 hv1 hv2 hv3 xa xb c0 c1 c2 c3 f0 f1 f2 f3
                  refine (rnone_any _ _ ha).mono ?_
                  rintro e w3 ⟨rfl, rfl⟩
                  go_wp2_with (first | (go_at_call 32; refine (rnone_any _ _ (by assumption)).mono ?_; rintro e w' ⟨rfl, rfl⟩) | (go_at_call 35; refine (parts_any _ _ (by assumption)).mono ?_; rintro e w' ⟨rfl, rfl⟩) | (go_at_call 36; refine (rinf_any _ _ (by assumption)).mono ?_; rintro e w' ⟨rfl, rfl⟩) | (go_at_call 37; refine (rzero_any _ _ (by assumption)).mono ?_; rintro e w' ⟨rfl, rfl⟩) | (go_at_call 34; refine (fneg_any _ _ (by assumption)).mono ?_; rintro e w' ⟨rfl, rfl⟩))
                  go_ret
                  exact ⟨rfl, below_drewN HB.out _⟩
                · have r0 : valE 9223372036854775808 9223372036854775808 0 = 9223372036854775808 := by decide +kernel
                  have r1 : valE 9223372036854775808 9223372036854775808 1 = 0 := by decide +kernel
                  have r2 : valE 9223372036854775808 9223372036854775808 2 = 0 := by decide +kernel
                  have r3 : valE 9223372036854775808 9223372036854775808 3 = 9221120237041090561 := by decide +kernel
                  have s1 : SG 9223372036854775808 = true := by decide
                  clear hv0 hv1 hv2 hv3 xa xb c0 c1 c2 c3 f0 f1 f2 f3
                  refine (rnone_any _ _ ha).mono ?_
                  rintro e w3 ⟨rfl, rfl⟩
                  go_wp2_with (first | (go_at_call 32; refine (rnone_any _ _ (by assumption)).mono ?_; rintro e w' ⟨rfl, rfl⟩) | (go_at_call 35; refine (parts_any _ _ (by assumption)).mono ?_; rintro e w' ⟨rfl, rfl⟩) | (go_at_call 36; refine (rinf_any _ _ (by assumption)).mono ?_; rintro e w' ⟨rfl, rfl⟩) | (go_at_call 37; refine (rzero_any _ _ (by assumption)).mono ?_; rintro e w' ⟨rfl, rfl⟩) | (go_at_call 34; refine (fneg_any _ _ (by assumption)).mono ?_; rintro e w' ⟨rfl, rfl⟩))
                  go_ret
                  exact ⟨rfl, below_drewN HB.out _⟩
            · skip
              rcases sg_two a b with hs | hs
              · have hne := ne_beq (show a ≠ b from fun h => by rw [h, zb] at za; cases za)
                have r2 := (hv2.trans (mul_zero a b (fin_of na ia) (fin_of nb ib) (.inl (zero_of za)))).trans (word_same hs _)
                have r3 := (hv3.trans (div_zero a b (fin_of na ia) xb (.inr ⟨zero_of za, nzero_of zb⟩))).trans (word_same hs _)
                clear hv0 hv1 hv2 hv3 xa xb c0 c1 c2 c3 f0 f1 f2 f3
                refine (rnone_any _ _ ha).mono ?_
                rintro e w3 ⟨rfl, rfl⟩
                go_wp2_with (first | (go_at_call 32; refine (rnone_any _ _ (by assumption)).mono ?_; rintro e w' ⟨rfl, rfl⟩) | (go_at_call 35; refine (parts_any _ _ (by assumption)).mono ?_; rintro e w' ⟨rfl, rfl⟩) | (go_at_call 36; refine (rinf_any _ _ (by assumption)).mono ?_; rintro e w' ⟨rfl, rfl⟩) | (go_at_call 37; refine (rzero_any _ _ (by assumption)).mono ?_; rintro e w' ⟨rfl, rfl⟩) | (go_at_call 34; refine (fneg_any _ _ (by assumption)).mono ?_; rintro e w' ⟨rfl, rfl⟩))
                go_ret
                exact ⟨rfl, below_drewN HB.out _⟩
              · have hne := ne_beq (show a ≠ b from fun h => by rw [h, zb] at za; cases za)
                have r2 := (hv2.trans (mul_zero a b (fin_of na ia) (fin_of nb ib) (.inl (zero_of za)))).trans (word_diff hs _)
                have r3 := (hv3.trans (div_zero a b (fin_of na ia) xb (.inr ⟨zero_of za, nzero_of zb⟩))).trans (word_diff hs _)
                clear hv0 hv1 hv2 hv3 xa xb c0 c1 c2 c3 f0 f1 f2 f3
                refine (rnone_any _ _ ha).mono ?_
                rintro e w3 ⟨rfl, rfl⟩
                go_wp2_with (first | (go_at_call 32; refine (rnone_any _ _ (by assumption)).mono ?_; rintro e w' ⟨rfl, rfl⟩) | (go_at_call 35; refine (parts_any _ _ (by assumption)).mono ?_; rintro e w' ⟨rfl, rfl⟩) | (go_at_call 36; refine (rinf_any _ _ (by assumption)).mono ?_; rintro e w' ⟨rfl, rfl⟩) | (go_at_call 37; refine (rzero_any _ _ (by assumption)).mono ?_; rintro e w' ⟨rfl, rfl⟩) | (go_at_call 34; refine (fneg_any _ _ (by assumption)).mono ?_; rintro e w' ⟨rfl, rfl⟩))
                go_ret
                exact ⟨rfl, below_drewN HB.out _⟩
          · rcases kinds nb with ⟨ib, zb⟩ | ⟨ib, zb⟩ | ⟨ib, zb⟩
            · skip
              rcases sg_two a b with hs | hs
              · have hne := ne_beq (show a ≠ b from fun h => by rw [h, ib] at ia; cases ia)
                have r0 := hv0.trans (add_inf_right a b hb (inf_of ib) (fin_of na ia))
                have r1 := hv1.trans ((fSub_flip a hb).trans (add_inf_right a (flip b) (flip_lt hb) (by unfold isInf; rw [RW_flip hb]; exact inf_of ib) (fin_of na ia)))
                have r2 := (hv2.trans (mul_inf a b xa xb (.inr ⟨nzero_of za, inf_of ib⟩))).trans (word_same hs _)
                have r3 := (hv3.trans (div_zero a b (fin_of na ia) xb (.inl (inf_of ib)))).trans (word_same hs _)
                clear hv0 hv1 hv2 hv3 xa xb c0 c1 c2 c3 f0 f1 f2 f3
                refine (rnone_any _ _ ha).mono ?_
                rintro e w3 ⟨rfl, rfl⟩
                go_wp2_with (first | (go_at_call 32; refine (rnone_any _ _ (by assumption)).mono ?_; rintro e w' ⟨rfl, rfl⟩) | (go_at_call 35; refine (parts_any _ _ (by assumption)).mono ?_; rintro e w' ⟨rfl, rfl⟩) | (go_at_call 36; refine (rinf_any _ _ (by assumption)).mono ?_; rintro e w' ⟨rfl, rfl⟩) | (go_at_call 37; refine (rzero_any _ _ (by assumption)).mono ?_; rintro e w' ⟨rfl, rfl⟩) | (go_at_call 34; refine (fneg_any _ _ (by assumption)).mono ?_; rintro e w' ⟨rfl, rfl⟩))
                go_ret
                exact ⟨rfl, below_drewN HB.out _⟩
              · have hne := ne_beq (show a ≠ b from fun h => by rw [h, ib] at ia; cases ia)
                have r0 := hv0.trans (add_inf_right a b hb (inf_of ib) (fin_of na ia))
                have r1 := hv1.trans ((fSub_flip a hb).trans (add_inf_right a (flip b) (flip_lt hb) (by unfold isInf; rw [RW_flip hb]; exact inf_of ib) (fin_of na ia)))
                have r2 := (hv2.trans (mul_inf a b xa xb (.inr ⟨nzero_of za, inf_of ib⟩))).trans (word_diff hs _)
                have r3 := (hv3.trans (div_zero a b (fin_of na ia) xb (.inl (inf_of ib)))).trans (word_diff hs _)
                clear hv0 hv1 hv2 hv3 xa xb c0 c1 c2 c3 f0 f1 f2 f3
                refine (rnone_any _ _ ha).mono ?_
                rintro e w3 ⟨rfl, rfl⟩
                go_wp2_with (first | (go_at_call 32; refine (rnone_any _ _ (by assumption)).mono ?_; rintro e w' ⟨rfl, rfl⟩) | (go_at_call 35; refine (parts_any _ _ (by assumption)).mono ?_; rintro e w' ⟨rfl, rfl⟩) | (go_at_call 36; refine (rinf_any _ _ (by assumption)).mono ?_; rintro e w' ⟨rfl, rfl⟩) | (go_at_call 37; refine (rzero_any _ _ (by assumption)).mono ?_; rintro e w' ⟨rfl, rfl⟩) | (go_at_call 34; refine (fneg_any _ _ (by assumption)).mono ?_; rintro e w' ⟨rfl, rfl⟩))
                go_ret
                exact ⟨rfl, below_drewN HB.out _⟩
            · skip
              rcases sg_two a b with hs | hs
              · have hne := ne_beq (show a ≠ b from fun h => by rw [h, zb] at za; cases za)
                have r2 := (hv2.trans (mul_zero a b (fin_of na ia) (fin_of nb ib) (.inr (zero_of zb)))).trans (word_same hs _)
                have r3 := (hv3.trans (div_inf a b xa xb (.inr ⟨nzero_of za, zero_of zb⟩))).trans (word_same hs _)
                clear hv0 hv1 hv2 hv3 xa xb c0 c1 c2 c3 f0 f1 f2 f3
                refine (rnone_any _ _ ha).mono ?_
                rintro e w3 ⟨rfl, rfl⟩
                go_wp2_with (first | (go_at_call 32; refine (rnone_any _ _ (by assumption)).mono ?_; rintro e w' ⟨rfl, rfl⟩) | (go_at_call 35; refine (parts_any _ _ (by assumption)).mono ?_; rintro e w' ⟨rfl, rfl⟩) | (go_at_call 36; refine (rinf_any _ _ (by assumption)).mono ?_; rintro e w' ⟨rfl, rfl⟩) | (go_at_call 37; refine (rzero_any _ _ (by assumption)).mono ?_; rintro e w' ⟨rfl, rfl⟩) | (go_at_call 34; refine (fneg_any _ _ (by assumption)).mono ?_; rintro e w' ⟨rfl, rfl⟩))
                go_ret
                exact ⟨rfl, below_drewN HB.out _⟩
              · have hne := ne_beq (show a ≠ b from fun h => by rw [h, zb] at za; cases za)
                have r2 := (hv2.trans (mul_zero a b (fin_of na ia) (fin_of nb ib) (.inr (zero_of zb)))).trans (word_diff hs _)
                have r3 := (hv3.trans (div_inf a b xa xb (.inr ⟨nzero_of za, zero_of zb⟩))).trans (word_diff hs _)
                clear hv0 hv1 hv2 hv3 xa xb c0 c1 c2 c3 f0 f1 f2 f3
                refine (rnone_any _ _ ha).mono ?_
                rintro e w3 ⟨rfl, rfl⟩
                go_wp2_with (first | (go_at_call 32; refine (rnone_any _ _ (by assumption)).mono ?_; rintro e w' ⟨rfl, rfl⟩) | (go_at_call 35; refine (parts_any _ _ (by assumption)).mono ?_; rintro e w' ⟨rfl, rfl⟩) | (go_at_call 36; refine (rinf_any _ _ (by assumption)).mono ?_; rintro e w' ⟨rfl, rfl⟩) | (go_at_call 37; refine (rzero_any _ _ (by assumption)).mono ?_; rintro e w' ⟨rfl, rfl⟩) | (go_at_call 34; refine (fneg_any _ _ (by assumption)).mono ?_; rintro e w' ⟨rfl, rfl⟩))
                go_ret
                exact ⟨rfl, below_drewN HB.out _⟩
            · by_cases hab : a = b
              · subst hab
                have r1 := hv1.trans (sub_same a ha (fin_of na ia))
                clear hv0 hv1 hv2 hv3 xa xb c0 c1 c2 c3 f0 f1 f2 f3
                refine (rnone_any _ _ ha).mono ?_
                rintro e w3 ⟨rfl, rfl⟩
                go_wp2_with (first | (go_at_call 32; refine (rnone_any _ _ (by assumption)).mono ?_; rintro e w' ⟨rfl, rfl⟩) | (go_at_call 35; refine (parts_any _ _ (by assumption)).mono ?_; rintro e w' ⟨rfl, rfl⟩) | (go_at_call 36; refine (rinf_any _ _ (by assumption)).mono ?_; rintro e w' ⟨rfl, rfl⟩) | (go_at_call 37; refine (rzero_any _ _ (by assumption)).mono ?_; rintro e w' ⟨rfl, rfl⟩) | (go_at_call 34; refine (fneg_any _ _ (by assumption)).mono ?_; rintro e w' ⟨rfl, rfl⟩))
                go_ret
                exact ⟨rfl, below_drewN HB.out _⟩
              · have hne := ne_beq hab
                rcases sg_two a b with hs | hs
                · clear hv0 hv1 hv2 hv3 xa xb c0 c1 c2 c3 f0 f1 f2 f3 hab
                  refine (rnone_any _ _ ha).mono ?_
                  rintro e w3 ⟨rfl, rfl⟩
                  go_wp2_with (first | (go_at_call 32; refine (rnone_any _ _ (by assumption)).mono ?_; rintro e w' ⟨rfl, rfl⟩) | (go_at_call 35; refine (parts_any _ _ (by assumption)).mono ?_; rintro e w' ⟨rfl, rfl⟩) | (go_at_call 36; refine (rinf_any _ _ (by assumption)).mono ?_; rintro e w' ⟨rfl, rfl⟩) | (go_at_call 37; refine (rzero_any _ _ (by assumption)).mono ?_; rintro e w' ⟨rfl, rfl⟩) | (go_at_call 34; refine (fneg_any _ _ (by assumption)).mono ?_; rintro e w' ⟨rfl, rfl⟩))
                  go_ret
                  exact ⟨rfl, below_drewN HB.out _⟩
                · clear hv0 hv1 hv2 hv3 xa xb c0 c1 c2 c3 f0 f1 f2 f3 hab
                  refine (rnone_any _ _ ha).mono ?_
                  rintro e w3 ⟨rfl, rfl⟩
                  go_wp2_with (first | (go_at_call 32; refine (rnone_any _ _ (by assumption)).mono ?_; rintro e w' ⟨rfl, rfl⟩) | (go_at_call 35; refine (parts_any _ _ (by assumption)).mono ?_; rintro e w' ⟨rfl, rfl⟩) | (go_at_call 36; refine (rinf_any _ _ (by assumption)).mono ?_; rintro e w' ⟨rfl, rfl⟩) | (go_at_call 37; refine (rzero_any _ _ (by assumption)).mono ?_; rintro e w' ⟨rfl, rfl⟩) | (go_at_call 34; refine (fneg_any _ _ (by assumption)).mono ?_; rintro e w' ⟨rfl, rfl⟩))
                  go_ret
                  exact ⟨rfl, below_drewN HB.out _⟩
        · have hn := of_decide_eq_true nb
          have r0 := hv0.trans (add_nan a b (.inr hn))
          have r1 := hv1.trans (sub_nan a b hb (.inr hn))
          have r2 := hv2.trans (mul_nan a b (.inr hn))
          have r3 := hv3.trans (div_nan a b (.inr hn))
          have r4 : norm (flip 9221120237041090561) = 9221120237041090561 := by decide
          clear hv0 hv1 hv2 hv3 hn c0 c1 c2 c3 f0 f1 f2 f3
          refine (rnone_any _ _ ha).mono ?_
          rintro e w3 ⟨rfl, rfl⟩
          go_wp2_with (first | (go_at_call 32; refine (rnone_any _ _ hb).mono ?_; rintro e w' ⟨rfl, rfl⟩) | (go_at_call 34; refine (fneg_any _ _ (by decide)).mono ?_; rintro e w' ⟨rfl, rfl⟩))
          go_ret
          exact ⟨rfl, below_drewN HB.out _⟩
      · have hn := of_decide_eq_true na
        have r0 := hv0.trans (add_nan a b (.inl hn))
        have r1 := hv1.trans (sub_nan a b hb (.inl hn))
        have r2 := hv2.trans (mul_nan a b (.inl hn))
        have r3 := hv3.trans (div_nan a b (.inl hn))
        have r4 : norm (flip 9221120237041090561) = 9221120237041090561 := by decide
        clear hv0 hv1 hv2 hv3 hn c0 c1 c2 c3 f0 f1 f2 f3
        refine (rnone_any _ _ ha).mono ?_
        rintro e w3 ⟨rfl, rfl⟩
        go_wp2_with (go_at_call 34; refine (fneg_any _ _ (by decide)).mono ?_; rintro e w' ⟨rfl, rfl⟩)
        go_ret
        exact ⟨rfl, below_drewN HB.out _⟩

end Go.Proofs.Ytmobmljnjolkgaa
