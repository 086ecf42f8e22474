/- LexLimits: the walk. -/
import Derived.Test.YtgcokjobnpjhhaaLexU
import Derived.RegionTactic
import Derived.Outline
namespace Go.Proofs.Ytgcokjobnpjhhaa
open Go Go.RowKit
set_option linter.unusedVariables false

theorem lex_res {w w' : World} {R : List Tok × Nat × Nat} {e : Ending} (h : LexPost w R e w') : ∃ (v : Value) (p : Nat), e = .returned (.tuple #[v, .agg #[.int .i64 (R.2.1 : Nat), .int .i64 (p : Nat)]]) ∧ Below w.heap.size w w' := by
  obtain ⟨hb, hg, hbad⟩ := h
  by_cases h0 : R.2.1 = 0
  · obtain ⟨v, hv, _⟩ := hg h0
    exact ⟨v, 0, by rw [hv, h0]; rfl, hb⟩
  · exact ⟨_, _, hbad h0, hb⟩
theorem code_is {c m k : Nat} (h : c = if k < m then 2 else 0) : ((c : Int) == 2) = decide ((k : Int) < (m : Int)) := by
  subst h
  by_cases hk : k < m
  · rw [if_pos hk, decide_eq_true (by omega)]; rfl
  · rw [if_neg hk, decide_eq_false (by omega)]; rfl
def rowTo (k c : Nat) (j : Nat) : Nat := if j < k then c else 0
theorem rowTo_put (k c j : Nat) : rowTo (k + 1) c j = if j = k then c else rowTo k c j := by
  unfold rowTo
  by_cases e : j = k
  · subst e; simp
  · rw [if_neg e]
    by_cases h : j < k
    · rw [if_pos h, if_pos (by omega)]
    · rw [if_neg h, if_neg (by omega)]

set_option maxRecDepth 100000 in
set_option maxHeartbeats 16000000 in
theorem limits_in (T m : Nat) (w : World) (hT : T ≤ 17000) (h1 : 1 ≤ m) (h2 : m ≤ 300) :
    Calls Try.prog 7 #[.int .i64 (T : Nat), .int .i64 (m : Nat)] w fun e w' => e = .returned (.bool true) ∧ Below w.heap.size w w' := by
  have HS := Lib.hid (fun w => lex_any (repN T 59) w (by rw [repN_size]; unfold maxLen; omega))
  obtain ⟨q1, q2⟩ := lex_signs (g := byS (repN T 59)) (n := T) (by omega) (fun j hj => repN_get T 59 j hj)
  rw [repN_size] at HS
  have HA := Lib.hid q1
  have HB := Lib.hid q2
  generalize lexG (byS (repN T 59)) T = R at *
  clear q1 q2
  have hwd := fun w => lex_any (repN m 119) w (by rw [repN_size]; unfold maxLen; omega)
  have hdg := fun w => lex_any (repN m 49) w (by rw [repN_size]; unfold maxLen; omega)
  obtain ⟨hq1, hq2⟩ := quoted_word m
  have hqt := fun w => lex_any (⟨#[34]⟩ ++ repN m 119 ++ ⟨#[34]⟩) w (by rw [hq2]; unfold maxLen; omega)
  have cw := code_is (k := 64) (m := m) (lex_word (g := byS (repN m 119)) (n := m) (by omega) (by omega) (fun j hj => repN_get m 119 j hj))
  have cd := code_is (k := 20) (m := m) (lex_digits (g := byS (repN m 49)) (n := m) (by omega) (by omega) (fun j hj => repN_get m 49 j hj))
  have cq := code_is (k := 254) (m := m) ((lex_quotes (n := m) (by omega) hq1).trans (by by_cases h : 254 < m; · rw [if_pos h, if_pos (by omega)]
                                                                                         · rw [if_neg h, if_neg (by omega)]))
  rw [repN_size] at hwd hdg
  rw [hq2] at hqt
  have hzw := repN_size m 119
  have s3 : ¬ 9223372036854775807 < 1 + (repN m 119).size := by omega
  have s4 : ¬ 9223372036854775807 < 1 + (repN m 119).size + 1 := by omega
  generalize lexG (byS (repN m 119)) m = RW at *
  generalize lexG (byS (repN m 49)) m = RD at *
  generalize lexG (byS (⟨#[34]⟩ ++ repN m 119 ++ ⟨#[34]⟩)) (m + 2) = RQ at *
  have HWD := Lib.hid hwd
  have HDG := Lib.hid hdg
  have HQT := Lib.hid hqt
  clear hwd hdg hqt hq1 hq2 hzw
  go_enter Try.func7, Try.ntmps7
  go_wp2_with fail
  refine (cuts_any _).mono ?_
  rintro e w1 ⟨rfl, h01⟩
  have H1 := Lib.hid h01
  obtain ⟨W1, mk, hb0, hu0⟩ := made_u8 T w1 (by omega)
  have HB0 := Lib.hid hb0
  have HU0 := Lib.hid hu0
  clear h01 hb0 hu0
  go_wp2_with fail
  go_loopw [38] (fun t wr => ∃ k : Nat, k ≤ T ∧ t = .int .i64 k ∧ Below w1.heap.size w1 wr ∧ URow w1.heap.size T (fun j => if j < k then 59 else 0) wr) (fun t _ => T - (intOf t).toNat)
  case atStart => exact ⟨0, by omega, rfl, HB0.out, HU0.out.cong (fun j hj => by simp)⟩
  case round =>
    obtain ⟨k, hk, rfl, hbel, hrow⟩ := hrel
    have HBEL := Lib.hid hbel
    have HROW := Lib.hid hrow
    by_cases hlt : k < T
    · have i1 : (k : Int) < (T : Int) := by omega
      have ck := hrow.2.1 k hlt
      have fk := hrow.2.2 k
      have hbl := hrow.1
      have HP := Lib.hid (hrow.put (f' := fun j => if j < k + 1 then 59 else 0) k 59 hlt (fun j hj => by
        by_cases e : j = k
        · subst e; simp
        · rw [if_neg e]
          by_cases h : j < k
          · rw [if_pos h, if_pos (by omega)]
          · rw [if_neg h, if_neg (by omega)]))
      clear hbel hrow
      go_wp2_with fail
      exact ⟨⟨k + 1, by omega, by go_num, HBEL.out.setCell (Nat.le_refl _) _, HP.out⟩, by simp [intOf] <;> omega⟩
    · have hkT : k = T := by omega
      have hcv := row_text (B := w1.heap.size) (m := T) (c := 59) (cap := T) (wr := wr) (hrow.cong (fun j hj => by rw [if_pos (by omega)]; rfl))
      have H2 := Lib.hid (after H1.out hbel)
      clear hrow hbel HBEL HROW HB0 HU0 mk
      by_cases hbig : 16384 < T
      · have hR := HB.out hbig
        subst hR
        have i2 : (16384 : Int) < (T : Int) := by omega
        go_wp2_with fail
        refine (HS.out _).mono ?_
        rintro e w3 ⟨h23, -, hbad⟩
        have he := hbad (by decide)
        subst he
        have H3 := Lib.hid (after H2.out h23)
        clear h23 hbad hcv
        go_wp2_with fail
        obtain ⟨W, hW⟩ : ∃ W, W = w3.alloc (.cells #[.int .i64 2, .int .i64 16384] 26) := ⟨_, rfl⟩
        rw [← hW]
        have HW := Lib.hid (show Below w3.heap.size w3 W by rw [hW]; exact (Below.refl _ _).alloc (Nat.le_refl _) _)
        clear hW
        obtain ⟨V1, mk1, vb1, vu1⟩ := made_u8 m W.drew (by omega)
        obtain ⟨V2, mk2, vb2, vu2⟩ := made_u8 m V1 (by omega)
        have hWs : w3.heap.size ≤ W.heap.size := HW.out.size
        have hVs : W.heap.size < V1.heap.size := vu1.1
        have HBL := Lib.hid ((HW.out.drew.trans (vb1.mono hWs)).trans (vb2.mono (by omega)))
        have HU1 := Lib.hid (show URow W.heap.size m (fun _ => 0) V2 from vu1.step vb2)
        have HU2 := Lib.hid vu2
        clear vb1 vu1 vb2 vu2
        go_region
        · have HR1 := HU1
          have HR2 := HU2
          have hne : W.heap.size ≠ V1.heap.size := by omega
          have hbw : w3.heap.size ≤ W.heap.size := hWs
          have hbd : w3.heap.size ≤ V1.heap.size := by omega
          clear mk1 mk2 hWs hVs HU1 HU2
          generalize W.heap.size = bw at *
          generalize V1.heap.size = bd at *
          go_wp2_with fail
          go_loopw [76] (fun t wr => ∃ k : Nat, k ≤ m ∧ t = .int .i64 k ∧ URow bw m (rowTo k 119) wr ∧ URow bd m (rowTo k 49) wr ∧ Below w3.heap.size w3 wr) (fun t _ => m - (intOf t).toNat)
          case atStart => exact ⟨0, by omega, rfl, HR1.out.cong (fun j hj => by simp [rowTo]), HR2.out.cong (fun j hj => by simp [rowTo]), HBL.out⟩
          case round =>
            obtain ⟨k, hk, rfl, hr1, hr2, hbel⟩ := hrel
            have HBEL := Lib.hid hbel
            by_cases hlt : k < m
            · have i1 : (k : Int) < (m : Int) := by omega
              have ck := hr1.2.1 k hlt
              have fk := hr1.2.2 k
              have cd := hr2.2.1 k hlt
              have fd := hr2.2.2 k
              have bl1 := hr1.1
              have bl2 := hr2.1
              have HP1 := Lib.hid ((hr1.put (f' := rowTo (k + 1) 119) k 119 hlt (fun j hj => rowTo_put k 119 j)).other (B' := bd) (k := k) (v := .int .u8 49) (fun e => hne e.symm))
              have HP2 := Lib.hid ((hr2.other (B' := bw) (k := k) (v := .int .u8 119) hne).put (f' := rowTo (k + 1) 49) k 49 hlt (fun j hj => rowTo_put k 49 j))
              clear hr1 hr2 hbel
              go_wp2_with fail
              exact ⟨⟨k + 1, by omega, by go_num, HP1.out, HP2.out, (HBEL.out.setCell hbw _).setCell hbd _⟩, by simp [intOf] <;> omega⟩
            · have hkm : k = m := by omega
              have R1 := Lib.hid (hr1.cong (f' := fun _ => (119 : UInt8).toNat) (fun j hj => by unfold rowTo; rw [if_pos (by omega)]; rfl))
              have R2 := Lib.hid (hr2.cong (f' := fun _ => (49 : UInt8).toNat) (fun j hj => by unfold rowTo; rw [if_pos (by omega)]; rfl))
              have hcv := row_text (cap := m) R1.out
              have H4 := Lib.hid (H3.out.trans (hbel.mono H3.out.size))
              clear hr1 hr2 hbel HBEL HR1 HR2 HBL hbw hbd
              rename World => wr
              go_wp2_with fail
              refine (HWD.out _).mono ?_
              rintro e w5 hp5
              obtain ⟨va, p1, he, h45⟩ := lex_res hp5
              subst he
              have R1 := Lib.hid (R1.out.step h45)
              have R2 := Lib.hid (R2.out.step h45)
              have R1 := Lib.hid (R1.out.step ((Below.refl _ _).alloc (Nat.le_refl _) (.cells #[.int .i64 (RW.2.1 : Nat), .int .i64 (p1 : Nat)] 26)))
              have R2 := Lib.hid (R2.out.step ((Below.refl _ _).alloc (Nat.le_refl _) (.cells #[.int .i64 (RW.2.1 : Nat), .int .i64 (p1 : Nat)] 26)))
              have H5 := Lib.hid (H4.out.trans (h45.mono H4.out.size))
              have hcv2 := row_text (cap := m) R2.out
              clear hp5 h45 hcv
              go_wp2_with fail
              refine (HDG.out _).mono ?_
              rintro e w6 hp6
              obtain ⟨vd, p2, he, h56⟩ := lex_res hp6
              subst he
              obtain ⟨h56', a0, a1, a2⟩ := box2 h56
              have R1 := Lib.hid (R1.out.step h56)
              have R1 := Lib.hid (R1.out.step ((Below.refl _ _).alloc (Nat.le_refl _) (.cells #[.int .i64 (RD.2.1 : Nat), .int .i64 (p2 : Nat)] 26)))
              have H6 := Lib.hid (H5.out.trans (h56'.mono H5.out.size))
              have hcv3 := row_text (cap := m) R1.out
              clear hp6 h56 h56' hcv2 R2
              go_wp2_with fail
              refine (HQT.out _).mono ?_
              rintro e w7 hp7
              obtain ⟨vq, p3, he, h67⟩ := lex_res hp7
              subst he
              obtain ⟨h67', b0, b1, b2⟩ := box2 h67
              have a0 := keep h67' a2 a0
              have a3 : w5.heap.size < w7.heap.size := Nat.lt_of_lt_of_le a2 h67'.size
              have H7 := Lib.hid (H6.out.trans (h67'.mono H6.out.size))
              clear hp7 h67 h67' hcv3 a1 a2 R1
              go_wp2_with fail
              go_ret
              exact ⟨ret_bo (by simp), H7.out.alloc H7.out.size _⟩
        · have HR1 := HU2
          have HR2 := HU1
          have hne : V1.heap.size ≠ W.heap.size := by omega
          have hbw : w3.heap.size ≤ V1.heap.size := by omega
          have hbd : w3.heap.size ≤ W.heap.size := hWs
          clear mk1 mk2 hWs hVs HU1 HU2
          generalize V1.heap.size = bw at *
          generalize W.heap.size = bd at *
          go_wp2_with fail
          go_loopw [76] (fun t wr => ∃ k : Nat, k ≤ m ∧ t = .int .i64 k ∧ URow bw m (rowTo k 119) wr ∧ URow bd m (rowTo k 49) wr ∧ Below w3.heap.size w3 wr) (fun t _ => m - (intOf t).toNat)
          case atStart => exact ⟨0, by omega, rfl, HR1.out.cong (fun j hj => by simp [rowTo]), HR2.out.cong (fun j hj => by simp [rowTo]), HBL.out⟩
          case round =>
            obtain ⟨k, hk, rfl, hr1, hr2, hbel⟩ := hrel
            have HBEL := Lib.hid hbel
            by_cases hlt : k < m
            · have i1 : (k : Int) < (m : Int) := by omega
              have ck := hr1.2.1 k hlt
              have fk := hr1.2.2 k
              have cd := hr2.2.1 k hlt
              have fd := hr2.2.2 k
              have bl1 := hr1.1
              have bl2 := hr2.1
              have HP1 := Lib.hid ((hr1.put (f' := rowTo (k + 1) 119) k 119 hlt (fun j hj => rowTo_put k 119 j)).other (B' := bd) (k := k) (v := .int .u8 49) (fun e => hne e.symm))
              have HP2 := Lib.hid ((hr2.other (B' := bw) (k := k) (v := .int .u8 119) hne).put (f' := rowTo (k + 1) 49) k 49 hlt (fun j hj => rowTo_put k 49 j))
              clear hr1 hr2 hbel
              go_wp2_with fail
              exact ⟨⟨k + 1, by omega, by go_num, HP1.out, HP2.out, (HBEL.out.setCell hbw _).setCell hbd _⟩, by simp [intOf] <;> omega⟩
            · have hkm : k = m := by omega
              have R1 := Lib.hid (hr1.cong (f' := fun _ => (119 : UInt8).toNat) (fun j hj => by unfold rowTo; rw [if_pos (by omega)]; rfl))
              have R2 := Lib.hid (hr2.cong (f' := fun _ => (49 : UInt8).toNat) (fun j hj => by unfold rowTo; rw [if_pos (by omega)]; rfl))
              have hcv := row_text (cap := m) R1.out
              have H4 := Lib.hid (H3.out.trans (hbel.mono H3.out.size))
              clear hr1 hr2 hbel HBEL HR1 HR2 HBL hbw hbd
              rename World => wr
              go_wp2_with fail
              refine (HWD.out _).mono ?_
              rintro e w5 hp5
              obtain ⟨va, p1, he, h45⟩ := lex_res hp5
              subst he
              have R1 := Lib.hid (R1.out.step h45)
              have R2 := Lib.hid (R2.out.step h45)
              have R1 := Lib.hid (R1.out.step ((Below.refl _ _).alloc (Nat.le_refl _) (.cells #[.int .i64 (RW.2.1 : Nat), .int .i64 (p1 : Nat)] 26)))
              have R2 := Lib.hid (R2.out.step ((Below.refl _ _).alloc (Nat.le_refl _) (.cells #[.int .i64 (RW.2.1 : Nat), .int .i64 (p1 : Nat)] 26)))
              have H5 := Lib.hid (H4.out.trans (h45.mono H4.out.size))
              have hcv2 := row_text (cap := m) R2.out
              clear hp5 h45 hcv
              go_wp2_with fail
              refine (HDG.out _).mono ?_
              rintro e w6 hp6
              obtain ⟨vd, p2, he, h56⟩ := lex_res hp6
              subst he
              obtain ⟨h56', a0, a1, a2⟩ := box2 h56
              have R1 := Lib.hid (R1.out.step h56)
              have R1 := Lib.hid (R1.out.step ((Below.refl _ _).alloc (Nat.le_refl _) (.cells #[.int .i64 (RD.2.1 : Nat), .int .i64 (p2 : Nat)] 26)))
              have H6 := Lib.hid (H5.out.trans (h56'.mono H5.out.size))
              have hcv3 := row_text (cap := m) R1.out
              clear hp6 h56 h56' hcv2 R2
              go_wp2_with fail
              refine (HQT.out _).mono ?_
              rintro e w7 hp7
              obtain ⟨vq, p3, he, h67⟩ := lex_res hp7
              subst he
              obtain ⟨h67', b0, b1, b2⟩ := box2 h67
              have a0 := keep h67' a2 a0
              have a3 : w5.heap.size < w7.heap.size := Nat.lt_of_lt_of_le a2 h67'.size
              have H7 := Lib.hid (H6.out.trans (h67'.mono H6.out.size))
              clear hp7 h67 h67' hcv3 a1 a2 R1
              go_wp2_with fail
              go_ret
              exact ⟨ret_bo (by simp), H7.out.alloc H7.out.size _⟩
      · obtain ⟨r1, r2⟩ := HA.out (by omega)
        have i2 : ¬ (16384 : Int) < (T : Int) := by omega
        obtain ⟨LL, c, p⟩ := R
        dsimp only at r1 r2
        obtain ⟨rfl, rfl⟩ : c = 0 ∧ p = 0 := by injection r1; constructor <;> assumption
        clear r1
        go_wp2_with fail
        refine (HS.out _).mono ?_
        rintro e w3 ⟨h23, hok, -⟩
        obtain ⟨v, rfl, gx, capx, rfl, -⟩ := hok rfl
        have H3 := Lib.hid (after H2.out h23)
        have t9 : ((LL.length : Int) != (T : Int) + 1) = false := by simp; omega
        dsimp only
        clear h23 hok hcv r2
        go_wp2_with fail
        obtain ⟨W, hW⟩ : ∃ W, W = w3.alloc (.cells #[.int .i64 0, .int .i64 0] 26) := ⟨_, rfl⟩
        rw [← hW]
        have HW := Lib.hid (show Below w3.heap.size w3 W by rw [hW]; exact (Below.refl _ _).alloc (Nat.le_refl _) _)
        clear hW
        obtain ⟨V1, mk1, vb1, vu1⟩ := made_u8 m W.drew (by omega)
        obtain ⟨V2, mk2, vb2, vu2⟩ := made_u8 m V1 (by omega)
        have hWs : w3.heap.size ≤ W.heap.size := HW.out.size
        have hVs : W.heap.size < V1.heap.size := vu1.1
        have HBL := Lib.hid ((HW.out.drew.trans (vb1.mono hWs)).trans (vb2.mono (by omega)))
        have HU1 := Lib.hid (show URow W.heap.size m (fun _ => 0) V2 from vu1.step vb2)
        have HU2 := Lib.hid vu2
        clear vb1 vu1 vb2 vu2
        go_region
        · have HR1 := HU1
          have HR2 := HU2
          have hne : W.heap.size ≠ V1.heap.size := by omega
          have hbw : w3.heap.size ≤ W.heap.size := hWs
          have hbd : w3.heap.size ≤ V1.heap.size := by omega
          clear mk1 mk2 hWs hVs HU1 HU2
          generalize W.heap.size = bw at *
          generalize V1.heap.size = bd at *
          go_wp2_with fail
          go_loopw [76] (fun t wr => ∃ k : Nat, k ≤ m ∧ t = .int .i64 k ∧ URow bw m (rowTo k 119) wr ∧ URow bd m (rowTo k 49) wr ∧ Below w3.heap.size w3 wr) (fun t _ => m - (intOf t).toNat)
          case atStart => exact ⟨0, by omega, rfl, HR1.out.cong (fun j hj => by simp [rowTo]), HR2.out.cong (fun j hj => by simp [rowTo]), HBL.out⟩
          case round =>
            obtain ⟨k, hk, rfl, hr1, hr2, hbel⟩ := hrel
            have HBEL := Lib.hid hbel
            by_cases hlt : k < m
            · have i1 : (k : Int) < (m : Int) := by omega
              have ck := hr1.2.1 k hlt
              have fk := hr1.2.2 k
              have cd := hr2.2.1 k hlt
              have fd := hr2.2.2 k
              have bl1 := hr1.1
              have bl2 := hr2.1
              have HP1 := Lib.hid ((hr1.put (f' := rowTo (k + 1) 119) k 119 hlt (fun j hj => rowTo_put k 119 j)).other (B' := bd) (k := k) (v := .int .u8 49) (fun e => hne e.symm))
              have HP2 := Lib.hid ((hr2.other (B' := bw) (k := k) (v := .int .u8 119) hne).put (f' := rowTo (k + 1) 49) k 49 hlt (fun j hj => rowTo_put k 49 j))
              clear hr1 hr2 hbel
              go_wp2_with fail
              exact ⟨⟨k + 1, by omega, by go_num, HP1.out, HP2.out, (HBEL.out.setCell hbw _).setCell hbd _⟩, by simp [intOf] <;> omega⟩
            · have hkm : k = m := by omega
              have R1 := Lib.hid (hr1.cong (f' := fun _ => (119 : UInt8).toNat) (fun j hj => by unfold rowTo; rw [if_pos (by omega)]; rfl))
              have R2 := Lib.hid (hr2.cong (f' := fun _ => (49 : UInt8).toNat) (fun j hj => by unfold rowTo; rw [if_pos (by omega)]; rfl))
              have hcv := row_text (cap := m) R1.out
              have H4 := Lib.hid (H3.out.trans (hbel.mono H3.out.size))
              clear hr1 hr2 hbel HBEL HR1 HR2 HBL hbw hbd
              rename World => wr
              go_wp2_with fail
              refine (HWD.out _).mono ?_
              rintro e w5 hp5
              obtain ⟨va, p1, he, h45⟩ := lex_res hp5
              subst he
              have R1 := Lib.hid (R1.out.step h45)
              have R2 := Lib.hid (R2.out.step h45)
              have R1 := Lib.hid (R1.out.step ((Below.refl _ _).alloc (Nat.le_refl _) (.cells #[.int .i64 (RW.2.1 : Nat), .int .i64 (p1 : Nat)] 26)))
              have R2 := Lib.hid (R2.out.step ((Below.refl _ _).alloc (Nat.le_refl _) (.cells #[.int .i64 (RW.2.1 : Nat), .int .i64 (p1 : Nat)] 26)))
              have H5 := Lib.hid (H4.out.trans (h45.mono H4.out.size))
              have hcv2 := row_text (cap := m) R2.out
              clear hp5 h45 hcv
              go_wp2_with fail
              refine (HDG.out _).mono ?_
              rintro e w6 hp6
              obtain ⟨vd, p2, he, h56⟩ := lex_res hp6
              subst he
              obtain ⟨h56', a0, a1, a2⟩ := box2 h56
              have R1 := Lib.hid (R1.out.step h56)
              have R1 := Lib.hid (R1.out.step ((Below.refl _ _).alloc (Nat.le_refl _) (.cells #[.int .i64 (RD.2.1 : Nat), .int .i64 (p2 : Nat)] 26)))
              have H6 := Lib.hid (H5.out.trans (h56'.mono H5.out.size))
              have hcv3 := row_text (cap := m) R1.out
              clear hp6 h56 h56' hcv2 R2
              go_wp2_with fail
              refine (HQT.out _).mono ?_
              rintro e w7 hp7
              obtain ⟨vq, p3, he, h67⟩ := lex_res hp7
              subst he
              obtain ⟨h67', b0, b1, b2⟩ := box2 h67
              have a0 := keep h67' a2 a0
              have a3 : w5.heap.size < w7.heap.size := Nat.lt_of_lt_of_le a2 h67'.size
              have H7 := Lib.hid (H6.out.trans (h67'.mono H6.out.size))
              clear hp7 h67 h67' hcv3 a1 a2 R1
              go_wp2_with fail
              go_ret
              exact ⟨ret_bo (by simp), H7.out.alloc H7.out.size _⟩
        · have HR1 := HU2
          have HR2 := HU1
          have hne : V1.heap.size ≠ W.heap.size := by omega
          have hbw : w3.heap.size ≤ V1.heap.size := by omega
          have hbd : w3.heap.size ≤ W.heap.size := hWs
          clear mk1 mk2 hWs hVs HU1 HU2
          generalize V1.heap.size = bw at *
          generalize W.heap.size = bd at *
          go_wp2_with fail
          go_loopw [76] (fun t wr => ∃ k : Nat, k ≤ m ∧ t = .int .i64 k ∧ URow bw m (rowTo k 119) wr ∧ URow bd m (rowTo k 49) wr ∧ Below w3.heap.size w3 wr) (fun t _ => m - (intOf t).toNat)
          case atStart => exact ⟨0, by omega, rfl, HR1.out.cong (fun j hj => by simp [rowTo]), HR2.out.cong (fun j hj => by simp [rowTo]), HBL.out⟩
          case round =>
            obtain ⟨k, hk, rfl, hr1, hr2, hbel⟩ := hrel
            have HBEL := Lib.hid hbel
            by_cases hlt : k < m
            · have i1 : (k : Int) < (m : Int) := by omega
              have ck := hr1.2.1 k hlt
              have fk := hr1.2.2 k
              have cd := hr2.2.1 k hlt
              have fd := hr2.2.2 k
              have bl1 := hr1.1
              have bl2 := hr2.1
              have HP1 := Lib.hid ((hr1.put (f' := rowTo (k + 1) 119) k 119 hlt (fun j hj => rowTo_put k 119 j)).other (B' := bd) (k := k) (v := .int .u8 49) (fun e => hne e.symm))
              have HP2 := Lib.hid ((hr2.other (B' := bw) (k := k) (v := .int .u8 119) hne).put (f' := rowTo (k + 1) 49) k 49 hlt (fun j hj => rowTo_put k 49 j))
              clear hr1 hr2 hbel
              go_wp2_with fail
              exact ⟨⟨k + 1, by omega, by go_num, HP1.out, HP2.out, (HBEL.out.setCell hbw _).setCell hbd _⟩, by simp [intOf] <;> omega⟩
            · have hkm : k = m := by omega
              have R1 := Lib.hid (hr1.cong (f' := fun _ => (119 : UInt8).toNat) (fun j hj => by unfold rowTo; rw [if_pos (by omega)]; rfl))
              have R2 := Lib.hid (hr2.cong (f' := fun _ => (49 : UInt8).toNat) (fun j hj => by unfold rowTo; rw [if_pos (by omega)]; rfl))
              have hcv := row_text (cap := m) R1.out
              have H4 := Lib.hid (H3.out.trans (hbel.mono H3.out.size))
              clear hr1 hr2 hbel HBEL HR1 HR2 HBL hbw hbd
              rename World => wr
              go_wp2_with fail
              refine (HWD.out _).mono ?_
              rintro e w5 hp5
              obtain ⟨va, p1, he, h45⟩ := lex_res hp5
              subst he
              have R1 := Lib.hid (R1.out.step h45)
              have R2 := Lib.hid (R2.out.step h45)
              have R1 := Lib.hid (R1.out.step ((Below.refl _ _).alloc (Nat.le_refl _) (.cells #[.int .i64 (RW.2.1 : Nat), .int .i64 (p1 : Nat)] 26)))
              have R2 := Lib.hid (R2.out.step ((Below.refl _ _).alloc (Nat.le_refl _) (.cells #[.int .i64 (RW.2.1 : Nat), .int .i64 (p1 : Nat)] 26)))
              have H5 := Lib.hid (H4.out.trans (h45.mono H4.out.size))
              have hcv2 := row_text (cap := m) R2.out
              clear hp5 h45 hcv
              go_wp2_with fail
              refine (HDG.out _).mono ?_
              rintro e w6 hp6
              obtain ⟨vd, p2, he, h56⟩ := lex_res hp6
              subst he
              obtain ⟨h56', a0, a1, a2⟩ := box2 h56
              have R1 := Lib.hid (R1.out.step h56)
              have R1 := Lib.hid (R1.out.step ((Below.refl _ _).alloc (Nat.le_refl _) (.cells #[.int .i64 (RD.2.1 : Nat), .int .i64 (p2 : Nat)] 26)))
              have H6 := Lib.hid (H5.out.trans (h56'.mono H5.out.size))
              have hcv3 := row_text (cap := m) R1.out
              clear hp6 h56 h56' hcv2 R2
              go_wp2_with fail
              refine (HQT.out _).mono ?_
              rintro e w7 hp7
              obtain ⟨vq, p3, he, h67⟩ := lex_res hp7
              subst he
              obtain ⟨h67', b0, b1, b2⟩ := box2 h67
              have a0 := keep h67' a2 a0
              have a3 : w5.heap.size < w7.heap.size := Nat.lt_of_lt_of_le a2 h67'.size
              have H7 := Lib.hid (H6.out.trans (h67'.mono H6.out.size))
              clear hp7 h67 h67' hcv3 a1 a2 R1
              go_wp2_with fail
              go_ret
              exact ⟨ret_bo (by simp), H7.out.alloc H7.out.size _⟩

end Go.Proofs.Ytgcokjobnpjhhaa
