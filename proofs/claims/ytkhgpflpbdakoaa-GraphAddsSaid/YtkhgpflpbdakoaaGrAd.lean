/- GraphAdds: the walk of the rest. -/
import Derived.Test.YtkhgpflpbdakoaaGrO
namespace Go.Proofs.Ytkhgpflpbdakoaa
open Go Go.RowKit
set_option linter.unusedVariables false
set_option linter.unusedSimpArgs false

theorem below_drewN {B : Nat} {w w' : World} (h : Below B w w') : ∀ n, Below B w (w'.drewN n)
  | n => h.trans ⟨rfl, rfl, rfl, Nat.le_refl _, fun _ _ => rfl⟩
set_option maxRecDepth 100000 in
set_option maxHeartbeats 8000000 in
theorem addsC {w : World} (n : Nat) (v : Value) (l : List Eg) (hv : EgV w v l) (hin : ∀ e ∈ l, EgIn e) (hl : l.length ≤ 150) (hn : n ≤ 8192) :
    Calls Try.prog 3 #[.int .i64 (n : Int), v] w fun e w' => e = .returned (.bool true) ∧ Below w.heap.size w w' := by
  obtain ⟨src, cap, rfl, hx⟩ := hv
  have HX := Lib.hid hx
  have HIN := Lib.hid hin
  have HL := Lib.hid hl
  have HN := Lib.hid hn
  obtain ⟨m, hm⟩ : ∃ m, m = l.length := ⟨_, rfl⟩
  rw [← hm]
  have HM := Lib.hid hm
  have i1 : ¬ (150 : Int) < (m : Int) := by omega
  have i2 : ¬ (9000 : Int) < (n : Int) := by omega
  have i3 : ¬ (n : Int) < 0 := by omega
  have i4 : ¬ (8192 : Int) < (n : Int) := by omega
  have HNW := Lib.hid (fun w => new_yes n w hn)
  clear hx hin hl hn hm
  go_enter Try.func3, Try.ntmps3
  go_wp2_with fail
  refine (lcomes_any _).mono ?_
  rintro e w1 ⟨rfl, k1⟩
  go_wp2_with fail
  refine (HNW.out _).mono ?_
  rintro e w2 ⟨S0, rfl, k2, g2⟩
  have A0 := Lib.hid (AI.new k1 k2 g2 29)
  obtain ⟨B, hB⟩ : ∃ B, B = w1.heap.size := ⟨_, rfl⟩
  obtain ⟨g, hg⟩ : ∃ g, g = S0.g := ⟨_, rfl⟩
  rw [← hB, ← hg] at A0
  rw [← hg]
  clear k1 k2 g2 HNW hB hg
  go_wp2_with fail
  clear i1 i2 i3 i4
  obtain ⟨i0, hi0, hz0, hs0, hb0⟩ := info_parts infoE'
  go_loopg [7, 49] m (fun gk av iv wr => ∃ (j : Nat), ∃ A : List Eg, ∃ top : Nat, iv = .int .i64 (j : Int) ∧ j + gk = m ∧ AI w wr B n g top A 29 A av ∧ A.length ≤ j)
  case atStart => exact ⟨0, [], _, rfl, by omega, A0.out, by simp⟩
  case round =>
    clear A0
    obtain ⟨j, A, top, rfl, hjk, hai, hAj⟩ := hrel
    have AR := Lib.hid hai.tops
    have HAJ := Lib.hid hAj
    clear hai hAj
    cases gk with
    | zero =>
      have d1 : decide ((j : Int) < (m : Int)) = false := decide_eq_false (by omega)
      have d2 : ¬ (j : Int) < (m : Int) := by omega
      have d3 : decide (j < m) = false := decide_eq_false (by omega)
      have d4 : ¬ j < m := by omega
      obtain ⟨S, hSg, hG⟩ := AR.out.graph
      have HA150 : Hid (A.length ≤ 150) := Lib.hid (by have := HAJ.out; have := HM.out; have := HL.out; omega)
      have HED := Lib.hid (edges_any hG (by have := HA150.out; omega))
      rw [hSg] at HED
      have HGR := Lib.hid hG
      have HSG := Lib.hid hSg
      obtain ⟨ag, ac, rfl⟩ := own_any_shape AR.out.row.1
      have HAV := Lib.hid (EgV.of_row AR.out.row.1)
      clear hSg hG
      obtain ⟨na, hna⟩ : ∃ na, na = A.length := ⟨_, rfl⟩
      rw [← hna] at HAV ⊢
      have HNA := Lib.hid hna
      have BR := Lib.hid AR.out.bel
      clear hna AR
      go_wp2_with fail
      refine HED.out.mono ?_
      rintro x w5 ⟨v5, rfl, ho5, h5⟩
      have HLN := Lib.hid (len_any (HGR.out.step h5))
      rw [HSG.out] at HLN
      obtain ⟨eg, ec, rfl⟩ := own_any_shape ho5
      have HGV := Lib.hid (EgV.of_row ho5)
      rw [← HNA.out] at HGV
      rw [← HNA.out]
      have HAV5 := Lib.hid (HAV.out.step h5)
      have BR5 := Lib.hid (after BR.out h5)
      clear ho5 h5 HED HAV
      clear d1 d2 d3 d4
      go_wp2_with fail
      refine HLN.out.mono ?_
      rintro x w6 ⟨rfl, hw⟩
      replace hw := hw.symm
      subst hw
      go_wp2_with fail
      go_loopg [114] na (fun gj iv wy => ∃ k : Nat, iv = .int .i64 (k : Int) ∧ k + gj = na ∧ Below w5.heap.size w5 wy)
      case atStart => exact ⟨0, rfl, by omega, Below.refl _ _⟩
      case round =>
        obtain ⟨k, rfl, hk, hby⟩ := hrel
        rename World => wy
        have BY := Lib.hid hby
        clear hby
        cases gk with
        | zero =>
          have d1 : decide ((k : Int) < (na : Int)) = false := decide_eq_false (by omega)
          have d2 : ¬ (k : Int) < (na : Int) := by omega
          have d3 : decide (k < na) = false := decide_eq_false (by omega)
          have d4 : ¬ k < na := by omega
          go_wp2_with fail
          go_ret
          exact ⟨rfl, after BR5.out BY.out⟩
        | succ gj =>
          have hkA : k < A.length := by rw [← HNA.out]; omega
          obtain ⟨ag', acap, hav, hac⟩ := HAV5.out
          simp only [Value.slice.injEq] at hav
          obtain ⟨hag, -, -⟩ := hav
          subst hag
          obtain ⟨gy, oy, rfl, hgy, a0, a1, a2, a3⟩ := hac k hkA
          obtain ⟨eg', ecap, hev, hec⟩ := HGV.out
          simp only [Value.slice.injEq] at hev
          obtain ⟨heg, -, -⟩ := hev
          subst heg
          obtain ⟨gz, oz, rfl, hgz, b0, b1, b2, b3⟩ := hec k hkA
          have a0 := keep BY.out hgy a0
          have a1 := keep BY.out hgy a1
          have a2 := keep BY.out hgy a2
          have a3 := keep BY.out hgy a3
          have b0 := keep BY.out hgz b0
          have b1 := keep BY.out hgz b1
          have b2 := keep BY.out hgz b2
          have b3 := keep BY.out hgz b3
          have hgy := Nat.lt_of_lt_of_le hgy BY.out.size
          have hgz := Nat.lt_of_lt_of_le hgz BY.out.size
          have hne := neE A[k] A[k]
          rw [show (!decide (A[k] = A[k])) = false by simp] at hne
          clear hac hec
          generalize A[k] = y at *
          have j3 : (k : Int) < (na : Int) := by omega
          have j4 : (0 : Int) ≤ (k : Int) := by omega
          have j5 : k < na := by omega
          have hw2 : IntKind.i64.wrap ((k : Int) + 1) = (k : Int) + 1 := IntWalk.i64_in _ ⟨by omega, by have := HNA.out; have := HA150.out; omega⟩
          go_wp2_with fail
          go_quiet (fail)
          go_wp2_with fail
          go_roundg gj
          case measure => omega
          case rel => exact ⟨k + 1, by push_cast; rfl, by omega, below_drewN BY.out _⟩
    | succ gko =>
      have hjl : j < l.length := by rw [← HM.out]; omega
      obtain ⟨vg, off, rfl, hvg, e0, e1, e2, e3⟩ := HX.out j hjl
      have e0 := keep AR.out.bel hvg e0
      have e1 := keep AR.out.bel hvg e1
      have e2 := keep AR.out.bel hvg e2
      have e3 := keep AR.out.bel hvg e3
      have hvg := Nat.lt_of_lt_of_le hvg AR.out.bel.size
      have HE := Lib.hid (HIN.out _ (List.getElem_mem hjl))
      generalize l[j] = e at *
      have j1 : (j : Int) < (m : Int) := by omega
      have j2 : j < m := by omega
      have hw1 : IntKind.i64.wrap ((j : Int) + 1) = (j : Int) + 1 := IntWalk.i64_in _ ⟨by omega, by have := HM.out; have := HL.out; omega⟩
      go_upto_region 14 with fail
      have AX := Lib.hid (AR.out.step (show Below wr.heap.size wr (wr.alloc (.cells #[.int .i64 e.1, .int .i64 e.2.1, .int .i64 e.2.2.1, .int .i64 e.2.2.2] 29)) by repeat (first | exact Below.refl _ _ | apply Below.setCell _ (by first | omega | (simp <;> omega)) | apply Below.alloc _ (by first | omega | (simp <;> omega)))))
      have X9 := Lib.hid (Bx.new 29 wr (egC e).toArray)
      have X9 : Hid (Bx 29 (wr.alloc (.cells #[.int .i64 e.1, .int .i64 e.2.1, .int .i64 e.2.2.1, .int .i64 e.2.2.2] 29)) wr.heap.size (egC e)) := Lib.hid X9.out
      have ht9 : wr.heap.size < (wr.alloc (.cells #[.int .i64 e.1, .int .i64 e.2.1, .int .i64 e.2.2.1, .int .i64 e.2.2.2] 29)).heap.size := by simp
      generalize wr.alloc (.cells #[.int .i64 e.1, .int .i64 e.2.1, .int .i64 e.2.2.1, .int .i64 e.2.2.2] 29) = wx at *
      obtain ⟨t9, h9⟩ : ∃ t9, t9 = wr.heap.size := ⟨_, rfl⟩
      rw [← h9] at AX X9 ht9 ⊢
      clear e0 e1 e2 e3 hvg h9 AR
      obtain ⟨x0, x1, x2, x3, xl, xf⟩ := X9.out.four
      obtain ⟨q0, hq0⟩ : ∃ q0 : Int, q0 = wantP n (A.take 0) e := ⟨_, rfl⟩
      have HQ0 := Lib.hid hq0
      clear hq0
      obtain ⟨bd, hbd⟩ : ∃ bd : Bool, bd = true ↔ ¬ okE n e := ⟨@decide (¬ okE n e) (Classical.propDecidable _), by simp⟩
      have HBD := Lib.hid hbd
      clear hbd
      go_upto_region 15 with fail
      go_cut [72] from 53 to 71 (fun s72 wz => s72 = .bool bd ∧ wz = wx)
      case first =>
        by_cases p1 : e.1 < -1
        · have e1 : bd = true := HBD.out.2 (fun q => by rcases q.1 with g | g <;> omega)
          go_wp2_with fail
          go_meet
          exact ⟨by rw [e1], rfl⟩
        · by_cases p2 : (n : Int) ≤ e.1
          · have e1 : bd = true := HBD.out.2 (fun q => by rcases q.1 with g | g <;> omega)
            go_wp2_with fail
            go_meet
            exact ⟨by rw [e1], rfl⟩
          · by_cases p3 : e.2.1 < 0
            · have e1 : bd = true := HBD.out.2 (fun q => by have := q.2.1; omega)
              go_wp2_with fail
              go_meet
              exact ⟨by rw [e1], rfl⟩
            · by_cases p4 : (n : Int) ≤ e.2.1
              · have e1 : bd = true := HBD.out.2 (fun q => by have := q.2.2; omega)
                go_wp2_with fail
                go_meet
                exact ⟨by rw [e1], rfl⟩
              · have e1 : bd = false := by
                  cases hb : bd with
                  | false => rfl
                  | true => exact absurd ⟨by omega, by omega, by omega⟩ (HBD.out.1 hb)
                go_wp2_with fail
                go_meet
                exact ⟨by rw [e1], rfl⟩
      case rest =>
      obtain ⟨rfl, hw⟩ := hcut
      replace hw := hw.symm
      subst hw
      go_upto_if 72 with fail
      go_cut [10] from 53 to 72 (fun s10 wz => s10 = .int .i64 q0 ∧ wz = wx)
      case first =>
        cases hb : bd with
        | true =>
          have e1 : q0 = 1 := by rw [HQ0.out]; exact want_range (HBD.out.1 hb)
          go_wp2_with fail
          go_meet
          exact ⟨by rw [e1], rfl⟩
        | false =>
          have e1 : q0 = 0 := by
            rw [HQ0.out]
            refine want_new (Classical.byContradiction fun q => ?_) (by simp)
            have := HBD.out.2 q
            rw [hb] at this
            cases this
          go_wp2_with fail
          go_meet
          exact ⟨by rw [e1], rfl⟩
      case rest =>
        obtain ⟨rfl, hw⟩ := hcut
        replace hw := hw.symm
        subst hw
        obtain ⟨ag, ac, rfl⟩ := own_any_shape AX.out.row.1
        have HAV := Lib.hid (EgV.of_row AX.out.row.1)
        obtain ⟨na, hna⟩ : ∃ na, na = A.length := ⟨_, rfl⟩
        rw [← hna] at AX HAV ⊢
        have HNA := Lib.hid hna
        clear hna
        go_wp2_with fail
        clear x0 x1 x2 x3 xl xf
        go_loopg [10, 75] na (fun gj sv iv wy => ∃ (j2 : Nat), ∃ q : Int, sv = .int .i64 q ∧ iv = .int .i64 (j2 : Int) ∧ j2 + gj = na ∧ q = wantP n (A.take j2) e ∧ Below wx.heap.size wx wy)
        case atStart => exact ⟨0, q0, rfl, rfl, by omega, HQ0.out, Below.refl _ _⟩
        case round =>
          obtain ⟨j2, q, rfl, rfl, hj2, hq, hby⟩ := hrel
          rename World => wy
          have BY := Lib.hid hby
          have HQ := Lib.hid hq
          have AY := Lib.hid (AX.out.step hby)
          have X9y := Lib.hid (X9.out.keep hby)
          obtain ⟨x0, x1, x2, x3, xl, xf⟩ := X9y.out.four
          clear hby hq
          cases gk with
          | zero =>
            have d1 : decide ((j2 : Int) < (na : Int)) = false := decide_eq_false (by omega)
            have d2 : ¬ (j2 : Int) < (na : Int) := by omega
            have d3 : decide (j2 < na) = false := decide_eq_false (by omega)
            have d4 : ¬ j2 < na := by omega
            have HQF : Hid (q = wantP n A e) := Lib.hid (by
              have := HQ.out
              rwa [show j2 = A.length by rw [← HNA.out]; omega, List.take_length] at this)
            have HA150 : Hid (A.length ≤ 150) := Lib.hid (by have := HAJ.out; have := HM.out; have := HL.out; omega)
            clear HQ
            by_cases ok : okE n e
            · by_cases mem : e ∈ A
              · have hq4 : q = 4 := by rw [HQF.out]; exact want_mem ok mem
                have HA := Lib.hid (AY.out.twice e HE.out ok mem)
                subst hq4
                clear ok mem HQF
                go_wp2_with fail
                refine HA.out.mono ?_
                rintro x w5 ⟨rfl, h5⟩
                have A5 := Lib.hid (AY.out.step h5)
                clear h5
                go_wp2_with fail
                go_roundg gko
                case measure => omega
                case rel => exact ⟨j + 1, A, _, by push_cast; rfl, by omega, A5.out, by have := HAJ.out; omega⟩
              · have hq4 : q = 0 := by rw [HQF.out]; exact want_new ok mem
                have HA := Lib.hid (AY.out.fresh e HE.out ok mem (by have := HA150.out; omega))
                subst hq4
                clear ok mem HQF
                go_wp2_with fail
                refine HA.out.mono ?_
                rintro x w5 ⟨rfl, h5, k5⟩
                have x5 : Bx 29 w5 t9 (egC e) := X9y.out.at_ (k := t9) (k5 t9 (Nat.le_refl _) X9y.out.lt)
                have A5 := Lib.hid h5
                obtain ⟨y0, y1, y2, y3, yl, yf⟩ := x5.four
                have B5 : Hid (Below w5.heap.size w5 (w5.alloc (.cells (egC e).toArray 29))) := Lib.hid (by repeat (first | exact Below.refl _ _ | apply Below.setCell _ (by first | omega | (simp <;> omega)) | apply Below.alloc _ (by first | omega | (simp <;> omega))))
                have HO5 : Hid ((w5.alloc (.cells (egC e).toArray 29)).ownsRow B 29 4 (.slice ag na ac) na (flatG A)) := Lib.hid (by rw [HNA.out]; have := (A5.out.step B5.out).row.1; rw [HNA.out] at this; exact this)
                have NEWS : Hid (∀ j u, (egC e)[j]? = some u → (w5.alloc (.cells (egC e).toArray 29)).cell? ((⟨w5.heap.size, 0, none⟩ : Addr).add j) = some u) := Lib.hid (by
                  intro j u hj
                  rw [add_at, Nat.zero_add]
                  exact ((Bx.new 29 w5 (egC e).toArray).cell j).trans hj)
                have ONE : Hid (∀ u ∈ egC e, u.oneCell' = true) := Lib.hid (by
                  intro u hu
                  unfold egC at hu
                  simp only [List.mem_cons, List.not_mem_nil, or_false] at hu
                  rcases hu with rfl | rfl | rfl | rfl <;> rfl)
                have N1 : Hid (na + 1 ≤ maxLen) := Lib.hid (by have := HA150.out; have := HNA.out; unfold maxLen; omega)
                have N2 : Hid ((na + 1) * 32 ≤ 140737488355328) := Lib.hid (by have := HA150.out; have := HNA.out; omega)
                have N3 : Hid (B ≤ (w5.alloc (.cells (egC e).toArray 29)).heap.size) := Lib.hid (A5.out.step B5.out).row.2
                clear h5 k5 x5 x0 x1 x2 x3 xl xf
                go_wp2_with (at_builtin; refine wpList_append_own_at _ (by rfl) (.tmp 94) (.tmp 96) 22 (by rfl) B 29 i0 (.agg #[.int .i64 0, .int .i64 0, .int .i64 0, .int .i64 0]) 4 32 Try.underlying22 hi0 hz0 hs0 hb0 rfl (by decide) (.slice ag na ac) na (flatG A) (by rfl) HO5.out ⟨w5.heap.size, 0, none⟩ 1 1 (egC e) (by rfl) rfl NEWS.out ONE.out N1.out N2.out N3.out ?_; intro v9 w9 hown9 hgr9 hnil9 hat9)
                go_roundg gko
                case measure => omega
                case rel =>
                  refine ⟨j + 1, A ++ [e], _, by push_cast; rfl, by omega, A5.out.push (by rw [← HNA.out]; exact hown9) hgr9 hat9, by rw [List.length_append]; have := HAJ.out; simp; omega⟩
            · have hq4 : q = 1 := by rw [HQF.out]; exact want_range ok
              have HA := Lib.hid (AY.out.range e HE.out ok)
              subst hq4
              clear ok HQF
              go_wp2_with fail
              refine HA.out.mono ?_
              rintro x w5 ⟨rfl, h5⟩
              have A5 := Lib.hid (AY.out.step h5)
              clear h5
              go_wp2_with fail
              go_roundg gko
              case measure => omega
              case rel => exact ⟨j + 1, A, _, by push_cast; rfl, by omega, A5.out, by have := HAJ.out; omega⟩
          | succ gj =>
            have hjA : j2 < A.length := by rw [← HNA.out]; omega
            obtain ⟨ag', acap, hav, hac⟩ := HAV.out
            simp only [Value.slice.injEq] at hav
            obtain ⟨hag, -, -⟩ := hav
            subst hag
            obtain ⟨gy, oy, rfl, hgy, e0, e1, e2, e3⟩ := hac j2 hjA
            have e0 := keep BY.out hgy e0
            have e1 := keep BY.out hgy e1
            have e2 := keep BY.out hgy e2
            have e3 := keep BY.out hgy e3
            have hgy := Nat.lt_of_lt_of_le hgy BY.out.size
            have HW := Lib.hid (want_next (n := n) (e := e) hjA)
            have heq := eqE e A[j2]
            clear hac
            generalize A[j2] = y at *
            obtain ⟨bq, hbq⟩ : ∃ bq, bq = decide (e = y) := ⟨_, rfl⟩
            rw [← hbq] at heq
            have HBQ := Lib.hid hbq
            clear hbq
            have j3 : (j2 : Int) < (na : Int) := by omega
            have j4 : j2 < na := by omega
            have hw2 : IntKind.i64.wrap ((j2 : Int) + 1) = (j2 : Int) + 1 := IntWalk.i64_in _ ⟨by omega, by have := HNA.out; have := HAJ.out; have := HM.out; have := HL.out; omega⟩
            have BY2 : Hid (Below wx.heap.size wx (wy.alloc (.cells #[.int .i64 y.1, .int .i64 y.2.1, .int .i64 y.2.2.1, .int .i64 y.2.2.2] 29))) := Lib.hid (BY.out.alloc BY.out.size _)
            cases bq with
            | false =>
              have HW2 : Hid (q = wantP n (A.take (j2 + 1)) e) := Lib.hid (by
                rw [HW.out, if_neg (fun p => by have := HBQ.out; rw [decide_eq_true p.1] at this; cases this)]
                exact HQ.out)
              go_wp2_with fail
              go_roundg gj
              case measure => omega
              case rel => exact ⟨j2 + 1, q, rfl, by push_cast; rfl, by omega, HW2.out, BY2.out⟩
            | true =>
              have hey : e = y := of_decide_eq_true HBQ.out.symm
              by_cases q1 : q = 0
              · have HW2 : Hid (4 = wantP n (A.take (j2 + 1)) e) := Lib.hid (by
                  rw [HW.out, if_pos ⟨hey, by rw [← HQ.out, q1]⟩])
                clear hey
                subst q1
                go_wp2_with fail
                go_roundg gj
                case measure => omega
                case rel => exact ⟨j2 + 1, 4, rfl, by push_cast; rfl, by omega, HW2.out, BY2.out⟩
              · have HW2 : Hid (q = wantP n (A.take (j2 + 1)) e) := Lib.hid (by
                  rw [HW.out, if_neg (fun p => q1 (by rw [HQ.out]; exact p.2))]
                  exact HQ.out)
                have q2 : (q == 0) = false := by simpa using q1
                clear hey
                go_wp2_with fail
                go_roundg gj
                case measure => omega
                case rel => exact ⟨j2 + 1, q, rfl, by push_cast; rfl, by omega, HW2.out, BY2.out⟩
end Go.Proofs.Ytkhgpflpbdakoaa
