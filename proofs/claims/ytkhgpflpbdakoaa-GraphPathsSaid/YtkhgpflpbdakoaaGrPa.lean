/- GraphPaths: the walk. -/
import Derived.Test.YtkhgpflpbdakoaaGrIn
import Derived.Test.YtkhgpflpbdakoaaGrFt
namespace Go.Proofs.Ytkhgpflpbdakoaa
open Go Go.RowKit
set_option linter.unusedVariables false
set_option linter.unusedSimpArgs false

theorem pathsN {w : World} (z : Int) (v : Value) (l : List Eg) (hv : EgV w v l) (hl : l.length ≤ 9223372036854775807) (h : z < 0 ∨ 60 < z ∨ 150 < l.length) (y : Int) :
    Calls Try.prog 5 #[.int .i64 z, v, .int .i64 y] w fun e w' => e = .returned (.bool true) ∧ Below w.heap.size w w' := by
  have HB := Lib.hid (fun (w1 : World) (hb : Below w.heap.size w w1) => build_no z v l (hv.step hb) hl h)
  clear hv hl h
  go_enter Try.func5, Try.ntmps5
  go_wp2_with fail
  refine (lcomes_any _).mono ?_
  rintro e w1 ⟨rfl, k1⟩
  have K1 := Lib.hid k1
  go_wp2_with fail
  refine (HB.out _ k1).mono ?_
  rintro e w2 ⟨rfl, k2⟩
  have K2 := Lib.hid k2
  clear k1 k2
  go_wp2_with fail
  go_ret
  exact ⟨rfl, after K1.out K2.out⟩

set_option maxRecDepth 100000 in
set_option maxHeartbeats 8000000 in
theorem pathsY {w : World} (n : Nat) (hn : n ≤ 60) (v : Value) (l : List Eg) (hv : EgV w v l) (hin : ∀ e ∈ l, EgIn e) (hl : l.length ≤ 150) (z : Int) :
    Calls Try.prog 5 #[.int .i64 (n : Int), v, .int .i64 z] w fun e w' => e = .returned (.bool true) ∧ Below w.heap.size w w' := by
  have HB := Lib.hid (fun (w1 : World) (hb : Below w.heap.size w w1) => build_any n hn v l (hv.step hb) hin hl)
  have HN := Lib.hid hn
  clear hv hin hl hn
  go_enter Try.func5, Try.ntmps5
  go_wp2_with fail
  refine (lcomes_any _).mono ?_
  rintro e w1 ⟨rfl, k1⟩
  have K1 := Lib.hid k1
  go_wp2_with fail
  refine (HB.out _ k1).mono ?_
  rintro e w2 ⟨g, L, av, B, top, rfl, hai, hok, hL⟩
  clear HB k1
  have K2 := Lib.hid (after K1.out hai.bel)
  obtain ⟨S, hSg, hG⟩ := hai.graph
  subst hSg
  have HEV := Lib.hid (EgV.of_row hai.row.1)
  obtain ⟨ag, ac, rfl⟩ := own_any_shape hai.row.1
  have HG := Lib.hid hG
  have HOK := Lib.hid hok
  have HL := Lib.hid hL
  have HPA := Lib.hid (path_all hG (by have := HN.out; omega) (by omega) hok z)
  clear hai hok hL hG K1
  obtain ⟨nl, hnl⟩ : ∃ nl, nl = L.length := ⟨_, rfl⟩
  rw [← hnl] at HEV ⊢
  have HNL := Lib.hid hnl
  clear hnl
  go_wp2_with fail
  refine HPA.out.mono ?_
  rintro e w3 ⟨v3, p, rfl, hp, hwt, h3⟩
  have K3 := Lib.hid (after K2.out h3)
  have B23 := Lib.hid h3
  have HP := Lib.hid hp
  have WT := Lib.hid hwt
  have HFA := Lib.hid (far_any (HG.out.step h3) (by have := HN.out; omega) (by have := HL.out; omega) HOK.out)
  clear hp hwt h3 HPA
  go_wp2_with fail
  refine HFA.out.mono ?_
  rintro e w4 ⟨b4, s, rfl, -, hx4, hfo, h4⟩
  have K4 := Lib.hid (after K3.out h4)
  have B24 := Lib.hid (after B23.out h4)
  have HP4 := Lib.hid (HP.out.step h4)
  have X4 := Lib.hid hx4
  have DS : Hid (∀ y : Nat, y < n → Dist L opAll y (s.far y)) := Lib.hid (fun y hy => hfo.1.dist HOK.out hfo.2.1 y hy)
  have HRF := Lib.hid (rfar_any n (by have := HN.out; omega) L (by have := HL.out; omega) HOK.out (HEV.out.step B24.out))
  clear hx4 hfo h4 HFA HP B23 K3
  go_wp2_with fail
  refine HRF.out.mono ?_
  rintro e w5 ⟨b5, f, rfl, -, hx5, hdf, h5⟩
  have K5 := Lib.hid (after K4.out h5)
  have B25 := Lib.hid (after B24.out h5)
  have HP5 := Lib.hid (HP4.out.step h5)
  have Y4 := Lib.hid (X4.out.keep h5)
  have X5 := Lib.hid hx5
  have DF := Lib.hid hdf
  have EQ : Hid (∀ y, y < n → s.far y = f y) := Lib.hid (fun y hy => dist_eq (DS.out y hy) (hdf y hy))
  have HE5 := Lib.hid (HEV.out.step B25.out)
  clear hx5 hdf h5 HRF HP4 X4 DS B24 K4
  obtain ⟨pg, pc, rfl, hpx⟩ := HP5.out
  have HPX := Lib.hid hpx
  clear hpx
  obtain ⟨np, hnp⟩ : ∃ np, np = p.length := ⟨_, rfl⟩
  rw [← hnp] at HP5 ⊢
  have HNP := Lib.hid hnp
  clear hnp
  go_wp2_with fail
  go_loopg [38] n (fun gk iv wr => ∃ j : Nat, iv = .int .i64 (j : Int) ∧ j + gk = n ∧ Below w5.heap.size w5 wr)
  case atStart => exact ⟨0, rfl, by omega, Below.refl _ _⟩
  case round =>
    obtain ⟨j, rfl, hjk, hbel⟩ := hrel
    have BL := Lib.hid hbel
    clear hbel
    rename World => w6
    have Z4 := Lib.hid (Y4.out.keep BL.out)
    have Z5 := Lib.hid (X5.out.keep BL.out)
    cases gk with
    | succ gk =>
      have hjn : j < n := by omega
      have x3 := Z4.out.cell j
      have x4 := Z5.out.cell j
      rw [rowF_at _ hjn] at x3 x4
      rw [EQ.out j hjn] at x3
      have l3 := Z4.out.lt
      have l4 := Z5.out.lt
      generalize f j = q at x3 x4
      have i1 : (j : Int) < (n : Int) := by omega
      have i2 : (0 : Int) ≤ (j : Int) := by omega
      have hne : (q != q) = false := by simp
      have hne2 : ((n : Int) != (n : Int)) = false := by simp
      have hw1 : IntKind.i64.wrap ((j : Int) + 1) = (j : Int) + 1 := IntWalk.i64_in _ ⟨by omega, by have := HN.out; omega⟩
      go_wp2_with fail
      go_quiet (fail)
      go_wp2_with fail
      go_roundg gk
      case measure => omega
      case rel => exact ⟨j + 1, by push_cast; rfl, by omega, below_drewN BL.out _⟩
    | zero =>
      have d1 : decide ((j : Int) < (n : Int)) = false := decide_eq_false (by omega)
      have d2 : ¬ (j : Int) < (n : Int) := by omega
      have d3 : decide (j < n) = false := decide_eq_false (by omega)
      have d4 : ¬ j < n := by omega
      have K6 := Lib.hid (after K5.out BL.out)
      by_cases hz : 0 ≤ z ∧ z < n
      · obtain ⟨y, rfl⟩ : ∃ y : Nat, z = (y : Int) := ⟨z.toNat, by omega⟩
        have hyn : y < n := by omega
        have x5 := Z5.out.cell y
        rw [rowF_at _ hyn] at x5
        have l5 := Z5.out.lt
        have i5 : ¬ (y : Int) < 0 := by omega
        have i6 : ¬ (n : Int) ≤ (y : Int) := by omega
        have i7 : (y : Int) < (n : Int) := by omega
        have W2 := WT.out.2.2 hz (f y) (DF.out y hyn)
        have FGE : f y = -1 ∨ 1 ≤ f y := by
          rcases DF.out y hyn with g | g
          · exact .inl g.1
          · exact .inr g.1
        rcases FGE with q | q
        · have hp0 : p = [] := W2.1 q
          have hnp0 : np = 0 := by rw [HNP.out, hp0]; rfl
          rw [q] at x5
          subst hnp0
          clear W2 q hp0
          go_wp2_with fail
          go_ret
          exact ⟨by first | rfl | simp, K6.out⟩
        · obtain ⟨c1, c2, c3⟩ := W2.2 (by omega)
          have C1 := Lib.hid c1
          have C2 := Lib.hid c2
          have C3 : Hid (f y = (np : Int)) := Lib.hid (by rw [HNP.out]; exact c3.symm)
          have i8 : ¬ f y < 0 := by omega
          rw [C3.out] at x5 i8
          clear W2 c1 c2 c3 q
          go_wp2_with fail
          go_loopg [14, 76] np (fun gk av iv wr => ∃ j : Nat, ∃ a : Int, av = .int .i64 a ∧ iv = .int .i64 (j : Int) ∧ j + gk = np ∧ Chain a (p.drop j) y ∧ Below w6.heap.size w6 wr)
          case atStart => exact ⟨0, -1, rfl, rfl, by omega, C1.out, Below.refl _ _⟩
          case round =>
            clear C1
            obtain ⟨j, a, rfl, rfl, hjk, hch, hbel⟩ := hrel
            have BY := Lib.hid hbel
            have CH := Lib.hid hch
            clear hbel hch
            rename World => w7
            cases gk with
            | zero =>
              have d1 : decide ((j : Int) < (np : Int)) = false := decide_eq_false (by omega)
              have d2 : ¬ (j : Int) < (np : Int) := by omega
              have d3 : decide (j < np) = false := decide_eq_false (by omega)
              have d4 : ¬ j < np := by omega
              have hay : a = (y : Int) := by
                have := CH.out
                rw [show j = p.length by rw [← HNP.out]; omega, List.drop_length] at this
                exact this
              subst hay
              have x5 := (Z5.out.keep BY.out).cell y
              rw [rowF_at _ hyn, C3.out] at x5
              have l5 := (Z5.out.keep BY.out).lt
              go_wp2_with fail
              go_ret
              exact ⟨by first | rfl | simp, after K6.out BY.out⟩
            | succ gk =>
              have hjl : j < p.length := by rw [← HNP.out]; omega
              obtain ⟨g1, o1, rfl, hg1, e0, e1, e2, e3⟩ := HPX.out j hjl
              have B67 := Lib.hid (after BL.out BY.out)
              have e0 := keep B67.out hg1 e0
              have e1 := keep B67.out hg1 e1
              have e2 := keep B67.out hg1 e2
              have e3 := keep B67.out hg1 e3
              have hg1 := Nat.lt_of_lt_of_le hg1 B67.out.size
              have hch := CH.out
              rw [List.drop_eq_getElem_cons hjl] at hch
              obtain ⟨ha, hch⟩ := hch
              have CH2 := Lib.hid hch
              have HMEM := Lib.hid (C2.out _ (List.getElem_mem hjl))
              generalize p[j] = e at *
              subst ha
              have j1 : (j : Int) < (np : Int) := by omega
              have j2 : j < np := by omega
              have hw1 : IntKind.i64.wrap ((j : Int) + 1) = (j : Int) + 1 := IntWalk.i64_in _ ⟨by omega, by have := HNP.out; have := WT.out.1; omega⟩
              clear hch CH
              go_upto_region 19 with fail
              have BX := Lib.hid (after BY.out (show Below w7.heap.size w7 (w7.alloc (.cells #[.int .i64 e.1, .int .i64 e.2.1, .int .i64 e.2.2.1, .int .i64 e.2.2.2] 29)) by repeat (first | exact Below.refl _ _ | apply Below.setCell _ (by first | omega | (simp <;> omega)) | apply Below.alloc _ (by first | omega | (simp <;> omega)))))
              have X9 : Hid (Bx 29 (w7.alloc (.cells #[.int .i64 e.1, .int .i64 e.2.1, .int .i64 e.2.2.1, .int .i64 e.2.2.2] 29)) w7.heap.size (egC e)) := Lib.hid (Bx.new 29 w7 (egC e).toArray)
              generalize w7.alloc (.cells #[.int .i64 e.1, .int .i64 e.2.1, .int .i64 e.2.2.1, .int .i64 e.2.2.2] 29) = wx at *
              obtain ⟨t9, h9⟩ : ∃ t9, t9 = w7.heap.size := ⟨_, rfl⟩
              rw [← h9] at X9 ⊢
              clear e0 e1 e2 e3 hg1 h9
              obtain ⟨x0, x1, x2, x3, xl, xf⟩ := X9.out.four
              have HI := Lib.hid (in_any (HE5.out.step (after BL.out BX.out)) (by have := HL.out; omega) e)
              rw [decide_eq_true HMEM.out] at HI
              have hne : (e.1 != e.1) = false := by simp
              go_wp2_with fail
              refine HI.out.mono ?_
              rintro x w8 ⟨rfl, h8⟩
              have B8 := Lib.hid (after BX.out h8)
              have X8 := Lib.hid (X9.out.keep h8)
              clear x0 x1 x2 x3 xl xf h8 HI
              obtain ⟨x0, x1, x2, x3, xl, xf⟩ := X8.out.four
              go_wp2_with fail
              go_roundg gk
              case measure => omega
              case rel => exact ⟨j + 1, e.2.1, rfl, by push_cast; rfl, by omega, CH2.out, B8.out⟩
      · have hp0 : p = [] := WT.out.2.1 hz
        have hnp0 : np = 0 := by rw [HNP.out, hp0]; rfl
        subst hnp0
        clear hp0
        by_cases q : z < 0
        · clear hz
          go_wp2_with fail
          go_ret
          exact ⟨by first | rfl | simp, K6.out⟩
        · have i5 : (n : Int) ≤ z := by omega
          clear hz
          go_wp2_with fail
          go_ret
          exact ⟨by first | rfl | simp, K6.out⟩
end Go.Proofs.Ytkhgpflpbdakoaa
