/- GraphShut: the walk. -/
import Derived.Test.YtkhgpflpbdakoaaGrLe
namespace Go.Proofs.Ytkhgpflpbdakoaa
open Go Go.RowKit
set_option linter.unusedVariables false
set_option linter.unusedSimpArgs false

theorem filter_take_succ {L : List Eg} {P : Eg → Bool} {j : Nat} (hj : j < L.length) : (L.take (j + 1)).filter P = (L.take j).filter P ++ (if P L[j] then [L[j]] else []) := by
  rw [List.take_succ_eq_append_getElem hj, List.filter_append]
  cases h : P L[j] <;> simp [h]
theorem filter_at {L : List Eg} {P : Eg → Bool} {j : Nat} (hj : j < L.length) (h : P L[j] = true) : ∃ hk : ((L.take j).filter P).length < (L.filter P).length, (L.filter P)[((L.take j).filter P).length]'hk = L[j] := by
  have e : L.filter P = (L.take j).filter P ++ (L[j] :: (L.drop (j + 1)).filter P) := by
    conv => lhs; rw [← List.take_append_drop j L, List.filter_append, List.drop_eq_getElem_cons hj]
    rw [List.filter_cons_of_pos h]
  have hk : ((L.take j).filter P).length < (L.filter P).length := by rw [e]; simp
  refine ⟨hk, ?_⟩
  rw [List.getElem_of_eq e]
  simp

theorem neR (x y : Eg) (w : World) : Sem.run Try.prog (binOp BinOp.neq 41 (.agg #[.int .i64 x.1, .int .i64 x.2.1, .int .i64 x.2.2.1, .int .i64 x.2.2.2]) (.agg #[.int .i64 y.1, .int .i64 y.2.1, .int .i64 y.2.2.1, .int .i64 y.2.2.2])) w = .ok (.bool (!decide (x = y))) w := by
  obtain ⟨x1, x2, x3, x4⟩ := x
  obtain ⟨y1, y2, y3, y4⟩ := y
  go_simp
  by_cases h1 : x1 = y1
  · by_cases h2 : x2 = y2
    · by_cases h3 : x3 = y3
      · by_cases h4 : x4 = y4
        · simp [h1, h2, h3, h4]
        · simp [h1, h2, h3, h4]
      · simp [h1, h2, h3]
    · simp [h1, h2]
  · simp [h1]
open Classical in

theorem shutN {w : World} (z : Int) (v : Value) (l : List Eg) (hv : EgV w v l) (hl : l.length ≤ 9223372036854775807) (h : z < 0 ∨ 60 < z ∨ 150 < l.length) (sv : Value) :
    Calls Try.prog 6 #[.int .i64 z, v, sv] w fun e w' => e = .returned (.bool true) ∧ Below w.heap.size w w' := by
  have HB := Lib.hid (fun (w1 : World) (hb : Below w.heap.size w w1) => build_no z v l (hv.step hb) hl h)
  clear hv hl h
  go_enter Try.func6, Try.ntmps6
  go_wp2_with fail
  refine (lcomes_any _).mono ?_
  rintro e w1 ⟨rfl, k1⟩
  have K1 := Lib.hid k1
  go_wp2_with fail
  refine (HB.out _ k1).mono ?_
  rintro e w2 ⟨rfl, k2⟩
  have K2 := Lib.hid k2
  clear k1 k2
  go_wp2_with fail
  go_ret
  exact ⟨rfl, after K1.out K2.out⟩

set_option maxRecDepth 100000 in
set_option maxHeartbeats 8000000 in
theorem shutM {w : World} (n : Nat) (hn : n ≤ 60) (v : Value) (l : List Eg) (hv : EgV w v l) (hin : ∀ e ∈ l, EgIn e) (hl : l.length ≤ 150) (sg : Option Addr) (sc m : Nat) (hm : 40 < m) (hm2 : m ≤ 9223372036854775807) :
    Calls Try.prog 6 #[.int .i64 (n : Int), v, .slice sg m sc] w fun e w' => e = .returned (.bool true) ∧ Below w.heap.size w w' := by
  have HB := Lib.hid (fun (w1 : World) (hb : Below w.heap.size w w1) => build_any n hn v l (hv.step hb) hin hl)
  have i1 : (40 : Int) < (m : Int) := by omega
  clear hv hin hl hn hm
  go_enter Try.func6, Try.ntmps6
  go_wp2_with fail
  refine (lcomes_any _).mono ?_
  rintro e w1 ⟨rfl, k1⟩
  have K1 := Lib.hid k1
  go_wp2_with fail
  refine (HB.out _ k1).mono ?_
  rintro e w2 ⟨g, L, av, B, top, rfl, hai, hok, hL⟩
  have K2 := Lib.hid (after K1.out hai.bel)
  clear HB k1 hai hok hL
  go_wp2_with fail
  go_ret
  exact ⟨rfl, K2.out⟩

set_option maxRecDepth 100000 in
set_option maxHeartbeats 8000000 in
theorem shutY {w : World} (n : Nat) (hn : n ≤ 60) (v : Value) (l : List Eg) (hv : EgV w v l) (hin : ∀ e ∈ l, EgIn e) (hl : l.length ≤ 150) (sv : Value) (sh : List Int) (hs : InV w sv sh) (hm : sh.length ≤ 40) :
    Calls Try.prog 6 #[.int .i64 (n : Int), v, sv] w fun e w' => e = .returned (.bool true) ∧ Below w.heap.size w w' := by
  have HB := Lib.hid (fun (w1 : World) (hb : Below w.heap.size w w1) => build_any n hn v l (hv.step hb) hin hl)
  have HS := Lib.hid hs
  have HN := Lib.hid hn
  have HMM := Lib.hid hm
  obtain ⟨sg, sc, rfl, hsx⟩ := hs
  have HSX := Lib.hid hsx
  obtain ⟨m, hmm⟩ : ∃ m, m = sh.length := ⟨_, rfl⟩
  rw [← hmm] at HS ⊢
  have HM := Lib.hid hmm
  have i1 : ¬ (40 : Int) < (m : Int) := by omega
  clear hv hin hl hn hsx hm hmm
  go_enter Try.func6, Try.ntmps6
  go_wp2_with fail
  refine (lcomes_any _).mono ?_
  rintro e w1 ⟨rfl, k1⟩
  have K1 := Lib.hid k1
  go_wp2_with fail
  refine (HB.out _ k1).mono ?_
  rintro e w2 ⟨g, L, av, B, top, rfl, hai, hok, hL⟩
  clear HB k1
  have K2 := Lib.hid (after K1.out hai.bel)
  obtain ⟨S, hSg, hG⟩ := hai.graph
  subst hSg
  have HEV := Lib.hid (EgV.of_row hai.row.1)
  obtain ⟨ag, ac, rfl⟩ := own_any_shape hai.row.1
  have HG := Lib.hid hG
  have HOK := Lib.hid hok
  have HL := Lib.hid hL
  have HSV := Lib.hid (shut_any hG (by have := HN.out; omega) (by omega) hok (HS.out.step K2.out) (by have := HMM.out; omega))
  clear hai hok hL hG K1
  obtain ⟨nl, hnl⟩ : ∃ nl, nl = L.length := ⟨_, rfl⟩
  rw [← hnl] at HEV ⊢
  have HNL := Lib.hid hnl
  clear hnl
  go_wp2_with fail
  refine HSV.out.mono ?_
  rintro e w3 ⟨v3, v4, s, rfl, hv3, hfo, hcut, h3⟩
  have FL := Lib.hid (found_least HOK.out hfo)
  have HRS := Lib.hid (rsolve_any n (by have := HN.out; omega) L (by have := HL.out; omega) HOK.out (HEV.out.step h3) ((HS.out.step K2.out).step h3) (by have := HMM.out; omega))
  have V3 := Lib.hid hv3.bl
  have K3 := Lib.hid (after K2.out h3)
  have B23 := Lib.hid h3
  have CUT := Lib.hid hcut
  clear hv3 hfo h3 HSV hcut
  go_wp2_with fail
  refine HRS.out.mono ?_
  rintro e w4 ⟨v5, G4, rfl, hv4, hle, h4⟩
  have K4 := Lib.hid (after K3.out h4)
  have B24 := Lib.hid (after B23.out h4)
  have V34 := Lib.hid (V3.out.step h4)
  have V4 := Lib.hid hv4.bl
  have EQ : Hid (∀ z, z < n → (s.far z != -1) = G4 z) := Lib.hid (fun z hz => least_eq FL.out hle hz)
  obtain ⟨g3, c3, rfl, hx3⟩ := V34.out
  have X3 : Hid (BlAt w4 g3 n (fun z => s.far z != -1)) := Lib.hid hx3
  obtain ⟨g4, c4, rfl, hx4⟩ := V4.out
  have X4 : Hid (BlAt w4 g4 n G4) := Lib.hid hx4
  have HEV4 := Lib.hid (HEV.out.step B24.out)
  have CUT4 := Lib.hid (CUT.out.step h4)
  clear hv4 hle h4 HRS hx3 hx4 V3 B23 V34 V4 CUT FL HEV
  obtain ⟨P, hP⟩ : ∃ P : Eg → Bool, P = cutsP sh (fun z => s.far z != -1) := ⟨_, rfl⟩
  rw [← hP] at CUT4
  have HP := Lib.hid hP
  clear hP
  obtain ⟨g5, c5, rfl, hx5⟩ := CUT4.out
  have X5 := Lib.hid hx5
  clear hx5
  obtain ⟨nc, hnc⟩ : ∃ nc, nc = (L.filter P).length := ⟨_, rfl⟩
  rw [← hnc] at CUT4 ⊢
  have HNC := Lib.hid hnc
  clear hnc
  have HSX4 : Hid (∀ j (hj : j < sh.length), ∃ g off, sg = some ⟨g, off, none⟩ ∧ g < w4.heap.size ∧ w4.cell? ⟨g, off + j, none⟩ = some (.int .i64 sh[j])) := Lib.hid fun j hj => by
    obtain ⟨g, off, q1, q2, q3⟩ := HSX.out j hj
    exact ⟨g, off, q1, Nat.lt_of_lt_of_le q2 K4.out.size, keep K4.out q2 q3⟩
  clear HSX HS
  go_wp2_with fail
  go_loopg [52] n (fun gk iv wr => ∃ j : Nat, iv = .int .i64 (j : Int) ∧ j + gk = n ∧ Below w4.heap.size w4 wr)
  case atStart => exact ⟨0, rfl, by omega, Below.refl _ _⟩
  case round =>
    obtain ⟨j, rfl, hjk, hbel⟩ := hrel
    have BL := Lib.hid hbel
    clear hbel
    rename World => w7
    cases gk with
    | succ gk =>
      have hjn : j < n := by omega
      obtain ⟨b3, o3, rfl, hb3, x3⟩ := (X3.out.step BL.out) j hjn
      obtain ⟨b4, o4, rfl, hb4, x4⟩ := (X4.out.step BL.out) j hjn
      simp only [EQ.out j hjn] at x3
      generalize G4 j = q at x3 x4
      have i1 : (j : Int) < (n : Int) := by omega
      have i2 : (0 : Int) ≤ (j : Int) := by omega
      have hne : (q != q) = false := by simp
      have hw1 : IntKind.i64.wrap ((j : Int) + 1) = (j : Int) + 1 := IntWalk.i64_in _ ⟨by omega, by have := HN.out; omega⟩
      go_wp2_with fail
      go_quiet (fail)
      go_wp2_with fail
      go_roundg gk
      case measure => omega
      case rel => exact ⟨j + 1, by push_cast; rfl, by omega, below_drewN BL.out _⟩
    | zero =>
      have d1 : decide ((j : Int) < (n : Int)) = false := decide_eq_false (by omega)
      have d2 : ¬ (j : Int) < (n : Int) := by omega
      have d3 : decide (j < n) = false := decide_eq_false (by omega)
      have d4 : ¬ j < n := by omega
      have B7 := Lib.hid BL.out
      clear BL
      go_wp2_with fail
      go_loopg [14, 67] nl (fun gk kv iv wr => ∃ j : Nat, iv = .int .i64 (j : Int) ∧ j + gk = nl ∧ kv = .int .i64 (((L.take j).filter P).length : Int) ∧ Below w4.heap.size w4 wr)
      case atStart => exact ⟨0, rfl, by omega, rfl, B7.out⟩
      case round =>
        obtain ⟨j, rfl, hjk, rfl, hbel⟩ := hrel
        have BL := Lib.hid hbel
        clear hbel
        rename World => w8
        cases gk with
        | zero =>
          have d1 : decide ((j : Int) < (nl : Int)) = false := decide_eq_false (by omega)
          have d2 : ¬ (j : Int) < (nl : Int) := by omega
          have d3 : decide (j < nl) = false := decide_eq_false (by omega)
          have d4 : ¬ j < nl := by omega
          rw [show ((L.take j).filter P).length = nc by rw [show j = L.length by rw [← HNL.out]; omega, List.take_length, HNC.out]]
          have i5 : ((nc : Int) == (nc : Int)) = true := by simp
          go_wp2_with fail
          go_ret
          exact ⟨by first | rfl | simp, after K4.out BL.out⟩
        | succ gko =>
          have hjl : j < L.length := by rw [← HNL.out]; omega
          obtain ⟨ag', acap, hav, hac⟩ := (HEV4.out.step BL.out)
          simp only [Value.slice.injEq] at hav
          obtain ⟨hag, -, -⟩ := hav
          subst hag
          obtain ⟨vg, off, rfl, hvg, e0, e1, e2, e3⟩ := hac j hjl
          clear hac
          have HFT := Lib.hid (filter_take_succ (P := P) hjl)
          have HFA := Lib.hid (fun hp => filter_at (P := P) hjl hp)
          have HE := Lib.hid (HOK.out _ (List.getElem_mem hjl))
          have hkl : Hid (((L.take j).filter P).length ≤ 150) := Lib.hid (by
            have := List.length_filter_le P (L.take j)
            rw [List.length_take] at this
            have := HL.out
            omega)
          generalize L[j] = e at *
          obtain ⟨k, hk⟩ : ∃ k, k = ((L.take j).filter P).length := ⟨_, rfl⟩
          rw [← hk] at HFA hkl ⊢
          have HK := Lib.hid hk
          clear hk
          have HPE : Hid (P e = (shutF sh e.2.1.toNat && comesP (fun z => s.far z != -1) e)) := Lib.hid (by rw [HP.out]; rfl)
          have j1 : (j : Int) < (nl : Int) := by omega
          have j2 : j < nl := by omega
          have hw1 : IntKind.i64.wrap ((j : Int) + 1) = (j : Int) + 1 := IntWalk.i64_in _ ⟨by omega, by have := HNL.out; have := HL.out; omega⟩
          go_upto_region 20 with fail
          have BX := Lib.hid (after BL.out (show Below w8.heap.size w8 (w8.alloc (.cells #[.int .i64 e.1, .int .i64 e.2.1, .int .i64 e.2.2.1, .int .i64 e.2.2.2] 41)) by repeat (first | exact Below.refl _ _ | apply Below.setCell _ (by first | omega | (simp <;> omega)) | apply Below.alloc _ (by first | omega | (simp <;> omega)))))
          have X9 : Hid (Bx 41 (w8.alloc (.cells #[.int .i64 e.1, .int .i64 e.2.1, .int .i64 e.2.2.1, .int .i64 e.2.2.2] 41)) w8.heap.size (egC e)) := Lib.hid (Bx.new 41 w8 (egC e).toArray)
          generalize w8.alloc (.cells #[.int .i64 e.1, .int .i64 e.2.1, .int .i64 e.2.2.1, .int .i64 e.2.2.2] 41) = wx at *
          obtain ⟨t9, h9⟩ : ∃ t9, t9 = w8.heap.size := ⟨_, rfl⟩
          rw [← h9] at X9 ⊢
          clear e0 e1 e2 e3 hvg h9
          go_wp2_with fail
          go_loopg [17, 73] m (fun gj sv iv wy => ∃ i : Nat, iv = .int .i64 (i : Int) ∧ i + gj = m ∧ sv = .bool (shutF (sh.take i) e.2.1.toNat) ∧ Below wx.heap.size wx wy)
          case atStart => exact ⟨0, rfl, by omega, rfl, Below.refl _ _⟩
          case round =>
            obtain ⟨i, rfl, hik, rfl, hby⟩ := hrel
            rename World => wy
            have BY := Lib.hid hby
            have BYX := Lib.hid (after BX.out hby)
            have X9y := Lib.hid (X9.out.keep hby)
            obtain ⟨x0, x1, x2, x3, xl, xf⟩ := X9y.out.four
            clear hby
            cases gk with
            | succ gj =>
              have hil : i < sh.length := by rw [← HM.out]; omega
              obtain ⟨b6, o6, rfl, hb6, y6⟩ := HSX4.out i hil
              have y6 := keep BYX.out hb6 y6
              have hb6 := Nat.lt_of_lt_of_le hb6 BYX.out.size
              have hst := shutF_take hil e.2.1.toNat
              have HST : Hid (shutF (sh.take (i + 1)) e.2.1.toNat = (shutF (sh.take i) e.2.1.toNat || sh[i] == e.2.1)) := Lib.hid (by rw [hst, Int.toNat_of_nonneg HE.out.2.1])
              clear hst
              have i1 : (i : Int) < (m : Int) := by omega
              have i2 : i < m := by omega
              have hw2 : IntKind.i64.wrap ((i : Int) + 1) = (i : Int) + 1 := IntWalk.i64_in _ ⟨by omega, by have := HM.out; have := HMM.out; omega⟩
              generalize shutF (sh.take i) e.2.1.toNat = q at *
              generalize sh[i] = y at *
              cases q with
              | true =>
                go_wp2_with fail
                go_roundg gj
                case measure => omega
                case rel => exact ⟨i + 1, by push_cast; rfl, by omega, (by rw [HST.out]; rfl), BY.out⟩
              | false =>
                by_cases p : y = e.2.1
                · have i3 : (y == e.2.1) = true := by simpa using p
                  go_wp2_with fail
                  go_roundg gj
                  case measure => omega
                  case rel => exact ⟨i + 1, by push_cast; rfl, by omega, (by rw [HST.out]; simp [p]), BY.out⟩
                · have i3 : (y == e.2.1) = false := by simpa using p
                  go_wp2_with fail
                  go_roundg gj
                  case measure => omega
                  case rel => exact ⟨i + 1, by push_cast; rfl, by omega, (by rw [HST.out, i3]; rfl), BY.out⟩
            | zero =>
              have d1 : decide ((i : Int) < (m : Int)) = false := decide_eq_false (by omega)
              have d2 : ¬ (i : Int) < (m : Int) := by omega
              have d3 : decide (i < m) = false := decide_eq_false (by omega)
              have d4 : ¬ i < m := by omega
              rw [show shutF (sh.take i) e.2.1.toNat = shutF sh e.2.1.toNat by rw [show i = sh.length by rw [← HM.out]; omega, List.take_length]]
              generalize shutF sh e.2.1.toNat = q at *
              go_upto_region 26 with fail
              go_cut [99] from 85 to 99 (fun s99 wz => s99 = .bool (!P e) ∧ wz = wy)
              case first =>
                cases q with
                | false =>
                  go_wp2_with fail
                  go_meet
                  exact ⟨by rw [HPE.out]; rfl, rfl⟩
                | true =>
                  by_cases p1 : e.1 = -1
                  · have hcm : comesP (fun z => s.far z != -1) e = true := by unfold comesP; rw [p1]; rfl
                    rw [p1] at x0
                    clear p1
                    go_wp2_with fail
                    go_meet
                    exact ⟨by rw [HPE.out, hcm]; rfl, rfl⟩
                  · have i7 : (e.1 == -1) = false := by simpa using p1
                    have hfr := (HE.out.1).resolve_left p1
                    have i8 : (0 : Int) ≤ e.1 := by omega
                    have i9 : e.1 < (n : Int) := by omega
                    have hcm : comesP (fun z => s.far z != -1) e = G4 e.1.toNat := by unfold comesP; rw [i7, Bool.false_or]; exact EQ.out _ (by omega)
                    obtain ⟨b6, o6, rfl, hb6, y6⟩ := (X4.out.step BYX.out) e.1.toNat (by omega)
                    generalize G4 e.1.toNat = f1 at *
                    cases f1 with
                    | false =>
                      go_wp2_with fail
                      go_meet
                      exact ⟨by rw [HPE.out, hcm]; rfl, rfl⟩
                    | true =>
                      go_wp2_with fail
                      go_meet
                      exact ⟨by rw [HPE.out, hcm]; rfl, rfl⟩
              case rest =>
                obtain ⟨rfl, hw⟩ := hcut
                replace hw := hw.symm
                subst hw
                cases hp : P e with
                | false =>
                  go_wp2_with fail
                  go_roundg gko
                  case measure => omega
                  case rel => exact ⟨j + 1, by push_cast; rfl, by omega, (by rw [HFT.out, HK.out]; simp [hp]), BYX.out⟩
                | true =>
                  obtain ⟨hk, hget⟩ := HFA.out hp
                  obtain ⟨ag5, acap5, hav, hac⟩ := (CUT4.out.step BYX.out)
                  simp only [Value.slice.injEq] at hav
                  obtain ⟨hag, -, -⟩ := hav
                  subst hag
                  obtain ⟨b5, o5, rfl, hb5, c0, c1, c2, c3⟩ := hac k hk
                  rw [hget] at c0 c1 c2 c3
                  clear hac hget
                  have k1 : (k : Int) < (nc : Int) := by have := HNC.out; omega
                  have k2 : (0 : Int) ≤ (k : Int) := by omega
                  have k3 : k < nc := by omega
                  have k4 : ¬ (nc : Int) ≤ (k : Int) := by omega
                  have hne := neR e e
                  rw [show (!decide (e = e)) = false by simp] at hne
                  have hw2 : IntKind.i64.wrap ((k : Int) + 1) = (k : Int) + 1 := IntWalk.i64_in _ ⟨by omega, by have := hkl.out; omega⟩
                  go_wp2_with fail
                  go_quiet (fail)
                  go_wp2_with fail
                  go_roundg gko
                  case measure => omega
                  case rel => exact ⟨j + 1, by push_cast; rfl, by omega, (by rw [HFT.out]; simp [hp, ← HK.out]), below_drewN BYX.out _⟩
end Go.Proofs.Ytkhgpflpbdakoaa
