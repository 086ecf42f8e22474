/- GraphLeast: the walk. -/
import Derived.Test.YtkhgpflpbdakoaaGrBd
import Derived.Test.YtkhgpflpbdakoaaGrRt
namespace Go.Proofs.Ytkhgpflpbdakoaa
open Go Go.RowKit
set_option linter.unusedVariables false
set_option linter.unusedSimpArgs false

theorem opShut_nil (L : List Eg) : opShut L [] = opAll := by funext i; unfold opShut shutF opAll; simp
theorem closed_right {L : List Eg} {F : Nat → Bool} : rightP L F = true ↔ ∀ i, i < L.length → shutE L opAll F i := by
  unfold rightP
  rw [List.all_eq_true]
  constructor
  · intro h i hi _ hc
    have := h _ (List.getElem_mem hi)
    rw [comes_fe hi] at hc
    rw [hc] at this
    rw [eto_eq hi]
    simpa using this
  · intro h e he
    obtain ⟨i, hi, rfl⟩ := List.getElem_of_mem he
    have := h i hi rfl
    rw [comes_fe hi, eto_eq hi] at this
    cases hc : comesP F L[i] with
    | false => rfl
    | true => rw [this hc]; rfl
theorem right_least {L : List Eg} {n : Nat} {F : Nat → Bool} (hok : ∀ e ∈ L, okE' n e) (h : leastP L opAll n F) : rightP L F = true := by
  rw [closed_right]
  intro i hi _ hc
  have hto := (hok _ (List.getElem_mem hi)).2
  rw [comes_fe hi] at hc
  have hw : ∃ k, Way L opAll k (efr L i) := by
    rw [efr_eq hi]
    unfold comesP at hc
    rw [Bool.or_eq_true] at hc
    by_cases q2 : L[i].1 = -1
    · rw [q2]; exact ⟨0, Way.start⟩
    · obtain ⟨h1, h2⟩ := (hok _ (List.getElem_mem hi)).1.resolve_left q2
      rcases hc with hc | hc
      · exact absurd (by simpa using hc) q2
      · have := (h L[i].1.toNat (by omega)).1 hc
        rwa [Int.toNat_of_nonneg h1] at this
  obtain ⟨k, hk⟩ := hw
  have := Way.go hk hi rfl
  rw [eto_eq hi] at this ⊢
  refine (h L[i].2.1.toNat (by omega)).2 ⟨k + 1, ?_⟩
  rw [Int.toNat_of_nonneg hto.1]
  exact this
theorem least_right {L : List Eg} {n : Nat} {F G : Nat → Bool} (hok : ∀ e ∈ L, okE' n e) (hr : rightP L F = true) (h : leastP L opAll n G) {z : Nat} (hz : z < n) (hg : G z = true) : F z = true := by
  obtain ⟨k, hk⟩ := (h z hz).1 hg
  rcases holds_all hok (closed_right.1 hr) k z hk with q | q
  · omega
  · rwa [Int.toNat_natCast] at q
theorem right_take {L : List Eg} {F : Nat → Bool} {j : Nat} (hj : j < L.length) : rightP (L.take (j + 1)) F = (rightP (L.take j) F && !(comesP F L[j] && !F L[j].2.1.toNat)) := by
  unfold rightP
  rw [List.take_succ_eq_append_getElem hj, List.all_append]
  simp

/-- where yes and no lie -/
def BlAt (w : World) (g : Option Addr) (n : Nat) (F : Nat → Bool) : Prop := ∀ j, j < n → ∃ b off, g = some ⟨b, off, none⟩ ∧ b < w.heap.size ∧ w.cell? ⟨b, off + j, none⟩ = some (.bool (F j))
theorem BlAt.step {w w' : World} {g : Option Addr} {n : Nat} {F : Nat → Bool} (h : BlAt w g n F) (hb : Below w.heap.size w w') : BlAt w' g n F := fun j hj => by
  obtain ⟨b, off, h1, h2, h3⟩ := h j hj
  exact ⟨b, off, h1, Nat.lt_of_lt_of_le h2 hb.size, keep hb h2 h3⟩
theorem BlAt.bl {w : World} {g : Option Addr} {n : Nat} {F : Nat → Bool} (h : BlAt w g n F) (c : Nat) : BlV w (.slice g n c) n F := ⟨g, c, rfl, h⟩

theorem leastN {w : World} (z : Int) (v : Value) (l : List Eg) (hv : EgV w v l) (hl : l.length ≤ 9223372036854775807) (h : z < 0 ∨ 60 < z ∨ 150 < l.length) (sv : Value) :
    Calls Try.prog 4 #[.int .i64 z, v, sv] w fun e w' => e = .returned (.bool true) ∧ Below w.heap.size w w' := by
  have HB := Lib.hid (fun (w1 : World) (hb : Below w.heap.size w w1) => build_no z v l (hv.step hb) hl h)
  clear hv hl h
  go_enter Try.func4, Try.ntmps4
  go_wp2_with fail
  refine (lcomes_any _).mono ?_
  rintro e w1 ⟨rfl, k1⟩
  have K1 := Lib.hid k1
  go_wp2_with fail
  refine (HB.out _ k1).mono ?_
  rintro e w2 ⟨rfl, k2⟩
  have K2 := Lib.hid k2
  clear k1 k2
  go_wp2_with fail
  go_ret
  exact ⟨rfl, after K1.out K2.out⟩

set_option maxRecDepth 100000 in
set_option maxHeartbeats 8000000 in
theorem leastY {w : World} (n : Nat) (hn : n ≤ 60) (v : Value) (l : List Eg) (hv : EgV w v l) (hin : ∀ e ∈ l, EgIn e) (hl : l.length ≤ 150) (sv : Value) (m : Nat) (F : Nat → Bool) (hs : BlV w sv m F) (hm : m ≤ 9223372036854775807) :
    Calls Try.prog 4 #[.int .i64 (n : Int), v, sv] w fun e w' => e = .returned (.bool true) ∧ Below w.heap.size w w' := by
  have HB := Lib.hid (fun (w1 : World) (hb : Below w.heap.size w w1) => build_any n hn v l (hv.step hb) hin hl)
  have HS := Lib.hid hs
  have HN := Lib.hid hn
  have HMM := Lib.hid hm
  obtain ⟨sg, sc, rfl, hsx⟩ := hs
  have HSX := Lib.hid hsx
  clear hv hin hl hn hsx hm
  go_enter Try.func4, Try.ntmps4
  go_wp2_with fail
  refine (lcomes_any _).mono ?_
  rintro e w1 ⟨rfl, k1⟩
  have K1 := Lib.hid k1
  go_wp2_with fail
  refine (HB.out _ k1).mono ?_
  rintro e w2 ⟨g, L, av, B, top, rfl, hai, hok, hL⟩
  clear HB k1
  have K2 := Lib.hid (after K1.out hai.bel)
  obtain ⟨S, hSg, hG⟩ := hai.graph
  subst hSg
  have HEV := Lib.hid (EgV.of_row hai.row.1)
  obtain ⟨ag, ac, rfl⟩ := own_any_shape hai.row.1
  have HG := Lib.hid hG
  have HOK := Lib.hid hok
  have HL := Lib.hid hL
  have HSV := Lib.hid (solve_any hG (by have := HN.out; omega) (by omega) hok)
  clear hai hok hL hG K1
  obtain ⟨nl, hnl⟩ : ∃ nl, nl = L.length := ⟨_, rfl⟩
  rw [← hnl] at HEV ⊢
  have HNL := Lib.hid hnl
  clear hnl
  go_wp2_with fail
  refine HSV.out.mono ?_
  rintro e w3 ⟨v3, s, rfl, hv3, hfo, h3⟩
  have FL := Lib.hid (found_least HOK.out hfo)
  have HRS := Lib.hid (rsolve_any n (by have := HN.out; omega) L (by have := HL.out; omega) HOK.out (HEV.out.step h3) (sv := .slice none 0 0) (l := []) ⟨none, 0, rfl, fun j hj => absurd hj (by simp)⟩ (by simp))
  rw [opShut_nil] at HRS
  have V3 := Lib.hid hv3.bl
  have K3 := Lib.hid (after K2.out h3)
  have B23 := Lib.hid h3
  clear hv3 hfo h3 HSV
  go_wp2_with fail
  refine HRS.out.mono ?_
  rintro e w4 ⟨v4, G4, rfl, hv4, hle, h4⟩
  have K4 := Lib.hid (after K3.out h4)
  have B24 := Lib.hid (after B23.out h4)
  have V34 := Lib.hid (V3.out.step h4)
  have V4 := Lib.hid hv4.bl
  have LE := Lib.hid hle
  have HR1 := Lib.hid (right_any (HG.out.step B24.out) (by have := HN.out; omega) (by have := HL.out; omega) HOK.out (V3.out.step h4))
  rw [right_least HOK.out FL.out] at HR1
  obtain ⟨g3, c3, rfl, hx3⟩ := V34.out
  have X3 := Lib.hid hx3
  obtain ⟨g4, c4, rfl, hx4⟩ := V4.out
  have X4 := Lib.hid hx4
  clear hv4 hle h4 HRS hx3 hx4 V3 B23
  go_upto_region 7 with fail
  go_cut [54] from 33 to 54 (fun s54 wz => s54 = .bool false ∧ Below w4.heap.size w4 wz)
  case first =>
    by_cases q0 : n = 0
    · have hLn : L = [] := by
        cases L with
        | nil => rfl
        | cons x t => exact absurd (HOK.out x (by simp)).2 (by omega)
      have hnl : nl = 0 := by rw [HNL.out, hLn]; rfl
      have HRN := Lib.hid (fun (w5 : World) (h5 : Below w4.heap.size w4 w5) => right_any ((HG.out.step B24.out).step h5) (by have := HN.out; omega) (by have := HL.out; omega) HOK.out (v := .slice none 0 0) (F := fun _ => false) ⟨none, 0, by rw [q0], fun j hj => absurd hj (by omega)⟩)
      rw [show rightP L (fun _ => false) = true by rw [hLn]; rfl] at HRN
      subst q0 hnl
      go_wp2_with fail
      refine HR1.out.mono ?_
      rintro e w5 ⟨rfl, h5⟩
      have B5 := Lib.hid h5
      have HRN := HRN.out w5 h5
      clear h5 HR1
      go_wp2_with fail
      refine HRN.mono ?_
      rintro e w6 ⟨rfl, h6⟩
      go_wp2_with fail
      go_meet
      exact ⟨rfl, after B5.out h6⟩
    · have HRN := Lib.hid (fun (w5 : World) (h5 : Below w4.heap.size w4 w5) => right_len ((HG.out.step B24.out).step h5) (src := none) (m := 0) (cap := 0) (by omega))
      have i1 : ((n : Int) == 0) = false := by simp; omega
      go_wp2_with fail
      refine HR1.out.mono ?_
      rintro e w5 ⟨rfl, h5⟩
      have B5 := Lib.hid h5
      have HRN := HRN.out w5 h5
      clear h5 HR1
      go_wp2_with fail
      refine HRN.mono ?_
      rintro e w6 ⟨rfl, h6⟩
      go_wp2_with fail
      go_meet
      exact ⟨rfl, after B5.out h6⟩
  case rest =>
    rename World => w6
    obtain ⟨rfl, h6⟩ := hcut
    have B6 := Lib.hid h6
    clear h6 HR1
    go_wp2_with fail
    have Y3 : Hid (BlAt w6 g3 n (fun z => s.far z != -1)) := Lib.hid (BlAt.step X3.out B6.out)
    have Y4 : Hid (BlAt w6 g4 n G4) := Lib.hid (BlAt.step X4.out B6.out)
    have EQ : Hid (∀ z, z < n → (s.far z != -1) = G4 z) := Lib.hid (fun z hz => least_eq FL.out LE.out hz)
    clear X3 X4 V34 V4
    go_loopg [57] n (fun gk iv wr => ∃ j : Nat, iv = .int .i64 (j : Int) ∧ j + gk = n ∧ Below w6.heap.size w6 wr)
    case atStart => exact ⟨0, rfl, by omega, Below.refl _ _⟩
    case round =>
      obtain ⟨j, rfl, hjk, hbel⟩ := hrel
      have BL := Lib.hid hbel
      clear hbel
      rename World => w7
      cases gk with
      | succ gk =>
        have hjn : j < n := by omega
        obtain ⟨b3, o3, rfl, hb3, x3⟩ := Y3.out j hjn
        obtain ⟨b4, o4, rfl, hb4, x4⟩ := Y4.out j hjn
        have x3 := keep BL.out hb3 x3
        have x4 := keep BL.out hb4 x4
        have hb3 := Nat.lt_of_lt_of_le hb3 BL.out.size
        have hb4 := Nat.lt_of_lt_of_le hb4 BL.out.size
        simp only [EQ.out j hjn] at x3
        generalize G4 j = q at x3 x4
        have i1 : (j : Int) < (n : Int) := by omega
        have i2 : (0 : Int) ≤ (j : Int) := by omega
        have hne : (q != q) = false := by simp
        have hw1 : IntKind.i64.wrap ((j : Int) + 1) = (j : Int) + 1 := IntWalk.i64_in _ ⟨by omega, by have := HN.out; omega⟩
        go_wp2_with fail
        go_quiet (fail)
        go_wp2_with fail
        go_roundg gk
        case measure => omega
        case rel => exact ⟨j + 1, by push_cast; rfl, by omega, below_drewN BL.out _⟩
      | zero =>
        have d1 : decide ((j : Int) < (n : Int)) = false := decide_eq_false (by omega)
        have d2 : ¬ (j : Int) < (n : Int) := by omega
        have d3 : decide (j < n) = false := decide_eq_false (by omega)
        have d4 : ¬ j < n := by omega
        have K7 := Lib.hid (after K4.out (after B6.out BL.out))
        have B27 := Lib.hid (after B24.out (after B6.out BL.out))
        by_cases hmn : m = n
        · subst hmn
          have ZE := Lib.hid HEV.out
          obtain ⟨ag', acap, hav, hac⟩ := ZE.out
          simp only [Value.slice.injEq] at hav
          obtain ⟨hag, -, -⟩ := hav
          subst hag
          have HAC := Lib.hid hac
          clear hac ZE
          have B27e := Lib.hid B27.out
          have YS : Hid (BlAt w7 sg m F) := Lib.hid (BlAt.step HSX.out K7.out)
          have Y3 : Hid (BlAt w7 g3 m (fun z => s.far z != -1)) := Lib.hid (Y3.out.step BL.out)
          obtain ⟨r, hr⟩ : ∃ r, r = rightP L F := ⟨_, rfl⟩
          have HRS := Lib.hid (fun (w8 : World) (h8 : Below w7.heap.size w7 w8) => right_any ((HG.out.step B27.out).step h8) (by have := HN.out; omega) (by have := HL.out; omega) HOK.out ((BlAt.bl YS.out sc).step h8))
          rw [← hr] at HRS
          have HRR := Lib.hid hr
          have HLR : Hid (r = true → ∀ z, z < m → (s.far z != -1) = true → F z = true) := Lib.hid (fun hrt z hz hg => least_right HOK.out (hr.symm.trans hrt) FL.out hz hg)
          clear hr EQ LE FL HSX HS Y4
          go_wp2_with fail
          go_loopg [13, 80] nl (fun gk sv iv wr => ∃ j : Nat, iv = .int .i64 (j : Int) ∧ j + gk = nl ∧ sv = .bool (rightP (L.take j) F) ∧ Below w7.heap.size w7 wr)
          case atStart => exact ⟨0, rfl, by omega, rfl, Below.refl _ _⟩
          case round =>
            obtain ⟨j, rfl, hjk, rfl, hbel⟩ := hrel
            have BL := Lib.hid hbel
            clear hbel
            rename World => w8
            cases gk with
            | succ gk =>
              have hjl : j < L.length := by rw [← HNL.out]; omega
              have K28 := Lib.hid (after B27.out BL.out)
              obtain ⟨vg, off, rfl, hvg, e0, e1, e2, e3⟩ := HAC.out j hjl
              have e0 := keep K28.out hvg e0
              have e1 := keep K28.out hvg e1
              have e2 := keep K28.out hvg e2
              have e3 := keep K28.out hvg e3
              have hvg := Nat.lt_of_lt_of_le hvg K28.out.size
              have HT := Lib.hid (right_take (F := F) hjl)
              have HE := Lib.hid (HOK.out _ (List.getElem_mem hjl))
              generalize L[j] = e at *
              generalize rightP (L.take j) F = r0 at *
              have j1 : (j : Int) < (nl : Int) := by omega
              have j2 : j < nl := by omega
              have hw1 : IntKind.i64.wrap ((j : Int) + 1) = (j : Int) + 1 := IntWalk.i64_in _ ⟨by omega, by have := HNL.out; have := HL.out; omega⟩
              go_upto_region 21 with fail
              have BX := Lib.hid (after BL.out (show Below w8.heap.size w8 (w8.alloc (.cells #[.int .i64 e.1, .int .i64 e.2.1, .int .i64 e.2.2.1, .int .i64 e.2.2.2] 41)) by repeat (first | exact Below.refl _ _ | apply Below.setCell _ (by first | omega | (simp <;> omega)) | apply Below.alloc _ (by first | omega | (simp <;> omega)))))
              have X9 : Hid (Bx 41 (w8.alloc (.cells #[.int .i64 e.1, .int .i64 e.2.1, .int .i64 e.2.2.1, .int .i64 e.2.2.2] 41)) w8.heap.size (egC e)) := Lib.hid (Bx.new 41 w8 (egC e).toArray)
              generalize w8.alloc (.cells #[.int .i64 e.1, .int .i64 e.2.1, .int .i64 e.2.2.1, .int .i64 e.2.2.2] 41) = wx at *
              obtain ⟨t9, h9⟩ : ∃ t9, t9 = w8.heap.size := ⟨_, rfl⟩
              rw [← h9] at X9 ⊢
              clear e0 e1 e2 e3 hvg h9
              obtain ⟨x0, x1, x2, x3, xl, xf⟩ := X9.out.four
              have YX := Lib.hid (YS.out.step BX.out)
              obtain ⟨⟨b5, o5, hs5, hb5, y5⟩⟩ := (show Nonempty (∃ b off, _ ∧ _ ∧ _) from ⟨YX.out e.2.1.toNat (by have := HE.out.2; omega)⟩)
              have hto := HE.out.2
              subst hs5
              have i5 : (0 : Int) ≤ e.2.1 := by omega
              have i6 : e.2.1 < (m : Int) := by omega
              cases r0 with
              | false =>
                go_wp2_with fail
                go_roundg gk
                case measure => omega
                case rel => exact ⟨j + 1, by push_cast; rfl, by omega, (by rw [HT.out]; rfl), BX.out⟩
              | true =>
                by_cases p1 : e.1 = -1
                · have hcm : comesP F e = true := by unfold comesP; rw [p1]; rfl
                  rw [p1] at x0
                  generalize F e.2.1.toNat = f at *
                  cases f with
                  | false =>
                    go_wp2_with fail
                    go_roundg gk
                    case measure => omega
                    case rel => exact ⟨j + 1, by push_cast; rfl, by omega, (by rw [HT.out, hcm]; rfl), BX.out⟩
                  | true =>
                    go_wp2_with fail
                    go_roundg gk
                    case measure => omega
                    case rel => exact ⟨j + 1, by push_cast; rfl, by omega, (by rw [HT.out, hcm]; rfl), BX.out⟩
                · have i7 : (e.1 == -1) = false := by simpa using p1
                  have hfr := (HE.out.1).resolve_left p1
                  have i8 : (0 : Int) ≤ e.1 := by omega
                  have i9 : e.1 < (m : Int) := by omega
                  obtain ⟨b6, o6, hs6, hb6, y6⟩ := YX.out e.1.toNat (by omega)
                  simp only [Option.some.injEq, Addr.mk.injEq, and_true] at hs6
                  obtain ⟨rfl, rfl⟩ := hs6
                  have hcm : comesP F e = F e.1.toNat := by unfold comesP; rw [i7]; rfl
                  generalize F e.1.toNat = f1 at *
                  generalize F e.2.1.toNat = f at *
                  cases f1 with
                  | false =>
                    go_wp2_with fail
                    go_roundg gk
                    case measure => omega
                    case rel => exact ⟨j + 1, by push_cast; rfl, by omega, (by rw [HT.out, hcm]; rfl), BX.out⟩
                  | true =>
                    cases f with
                    | false =>
                      go_wp2_with fail
                      go_roundg gk
                      case measure => omega
                      case rel => exact ⟨j + 1, by push_cast; rfl, by omega, (by rw [HT.out, hcm]; rfl), BX.out⟩
                    | true =>
                      go_wp2_with fail
                      go_roundg gk
                      case measure => omega
                      case rel => exact ⟨j + 1, by push_cast; rfl, by omega, (by rw [HT.out, hcm]; rfl), BX.out⟩
            | zero =>
              have d1 : decide ((j : Int) < (nl : Int)) = false := decide_eq_false (by omega)
              have d2 : ¬ (j : Int) < (nl : Int) := by omega
              have d3 : decide (j < nl) = false := decide_eq_false (by omega)
              have d4 : ¬ j < nl := by omega
              have K8 := Lib.hid (after K7.out BL.out)
              have hr2 : rightP (L.take j) F = r := by rw [show j = L.length by rw [← HNL.out]; omega, List.take_length]; exact HRR.out.symm
              rw [hr2]
              clear hr2
              have HRS := Lib.hid (HRS.out w8 BL.out)
              go_wp2_with fail
              refine HRS.out.mono ?_
              rintro e w9 ⟨rfl, h9⟩
              have K9 := Lib.hid (after K8.out h9)
              have B79 := Lib.hid (after BL.out h9)
              clear h9 HRS
              have hne : (r != r) = false := by simp
              go_wp2_with fail
              go_loopg [114] m (fun gk iv wr => ∃ j : Nat, iv = .int .i64 (j : Int) ∧ j + gk = m ∧ Below w9.heap.size w9 wr)
              case atStart => exact ⟨0, rfl, by omega, Below.refl _ _⟩
              case round =>
                obtain ⟨j, rfl, hjk, hbel⟩ := hrel
                have BL := Lib.hid hbel
                clear hbel
                rename World => w10
                cases gk with
                | zero =>
                  have d1 : decide ((j : Int) < (m : Int)) = false := decide_eq_false (by omega)
                  have d2 : ¬ (j : Int) < (m : Int) := by omega
                  have d3 : decide (j < m) = false := decide_eq_false (by omega)
                  have d4 : ¬ j < m := by omega
                  go_wp2_with fail
                  go_ret
                  exact ⟨rfl, after K9.out BL.out⟩
                | succ gk =>
                  have hjn : j < m := by omega
                  have B710 := Lib.hid (after B79.out BL.out)
                  obtain ⟨b3, o3, rfl, hb3, x3⟩ := (Y3.out.step B710.out) j hjn
                  obtain ⟨b4, o4, rfl, hb4, x4⟩ := (YS.out.step B710.out) j hjn
                  have HLR := HLR.out
                  have i1 : (j : Int) < (m : Int) := by omega
                  have i2 : (0 : Int) ≤ (j : Int) := by omega
                  have hw1 : IntKind.i64.wrap ((j : Int) + 1) = (j : Int) + 1 := IntWalk.i64_in _ ⟨by omega, by have := HN.out; omega⟩
                  cases r with
                  | false =>
                    clear HLR
                    go_wp2_with fail
                    go_roundg gk
                    case measure => omega
                    case rel => exact ⟨j + 1, by push_cast; rfl, by omega, BL.out⟩
                  | true =>
                    have HLR := HLR rfl j hjn
                    simp only at x3
                    generalize F j = f at x4 HLR
                    generalize (s.far j != -1) = q at x3 HLR
                    cases q with
                    | false =>
                      clear HLR
                      go_wp2_with fail
                      go_roundg gk
                      case measure => omega
                      case rel => exact ⟨j + 1, by push_cast; rfl, by omega, BL.out⟩
                    | true =>
                      rw [HLR rfl] at x4
                      clear HLR
                      go_wp2_with fail
                      go_roundg gk
                      case measure => omega
                      case rel => exact ⟨j + 1, by push_cast; rfl, by omega, BL.out⟩
        · have HRS := Lib.hid (right_len (HG.out.step B27.out) (src := sg) (m := m) (cap := sc) hmn)
          go_wp2_with fail
          refine HRS.out.mono ?_
          rintro e w8 ⟨rfl, h8⟩
          have B8 := Lib.hid h8
          clear h8
          go_wp2_with fail
          go_ret
          exact ⟨rfl, after K7.out B8.out⟩
end Go.Proofs.Ytkhgpflpbdakoaa
