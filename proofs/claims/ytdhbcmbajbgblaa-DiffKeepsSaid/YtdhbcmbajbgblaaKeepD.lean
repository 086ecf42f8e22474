/- DiffKeeps: the walk where the edits may be made. -/
import Derived.Test.YtdhbcmbajbgblaaKeepC
namespace Go.Proofs.Ytdhbcmbajbgblaa
open Go Go.RowKit
set_option linter.unusedVariables false

theorem GpInv.shape {w w' : World} {l : List (Int × Int)} {v : Value} (h : GpInv w w' l v) : ∃ src cap n, l.length = n ∧ n ≤ maxLen ∧ v = .slice src n cap ∧ (0 < n → ∃ g, src = some ⟨g, 0, none⟩ ∧ g < w'.heap.size ∧ SpanAt w' g 0 l) := by
  obtain ⟨_, ho⟩ := h
  rcases ho.2 with ⟨hv, hn⟩ | ⟨g, cap, cur, hv, _, _, hc, hm, _⟩
  · exact ⟨none, 0, 0, hn, Nat.zero_le _, hv, fun h => by omega⟩
  · subst hv
    exact ⟨some ⟨g, 0, none⟩, cap, l.length, rfl, Nat.le_trans hc hm, rfl, fun _ => ⟨g, rfl, (ho.lt g rfl).2, span_of_own ho⟩⟩

set_option maxRecDepth 100000 in
set_option maxHeartbeats 8000000 in
theorem keeps_ok (s : ByteArray) (src : Option Addr) (n cap : Nat) (L : List NEd) (w : World) (hs : s.size ≤ 1000) (hll : L.length = n) (hn : n ≤ 60) (hok : EdOk s.size 0 L) (hr0 : EdsIn w src (L.map toI)) (hc : checkE s.size (L.map toI) = 0) :
    Calls Try.prog 3 #[.string s, .slice src n cap] w fun e w' => e = .returned (.bool true) ∧ Below w.heap.size w w' := by
  have HK := Lib.hid (fun w hr => kept_yes s src n cap L w hll (by omega) (by omega) hok hr hc)
  have hl : (L.map toI).length = n := by simpa using hll
  have HC := Lib.hid (fun w hr => rcheck_any s.size src n cap (L.map toI) w hl (by unfold maxLen; omega) (by unfold maxLen; omega) hr)
  rw [hc] at HC
  have HALL := Lib.hid (edOk_all L 0 hok).1
  have HLL := Lib.hid hll
  obtain ⟨l, hlL⟩ : ∃ l, l = L.map toI := ⟨_, rfl⟩
  have HLM := Lib.hid hlL
  rw [← hlL] at HK HC hl hr0
  have HL := Lib.hid hl
  have hr := hr0
  have k1 : ¬ 1000 < (s.size : Int) := by omega
  have k2 : ¬ 60 < (n : Int) := by omega
  clear hl hc hlL hll hok hr0
  go_enter Try.func3, Try.ntmps3
  go_wp2_with fail
  refine (finds_any _).mono ?_
  rintro e w1 ⟨rfl, h01⟩
  have HR1 := Lib.hid (hr.step h01)
  have H1 := Lib.hid h01
  clear h01 hr
  go_wp2_with fail
  go_loopw [32] (fun i wr => ∃ k : Nat, k ≤ n ∧ i = .int .i64 k ∧ Below w1.heap.size w1 wr) (fun i _ => n - (intOf i).toNat)
  case atStart => exact ⟨0, Nat.zero_le _, rfl, Below.refl _ _⟩
  case round =>
    obtain ⟨k, hk, rfl, hbel⟩ := hrel
    have HBEL := Lib.hid hbel
    by_cases hlt : k < n
    · have hkl : k < l.length := by rw [HL.out]; exact hlt
      obtain ⟨b, off, hs, hb, hrow⟩ := (HR1.out.step hbel) (by omega)
      subst hs
      obtain ⟨c0, c1, c2⟩ := hrow k hkl
      clear hrow hbel
      generalize l[k] = x at c0 c1 c2
      obtain ⟨x1, x2, x3⟩ := x
      dsimp only at c0 c1 c2
      have i1 : (k : Int) < (n : Int) := by omega
      clear hkl
      by_cases h100 : 100 < x3.size
      · have k3 : 100 < (x3.size : Int) := by omega
        go_wp2_with fail
        go_ret
        exact ⟨rfl, (H1.out.trans (HBEL.out.mono H1.out.size)).alloc (by have := H1.out.size; have := HBEL.out.size; omega) _⟩
      · have k3 : ¬ 100 < (x3.size : Int) := by omega
        go_wp2_with fail
        exact ⟨⟨k + 1, by omega, by go_num, HBEL.out.alloc HBEL.out.size _⟩, by simp [intOf] <;> omega⟩
    · have hk' : k = n := by omega
      subst hk'
      have HR2 := Lib.hid (HR1.out.step hbel)
      have H2 := Lib.hid (after H1.out hbel)
      clear hbel HBEL
      go_wp2_with fail
      refine (HK.out _ (by first | exact HR2.out | (rw [← HLM.out]; exact HR2.out))).mono ?_
      rintro e w3 ⟨h23, v, wz, G, rfl, hz, hg, hgs⟩
      obtain ⟨srcG, capG, z, hzl, hzm, rfl, hgr⟩ := hg.shape
      unfold maxLen at hzm
      have HGR := Lib.hid hgr
      have HZL := Lib.hid hzl
      clear hgr hzl
      have HR3 := Lib.hid (HR2.out.step h23)
      have H3 := Lib.hid (after H2.out h23)
      have HGS := Lib.hid hgs
      have HZ := Lib.hid hz
      clear h23 hgs hz hg
      go_wp2_with fail
      refine (HC.out _ HR3.out).mono ?_
      rintro e w4 ⟨rfl, h34⟩
      have HR4 := Lib.hid (HR3.out.step h34)
      have H4 := Lib.hid (after H3.out h34)
      have H34 := Lib.hid h34
      clear h34 HK HC
      obtain ⟨w5, mk, hb0⟩ := made_bools s.size w4 (by omega)
      have HB0 := Lib.hid hb0
      clear hb0
      go_wp2_with fail
      go_loopw [66] (fun i wr => ∃ j : Nat, j ≤ s.size ∧ i = .int .i64 j ∧ BInv w4 s.size (fun x => decide (x < j)) wr) (fun i _ => s.size - (intOf i).toNat)
      case atStart => exact ⟨0, Nat.zero_le _, rfl, HB0.out.cong (fun j hj => by simp)⟩
      case round =>
        obtain ⟨j, hj, rfl, hinv⟩ := hrel
        have HV := Lib.hid hinv
        by_cases hlt : j < s.size
        · have i1 : (j : Int) < (s.size : Int) := by omega
          obtain ⟨-, -, v3, v4⟩ := hinv
          have cj := v3 j hlt
          have fj := v4 j
          have HP := Lib.hid (HV.out.put (f' := fun x => decide (x < j + 1)) j true hlt (fun x hx => by
            by_cases e : x = j
            · subst e; simp
            · rw [if_neg e]; exact decide_eq_decide.2 (by omega)))
          clear v3 v4
          go_wp2_with fail
          exact ⟨⟨j + 1, by omega, by go_num, HP.out⟩, by simp [intOf] <;> omega⟩
        · have hj' : j = s.size := by omega
          subst hj'
          have HV0 := Lib.hid (hinv.cong (f' := fT []) (fun j hj => by unfold fT; rw [cntN_nil]; simp [hj]))
          clear hinv HV HB0 mk
          go_wp2_with fail
          go_loopw [75] (fun i wr => ∃ q : Nat, q ≤ k ∧ i = .int .i64 q ∧ BInv w4 s.size (fT ((L.take q).map prN)) wr) (fun i _ => k - (intOf i).toNat)
          case atStart => exact ⟨0, Nat.zero_le _, rfl, HV0.out⟩
          case round =>
            rename World => wx
            obtain ⟨q, hq, rfl, hinv⟩ := hrel
            have HV := Lib.hid hinv
            by_cases hlt : q < k
            · have hql : q < L.length := by rw [HLL.out]; exact hlt
              obtain ⟨b, off, hsr, hb, hrow⟩ := (HR4.out) (by rw [HL.out]; omega)
              subst hsr
              have hrow := hrow.below hinv.1 hb
              have hbx := Nat.lt_of_lt_of_le hb hinv.1.size
              obtain ⟨c0, c1, c2⟩ := hrow q (by rw [HL.out]; exact hlt)
              have hgl : l[q]'(by rw [HL.out]; exact hlt) = toI L[q] := by have := HLM.out; subst this; simp
              rw [hgl] at c0 c1 c2
              have hal := HALL.out _ (List.getElem_mem hql)
              have HTK : Hid ((L.take (q + 1)).map prN = (L.take q).map prN ++ [prN L[q]]) := Lib.hid (by rw [List.take_succ_eq_append_getElem hql, List.map_append]; rfl)
              clear hrow hinv hgl
              generalize L[q] = x at *
              obtain ⟨x1, x2, x3⟩ := x
              unfold toI at c0 c1 c2
              dsimp only at c0 c1 c2 hal
              have i1 : (q : Int) < (k : Int) := by omega
              generalize (L.take q).map prN = T at *
              clear hql
              go_wp2_with fail
              have HI0 : Hid (BInv w4 s.size (fI T x1 x1) (wx.alloc (.cells #[.int .i64 (x1 : Nat), .int .i64 (x2 : Nat), .string x3] 27)) ∧ wx.heap.size < (wx.alloc (.cells #[.int .i64 (x1 : Nat), .int .i64 (x2 : Nat), .string x3] 27)).heap.size ∧ (wx.alloc (.cells #[.int .i64 (x1 : Nat), .int .i64 (x2 : Nat), .string x3] 27)).cell? ⟨wx.heap.size, 1, none⟩ = some (.int .i64 (x2 : Nat))) := Lib.hid
                ⟨(HV.out.step ((Below.refl _ _).alloc (Nat.le_refl _) _)).cong (fun j hj => fI_start T x1 j), by simp, by simp [go_sem]⟩
              go_loopw [14] (fun i wi => ∃ I : Nat, x1 ≤ I ∧ I ≤ x2 ∧ i = .int .i64 I ∧ BInv w4 s.size (fI T x1 I) wi ∧ wx.heap.size < wi.heap.size ∧ wi.cell? ⟨wx.heap.size, 1, none⟩ = some (.int .i64 (x2 : Nat))) (fun i _ => x2 - (intOf i).toNat)
              case atStart => exact ⟨x1, Nat.le_refl _, by omega, rfl, HI0.out⟩
              case round =>
                obtain ⟨I, g1, g2, rfl, hinv, hbs, d1⟩ := hrel
                have HV2 := Lib.hid hinv
                have hne := HV.out.2.1
                by_cases hlt2 : I < x2
                · have i3 : (I : Int) < (x2 : Int) := by omega
                  have i4 : (I : Int) < (s.size : Int) := by omega
                  obtain ⟨-, -, v3, v4⟩ := hinv
                  have cj := v3 I (by omega)
                  have fj := v4 I
                  have HP := Lib.hid (HV2.out.put (f' := fI T x1 (I + 1)) I false (by omega) (fun j hj => fI_put T x1 I j g1))
                  have HD : Hid ((wr.setCell ⟨w4.heap.size, I, none⟩ (.bool false)).cell? ⟨wx.heap.size, 1, none⟩ = some (.int .i64 (x2 : Nat)) ∧ wx.heap.size < (wr.setCell ⟨w4.heap.size, I, none⟩ (.bool false)).heap.size) := Lib.hid
                    ⟨by rw [World.cell?_setCell_other _ _ _ _ (by intro hh; injection hh; omega)]; exact d1, by simpa [World.setCell] using hbs⟩
                  clear v3 v4 hne
                  go_wp2_with fail
                  exact ⟨⟨I + 1, by omega, by omega, by go_num, HP.out, HD.out.2, HD.out.1⟩, by simp [intOf] <;> omega⟩
                · have hI : I = x2 := by omega
                  subst hI
                  clear hne
                  go_wp2_with fail
                  refine ⟨⟨q + 1, by omega, by go_num, ?_⟩, by simp [intOf] <;> omega⟩
                  rw [HTK.out]
                  exact HV2.out.cong (fun j hj => (fI_end T x1 I j).symm)
            · have hq' : q = k := by omega
              subst hq'
              rw [List.take_of_length_le (by rw [HLL.out]; exact Nat.le_refl _)] at hinv
              have HV1 := Lib.hid hinv
              clear hinv HV HV0
              go_wp2_with fail
              rw [← List.append_nil (L.map prN)] at HV1
              go_loopw [95] (fun i wr => ∃ p : Nat, p ≤ z ∧ i = .int .i64 p ∧ BInv w4 s.size (fT (L.map prN ++ G.take p)) wr) (fun i _ => z - (intOf i).toNat)
              case atStart => exact ⟨0, Nat.zero_le _, rfl, HV1.out⟩
              case round =>
                rename World => wx
                obtain ⟨p, hp, rfl, hinv⟩ := hrel
                have HV := Lib.hid hinv
                by_cases hlt : p < z
                · have hpl : p < G.length := by rw [HZL.out]; exact hlt
                  obtain ⟨g, hsr, hb, hrow⟩ := HGR.out (by omega)
                  subst hsr
                  have hb4 : g < w4.heap.size := Nat.lt_of_lt_of_le hb H34.out.size
                  have hrow := (hrow.below H34.out hb).below hinv.1 hb4
                  have hbx := Nat.lt_of_lt_of_le hb4 hinv.1.size
                  obtain ⟨c0, c1⟩ := hrow p hpl
                  rw [Nat.zero_add] at c0 c1
                  obtain ⟨x0, x1, x2⟩ := HGS.out.1 _ (List.getElem_mem hpl)
                  have hpr : 0 < p → ∃ y : Nat, wx.cell? ⟨g, (p - 1) * 2 + 1, none⟩ = some (.int .i64 (y : Nat)) ∧ (y : Int) < G[p].1 := fun h0 => by
                    have hp1 : p - 1 < G.length := by omega
                    have h1 := (hrow (p - 1) hp1).2
                    rw [Nat.zero_add] at h1
                    have h2 := List.pairwise_iff_getElem.1 HGS.out.2.1 (p - 1) p hp1 hpl (by omega)
                    obtain ⟨y0, y1, y2⟩ := HGS.out.1 _ (List.getElem_mem hp1)
                    exact ⟨G[p - 1].2.toNat, by rw [h1, Int.toNat_of_nonneg (by omega)], by omega⟩
                  have hTK : L.map prN ++ G.take (p + 1) = (L.map prN ++ G.take p) ++ [G[p]] := by rw [List.take_succ_eq_append_getElem hpl, List.append_assoc]
                  have hfree : ∀ I : Nat, G[p].1 ≤ I → (I : Int) < G[p].2 → fT (L.map prN ++ G.take p) I = true := fun I q1 q2 => by
                    have h1 := HGS.out.2.2 I (by omega)
                    have h2 : cntN I G = cntN I (G.take p) + (covN I G[p] + cntN I (G.drop (p + 1))) := by
                      conv => lhs; rw [← List.take_append_drop p G, List.drop_eq_getElem_cons hpl]
                      rw [cntN_append]; congr 1
                    have h3 : covN (I : Int) G[p] = 1 := by unfold covN; rw [if_pos ⟨q1, q2⟩]
                    rw [cnt_tkN] at h1
                    unfold fT
                    rw [cntN_append]
                    exact decide_eq_true (by omega)
                  clear hrow hinv
                  generalize G[p] = x at *
                  obtain ⟨ai, bi⟩ := x
                  dsimp only at c0 c1 x0 x1 x2 hpr hfree
                  obtain ⟨a, rfl⟩ : ∃ a : Nat, ai = a := ⟨ai.toNat, by omega⟩
                  obtain ⟨b, rfl⟩ : ∃ b : Nat, bi = b := ⟨bi.toNat, by omega⟩
                  have HFREE : Hid (∀ I : Nat, a ≤ I → I < b → fT (L.map prN ++ G.take p) I = true) := Lib.hid (fun I q1 q2 => hfree I (by omega) (by omega))
                  have HTK := Lib.hid hTK
                  clear hfree hTK hpl
                  obtain ⟨T, hT⟩ : ∃ T, T = L.map prN ++ G.take p := ⟨_, rfl⟩
                  rw [← hT] at HFREE HTK HV
                  clear hT
                  have HI0 : Hid (∀ m, BInv w4 s.size (fI T a a) ((wx.alloc (.cells #[.int .i64 (a : Nat), .int .i64 (b : Nat)] 25)).drewN m) ∧ wx.heap.size < ((wx.alloc (.cells #[.int .i64 (a : Nat), .int .i64 (b : Nat)] 25)).drewN m).heap.size ∧ ((wx.alloc (.cells #[.int .i64 (a : Nat), .int .i64 (b : Nat)] 25)).drewN m).cell? ⟨wx.heap.size, 1, none⟩ = some (.int .i64 (b : Nat))) := Lib.hid
                    (fun m => ⟨(((HV.out.step ((Below.refl _ _).alloc (Nat.le_refl _) _)).cong (fun j hj => fI_start T a j)).drew m), by simp [World.drewN], by
                      show (wx.alloc (.cells #[.int .i64 (a : Nat), .int .i64 (b : Nat)] 25)).cell? ⟨wx.heap.size, 1, none⟩ = _
                      simp [go_sem]⟩)
                  have d5 : decide ((b : Int) ≤ (a : Int)) = false := decide_eq_false (by omega)
                  have d5n : decide (b ≤ a) = false := decide_eq_false (by omega)
                  have y1 : a < b := by omega
                  have y2 : b ≤ s.size := by omega
                  clear x0 x1 x2
                  have i1 : (p : Int) < (z : Int) := by omega
                  rcases p with _ | j
                  · rw [Nat.zero_mul] at c0
                    rw [Nat.zero_mul, Nat.zero_add] at c1
                    clear hpr
                    go_wp2_with fail
                    simp only [Int.natCast_zero]
                    go_big_quiet (fail)
                    go_wp2_with fail
                    go_loopw [17] (fun i wi => ∃ I : Nat, a ≤ I ∧ I ≤ b ∧ i = .int .i64 I ∧ BInv w4 s.size (fI T a I) wi ∧ wx.heap.size < wi.heap.size ∧ wi.cell? ⟨wx.heap.size, 1, none⟩ = some (.int .i64 (b : Nat))) (fun i _ => b - (intOf i).toNat)
                    case atStart => exact ⟨a, Nat.le_refl _, by omega, rfl, HI0.out _⟩
                    case round =>
                      obtain ⟨I, g1, g2, rfl, hinv, hbs, d1⟩ := hrel
                      have HV2 := Lib.hid hinv
                      have hne := HV.out.2.1
                      by_cases hlt2 : I < b
                      · have i3 : (I : Int) < (b : Int) := by omega
                        have i4 : (I : Int) < (s.size : Int) := by omega
                        obtain ⟨-, -, v3, v4⟩ := hinv
                        have cj := v3 I (by omega)
                        rw [show fI T a I I = true by unfold fI; rw [HFREE.out I g1 hlt2]; simp] at cj
                        have fj := v4 I
                        have HP := Lib.hid (HV2.out.put (f' := fI T a (I + 1)) I false (by omega) (fun j hj => fI_put T a I j g1))
                        have HD : Hid ((wr.setCell ⟨w4.heap.size, I, none⟩ (.bool false)).cell? ⟨wx.heap.size, 1, none⟩ = some (.int .i64 (b : Nat)) ∧ wx.heap.size < (wr.setCell ⟨w4.heap.size, I, none⟩ (.bool false)).heap.size) := Lib.hid
                          ⟨by rw [World.cell?_setCell_other _ _ _ _ (by intro hh; injection hh; omega)]; exact d1, by simpa [World.setCell] using hbs⟩
                        clear v3 v4 hne
                        go_wp2_with fail
                        exact ⟨⟨I + 1, by omega, by omega, by go_num, HP.out, HD.out.2, HD.out.1⟩, by simp [intOf] <;> omega⟩
                      · have hI : I = b := by omega
                        subst hI
                        clear hne
                        go_wp2_with fail
                        have HN : Hid (BInv w4 s.size (fT (L.map prN ++ G.take 1)) wr) := Lib.hid (by
                          rw [HTK.out]
                          exact HV2.out.cong (fun j hj => (fI_end T a I j).symm))
                        exact ⟨⟨1, by omega, by go_num, HN.out⟩, by simp [intOf] <;> omega⟩
                  · obtain ⟨y, hy, hyx⟩ := hpr (by omega)
                    rw [show j + 1 - 1 = j by omega] at hy
                    clear hpr
                    have j0 : ((j + 1 : Nat) : Int) = (j : Int) + 1 := by omega
                    rw [j0]
                    have j1 : (j : Int) + 1 - 1 = (j : Int) := by omega
                    have j2 : decide (0 < (j : Int) + 1) = true := decide_eq_true (by omega)
                    have j3 : (j : Int) < (z : Int) := by omega
                    have j4 : (0 : Int) ≤ (j : Int) := by omega
                    have j5 : IntKind.i64.wrap ((j : Int) + 1 - 1) = (j : Int) := by rw [j1]; exact IntWalk.i64_in _ ⟨by omega, by omega⟩
                    have j6 : ((j : Int) + 1).toNat = j + 1 := by omega
                    have j7 : (j : Int) + 1 < (z : Int) := by omega
                    have j8 : decide ((a : Int) ≤ (y : Int)) = false := decide_eq_false (by omega)
                    have j8n : decide (a ≤ y) = false := decide_eq_false (by omega)
                    go_wp2_with fail
                    go_big_quiet (fail)
                    go_wp2_with fail
                    go_loopw [17] (fun i wi => ∃ I : Nat, a ≤ I ∧ I ≤ b ∧ i = .int .i64 I ∧ BInv w4 s.size (fI T a I) wi ∧ wx.heap.size < wi.heap.size ∧ wi.cell? ⟨wx.heap.size, 1, none⟩ = some (.int .i64 (b : Nat))) (fun i _ => b - (intOf i).toNat)
                    case atStart => exact ⟨a, Nat.le_refl _, by omega, rfl, HI0.out _⟩
                    case round =>
                      obtain ⟨I, g1, g2, rfl, hinv, hbs, d1⟩ := hrel
                      have HV2 := Lib.hid hinv
                      have hne := HV.out.2.1
                      by_cases hlt2 : I < b
                      · have i3 : (I : Int) < (b : Int) := by omega
                        have i4 : (I : Int) < (s.size : Int) := by omega
                        obtain ⟨-, -, v3, v4⟩ := hinv
                        have cj := v3 I (by omega)
                        rw [show fI T a I I = true by unfold fI; rw [HFREE.out I g1 hlt2]; simp] at cj
                        have fj := v4 I
                        have HP := Lib.hid (HV2.out.put (f' := fI T a (I + 1)) I false (by omega) (fun j hj => fI_put T a I j g1))
                        have HD : Hid ((wr.setCell ⟨w4.heap.size, I, none⟩ (.bool false)).cell? ⟨wx.heap.size, 1, none⟩ = some (.int .i64 (b : Nat)) ∧ wx.heap.size < (wr.setCell ⟨w4.heap.size, I, none⟩ (.bool false)).heap.size) := Lib.hid
                          ⟨by rw [World.cell?_setCell_other _ _ _ _ (by intro hh; injection hh; omega)]; exact d1, by simpa [World.setCell] using hbs⟩
                        clear v3 v4 hne
                        go_wp2_with fail
                        exact ⟨⟨I + 1, by omega, by omega, by go_num, HP.out, HD.out.2, HD.out.1⟩, by simp [intOf] <;> omega⟩
                      · have hI : I = b := by omega
                        subst hI
                        clear hne
                        go_wp2_with fail
                        have HN : Hid (BInv w4 s.size (fT (L.map prN ++ G.take (j + 1 + 1))) wr) := Lib.hid (by
                          rw [HTK.out]
                          exact HV2.out.cong (fun j hj => (fI_end T a I j).symm))
                        exact ⟨⟨(j + 1 + 1), by omega, by go_num, HN.out⟩, by simp [intOf] <;> omega⟩
                · have hp' : p = z := by omega
                  subst hp'
                  rw [List.take_of_length_le (by rw [HZL.out]; exact Nat.le_refl _)] at hinv
                  have HVF := Lib.hid hinv
                  have HFIN : Hid (∀ j : Nat, j < s.size → fT (L.map prN ++ G) j = false) := Lib.hid (fun j hj => by
                    have h1 := HGS.out.2.2 j hj
                    rw [cnt_tkN] at h1
                    unfold fT
                    rw [cntN_append]
                    exact decide_eq_false (by omega))
                  clear hinv HV HV1
                  go_wp2_with fail
                  go_loopw [139] (fun i wr => ∃ j : Nat, j ≤ s.size ∧ i = .int .i64 j ∧ BInv w4 s.size (fT (L.map prN ++ G)) wr) (fun i _ => s.size - (intOf i).toNat)
                  case atStart => exact ⟨0, Nat.zero_le _, rfl, HVF.out⟩
                  case round =>
                    obtain ⟨j, hj, rfl, hinv⟩ := hrel
                    have HV := Lib.hid hinv
                    by_cases hlt : j < s.size
                    · have cj := hinv.2.2.1 j hlt
                      rw [HFIN.out j hlt] at cj
                      have i1 : (j : Int) < (s.size : Int) := by omega
                      clear hinv
                      go_wp2_with fail
                      exact ⟨⟨j + 1, by omega, by go_num, HV.out⟩, by simp [intOf] <;> omega⟩
                    · have hj' : j = s.size := by omega
                      subst hj'
                      have HE := Lib.hid (after H4.out hinv.1)
                      clear hinv
                      go_wp2_with fail
                      go_ret
                      exact ⟨rfl, HE.out⟩

end Go.Proofs.Ytdhbcmbajbgblaa
