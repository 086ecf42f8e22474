/- WholePlaces: the walk. -/
import Derived.Test.YtfiphchjjgmcpaaDoorTopB
namespace Go.Proofs.YtfiphchjjgmcpaaDoor
open Go Go.RowKit
set_option linter.unusedVariables false


set_option maxRecDepth 100000 in
set_option maxHeartbeats 2000000 in
theorem top_far (s : ByteArray) (hm : s.size ≤ maxLen) (n cap : Nat) (src : Option Addr) (w : World) (hn : n ≤ maxLen) (h : 1500 < s.size ∨ 30 < n) :
    Calls Tryd.prog 3 #[.string s, .slice src n cap] w fun e w' => e = .returned (.bool true) ∧ Below w.heap.size w w' := by
  have hm1 : s.size < 9223372036854775808 := by unfold maxLen at hm; omega
  have hn1 : n < 9223372036854775808 := by unfold maxLen at hn; omega
  have HH := Lib.hid h
  clear hm hn h
  go_enter Tryd.func3, Tryd.ntmps3
  go_wp2_with fail
  have r1 : SpanAt (w.alloc (.cells #[.int .i64 1, .int .i64 2, .int .i64 4, .int .i64 7] 24)) w.heap.size 0 [(1, 2), (4, 7)] := by
    intro i hi
    match i, hi with
    | 0, _ => simp [go_sem]
    | 1, _ => simp [go_sem]
  refine (cover_some w.heap.size 0 2 2 1 2 [(4, 7)] _ rfl (by decide) (by decide) (by simp) r1 (by decide)).mono ?_
  rw [show covF 1 [(4, 7)] = 1 by decide, show covT 2 [(4, 7)] = 7 by decide]
  rintro e w1 ⟨rfl, h1⟩
  have h01 := Lib.hid (after ((Below.refl w.heap.size w).alloc (Nat.le_refl _) _) h1)
  clear h1 r1
  by_cases h1 : 1500 < s.size
  · go_wp2_with fail
    go_ret
    exact ⟨rfl, h01.out.alloc h01.out.size _⟩
  · have h2 : 30 < n := by rcases HH.out with h | h <;> omega
    go_wp2_with fail
    go_ret
    exact ⟨rfl, h01.out.alloc h01.out.size _⟩

set_option maxRecDepth 100000 in
set_option maxHeartbeats 4000000 in
theorem top_near (s : ByteArray) (n cap : Nat) (src : Option Addr) (l : List (Int × Int)) (w : World) (hnums : Tab w) (hl : l.length = n) (hs : s.size ≤ 1500) (hn : n ≤ 30)
    (HR : Hid (0 < n → ∃ b off, src = some ⟨b, off, none⟩ ∧ b < w.heap.size ∧ SpanAt w b off l)) :
    Calls Tryd.prog 3 #[.string s, .slice src n cap] w fun e w' => e = .returned (.bool true) ∧ Below w.heap.size w w' := by
  obtain ⟨i0, hi, hz0, hz1, hz2⟩ := info_parts infoSpan
  have HS : Hid (s.size ≤ 65536) := Lib.hid (by omega)
  have HN := Lib.hid hnums
  have HL := Lib.hid hl
  have HB := Lib.hid (begs_len s)
  clear hnums hl
  go_enter Tryd.func3, Tryd.ntmps3
  go_wp2_with fail
  have r1 : SpanAt (w.alloc (.cells #[.int .i64 1, .int .i64 2, .int .i64 4, .int .i64 7] 24)) w.heap.size 0 [(1, 2), (4, 7)] := by
    intro i hi
    match i, hi with
    | 0, _ => simp [go_sem]
    | 1, _ => simp [go_sem]
  refine (cover_some w.heap.size 0 2 2 1 2 [(4, 7)] _ rfl (by decide) (by decide) (by simp) r1 (by decide)).mono ?_
  rw [show covF 1 [(4, 7)] = 1 by decide, show covT 2 [(4, 7)] = 7 by decide]
  rintro e w1 ⟨rfl, h1⟩
  have h01 := Lib.hid (after ((Below.refl w.heap.size w).alloc (Nat.le_refl _) _) h1)
  clear h1 r1
  go_wp2_with fail
  refine (lof_any s _ HS.out).mono ?_
  rintro e w2 ⟨p, rfl, hp, ht, h12⟩
  have H02 := Lib.hid (after (h01.out.alloc h01.out.size _) h12)
  have HT := Lib.hid ht
  have HN2 := Lib.hid (HN.out.step H02.out)
  clear h01 h12 ht HN
  have LN := Lib.hid (fun w ht => lines_any s p w ht)
  have LY := Lib.hid (fun (n : Nat) w ht h1 h2 => line_yes s p n w HS.out ht h1 h2)
  have LE := Lib.hid (fun (n : Nat) h1 h2 => endN_le s n h1 h2)
  have AY := Lib.hid (fun (i : Nat) w ht hi => at_yes s p i w HS.out ht hi)
  have LP := Lib.hid (line_place s)
  have HCHK := Lib.hid (lns_chk s HS.out (begs s).length (Nat.le_refl _))
  have HSRT := Lib.hid (lns_sorted s HS.out)
  have HBET := Lib.hid (bet_all s HS.out)
  have HBT := Lib.hid (bet_text s)
  have HLL := Lib.hid (lnsS_len s)
  have HSN := Lib.hid (lnsS_snoc s)
  have HBL := Lib.hid (bgN_le s)
  have HEL := Lib.hid (end_lt s)
  have hLs : (begs s).length ≤ 1501 := by have := HB.out.2; omega
  have hL1 : 1 ≤ (begs s).length := HB.out.1
  have BETD : Hid (gapTo (lnsS s (begs s).length ++ [((s.size : Int), (s.size : Int))]) ((begs s).length + 1) = betS s) := Lib.hid rfl
  generalize (begs s).length = L at *
  go_wp2_with fail
  go_loopw [9, 10] (fun v i wr => ∃ (k : Nat) (v' : Value), 1 ≤ k ∧ k ≤ L + 1 ∧ i = .int .i64 k ∧ v = v' ∧ GpInv w2 wr (lnsS s (k - 1)) v') (fun _ i _ => L + 1 - (intOf i).toNat)
  case atStart => exact ⟨1, _, by omega, by omega, rfl, rfl, Below.refl _ _, rfl, .inl ⟨rfl, rfl⟩⟩
  case round =>
    obtain ⟨k, v, hk1, hk2, rfl, rfl, hinv⟩ := hrel
    have HI := Lib.hid hinv
    have HTR := Lib.hid (HT.out.step hinv.1)
    clear hinv
    go_wp2_with fail
    refine (LN.out _ HTR.out).mono ?_
    rintro e w3 ⟨rfl, rfl⟩
    by_cases hlt : k ≤ L
    · have he := LE.out k hk1 hlt
      have hlp := Lib.hid (fun i => LP.out k i hk1 hlt)
      have ly := Lib.hid (fun w ht => LY.out k w ht hk1 hlt)
      have HSK := Lib.hid (show lnsS s k = lnsS s (k - 1) ++ [((bgN s (k - 1) : Int), (endN s k : Int))] by
        have := HSN.out (k - 1); rwa [show k - 1 + 1 = k by omega] at this)
      have hlk := HLL.out (k - 1)
      generalize lnsS s (k - 1) = G at *
      generalize bgN s (k - 1) = B at *
      generalize endN s k = E at *
      go_wp2_with fail
      refine (ly.out _ HTR.out).mono ?_
      rintro e w4 ⟨rfl, h34⟩
      have HI4 := Lib.hid (HI.out.step h34)
      have HT4 := Lib.hid (HTR.out.step h34)
      clear h34
      go_wp2_with fail
      go_loopw [13] (fun i wi => ∃ a : Nat, B ≤ a ∧ a ≤ E + 1 ∧ i = .int .i64 a ∧ Below (w4.alloc (.cells #[.int .i64 B, .int .i64 E] 24)).heap.size (w4.alloc (.cells #[.int .i64 B, .int .i64 E] 24)) wi) (fun i _ => E + 1 - (intOf i).toNat)
      case atStart => exact ⟨B, Nat.le_refl _, by omega, rfl, Below.refl _ _⟩
      case round =>
        obtain ⟨a, ha1, ha2, rfl, hin⟩ := hrel
        obtain ⟨h4i, y0, y1, y2⟩ := box2 hin
        by_cases hle : a ≤ E
        · obtain ⟨q1, q2, q3⟩ := hlp.out a ha1 hle
          have AT := Lib.hid (fun w ht => AY.out a w ht q1)
          rw [q2, q3] at AT
          have HTI := Lib.hid (HT4.out.step h4i)
          have HIN := Lib.hid hin
          clear q1 q2 q3 hin h4i
          go_wp2_with fail
          refine (AT.out _ HTI.out).mono ?_
          rintro e w5 ⟨rfl, h5⟩
          replace y0 := keep h5 y2 y0
          replace y1 := keep h5 y2 y1
          have H5 := Lib.hid (after HIN.out h5)
          have y3 : w4.heap.size < w5.heap.size := Nat.lt_of_lt_of_le y2 h5.size
          clear h5 y2 HIN
          have e1 : ((a - B + 1 : Nat) : Int) = (a : Int) - (B : Int) + 1 := by omega
          rw [e1]
          go_wp2_with fail
          go_roundw
          case rel => exact ⟨a + 1, by omega, by omega, by go_num, H5.out.alloc H5.out.size _⟩
          case measure => simp [intOf]; omega
        · have HI6 := Lib.hid (HI4.out.step h4i)
          have HO := Lib.hid HI6.out.2
          clear hin HI4 HT4
          go_wp2_with (at_builtin; refine wpList_append_own _ rfl _ _ 22 rfl w2.heap.size 24 i0 (.agg #[.int .i64 0, .int .i64 0]) 2 16 Tryd.underlying22 hi hz0 hz1 hz2 rfl (by decide) _ _ _ rfl (HO.out.alloc _) ⟨wr.heap.size, 0, none⟩ 1 1 [.int .i64 B, .int .i64 E] rfl rfl ?c1 ?c2 ?c3 ?c4 ?c5 ?_)
          case c1 =>
            intro j u hj
            match j, hj with
            | 0, hj => simp at hj; subst hj; simp [Addr.add, go_sem]
            | 1, hj => simp at hj; subst hj; simp [Addr.add, go_sem]
          case c2 => intro u hu; simp at hu; rcases hu with rfl | rfl <;> rfl
          case c3 => unfold maxLen; omega
          case c4 => omega
          case c5 => simp; have := HI6.out.1.size; omega
          intro v' w6 hown' hgrow _
          have HV := Lib.hid (HI6.out.join (x := ((B : Int), (E : Int))) (by rw [hlk, show k - 1 + 1 = k by omega]; exact hown') hgrow)
          clear hown' hgrow
          go_wp2_with fail
          go_roundw
          case rel => exact ⟨k + 1, _, by omega, by omega, by go_num, rfl, by rw [show k + 1 - 1 = k by omega, HSK.out]; exact HV.out⟩
          case measure => simp [intOf]; omega
    · have hkL : k = L + 1 := by omega
      have hlen := HLL.out L
      have HI1 : Hid (GpInv w2 wr (lnsS s L) u9) := Lib.hid (by have := HI.out; rwa [hkL, show L + 1 - 1 = L by omega] at this)
      obtain ⟨b, cp, hu9, r1, r2, r3, r4⟩ := row_some HI1.out.2 (by omega)
      rw [hlen] at hu9 r1
      have HG := Lib.hid (gaps_some (s.size : Int) b 0 L cp (lnsS s L) wr hlen hL1 r1 r2 r3 r4 (by omega) (chkB_iff.2 ⟨⟨by omega, by omega, by omega⟩, by omega, by omega⟩))
      have SL := Lib.hid (fun w' hb hr => sum_some b 0 L cp (lnsS s L) w' hlen r1 r2 hb hr (by omega))
      have HR4 := Lib.hid r4
      have HB2 := Lib.hid HI1.out.1
      have hA := sumI_bd (lnsS s L)
      have hB := sumI_bd (betS s)
      have hAB := HBET.out.2
      have HGL := Lib.hid (gapTo_len (lnsS s L ++ [((s.size : Int), (s.size : Int))]) (L + 1))
      rw [BETD.out] at HGL HG
      have HFC := HCHK
      have HFS := HSRT
      subst hu9
      have hA0 := hA.1
      have hB0 := hB.1
      clear HI HI1 r4 r1 r2 hA hB hlt hk1 hk2 hlen LY LE AY LP LN HSN HLL BETD HCHK HSRT HTR
      subst hkL
      generalize lnsS s L = LS at *
      generalize sumI LS = A at *
      go_wp2_with fail
      refine HG.out.mono ?_
      rintro e w3 ⟨h23, hway⟩
      obtain ⟨v, w3', he, hz3, hgp⟩ : ∃ v w1, e = .returned (.tuple #[v, .int .i64 0]) ∧ wr.heap.size ≤ w1.heap.size ∧ GpInv w1 w3 (betS s) v := by
        rcases hway with ⟨h, _⟩ | ⟨_, h, _⟩ | ⟨_, _, h⟩
        · exact absurd (HFC.out.symm.trans h) (by simp)
        · exact absurd (HFS.out.symm.trans h) (by simp)
        · exact h
      subst he
      have HGP := Lib.hid hgp
      have HB3 := Lib.hid (after HB2.out h23)
      have HR5 := Lib.hid (HR4.out.below h23 r3)
      have r5 : b < w3.heap.size := Nat.lt_of_lt_of_le r3 h23.size
      clear hway hgp h23 HG HFC HFS HR4 HB2 r3
      go_wp2_with fail
      refine (SL.out _ r5 HR5.out).mono ?_
      rintro e w4 ⟨rfl, h34⟩
      have HGP4 := Lib.hid (HGP.out.step h34)
      have HB4 := Lib.hid (after HB3.out h34)
      clear h34 HGP HB3 HR5 r5 SL
      go_wp2_with fail
      refine (sum_row v (betS s) _ _ HGP4.out.2 (by have := HGL.out; omega)).mono ?_
      rintro e w5 ⟨rfl, h45⟩
      obtain ⟨sa, vc, rfl, hvv⟩ := row_any (HGP4.out.step h45).2
      have HV := Lib.hid hvv
      have HB5 := Lib.hid (after HB4.out h45)
      clear h45 HGP4 HB4 hvv
      have HX := Lib.hid HBET.out.1
      clear HBET
      generalize sumI (betS s) = C at *
      generalize betS s = G at *
      generalize hgn : G.length = gn at *
      have hCA : A + C = (s.size : Int) := hAB
      have hgn2 : gn ≤ 1502 := by have := HGL.out; omega
      go_wp2_with fail
      go_loopw [134] (fun i wi => ∃ j : Nat, j ≤ gn ∧ i = .int .i64 j ∧ Below w2.heap.size w2 wi ∧ Below w5.heap.size w5 wi) (fun i _ => gn - (intOf i).toNat)
      case atStart => exact ⟨0, Nat.zero_le _, rfl, HB5.out, Below.refl _ _⟩
      case round =>
        obtain ⟨j, hj, rfl, hb2, hb5⟩ := hrel
        have HBR := Lib.hid (And.intro hb2 hb5)
        by_cases hlt : j < gn
        · have hjl : j < G.length := by rw [hgn]; exact hlt
          obtain ⟨gb, rfl, hgb, hga⟩ := HV.out (by omega)
          obtain ⟨c0, c1⟩ := (hga.below hb5 hgb) j hjl
          have hgw : gb < wr.heap.size := Nat.lt_of_lt_of_le hgb hb5.size
          obtain ⟨m, hm1, hm2, hx⟩ := HX.out _ (List.getElem_mem hjl)
          have HTX := HBT.out m hm1 hm2
          have e1 := HEL.out m hm1 hm2
          have e2 := HBL.out m
          have TX := Lib.hid (fun w => text_yes s (endN s m) (bgN s m) w (chkB_iff.2 ⟨⟨by omega, by omega, by omega⟩, by omega, by omega⟩))
          rw [hx] at c0 c1
          rw [Nat.zero_add] at c0 c1
          clear hx hga hgb hb2 hb5 hjl e1 e2
          generalize endN s m = E1 at *
          generalize bgN s m = B1 at *
          rcases HTX with h | h
          all_goals
            rw [h] at TX
            clear h
            go_wp2_with fail
            refine (TX.out _).mono ?_
            rintro e w6 ⟨rfl, h6⟩
            have H6 := Lib.hid (box2 h6).1
            clear h6 TX c0 c1
            go_wp2_with fail
            go_roundw
            case rel => exact ⟨j + 1, by omega, by go_num, after HBR.out.1 H6.out, after HBR.out.2 H6.out⟩
            case measure => simp [intOf]; omega
        · have HBW := Lib.hid hb2
          clear hb2 hb5 HBR HV HX
          go_wp2_with fail
          go_loopw [157] (fun i wi => ∃ j : Nat, j ≤ n ∧ i = .int .i64 j ∧ Below w2.heap.size w2 wi) (fun i _ => n - (intOf i).toNat)
          case atStart => exact ⟨0, Nat.zero_le _, rfl, HBW.out⟩
          case round =>
            obtain ⟨q, hq, rfl, hb2⟩ := hrel
            have HQ := Lib.hid hb2
            by_cases hlt : q < n
            · have hql : q < l.length := by rw [HL.out]; exact hlt
              obtain ⟨lb, off, rfl, hlb, hla⟩ := HR.out (by omega)
              have hbw := after H02.out hb2
              obtain ⟨c0, c1⟩ := (hla.below hbw hlb) q hql
              have hlw : lb < wr.heap.size := Nat.lt_of_lt_of_le hlb hbw.size
              have HH : Hold w2 p s [] wr := ⟨hb2, HT.out.step hb2, HN2.out.step hb2, fun x hx => absurd hx (by simp)⟩
              clear hb2 hbw hla hlb
              revert c0 c1
              generalize l[q] = x
              obtain ⟨x1, x2⟩ := x
              intro c0 c1
              dsimp only at c0 c1
              clear hql
              replace HH := HH.box (.int .i64 x1) (.int .i64 x2) 24
              clear HEL HBT HBL HB HGL
              cases hc : chkB x1 x2 s.size
              · have HC := Lib.hid hc
                have EC := Lib.hid (show errI (chkB x1 x2 s.size) 1 = 1 by rw [hc]; rfl)
                have SW := Lib.hid (fun w ht hn => show_no s p x1 x2 w HS.out ht hn hc)
                have PW := Lib.hid (fun w ht hn => point_no s p x1 x2 w HS.out ht hn hc)
                have TW := Lib.hid (fun w => text_no s x1 x2 w hc)
                clear hc
                go_wp2_with fail
                refine (SW.out _ HH.tab HH.nums).mono ?_
                rintro e w7 ⟨rfl, h7⟩
                have H7 := HH.step h7
                have z7 : wr.heap.size < w7.heap.size := H7.lt (o := 0) (v := .int .i64 x1) (by simp)
                replace c0 : w7.cell? ⟨wr.heap.size, 0, none⟩ = some (.int .i64 x1) := H7.cell (by simp)
                replace c1 : w7.cell? ⟨wr.heap.size, 1, none⟩ = some (.int .i64 x2) := H7.cell (by simp)
                clear HH h7 SW
                go_wp2_with fail
                refine (PW.out _ H7.tab H7.nums).mono ?_
                rintro e w8 ⟨rfl, h8⟩
                have H8 := H7.step h8
                have z8 : wr.heap.size < w8.heap.size := H8.lt (o := 0) (v := .int .i64 x1) (by simp)
                replace c0 : w8.cell? ⟨wr.heap.size, 0, none⟩ = some (.int .i64 x1) := H8.cell (by simp)
                replace c1 : w8.cell? ⟨wr.heap.size, 1, none⟩ = some (.int .i64 x2) := H8.cell (by simp)
                clear H7 h8 PW z7
                go_wp2_with fail
                refine (TW.out _).mono ?_
                rintro e w9 ⟨rfl, h9⟩
                have H9 := H8.step h9
                have z9 : wr.heap.size < w9.heap.size := H9.lt (o := 0) (v := .int .i64 x1) (by simp)
                replace c0 : w9.cell? ⟨wr.heap.size, 0, none⟩ = some (.int .i64 x1) := H9.cell (by simp)
                replace c1 : w9.cell? ⟨wr.heap.size, 1, none⟩ = some (.int .i64 x2) := H9.cell (by simp)
                clear H8 h9 TW z8
                go_wp2_with fail
                refine (check_any _ _ _ _).mono ?_
                rw [EC.out]
                rintro e w10 ⟨rfl, h10⟩
                have HBX := Lib.hid (H9.step h10).bel
                clear H9 h10 c0 c1 z9
                go_wp2_with fail
                go_roundw
                case rel => exact ⟨q + 1, by omega, by go_num, HBX.out⟩
                case measure => simp [intOf]; omega
              · obtain ⟨⟨k1, k2, k3⟩, k4, k5⟩ := chkB_iff.1 hc
                obtain ⟨f, rfl⟩ := Int.eq_ofNat_of_zero_le k1
                obtain ⟨t, rfl⟩ := Int.eq_ofNat_of_zero_le (show 0 ≤ x2 by omega)
                have hft : f ≤ t := by omega
                have hts : t ≤ s.size := by omega
                have EC := Lib.hid (show errI (chkB (f : Nat) (t : Nat) s.size) 1 = 0 by rw [hc]; rfl)
                have SW := Lib.hid (fun w ht hn => show_any s p f t w HS.out ht hn hft hts)
                have PW := Lib.hid (fun w ht hn => point_any s p f t w HS.out ht hn hft hts)
                have TW := Lib.hid (fun w => text_yes s f t w hc)
                have LW := Lib.hid (fun w => len_any (f : Int) (t : Int) w)
                rw [lenI_yes (mayB_iff.2 ⟨k1, k2, k3⟩)] at LW
                have n1 := not_empty (showS_some s f t)
                have n2 := not_empty (pointS_some s f t)
                have n3 := not_empty_b (showS_some s f t)
                have n4 := not_empty_b (pointS_some s f t)
                have hy : (s.extract f t).size = t - f := by rw [ByteArray.size_extract]; omega
                clear hc k1 k2 k3 k4 k5
                generalize showS s f t = z at *
                generalize pointS s f t = pz at *
                generalize s.extract f t = y at *
                go_wp2_with fail
                refine (SW.out _ HH.tab HH.nums).mono ?_
                rintro e w7 ⟨rfl, h7⟩
                have H7 := HH.step h7
                have z7 : wr.heap.size < w7.heap.size := H7.lt (o := 0) (v := .int .i64 (f : Int)) (by simp)
                replace c0 : w7.cell? ⟨wr.heap.size, 0, none⟩ = some (.int .i64 (f : Int)) := H7.cell (by simp)
                replace c1 : w7.cell? ⟨wr.heap.size, 1, none⟩ = some (.int .i64 (t : Int)) := H7.cell (by simp)
                clear HH h7 SW
                go_wp2_with fail
                refine (PW.out _ H7.tab H7.nums).mono ?_
                rintro e w8 ⟨rfl, h8⟩
                have H8 := H7.step h8
                have z8 : wr.heap.size < w8.heap.size := H8.lt (o := 0) (v := .int .i64 (f : Int)) (by simp)
                replace c0 : w8.cell? ⟨wr.heap.size, 0, none⟩ = some (.int .i64 (f : Int)) := H8.cell (by simp)
                replace c1 : w8.cell? ⟨wr.heap.size, 1, none⟩ = some (.int .i64 (t : Int)) := H8.cell (by simp)
                clear H7 h8 PW z7
                go_wp2_with fail
                refine (TW.out _).mono ?_
                rintro e w9 ⟨rfl, h9⟩
                have H9 := H8.step h9
                have z9 : wr.heap.size < w9.heap.size := H9.lt (o := 0) (v := .int .i64 (f : Int)) (by simp)
                replace c0 : w9.cell? ⟨wr.heap.size, 0, none⟩ = some (.int .i64 (f : Int)) := H9.cell (by simp)
                replace c1 : w9.cell? ⟨wr.heap.size, 1, none⟩ = some (.int .i64 (t : Int)) := H9.cell (by simp)
                clear H8 h9 TW z8
                go_wp2_with fail
                refine (check_any _ _ _ _).mono ?_
                rw [EC.out]
                rintro e w10 ⟨rfl, h10⟩
                have HA := H9.step h10
                have zA : wr.heap.size < w10.heap.size := HA.lt (o := 0) (v := .int .i64 (f : Int)) (by simp)
                replace c0 : w10.cell? ⟨wr.heap.size, 0, none⟩ = some (.int .i64 (f : Int)) := HA.cell (by simp)
                replace c1 : w10.cell? ⟨wr.heap.size, 1, none⟩ = some (.int .i64 (t : Int)) := HA.cell (by simp)
                clear H9 h10 z9
                by_cases hq0 : y.size = 0
                · have HBX := Lib.hid HA.bel
                  clear HA hy
                  go_wp2_with fail
                  go_roundw
                  case rel => exact ⟨q + 1, by omega, by go_num, HBX.out⟩
                  case measure => simp [intOf]; omega
                · have hy2 : (y.size : Int) = (t : Int) - (f : Int) := by omega
                  clear hy
                  go_wp2_with fail
                  refine (LW.out _).mono ?_
                  rintro e w11 ⟨rfl, h11⟩
                  have HBX := Lib.hid (HA.step h11).bel
                  clear HA h11 c0 c1
                  go_wp2_with fail
                  go_roundw
                  case rel => exact ⟨q + 1, by omega, by go_num, HBX.out⟩
                  case measure => simp [intOf]; omega
            · go_wp2_with fail
              go_ret
              exact ⟨rfl, after H02.out hb2⟩

end Go.Proofs.YtfiphchjjgmcpaaDoor
