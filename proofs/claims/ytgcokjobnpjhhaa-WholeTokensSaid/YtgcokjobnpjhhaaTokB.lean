/- WholeTokens: the walk. -/
import Derived.Test.YtgcokjobnpjhhaaTokA
import Derived.Test.YtgcokjobnpjhhaaLexQ
namespace Go.Proofs.Ytgcokjobnpjhhaa
open Go Go.RowKit
set_option linter.unusedVariables false

theorem twelve : intR ⟨#[49, 50]⟩ = (12, 0) := by decide +kernel
theorem twelve_any (w : World) : Calls Try.prog 18 #[.string ⟨#[49, 50]⟩] w fun e w' => e = .returned (.tuple #[.int .i64 12, .int .i64 0]) ∧ w = w' :=
  (int_any ⟨#[49, 50]⟩ w (by decide)).mono fun e w' h => by rw [twelve] at h; exact h

set_option maxRecDepth 100000 in
set_option maxHeartbeats 16000000 in
theorem wholeTokens_any (s : ByteArray) (hs : s.size ≤ maxLen) (w : World) :
    Calls Try.prog 8 #[.string s] w fun e w' => e = .returned (.bool true) ∧ Below w.heap.size w w' := by
  have HM := Lib.hid hs
  unfold maxLen at hs
  by_cases h2000 : 2000 < s.size
  · have i0 : (2000 : Int) < (s.size : Int) := by omega
    clear h2000
    go_enter Try.func8, Try.ntmps8
    go_wp2_with (go_at_call 18; refine (twelve_any _).mono ?_; rintro e w1 ⟨rfl, rfl⟩)
    go_ret
    exact ⟨rfl, Below.refl _ _⟩
  · have i0 : ¬ (2000 : Int) < (s.size : Int) := by omega
    have HL := Lib.hid (fun w => lex_any s w HM.out)
    have HNO := Lib.hid (fun h => lex_no (g := byS s) (n := s.size) h)
    have HOK := Lib.hid (fun h => lex_ok (g := byS s) (n := s.size) h)
    generalize lexG (byS s) s.size = R at *
    by_cases hc : R.2.1 = 0
    · obtain ⟨hn, h0, l, hR, hll, hok, hend, hle⟩ := HOK.out hc
      have HTK := Lib.hid hok
      have HC := Lib.hid hc
      have HR := Lib.hid hR
      clear hok hend hle hc hR HNO HOK h0
      go_enter Try.func8, Try.ntmps8
      go_wp2_with (go_at_call 18; refine (twelve_any _).mono ?_; rintro e w1 ⟨rfl, rfl⟩)
      refine (HL.out _).mono ?_
      rintro e w2 ⟨h12, hgood, -⟩
      obtain ⟨v, rfl, g, cap, rfl, hg1, hg2, hc1, hc2, hat⟩ := hgood HC.out
      rw [HR.out] at hat hc1 ⊢
      have H2 := Lib.hid h12
      have HAT := Lib.hid hat
      have HLEN := Lib.hid (show (l ++ [(0, s.size, s.size)]).length = l.length + 1 by simp)
      have HGET : Hid (∀ k, k < l.length + 1 → ∃ x : Tok, (l ++ [(0, s.size, s.size)])[k]? = some x ∧ x.2.1 ≤ x.2.2 ∧ x.2.2 ≤ s.size ∧ x.1 ≤ 5 ∧ (x.1 ≠ 0 → 0 < x.2.2 - x.2.1 ∧ reachG (byS (s.extract x.2.1 x.2.2)) (x.2.2 - x.2.1) 0 = (x.1, x.2.2 - x.2.1) ∧ x.2.2 - x.2.1 ≤ longG x.1 ∧ (x.1 = 4 → (saidG (byS (s.extract x.2.1 x.2.2)) (x.2.2 - x.2.1) 1 false []).1 = 0))) := Lib.hid (fun k hk => by
        by_cases hlt : k < l.length
        · obtain ⟨a1, a2, a3, a4, a5, a6, a7, -, -⟩ := HTK.out k hlt
          exact ⟨l[k], by rw [List.getElem?_append_left hlt, List.getElem?_eq_getElem hlt], by omega, a3, a5, fun _ => token_self (by omega) a7 (fun j hj => byS_extract s _ _ j a3 hj)⟩
        · have hkl : k = l.length := by omega
          exact ⟨(0, s.size, s.size), by rw [hkl, List.getElem?_append_right (Nat.le_refl _)]; simp, Nat.le_refl _, Nat.le_refl _, by simp, fun h => absurd rfl h⟩)
      generalize hLL : l ++ [(0, s.size, s.size)] = LL at *
      generalize hN : LL.length = N at *
      have hNle : N ≤ 2001 := by have := HLEN.out; omega
      have HN := Lib.hid hN
      clear hgood hat h12 hLL hN HTK
      go_wp2_with fail
      go_loopw [48] (fun t wr => ∃ k : Nat, k ≤ N ∧ t = .int .i64 k ∧ Below w2.heap.size w2 wr) (fun t _ => N - (intOf t).toNat)
      case atStart => exact ⟨0, by omega, rfl, (Below.refl _ _).alloc (Nat.le_refl _) _⟩
      case round =>
        obtain ⟨k, hk, rfl, hbel⟩ := hrel
        have HBEL := Lib.hid hbel
        have hbs := hbel.size
        by_cases hlt : k < N
        · obtain ⟨x, hx, x1, x2, x3, x4⟩ := HGET.out k (by have := HLEN.out; omega)
          have hkl : k < LL.length := by rw [HN.out]; exact hlt
          have hxe : LL[k] = x := by
            rw [List.getElem?_eq_getElem hkl] at hx; injection hx
          obtain ⟨c0, c1, c2⟩ := (HAT.out.below hbel hg2) k hkl
          rw [hxe] at c0 c1 c2
          rw [Nat.zero_add] at c0 c1 c2
          obtain ⟨xk, xf, xt⟩ := x
          dsimp only at c0 c1 c2 x1 x2 x3 x4
          have hgw : g < wr.heap.size := by omega
          have i1 : (k : Int) < (N : Int) := by omega
          have hz : (s.extract xf xt).size = xt - xf := by simp; omega
          rw [← hz] at x4
          have HX4 := Lib.hid x4
          have HSAY := Lib.hid (fun w => say_any s xk xf xt w (by omega) x1 x2)
          generalize s.extract xf xt = W at *
          have hzW : W.size ≤ 2000 := by omega
          have hzM : W.size ≤ maxLen := by unfold maxLen; omega
          have HZM := Lib.hid hzM
          clear hbel hx hxe hkl hz x4 hzM
          rename World => wr
          go_wp2_with fail
          refine (HSAY.out _).mono ?_
          rintro e w4 ⟨rfl, h34⟩
          have b0 : w4.cell? ⟨wr.heap.size, 0, none⟩ = some (.int .i64 (xk : Nat)) := keep h34 (by simp) (by simp [go_sem])
          have b3 : wr.heap.size < w4.heap.size := by have := h34.size; simp at this; omega
          have HBE := Lib.hid (after (HBEL.out.alloc HBEL.out.size _) h34)
          clear h34 c0 c1 c2
          have hcases : xk = 0 ∨ xk = 1 ∨ xk = 2 ∨ xk = 3 ∨ xk = 4 ∨ xk = 5 := by omega
          rcases hcases with rfl | rfl | rfl | rfl | rfl | rfl
          · go_wp2_with fail
            go_roundw
            case rel => exact ⟨k + 1, by omega, by go_num, HBE.out⟩
            case measure => simp [intOf]; omega
          · obtain ⟨p1, p2, p3, -⟩ := HX4.out (by decide)
            have hw := word_says W p1 p2 p3
            have HNM := Lib.hid (fun w => name_any W w HZM.out)
            have HKP := Lib.hid (fun w => kept_any W w)
            rw [hw] at HNM
            clear hw p1 p2 p3
            generalize keptS W = b at *
            have kk : ((!b) == b) = false := by cases b <;> rfl
            go_wp2_with fail
            refine (HNM.out _).mono ?_
            rintro e w5 ⟨rfl, rfl⟩
            go_wp2_with fail
            refine (HKP.out _).mono ?_
            rintro e w5 ⟨rfl, rfl⟩
            go_wp2_with fail
            go_roundw
            case rel => exact ⟨k + 1, by omega, by go_num, HBE.out⟩
            case measure => simp [intOf]; omega
          · obtain ⟨p1, p2, -, -⟩ := HX4.out (by decide)
            obtain ⟨q1, q2⟩ := number_says W p1 p2
            have HI := Lib.hid (fun w => int_any W w (by have := HZM.out; unfold maxLen at this; omega))
            generalize hv : intR W = r at *
            obtain ⟨n, e5⟩ := r
            dsimp only at q1 q2 HI
            have q3 : ¬ n < 0 := by omega
            have HB := Lib.hid (byS_get W 0 p1)
            clear p2 hv
            rcases q2 with rfl | rfl | ⟨rfl, q4, q5⟩
            · go_wp2_with fail
              refine (HI.out _).mono ?_
              rintro e w5 ⟨rfl, rfl⟩
              go_wp2_with fail
              go_roundw
              case rel => exact ⟨k + 1, by omega, by go_num, HBE.out⟩
              case measure => simp [intOf]; omega
            · go_wp2_with fail
              refine (HI.out _).mono ?_
              rintro e w5 ⟨rfl, rfl⟩
              go_wp2_with fail
              go_roundw
              case rel => exact ⟨k + 1, by omega, by go_num, HBE.out⟩
              case measure => simp [intOf]; omega
            · have q6 : W[0].toNat = 48 := by rw [← HB.out]; exact q4
              have q7 : ((W[0].toNat : Int) == 48) = true := by rw [q6]; rfl
              have q8 : (1 : Int) < (W.size : Int) := by omega
              clear q4 q6
              go_wp2_with fail
              refine (HI.out _).mono ?_
              rintro e w5 ⟨rfl, rfl⟩
              go_wp2_with fail
              go_roundw
              case rel => exact ⟨k + 1, by omega, by go_num, HBE.out⟩
              case measure => simp [intOf]; omega
          · obtain ⟨p1, p2, -, -⟩ := HX4.out (by decide)
            obtain ⟨q1, q2, q3, q4⟩ := float_says W p1 p2
            have HF := Lib.hid (fun w => float_any W w (by have := HZM.out; unfold maxLen at this; omega))
            have HB := Lib.hid (byS_get W 0 p1)
            generalize hv : fltR W = r at *
            obtain ⟨x, e5⟩ := r
            dsimp only at q1 q2 q3 q4 HF
            have hl := whole_less q1 q2 q3
            obtain ⟨hn1, hn2⟩ := neg_neg q1 q2
            have HTI := Lib.hid (fun w => toint_any x w)
            have HTF := Lib.hid (fun w => tofloat_any (toI x) w)
            have HCM := Lib.hid (fun w => fcompare_any ⟨#[60]⟩ x (toF (toI x)) w q1 (toF_lt _))
            rw [holds_less, hl] at HCM
            have HN1 := Lib.hid (fun w => fneg_any x w q1)
            have HN2 := Lib.hid (fun w => fneg_any (norm (flip x)) w hn2)
            rw [hn1] at HN2
            generalize toF (toI x) = y at *
            generalize toI x = z at *
            generalize norm (flip x) = u at *
            have hxx : ((x : Int) != (x : Int)) = false := by simp
            clear p2 hv q2 q3 hl hn1 hn2
            rcases q4 with rfl | rfl | ⟨rfl, q4⟩
            · go_wp2_with fail
              refine (HF.out _).mono ?_
              rintro e w5 ⟨rfl, nd, rfl⟩
              have HBE := Lib.hid (below_drwN HBE.out nd)
              go_wp2_with fail
              refine (HTI.out _).mono ?_
              rintro e w5 ⟨rfl, rfl⟩
              go_wp2_with fail
              refine (HTF.out _).mono ?_
              rintro e w5 ⟨rfl, rfl⟩
              go_wp2_with fail
              refine (HCM.out _).mono ?_
              rintro e w5 ⟨rfl, rfl⟩
              go_wp2_with fail
              refine (HN1.out _).mono ?_
              rintro e w5 ⟨rfl, rfl⟩
              go_wp2_with fail
              refine (HN2.out _).mono ?_
              rintro e w5 ⟨rfl, rfl⟩
              go_wp2_with fail
              go_roundw
              case rel => exact ⟨k + 1, by omega, by go_num, HBE.out⟩
              case measure => simp [intOf]; omega
            · go_wp2_with fail
              refine (HF.out _).mono ?_
              rintro e w5 ⟨rfl, nd, rfl⟩
              have HBE := Lib.hid (below_drwN HBE.out nd)
              go_wp2_with fail
              refine (HTI.out _).mono ?_
              rintro e w5 ⟨rfl, rfl⟩
              go_wp2_with fail
              refine (HTF.out _).mono ?_
              rintro e w5 ⟨rfl, rfl⟩
              go_wp2_with fail
              refine (HCM.out _).mono ?_
              rintro e w5 ⟨rfl, rfl⟩
              go_wp2_with fail
              refine (HN1.out _).mono ?_
              rintro e w5 ⟨rfl, rfl⟩
              go_wp2_with fail
              refine (HN2.out _).mono ?_
              rintro e w5 ⟨rfl, rfl⟩
              go_wp2_with fail
              go_roundw
              case rel => exact ⟨k + 1, by omega, by go_num, HBE.out⟩
              case measure => simp [intOf]; omega
            · have q6 : W[0].toNat = 48 := by rw [← HB.out]; exact q4
              have q7 : ((W[0].toNat : Int) == 48) = true := by rw [q6]; rfl
              clear q4 q6
              go_wp2_with fail
              refine (HF.out _).mono ?_
              rintro e w5 ⟨rfl, nd, rfl⟩
              have HBE := Lib.hid (below_drwN HBE.out nd)
              go_wp2_with fail
              refine (HTI.out _).mono ?_
              rintro e w5 ⟨rfl, rfl⟩
              go_wp2_with fail
              refine (HTF.out _).mono ?_
              rintro e w5 ⟨rfl, rfl⟩
              go_wp2_with fail
              refine (HCM.out _).mono ?_
              rintro e w5 ⟨rfl, rfl⟩
              go_wp2_with fail
              refine (HN1.out _).mono ?_
              rintro e w5 ⟨rfl, rfl⟩
              go_wp2_with fail
              refine (HN2.out _).mono ?_
              rintro e w5 ⟨rfl, rfl⟩
              go_wp2_with fail
              go_roundw
              case rel => exact ⟨k + 1, by omega, by go_num, HBE.out⟩
              case measure => simp [intOf]; omega
          · obtain ⟨p1, p2, -, p4⟩ := HX4.out (by decide)
            obtain ⟨out, q1, q2, q3, q4⟩ := text_says W p1 p2 (p4 rfl)
            have hzq := quoteL_len out
            have hz1 := strN_size out
            have hz2 := strN_size (34 :: (quoteL out ++ [34]))
            rw [List.length_cons, List.length_append, List.length_singleton] at hz2
            have HU : Hid (∀ w, Calls Try.prog 13 #[.string W] w fun e w' => e = .returned (.tuple #[.string (strN out), .int .i64 0]) ∧ Below w.heap.size w w') := Lib.hid (fun w =>
              (unquote_any W w (by omega)).mono fun e w' h => by rw [q1] at h; exact ⟨h.1, h.2⟩)
            have HQ : Hid (∀ w, Calls Try.prog 12 #[.string (strN out)] w fun e w' => e = .returned (.tuple #[.string (strN (34 :: (quoteL out ++ [34]))), .int .i64 0]) ∧ Below w.heap.size w w') := Lib.hid (fun w =>
              (quote_any (strN out) w (by omega)).mono fun e w' h => by rw [q3] at h; exact ⟨h.1, h.2⟩)
            have HV : Hid (∀ w, Calls Try.prog 13 #[.string (strN (34 :: (quoteL out ++ [34])))] w fun e w' => e = .returned (.tuple #[.string (strN out), .int .i64 0]) ∧ Below w.heap.size w w') := Lib.hid (fun w =>
              (unquote_any (strN (34 :: (quoteL out ++ [34]))) w (by omega)).mono fun e w' h => by rw [q4] at h; exact ⟨h.1, h.2⟩)
            clear p1 p2 p4 q1 q2 q3 q4 hzq hz1 hz2
            generalize strN out = u at *
            generalize strN (34 :: (quoteL out ++ [34])) = q at *
            have huu : (u.toList != u.toList) = false := by simp
            go_wp2_with fail
            refine (HU.out _).mono ?_
            rintro e w5 ⟨rfl, h45⟩
            have HBE := Lib.hid (HBE.out.trans (h45.mono HBE.out.size))
            clear h45
            go_wp2_with fail
            refine (HQ.out _).mono ?_
            rintro e w6 ⟨rfl, h56⟩
            have HBE := Lib.hid (HBE.out.trans (h56.mono HBE.out.size))
            clear h56
            go_wp2_with fail
            refine (HV.out _).mono ?_
            rintro e w7 ⟨rfl, h67⟩
            have HBE := Lib.hid (HBE.out.trans (h67.mono HBE.out.size))
            clear h67
            go_wp2_with fail
            go_roundw
            case rel => exact ⟨k + 1, by omega, by go_num, HBE.out⟩
            case measure => simp [intOf]; omega
          · go_wp2_with fail
            go_roundw
            case rel => exact ⟨k + 1, by omega, by go_num, HBE.out⟩
            case measure => simp [intOf]; omega
        · have HB := Lib.hid (after H2.out hbel)
          clear hbel HBEL
          go_wp2_with fail
          go_ret
          exact ⟨rfl, HB.out⟩
    · have E := Lib.hid hc
      have t1 : ((R.2.1 : Int) != 0) = true := by simp; omega
      clear hc HNO HOK
      go_enter Try.func8, Try.ntmps8
      go_wp2_with (go_at_call 18; refine (twelve_any _).mono ?_; rintro e w1 ⟨rfl, rfl⟩)
      refine (HL.out _).mono ?_
      rintro e w2 ⟨h12, -, hbad⟩
      have he := hbad E.out
      subst he
      have H2 := Lib.hid h12
      clear h12 hbad
      go_wp2_with fail
      go_ret
      exact ⟨rfl, H2.out.alloc H2.out.size _⟩

end Go.Proofs.Ytgcokjobnpjhhaa
