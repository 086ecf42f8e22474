/- LexWhole: the walk. -/
import Derived.Test.YtgcokjobnpjhhaaLexM
import Derived.IntWalk
namespace Go.Proofs.Ytgcokjobnpjhhaa
open Go Go.RowKit
set_option linter.unusedVariables false

theorem below_drwN {B : Nat} {a w : World} (h : Below B a w) (n : Nat) : Below B a (w.drewN n) := ⟨h.os, h.tape, h.output, h.size, h.block⟩
/-- where the token ahead ends, the end's own with them -/
def atE (l : List Tok) (n k : Nat) : Nat := if k ≤ l.length then atK l k else n
theorem atE_last (l : List Tok) (n : Nat) : atE l n (l.length + 1) = n := by unfold atE; rw [if_neg (by omega)]
/-- what is said of the k-th of all tokens -/
theorem whole_at {s : ByteArray} {l : List Tok} (hn : s.size ≤ 65536) (hok : ∀ k (h : k < l.length), TokOk (byS s) s.size (atK l k) l[k]) (hend : gapG (byS s) s.size (atK l l.length) = s.size) (hle : atK l l.length ≤ s.size)
    (k : Nat) (hk : k < l.length + 1) : ∃ x : Tok, (l ++ [(0, s.size, s.size)])[k]? = some x ∧ atE l s.size k ≤ x.2.1 ∧ x.2.1 ≤ x.2.2 ∧ x.2.2 ≤ s.size ∧ gapG (byS s) s.size (atE l s.size k) = x.2.1 ∧ atE l s.size (k + 1) = x.2.2 ∧
      (k = l.length → x.1 = 0) ∧ (k < l.length → 1 ≤ x.1 ∧ x.2.1 < x.2.2 ∧ lexG (byS (s.extract x.2.1 x.2.2)) (x.2.2 - x.2.1) = ([(x.1, 0, x.2.2 - x.2.1), (0, x.2.2 - x.2.1, x.2.2 - x.2.1)], 0, 0)) := by
  by_cases hlt : k < l.length
  · obtain ⟨h1, h2, h3, h4, h5, h6, h7, h8, h9⟩ := hok k hlt
    have e1 : atE l s.size k = atK l k := by unfold atE; rw [if_pos (by omega)]
    have e2 : atE l s.size (k + 1) = l[k].2.2 := by unfold atE; rw [if_pos (by omega), atK_succ l k hlt]
    refine ⟨l[k], by rw [List.getElem?_append_left hlt, List.getElem?_eq_getElem hlt], by rw [e1]; exact h1, by omega, h3, by rw [e1]; exact h6, e2, fun h => by omega, fun _ => ⟨h4, h2, ?_⟩⟩
    have hc := lex_cut (g := byS s) (g' := byS (s.extract l[k].2.1 l[k].2.2)) (n := s.size) (i := l[k].2.1) hn (by omega) h8 h9 (by rw [h7]) (fun j hj => by
      rw [h7] at hj
      exact byS_extract s l[k].2.1 l[k].2.2 j h3 hj)
    rw [h7] at hc
    exact hc
  · have hk' : k = l.length := by omega
    subst hk'
    have e1 : atE l s.size l.length = atK l l.length := by unfold atE; rw [if_pos (by omega)]
    refine ⟨(0, s.size, s.size), by rw [List.getElem?_append_right (Nat.le_refl _)]; simp, by rw [e1]; exact hle, Nat.le_refl _, Nat.le_refl _, by rw [e1]; exact hend, atE_last l _, fun _ => rfl, fun h => by omega⟩

set_option maxRecDepth 100000 in
set_option maxHeartbeats 8000000 in
theorem lexWhole_any (s : ByteArray) (hs : s.size ≤ maxLen) (w : World) :
    Calls Try.prog 3 #[.string s] w fun e w' => e = .returned (.bool true) ∧ Below w.heap.size w w' := by
  have HM := Lib.hid hs
  unfold maxLen at hs
  by_cases h3000 : 3000 < s.size
  · have i0 : (3000 : Int) < (s.size : Int) := by omega
    clear h3000
    go_enter Try.func3, Try.ntmps3
    go_wp2_with (go_at_call 9; refine (cuts_any _).mono ?_; rintro e w1 ⟨rfl, h01⟩)
    go_ret
    exact ⟨rfl, h01⟩
  · have i0 : ¬ (3000 : Int) < (s.size : Int) := by omega
    have HL := Lib.hid (fun w => lex_any s w HM.out)
    have HNO := Lib.hid (fun h => lex_no (g := byS s) (n := s.size) h)
    have HOK := Lib.hid (fun h => lex_ok (g := byS s) (n := s.size) h)
    generalize lexG (byS s) s.size = R at *
    by_cases hc : R.2.1 = 0
    · obtain ⟨hn, h0, l, hR, hll, hok, hend, hle⟩ := HOK.out hc
      have HW := Lib.hid (whole_at hn hok hend hle)
      have HC := Lib.hid hc
      have HR := Lib.hid hR
      clear hok hend hle hc hR HNO HOK h0
      go_enter Try.func3, Try.ntmps3
      go_wp2_with fail
      refine (cuts_any _).mono ?_
      rintro e w1 ⟨rfl, h01⟩
      have H1 := Lib.hid h01
      clear h01
      go_wp2_with fail
      refine (HL.out _).mono ?_
      rintro e w2 ⟨h12, hgood, -⟩
      obtain ⟨v, rfl, g, cap, rfl, hg1, hg2, hc1, hc2, hat⟩ := hgood HC.out
      rw [HR.out] at hat hc1 ⊢
      have H2 := Lib.hid (after H1.out h12)
      have HAT := Lib.hid hat
      have HLEN := Lib.hid (show (l ++ [(0, s.size, s.size)]).length = l.length + 1 by simp)
      generalize hLL : l ++ [(0, s.size, s.size)] = LL at *
      generalize hN : LL.length = N at *
      have hNle : N ≤ 3001 := by have := HLEN.out; omega
      clear hgood hat h12 hLL
      have HN := Lib.hid hN
      clear hN
      go_wp2_with fail
      go_loopw [28, 5] (fun t a wr => ∃ k : Nat, k ≤ N ∧ t = .int .i64 k ∧ a = .int .i64 (atE l s.size k : Nat) ∧ Below w2.heap.size w2 wr) (fun t _ _ => N - (intOf t).toNat)
      case atStart => exact ⟨0, by omega, rfl, rfl, (Below.refl _ _).alloc (Nat.le_refl _) _⟩
      case round =>
        obtain ⟨k, hk, rfl, rfl, hbel⟩ := hrel
        have HBEL := Lib.hid hbel
        have hbs := hbel.size
        by_cases hlt : k < N
        · obtain ⟨x, hx, x1, x2, x3, x4, x5, x6, x7⟩ := HW.out k (by have := HLEN.out; omega)
          have hkl : k < LL.length := by rw [HN.out]; exact hlt
          have hxe : LL[k] = x := by
            rw [List.getElem?_eq_getElem hkl] at hx; injection hx
          obtain ⟨c0, c1, c2⟩ := (HAT.out.below hbel hg2) k hkl
          rw [hxe] at c0 c1 c2
          rw [Nat.zero_add] at c0 c1 c2
          obtain ⟨xk, xf, xt⟩ := x
          dsimp only at c0 c1 c2 x1 x2 x3 x4 x5 x6 x7
          have hgw : g < wr.heap.size := by omega
          have i1 : (k : Int) < (N : Int) := by omega
          have HX5 := Lib.hid x5
          have HX7 := Lib.hid x7
          have hle0 : atE l s.size k ≤ s.size := by omega
          generalize atE l s.size k = a at *
          have hzf : (s.extract 0 xf).size = xf := by simp; omega
          have hgc : gapG (byS (s.extract 0 xf)) (s.extract 0 xf).size a = xf := by
            rw [hzf]
            exact gap_cut (g := byS s) (g' := byS (s.extract 0 xf)) (fun j hj => by rw [byS_extract s 0 xf j (by omega) (by omega), Nat.zero_add]) a hle0 x4
          have HBT : Hid (∀ w, Calls Try.prog 11 #[.string (s.extract 0 xf), .int .i64 (a : Nat)] w fun e w' => e = .returned (.int .i64 (xf : Nat)) ∧ w' = w) := Lib.hid (fun w =>
            (between_at (s.extract 0 xf) a w (by omega) (by omega)).mono fun e w' h => ⟨by rw [h.1, hgc], h.2.symm⟩)
          clear hbel hx hxe hkl hzf hgc x4 x5 x7
          rename World => wr
          have HB7 : Hid (∀ n, ((wr.alloc (.cells #[.int .i64 (xk : Nat), .int .i64 (xf : Nat), .int .i64 (xt : Nat)] 32)).drewN n).cell? ⟨wr.heap.size, 0, none⟩ = some (.int .i64 (xk : Nat)) ∧ ((wr.alloc (.cells #[.int .i64 (xk : Nat), .int .i64 (xf : Nat), .int .i64 (xt : Nat)] 32)).drewN n).cell? ⟨wr.heap.size, 1, none⟩ = some (.int .i64 (xf : Nat)) ∧ ((wr.alloc (.cells #[.int .i64 (xk : Nat), .int .i64 (xf : Nat), .int .i64 (xt : Nat)] 32)).drewN n).cell? ⟨wr.heap.size, 2, none⟩ = some (.int .i64 (xt : Nat)) ∧ wr.heap.size < ((wr.alloc (.cells #[.int .i64 (xk : Nat), .int .i64 (xf : Nat), .int .i64 (xt : Nat)] 32)).drewN n).heap.size ∧ Below wr.heap.size wr ((wr.alloc (.cells #[.int .i64 (xk : Nat), .int .i64 (xf : Nat), .int .i64 (xt : Nat)] 32)).drewN n)) := Lib.hid (fun n => by
            refine ⟨?_, ?_, ?_, ?_, below_drwN ((Below.refl _ _).alloc (Nat.le_refl _) _) n⟩
            · show (wr.alloc _).cell? _ = _; simp [go_sem]
            · show (wr.alloc _).cell? _ = _; simp [go_sem]
            · show (wr.alloc _).cell? _ = _; simp [go_sem]
            · show wr.heap.size < (wr.alloc _).heap.size; simp)
          have d1 : decide ((xf : Int) < (a : Int)) = false := decide_eq_false (by omega)
          have d2 : decide ((xt : Int) < (xf : Int)) = false := decide_eq_false (by omega)
          have d3 : decide ((s.size : Int) < (xt : Int)) = false := decide_eq_false (by omega)
          have d4 : ((xf : Int) != (xf : Int)) = false := by simp
          have j1 : IntKind.i64.wrap ((N : Int) - 1) = (N : Int) - 1 := IntWalk.i64_in _ ⟨by omega, by omega⟩
          have j2 : xf ≤ s.size := by omega
          have j3 : (xf : Int) ≤ (s.size : Int) := by omega
          by_cases hlast : k < l.length
          · obtain ⟨y1, y2, y3⟩ := HX7.out hlast
            have HY3 := Lib.hid y3
            have d5 : ((xk : Int) == 0) = false := by simp; omega
            have d6 : ((k : Int) == (N : Int) - 1) = false := by have := HLEN.out; simp; omega
            have d7 : ((xk : Int) != 0) = true := by simp; omega
            clear y3 x6 hlast
            go_wp2_with fail
            go_quiet ((go_at_call 11; exact Calls.quiet_of_same (HBT.out _)))
            go_wp2_with fail
            refine (lex_any (s.extract xf xt) _ (by unfold maxLen; simp; omega)).mono ?_
            rintro e w4 ⟨h34, hgood2, -⟩
            have hz2 : (s.extract xf xt).size = xt - xf := by simp; omega
            rw [hz2, HY3.out] at hgood2
            obtain ⟨v2, rfl, g2, cap2, rfl, hg21, hg22, -, -, hat2⟩ := hgood2 rfl
            obtain ⟨e0, -, e2⟩ := hat2 0 (by simp)
            simp only [List.getElem_cons_zero, Nat.zero_mul, Nat.add_zero, Nat.zero_add] at e0 e2
            obtain ⟨b0, b1, b2, b3, b4⟩ := HB7.out _
            have p0 := keep h34 b3 b0
            have p1 := keep h34 b3 b1
            have p2 := keep h34 b3 b2
            have p3 : wr.heap.size < w4.heap.size := Nat.lt_of_lt_of_le b3 h34.size
            have HBE := Lib.hid (after (after HBEL.out b4) h34)
            obtain ⟨m, hm⟩ : ∃ m, m = xt - xf := ⟨_, rfl⟩
            rw [← hm] at e2
            have r1 : ((m : Int) != (xt : Int) - (xf : Int)) = false := by simp; omega
            have r2 : ((xt : Int) == (xf : Int)) = false := by simp; omega
            have r3 : IntKind.i64.wrap ((xt : Int) - (xf : Int)) = (xt : Int) - (xf : Int) := IntWalk.i64_in _ ⟨by omega, by omega⟩
            have r4 : ((xk : Int) != (xk : Int)) = false := by simp
            clear b0 b1 b2 b3 b4 hgood2 hat2 hz2 h34 hm c0 c1 c2
            go_wp2_with fail
            go_quiet (fail)
            go_wp2_with fail
            go_roundw
            case rel => exact ⟨k + 1, by omega, by go_num, by rw [HX5.out], below_drwN (HBE.out.alloc HBE.out.size _) _⟩
            case measure => simp [intOf]; omega
          · have hkl : k = l.length := by have := HLEN.out; omega
            have hx0 := x6 hkl
            subst hx0
            have d5 : (((0 : Nat) : Int) == 0) = true := rfl
            have d6 : ((k : Int) == (N : Int) - 1) = true := by have := HLEN.out; simp; omega
            clear hkl hlast x6
            go_wp2_with fail
            go_quiet ((go_at_call 11; exact Calls.quiet_of_same (HBT.out _)))
            go_wp2_with fail
            go_roundw
            case rel => exact ⟨k + 1, by omega, by go_num, by rw [HX5.out], after HBEL.out (HB7.out _).2.2.2.2⟩
            case measure => simp [intOf]; omega
        · have hkN : k = N := by omega
          have hE : atE l s.size k = s.size := by rw [hkN, HLEN.out]; exact atE_last l _
          have HB := Lib.hid (after H2.out hbel)
          generalize atE l s.size k = a at *
          have t9 : ((a : Int) == (s.size : Int)) = true := by simp; omega
          clear hE hkN hbel HBEL
          go_wp2_with fail
          go_ret
          exact ⟨rfl, HB.out⟩
    · have E := Lib.hid hc
      have t1 : ((R.2.1 : Int) != 0) = true := by simp; omega
      clear hc HNO HOK
      go_enter Try.func3, Try.ntmps3
      go_wp2_with fail
      refine (cuts_any _).mono ?_
      rintro e w1 ⟨rfl, h01⟩
      have H1 := Lib.hid h01
      clear h01
      go_wp2_with fail
      refine (HL.out _).mono ?_
      rintro e w2 ⟨h12, -, hbad⟩
      have he := hbad E.out
      subst he
      have H2 := Lib.hid (after H1.out h12)
      clear h12 hbad
      go_wp2_with fail
      go_ret
      exact ⟨rfl, H2.out.alloc H2.out.size _⟩

end Go.Proofs.Ytgcokjobnpjhhaa
