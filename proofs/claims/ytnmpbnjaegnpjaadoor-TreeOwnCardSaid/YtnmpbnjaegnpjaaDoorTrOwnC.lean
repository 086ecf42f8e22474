/- The walk of the law on whose memory it is. -/
import Derived.Test.YtnmpbnjaegnpjaaDoorTrOwnB
namespace Go.Proofs.YtnmpbnjaegnpjaaDoor
open Go Go.RowKit
set_option linter.unusedVariables false
set_option linter.unusedSimpArgs false

set_option maxRecDepth 100000 in
set_option maxHeartbeats 600000 in
theorem treeOwn_any {w : World} (v0 : Value) (l0 : List Int) (h0 : KidsV w v0 l0) (v1 : Value) (l1 : List Int) (h1 : KidsV w v1 l1) (hG : Calls Tryd.prog 4 #[] w fun e w' => e = .returned (.bool true) ∧ Below w.heap.size w w') : Calls Tryd.prog 3 #[v0, v1] w fun e w' => e = .returned (.bool true) ∧ Below w.heap.size w w' := by
  have H0 := Lib.hid h0
  have H1 := Lib.hid h1
  obtain ⟨s0, c0, rfl, k0, -⟩ := h0
  obtain ⟨s1, c1, rfl, k1, -⟩ := h1
  have KI0 := Lib.hid k0
  have KI1 := Lib.hid k1
  clear k0 k1
  obtain ⟨n0, hn0⟩ : ∃ n, n = l0.length := ⟨_, rfl⟩
  obtain ⟨n1, hn1⟩ : ∃ n, n = l1.length := ⟨_, rfl⟩
  have HN0 := Lib.hid hn0
  have HN1 := Lib.hid hn1
  rw [← hn0, ← hn1]
  rw [← hn0] at H0
  rw [← hn1] at H1
  have HG := Lib.hid hG
  clear hn0 hn1 hG
  by_cases g0 : 20 < n0
  · have q0 : decide ((20 : Int) < (n0 : Int)) = true := decide_eq_true (by omega)
    go_enter Tryd.func3, Tryd.ntmps3
    go_wp2_with fail
    refine HG.out.mono ?_
    rintro e w1 ⟨rfl, hb1⟩
    go_wp2_with fail
    go_ret
    exact ⟨rfl, hb1⟩
  · have q0 : decide ((20 : Int) < (n0 : Int)) = false := decide_eq_false (by omega)
    by_cases g1 : 20 < n1
    · have q1 : decide ((20 : Int) < (n1 : Int)) = true := decide_eq_true (by omega)
      go_enter Tryd.func3, Tryd.ntmps3
      go_wp2_with fail
      refine HG.out.mono ?_
      rintro e w1 ⟨rfl, hb1⟩
      go_wp2_with fail
      go_ret
      exact ⟨rfl, hb1⟩
    · have q1 : decide ((20 : Int) < (n1 : Int)) = false := decide_eq_false (by omega)
      go_enter Tryd.func3, Tryd.ntmps3
      go_wp2_with fail
      refine HG.out.mono ?_
      rintro e w1 ⟨rfl, hb1⟩
      have HB1 := Lib.hid hb1
      obtain ⟨Wb, hWb⟩ : ∃ W, W = w1.alloc (.cells #[.slice none 0 0] 26) := ⟨_, rfl⟩
      have HXb : Hid (Bx 26 Wb w1.heap.size [.slice none 0 0]) := Lib.hid (by rw [hWb]; exact Bx.new 26 w1 _)
      have HSb : Hid (Wb.heap.size = w1.heap.size + 1) := Lib.hid (by rw [hWb]; simp)
      have HBb : Hid (Below w1.heap.size w1 Wb) := Lib.hid (by rw [hWb]; exact (Below.refl _ _).alloc (Nat.le_refl _) _)
      have HBw : Hid (Below w.heap.size w (Wb.alloc (.cells #[] 3))) := Lib.hid ((after HB1.out HBb.out).alloc (by have := HB1.out.size; have := HBb.out.size; omega) _)
      obtain ⟨m0, W2, r0, o0, gr0⟩ := append_nums 22 (Wb.alloc (.cells #[] 3)) w.heap.size 0 (.slice (some ⟨w1.heap.size + 1, 0, none⟩) 0 0) [] (by
        rw [← HSb.out]
        exact World.ownsRow_made Wb #[] 0 (by have := HB1.out.size; have := HBb.out.size; omega) (Nat.zero_le _) rfl) (.slice s0 n0 c0) l0 (H0.out.step HBw.out) (by have := HN0.out; omega) (by have := HBw.out.size; omega)
      rw [Nat.zero_add, ← HN0.out, List.nil_append] at o0
      rw [hWb] at r0
      have O0 := Lib.hid o0
      have HB2 : Hid (Below w.heap.size w W2) := Lib.hid (Below.grown HBw.out gr0 HBw.out.size (fun k hk => by
        simp [Value.ownBlock] at hk; have := HB1.out.size; omega))
      have HX2 : Hid (Bx 26 W2 w1.heap.size [.slice none 0 0]) := Lib.hid ((HXb.out.alloc _).grown gr0 (by simp [Value.ownBlock]))
      clear o0
      have HR0 := Lib.hid r0
      have o0 := O0.out.alloc (.cells #[] 3)
      have b2 : w.heap.size ≤ W2.heap.size := HB2.out.size
      obtain ⟨m1, W3, r1, o1, gr1⟩ := append_nums 22 (W2.alloc (.cells #[] 3)) w.heap.size 0 (.slice (some ⟨W2.heap.size, 0, none⟩) 0 0) [] (World.ownsRow_made W2 #[] 0 b2 (Nat.zero_le _) rfl) (.slice s1 n1 c1) l1 (H1.out.step (HB2.out.alloc b2 _)) (by have := HN1.out; omega) (by simp; omega)
      rw [Nat.zero_add, ← HN1.out, List.nil_append] at o1
      have HR1 := Lib.hid r1
      have O1 := Lib.hid o1
      have HB3 : Hid (Below w.heap.size w W3) := Lib.hid (Below.grown (HB2.out.alloc b2 _) gr1 (by simp; omega) (fun k hk => by
        simp [Value.ownBlock] at hk; omega))
      have hx1 := HX2.out.lt
      have HX3 : Hid (Bx 26 W3 w1.heap.size [.slice none 0 0]) := Lib.hid ((HX2.out.alloc _).grown gr1 (by simp [Value.ownBlock]; omega))
      have HO3 : Hid (W3.ownsRow w.heap.size 3 1 m0 n0 (numC l0)) := Lib.hid (o0.kept gr1 (by
        right; intro e
        have := (O0.out.lt W2.heap.size (by rw [e]; rfl)).2
        omega))
      obtain ⟨sm0, cm0, hm0⟩ := owns_shape HO3.out
      obtain ⟨sm1, cm1, hm1⟩ := owns_shape O1.out
      subst hm0 hm1
      clear hb1 gr0 hWb o0 o1 gr1 r0 r1 hx1 b2 HX2 HB2 O0 HBw HBb HSb HXb H0 H1
      go_wp2_with (first | (at_builtin; refine wpList_append_run rfl _ _ 22 rfl (.slice (some ⟨w1.heap.size + 1, 0, none⟩) 0 0) (.slice s0 n0 c0) (.slice sm0 n0 cm0) W2 rfl rfl HR0.out ?_) | (at_builtin; refine wpList_append_run rfl _ _ 22 rfl (.slice (some ⟨W2.heap.size, 0, none⟩) 0 0) (.slice s1 n1 c1) (.slice sm1 n1 cm1) W3 rfl rfl HR1.out ?_) | (at_builtin; skip))
      have hbd := bld_nil HX3.out
      have l20 : l0.length ≤ 20 := by have := HN0.out; omega
      have l21 : l1.length ≤ 20 := by have := HN1.out; omega
      have NV0 : NumsV W3 (.slice sm0 n0 cm0) l0 := owns_nums HO3.out HN0.out
      have NV1 : NumsV W3 (.slice sm1 n1 cm1) l1 := owns_nums O1.out HN1.out
      refine (add3_any 26 (by decide) (by decide) [] w1.heap.size w1.heap.size [] (.slice none 0 0) 8 0 0 l0 ⟨#[]⟩ 0 ⟨#[]⟩ 0 ⟨#[]⟩ 0 0 0 l1 (.slice sm0 n0 cm0) (.slice sm1 n1 cm1) W3 hbd (Nat.le_of_lt HX3.out.lt) (by decide) NV0 NV1 (by omega) (by omega) (by decide) (by decide) (by decide)).mono ?_
      rintro e W4 ⟨rfl, hb4, ⟨y, v4, hy, bd4, ny0, ny1⟩, -, oth4⟩
      rw [List.nil_append] at bd4
      have HB4 := Lib.hid hb4
      have HY := Lib.hid (show y.1 = ownX l0 l1 from hy)
      have BD4 := Lib.hid bd4
      have NY0 := Lib.hid ny0
      have NY1 := Lib.hid ny1
      have OT4 : Hid (∀ k, k < W3.heap.size → k ≠ w1.heap.size → W4.heap[k]? = W3.heap[k]?) := Lib.hid (fun k h1 h2 => oth4 k h1 h2 (by simp [Value.ownBlock]))
      have L20 := Lib.hid l20
      have L21 := Lib.hid l21
      clear hbd NV0 NV1 hb4 hy bd4 ny0 ny1 oth4 l20 l21 g0 g1 q0 q1
      go_wp2_with fail
      have HM : Hid (([y] : List NdR).map (·.1) = [ownX l0 l1]) := Lib.hid (by simp [HY.out])
      refine (btree_any 26 [] w1.heap.size w1.heap.size [y] v4 W4 BD4.out (by simp) (by simp) (by rw [HM.out]; intro x hx; simp at hx; subst hx; exact own_fit L20.out L21.out)).mono ?_
      rw [HM.out]
      rintro e W5 ⟨sc, cc, rfl, hb5, n5⟩
      have HB5 := Lib.hid hb5
      have N5 := Lib.hid n5
      clear hb5 n5
      go_wp2_with fail
      have HA5 : Hid (Below W5.heap.size W5 (W5.alloc (.cells #[.slice sc 1 cc, .int .i64 0] 36))) := Lib.hid ((Below.refl _ _).alloc (Nat.le_refl _) _)
      have TB5 : Hid (Bx 36 (W5.alloc (.cells #[.slice sc 1 cc, .int .i64 0] 36)) W5.heap.size [.slice sc 1 cc, .int .i64 0]) := Lib.hid (Bx.new 36 W5 _)
      refine (copy_any [ownX l0 l1] (.slice sc 1 cc) 0 _ (N5.out.nds.step HA5.out) (show (1 : Nat) ≤ 1099511627776 by decide) (fun x hx => by simp at hx; subst hx; exact own_fit L20.out L21.out)).mono ?_
      rintro e W7 ⟨sd, cd, rfl, hb7, n7⟩
      have HB7 := Lib.hid (after HA5.out hb7)
      have HS7 : Hid (W5.heap.size < W7.heap.size) := Lib.hid (by have := hb7.size; simp at this; omega)
      have N7 := Lib.hid (n7.mono (B' := W5.heap.size + 1) (by simp))
      have TB7 := Lib.hid (TB5.out.keep hb7)
      clear hb7 n7 HA5 TB5
      go_wp2_with fail
      have HA7 : Hid (Below W7.heap.size W7 (W7.alloc (.cells #[.slice sd 1 cd, .int .i64 0] 36))) := Lib.hid ((Below.refl _ _).alloc (Nat.le_refl _) _)
      have CB7 : Hid (Bx 36 (W7.alloc (.cells #[.slice sd 1 cd, .int .i64 0] 36)) W7.heap.size [.slice sd 1 cd, .int .i64 0]) := Lib.hid (Bx.new 36 W7 _)
      have BD8 := Lib.hid ((((BD4.out.step HB5.out).step HB7.out)).step HA7.out)
      have hat := at_any 26 [] w1.heap.size w1.heap.size [y] v4 0 _ BD8.out (by simp) (by rw [show ([y] : List NdR)[0] = y from rfl, HY.out]; exact own_fit L20.out L21.out) (by simp)
      rw [show ([y] : List NdR)[0] = y from rfl, HY.out] at hat
      refine hat.mono ?_
      clear hat
      rintro e W9 ⟨se, ce, sf, cf, rfl, hb9, n9, -⟩
      have HB9 := Lib.hid hb9
      have N9 : Hid (NewNums W9 _ (.slice se l0.length ce) l0) := Lib.hid n9
      have CB9 := Lib.hid (CB7.out.keep hb9)
      clear hb9 n9 CB7 BD8
      go_wp2_with fail
      have hn0 := HN0.out
      have hn1 := HN1.out
      subst hn0 hn1
      obtain ⟨W, hW⟩ : ∃ W, W = W9.alloc (.cells #[.int .i64 (ownX l0 l1).kind, .int .i64 (ownX l0 l1).sf, .int .i64 (ownX l0 l1).st, .slice se (ownX l0 l1).kids.length ce, .string (ownX l0 l1).text, .int .i64 (ownX l0 l1).B, .string (ownX l0 l1).N, .int .i64 (ownX l0 l1).D, .string (ownX l0 l1).M, .int .i64 (ownX l0 l1).num, .int .i64 (ownX l0 l1).wf, .int .i64 (ownX l0 l1).wt, .slice sf (ownX l0 l1).ends.length cf] 34) := ⟨_, rfl⟩
      have t9 : Below W9.heap.size W9 W := by rw [hW]; exact (Below.refl _ _).alloc (Nat.le_refl _) _
      have nb : BoxN W W9.heap.size (ndL (ownX l0 l1) (.slice se l0.length ce) (.slice sf l1.length cf)) := by rw [hW]; exact BoxN.new W9 _
      have s8 : W7.heap.size ≤ (W7.alloc (.cells #[.slice sd 1 cd, .int .i64 0] 36)).heap.size := HA7.out.size
      have t7 : Below W7.heap.size W7 W := (HA7.out.trans (HB9.out.mono s8)).trans (t9.mono (Nat.le_trans s8 HB9.out.size))
      have t5 : Below W5.heap.size W5 W := HB7.out.trans (t7.mono (Nat.le_of_lt HS7.out))
      have t4 : Below W4.heap.size W4 W := HB5.out.trans (t5.mono HB5.out.size)
      have s34 : W3.heap.size ≤ W4.heap.size := HB4.out.size
      have tw4 : Below w.heap.size w W4 := HB3.out.trans (HB4.out.mono HB1.out.size)
      have hmk := ow_make (w := w) (W3 := W3) (W4 := W4) (W5 := W5) (W7 := W7) (W8 := W7.alloc (.cells #[.slice sd 1 cd, .int .i64 0] 36)) (W9 := W9) (W := W) (gb := w1.heap.size) (gt := W5.heap.size) (gc := W7.heap.size) (gn := W9.heap.size) (m0 := .slice sm0 l0.length cm0) (m1 := .slice sm1 l1.length cm1) (nv := .slice se l0.length ce) (tv := .slice sc 1 cc) (cv := .slice sd 1 cd)
        HB3.out.size HO3.out O1.out HY.out BD4.out NY0.out NY1.out OT4.out ⟨_, HX3.out⟩ s34 HB5.out.size HS7.out s8 HB9.out.size N5.out N7.out N9.out t4 t5 t7 t9 (tw4.trans (t4.mono tw4.size)) (TB7.out.keepB t7 (by have := TB7.out.lt; omega)) (CB9.out.keepB t9 (by have := CB9.out.lt; omega)) nb
      obtain ⟨tk, how⟩ := hmk
      have HOW := Lib.hid how
      rw [← hW]
      obtain ⟨gn, hgn⟩ : ∃ g, g = W9.heap.size := ⟨_, rfl⟩
      obtain ⟨gt, hgt⟩ : ∃ g, g = W5.heap.size := ⟨_, rfl⟩
      obtain ⟨gc, hgc⟩ : ∃ g, g = W7.heap.size := ⟨_, rfl⟩
      obtain ⟨gb, hgb⟩ : ∃ g, g = w1.heap.size := ⟨_, rfl⟩
      rw [← hgn, ← hgt, ← hgc, ← hgb] at HOW
      rw [← hgn, ← hgt, ← hgc, ← hgb]
      have ST := Lib.hid HOW.out.start
      have K0 := Lib.hid (rfl : l0.length = l0.length)
      clear hgn hgt hgc hgb how hW t9 nb s8 t7 t5 t4 s34 tw4 HB1 HB3 HX3 HO3 O1 HB4 HY BD4 NY0 NY1 OT4 HM HB5 N5 HB7 HS7 N7 TB7 HA7 HB9 N9 CB9 HN0 HN1 HG
      generalize hq0 : l0.length = n0 at *
      generalize hq1 : l1.length = n1 at *
      have HN0 := Lib.hid hq0
      have HN1 := Lib.hid hq1
      have l20 : n0 ≤ 20 := L20.out
      have l21 : n1 ≤ 20 := L21.out
      clear hq0 hq1 K0
      go_loopw [43] (fun i wr => ∃ k : Nat, k ≤ n0 ∧ i = .int .i64 k ∧ OI w W (.slice sm0 n0 cm0) (.slice sm1 n1 cm1) (.slice se n0 ce) tk n0 n1 wr) (fun i _ => n0 - (intOf i).toNat)
      case atStart => exact ⟨0, Nat.zero_le _, rfl, ST.out⟩
      case round =>
        clear ST
        obtain ⟨k, hk, rfl, hi⟩ := hrel
        have HI := Lib.hid hi
        clear hi
        by_cases hlt : k < n0
        · obtain ⟨gm, cm, e0, b0, lt0, ⟨cc0, hc0⟩, all0⟩ := HI.out.r0 (by omega)
          cases e0
          obtain ⟨x0, hx0⟩ := all0 k hlt
          have hf0 := int_block (i := k) hc0
          clear all0 hc0
          obtain ⟨gv, cv, e1, b1, lt1, -, -⟩ := HI.out.r2 (by omega)
          cases e1
          obtain ⟨gk, ck, e2, b2, lt2, -, -⟩ := HI.out.r3 (by omega)
          subst e2
          obtain ⟨gt0, ct, e3, hk3, ⟨cc3, hc3⟩⟩ := HOW.out.trow
          cases e3
          have I1 := Lib.hid (HI.out.set gm k (wrap64 (x0 + 1)) (.inl rfl) b0)
          obtain ⟨gx, cx, e1, -, -, ⟨cc1, hc1⟩, all1⟩ := I1.out.r2 (by omega)
          cases e1
          obtain ⟨x1, hx1⟩ := all1 k hlt
          have hf1 := int_block (i := k) hc1
          obtain ⟨ccn, hcn⟩ := HOW.out.nbox
          have hn3 := (I1.out.fix.cell (o := 3) (lt_block hcn) (HOW.out.only.not hcn (by decide))).trans HOW.out.ncell
          have I2 := Lib.hid (I1.out.set gv k (wrap64 (x1 + 1)) (.inr (.inr (.inl rfl))) b1)
          obtain ⟨gy, cy, e2, -, -, ⟨cc2, hc2⟩, all2⟩ := I2.out.r3 (by omega)
          cases e2
          obtain ⟨x2, hx2⟩ := all2 k hlt
          have hf2 := int_block (i := k) hc2
          have htb := HOW.out.tbox
          unfold Bx at htb
          have ht0 := (I2.out.fix.cell (o := 0) (lt_block htb) (HOW.out.only.not htb (by decide))).trans HOW.out.tbox.two.1
          have ht3 := (I2.out.fix.cell (o := 3) (lt_block hc3) (HOW.out.only.not hc3 (by decide))).trans hk3
          have I3 := Lib.hid (I2.out.set gk k (wrap64 (x2 + 1)) (.inr (.inr (.inr rfl))) b2)
          clear all1 hc1 all2 hc2 hcn htb hk3 hc3 I1 I2 HI
          go_wp2_with fail
          go_roundw
          case rel => exact ⟨k + 1, by omega, by go_num, I3.out⟩
          case measure => simp [intOf]; omega
        · have hkn : n0 = k := by omega
          subst hkn
          clear hlt hk
          have ST2 := HI
          clear HI
          go_wp2_with fail
          rename World => wo
          go_loopw [72] (fun i wr => ∃ k : Nat, k ≤ n1 ∧ i = .int .i64 k ∧ OI w W (.slice sm0 n0 cm0) (.slice sm1 n1 cm1) (.slice se n0 ce) tk n0 n1 wr) (fun i _ => n1 - (intOf i).toNat)
          case atStart => exact ⟨0, Nat.zero_le _, rfl, ST2.out⟩
          case round =>
            clear ST2
            obtain ⟨k, hk, rfl, hi⟩ := hrel
            have HI := Lib.hid hi
            clear hi
            by_cases hlt : k < n1
            · obtain ⟨gm, cm, e0, b0, lt0, ⟨cc0, hc0⟩, all0⟩ := HI.out.r1 (by omega)
              cases e0
              obtain ⟨x0, hx0⟩ := all0 k hlt
              have hf0 := int_block (i := k) hc0
              clear all0 hc0
              have I1 := Lib.hid (HI.out.set gm k (wrap64 (x0 + 1)) (.inr (.inl rfl)) b0)
              clear HI
              go_wp2_with fail
              go_roundw
              case rel => exact ⟨k + 1, by omega, by go_num, I1.out⟩
              case measure => simp [intOf]; omega
            · have hkn : n1 = k := by omega
              subst hkn
              clear hlt hk
              have RSX := Lib.hid (HOW.out.rs HI.out)
              clear HI HOW
              go_wp2_with fail
              go_loopw [84] (fun i wr => ∃ k : Nat, k ≤ n0 ∧ i = .int .i64 k ∧ RS w gb gc l0 l1 (.slice sd 1 cd) wr) (fun i _ => n0 - (intOf i).toNat)
              case atStart => exact ⟨0, Nat.zero_le _, rfl, RSX.out⟩
              case round =>
                clear RSX
                rename World => wo
                obtain ⟨k, hk, rfl, hr⟩ := hrel
                have HR := Lib.hid hr
                clear hr
                by_cases hlt : k < n0
                · have hkl : k < l0.length := by have := HN0.out; omega
                  obtain ⟨kb, ko, rfl, hkb, hrow⟩ := KI0.out (by omega)
                  have ck := keep HR.out.bel hkb (hrow k hkl)
                  clear hrow
                  obtain ⟨x, hx⟩ : ∃ x, x = l0[k] := ⟨_, rfl⟩
                  have HXK := Lib.hid hx
                  rw [← hx] at ck
                  clear hx
                  go_wp2_with fail
                  refine (HR.out.at_ (by rw [HN0.out]; exact L20.out) (by rw [HN1.out]; exact L21.out)).mono ?_
                  rintro e w2 ⟨kv, ev, rfl, hr2, nk, ne⟩
                  have HR2 := Lib.hid hr2
                  obtain ⟨q, q1, cq⟩ := nk.at_ (k := k) hkl
                  obtain ⟨gc0, kc, ec, e1, c0', c1', c3, c12, hq1, hq2⟩ := hr2.copy (k := k)
                  cases e1
                  obtain ⟨q', q3, hkx, cq'⟩ := hq1 hkl
                  subst q1 q3
                  rw [← HXK.out] at cq cq'
                  have hfd := field_kids w2 (.slice (some ⟨q, 0, none⟩) l0.length l0.length) ev
                  rw [HN0.out] at hfd c3
                  try rw [HN0.out]
                  clear hr2 nk ne hq1 hq2 ck HR
                  go_wp2_with fail
                  go_roundw
                  case rel => exact ⟨k + 1, by omega, by go_num, HR2.out⟩
                  case measure => simp [intOf]; omega
                · have hkn : n0 = k := by omega
                  subst hkn
                  clear hlt hk
                  go_wp2_with fail
                  have RSX := HR
                  clear HR
                  go_loopw [111] (fun i wr => ∃ k : Nat, k ≤ n1 ∧ i = .int .i64 k ∧ RS w gb gc l0 l1 (.slice sd 1 cd) wr) (fun i _ => n1 - (intOf i).toNat)
                  case atStart => exact ⟨0, Nat.zero_le _, rfl, RSX.out⟩
                  case round =>
                    clear RSX
                    rename World => wo
                    obtain ⟨k, hk, rfl, hr⟩ := hrel
                    have HR := Lib.hid hr
                    clear hr
                    by_cases hlt : k < n1
                    · have hkl : k < l1.length := by have := HN1.out; omega
                      obtain ⟨kb, ko, rfl, hkb, hrow⟩ := KI1.out (by omega)
                      have ck := keep HR.out.bel hkb (hrow k hkl)
                      clear hrow
                      obtain ⟨x, hx⟩ : ∃ x, x = l1[k] := ⟨_, rfl⟩
                      have HXK := Lib.hid hx
                      rw [← hx] at ck
                      clear hx
                      go_wp2_with fail
                      refine (HR.out.at_ (by rw [HN0.out]; exact L20.out) (by rw [HN1.out]; exact L21.out)).mono ?_
                      rintro e w2 ⟨kv, ev, rfl, hr2, nk, ne⟩
                      have HR2 := Lib.hid hr2
                      obtain ⟨q, q1, cq⟩ := ne.at_ (k := k) hkl
                      obtain ⟨gc0, kc, ec, e1, c0', c1', c3, c12, hq1, hq2⟩ := hr2.copy (k := k)
                      cases e1
                      obtain ⟨q', q3, hkx, cq'⟩ := hq2 hkl
                      subst q1 q3
                      rw [← HXK.out] at cq cq'
                      have hfd := field_ends w2 kv (.slice (some ⟨q, 0, none⟩) l1.length l1.length)
                      rw [HN1.out] at hfd c12
                      try rw [HN1.out]
                      clear hr2 nk ne hq1 hq2 ck HR
                      go_wp2_with fail
                      go_roundw
                      case rel => exact ⟨k + 1, by omega, by go_num, HR2.out⟩
                      case measure => simp [intOf]; omega
                    · have hkn : n1 = k := by omega
                      subst hkn
                      clear hlt hk
                      obtain ⟨gc0, kc, ec, e1, c0', c1', -, -, -, -⟩ := HR.out.copy (k := 0)
                      cases e1
                      go_wp2_with fail
                      go_ret
                      exact ⟨rfl, HR.out.bel⟩
end Go.Proofs.YtnmpbnjaegnpjaaDoor
