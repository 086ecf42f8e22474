/- Contract of Then: both fit. -/
import Derived.Test.YtdhbcmbajbgblaaThenD
namespace Go.Proofs.Ytdhbcmbajbgblaa
open Go Go.RowKit
set_option linter.unusedVariables false

set_option maxRecDepth 100000 in
set_option maxHeartbeats 2000000 in
theorem then_ok (s : ByteArray) (src : Option Addr) (n cap : Nat) (L : List NEd) (src2 : Option Addr) (n2 cap2 : Nat) (R : List NEd) (w : World) (hl : L.length = n) (hn : n ≤ 2000) (hs : s.size ≤ 65536) (hok : EdOk s.size 0 L) (hsz : (s.size : Int) + growN L ≤ 65536) (hfit : fitsE s.size (L.map toI) = 0) (ht : ∀ e ∈ L, e.2.2.size ≤ 65536) (hr : EdsIn w src (L.map toI))
    (hl2 : R.length = n2) (hn2 : n2 ≤ 2000) (hok2 : EdOk (pieces s 0 L).size 0 R) (hsz2 : ((pieces s 0 L).size : Int) + growN R ≤ 65536) (hfit2 : fitsE (pieces s 0 L).size (R.map toI) = 0) (ht2 : ∀ e ∈ R, e.2.2.size ≤ 65536) (hr2 : EdsIn w src2 (R.map toI)) :
    Calls Try.prog 10 #[.string s, .slice src n cap, .slice src2 n2 cap2] w fun e w' => ∃ (g : Nat) (D : List NEd) (c : Nat), e = .returned (.tuple #[.slice (some ⟨g, 0, none⟩) D.length c, .int .i64 0]) ∧ Below w.heap.size w w' ∧ g < w'.heap.size ∧ EditAt w' g 0 (D.map toI) ∧ ThenOf s L R D := by
  have hP : (pieces s 0 L).size ≤ 65536 := by have := size_pieces s L 0 hok; omega
  have hT : (pieces (pieces s 0 L) 0 R).size ≤ 65536 := by have := size_pieces (pieces s 0 L) R 0 hok2; omega
  have A1 := Lib.hid (fun w hr => apply_ok s src n cap L w hl (by omega) hs hok hsz hfit ht hr)
  have A2 := Lib.hid (fun w hr => apply_ok (pieces s 0 L) src2 n2 cap2 R w hl2 (by omega) hP hok2 hsz2 hfit2 ht2 hr)
  have K1 := Lib.hid (fun w hr => kept_any s src n cap L w hl (by omega) hs hok ht hr)
  have K2 := Lib.hid (fun w hr => kept_any (pieces s 0 L) src2 n2 cap2 R w hl2 (by omega) hP hok2 ht2 hr)
  obtain ⟨b1, b2, b3⟩ := both_ok s L R hok hok2
  obtain ⟨t1, t2, t3⟩ := then_does s L R hok hok2
  have z1 : (keepE 0 0 (endE s L)).length ≤ n + 1 := by have := keepE_len (endE s L); simp [endE, hl] at this ⊢; omega
  have z2 : (keepE 0 0 (endE (pieces s 0 L) R)).length ≤ n2 + 1 := by have := keepE_len (endE (pieces s 0 L) R); simp [endE, hl2] at this ⊢; omega
  have z3 := thr_len _ (keepE 0 0 (endE s L)) (keepE 0 0 (endE (pieces s 0 L) R)) rfl
  have TH := Lib.hid (fun va vb w ha hb => through_any (keepE 0 0 (endE s L)) (keepE 0 0 (endE (pieces s 0 L) R)) va vb w ha hb (b1.small hs hP) (b2.small hP hT) (by omega))
  have BT := Lib.hid (fun v B w hB ho => ebetween_any s (pieces (pieces s 0 L) 0 R) (bothR s L R) v B w hB ho (by show (thr _ _).length ≤ _; omega) hs hT b3)
  obtain ⟨RES, hRES⟩ : ∃ RES, RES = betw s (pieces (pieces s 0 L) 0 R) 0 0 (bothR s L R) := ⟨_, rfl⟩
  have hRl : RES.length = (bothR s L R).length + 1 := by rw [hRES, betw_len]
  have t1 : EdOk s.size 0 RES := by rw [hRES]; exact t1
  have t2 : pieces s 0 RES = pieces (pieces s 0 L) 0 R := by rw [hRES]; exact t2
  have t3 : costN RES ≤ costN L + costN R := by rw [hRES]; exact t3
  rw [← hRES] at BT
  have hRn : RES.length ≤ n + n2 + 3 := by rw [hRl]; show (thr _ _).length + 1 ≤ _; omega
  have TD := Lib.hid (fun B g cap w hcap hcm hB hg hfz hrow => tidied_any s B g RES.length cap RES w (fun j => (RES.map toI).getD j noEd) rfl (by omega) hcap hcm hB hg hfz hrow (fun j hj => getD_toI RES j hj) hs t1 (by rw [t2]; exact hT))
  have FIN : Hid (∀ D : List NEd, EdOk s.size 0 D → pieces s 0 D = pieces s 0 RES → costN D ≤ costN RES → D.length ≤ RES.length → ThenOf s L R D ∧ D.length ≤ 4096) := Lib.hid (fun D q1 q3 q4 q5 => ⟨⟨q1, by rw [q3, t2], by omega, by omega⟩, by omega⟩)
  have HR := Lib.hid hr
  have HR2 := Lib.hid hr2
  have HRL := Lib.hid hRl
  clear hr hr2 hRl hRn t1 t2 t3 z1 z2 z3 b1 b2 b3 hT hP hs hok hsz hfit ht hok2 hsz2 hfit2 ht2 hRES
  dsimp only [bothR] at BT HRL
  generalize thr (keepE 0 0 (endE s L)) (keepE 0 0 (endE (pieces s 0 L) R)) = BR at *
  generalize pieces (pieces s 0 L) 0 R = T at *
  generalize keepE 0 0 (endE s L) = E1 at *
  generalize keepE 0 0 (endE (pieces s 0 L) R) = E2 at *
  generalize pieces s 0 L = P at *
  go_enter Try.func10, Try.ntmps10
  go_wp2_with fail
  refine (A1.out _ HR.out).mono ?_
  rintro e w1 ⟨rfl, h01⟩
  have x1 := Lib.hid (HR.out.step h01)
  have y1 := Lib.hid (HR2.out.step h01)
  have B1 := Lib.hid h01
  clear h01
  go_wp2_with fail
  refine (A2.out _ y1.out).mono ?_
  rintro e w2 ⟨rfl, h12⟩
  have x2 := Lib.hid (x1.out.step h12)
  have y2 := Lib.hid (y1.out.step h12)
  have B2 := Lib.hid (after B1.out h12)
  clear h12
  go_wp2_with fail
  refine (K1.out _ x2.out).mono ?_
  rintro e w3 ⟨va, rfl, h23, rva⟩
  have y3 := Lib.hid (y2.out.step h23)
  have B3 := Lib.hid (after B2.out h23)
  have RVA := Lib.hid rva
  clear h23 rva
  go_wp2_with fail
  refine (K2.out _ y3.out).mono ?_
  rintro e w4 ⟨vb, rfl, h34, rvb⟩
  have B4 := Lib.hid (after B3.out h34)
  have RVA4 := Lib.hid (RVA.out.step h34)
  have RVB := Lib.hid rvb
  clear h34 rvb
  go_wp2_with fail
  refine (TH.out va vb w4 RVA4.out RVB.out).mono ?_
  rintro e w5 ⟨vc, rfl, hri⟩
  have HRI := Lib.hid hri
  clear hri
  go_wp2_with fail
  refine (BT.out vc w4.heap.size w5 HRI.out.1.size HRI.out.2).mono ?_
  rintro e w6 ⟨vd, rfl, h56, hown⟩
  rw [← HRL.out] at hown
  obtain ⟨g, cp, rfl, q1, q2, q3, q4, q5, q6⟩ := own_row hown rfl (by rw [HRL.out]; omega)
  have B6 := Lib.hid (HRI.out.1.trans h56)
  have TT := Lib.hid (TD.out w4.heap.size g cp w6 q1 q2 q3 q4 q5 q6)
  have SZ := Lib.hid B4.out.size
  clear h56 hown q1 q2 q3 q4 q5 q6
  go_wp2_with fail
  refine TT.out.mono ?_
  rintro e w7 ⟨D, rfl, hbel, hgw, hrow, p1, p2, p3, p4, p5, p6⟩
  obtain ⟨f1, f2⟩ := FIN.out D p1 p3 p4 p5
  have B7 := Lib.hid (B4.out.trans ((B6.out.trans hbel).mono SZ.out))
  have Q := Lib.hid (show g < w7.heap.size ∧ EditAt w7 g 0 (D.map toI) ∧ ThenOf s L R D from ⟨hgw, hrow, f1⟩)
  clear hbel hgw hrow p1 p2 p3 p4 p5 p6 f1
  have f3 : (D.length : Int) ≤ 4096 := by omega
  go_wp2_with fail
  go_ret2
  exact ⟨g, D, cp, rfl, B7.out, Q.out⟩

end Go.Proofs.Ytdhbcmbajbgblaa
