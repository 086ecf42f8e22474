/- EditThen: the walk. -/
import Derived.Test.YtajfklhfjmoelaaThenE
import Derived.Test.YtajfklhfjmoelaaEdApply
namespace Go.Proofs.Ytajfklhfjmoelaa
open Go Go.RowKit
set_option linter.unusedVariables false

set_option maxRecDepth 100000 in
set_option maxHeartbeats 1000000 in
theorem ethen_far1 (s : ByteArray) (src : Option Addr) (n cap : Nat) (l : List IEd) (src2 : Option Addr) (n2 cap2 : Nat) (l2 : List IEd) (w : World) (hl : l.length = n) (hr : EdsIn w src l) (hr2 : EdsIn w src2 l2) (hb : smallB s l = false) :
    Calls Try.prog 6 #[.string s, .slice src n cap, .slice src2 n2 cap2] w fun e w' => e = .returned (.bool true) ∧ Below w.heap.size w w' := by
  have S1 := Lib.hid (fun w hr => small_any s src n cap l w hl hr)
  rw [hb] at S1
  go_enter Try.func6, Try.ntmps6
  go_wp2_with fail
  refine (edits_any _).mono ?_
  rintro e w1 ⟨rfl, h01⟩
  have x1 := Lib.hid (hr.step h01)
  have y1 := Lib.hid (hr2.step h01)
  have B1 := Lib.hid h01
  clear h01
  go_wp2_with fail
  refine (S1.out _ x1.out).mono ?_
  rintro e w2 ⟨rfl, h12⟩
  have x2 := Lib.hid (x1.out.step h12)
  have y2 := Lib.hid (y1.out.step h12)
  have B2 := Lib.hid (after B1.out h12)
  clear h12 x1 y1 B1
  go_wp2_with fail
  go_ret
  exact ⟨rfl, B2.out⟩

set_option maxRecDepth 100000 in
set_option maxHeartbeats 1000000 in
theorem ethen_far2 (s : ByteArray) (src : Option Addr) (n cap : Nat) (l : List IEd) (src2 : Option Addr) (n2 cap2 : Nat) (l2 : List IEd) (w : World) (hl : l.length = n) (hr : EdsIn w src l) (hb : smallB s l = true) (hl2 : l2.length = n2) (hr2 : EdsIn w src2 l2) (hb2 : smallB s l2 = false) :
    Calls Try.prog 6 #[.string s, .slice src n cap, .slice src2 n2 cap2] w fun e w' => e = .returned (.bool true) ∧ Below w.heap.size w w' := by
  have S1 := Lib.hid (fun w hr => small_any s src n cap l w hl hr)
  have S2 := Lib.hid (fun w hr => small_any s src2 n2 cap2 l2 w hl2 hr)
  rw [hb] at S1
  rw [hb2] at S2
  go_enter Try.func6, Try.ntmps6
  go_wp2_with fail
  refine (edits_any _).mono ?_
  rintro e w1 ⟨rfl, h01⟩
  have x1 := Lib.hid (hr.step h01)
  have y1 := Lib.hid (hr2.step h01)
  have B1 := Lib.hid h01
  clear h01
  go_wp2_with fail
  refine (S1.out _ x1.out).mono ?_
  rintro e w2 ⟨rfl, h12⟩
  have x2 := Lib.hid (x1.out.step h12)
  have y2 := Lib.hid (y1.out.step h12)
  have B2 := Lib.hid (after B1.out h12)
  clear h12 x1 y1 B1
  go_wp2_with fail
  refine (S2.out _ y2.out).mono ?_
  rintro e w3 ⟨rfl, h23⟩
  have x3 := Lib.hid (x2.out.step h23)
  have y3 := Lib.hid (y2.out.step h23)
  have B3 := Lib.hid (after B2.out h23)
  clear h23 x2 y2 B2
  go_wp2_with fail
  go_ret
  exact ⟨rfl, B3.out⟩

set_option maxRecDepth 100000 in
set_option maxHeartbeats 1000000 in
theorem ethen_no1 (s : ByteArray) (src : Option Addr) (n cap : Nat) (l : List IEd) (src2 : Option Addr) (n2 cap2 : Nat) (l2 : List IEd) (w : World) (hl : l.length = n) (hn : n ≤ maxLen) (hr : EdsIn w src l) (hb : smallB s l = true) (hl2 : l2.length = n2) (hr2 : EdsIn w src2 l2) (hb2 : smallB s l2 = true) (hf : fitsE s.size l ≠ 0) :
    Calls Try.prog 6 #[.string s, .slice src n cap, .slice src2 n2 cap2] w fun e w' => e = .returned (.bool true) ∧ Below w.heap.size w w' := by
  have S1 := Lib.hid (fun w hr => small_any s src n cap l w hl hr)
  have S2 := Lib.hid (fun w hr => small_any s src2 n2 cap2 l2 w hl2 hr)
  rw [hb] at S1
  rw [hb2] at S2
  have TN := Lib.hid (fun v2 w h => then_no1 s src n cap l v2 w hl hn hf h)
  have RA := Lib.hid (fun w h => rapply_no s src n cap l w hl hn h hf)
  generalize fitsE s.size l = c at *
  have hc : (c == 0) = false := by simp; exact hf
  have hc2 : (c != 0) = true := by simp; exact hf
  go_enter Try.func6, Try.ntmps6
  go_wp2_with fail
  refine (edits_any _).mono ?_
  rintro e w1 ⟨rfl, h01⟩
  have x1 := Lib.hid (hr.step h01)
  have y1 := Lib.hid (hr2.step h01)
  have B1 := Lib.hid h01
  clear h01
  go_wp2_with fail
  refine (S1.out _ x1.out).mono ?_
  rintro e w2 ⟨rfl, h12⟩
  have x2 := Lib.hid (x1.out.step h12)
  have y2 := Lib.hid (y1.out.step h12)
  have B2 := Lib.hid (after B1.out h12)
  clear h12 x1 y1 B1
  go_wp2_with fail
  refine (S2.out _ y2.out).mono ?_
  rintro e w3 ⟨rfl, h23⟩
  have x3 := Lib.hid (x2.out.step h23)
  have y3 := Lib.hid (y2.out.step h23)
  have B3 := Lib.hid (after B2.out h23)
  clear h23 x2 y2 B2
  go_wp2_with fail
  refine (TN.out _ _ x3.out).mono ?_
  rintro e w4 ⟨rfl, h34⟩
  have x4 := Lib.hid (x3.out.step h34)
  have B4 := Lib.hid (after B3.out h34)
  clear h34
  go_wp2_with fail
  refine (RA.out _ x4.out).mono ?_
  rintro e w5 ⟨rfl, h45⟩
  go_wp2_with fail
  go_ret
  exact ⟨by simp, after B4.out h45⟩

set_option maxRecDepth 100000 in
set_option maxHeartbeats 1000000 in
theorem ethen_no2 (s : ByteArray) (src : Option Addr) (n cap : Nat) (L : List NEd) (src2 : Option Addr) (n2 cap2 : Nat) (l2 : List IEd) (w : World) (hl : L.length = n) (hn : n ≤ 60) (hr : EdsIn w src (L.map toI)) (hb : smallB s (L.map toI) = true) (hs : s.size ≤ 65536) (hok : EdOk s.size 0 L) (hsz : (s.size : Int) + growN L ≤ 65536) (hfit : fitsE s.size (L.map toI) = 0) (ht : ∀ e ∈ L, e.2.2.size ≤ 65536)
    (hl2 : l2.length = n2) (hn2 : n2 ≤ maxLen) (hr2 : EdsIn w src2 l2) (hb2 : smallB s l2 = true) (hf : fitsE (pieces s 0 L).size l2 ≠ 0) :
    Calls Try.prog 6 #[.string s, .slice src n cap, .slice src2 n2 cap2] w fun e w' => e = .returned (.bool true) ∧ Below w.heap.size w w' := by
  have S1 := Lib.hid (fun w hr => small_any s src n cap (L.map toI) w (by simpa using hl) hr)
  have S2 := Lib.hid (fun w hr => small_any s src2 n2 cap2 l2 w hl2 hr)
  rw [hb] at S1
  rw [hb2] at S2
  have TN := Lib.hid (fun w h h2 => then_no2 s src n cap L src2 n2 cap2 l2 w hl (by omega) hs hok hsz hfit ht h hl2 hn2 hf h2)
  have RA := Lib.hid (fun w h => rapply_ok s src n cap L w hl (by omega) hs hok hsz hfit ht h)
  have RB := Lib.hid (fun w h => rapply_no (pieces s 0 L) src2 n2 cap2 l2 w hl2 hn2 h hf)
  generalize fitsE (pieces s 0 L).size l2 = c at *
  generalize pieces s 0 L = P at *
  have hc : (c == 0) = false := by simp; exact hf
  have hc2 : (c != 0) = true := by simp; exact hf
  go_enter Try.func6, Try.ntmps6
  go_wp2_with fail
  refine (edits_any _).mono ?_
  rintro e w1 ⟨rfl, h01⟩
  have x1 := Lib.hid (hr.step h01)
  have y1 := Lib.hid (hr2.step h01)
  have B1 := Lib.hid h01
  clear h01
  go_wp2_with fail
  refine (S1.out _ x1.out).mono ?_
  rintro e w2 ⟨rfl, h12⟩
  have x2 := Lib.hid (x1.out.step h12)
  have y2 := Lib.hid (y1.out.step h12)
  have B2 := Lib.hid (after B1.out h12)
  clear h12 x1 y1 B1
  go_wp2_with fail
  refine (S2.out _ y2.out).mono ?_
  rintro e w3 ⟨rfl, h23⟩
  have x3 := Lib.hid (x2.out.step h23)
  have y3 := Lib.hid (y2.out.step h23)
  have B3 := Lib.hid (after B2.out h23)
  clear h23 x2 y2 B2
  go_wp2_with fail
  refine (TN.out _ x3.out y3.out).mono ?_
  rintro e w4 ⟨rfl, h34⟩
  have x4 := Lib.hid (x3.out.step h34)
  have y4 := Lib.hid (y3.out.step h34)
  have B4 := Lib.hid (after B3.out h34)
  clear h34
  go_wp2_with fail
  refine (RA.out _ x4.out).mono ?_
  rintro e w5 ⟨rfl, h45⟩
  have y5 := Lib.hid (y4.out.step h45)
  have B5 := Lib.hid (after B4.out h45)
  clear h45
  go_wp2_with fail
  refine (RB.out _ y5.out).mono ?_
  rintro e w6 ⟨rfl, h56⟩
  go_wp2_with fail
  go_ret
  exact ⟨by simp, after B5.out h56⟩

set_option maxRecDepth 100000 in
set_option maxHeartbeats 2000000 in
theorem ethen_ok (s : ByteArray) (src : Option Addr) (n cap : Nat) (L : List NEd) (src2 : Option Addr) (n2 cap2 : Nat) (R : List NEd) (w : World) (hl : L.length = n) (hn : n ≤ 60) (hr : EdsIn w src (L.map toI)) (hb : smallB s (L.map toI) = true) (hs : s.size ≤ 65536) (hok : EdOk s.size 0 L) (hsz : (s.size : Int) + growN L ≤ 65536) (hfit : fitsE s.size (L.map toI) = 0) (ht : ∀ e ∈ L, e.2.2.size ≤ 65536)
    (hl2 : R.length = n2) (hn2 : n2 ≤ 60) (hr2 : EdsIn w src2 (R.map toI)) (hb2 : smallB s (R.map toI) = true) (hok2 : EdOk (pieces s 0 L).size 0 R) (hsz2 : ((pieces s 0 L).size : Int) + growN R ≤ 65536) (hfit2 : fitsE (pieces s 0 L).size (R.map toI) = 0) (ht2 : ∀ e ∈ R, e.2.2.size ≤ 65536) :
    Calls Try.prog 6 #[.string s, .slice src n cap, .slice src2 n2 cap2] w fun e w' => e = .returned (.bool true) ∧ Below w.heap.size w w' := by
  have hP : (pieces s 0 L).size ≤ 65536 := by have := size_pieces s L 0 hok; omega
  have hT : (pieces (pieces s 0 L) 0 R).size ≤ 65536 := by have := size_pieces (pieces s 0 L) R 0 hok2; omega
  have S1 := Lib.hid (fun w hr => small_any s src n cap (L.map toI) w (by simpa using hl) hr)
  have S2 := Lib.hid (fun w hr => small_any s src2 n2 cap2 (R.map toI) w (by simpa using hl2) hr)
  rw [hb] at S1
  rw [hb2] at S2
  have TN := Lib.hid (fun w h h2 => then_ok s src n cap L src2 n2 cap2 R w hl (by omega) hs hok hsz hfit ht h hl2 (by omega) hok2 hsz2 hfit2 ht2 h2)
  have RA := Lib.hid (fun w h => rapply_ok s src n cap L w hl (by omega) hs hok hsz hfit ht h)
  have RB := Lib.hid (fun w h => rapply_ok (pieces s 0 L) src2 n2 cap2 R w hl2 (by omega) hP hok2 hsz2 hfit2 ht2 h)
  have CL := Lib.hid (fun w (h : EdsIn w src (L.map toI)) => cost_any src n cap (L.map toI) w (by simpa using hl) (by omega) (toI_size ht) h)
  have CR := Lib.hid (fun w (h : EdsIn w src2 (R.map toI)) => cost_any src2 n2 cap2 (R.map toI) w (by simpa using hl2) (by omega) (toI_size ht2) h)
  have k1 := (valid_fits hok (by omega) hs hsz ht).2.1
  have k2 := (valid_fits hok2 (by omega) hP hsz2 ht2).2.1
  rw [k1] at CL
  rw [k2] at CR
  have cl1 : costN L ≤ 10000000 := by
    have h1 := costE_bd (L.map toI) (toI_size ht)
    rw [k1] at h1; simp only [List.length_map] at h1; omega
  have cl2 : costN R ≤ 10000000 := by
    have h1 := costE_bd (R.map toI) (toI_size ht2)
    rw [k2] at h1; simp only [List.length_map] at h1; omega
  have FD : Hid (∀ D, ThenOf s L R D → (∀ c w (g : Nat), EdsIn w (some ⟨g, 0, none⟩) (D.map toI) → Calls Try.prog 19 #[.string s, .slice (some ⟨g, 0, none⟩) D.length c] w fun e w' => e = .returned (.tuple #[.string (pieces (pieces s 0 L) 0 R), .int .i64 0]) ∧ Below w.heap.size w w') ∧
      (∀ c w (g : Nat), EdsIn w (some ⟨g, 0, none⟩) (D.map toI) → Calls Try.prog 23 #[.slice (some ⟨g, 0, none⟩) D.length c] w fun e w' => e = .returned (.int .i64 (costN D : Nat)) ∧ Below w.heap.size w w') ∧ costN D ≤ costN L + costN R) := Lib.hid (by
    rintro D ⟨q1, q2, q3, q4⟩
    have z2 := size_pieces s D 0 q1
    rw [q2] at z2
    have hgd : (s.size : Int) + growN D ≤ 65536 := by omega
    have htd : ∀ e ∈ D, e.2.2.size ≤ 65536 := fun e he => by
      have := size_mem s D 0 e he
      rw [q2] at this
      omega
    have hv := valid_fits q1 (by omega) hs hgd htd
    refine ⟨fun c w g h => ?_, fun c w g h => ?_, q3⟩
    · rw [← q2]; exact rapply_ok s _ D.length c D w rfl (by omega) hs q1 hgd hv.1 htd h
    · rw [← hv.2.1]; exact cost_any _ D.length c (D.map toI) w (by simp) (by omega) (toI_size htd) h)
  clear hok hsz hfit ht hok2 hsz2 hfit2 ht2 k1 k2 hb hb2 hP hT
  generalize pieces (pieces s 0 L) 0 R = T at *
  generalize pieces s 0 L = P at *
  generalize costN L = cl at *
  generalize costN R = cr at *
  go_enter Try.func6, Try.ntmps6
  go_wp2_with fail
  refine (edits_any _).mono ?_
  rintro e w1 ⟨rfl, h01⟩
  have x1 := Lib.hid (hr.step h01)
  have y1 := Lib.hid (hr2.step h01)
  have B1 := Lib.hid h01
  clear h01
  go_wp2_with fail
  refine (S1.out _ x1.out).mono ?_
  rintro e w2 ⟨rfl, h12⟩
  have x2 := Lib.hid (x1.out.step h12)
  have y2 := Lib.hid (y1.out.step h12)
  have B2 := Lib.hid (after B1.out h12)
  clear h12 x1 y1 B1
  go_wp2_with fail
  refine (S2.out _ y2.out).mono ?_
  rintro e w3 ⟨rfl, h23⟩
  have x3 := Lib.hid (x2.out.step h23)
  have y3 := Lib.hid (y2.out.step h23)
  have B3 := Lib.hid (after B2.out h23)
  clear h23 x2 y2 B2
  go_wp2_with fail
  refine (TN.out _ x3.out y3.out).mono ?_
  rintro e w4 ⟨g, D, c, rfl, h34, hgw, hrow, hof⟩
  have x4 := Lib.hid (x3.out.step h34)
  have y4 := Lib.hid (y3.out.step h34)
  have B4 := Lib.hid (after B3.out h34)
  obtain ⟨f1, f2, f3⟩ := FD.out D hof
  have F1 := Lib.hid f1
  have F2 := Lib.hid f2
  have v4 := Lib.hid (show EdsIn w4 (some ⟨g, 0, none⟩) (D.map toI) from fun _ => ⟨g, 0, rfl, hgw, hrow⟩)
  clear h34 f1 f2 hgw hrow hof
  generalize costN D = cd at *
  generalize D.length = dl at *
  generalize D.map toI = DM at *
  have hcd : (cd : Int) ≤ (cl : Int) + (cr : Int) := by omega
  go_wp2_with fail
  refine (RA.out _ x4.out).mono ?_
  rintro e w5 ⟨rfl, h45⟩
  have x5 := Lib.hid (x4.out.step h45)
  have y5 := Lib.hid (y4.out.step h45)
  have v5 := Lib.hid (v4.out.step h45)
  have B5 := Lib.hid (after B4.out h45)
  clear h45
  go_wp2_with fail
  refine (RB.out _ y5.out).mono ?_
  rintro e w6 ⟨rfl, h56⟩
  have x6 := Lib.hid (x5.out.step h56)
  have y6 := Lib.hid (y5.out.step h56)
  have v6 := Lib.hid (v5.out.step h56)
  have B6 := Lib.hid (after B5.out h56)
  clear h56
  go_wp2_with fail
  refine (F1.out _ _ _ v6.out).mono ?_
  rintro e w7 ⟨rfl, h67⟩
  have x7 := Lib.hid (x6.out.step h67)
  have y7 := Lib.hid (y6.out.step h67)
  have v7 := Lib.hid (v6.out.step h67)
  have B7 := Lib.hid (after B6.out h67)
  clear h67
  go_wp2_with fail
  refine (F2.out _ _ _ v7.out).mono ?_
  rintro e w8 ⟨rfl, h78⟩
  have x8 := Lib.hid (x7.out.step h78)
  have y8 := Lib.hid (y7.out.step h78)
  have B8 := Lib.hid (after B7.out h78)
  clear h78
  go_wp2_with fail
  refine (CL.out _ x8.out).mono ?_
  rintro e w9 ⟨rfl, h89⟩
  have y9 := Lib.hid (y8.out.step h89)
  have B9 := Lib.hid (after B8.out h89)
  clear h89
  go_wp2_with fail
  refine (CR.out _ y9.out).mono ?_
  rintro e w10 ⟨rfl, h90⟩
  go_wp2_with fail
  go_ret
  exact ⟨by simp <;> omega, after B9.out h90⟩

theorem ethen_any {w : World} (s : ByteArray) (hs : s.size ≤ maxLen) (v : Value) (l : List IEd) (h : Eds w v l) (v2 : Value) (l2 : List IEd) (h2 : Eds w v2 l2) :
    Calls Try.prog 6 #[.string s, v, v2] w fun e w' => e = .returned (.bool true) ∧ Below w.heap.size w w' := by
  obtain ⟨src, n, cap, rfl, hl, hn, hr⟩ := h
  obtain ⟨src2, n2, cap2, rfl, hl2, hn2, hr2⟩ := h2
  cases hb : smallB s l
  · exact ethen_far1 s src n cap l src2 n2 cap2 l2 w hl hr hr2 hb
  · cases hb2 : smallB s l2
    · exact ethen_far2 s src n cap l src2 n2 cap2 l2 w hl hr hb hl2 hr2 hb2
    · obtain ⟨b1, b2, b3⟩ := smallB_true hb
      obtain ⟨d1, d2, d3⟩ := smallB_true hb2
      by_cases hf : fitsE s.size l = 0
      · obtain ⟨L, rfl, q1, q2, q3, q4, q5, q6, q7⟩ := fits_valid hf
        by_cases hf2 : fitsE (pieces s 0 L).size l2 = 0
        · obtain ⟨R, rfl, p1, p2, p3, p4, p5, p6, p7⟩ := fits_valid hf2
          exact ethen_ok s src n cap L src2 n2 cap2 R w (by simpa using hl) (by omega) hr hb q3 q1 q6 hf q7 (by simpa using hl2) (by omega) hr2 hb2 p1 p6 hf2 p7
        · exact ethen_no2 s src n cap L src2 n2 cap2 l2 w (by simpa using hl) (by omega) hr hb q3 q1 q6 hf q7 hl2 hn2 hr2 hb2 hf2
      · exact ethen_no1 s src n cap l src2 n2 cap2 l2 w hl hn hr hb hl2 hr2 hb2 hf

end Go.Proofs.Ytajfklhfjmoelaa
