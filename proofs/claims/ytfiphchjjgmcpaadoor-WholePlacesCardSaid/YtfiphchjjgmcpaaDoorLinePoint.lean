/- Table.Point. -/
import Derived.Test.YtfiphchjjgmcpaaDoorLineShowY
import Derived.Test.YtfiphchjjgmcpaaDoorLineBlanks
import Derived.Test.YtfiphchjjgmcpaaDoorSpanC
namespace Go.Proofs.YtfiphchjjgmcpaaDoor
open Go.RowKit
set_option linter.unusedVariables false

set_option maxHeartbeats 1000000 in
theorem point_no (s : ByteArray) (p : Nat) (f t : Int) (w : World) (hs : s.size ≤ 65536) (ht : TableAt w p s) (hn : Tab w) (hb : chkB f t s.size = false) :
    Calls Tryd.prog 13 #[.pointer (some ⟨p, 0, none⟩), .agg #[.int .i64 f, .int .i64 t]] w fun e w' => e = .returned (.tuple #[.string ⟨#[]⟩, .int .i64 1]) ∧ Below w.heap.size w w' := by
  have H0 := ((Hold.start ht hn).box (.int .i64 f) (.int .i64 t) 24).drew
  have t0 := H0.text
  have hp := ht.lt
  have E := Lib.hid (show errI (chkB f t s.size) 1 = 1 by rw [hb]; rfl)
  clear hb ht hn
  go_enter Tryd.func13, Tryd.ntmps13
  go_wp2_with fail
  go_region_held3 (fun w' => w'.cell? ⟨w.heap.size, 0, none⟩ = some (.int .i64 f) ∧ w'.cell? ⟨w.heap.size, 1, none⟩ = some (.int .i64 t) ∧ w'.cell? ⟨p, 0, none⟩ = some (.string s) ∧ Hold w p s [(w.heap.size, 0, .int .i64 f), (w.heap.size, 1, .int .i64 t)] w') (first | exact ⟨H0.cell (by simp), H0.cell (by simp), H0.text, H0⟩ | exact (fun H => ⟨Hold.cell H (by simp), Hold.cell H (by simp), Hold.text H, H⟩) (H0.step hb2)) (first | (go_at_call 14; refine (check_any _ _ _ _).mono ?_; rw [E.out]; rintro e w2 ⟨rfl, hb2⟩))
  all_goals go_split_ands
  all_goals go_wp2_with fail
  all_goals go_ret2
  all_goals exact ⟨rfl, Hold.bel (p := p) (s := s) (L := [(w.heap.size, 0, .int .i64 f), (w.heap.size, 1, .int .i64 t)]) (by assumption)⟩

theorem blankS_size (s : ByteArray) : (blankS s).size = s.size := by
  show (s.data.toList.map blankB).toArray.size = s.size
  simp
theorem carets_any (D : Nat) (w : World) (hD : D ≤ 65537) :
    Calls Tryd.prog 28 #[.string ⟨#[94]⟩, .int .i64 (D : Nat)] w fun e w' => e = .returned (.string ⟨(List.replicate D 94).toArray⟩) ∧ Below w.heap.size w w' := by
  have hone : (⟨#[94]⟩ : ByteArray).size = 1 := rfl
  refine (Tryd.strings_Repeat ⟨#[94]⟩ D w (by omega) (by rw [hone]; omega)).mono ?_
  rintro e w' ⟨rfl, hb⟩
  have hr : ∀ c, Lib.repeatL [94] c = List.replicate c 94 := by
    intro c
    induction c with
    | zero => rfl
    | succ c ih => rw [Lib.repeatL, ih]; rfl
  exact ⟨by rw [hr D], hb⟩
theorem carets_size (D : Nat) (hD : D ≤ 65537) : (⟨(List.replicate D 94).toArray⟩ : ByteArray).size ≤ 65537 := by
  show (List.replicate D 94).toArray.size ≤ 65537
  simp; omega

/-- how many signs stand below a line -/
def signN (s : ByteArray) (f t : Nat) : Nat := max (min t (endN s (lineN s f)) - f) 1
/-- how many bytes of the line's text stand ahead of a place -/
def aheadN (s : ByteArray) (f : Nat) : Nat := min (f - begN s f) (endN s (lineN s f) - begN s f)
/-- what Point answers -/
def pointS (s : ByteArray) (f t : Nat) : ByteArray :=
  lineS s (lineN s f) ++ ⟨#[10]⟩ ++ blankS ((lineS s (lineN s f)).extract 0 (aheadN s f)) ++ ⟨(List.replicate (signN s f t) 94).toArray⟩ ++ ⟨#[10]⟩

set_option maxHeartbeats 4000000 in
theorem point_any (s : ByteArray) (p f t : Nat) (w : World) (hs : s.size ≤ 65536) (ht : TableAt w p s) (hn : Tab w) (hft : f ≤ t) (hts : t ≤ s.size) :
    Calls Tryd.prog 13 #[.pointer (some ⟨p, 0, none⟩), .agg #[.int .i64 (f : Nat), .int .i64 (t : Nat)]] w fun e w' => e = .returned (.tuple #[.string (pointS s f t), .int .i64 0]) ∧ Below w.heap.size w w' := by
  have hm : mayB (f : Nat) (t : Nat) = true := mayB_iff.2 ⟨by omega, by omega, by omega⟩
  have H0 := ((Hold.start ht hn).box (.int .i64 (f : Nat)) (.int .i64 (t : Nat)) 24).drew
  have t0 := H0.text
  have hp := ht.lt
  have E := Lib.hid (show errI (chkB (f : Nat) (t : Nat) s.size) 1 = 0 by rw [chkB_iff.2 ⟨mayB_iff.1 hm, by omega, by omega⟩]; rfl)
  have HM := Lib.hid hm
  have hff : f ≤ s.size := by omega
  have hl := lineN_le s f hff
  have he := endN_le s (lineN s f) hl.1 hl.2
  have hbg : bgN s (lineN s f - 1) = begN s f := by rw [← bgN_get s _ (by omega)]; exact begs_at s f hff (by omega)
  rw [hbg] at he
  have hbf := begN_le s f
  have HTS := Lib.hid hts
  have HFF := Lib.hid hff
  have HFT := Lib.hid hft
  have HBG := Lib.hid hbg
  have HL := Lib.hid hl
  have HE := Lib.hid he
  have HBF := Lib.hid hbf
  clear ht hn hft hts hff hm hbg hl he hbf
  go_enter Tryd.func13, Tryd.ntmps13
  go_wp2_with fail
  go_region_held3 (fun w' => w'.cell? ⟨w.heap.size, 0, none⟩ = some (.int .i64 (f : Int)) ∧ w'.cell? ⟨w.heap.size, 1, none⟩ = some (.int .i64 (t : Int)) ∧ w'.cell? ⟨p, 0, none⟩ = some (.string s) ∧ Hold w p s [(w.heap.size, 0, .int .i64 (f : Int)), (w.heap.size, 1, .int .i64 (t : Int))] w') (first | exact ⟨H0.cell (by simp), H0.cell (by simp), H0.text, H0⟩ | exact (fun H => ⟨Hold.cell H (by simp), Hold.cell H (by simp), Hold.text H, H⟩) (H0.step hb2)) (first | (go_at_call 14; refine (check_any _ _ _ _).mono ?_; rw [E.out]; rintro e w2 ⟨rfl, hb2⟩))
  clear t0 H0
  go_split_ands
  have H2 : Hold w p s [(w.heap.size, 0, .int .i64 (f : Int)), (w.heap.size, 1, .int .i64 (t : Int))] w2 := by assumption
  go_wp2_with fail
  refine (at_yes s p f _ hs H2.tab HFF.out).mono ?_
  rintro e w3 ⟨rfl, h23⟩
  have H3 := (H2.step h23).box (.int .i64 (lineN s f : Nat)) (.int .i64 (colN s f : Nat)) 35
  have c0 : w3.cell? ⟨w.heap.size, 0, none⟩ = some (.int .i64 (f : Int)) := (H2.step h23).cell (by simp)
  have c1 : w3.cell? ⟨w.heap.size, 1, none⟩ = some (.int .i64 (t : Int)) := (H2.step h23).cell (by simp)
  have z3 : w.heap.size < w3.heap.size := (H2.step h23).lt (o := 0) (v := .int .i64 (f : Int)) (by simp)
  clear H2
  have hln : (lineN s f : Int) ≤ 65537 := by have := (lineN_bd s f hs HFF.out).1; omega
  go_wp2_with fail
  refine (line_yes s p (lineN s f) _ hs H3.tab HL.out.1 HL.out.2).mono ?_
  rw [HBG.out]
  rintro e w4 ⟨rfl, h34⟩
  have H4 := H3.step h34
  have d0 : w4.cell? ⟨w3.heap.size, 0, none⟩ = some (.int .i64 (lineN s f : Nat)) := H4.cell (by simp)
  have e0 : w4.cell? ⟨w.heap.size, 0, none⟩ = some (.int .i64 (f : Int)) := H4.cell (by simp)
  have e1 : w4.cell? ⟨w.heap.size, 1, none⟩ = some (.int .i64 (t : Int)) := H4.cell (by simp)
  have z4 : w.heap.size < w4.heap.size := H4.lt (o := 0) (v := .int .i64 (f : Int)) (by simp)
  have z4' : w3.heap.size < w4.heap.size := H4.lt (o := 0) (v := .int .i64 (lineN s f : Nat)) (by simp)
  clear c0 c1 H3 h34
  go_wp2_with fail
  have H5 := H4.box (.int .i64 (begN s f : Nat)) (.int .i64 (endN s (lineN s f) : Nat)) 24
  refine (ttext_yes s p (lineN s f) _ hs H5.tab HL.out.1 HL.out.2).mono ?_
  rintro e w5 ⟨rfl, h45⟩
  have H6 := H5.step h45
  have hxs : (lineS s (lineN s f)).size = endN s (lineN s f) - begN s f := by
    unfold lineS; rw [HBG.out, ByteArray.size_extract]; have := HE.out.2; omega
  have HX := Lib.hid hxs
  have HPS : Hid (pointS s f t = lineS s (lineN s f) ++ ⟨#[10]⟩ ++ blankS ((lineS s (lineN s f)).extract 0 (aheadN s f)) ++ ⟨(List.replicate (signN s f t) 94).toArray⟩ ++ ⟨#[10]⟩) := rfl
  have HAH : Hid (aheadN s f = min (f - begN s f) (endN s (lineN s f) - begN s f)) := rfl
  have HSG : Hid (signN s f t = max (min t (endN s (lineN s f)) - f) 1) := rfl
  have f0 : w5.cell? ⟨w.heap.size, 0, none⟩ = some (.int .i64 (f : Int)) := H6.cell (by simp)
  have f1 : w5.cell? ⟨w.heap.size, 1, none⟩ = some (.int .i64 (t : Int)) := H6.cell (by simp)
  have g0 : w5.cell? ⟨w4.heap.size, 0, none⟩ = some (.int .i64 (begN s f : Nat)) := H6.cell (by simp)
  have g1 : w5.cell? ⟨w4.heap.size, 1, none⟩ = some (.int .i64 (endN s (lineN s f) : Nat)) := H6.cell (by simp)
  clear hxs d0 e0 e1 H4 H5 h45
  generalize lineS s (lineN s f) = x at *
  generalize endN s (lineN s f) = E at *
  generalize begN s f = B at *
  generalize lineN s f = L at *
  generalize colN s f = C at *
  have b1 : B ≤ f := HBF.out
  have b2 := HFF.out
  have b3 : E ≤ s.size := HE.out.2
  have b4 : x.size ≤ 65536 := by have := HX.out; omega
  go_wp2_with fail
  have hA : min ((f : Int) - (B : Int)) (x.size : Int) = ((aheadN s f : Nat) : Int) := by have h1 := HAH.out; have h2 := HX.out; have h3 := HE.out; omega
  have hA2 : aheadN s f ≤ x.size := by have h1 := HAH.out; have h2 := HX.out; omega
  rw [hA]
  clear hA f0 f1 g0 g1
  generalize aheadN s f = A at *
  cases hq : meetB f t B E
  · have HQ := Lib.hid hq
    have HD : Hid (signN s f t = 1) := by
      have h1 := HSG.out
      have h2 : mayB (B : Int) (E : Int) = true := mayB_iff.2 ⟨by omega, by have := HE.out; omega, by omega⟩
      have h3 : ¬ maxI (f : Int) (B : Int) < minI (t : Int) (E : Int) := by simpa [meetB, HM.out, h2] using hq
      have h4 := maxI_ways (f : Int) (B : Int)
      have h5 := minI_ways (t : Int) (E : Int)
      have : signN s f t = 1 := by omega
      exact this
    clear hq
    refine (meet_no _ _ _ _ _ HQ.out).mono ?_
    rintro e w6 ⟨rfl, h56⟩
    have H7 := (H6.step h56).box (.int .i64 0) (.int .i64 0) 24
    go_wp2_with fail
    refine (len_any _ _ _).mono ?_
    rw [show lenI 0 0 = 0 by decide]
    rintro e w7 ⟨rfl, h67⟩
    have H8 := H7.step h67
    clear H7 h67
    go_wp2_with fail
    rw [show max (0 : Int) 1 = ((signN s f t : Nat) : Int) by have := HD.out; omega]
    have HDB := Lib.hid (show signN s f t ≤ 65537 by have := HD.out; omega)
    generalize signN s f t = D at *
    refine (carets_any D _ HDB.out).mono ?_
    rintro e w8 ⟨rfl, h78⟩
    have H9 := H8.step h78
    clear H8 h78
    have hy : (blankS (x.extract 0 A)).size ≤ 65536 := by rw [blankS_size, ByteArray.size_extract]; omega
    have hz := carets_size D HDB.out
    have hx1 : (x.extract 0 A).size ≤ 65536 := by simp; omega
    have BL := Lib.hid (fun w => blanks_any (x.extract 0 A) w hx1)
    generalize blankS (x.extract 0 A) = y at *
    generalize (⟨(List.replicate D 94).toArray⟩ : ByteArray) = z at *
    have n1 : ¬ 9223372036854775807 < x.size + 1 := by omega
    have n2 : ¬ 9223372036854775807 < x.size + 1 + y.size := by omega
    have n3 : ¬ 9223372036854775807 < x.size + 1 + y.size + z.size := by omega
    have n4 : ¬ 9223372036854775807 < x.size + 1 + y.size + z.size + 1 := by omega
    clear hy hz hx1
    go_wp2_with fail
    refine (BL.out _).mono ?_
    rintro e w9 ⟨rfl, h89⟩
    go_wp2_with fail
    go_ret2
    exact ⟨by rw [HPS.out]; rfl, after H9.bel h89⟩
  · have HQ := Lib.hid hq
    have h2 : mayB (B : Int) (E : Int) = true := mayB_iff.2 ⟨by omega, by have := HE.out; omega, by omega⟩
    have h3 : maxI (f : Int) (B : Int) < minI (t : Int) (E : Int) := by simpa [meetB, HM.out, h2] using hq
    have h4 := maxI_ways (f : Int) (B : Int)
    have h5 := minI_ways (t : Int) (E : Int)
    have h6 : mayB (maxI (f : Int) (B : Int)) (minI (t : Int) (E : Int)) = true := mayB_iff.2 ⟨by omega, by omega, by have := HTS.out; omega⟩
    have LEN := Lib.hid (lenI_yes h6)
    have HD : Hid (((signN s f t : Nat) : Int) = max (minI (t : Int) (E : Int) - maxI (f : Int) (B : Int)) 1) := by
      have h1 := HSG.out
      have : ((signN s f t : Nat) : Int) = max (minI (t : Int) (E : Int) - maxI (f : Int) (B : Int)) 1 := by omega
      exact this
    have hD2 : signN s f t ≤ 65537 := by have h1 := HSG.out; have h2 := HTS.out; omega
    clear hq h2 h3 h4 h5 h6
    refine (meet_yes _ _ _ _ _ HQ.out).mono ?_
    rintro e w6 ⟨rfl, h56⟩
    have H7 := (H6.step h56).box (.int .i64 (maxI f B)) (.int .i64 (minI t E)) 24
    generalize hMX : maxI f B = mx at *
    generalize hMN : minI t E = mn at *
    have HMX := Lib.hid hMX
    have HMN := Lib.hid hMN
    clear hMX hMN
    go_wp2_with fail
    refine (len_any _ _ _).mono ?_
    rw [LEN.out]
    rintro e w7 ⟨rfl, h67⟩
    have H8 := H7.step h67
    clear H7 h67
    go_wp2_with fail
    rw [← HD.out]
    have HDB := Lib.hid (hD2)
    generalize signN s f t = D at *
    refine (carets_any D _ HDB.out).mono ?_
    rintro e w8 ⟨rfl, h78⟩
    have H9 := H8.step h78
    clear H8 h78
    have hy : (blankS (x.extract 0 A)).size ≤ 65536 := by rw [blankS_size, ByteArray.size_extract]; omega
    have hz := carets_size D HDB.out
    have hx1 : (x.extract 0 A).size ≤ 65536 := by simp; omega
    have BL := Lib.hid (fun w => blanks_any (x.extract 0 A) w hx1)
    generalize blankS (x.extract 0 A) = y at *
    generalize (⟨(List.replicate D 94).toArray⟩ : ByteArray) = z at *
    have n1 : ¬ 9223372036854775807 < x.size + 1 := by omega
    have n2 : ¬ 9223372036854775807 < x.size + 1 + y.size := by omega
    have n3 : ¬ 9223372036854775807 < x.size + 1 + y.size + z.size := by omega
    have n4 : ¬ 9223372036854775807 < x.size + 1 + y.size + z.size + 1 := by omega
    clear hy hz hx1
    go_wp2_with fail
    refine (BL.out _).mono ?_
    rintro e w9 ⟨rfl, h89⟩
    go_wp2_with fail
    go_ret2
    exact ⟨by rw [HPS.out]; rfl, after H9.bel h89⟩

end Go.Proofs.YtfiphchjjgmcpaaDoor
