/- The statements' own first question (tells). -/
import Derived.Test.YtcmeeehhhnmfgaaDoorLinePoint
import Derived.Test.YtcmeeehhhnmfgaaDoorLineByte
import Derived.Test.YtcmeeehhhnmfgaaDoorLineText
namespace Go.Proofs.YtcmeeehhhnmfgaaDoor
open Go.RowKit
set_option linter.unusedVariables false

/-- the text of the first question -/
def tT : ByteArray := ⟨#[97, 98, 13, 10, 99, 100, 101]⟩
theorem dig_small (n : Nat) (h : n < 10) : digS n = ⟨#[UInt8.ofNat (48 + n)]⟩ := by
  unfold digS; rw [Lib.decDigits, dif_pos h]
theorem tT_len : (begs tT).length = 2 := by decide
theorem tT_line : lineN tT 5 = 2 := by decide
theorem tT_col : colN tT 5 = 2 := by decide
theorem tT_text : lineS tT 1 = ⟨#[97, 98]⟩ := by decide
theorem tT_place : placeS 2 2 = ⟨#[50, 58, 50]⟩ := by unfold placeS; rw [dig_small 2 (by omega)]; decide
theorem tT_show : showS tT 4 6 = ⟨#[50, 58, 49, 45, 50, 58, 51]⟩ := by
  have e : showS tT 4 6 = placeS 2 1 ++ ⟨#[45]⟩ ++ placeS 2 3 := by
    unfold showS; rw [if_pos (by omega)]
    have h1 : lineN tT 4 = 2 := by decide
    have h2 : colN tT 4 = 1 := by decide
    have h3 : lineN tT 6 = 2 := by decide
    have h4 : colN tT 6 = 3 := by decide
    rw [h1, h2, h3, h4]
  rw [e]; unfold placeS; rw [dig_small 2 (by omega), dig_small 1 (by omega), dig_small 3 (by omega)]; decide
theorem tT_point : pointS tT 4 6 = ⟨#[99, 100, 101, 10, 94, 94, 10]⟩ := by decide
theorem tT_cols : colsN tT 2 = 4 := by decide
theorem tT_beg : ∀ h : 2 - 1 < (begs tT).length, (begs tT)[2 - 1] = 4 := by decide

set_option maxRecDepth 100000 in
set_option maxHeartbeats 2000000 in
theorem tells_any (w : World) (hn : Tab w) :
    Calls Tryd.prog 9 #[] w fun e w' => e = .returned (.bool true) ∧ Below w.heap.size w w' := by
  have HN := Lib.hid hn
  clear hn
  have hs : tT.size ≤ 65536 := by decide
  have HS := Lib.hid hs
  clear hs
  go_enter Tryd.func9, Tryd.ntmps9
  go_wp2_with fail
  refine (lof_any tT _ HS.out).mono ?_
  rintro e w1 ⟨p, rfl, hp, ht, h01⟩
  have H1 : Hold w p tT [] w1 := ⟨h01, ht, HN.out.step h01, fun x hx => absurd hx (by simp)⟩
  have hpl := ht.lt
  clear ht h01
  go_wp2_with fail
  refine (lines_any tT p _ H1.tab).mono ?_
  rw [tT_len]
  rintro e w2 ⟨rfl, rfl⟩
  go_wp2_with fail
  have c1 := at_yes tT p 5 w1 HS.out H1.tab (by decide)
  rw [tT_line, tT_col] at c1
  refine c1.mono ?_
  clear c1
  rintro e w2 ⟨rfl, h12⟩
  have H2 := (H1.step h12).box (.int .i64 2) (.int .i64 2) 28
  clear H1 h12
  go_wp2_with fail
  have c1 := ttext_yes tT p 1 _ HS.out H2.tab (by omega) (by rw [tT_len]; omega)
  rw [tT_text] at c1
  refine c1.mono ?_
  clear c1
  rintro e w3 ⟨rfl, h23⟩
  have H3 := H2.step h23
  clear H2 h23
  go_wp2_with fail
  have c1 := byte_yes tT p 2 4 _ HS.out H3.tab (by omega) (by rw [tT_len]; omega) (by omega) (by rw [tT_cols]; omega)
  rw [tT_beg] at c1
  refine c1.mono ?_
  clear c1
  rintro e w4 ⟨rfl, h34⟩
  have H4 := H3.step h34
  clear H3 h34
  go_wp2_with fail
  have c1 := show_any tT p 4 6 _ HS.out H4.tab H4.nums (by omega) (by decide)
  rw [tT_show] at c1
  refine c1.mono ?_
  clear c1
  rintro e w5 ⟨rfl, h45⟩
  have H5 := H4.step h45
  clear H4 h45
  go_wp2_with fail
  have c1 := point_any tT p 4 6 _ HS.out H5.tab H5.nums (by omega) (by decide)
  rw [tT_point] at c1
  refine c1.mono ?_
  clear c1
  rintro e w6 ⟨rfl, h56⟩
  have H6 := H5.step h56
  have c0 : w6.cell? ⟨w2.heap.size, 0, none⟩ = some (.int .i64 2) := H6.cell (by simp)
  have c1 : w6.cell? ⟨w2.heap.size, 1, none⟩ = some (.int .i64 2) := H6.cell (by simp)
  have b6 : w2.heap.size < w6.heap.size := H6.lt (o := 0) (v := .int .i64 2) (by simp)
  clear H5 h56
  go_wp2_with fail
  refine (pstring_any 2 2 _ (by omega) (by omega) H6.nums).mono ?_
  rw [tT_place]
  rintro e w7 ⟨rfl, h67⟩
  have H7 := H6.step h67
  clear H6 h67 c0 c1
  go_wp2_with fail
  go_ret
  exact ⟨rfl, H7.bel⟩

end Go.Proofs.YtcmeeehhhnmfgaaDoor
