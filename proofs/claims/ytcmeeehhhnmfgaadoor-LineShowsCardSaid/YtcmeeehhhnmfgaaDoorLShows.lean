/- LineShows: the walk. -/
import Derived.Test.YtcmeeehhhnmfgaaDoorLTexts
import Derived.Test.YtcmeeehhhnmfgaaDoorRefUnder
import Derived.Test.YtcmeeehhhnmfgaaDoorRefNum
import Derived.Test.YtcmeeehhhnmfgaaDoorPlaces
namespace Go.Proofs.YtcmeeehhhnmfgaaDoor
open Go.RowKit
set_option linter.unusedVariables false

theorem shows_far (s : ByteArray) (f t : Int) (w : World) (hn : Tab w) (hs : 5000 < s.size) (hm : s.size ≤ maxLen) :
    Calls Tryd.prog 6 #[.string s, .agg #[.int .i64 f, .int .i64 t]] w fun e w' => e = .returned (.bool true) ∧ Below w.heap.size w w' := by
  have HN := Lib.hid hn
  have hm1 : s.size < 9223372036854775808 := by unfold maxLen at hm; omega
  clear hn hm
  go_enter Tryd.func6, Tryd.ntmps6
  go_wp2_with fail
  refine (tells_any _ (HN.out.step (by repeat (first | exact Below.refl _ _ | apply Below.setCell _ (by first | omega | (simp <;> omega)) | apply Below.alloc _ (by first | omega | (simp <;> omega)))))).mono ?_
  rintro e w1 ⟨rfl, h01⟩
  obtain ⟨g01, q0, q1, q2⟩ := box2 h01
  clear h01 q0 q1 q2
  go_wp2_with fail
  go_ret
  exact ⟨rfl, g01⟩

set_option maxRecDepth 100000 in
set_option maxHeartbeats 1000000 in
theorem shows_no (s : ByteArray) (f t : Int) (w : World) (hn : Tab w) (hs : s.size ≤ 5000) (hb : chkB f t s.size = false) :
    Calls Tryd.prog 6 #[.string s, .agg #[.int .i64 f, .int .i64 t]] w fun e w' => e = .returned (.bool true) ∧ Below w.heap.size w w' := by
  have HS : Hid (s.size ≤ 65536) := Lib.hid (by omega)
  have HN := Lib.hid hn
  have HB := Lib.hid hb
  have HW := Lib.hid (show f < 0 ∨ (¬ f < 0 ∧ t < f) ∨ (¬ f < 0 ∧ ¬ t < f ∧ (s.size : Int) < t) by
    by_cases a1 : f < 0
    · exact .inl a1
    · by_cases a2 : t < f
      · exact .inr (.inl ⟨a1, a2⟩)
      · refine .inr (.inr ⟨a1, a2, ?_⟩)
        by_cases a3 : (s.size : Int) < t
        · exact a3
        · have := chkB_iff.2 (show (0 ≤ f ∧ f ≤ t ∧ t ≤ 65536) ∧ t ≤ s.size ∧ (s.size : Int) ≤ 65536 from ⟨⟨by omega, by omega, by omega⟩, by omega, by omega⟩)
          rw [this] at hb; cases hb)
  clear hn hb
  go_enter Tryd.func6, Tryd.ntmps6
  go_wp2_with fail
  refine (tells_any _ (HN.out.step (by repeat (first | exact Below.refl _ _ | apply Below.setCell _ (by first | omega | (simp <;> omega)) | apply Below.alloc _ (by first | omega | (simp <;> omega)))))).mono ?_
  rintro e w1 ⟨rfl, h01⟩
  obtain ⟨g01, q0, q1, q2⟩ := box2 h01
  have HN1 := Lib.hid (HN.out.step g01)
  clear HN h01
  go_wp2_with fail
  refine (lof_any s _ HS.out).mono ?_
  rintro e w2 ⟨p, rfl, hp, ht, h12⟩
  have H2 : Hold w p s [(w.heap.size, 0, .int .i64 f), (w.heap.size, 1, .int .i64 t)] w2 := ⟨after g01 h12, ht, HN1.out.step h12, fun x hx => by
    have hz := h12.size
    rcases List.mem_cons.1 hx with rfl | hx
    · exact ⟨by simp; omega, keep h12 (by simp; omega) q0⟩
    · rcases List.mem_cons.1 hx with rfl | hx
      · exact ⟨by simp; omega, keep h12 (by simp; omega) q1⟩
      · exact absurd hx (by simp)⟩
  have c0 : w2.cell? ⟨w.heap.size, 0, none⟩ = some (.int .i64 f) := H2.cell (by simp)
  have c1 : w2.cell? ⟨w.heap.size, 1, none⟩ = some (.int .i64 t) := H2.cell (by simp)
  have b2 : w.heap.size < w2.heap.size := H2.lt (o := 0) (v := .int .i64 f) (by simp)
  clear ht h12 HN1 g01 q0 q1 q2
  go_wp2_with fail
  refine (show_no s p f t _ HS.out H2.tab H2.nums HB.out).mono ?_
  rintro e w3 ⟨rfl, h23⟩
  have H3 := H2.step h23
  have d0 : w3.cell? ⟨w.heap.size, 0, none⟩ = some (.int .i64 f) := H3.cell (by simp)
  have d1 : w3.cell? ⟨w.heap.size, 1, none⟩ = some (.int .i64 t) := H3.cell (by simp)
  have b3 : w.heap.size < w3.heap.size := H3.lt (o := 0) (v := .int .i64 f) (by simp)
  clear c0 c1 b2 H2 h23
  go_wp2_with fail
  refine (point_no s p f t _ HS.out H3.tab H3.nums HB.out).mono ?_
  rintro e w4 ⟨rfl, h34⟩
  have H4 := H3.step h34
  have e0 : w4.cell? ⟨w.heap.size, 0, none⟩ = some (.int .i64 f) := H4.cell (by simp)
  have e1 : w4.cell? ⟨w.heap.size, 1, none⟩ = some (.int .i64 t) := H4.cell (by simp)
  have hbel := Lib.hid H4.bel
  clear d0 d1 b3 H3 H4 h34
  rcases HW.out with a1 | ⟨a1, a2⟩ | ⟨a1, a2, a3⟩
  · go_wp2_with fail
    go_ret
    exact ⟨rfl, hbel.out⟩
  · go_wp2_with fail
    go_ret
    exact ⟨rfl, hbel.out⟩
  · go_wp2_with fail
    go_ret
    exact ⟨rfl, hbel.out⟩

theorem point_under (s : ByteArray) (f t : Nat) (hft : f ≤ t) (hts : t ≤ s.size) :
    pointS s f t = lineS s (lineN s f) ++ ⟨#[10]⟩ ++ underS (lineS s (lineN s f)) (colN s f) (t - f) ++ ⟨#[10]⟩ := by
  have hff : f ≤ s.size := by omega
  have hl := lineN_le s f hff
  have he := endN_le s (lineN s f) hl.1 hl.2
  have hbg : bgN s (lineN s f - 1) = begN s f := by rw [← bgN_get s _ (by omega)]; exact begs_at s f hff (by omega)
  have hbf := begN_le s f
  have hsz : (lineS s (lineN s f)).size = endN s (lineN s f) - begN s f := by unfold lineS; rw [hbg, ByteArray.size_extract]; omega
  rw [hbg] at he
  unfold pointS underS
  have e1 : min (colN s f - 1) (lineS s (lineN s f)).size = aheadN s f := by
    rw [hsz]; unfold aheadN colN; omega
  have e2 : underN (lineS s (lineN s f)) (colN s f) (t - f) = signN s f t := by
    unfold underN signN; rw [hsz]; unfold colN; omega
  rw [e1, e2]
  unfold repS
  simp only [ByteArray.append_assoc]
theorem under_size (x : ByteArray) (c n : Nat) (hx : x.size ≤ 65536) (hn : n ≤ 65537) : (underS x c n).size ≤ 200000 := by
  unfold underS
  rw [ByteArray.size_append, blankS_size, ByteArray.size_extract]
  have : (repS (underN x c n)).size = underN x c n := by show (List.replicate (underN x c n) 94).toArray.size = _; simp
  rw [this]
  unfold underN
  omega

set_option maxRecDepth 100000 in
set_option maxHeartbeats 4000000 in
theorem shows_yes (s : ByteArray) (f t : Nat) (w : World) (hn : Tab w) (hs : s.size ≤ 5000) (hft : f ≤ t) (hts : t ≤ s.size) :
    Calls Tryd.prog 6 #[.string s, .agg #[.int .i64 (f : Nat), .int .i64 (t : Nat)]] w fun e w' => e = .returned (.bool true) ∧ Below w.heap.size w w' := by
  have HS : Hid (s.size ≤ 65536) := Lib.hid (by omega)
  have HN := Lib.hid hn
  have HFT := Lib.hid hft
  have HTS := Lib.hid hts
  have HFS := Lib.hid (show f ≤ s.size by omega)
  have bf := lineN_bd s f HS.out HFS.out
  have bt := lineN_bd s t HS.out hts
  have hl := lineN_le s f HFS.out
  have hcf := (col_le s f HFS.out).1
  have he := endN_le s (lineN s f) hl.1 hl.2
  have hy : (lineS s (lineN s f)).size ≤ 65536 := by unfold lineS; rw [ByteArray.size_extract]; omega
  have hu := under_size (lineS s (lineN s f)) (colN s f) (t - f) hy (by omega)
  have PU := Lib.hid (point_under s f t hft hts)
  have SHOW := Lib.hid (fun p w ht hn => show_any s p f t w HS.out ht hn HFT.out HTS.out)
  have POINT := Lib.hid (fun p w ht hn => point_any s p f t w HS.out ht hn HFT.out HTS.out)
  have ATF := Lib.hid (fun w => refat_any s f w HS.out HFS.out)
  have ATT := Lib.hid (fun w => refat_any s t w HS.out HTS.out)
  have NLF := Lib.hid (fun w => number_any (lineN s f) w bf.1)
  have NCF := Lib.hid (fun w => number_any (colN s f) w bf.2)
  have NLT := Lib.hid (fun w => number_any (lineN s t) w bt.1)
  have NCT := Lib.hid (fun w => number_any (colN s t) w bt.2)
  have BARE := Lib.hid (bare_line s (lineN s f) hl.1 hl.2)
  have UND := Lib.hid (fun w => under_any (lineS s (lineN s f)) (colN s f) (t - f) w hy hcf bf.2 (by omega))
  have ROW := Lib.hid (fun w => reflines_row s w HS.out)
  have HLL := Lib.hid (linesS_len s)
  have BD := Lib.hid (fun (j : Nat) (h : j < (linesS s).length) => (show (linesS s)[j].size ≤ 65536 by
    rw [linesS_get s j h, ByteArray.size_extract]; have := HS.out; omega))
  have s1 := digS_size (lineN s f) bf.1
  have s2 := digS_size (colN s f) bf.2
  have s3 := digS_size (lineN s t) bt.1
  have s4 := digS_size (colN s t) bt.2
  have hlb := Lib.hid hl
  have ea : (lineN s f : Int) - 1 = ((lineN s f - 1 : Nat) : Int) := by omega
  have et : (t : Int) - (f : Int) = ((t - f : Nat) : Int) := by omega
  have SZ1 : Hid (showS s f t = if f < t then digS (lineN s f) ++ ⟨#[58]⟩ ++ digS (colN s f) ++ (⟨#[45]⟩ ++ digS (lineN s t) ++ ⟨#[58]⟩ ++ digS (colN s t)) else digS (lineN s f) ++ ⟨#[58]⟩ ++ digS (colN s f)) := Lib.hid (by
    unfold showS placeS
    split
    · simp only [ByteArray.append_assoc]
    · rfl)
  have HL1 := Lib.hid hl.1
  have hl2 : lineN s f ≤ (begs s).length := hl.2
  have hm : (begs s).length ≤ 65537 := by have := (begs_len s).2; have := HS.out; omega
  clear hn hft hts bf bt he hcf hl
  generalize lineS s (lineN s f) = y at *
  generalize underS y (colN s f) (t - f) = u at *
  generalize pointS s f t = pz at *
  generalize showS s f t = z at *
  generalize digS (lineN s f) = x1 at *
  generalize digS (colN s f) = x2 at *
  generalize digS (lineN s t) = x3 at *
  generalize digS (colN s t) = x4 at *
  generalize lineN s f = lf at *
  generalize colN s f = cf at *
  generalize lineN s t = lt at *
  generalize colN s t = ct at *
  generalize t - f = d at *
  generalize (begs s).length = m at *
  have n1 : ¬ 9223372036854775807 < x1.size + 1 := by omega
  have n2 : ¬ 9223372036854775807 < x1.size + 1 + x2.size := by omega
  have n3 : ¬ 9223372036854775807 < 1 + x3.size := by omega
  have n4 : ¬ 9223372036854775807 < 1 + x3.size + 1 := by omega
  have n5 : ¬ 9223372036854775807 < 1 + x3.size + 1 + x4.size := by omega
  have n6 : ¬ 9223372036854775807 < x1.size + 1 + x2.size + (1 + x3.size + 1 + x4.size) := by omega
  have n7 : ¬ 9223372036854775807 < y.size + 1 := by omega
  have n8 : ¬ 9223372036854775807 < y.size + 1 + u.size := by omega
  have n9 : ¬ 9223372036854775807 < y.size + 1 + u.size + 1 := by omega
  clear s1 s2 s3 s4 hu
  go_enter Tryd.func6, Tryd.ntmps6
  go_wp2_with fail
  refine (tells_any _ (HN.out.step (by repeat (first | exact Below.refl _ _ | apply Below.setCell _ (by first | omega | (simp <;> omega)) | apply Below.alloc _ (by first | omega | (simp <;> omega)))))).mono ?_
  rintro e w1 ⟨rfl, h01⟩
  obtain ⟨g01, q0, q1, q2⟩ := box2 h01
  have HN1 := Lib.hid (HN.out.step g01)
  clear HN h01
  go_wp2_with fail
  refine (lof_any s _ HS.out).mono ?_
  rintro e w2 ⟨p, rfl, hp, ht, h12⟩
  have H2 : Hold w p s [(w.heap.size, 0, .int .i64 (f : Int)), (w.heap.size, 1, .int .i64 (t : Int))] w2 := ⟨after g01 h12, ht, HN1.out.step h12, fun x hx => by
    have hz := h12.size
    rcases List.mem_cons.1 hx with rfl | hx
    · exact ⟨by simp; omega, keep h12 (by simp; omega) q0⟩
    · rcases List.mem_cons.1 hx with rfl | hx
      · exact ⟨by simp; omega, keep h12 (by simp; omega) q1⟩
      · exact absurd hx (by simp)⟩
  have c0 : w2.cell? ⟨w.heap.size, 0, none⟩ = some (.int .i64 (f : Int)) := H2.cell (by simp)
  have c1 : w2.cell? ⟨w.heap.size, 1, none⟩ = some (.int .i64 (t : Int)) := H2.cell (by simp)
  have b2 : w.heap.size < w2.heap.size := H2.lt (o := 0) (v := .int .i64 (f : Int)) (by simp)
  clear ht h12 HN1 g01 q0 q1 q2
  go_wp2_with fail
  refine (SHOW.out p _ H2.tab H2.nums).mono ?_
  rintro e w3 ⟨rfl, h23⟩
  have H3 := H2.step h23
  have d0 : w3.cell? ⟨w.heap.size, 0, none⟩ = some (.int .i64 (f : Int)) := H3.cell (by simp)
  have d1 : w3.cell? ⟨w.heap.size, 1, none⟩ = some (.int .i64 (t : Int)) := H3.cell (by simp)
  have b3 : w.heap.size < w3.heap.size := H3.lt (o := 0) (v := .int .i64 (f : Int)) (by simp)
  clear c0 c1 b2 H2 h23
  go_wp2_with fail
  refine (POINT.out p _ H3.tab H3.nums).mono ?_
  rintro e w4 ⟨rfl, h34⟩
  have H4 := H3.step h34
  have e0 : w4.cell? ⟨w.heap.size, 0, none⟩ = some (.int .i64 (f : Int)) := H4.cell (by simp)
  have e1 : w4.cell? ⟨w.heap.size, 1, none⟩ = some (.int .i64 (t : Int)) := H4.cell (by simp)
  clear d0 d1 b3 H3 h34
  have k1 : f ≤ t := HFT.out
  have k2 : t ≤ s.size := HTS.out
  go_wp2_with fail
  refine (ATF.out _).mono ?_
  rintro e w5 ⟨rfl, rfl⟩
  go_wp2_with fail
  refine (ATT.out _).mono ?_
  rintro e w5 ⟨rfl, rfl⟩
  go_wp2_with fail
  refine (NLF.out _).mono ?_
  rintro e w5 ⟨rfl, h45⟩
  go_wp2_with fail
  refine (NCF.out _).mono ?_
  rintro e w6 ⟨rfl, h56⟩
  have H6 := (H4.step h45).step h56
  have f0 : w6.cell? ⟨w.heap.size, 0, none⟩ = some (.int .i64 (f : Int)) := H6.cell (by simp)
  have f1 : w6.cell? ⟨w.heap.size, 1, none⟩ = some (.int .i64 (t : Int)) := H6.cell (by simp)
  clear e0 e1 H4 h45 h56
  by_cases hlt : f < t
  · have HZ := Lib.hid (SZ1.out.trans (if_pos hlt))
    go_wp2_with fail
    refine (NLT.out _).mono ?_
    rintro e w7 ⟨rfl, h67⟩
    go_wp2_with fail
    refine (NCT.out _).mono ?_
    rintro e w8 ⟨rfl, h78⟩
    have H8 := (H6.step h67).step h78
    clear H6 h67 h78 f0 f1
    go_wp2_with fail
    refine (ROW.out _).mono ?_
    rintro e w9 ⟨g, cap, rfl, q1, q2, q3, h89⟩
    have H9 := H8.step h89
    have hjl : lf - 1 < (linesS s).length := by have := HLL.out; omega
    have c0 := q3.2 (lf - 1) hjl
    have hx := BD.out (lf - 1) hjl
    have Z := Lib.hid (BARE.out hjl)
    have hg := q3.1
    revert c0 hx Z
    generalize (linesS s)[lf - 1] = x
    intro c0 hx Z
    clear hjl q3 h89 H8
    go_wp2_with fail
    refine (refbare_any x _ hx).mono ?_
    rw [Z.out]
    rintro e w10 ⟨rfl, hA⟩
    have H10 := H9.step hA
    have f0 : w10.cell? ⟨w.heap.size, 0, none⟩ = some (.int .i64 (f : Int)) := H10.cell (by simp)
    have f1 : w10.cell? ⟨w.heap.size, 1, none⟩ = some (.int .i64 (t : Int)) := H10.cell (by simp)
    clear H9 hA c0 hx Z hg
    have ez := HZ.out
    have ep := PU.out
    subst ez
    subst ep
    go_wp2_with fail
    refine (UND.out _).mono ?_
    rintro e w11 ⟨rfl, hB⟩
    have hbel := Lib.hid (H10.step hB).bel
    clear H10 hB f0 f1
    go_wp2_with fail
    go_ret
    exact ⟨rfl, hbel.out⟩
  · have HZ := Lib.hid (SZ1.out.trans (if_neg hlt))
    have H8 := H6
    clear H6
    go_wp2_with fail
    clear f0 f1
    refine (ROW.out _).mono ?_
    rintro e w9 ⟨g, cap, rfl, q1, q2, q3, h89⟩
    have H9 := H8.step h89
    have hjl : lf - 1 < (linesS s).length := by have := HLL.out; omega
    have c0 := q3.2 (lf - 1) hjl
    have hx := BD.out (lf - 1) hjl
    have Z := Lib.hid (BARE.out hjl)
    have hg := q3.1
    revert c0 hx Z
    generalize (linesS s)[lf - 1] = x
    intro c0 hx Z
    clear hjl q3 h89 H8
    go_wp2_with fail
    refine (refbare_any x _ hx).mono ?_
    rw [Z.out]
    rintro e w10 ⟨rfl, hA⟩
    have H10 := H9.step hA
    have f0 : w10.cell? ⟨w.heap.size, 0, none⟩ = some (.int .i64 (f : Int)) := H10.cell (by simp)
    have f1 : w10.cell? ⟨w.heap.size, 1, none⟩ = some (.int .i64 (t : Int)) := H10.cell (by simp)
    clear H9 hA c0 hx Z hg
    have ez := HZ.out
    have ep := PU.out
    subst ez
    subst ep
    go_wp2_with fail
    refine (UND.out _).mono ?_
    rintro e w11 ⟨rfl, hB⟩
    have hbel := Lib.hid (H10.step hB).bel
    clear H10 hB f0 f1
    go_wp2_with fail
    go_ret
    exact ⟨rfl, hbel.out⟩

theorem shows_any (s : ByteArray) (hm : s.size ≤ maxLen) (f t : Int) (hf : (Lit.int .i64 f).wf = true) (ht : (Lit.int .i64 t).wf = true) (w : World) (hn : Tab w) :
    Calls Tryd.prog 6 #[.string s, .agg #[.int .i64 f, .int .i64 t]] w fun e w' => e = .returned (.bool true) ∧ Below w.heap.size w w' := by
  by_cases h0 : 5000 < s.size
  · exact shows_far s f t w hn h0 hm
  cases hb : chkB f t s.size
  · exact shows_no s f t w hn (by omega) hb
  · have h := chkB_iff.1 hb
    obtain ⟨a, rfl⟩ : ∃ a : Nat, f = a := ⟨f.toNat, by omega⟩
    obtain ⟨b, rfl⟩ : ∃ b : Nat, t = b := ⟨t.toNat, by omega⟩
    exact shows_yes s a b w hn (by omega) (by omega) (by omega)

end Go.Proofs.YtcmeeehhhnmfgaaDoor
