/- Table.Show of a span of the text. -/
import Derived.Test.YtfiphchjjgmcpaaDoorLineHold
namespace Go.Proofs.YtfiphchjjgmcpaaDoor
open Go.RowKit
set_option linter.unusedVariables false

theorem placeS_size (l c : Nat) (hl : l ≤ 65537) (hc : c ≤ 65537) : (placeS l c).size ≤ 11 := by
  have h1 := digS_size l hl
  have h2 := digS_size c hc
  unfold placeS
  have h3 : (⟨#[58]⟩ : ByteArray).size = 1 := rfl
  simp only [ByteArray.size_append, h3]
  omega

set_option maxHeartbeats 2000000 in
theorem show_eq (s : ByteArray) (p f t : Nat) (w : World) (hs : s.size ≤ 65536) (ht : TableAt w p s) (hn : Tab w) (hft : f = t) (hts : t ≤ s.size) :
    Calls Tryd.prog 12 #[.pointer (some ⟨p, 0, none⟩), .agg #[.int .i64 (f : Nat), .int .i64 (t : Nat)]] w fun e w' => e = .returned (.tuple #[.string (showS s f t), .int .i64 0]) ∧ Below w.heap.size w w' := by
  have hm : mayB (f : Nat) (t : Nat) = true := mayB_iff.2 ⟨by omega, by omega, by omega⟩
  have H0 := ((Hold.start ht hn).box (.int .i64 (f : Nat)) (.int .i64 (t : Nat)) 24).drew
  have t0 := H0.text
  have hp := ht.lt
  have E := Lib.hid (show errI (chkB (f : Nat) (t : Nat) s.size) 1 = 0 by rw [chkB_iff.2 ⟨mayB_iff.1 hm, by omega, by omega⟩]; rfl)
  have BF := Lib.hid (lineN_bd s f hs (by omega))
  have BT := Lib.hid (lineN_bd s t hs hts)
  have HSH := Lib.hid (show showS s f t = placeS (lineN s f) (colN s f) by unfold showS; rw [if_neg (by omega)])
  have EQ : (((t : Int) - (f : Int)) == 0) = true := by simp; omega
  have hff : f ≤ s.size := by omega
  have HTS := Lib.hid hts
  have HFF := Lib.hid hff
  have EL := Lib.hid (lenI_yes hm)
  clear ht hn hft hts hff hm
  go_enter Tryd.func12, Tryd.ntmps12
  go_wp2_with fail
  go_region_held3 (fun w' => w'.cell? ⟨w.heap.size, 0, none⟩ = some (.int .i64 (f : Int)) ∧ w'.cell? ⟨w.heap.size, 1, none⟩ = some (.int .i64 (t : Int)) ∧ w'.cell? ⟨p, 0, none⟩ = some (.string s) ∧ Hold w p s [(w.heap.size, 0, .int .i64 (f : Int)), (w.heap.size, 1, .int .i64 (t : Int))] w') (first | exact ⟨H0.cell (by simp), H0.cell (by simp), H0.text, H0⟩ | exact (fun H => ⟨Hold.cell H (by simp), Hold.cell H (by simp), Hold.text H, H⟩) (H0.step hb2)) (first | (go_at_call 14; refine (check_any _ _ _ _).mono ?_; rw [E.out]; rintro e w2 ⟨rfl, hb2⟩))
  clear t0 H0
  go_split_ands
  have H2 : Hold w p s [(w.heap.size, 0, .int .i64 (f : Int)), (w.heap.size, 1, .int .i64 (t : Int))] w2 := by assumption
  go_wp2_with fail
  refine (at_yes s p f _ hs H2.tab HFF.out).mono ?_
  rintro e w3 ⟨rfl, h23⟩
  have H3 := (H2.step h23).box (.int .i64 (lineN s f : Nat)) (.int .i64 (colN s f : Nat)) 35
  have c0 : w3.cell? ⟨w.heap.size, 0, none⟩ = some (.int .i64 (f : Int)) := (H2.step h23).cell (by simp)
  have c1 : w3.cell? ⟨w.heap.size, 1, none⟩ = some (.int .i64 (t : Int)) := (H2.step h23).cell (by simp)
  have z3 : w.heap.size < w3.heap.size := (H2.step h23).lt (o := 0) (v := .int .i64 (f : Int)) (by simp)
  clear H2
  generalize lineN s f = lf at *
  generalize colN s f = cf at *
  go_wp2_with fail
  refine (len_any _ _ _).mono ?_
  rw [EL.out]
  rintro e w4 ⟨rfl, h34⟩
  have H4 := H3.step h34
  have d0 : w4.cell? ⟨w3.heap.size, 0, none⟩ = some (.int .i64 (lf : Int)) := H4.cell (by simp)
  have d1 : w4.cell? ⟨w3.heap.size, 1, none⟩ = some (.int .i64 (cf : Int)) := H4.cell (by simp)
  have e1 : w4.cell? ⟨w.heap.size, 1, none⟩ = some (.int .i64 (t : Int)) := H4.cell (by simp)
  clear c0 c1 h34 H3
  go_wp2_with fail
  refine (pstring_any lf cf _ BF.out.1 BF.out.2 H4.nums).mono ?_
  rintro e w5 ⟨rfl, h45⟩
  go_wp2_with fail
  go_ret2
  exact ⟨by rw [HSH.out]; rfl, after H4.bel h45⟩

set_option maxHeartbeats 2000000 in
theorem show_lt (s : ByteArray) (p f t : Nat) (w : World) (hs : s.size ≤ 65536) (ht : TableAt w p s) (hn : Tab w) (hft : f < t) (hts : t ≤ s.size) :
    Calls Tryd.prog 12 #[.pointer (some ⟨p, 0, none⟩), .agg #[.int .i64 (f : Nat), .int .i64 (t : Nat)]] w fun e w' => e = .returned (.tuple #[.string (showS s f t), .int .i64 0]) ∧ Below w.heap.size w w' := by
  have hm : mayB (f : Nat) (t : Nat) = true := mayB_iff.2 ⟨by omega, by omega, by omega⟩
  have H0 := ((Hold.start ht hn).box (.int .i64 (f : Nat)) (.int .i64 (t : Nat)) 24).drew
  have t0 := H0.text
  have hp := ht.lt
  have E := Lib.hid (show errI (chkB (f : Nat) (t : Nat) s.size) 1 = 0 by rw [chkB_iff.2 ⟨mayB_iff.1 hm, by omega, by omega⟩]; rfl)
  have BF := Lib.hid (lineN_bd s f hs (by omega))
  have BT := Lib.hid (lineN_bd s t hs hts)
  have HSH := Lib.hid (show showS s f t = placeS (lineN s f) (colN s f) ++ ⟨#[45]⟩ ++ placeS (lineN s t) (colN s t) by unfold showS; rw [if_pos hft])
  have EQ : (((t : Int) - (f : Int)) == 0) = false := by simp; omega
  have hff : f ≤ s.size := by omega
  have HTS := Lib.hid hts
  have HFF := Lib.hid hff
  have EL := Lib.hid (lenI_yes hm)
  clear ht hn hft hts hff hm
  go_enter Tryd.func12, Tryd.ntmps12
  go_wp2_with fail
  go_region_held3 (fun w' => w'.cell? ⟨w.heap.size, 0, none⟩ = some (.int .i64 (f : Int)) ∧ w'.cell? ⟨w.heap.size, 1, none⟩ = some (.int .i64 (t : Int)) ∧ w'.cell? ⟨p, 0, none⟩ = some (.string s) ∧ Hold w p s [(w.heap.size, 0, .int .i64 (f : Int)), (w.heap.size, 1, .int .i64 (t : Int))] w') (first | exact ⟨H0.cell (by simp), H0.cell (by simp), H0.text, H0⟩ | exact (fun H => ⟨Hold.cell H (by simp), Hold.cell H (by simp), Hold.text H, H⟩) (H0.step hb2)) (first | (go_at_call 14; refine (check_any _ _ _ _).mono ?_; rw [E.out]; rintro e w2 ⟨rfl, hb2⟩))
  clear t0 H0
  go_split_ands
  have H2 : Hold w p s [(w.heap.size, 0, .int .i64 (f : Int)), (w.heap.size, 1, .int .i64 (t : Int))] w2 := by assumption
  go_wp2_with fail
  refine (at_yes s p f _ hs H2.tab HFF.out).mono ?_
  rintro e w3 ⟨rfl, h23⟩
  have H3 := (H2.step h23).box (.int .i64 (lineN s f : Nat)) (.int .i64 (colN s f : Nat)) 35
  have c0 : w3.cell? ⟨w.heap.size, 0, none⟩ = some (.int .i64 (f : Int)) := (H2.step h23).cell (by simp)
  have c1 : w3.cell? ⟨w.heap.size, 1, none⟩ = some (.int .i64 (t : Int)) := (H2.step h23).cell (by simp)
  have z3 : w.heap.size < w3.heap.size := (H2.step h23).lt (o := 0) (v := .int .i64 (f : Int)) (by simp)
  clear H2
  generalize lineN s f = lf at *
  generalize colN s f = cf at *
  go_wp2_with fail
  refine (len_any _ _ _).mono ?_
  rw [EL.out]
  rintro e w4 ⟨rfl, h34⟩
  have H4 := H3.step h34
  have d0 : w4.cell? ⟨w3.heap.size, 0, none⟩ = some (.int .i64 (lf : Int)) := H4.cell (by simp)
  have d1 : w4.cell? ⟨w3.heap.size, 1, none⟩ = some (.int .i64 (cf : Int)) := H4.cell (by simp)
  have e1 : w4.cell? ⟨w.heap.size, 1, none⟩ = some (.int .i64 (t : Int)) := H4.cell (by simp)
  clear c0 c1 h34 H3
  go_wp2_with fail
  refine (at_yes s p t _ hs H4.tab HTS.out).mono ?_
  rintro e w5 ⟨rfl, h45⟩
  have H5 := (H4.step h45).box (.int .i64 (lineN s t : Nat)) (.int .i64 (colN s t : Nat)) 35
  have f0 : w5.cell? ⟨w3.heap.size, 0, none⟩ = some (.int .i64 (lf : Int)) := (H4.step h45).cell (by simp)
  have f1 : w5.cell? ⟨w3.heap.size, 1, none⟩ = some (.int .i64 (cf : Int)) := (H4.step h45).cell (by simp)
  have z5 : w3.heap.size < w5.heap.size := (H4.step h45).lt (o := 0) (v := .int .i64 (lf : Int)) (by simp)
  clear H4 d0 d1 e1
  generalize lineN s t = lt at *
  generalize colN s t = ct at *
  have IL := Lib.hid (fun w h => pstring_any lf cf w BF.out.1 BF.out.2 h)
  have IC := Lib.hid (fun w h => pstring_any lt ct w BT.out.1 BT.out.2 h)
  have s1 := placeS_size lf cf BF.out.1 BF.out.2
  have s2 := placeS_size lt ct BT.out.1 BT.out.2
  generalize placeS lf cf = x at *
  generalize placeS lt ct = y at *
  have n1 : ¬ 9223372036854775807 < x.size + 1 := by omega
  have n2 : ¬ 9223372036854775807 < x.size + 1 + y.size := by omega
  clear s1 s2
  have H5d := H5.drew
  have ALL := Lib.hid (fun (w' : World) (H : Hold w p s [(w5.heap.size, 0, .int .i64 (lt : Int)), (w5.heap.size, 1, .int .i64 (ct : Int)), (w3.heap.size, 0, .int .i64 (lf : Int)), (w3.heap.size, 1, .int .i64 (cf : Int)), (w.heap.size, 0, .int .i64 (f : Int)), (w.heap.size, 1, .int .i64 (t : Int))] w') => (⟨H.cell (by simp), H.cell (by simp), H.cell (by simp), H.cell (by simp), H⟩ : w'.cell? ⟨w5.heap.size, 0, none⟩ = some (.int .i64 (lt : Int)) ∧ w'.cell? ⟨w5.heap.size, 1, none⟩ = some (.int .i64 (ct : Int)) ∧ w'.cell? ⟨w3.heap.size, 0, none⟩ = some (.int .i64 (lf : Int)) ∧ w'.cell? ⟨w3.heap.size, 1, none⟩ = some (.int .i64 (cf : Int)) ∧ Hold w p s [(w5.heap.size, 0, .int .i64 (lt : Int)), (w5.heap.size, 1, .int .i64 (ct : Int)), (w3.heap.size, 0, .int .i64 (lf : Int)), (w3.heap.size, 1, .int .i64 (cf : Int)), (w.heap.size, 0, .int .i64 (f : Int)), (w.heap.size, 1, .int .i64 (t : Int))] w'))
  clear H5
  go_wp2_with fail
  go_region_held3 (fun w' => w'.cell? ⟨w5.heap.size, 0, none⟩ = some (.int .i64 (lt : Int)) ∧ w'.cell? ⟨w5.heap.size, 1, none⟩ = some (.int .i64 (ct : Int)) ∧ w'.cell? ⟨w3.heap.size, 0, none⟩ = some (.int .i64 (lf : Int)) ∧ w'.cell? ⟨w3.heap.size, 1, none⟩ = some (.int .i64 (cf : Int)) ∧ Hold w p s [(w5.heap.size, 0, .int .i64 (lt : Int)), (w5.heap.size, 1, .int .i64 (ct : Int)), (w3.heap.size, 0, .int .i64 (lf : Int)), (w3.heap.size, 1, .int .i64 (cf : Int)), (w.heap.size, 0, .int .i64 (f : Int)), (w.heap.size, 1, .int .i64 (t : Int))] w') (first | exact ALL.out _ H5d | exact ALL.out _ (Hold.step (p := p) (s := s) (w0 := w) (L := [(w5.heap.size, 0, .int .i64 (lt : Int)), (w5.heap.size, 1, .int .i64 (ct : Int)), (w3.heap.size, 0, .int .i64 (lf : Int)), (w3.heap.size, 1, .int .i64 (cf : Int)), (w.heap.size, 0, .int .i64 (f : Int)), (w.heap.size, 1, .int .i64 (t : Int))]) (by assumption) hb2)) (first | (go_at_call_of 25 (Value.agg #[.int .i64 (lf : Int), .int .i64 (cf : Int)]); go_split_ands; refine (IL.out _ (Hold.nums (p := p) (s := s) (w0 := w) (L := [(w5.heap.size, 0, .int .i64 (lt : Int)), (w5.heap.size, 1, .int .i64 (ct : Int)), (w3.heap.size, 0, .int .i64 (lf : Int)), (w3.heap.size, 1, .int .i64 (cf : Int)), (w.heap.size, 0, .int .i64 (f : Int)), (w.heap.size, 1, .int .i64 (t : Int))]) (by assumption))).mono ?_; rintro e w2 ⟨rfl, hb2⟩) | (go_at_call_of 25 (Value.agg #[.int .i64 (lt : Int), .int .i64 (ct : Int)]); go_split_ands; refine (IC.out _ (Hold.nums (p := p) (s := s) (w0 := w) (L := [(w5.heap.size, 0, .int .i64 (lt : Int)), (w5.heap.size, 1, .int .i64 (ct : Int)), (w3.heap.size, 0, .int .i64 (lf : Int)), (w3.heap.size, 1, .int .i64 (cf : Int)), (w.heap.size, 0, .int .i64 (f : Int)), (w.heap.size, 1, .int .i64 (t : Int))]) (by assumption))).mono ?_; rintro e w2 ⟨rfl, hb2⟩))
  all_goals go_split_ands
  all_goals go_wp2_with fail
  all_goals go_ret2
  all_goals exact ⟨by rw [HSH.out]; rfl, Hold.bel (p := p) (s := s) (L := [(w5.heap.size, 0, .int .i64 (lt : Int)), (w5.heap.size, 1, .int .i64 (ct : Int)), (w3.heap.size, 0, .int .i64 (lf : Int)), (w3.heap.size, 1, .int .i64 (cf : Int)), (w.heap.size, 0, .int .i64 (f : Int)), (w.heap.size, 1, .int .i64 (t : Int))]) (by assumption)⟩

theorem show_any (s : ByteArray) (p f t : Nat) (w : World) (hs : s.size ≤ 65536) (ht : TableAt w p s) (hn : Tab w) (hft : f ≤ t) (hts : t ≤ s.size) :
    Calls Tryd.prog 12 #[.pointer (some ⟨p, 0, none⟩), .agg #[.int .i64 (f : Nat), .int .i64 (t : Nat)]] w fun e w' => e = .returned (.tuple #[.string (showS s f t), .int .i64 0]) ∧ Below w.heap.size w w' := by
  rcases Nat.lt_or_eq_of_le hft with h | h
  · exact show_lt s p f t w hs ht hn h hts
  · exact show_eq s p f t w hs ht hn h hts

end Go.Proofs.YtfiphchjjgmcpaaDoor
