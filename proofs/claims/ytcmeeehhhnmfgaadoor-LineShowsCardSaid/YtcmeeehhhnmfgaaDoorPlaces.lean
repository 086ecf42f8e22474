/- LinePlaces: the walk. -/
import Derived.Test.YtcmeeehhhnmfgaaDoorOrder
import Derived.Test.YtcmeeehhhnmfgaaDoorRefAt
import Derived.Test.YtcmeeehhhnmfgaaDoorRefNum
namespace Go.Proofs.YtcmeeehhhnmfgaaDoor
open Go.RowKit
set_option linter.unusedVariables false

theorem places_long (s : ByteArray) (a : Int) (w : World) (hn : Tab w) (hs : 65536 < s.size) (hm : s.size ≤ maxLen) :
    Calls Tryd.prog 3 #[.string s, .int .i64 a] w fun e w' => e = .returned (.bool true) ∧ Below w.heap.size w w' := by
  have HS := Lib.hid hs
  have HM := Lib.hid hm
  have hm1 : s.size < 9223372036854775808 := by unfold maxLen at hm; omega
  clear hm
  go_enter Tryd.func3, Tryd.ntmps3
  go_wp2_with fail
  refine (tells_any _ hn).mono ?_
  rintro e w1 ⟨rfl, h01⟩
  go_wp2_with fail
  refine (lof_long s _ HS.out HM.out).mono ?_
  rintro e w2 ⟨rfl, h12⟩
  go_wp2_with fail
  go_ret
  exact ⟨rfl, after h01 h12⟩

theorem places_out (s : ByteArray) (a : Int) (w : World) (hn : Tab w) (hs : s.size ≤ 65536) (h : a < 0 ∨ (s.size : Int) < a) :
    Calls Tryd.prog 3 #[.string s, .int .i64 a] w fun e w' => e = .returned (.bool true) ∧ Below w.heap.size w w' := by
  have HS := Lib.hid hs
  have HN := Lib.hid hn
  have HH := Lib.hid h
  clear hn h
  go_enter Tryd.func3, Tryd.ntmps3
  go_wp2_with fail
  refine (tells_any _ HN.out).mono ?_
  rintro e w1 ⟨rfl, h01⟩
  have HN1 := Lib.hid (HN.out.step h01)
  clear HN
  go_wp2_with fail
  refine (lof_any s _ HS.out).mono ?_
  rintro e w2 ⟨p, rfl, hp, ht, h12⟩
  have H2 : Hold w p s [] w2 := ⟨after h01 h12, ht, HN1.out.step h12, fun x hx => absurd hx (by simp)⟩
  have hpl := ht.lt
  clear ht h01 h12 HN1
  go_wp2_with fail
  refine (at_no s p a _ H2.tab HH.out).mono ?_
  rintro e w3 ⟨rfl, h23⟩
  have H3 := (H2.step h23).bel
  rcases HH.out with k | k
  · go_wp2_with fail
    go_ret
    exact ⟨rfl, after H3 ((Below.refl _ _).alloc (Nat.le_refl _) _)⟩
  · have k0 : ¬ a < 0 := by omega
    go_wp2_with fail
    go_ret
    exact ⟨rfl, after H3 ((Below.refl _ _).alloc (Nat.le_refl _) _)⟩

theorem col_le (s : ByteArray) (k : Nat) (h : k ≤ s.size) : 1 ≤ colN s k ∧ colN s k ≤ colsN s (lineN s k) := by
  obtain ⟨r, hr, hx⟩ := begs_split s k h
  have h1 := lineN_le s k h
  have h2 := begs_at s k h (by omega)
  have h3 := begN_le s k
  refine ⟨by unfold colN; omega, ?_⟩
  unfold colsN
  by_cases hl : lineN s k < (begs s).length
  · rw [dif_pos hl, h2]
    have hmem : (begs s)[lineN s k] ∈ r := by
      have e : (begs s)[lineN s k] = (begsTo s k ++ r)[lineN s k]'(by rw [← hr]; exact hl) := by congr 1
      rw [e, List.getElem_append_right (by unfold lineN; omega)]
      exact List.getElem_mem _
    have := hx _ hmem
    unfold colN; omega
  · rw [dif_neg hl, dif_pos (by omega), h2]
    unfold colN; omega

/-- a byte's place is that byte's -/
theorem byte_at (s : ByteArray) (p k : Nat) (w : World) (hs : s.size ≤ 65536) (ht : TableAt w p s) (hk : k ≤ s.size) :
    Calls Tryd.prog 13 #[.pointer (some ⟨p, 0, none⟩), .agg #[.int .i64 (lineN s k : Nat), .int .i64 (colN s k : Nat)]] w fun e w' => e = .returned (.tuple #[.int .i64 (k : Nat), .int .i64 0]) ∧ Below w.heap.size w w' := by
  have h1 := lineN_le s k hk
  have h2 := col_le s k hk
  have c := byte_yes s p (lineN s k) (colN s k) w hs ht h1.1 h1.2 h2.1 h2.2
  rw [begs_at s k hk (by omega)] at c
  have e : begN s k + colN s k - 1 = k := by have := begN_le s k; unfold colN; omega
  rw [e] at c
  exact c

set_option maxRecDepth 100000 in
set_option maxHeartbeats 2000000 in
theorem places_in (s : ByteArray) (k : Nat) (w : World) (hn : Tab w) (hs : s.size ≤ 65536) (hk : k ≤ s.size) :
    Calls Tryd.prog 3 #[.string s, .int .i64 (k : Nat)] w fun e w' => e = .returned (.bool true) ∧ Below w.heap.size w w' := by
  have HS := Lib.hid hs
  have HN := Lib.hid hn
  have HK := Lib.hid hk
  clear hn
  go_enter Tryd.func3, Tryd.ntmps3
  go_wp2_with fail
  refine (tells_any _ HN.out).mono ?_
  rintro e w1 ⟨rfl, h01⟩
  have HN1 := Lib.hid (HN.out.step h01)
  clear HN
  go_wp2_with fail
  refine (lof_any s _ HS.out).mono ?_
  rintro e w2 ⟨p, rfl, hp, ht, h12⟩
  have H2 : Hold w p s [] w2 := ⟨after h01 h12, ht, HN1.out.step h12, fun x hx => absurd hx (by simp)⟩
  have hpl := ht.lt
  clear ht h01 h12 HN1
  go_wp2_with fail
  refine (at_yes s p k _ HS.out H2.tab HK.out).mono ?_
  rintro e w3 ⟨rfl, h23⟩
  have H3 := (H2.step h23).box (.int .i64 (lineN s k : Nat)) (.int .i64 (colN s k : Nat)) 28
  clear H2 h23
  go_wp2_with fail
  refine (refat_any s k _ HS.out HK.out).mono ?_
  rintro e w4 ⟨rfl, rfl⟩
  have hbd := lineN_bd s k HS.out HK.out
  have BY := Lib.hid (fun w ht => byte_at s p k w HS.out ht HK.out)
  have PS := Lib.hid (fun w ht => pstring_any (lineN s k) (colN s k) w hbd.1 hbd.2 ht)
  have NL := Lib.hid (fun w => number_any (lineN s k) w hbd.1)
  have NC := Lib.hid (fun w => number_any (colN s k) w hbd.2)
  have n0 := digS_size (lineN s k) hbd.1
  have n1 := digS_size (colN s k) hbd.2
  have EP : Hid (placeS (lineN s k) (colN s k) = digS (lineN s k) ++ ⟨#[58]⟩ ++ digS (colN s k)) := rfl
  clear hbd
  generalize digS (lineN s k) = x at *
  generalize digS (colN s k) = y at *
  generalize placeS (lineN s k) (colN s k) = z at *
  generalize lineN s k = l at *
  generalize colN s k = c at *
  have n2 : ¬ 9223372036854775807 < x.size + 1 := by omega
  have n3 : ¬ 9223372036854775807 < x.size + 1 + y.size := by omega
  clear n0 n1
  have c0 : (w3.alloc (.cells #[.int .i64 (l : Int), .int .i64 (c : Int)] 28)).cell? ⟨w3.heap.size, 0, none⟩ = some (.int .i64 (l : Int)) := H3.cell (by simp)
  have c1 : (w3.alloc (.cells #[.int .i64 (l : Int), .int .i64 (c : Int)] 28)).cell? ⟨w3.heap.size, 1, none⟩ = some (.int .i64 (c : Int)) := H3.cell (by simp)
  go_wp2_with fail
  refine (BY.out _ H3.tab).mono ?_
  rintro e w4 ⟨rfl, h34⟩
  have H4 := H3.step h34
  have d0 : w4.cell? ⟨w3.heap.size, 0, none⟩ = some (.int .i64 (l : Int)) := H4.cell (by simp)
  have d1 : w4.cell? ⟨w3.heap.size, 1, none⟩ = some (.int .i64 (c : Int)) := H4.cell (by simp)
  clear H3 h34 c0 c1
  go_wp2_with fail
  refine (PS.out _ H4.nums).mono ?_
  rintro e w5 ⟨rfl, h45⟩
  have H5 := (H4.step h45).bel
  clear H4 h45 d0 d1
  go_wp2_with fail
  refine (NL.out _).mono ?_
  rintro e w6 ⟨rfl, h56⟩
  go_wp2_with fail
  refine (NC.out _).mono ?_
  rintro e w7 ⟨rfl, h67⟩
  have ez := EP.out
  subst ez
  go_wp2_with fail
  go_ret
  exact ⟨rfl, after (after H5 h56) h67⟩

theorem places_any (s : ByteArray) (hm : s.size ≤ maxLen) (a : Int) (ha : (Lit.int .i64 a).wf = true) (w : World) (hn : Tab w) :
    Calls Tryd.prog 3 #[.string s, .int .i64 a] w fun e w' => e = .returned (.bool true) ∧ Below w.heap.size w w' := by
  by_cases h0 : 65536 < s.size
  · exact places_long s a w hn h0 hm
  by_cases h : a < 0 ∨ (s.size : Int) < a
  · exact places_out s a w hn (by omega) h
  · obtain ⟨k, rfl⟩ : ∃ k : Nat, a = k := ⟨a.toNat, by omega⟩
    exact places_in s k w hn (by omega) (by omega)

end Go.Proofs.YtcmeeehhhnmfgaaDoor
