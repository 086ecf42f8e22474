/- LineTexts: the walk. -/
import Derived.Test.YtcmeeehhhnmfgaaDoorTextFacts
import Derived.Test.YtcmeeehhhnmfgaaDoorTells
namespace Go.Proofs.YtcmeeehhhnmfgaaDoor
open Go.RowKit
set_option linter.unusedVariables false

/-- texts stand in a row of memory -/
def StrAt (w : World) (g : Nat) (L : List ByteArray) : Prop := g < w.heap.size ∧ ∀ j (h : j < L.length), w.cell? ⟨g, j, none⟩ = some (.string L[j])
theorem StrAt.step {w w' : World} {g : Nat} {L : List ByteArray} (h : StrAt w g L) (hb : Below w.heap.size w w') : StrAt w' g L :=
  ⟨by have := hb.size; have := h.1; omega, fun j hj => keep hb h.1 (h.2 j hj)⟩
theorem strAt_of {w : World} {B n : Nat} {v : Value} {L : List ByteArray} (ho : w.ownsRow B 9 1 v n (strs L)) (hn : n = L.length) (h0 : 0 < n) : ∃ g cap, v = .slice (some ⟨g, 0, none⟩) n cap ∧ n ≤ cap ∧ cap ≤ maxLen ∧ StrAt w g L := by
  have ho' := ho
  obtain ⟨hx, h2⟩ := ho
  rcases h2 with ⟨rfl, h0'⟩ | ⟨g, cap, cur, rfl, hg, hgh, hn', hcap, hcs, htk⟩
  · omega
  · refine ⟨g, cap, rfl, hn', hcap, lt_of_block hgh, fun j hj => ?_⟩
    have := ho'.cells (g := g) rfl j (.string L[j]) (by simp [strs, hj])
    have e : (⟨g, 0, none⟩ : Addr).add j = ⟨g, j, none⟩ := by unfold Addr.add; by_cases h : j = 0 <;> simp [h]
    rwa [e] at this

/-- the document's lines, as a row -/
theorem reflines_row (s : ByteArray) (w : World) (hs : s.size ≤ 65536) :
    Calls Tryd.prog 16 #[.string s] w fun e w' => ∃ g cap, e = .returned (.slice (some ⟨g, 0, none⟩) (begs s).length cap) ∧ (begs s).length ≤ cap ∧ cap ≤ maxLen ∧ StrAt w' g (linesS s) ∧ Below w.heap.size w w' := by
  refine (reflines_any s w hs).mono ?_
  rintro e w' ⟨v, rfl, ho, hb⟩
  rw [linesS_len] at ho
  obtain ⟨g, cap, rfl, h1, h2, h3⟩ := strAt_of ho (linesS_len s).symm (begs_len s).1
  exact ⟨g, cap, rfl, h1, h2, h3, hb⟩

set_option maxRecDepth 100000 in
set_option maxHeartbeats 2000000 in
theorem ltexts_no (s : ByteArray) (k : Int) (w : World) (hn : Tab w) (hs : s.size ≤ 65536) (hk : k < 1 ∨ ((begs s).length : Int) < k) :
    Calls Tryd.prog 5 #[.string s, .int .i64 k] w fun e w' => e = .returned (.bool true) ∧ Below w.heap.size w w' := by
  have HS := Lib.hid hs
  have HN := Lib.hid hn
  have HK := Lib.hid hk
  have HB := Lib.hid (show hasB s k = false by
    cases h : hasB s k
    · rfl
    · have := hasB_iff.1 h; omega)
  have hbl := begs_len s
  clear hn hk
  go_enter Tryd.func5, Tryd.ntmps5
  go_wp2_with fail
  refine (tells_any _ HN.out).mono ?_
  rintro e w1 ⟨rfl, h01⟩
  have HN1 := Lib.hid (HN.out.step h01)
  clear HN
  go_wp2_with fail
  refine (lof_any s _ HS.out).mono ?_
  rintro e w2 ⟨p, rfl, hp, ht, h12⟩
  have H2 : Hold w p s [] w2 := ⟨after h01 h12, ht, HN1.out.step h12, fun x hx => absurd hx (by simp)⟩
  clear ht h01 h12 HN1
  go_wp2_with fail
  refine (reflines_row s _ HS.out).mono ?_
  rintro e w3 ⟨g, cap, rfl, q1, q2, q3, h23⟩
  have H3 := H2.step h23
  clear H2 h23 q3
  go_wp2_with fail
  refine (line_no s p k _ H3.tab HB.out).mono ?_
  rintro e w4 ⟨rfl, h34⟩
  have H4 := (H3.step h34).box (.int .i64 0) (.int .i64 0) 42
  clear H3 h34
  go_wp2_with fail
  refine (ttext_no s p k _ H4.tab HB.out).mono ?_
  rintro e w5 ⟨rfl, h45⟩
  have H5 := H4.step h45
  have d0 : w5.cell? ⟨w4.heap.size, 0, none⟩ = some (.int .i64 0) := H5.cell (by simp)
  have d1 : w5.cell? ⟨w4.heap.size, 1, none⟩ = some (.int .i64 0) := H5.cell (by simp)
  clear H4 h45
  go_wp2_with fail
  refine (lines_any s p _ H5.tab).mono ?_
  rintro e w6 ⟨rfl, rfl⟩
  have hbel := H5.bel
  clear H5
  generalize (begs s).length = m at *
  rcases HK.out with h | h
  · go_wp2_with fail
    go_ret
    exact ⟨rfl, hbel⟩
  · have h' : ¬ k < 1 := by omega
    go_wp2_with fail
    go_ret
    exact ⟨rfl, hbel⟩

set_option maxRecDepth 100000 in
set_option maxHeartbeats 2000000 in
theorem ltexts_yes (s : ByteArray) (k : Nat) (w : World) (hn : Tab w) (hs : s.size ≤ 65536) (h1 : 1 ≤ k) (h2 : k ≤ (begs s).length) :
    Calls Tryd.prog 5 #[.string s, .int .i64 (k : Nat)] w fun e w' => e = .returned (.bool true) ∧ Below w.heap.size w w' := by
  have HS := Lib.hid hs
  have HN := Lib.hid hn
  have H1 := Lib.hid h1
  have H2k := Lib.hid h2
  have hbl := begs_len s
  have hll := linesS_len s
  have HLL := Lib.hid hll
  have BARE := Lib.hid (bare_line s k h1 h2)
  have HLE := Lib.hid (endN_le s k h1 h2)
  have HB0 := Lib.hid (show bgN s 0 = 0 by have := begs_zero s; rw [bgN_get s 0 (by omega)] at this; exact this)
  have SZ := Lib.hid (line_size s)
  have BL := Lib.hid (bgN_le s)
  clear hn hll
  go_enter Tryd.func5, Tryd.ntmps5
  go_wp2_with fail
  refine (tells_any _ HN.out).mono ?_
  rintro e w1 ⟨rfl, h01⟩
  have HN1 := Lib.hid (HN.out.step h01)
  clear HN
  go_wp2_with fail
  refine (lof_any s _ HS.out).mono ?_
  rintro e w2 ⟨p, rfl, hp, ht, h12⟩
  have H2 : Hold w p s [] w2 := ⟨after h01 h12, ht, HN1.out.step h12, fun x hx => absurd hx (by simp)⟩
  clear ht h01 h12 HN1
  go_wp2_with fail
  refine (reflines_row s _ HS.out).mono ?_
  rintro e w3 ⟨g, cap, rfl, q1, q2, q3, h23⟩
  have H3 := H2.step h23
  have Q3 := Lib.hid q3
  clear H2 h23 q3
  go_wp2_with fail
  refine (line_yes s p k _ HS.out H3.tab H1.out H2k.out).mono ?_
  rintro e w4 ⟨rfl, h34⟩
  have H4 := (H3.step h34).box (.int .i64 (bgN s (k - 1) : Nat)) (.int .i64 (endN s k : Nat)) 42
  have Q4 := Lib.hid ((Q3.out.step h34).step ((Below.refl _ _).alloc (Nat.le_refl _) (.cells #[.int .i64 (bgN s (k - 1) : Nat), .int .i64 (endN s k : Nat)] 42)))
  clear H3 h34 Q3
  go_wp2_with fail
  refine (ttext_yes s p k _ HS.out H4.tab H1.out H2k.out).mono ?_
  rintro e w5 ⟨rfl, h45⟩
  have H5 := H4.step h45
  have Q5 := Lib.hid (Q4.out.step h45)
  have d0 : w5.cell? ⟨w4.heap.size, 0, none⟩ = some (.int .i64 (bgN s (k - 1) : Nat)) := H5.cell (by simp)
  have d1 : w5.cell? ⟨w4.heap.size, 1, none⟩ = some (.int .i64 (endN s k : Nat)) := H5.cell (by simp)
  clear H4 h45 Q4
  go_wp2_with fail
  refine (lines_any s p _ H5.tab).mono ?_
  rintro e w6 ⟨rfl, rfl⟩
  have hbel := Lib.hid H5.bel
  have z4 : w4.heap.size < w5.heap.size := H5.lt (o := 0) (v := .int .i64 (bgN s (k - 1) : Nat)) (by simp)
  clear H5
  generalize hm : (begs s).length = m at *
  have HM := Lib.hid hm
  clear hm
  have ek : (k : Int) - 1 = ((k - 1 : Nat) : Int) := by omega
  have BD := Lib.hid (fun (j : Nat) (h : j < (linesS s).length) => (show (linesS s)[j].size ≤ 65536 by
    rw [linesS_get s j h, ByteArray.size_extract]; omega))
  have hsz : ((bgN s (k - 1) : Nat) : Int) + ((lineS s k).size : Int) = ((endN s k : Nat) : Int) := by
    have h3 := HLE.out
    unfold lineS; rw [ByteArray.size_extract]; omega
  have HSZ := Lib.hid hsz
  have EB : Hid (lineS s k = lineS s k) := Lib.hid rfl
  clear hsz
  go_wp2_with fail
  go_loopw [12, 75] (fun f i wr => ∃ j : Nat, j ≤ k - 1 ∧ i = .int .i64 j ∧ f = .int .i64 (bgN s j : Nat) ∧ w5 = wr) (fun _ i _ => k - 1 - (intOf i).toNat)
  case atStart => exact ⟨0, Nat.zero_le _, rfl, by rw [HB0.out]; rfl, rfl⟩
  case round =>
    obtain ⟨j, hj, rfl, rfl, rfl⟩ := hrel
    by_cases hlt : j < k - 1
    · have hjl : j < (linesS s).length := by have := HLL.out; omega
      have c0 := Q5.out.2 j hjl
      have hx := BD.out j hjl
      have Z := Lib.hid (SZ.out j (by omega) hjl)
      have hb := BL.out j
      revert c0 hx Z
      generalize (linesS s)[j] = x
      intro c0 hx Z
      clear hjl
      go_wp2_with fail
      go_roundw
      case rel => exact ⟨j + 1, by omega, by go_num, by rw [← Z.out]; go_num, trivial⟩
      case measure => simp [intOf]; omega
    · have hj' : j = k - 1 := by omega
      subst hj'
      have hjl : k - 1 < (linesS s).length := by have := HLL.out; omega
      have c0 := Q5.out.2 (k - 1) hjl
      have hx := BD.out (k - 1) hjl
      have Z := Lib.hid (BARE.out hjl)
      have hb := BL.out (k - 1)
      have he := HLE.out
      revert c0 hx Z
      generalize (linesS s)[k - 1] = x
      intro c0 hx Z
      clear hjl
      go_wp2_with fail
      refine (refbare_any x _ hx).mono ?_
      rw [Z.out]
      rintro e w6 ⟨rfl, h56⟩
      have e0 : w6.cell? ⟨w4.heap.size, 0, none⟩ = some (.int .i64 (bgN s (k - 1) : Nat)) := keep h56 z4 d0
      have e1 : w6.cell? ⟨w4.heap.size, 1, none⟩ = some (.int .i64 (endN s k : Nat)) := keep h56 z4 d1
      have hsz := HSZ.out
      clear c0 d0 d1
      generalize lineS s k = y at *
      generalize endN s k = E at *
      generalize bgN s (k - 1) = B at *
      have hB := Lib.hid (after hbel.out h56)
      go_wp2_with fail
      go_ret
      exact ⟨rfl, hB.out⟩

theorem ltexts_far (s : ByteArray) (k : Int) (w : World) (hn : Tab w) (hs : 65536 < s.size) (hm : s.size ≤ maxLen) :
    Calls Tryd.prog 5 #[.string s, .int .i64 k] w fun e w' => e = .returned (.bool true) ∧ Below w.heap.size w w' := by
  have hm1 : s.size < 9223372036854775808 := by unfold maxLen at hm; omega
  clear hm
  go_enter Tryd.func5, Tryd.ntmps5
  go_wp2_with fail
  refine (tells_any _ hn).mono ?_
  rintro e w1 ⟨rfl, h01⟩
  go_wp2_with fail
  go_ret
  exact ⟨rfl, h01⟩

theorem ltexts_any (s : ByteArray) (hm : s.size ≤ maxLen) (k : Int) (hk : (Lit.int .i64 k).wf = true) (w : World) (hn : Tab w) :
    Calls Tryd.prog 5 #[.string s, .int .i64 k] w fun e w' => e = .returned (.bool true) ∧ Below w.heap.size w w' := by
  by_cases h0 : 65536 < s.size
  · exact ltexts_far s k w hn h0 hm
  by_cases h : k < 1 ∨ ((begs s).length : Int) < k
  · exact ltexts_no s k w hn (by omega) h
  · obtain ⟨n, rfl⟩ : ∃ n : Nat, k = n := ⟨k.toNat, by omega⟩
    exact ltexts_yes s n w hn (by omega) (by omega) (by omega)

end Go.Proofs.YtcmeeehhhnmfgaaDoor
