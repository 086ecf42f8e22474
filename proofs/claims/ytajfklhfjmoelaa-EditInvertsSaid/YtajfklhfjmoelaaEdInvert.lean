/- EditInverts: the walk. -/
import Derived.Test.YtajfklhfjmoelaaEdApply
namespace Go.Proofs.Ytajfklhfjmoelaa
open Go Go.RowKit
set_option linter.unusedVariables false

set_option maxRecDepth 100000 in
set_option maxHeartbeats 1000000 in
theorem einverts_far (s : ByteArray) (src : Option Addr) (n cap : Nat) (l : List IEd) (w : World) (hl : l.length = n) (hr : EdsIn w src l) (hb : smallB s l = false) :
    Calls Try.prog 4 #[.string s, .slice src n cap] w fun e w' => e = .returned (.bool true) ∧ Below w.heap.size w w' := by
  have SM := Lib.hid (fun w hr => small_any s src n cap l w hl hr)
  rw [hb] at SM
  go_enter Try.func4, Try.ntmps4
  go_wp2_with fail
  refine (edits_any _).mono ?_
  rintro e w1 ⟨rfl, h01⟩
  go_wp2_with fail
  refine (SM.out _ (hr.step h01)).mono ?_
  rintro e w2 ⟨rfl, h12⟩
  go_wp2_with fail
  go_ret
  exact ⟨rfl, after h01 h12⟩

set_option maxRecDepth 100000 in
set_option maxHeartbeats 1000000 in
theorem einverts_no (s : ByteArray) (src : Option Addr) (n cap : Nat) (l : List IEd) (w : World) (hl : l.length = n) (hn : n ≤ maxLen) (hr : EdsIn w src l) (hb : smallB s l = true) (hf : fitsE s.size l ≠ 0) :
    Calls Try.prog 4 #[.string s, .slice src n cap] w fun e w' => e = .returned (.bool true) ∧ Below w.heap.size w w' := by
  have SM := Lib.hid (fun w hr => small_any s src n cap l w hl hr)
  rw [hb] at SM
  have RA := Lib.hid (fun w h => rapply_no s src n cap l w hl hn h hf)
  have IN := Lib.hid (fun w h => invert_no s src n cap l w hl hn hf h)
  generalize fitsE s.size l = c at *
  have hc : (c == 0) = false := by simp; exact hf
  have hc2 : (c != 0) = true := by simp; exact hf
  go_enter Try.func4, Try.ntmps4
  go_wp2_with fail
  refine (edits_any _).mono ?_
  rintro e w1 ⟨rfl, h01⟩
  have r1 := Lib.hid (hr.step h01)
  go_wp2_with fail
  refine (SM.out _ r1.out).mono ?_
  rintro e w2 ⟨rfl, h12⟩
  have r2 := Lib.hid (r1.out.step h12)
  have b2 := Lib.hid (after h01 h12)
  clear h01 h12 r1
  go_wp2_with fail
  refine (RA.out _ r2.out).mono ?_
  rintro e w3 ⟨rfl, h23⟩
  have r3 := Lib.hid (r2.out.step h23)
  have b3 := Lib.hid (after b2.out h23)
  clear h23 b2 r2
  go_wp2_with fail
  refine (IN.out _ r3.out).mono ?_
  rintro e w4 ⟨rfl, h34⟩
  go_wp2_with fail
  go_ret
  exact ⟨by simp, after b3.out h34⟩

/-- what the edits that take back are -/
theorem inv_facts {s : ByteArray} {L : List NEd} {n : Nat} (hl : L.length = n) (hn : n ≤ 60) (h : EdOk s.size 0 L) (hs : s.size ≤ 65536) (hg : (s.size : Int) + growN L ≤ 65536) (ht : ∀ e ∈ L, e.2.2.size ≤ 65536) :
    (invFrom s 0 L).length = n ∧ EdOk (pieces s 0 L).size 0 (invFrom s 0 L) ∧ pieces (pieces s 0 L) 0 (invFrom s 0 L) = s ∧ invFrom (pieces s 0 L) 0 (invFrom s 0 L) = L ∧ costN (invFrom s 0 L) = costN L ∧
    (pieces s 0 L).size ≤ 65536 ∧ ((pieces s 0 L).size : Int) + growN (invFrom s 0 L) ≤ 65536 ∧ (∀ e ∈ invFrom s 0 L, e.2.2.size ≤ 65536) ∧ fitsE (pieces s 0 L).size ((invFrom s 0 L).map toI) = 0 := by
  obtain ⟨a1, a2, a3, a4⟩ := inv_back s L h
  have z1 := size_pieces s L 0 h
  have z2 := size_pieces (pieces s 0 L) (invFrom s 0 L) 0 a1
  rw [a2] at z2
  have hlen : (invFrom s 0 L).length = n := by rw [invFrom_len, hl]
  have h8 : ∀ e ∈ invFrom s 0 L, e.2.2.size ≤ 65536 := by
    intro e he
    obtain ⟨i, hi, rfl⟩ := List.mem_iff_getElem.1 he
    rw [invFrom_len] at hi
    have := invFrom_get s L 0 i hi
    obtain ⟨_, hx⟩ := List.getElem?_eq_some_iff.1 this
    rw [hx]
    simp only [ByteArray.size_extract]
    omega
  have h6 : (pieces s 0 L).size ≤ 65536 := by omega
  have h7 : ((pieces s 0 L).size : Int) + growN (invFrom s 0 L) ≤ 65536 := by omega
  exact ⟨hlen, a1, a2, a3, a4, h6, h7, h8, (valid_fits a1 (by omega) h6 h7 h8).1⟩

set_option maxRecDepth 100000 in
set_option maxHeartbeats 2000000 in
theorem einverts_ok (s : ByteArray) (src : Option Addr) (n cap : Nat) (L : List NEd) (w : World) (hl : L.length = n) (hn : n ≤ 60) (hr : EdsIn w src (L.map toI)) (hb : smallB s (L.map toI) = true)
    (hok : EdOk s.size 0 L) (hs : s.size ≤ 65536) (hg : (s.size : Int) + growN L ≤ 65536) (ht : ∀ e ∈ L, e.2.2.size ≤ 65536) (hf : fitsE s.size (L.map toI) = 0) :
    Calls Try.prog 4 #[.string s, .slice src n cap] w fun e w' => e = .returned (.bool true) ∧ Below w.heap.size w w' := by
  have SM := Lib.hid (fun w hr => small_any s src n cap (L.map toI) w (by simpa using hl) hr)
  rw [hb] at SM
  obtain ⟨i1, i2, i3, i4, i5, i6, i7, i8, i9⟩ := inv_facts hl hn hok hs hg ht
  have RA := Lib.hid (fun w h => rapply_ok s src n cap L w hl (by omega) hs hok hg hf ht h)
  have IN := Lib.hid (fun w h => invert_ok s src n cap L w hl (by omega) hs hok hg hf ht h)
  have AP := Lib.hid (fun w g h => apply_ok (pieces s 0 L) (some ⟨g, 0, none⟩) n n (invFrom s 0 L) w i1 (by omega) i6 i2 i7 i9 i8 h)
  have I2 := Lib.hid (fun w g h => invert_ok (pieces s 0 L) (some ⟨g, 0, none⟩) n n (invFrom s 0 L) w i1 (by omega) i6 i2 i7 i9 i8 h)
  rw [i3] at AP
  rw [i4] at I2
  have CO := Lib.hid (fun w (src : Option Addr) cap (h : EdsIn w src (L.map toI)) => cost_any src n cap (L.map toI) w (by simpa using hl) (by omega) (by intro e he; obtain ⟨x, hx, rfl⟩ := List.mem_map.1 he; exact ht x hx) h)
  have CI := Lib.hid (fun w g (h : EdsIn w (some ⟨g, 0, none⟩) ((invFrom s 0 L).map toI)) => cost_any (some ⟨g, 0, none⟩) n n ((invFrom s 0 L).map toI) w (by simpa using i1) (by omega) (by intro e he; obtain ⟨x, hx, rfl⟩ := List.mem_map.1 he; exact i8 x hx) h)
  have e1 := (valid_fits hok (by omega) hs hg ht).2.1
  have e2 := (valid_fits i2 (by omega) i6 i7 i8).2.1
  rw [i5, ← e1] at e2
  rw [e2] at CI
  generalize costE (L.map toI) = cst at *
  generalize hP : pieces s 0 L = P at *
  have HLM := Lib.hid (show (L.map toI).length = n by simpa using hl)
  generalize L.map toI = LM at *
  generalize (invFrom s 0 L).map toI = IV at *
  clear i1 i2 i3 i4 i5 i6 i7 i8 i9 e1 e2 hP hf ht hg hs hok hb
  go_enter Try.func4, Try.ntmps4
  go_wp2_with fail
  refine (edits_any _).mono ?_
  rintro e w1 ⟨rfl, h01⟩
  have r1 := Lib.hid (hr.step h01)
  go_wp2_with fail
  refine (SM.out _ r1.out).mono ?_
  rintro e w2 ⟨rfl, h12⟩
  have r2 := Lib.hid (r1.out.step h12)
  have b2 := Lib.hid (after h01 h12)
  clear h01 h12 r1
  go_wp2_with fail
  refine (RA.out _ r2.out).mono ?_
  rintro e w3 ⟨rfl, h23⟩
  have r3 := Lib.hid (r2.out.step h23)
  have b3 := Lib.hid (after b2.out h23)
  clear h23 b2 r2
  go_wp2_with fail
  refine (IN.out _ r3.out).mono ?_
  rintro e w4 ⟨g, rfl, h34, hgw, hrow⟩
  have r4 := Lib.hid (r3.out.step h34)
  have b4 := Lib.hid (after b3.out h34)
  have v4 := Lib.hid (show EdsIn w4 (some ⟨g, 0, none⟩) IV from fun _ => ⟨g, 0, rfl, hgw, hrow⟩)
  clear h34 b3 r3 hgw hrow
  go_wp2_with fail
  refine (AP.out _ g v4.out).mono ?_
  rintro e w5 ⟨rfl, h45⟩
  have r5 := Lib.hid (r4.out.step h45)
  have b5 := Lib.hid (after b4.out h45)
  have v5 := Lib.hid (v4.out.step h45)
  clear h45 b4 r4 v4
  go_wp2_with fail
  refine (I2.out _ g v5.out).mono ?_
  rintro e w6 ⟨g2, rfl, h56, hgw2, hrow2⟩
  have r6 := Lib.hid (r5.out.step h56)
  have b6 := Lib.hid (after b5.out h56)
  have v6 := Lib.hid (v5.out.step h56)
  have HM := Lib.hid hrow2
  clear h56 b5 r5 v5 hrow2
  go_wp2_with fail
  go_loopw [74] (fun i wr => ∃ k : Nat, k ≤ n ∧ i = .int .i64 k ∧ Below w6.heap.size w6 wr) (fun i _ => n - (intOf i).toNat)
  case atStart => exact ⟨0, Nat.zero_le _, rfl, Below.refl _ _⟩
  case round =>
    obtain ⟨k, hk, rfl, hbel⟩ := hrel
    have HBEL := Lib.hid hbel
    by_cases hlt : k < n
    · have hkl : k < LM.length := by rw [HLM.out]; exact hlt
      obtain ⟨c0, c1, c2⟩ := (HM.out.below hbel hgw2) k hkl
      obtain ⟨b, off, rfl, hb, hrow⟩ := (r6.out.step hbel) (by omega)
      obtain ⟨d0, d1, d2⟩ := hrow k hkl
      have hgw3 : g2 < wr.heap.size := Nat.lt_of_lt_of_le hgw2 hbel.size
      rw [Nat.zero_add] at c0 c1 c2
      clear hbel hrow
      revert c0 c1 c2 d0 d1 d2
      generalize LM[k] = x
      obtain ⟨x1, x2, x3⟩ := x
      intro c0 c1 c2 d0 d1 d2
      dsimp only at c0 c1 c2 d0 d1 d2
      have i1 : (k : Int) < (n : Int) := by omega
      have i0 : (0 : Int) ≤ (k : Int) := by omega
      clear hkl
      go_wp2_with fail
      go_quiet (fail)
      go_wp2_with fail
      exact ⟨⟨k + 1, by omega, by go_num, below_drewN HBEL.out _⟩, by simp [intOf]; omega⟩
    · have hk' : k = n := by omega
      subst hk'
      go_wp2_with fail
      refine (CI.out _ g (v6.out.step hbel)).mono ?_
      rintro e w7 ⟨rfl, h67⟩
      go_wp2_with fail
      refine (CO.out _ src cap ((r6.out.step hbel).step h67)).mono ?_
      rintro e w8 ⟨rfl, h78⟩
      go_wp2_with fail
      go_ret
      exact ⟨by simp, after (after (after b6.out hbel) h67) h78⟩

theorem einverts_any {w : World} (s : ByteArray) (hs : s.size ≤ maxLen) (v : Value) (l : List IEd) (h : Eds w v l) :
    Calls Try.prog 4 #[.string s, v] w fun e w' => e = .returned (.bool true) ∧ Below w.heap.size w w' := by
  obtain ⟨src, n, cap, rfl, hl, hn, hr⟩ := h
  cases hb : smallB s l
  · exact einverts_far s src n cap l w hl hr hb
  · obtain ⟨b1, b2, b3⟩ := smallB_true hb
    by_cases hf : fitsE s.size l = 0
    · obtain ⟨L, rfl, v1, v2, v3, v4, v5, v6, v7⟩ := fits_valid hf
      exact einverts_ok s src n cap L w (by simpa using hl) (by omega) hr hb v1 v3 v6 v7 hf
    · exact einverts_no s src n cap l w hl hn hr hb hf

end Go.Proofs.Ytajfklhfjmoelaa
