/- WholeDiffs: the walk. -/
import Derived.Test.YtdhbcmbajbgblaaWdB
namespace Go.Proofs.Ytdhbcmbajbgblaa
open Go Go.RowKit
set_option linter.unusedVariables false

def ab : ByteArray := ⟨#[97, 98]⟩
def bB : ByteArray := ⟨#[98]⟩
theorem ab_far : farN ab bB = 1 := by
  have h1 : EndAt ab bB 1 1 := by decide +kernel
  have h2 := farN_least h1.way
  have h3 : farN ab bB ≠ 0 := fun h => by have := (farN_zero ab bB).1 h; revert this; decide +kernel
  omega
theorem DInv.shape2 {w w' : World} {l : List IEd} {v : Value} {n : Nat} (h : DInv w w' l v) (hn : l.length = n) : ∃ src cap, v = .slice src n cap ∧ EdsIn w' src l := by
  subst hn
  obtain ⟨_, ho, h0⟩ := h
  rcases ho.2 with ⟨hv, hn⟩ | ⟨g, cap, cur, hv, _, _, hc, hm, _⟩
  · exact ⟨none, 0, by rw [hn]; exact hv, fun h => by omega⟩
  · refine ⟨some ⟨g, 0, none⟩, cap, hv, fun _ => ⟨g, 0, rfl, ?_, fun i hi => ?_⟩⟩
    · subst hv; exact (ho.lt g rfl).2
    · subst hv
      have hc := ho.cells (g := g) rfl
      have e : ∀ j, (⟨g, 0, none⟩ : Addr).add j = ⟨g, j, none⟩ := fun j => by unfold Addr.add; by_cases h : j = 0 <;> simp [h]
      obtain ⟨k1, k2, k3⟩ := flatE_get l i hi
      have c1 := hc _ _ k1
      have c2 := hc _ _ k2
      have c3 := hc _ _ k3
      rw [e] at c1 c2 c3
      rw [Nat.zero_add]
      exact ⟨c1, c2, c3⟩
theorem text_cost2 : ∀ (L : List NEd), ∀ e ∈ L, e.2.2.size ≤ costN L
  | [], e, h => by cases h
  | x :: L, e, h => by
    rcases List.mem_cons.1 h with rfl | h
    · simp only [costN]; omega
    · have := text_cost2 L e h; simp only [costN]; omega
/-- what was found may be made -/
theorem found_fits {a b : ByteArray} {L : List NEd} (h : FoundE a b L) (ha : a.size ≤ 120) (hb : b.size ≤ 120) : farN a b ≤ 240 ∧ (a.size : Int) + growN L ≤ 65536 ∧ (∀ e ∈ L, e.2.2.size ≤ 65536) ∧ fitsE a.size (L.map toI) = 0 ∧ costE (L.map toI) = (costN L : Nat) ∧ checkE a.size (L.map toI) = 0 := by
  obtain ⟨f1, f2, f3, f4, f5, f6⟩ := h
  have hf := farN_le a b
  have hs := size_pieces a L 0 f1
  rw [f2] at hs
  have hg : (a.size : Int) + growN L ≤ 65536 := by omega
  have ht : ∀ e ∈ L, e.2.2.size ≤ 65536 := fun e he => by have := text_cost2 L e he; omega
  obtain ⟨v1, v2, v3⟩ := valid_fits f1 (by omega) (by omega) hg ht
  exact ⟨by omega, hg, ht, v1, v2, v3⟩
/-- a row of spans that was answered -/
theorem gp_shape {w w' : World} {l : List (Int × Int)} {v : Value} (h : GpInv w w' l v) : ∃ src cap n, l.length = n ∧ n ≤ maxLen ∧ v = .slice src n cap ∧ (0 < n → ∃ g, src = some ⟨g, 0, none⟩ ∧ g < w'.heap.size ∧ SpanAt w' g 0 l) := by
  obtain ⟨_, ho⟩ := h
  rcases ho.2 with ⟨hv, hn⟩ | ⟨g, cap, cur, hv, _, _, hc, hm, _⟩
  · exact ⟨none, 0, 0, hn, Nat.zero_le _, hv, fun h => by omega⟩
  · subst hv
    exact ⟨some ⟨g, 0, none⟩, cap, l.length, rfl, Nat.le_trans hc hm, rfl, fun _ => ⟨g, rfl, (ho.lt g rfl).2, span_of_own ho⟩⟩
theorem below_drwM {B : Nat} {a w : World} (h : Below B a w) (n : Nat) : Below B a (w.drewN n) := ⟨h.os, h.tape, h.output, h.size, h.block⟩

theorem sumL_nonneg : ∀ (l : List (Int × Int)), (∀ x ∈ l, x.1 ≤ x.2) → 0 ≤ sumL l
  | [], _ => by simp [sumL]
  | x :: l, h => by
    have ih := sumL_nonneg l (fun y hy => h y (by simp [hy]))
    have h1 := h x (by simp)
    have e : sumL (x :: l) = (x.2 - x.1) + sumL l := by simp [sumL]
    rw [e]; omega
theorem sumL_app (l r : List (Int × Int)) : sumL (l ++ r) = sumL l + sumL r := by unfold sumL; rw [List.map_append, List.sum_append]
theorem sum_bd {n : Nat} {T G : List (Int × Int)} (hg : GapsOf n T G) (k : Nat) : 0 ≤ sumL (G.take k) ∧ sumL (G.take k) ≤ (n : Int) := by
  obtain ⟨g1, g2, g3⟩ := hg
  have h1 := sumL_nonneg (G.take k) (fun x hx => by have := g1 x (List.mem_of_mem_take hx); omega)
  have h2 := sumL_nonneg (G.drop k) (fun x hx => by have := g1 x (List.mem_of_mem_drop hx); omega)
  have h3 := sumL_app (G.take k) (G.drop k)
  rw [List.take_append_drop] at h3
  have t2 := totN_sum n G (fun x hx => by have := g1 x hx; omega)
  have t3 := totN_both n T G n (Nat.le_refl _) g3
  omega

set_option maxRecDepth 100000 in
set_option maxHeartbeats 16000000 in
theorem wholeDiffs_in (a b c : ByteArray) (w : World) (ha : a.size ≤ 120) (hb : b.size ≤ 120) (hc : c.size ≤ 120) :
    Calls Try.prog 4 #[.string a, .string b, .string c] w fun e w' => e = .returned (.bool true) ∧ Below w.heap.size w w' := by
  have hf := fun w => far_near ab bB w (by decide) (by decide) (by rw [ab_far]; decide)
  rw [ab_far] at hf
  have HF := Lib.hid hf
  have l1 := farN_le a b
  have l2 := farN_le b c
  have l3 := farN_le a c
  have HX := Lib.hid (fun w => bytes_near a b w (by omega) (by omega) (by omega))
  have HY := Lib.hid (fun w => bytes_near b c w (by omega) (by omega) (by omega))
  have HZ := Lib.hid (fun w => bytes_near a c w (by omega) (by omega) (by omega))
  have k1 : ¬ 120 < (a.size : Int) := by omega
  have k2 : ¬ 120 < (b.size : Int) := by omega
  have k3 : ¬ 120 < (c.size : Int) := by omega
  clear hf l1 l2 l3
  go_enter Try.func4, Try.ntmps4
  go_wp2_with fail
  refine (HF.out _).mono ?_
  rintro e w0 ⟨rfl, h00⟩
  have H0 := Lib.hid h00
  clear h00
  go_wp2_with fail
  refine (HX.out _).mono ?_
  rintro e w1 ⟨v1, wz1, Lx, rfl, h01, -, hfx, -, hdx⟩
  obtain ⟨sx, cx, rfl, hrx⟩ := hdx.shape2 (show (Lx.map toI).length = Lx.length by simp)
  have H1 := Lib.hid (after H0.out h01)
  have RX := Lib.hid hrx
  clear h01 hdx hrx
  go_wp2_with fail
  refine (HY.out _).mono ?_
  rintro e w2 ⟨v2, wz2, Ly, rfl, h12, -, hfy, -, hdy⟩
  obtain ⟨sy, cy, rfl, hry⟩ := hdy.shape2 (show (Ly.map toI).length = Ly.length by simp)
  have H2 := Lib.hid (after H1.out h12)
  have RX := Lib.hid (RX.out.step h12)
  have RY := Lib.hid hry
  clear h12 hdy hry
  go_wp2_with fail
  refine (HZ.out _).mono ?_
  rintro e w3 ⟨v3, wz3, Lz, rfl, h23, -, hfz, -, hdz⟩
  obtain ⟨sz, cz, rfl, hrz⟩ := hdz.shape2 (show (Lz.map toI).length = Lz.length by simp)
  have H3 := Lib.hid (after H2.out h23)
  have RX := Lib.hid (RX.out.step h23)
  have RY := Lib.hid (RY.out.step h23)
  have RZ := Lib.hid hrz
  clear h23 hdz hrz
  obtain ⟨x0, x1, x2, x3, x4, x5⟩ := found_fits hfx ha hb
  obtain ⟨y0, y1, y2, y3, y4, y5⟩ := found_fits hfy hb hc
  obtain ⟨z0, z1, z2, z3, z4, z5⟩ := found_fits hfz ha hc
  obtain ⟨fx1, fx2, fx3, -, -, fx6⟩ := hfx
  obtain ⟨fy1, fy2, fy3, -, -, fy6⟩ := hfy
  obtain ⟨fz1, fz2, fz3, -, -, fz6⟩ := hfz
  have TN := Lib.hid (fun w h h2 => then_ok a sx Lx.length cx Lx sy Ly.length cy Ly w rfl (by omega) (by omega) fx1 x1 x3 x2 h rfl (by omega) (by rw [fx2]; exact fy1) (by rw [fx2]; exact y1) (by rw [fx2]; exact y3) y2 h2)
  have CX := Lib.hid (fun w (h : EdsIn w sx (Lx.map toI)) => cost_any sx Lx.length cx (Lx.map toI) w (by simp) (by omega) (toI_size x2) h)
  have CY := Lib.hid (fun w (h : EdsIn w sy (Ly.map toI)) => cost_any sy Ly.length cy (Ly.map toI) w (by simp) (by omega) (toI_size y2) h)
  have CZ := Lib.hid (fun w (h : EdsIn w sz (Lz.map toI)) => cost_any sz Lz.length cz (Lz.map toI) w (by simp) (by omega) (toI_size z2) h)
  rw [x4] at CX
  rw [y4] at CY
  rw [z4] at CZ
  have FD : Hid (∀ D, ThenOf a Lx Ly D → D.length ≤ 2000 ∧
      (∀ cp w g, EdsIn w (some ⟨g, 0, none⟩) (D.map toI) → Calls Try.prog 11 #[.string a, .slice (some ⟨g, 0, none⟩) D.length cp] w fun e w' => e = .returned (.tuple #[.string c, .int .i64 0]) ∧ Below w.heap.size w w') ∧
      (∀ cp w g, EdsIn w (some ⟨g, 0, none⟩) (D.map toI) → Calls Try.prog 13 #[.slice (some ⟨g, 0, none⟩) D.length cp] w fun e w' => e = .returned (.int .i64 (costN D : Nat)) ∧ Below w.heap.size w w') ∧
      (∀ cp w g, EdsIn w (some ⟨g, 0, none⟩) (D.map toI) → Calls Try.prog 12 #[.string a, .slice (some ⟨g, 0, none⟩) D.length cp] w fun e w' => ∃ g', e = .returned (.tuple #[.slice (some ⟨g', 0, none⟩) D.length D.length, .int .i64 0]) ∧ Below w.heap.size w w' ∧ g' < w'.heap.size ∧ EditAt w' g' 0 ((invFrom a 0 D).map toI)) ∧
      (∀ w g, EdsIn w (some ⟨g, 0, none⟩) ((invFrom a 0 D).map toI) → Calls Try.prog 11 #[.string c, .slice (some ⟨g, 0, none⟩) D.length D.length] w fun e w' => e = .returned (.tuple #[.string a, .int .i64 0]) ∧ Below w.heap.size w w') ∧
      costN Lz ≤ costN D ∧ costN D ≤ costN Lx + costN Ly) := Lib.hid (by
    rintro D ⟨q1, q2, q3, q4⟩
    rw [fx2, fy2] at q2
    have zz := size_pieces a D 0 q1
    rw [q2] at zz
    have hgd : (a.size : Int) + growN D ≤ 65536 := by omega
    have htd : ∀ e ∈ D, e.2.2.size ≤ 65536 := fun e he => by have := text_cost2 D e he; omega
    have hv := valid_fits q1 (by omega) (by omega) hgd htd
    obtain ⟨i1, i2, i3, i4⟩ := inv_back a D q1
    rw [q2] at i1 i2
    have hil : (invFrom a 0 D).length = D.length := invFrom_len a D 0
    have zi := size_pieces c (invFrom a 0 D) 0 i1
    rw [i2] at zi
    have hgi : (c.size : Int) + growN (invFrom a 0 D) ≤ 65536 := by omega
    have hti : ∀ e ∈ invFrom a 0 D, e.2.2.size ≤ 65536 := fun e he => by have := text_cost2 _ e he; omega
    have hvi := valid_fits i1 (by omega) (by omega) hgi hti
    refine ⟨by omega, fun cp w g h => ?_, fun cp w g h => ?_, fun cp w g h => ?_, fun w g h => ?_, ?_, q3⟩
    · rw [← q2]; exact apply_ok a _ D.length cp D w rfl (by omega) (by omega) q1 hgd hv.1 htd h
    · rw [← hv.2.1]; exact cost_any _ D.length cp (D.map toI) w (by simp) (by omega) (toI_size htd) h
    · exact invert_ok a _ D.length cp D w rfl (by omega) (by omega) q1 hgd hv.1 htd h
    · have := apply_ok c (some ⟨g, 0, none⟩) D.length D.length (invFrom a 0 D) w hil (by omega) (by omega) i1 hgi hvi.1 hti h
      rw [i2] at this; exact this
    · rw [fz3]; exact farN_least (way_of_edits q1 q2))
  have HKP := Lib.hid (fun w hr => kept_yes a sz Lz.length cz Lz w rfl (by omega) (by omega) fz1 hr z5)
  have HMV := Lib.hid (fun p w hp hno hr => move_ok a p sz Lz.length cz Lz w rfl (by omega) (by omega) fz1 z3 z2 hp hno hr)
  have HPL : Hid (∀ (p : Nat), p < a.size → (∀ e ∈ Lz, ¬ (e.1 ≤ p ∧ p < e.2.1)) → ∃ q : Nat, (q : Int) = (p : Int) + mvL p Lz ∧ c.data.toList[q]? = a.data.toList[p]?) := Lib.hid (fun p hp hno => by
    obtain ⟨q, q1, q2⟩ := move_place a p hp Lz 0 fz1 (Nat.zero_le _) hno
    rw [fz2] at q2
    exact ⟨q, by omega, q2⟩)
  have HCP := Lib.hid (cost_parts a.size Lz 0 fz1)
  have HSZ : Hid ((c.size : Int) = (a.size : Int) + growN Lz) := Lib.hid (by have := size_pieces a Lz 0 fz1; rw [fz2] at this; omega)
  have HGK := Lib.hid (fun G (h : GapsOf a.size (tkN Lz) G) => kept_sum fz1 h)
  have cz1 : costN Lz ≤ 240 := by omega
  have cx1 : costN Lx ≤ 240 := by omega
  have cy1 : costN Ly ≤ 240 := by omega
  have lz1 : Lz.length ≤ 514 := fz6
  clear x0 x1 x2 x3 x4 x5 y0 y1 y2 y3 y4 y5 z0 z1 z2 z3 z4 z5 fx1 fx2 fx3 fx6 fy1 fy2 fy3 fy6 fz1 fz2 fz3 fz6
  go_wp2_with fail
  refine (TN.out _ RX.out RY.out).mono ?_
  rintro e w4 ⟨g, D, cp, rfl, h34, hgw, hrow, hof⟩
  obtain ⟨d1, d2, d3, d4, d5, d6, d7⟩ := FD.out D hof
  have F2 := Lib.hid d2
  have F3 := Lib.hid d3
  have F4 := Lib.hid d4
  have F5 := Lib.hid d5
  have H4 := Lib.hid (after H3.out h34)
  have RX := Lib.hid (RX.out.step h34)
  have RY := Lib.hid (RY.out.step h34)
  have RZ := Lib.hid (RZ.out.step h34)
  have RD := Lib.hid (show EdsIn w4 (some ⟨g, 0, none⟩) (D.map toI) from fun _ => ⟨g, 0, rfl, hgw, hrow⟩)
  clear h34 hgw hrow hof d2 d3 d4 d5 FD TN
  generalize hcD : costN D = nD at *
  generalize hcX : costN Lx = nX at *
  generalize hcY : costN Ly = nY at *
  generalize hcZ : costN Lz = nZ at *
  generalize hlD : D.length = lD at *
  generalize hmD : D.map toI = mD at *
  generalize hmI : (invFrom a 0 D).map toI = mI at *
  generalize hmX : Lx.map toI = mX at *
  generalize hmY : Ly.map toI = mY at *
  generalize hlX : Lx.length = lX at *
  generalize hlY : Ly.length = lY at *
  clear hcD hcX hcY hlD hmD hmI hmX hmY hlX hlY
  have HCZ := Lib.hid hcZ
  clear hcZ
  have j1 : ¬ (nD : Int) < (nZ : Int) := by omega
  have j2 : ¬ (nX : Int) + (nY : Int) < (nD : Int) := by omega
  have j3 : (c.toList != c.toList) = false := by simp
  have j4 : (a.toList != a.toList) = false := by simp
  have j5 : nD ≤ 480 := by omega
  clear d6 d7
  go_wp2_with fail
  refine (F2.out _ _ _ RD.out).mono ?_
  rintro e w5 ⟨rfl, h45⟩
  have H5 := Lib.hid (after H4.out h45)
  have RX := Lib.hid (RX.out.step h45)
  have RY := Lib.hid (RY.out.step h45)
  have RZ := Lib.hid (RZ.out.step h45)
  have RD := Lib.hid (RD.out.step h45)
  clear h45
  go_wp2_with fail
  refine (F4.out _ _ _ RD.out).mono ?_
  rintro e w6 ⟨g', rfl, h56, hg', hrow'⟩
  have H6 := Lib.hid (after H5.out h56)
  have RX := Lib.hid (RX.out.step h56)
  have RY := Lib.hid (RY.out.step h56)
  have RZ := Lib.hid (RZ.out.step h56)
  have RD := Lib.hid (RD.out.step h56)
  have RI := Lib.hid (show EdsIn w6 (some ⟨g', 0, none⟩) mI from fun _ => ⟨g', 0, rfl, hg', hrow'⟩)
  clear h56 hg' hrow'
  go_wp2_with fail
  refine (F5.out _ _ RI.out).mono ?_
  rintro e w7 ⟨rfl, h67⟩
  have H7 := Lib.hid (after H6.out h67)
  have RX := Lib.hid (RX.out.step h67)
  have RY := Lib.hid (RY.out.step h67)
  have RZ := Lib.hid (RZ.out.step h67)
  have RD := Lib.hid (RD.out.step h67)
  clear h67 RI
  go_wp2_with fail
  refine (F3.out _ _ _ RD.out).mono ?_
  rintro e w8 ⟨rfl, h78⟩
  have H8 := Lib.hid (after H7.out h78)
  have RX := Lib.hid (RX.out.step h78)
  have RY := Lib.hid (RY.out.step h78)
  have RZ := Lib.hid (RZ.out.step h78)
  have RD := Lib.hid (RD.out.step h78)
  clear h78
  go_wp2_with fail
  refine (CZ.out _ RZ.out).mono ?_
  rintro e w9 ⟨rfl, h89⟩
  have H9 := Lib.hid (after H8.out h89)
  have RX := Lib.hid (RX.out.step h89)
  have RY := Lib.hid (RY.out.step h89)
  have RZ := Lib.hid (RZ.out.step h89)
  have RD := Lib.hid (RD.out.step h89)
  clear h89
  go_wp2_with fail
  refine (F3.out _ _ _ RD.out).mono ?_
  rintro e wa ⟨rfl, h9a⟩
  have Ha := Lib.hid (after H9.out h9a)
  have RX := Lib.hid (RX.out.step h9a)
  have RY := Lib.hid (RY.out.step h9a)
  have RZ := Lib.hid (RZ.out.step h9a)
  clear h9a
  go_wp2_with fail
  refine (CX.out _ RX.out).mono ?_
  rintro e wb ⟨rfl, hab⟩
  have Hb := Lib.hid (after Ha.out hab)
  have RY := Lib.hid (RY.out.step hab)
  have RZ := Lib.hid (RZ.out.step hab)
  clear hab
  go_wp2_with fail
  refine (CY.out _ RY.out).mono ?_
  rintro e wc ⟨rfl, hbc⟩
  have Hc := Lib.hid (after Hb.out hbc)
  have RZ := Lib.hid (RZ.out.step hbc)
  clear hbc RX RY RD
  go_wp2_with fail
  refine (HKP.out _ RZ.out).mono ?_
  rintro e wd ⟨hcd, v, wz, G, rfl, hz, hg, hgs⟩
  obtain ⟨srcG, capG, z, hzl, hzm, rfl, hgr⟩ := gp_shape hg
  unfold maxLen at hzm
  have HGR := Lib.hid hgr
  have HZL := Lib.hid hzl
  have HGS := Lib.hid hgs
  have RZ := Lib.hid (RZ.out.step hcd)
  have Hd := Lib.hid (after Hc.out hcd)
  have HSUM := Lib.hid (HGK.out G hgs)
  clear hgr hzl hgs hcd hz hg
  go_wp2_with fail
  go_loopw [154, 24] (fun t m wr => ∃ k : Nat, k ≤ z ∧ t = .int .i64 k ∧ m = .int .i64 (sumL (G.take k)) ∧ Below wd.heap.size wd wr) (fun t _ _ => z - (intOf t).toNat)
  case atStart => exact ⟨0, Nat.zero_le _, rfl, rfl, Below.refl _ _⟩
  case round =>
    obtain ⟨k, hk, rfl, rfl, hbel⟩ := hrel
    have HBEL := Lib.hid hbel
    rename World => wx
    by_cases hlt : k < z
    · have hkl : k < G.length := by rw [HZL.out]; exact hlt
      obtain ⟨g1, hsr, hb, hrow⟩ := HGR.out (by omega)
      subst hsr
      have hbx := Nat.lt_of_lt_of_le hb hbel.size
      obtain ⟨c0, c1⟩ := (hrow.below hbel hb) k hkl
      rw [Nat.zero_add] at c0 c1
      obtain ⟨x0, x1, x2⟩ := HGS.out.1 _ (List.getElem_mem hkl)
      have HST := Lib.hid (sumL_take G k hkl)
      have hsb := sum_bd HGS.out k
      have HKN := Lib.hid (fun (p : Nat) h1 h2 => kept_not HGS.out (List.getElem_mem hkl) (p := p) h1 h2)
      clear hrow hbel
      revert c0 c1 x0 x1 x2 HST HKN
      generalize G[k] = x
      intro c0 c1 x0 x1 x2 HST HKN
      obtain ⟨ai, bi⟩ := x
      dsimp only at c0 c1 x0 x1 x2 HST HKN
      obtain ⟨A, rfl⟩ : ∃ A : Nat, ai = A := ⟨ai.toNat, by omega⟩
      obtain ⟨B, rfl⟩ : ∃ B : Nat, bi = B := ⟨bi.toNat, by omega⟩
      have i1 : (k : Int) < (z : Int) := by omega
      have hAB : A < B := by omega
      have hBa : B ≤ 120 := by omega
      generalize sumL (G.take k) = M at *
      obtain ⟨hM0, hM1⟩ := hsb
      have hM2 : M ≤ 120 := by omega
      clear hkl x0 x1 x2 hM1
      have HBX := Lib.hid (show Below wd.heap.size wd (wx.alloc (.cells #[.int .i64 (A : Nat), .int .i64 (B : Nat)] 25)) from HBEL.out.alloc HBEL.out.size _)
      go_wp2_with fail
      go_loopw [27, 24] (fun t m wi => ∃ I : Nat, A ≤ I ∧ I ≤ B ∧ t = .int .i64 I ∧ m = .int .i64 (M + ((I : Int) - (A : Int))) ∧ Below wd.heap.size wd wi ∧ wx.heap.size < wi.heap.size ∧ wi.cell? ⟨wx.heap.size, 1, none⟩ = some (.int .i64 (B : Nat))) (fun t _ _ => B - (intOf t).toNat)
      case atStart => exact ⟨A, Nat.le_refl _, by omega, rfl, by rw [Int.sub_self, Int.add_zero], HBX.out, by simp, by simp [go_sem]⟩
      case round =>
        obtain ⟨I, q1, q2, rfl, rfl, hbi, hwi, d1⟩ := hrel
        rename World => wi
        by_cases hlt2 : I < B
        · have i3 : (I : Int) < (B : Int) := by omega
          obtain ⟨p1, p2⟩ := HKN.out I (by omega) (by omega)
          obtain ⟨q, r1, r2⟩ := HPL.out I p1 p2
          have RZI := Lib.hid (RZ.out.step hbi)
          have HMI := Lib.hid (fun w h => HMV.out I w (by omega) p2 h)
          rw [← r1] at HMI
          have hia : a.data.toList[I]? = some a[I] := by
            rw [List.getElem?_eq_getElem (by rw [size_list]; exact p1)]; rfl
          have hqc : q < c.size := by
            rw [hia] at r2
            obtain ⟨h1, _⟩ := List.getElem?_eq_some_iff.1 r2
            rwa [size_list] at h1
          have hqa : c[q] = a[I] := by
            rw [hia, List.getElem?_eq_getElem (by rw [size_list]; exact hqc)] at r2
            injection r2
          have e1 : decide ((c.size : Int) ≤ (q : Int)) = false := decide_eq_false (by omega)
          have e2 : decide (c.size ≤ q) = false := decide_eq_false (by omega)
          have e3 : ((c[q].toNat : Int) != (a[I].toNat : Int)) = false := by rw [hqa]; simp
          have e4 : (q : Int) < (c.size : Int) := by omega
          have e5 : (I : Int) < (a.size : Int) := by omega
          have HBI := Lib.hid hbi
          clear r1 r2 p2 hia hqa hbi
          go_wp2_with fail
          refine (HMI.out _ RZI.out).mono ?_
          rintro e wj ⟨rfl, hij⟩
          have d2 := keep hij hwi d1
          have hwj := Nat.lt_of_lt_of_le hwi hij.size
          have HBJ := Lib.hid (HBI.out.trans (hij.mono HBI.out.size))
          clear hij d1 HMI RZI HBI
          go_wp2_with fail
          go_big_quiet (fail)
          go_wp2_with fail
          go_roundw
          case rel => exact ⟨I + 1, by omega, by omega, by go_num, by go_num, below_drwM HBJ.out _, hwj, d2⟩
          case measure => simp [intOf]; omega
        · have hIB : I = B := by omega
          subst hIB
          have HBI := Lib.hid hbi
          clear hbi
          go_wp2_with fail
          go_roundw
          case rel => exact ⟨k + 1, by omega, by go_num, by rw [HST.out], HBI.out⟩
          case measure => simp [intOf]; omega
    · have hkz : k = z := by omega
      have hfull : G.take k = G := List.take_of_length_le (by rw [HZL.out]; omega)
      have hsb := sum_bd HGS.out k
      rw [hfull] at hsb ⊢
      have hsum := HSUM.out
      obtain ⟨hc1, hc2⟩ := HCP.out
      have hsz := HSZ.out
      have RZI := Lib.hid (RZ.out.step hbel)
      have HE := Lib.hid (after Hd.out hbel)
      generalize sumL G = N at *
      have t1 : ((a.size : Int) + (c.size : Int) - 2 * N == (nZ : Int)) = true := by simp; omega
      obtain ⟨hN0, hN1⟩ := hsb
      have hN2 : N ≤ 120 := by omega
      clear hsum hc1 hc2 hsz hfull hkz hbel HBEL hN1
      go_wp2_with fail
      refine (CZ.out _ RZI.out).mono ?_
      rintro e we ⟨rfl, hde⟩
      have HF2 := Lib.hid (after HE.out hde)
      clear hde
      go_wp2_with fail
      go_ret
      exact ⟨rfl, HF2.out⟩

set_option maxRecDepth 100000 in
set_option maxHeartbeats 2000000 in
theorem wholeDiffs_any (a : ByteArray) (ha : a.size ≤ maxLen) (b : ByteArray) (hb : b.size ≤ maxLen) (c : ByteArray) (hc : c.size ≤ maxLen) (w : World) :
    Calls Try.prog 4 #[.string a, .string b, .string c] w fun e w' => e = .returned (.bool true) ∧ Below w.heap.size w w' := by
  unfold maxLen at ha hb hc
  have hf := fun w => far_near ab bB w (by decide) (by decide) (by rw [ab_far]; decide)
  rw [ab_far] at hf
  have HF := Lib.hid hf
  clear hf
  by_cases h1 : 120 < a.size
  · have k1 : 120 < (a.size : Int) := by omega
    go_enter Try.func4, Try.ntmps4
    go_wp2_with (go_at_call 8; refine (HF.out _).mono ?_; rintro e w1 ⟨rfl, h01⟩)
    go_ret
    exact ⟨rfl, h01⟩
  · have k1 : ¬ 120 < (a.size : Int) := by omega
    by_cases h2 : 120 < b.size
    · have k2 : 120 < (b.size : Int) := by omega
      go_enter Try.func4, Try.ntmps4
      go_wp2_with (go_at_call 8; refine (HF.out _).mono ?_; rintro e w1 ⟨rfl, h01⟩)
      go_ret
      exact ⟨rfl, h01⟩
    · have k2 : ¬ 120 < (b.size : Int) := by omega
      by_cases h3 : 120 < c.size
      · have k3 : 120 < (c.size : Int) := by omega
        go_enter Try.func4, Try.ntmps4
        go_wp2_with (go_at_call 8; refine (HF.out _).mono ?_; rintro e w1 ⟨rfl, h01⟩)
        go_ret
        exact ⟨rfl, h01⟩
      · exact wholeDiffs_in a b c w (by omega) (by omega) (by omega)

end Go.Proofs.Ytdhbcmbajbgblaa
