/- Contracts of Apply and Invert where edits may not be made; of Invert. -/
import Derived.Test.YtdhbcmbajbgblaaEditE
namespace Go.Proofs.Ytdhbcmbajbgblaa
open Go Go.RowKit
set_option linter.unusedVariables false

theorem apply_no (s : ByteArray) (src : Option Addr) (n cap : Nat) (l : List IEd) (w : World) (hl : l.length = n) (hn : n ≤ maxLen) (hfit : fitsE s.size l ≠ 0) (hr : EdsIn w src l) :
    Calls Try.prog 11 #[.string s, .slice src n cap] w fun e w' => e = .returned (.tuple #[.string ⟨#[]⟩, .int .i64 (fitsE s.size l)]) ∧ Below w.heap.size w w' := by
  have FT := Lib.hid (fun w hr => fits_any s src n cap l w hl hn hr)
  generalize fitsE s.size l = c at *
  have hc : (c == 0) = false := by simp; exact hfit
  go_enter Try.func11, Try.ntmps11
  go_wp2_with fail
  refine (FT.out _ hr).mono ?_
  rintro e w1 ⟨rfl, h01⟩
  go_wp2_with fail
  go_ret2
  exact ⟨rfl, h01⟩

theorem invert_no (s : ByteArray) (src : Option Addr) (n cap : Nat) (l : List IEd) (w : World) (hl : l.length = n) (hn : n ≤ maxLen) (hfit : fitsE s.size l ≠ 0) (hr : EdsIn w src l) :
    Calls Try.prog 12 #[.string s, .slice src n cap] w fun e w' => e = .returned (.tuple #[.slice none 0 0, .int .i64 (fitsE s.size l)]) ∧ Below w.heap.size w w' := by
  have FT := Lib.hid (fun w hr => fits_any s src n cap l w hl hn hr)
  generalize fitsE s.size l = c at *
  have hc : (c == 0) = false := by simp; exact hfit
  go_enter Try.func12, Try.ntmps12
  go_wp2_with fail
  refine (FT.out _ hr).mono ?_
  rintro e w1 ⟨rfl, h01⟩
  go_wp2_with fail
  go_ret2
  exact ⟨rfl, h01⟩

/-- a row of edits, each by its place -/
def RowE (w : World) (g N : Nat) (f : Nat → IEd) : Prop :=
  ∀ i, i < N → w.cell? ⟨g, i * 3, none⟩ = some (.int .i64 (f i).1) ∧ w.cell? ⟨g, i * 3 + 1, none⟩ = some (.int .i64 (f i).2.1) ∧ w.cell? ⟨g, i * 3 + 2, none⟩ = some (.string (f i).2.2)
theorem RowE.step {w w' : World} {g N : Nat} {f : Nat → IEd} (h : RowE w g N f) (hb : Below w.heap.size w w') (hg : g < w.heap.size) : RowE w' g N f := fun i hi =>
  ⟨keep hb hg (h i hi).1, keep hb hg (h i hi).2.1, keep hb hg (h i hi).2.2⟩
theorem RowE.cong {w : World} {g N : Nat} {f f' : Nat → IEd} (h : RowE w g N f) (he : ∀ i, i < N → f' i = f i) : RowE w g N f' := fun i hi => by rw [he i hi]; exact h i hi
theorem cell_ne {w : World} {g a b : Nat} {v : Value} (h : a ≠ b) : (w.setCell ⟨g, a, none⟩ v).cell? ⟨g, b, none⟩ = w.cell? ⟨g, b, none⟩ :=
  World.cell?_setCell_other _ _ _ _ (by intro he; injection he with _ h2; exact h h2)
theorem RowE.set01 {w : World} {g N : Nat} {f : Nat → IEd} (h : RowE w g N f) (i : Nat) (hi : i < N) (a c : Int) :
    RowE ((w.setCell ⟨g, i * 3, none⟩ (.int .i64 a)).setCell ⟨g, i * 3 + 1, none⟩ (.int .i64 c)) g N (fun j => if j = i then (a, c, (f i).2.2) else f j) := by
  intro j hj
  by_cases hq : j = i
  · subst hq
    obtain ⟨c0, c1, c2⟩ := h j hj
    simp only [if_true]
    refine ⟨?_, ?_, ?_⟩
    · rw [cell_ne (by omega)]; exact World.cell?_setCell_same _ _ _ c0
    · have : (w.setCell ⟨g, j * 3, none⟩ (.int .i64 a)).cell? ⟨g, j * 3 + 1, none⟩ = some (.int .i64 (f j).2.1) := by rw [cell_ne (by omega)]; exact c1
      exact World.cell?_setCell_same _ _ _ this
    · rw [cell_ne (by omega), cell_ne (by omega)]; exact c2
  · simp only [if_neg hq]
    obtain ⟨c0, c1, c2⟩ := h j hj
    refine ⟨?_, ?_, ?_⟩
    · rw [cell_ne (by omega), cell_ne (by omega)]; exact c0
    · rw [cell_ne (by omega), cell_ne (by omega)]; exact c1
    · rw [cell_ne (by omega), cell_ne (by omega)]; exact c2
theorem RowE.set2 {w : World} {g N : Nat} {f : Nat → IEd} (h : RowE w g N f) (i : Nat) (hi : i < N) (t : ByteArray) :
    RowE (w.setCell ⟨g, i * 3 + 2, none⟩ (.string t)) g N (fun j => if j = i then ((f i).1, (f i).2.1, t) else f j) := by
  intro j hj
  by_cases hq : j = i
  · subst hq
    obtain ⟨c0, c1, c2⟩ := h j hj
    simp only [if_true]
    refine ⟨?_, ?_, ?_⟩
    · rw [cell_ne (by omega)]; exact c0
    · rw [cell_ne (by omega)]; exact c1
    · exact World.cell?_setCell_same _ _ _ c2
  · simp only [if_neg hq]
    obtain ⟨c0, c1, c2⟩ := h j hj
    refine ⟨?_, ?_, ?_⟩
    · rw [cell_ne (by omega)]; exact c0
    · rw [cell_ne (by omega)]; exact c1
    · rw [cell_ne (by omega)]; exact c2
theorem RowE.list {w : World} {g N : Nat} {f : Nat → IEd} (h : RowE w g N f) {l : List IEd} (hl : l.length = N) (he : ∀ i (hi : i < l.length), l[i] = f i) : EditAt w g 0 l := fun i hi => by
  rw [he i hi, Nat.zero_add]; exact h i (by omega)

theorem madeTo_size (s : ByteArray) (L : List NEd) (h : EdOk s.size 0 L) : ∀ k, k ≤ L.length → ((madeTo s L k).size : Int) = edTo L k + growN (L.take k) := by
  intro k
  induction k with
  | zero => intro _; simp [madeTo, edTo, growN]
  | succ k ih =>
    intro hk
    obtain ⟨h1, h2, h3⟩ := h.at' (k := k) (by omega)
    obtain ⟨m1, m2⟩ := madeTo_succ s L k (by omega)
    have := ih (by omega)
    rw [m1, m2, List.take_succ_eq_append_getElem (by omega), growN_append]
    have e : growN [L[k]] = (L[k].2.2.size : Int) - ((L[k].2.1 : Int) - L[k].1) := by simp [growN]
    rw [e]
    simp only [ByteArray.size_append, ByteArray.size_extract]
    omega
/-- where an edit of those that take back stands -/
theorem inv_at (s : ByteArray) (L : List NEd) (h : EdOk s.size 0 L) (i : Nat) (hi : i < L.length) :
    0 ≤ (L[i].1 : Int) + growN (L.take i) ∧ ((invFrom s 0 L).map toI)[i]? = some ((L[i].1 : Int) + growN (L.take i), (L[i].1 : Int) + growN (L.take i) + L[i].2.2.size, s.extract L[i].1 L[i].2.1) := by
  have h1 := madeTo_size s L h i (by omega)
  have h2 := (h.at' hi).1
  have h3 : 0 ≤ (L[i].1 : Int) + growN (L.take i) := by omega
  refine ⟨h3, ?_⟩
  rw [List.getElem?_map, invFrom_get s L 0 i hi, Int.zero_add]
  simp only [Option.map_some, toI]
  congr 1
  rw [Int.natCast_add, Int.toNat_of_nonneg h3]

set_option maxHeartbeats 2000000 in
theorem invert_ok (s : ByteArray) (src : Option Addr) (n cap : Nat) (L : List NEd) (w : World) (hl : L.length = n) (hn : n ≤ 4096) (hs : s.size ≤ 65536) (hok : EdOk s.size 0 L) (hsz : (s.size : Int) + growN L ≤ 65536) (hfit : fitsE s.size (L.map toI) = 0) (ht : ∀ e ∈ L, e.2.2.size ≤ 65536) (hr : EdsIn w src (L.map toI)) :
    Calls Try.prog 12 #[.string s, .slice src n cap] w fun e w' => ∃ g, e = .returned (.tuple #[.slice (some ⟨g, 0, none⟩) n n, .int .i64 0]) ∧ Below w.heap.size w w' ∧ g < w'.heap.size ∧ EditAt w' g 0 ((invFrom s 0 L).map toI) := by
  have FT := Lib.hid (fun w hr => fits_any s src n cap (L.map toI) w (by simpa using hl) (by unfold maxLen; omega) hr)
  have HR := Lib.hid hr
  have HL := Lib.hid hl
  have HF := Lib.hid hfit
  have HIV := Lib.hid (inv_at s L hok)
  have HOK := Lib.hid hok
  have HT := Lib.hid ht
  clear hr hl hfit hok ht
  go_enter Try.func12, Try.ntmps12
  go_wp2_with fail
  refine (FT.out _ HR.out).mono ?_
  rw [HF.out]
  rintro e w1 ⟨rfl, h01⟩
  obtain ⟨W1, hmk, hb1, hs1, hz1, hf1, -⟩ := made_edits n w1 (by omega)
  have HB1 := Lib.hid (after h01 hb1)
  have HZ : Hid (RowE W1 w1.heap.size n (fun _ => noEd)) := Lib.hid (fun i hi => hz1 i hi)
  have HF1 := Lib.hid hf1
  have hg0 : w.heap.size ≤ w1.heap.size := h01.size
  clear h01 hb1 hz1 hf1 FT
  obtain ⟨g, hg⟩ : ∃ g, g = w1.heap.size := ⟨_, rfl⟩
  rw [← hg] at hmk hs1 HZ HF1 hg0
  clear hg
  go_wp2_with fail
  go_loopw [8, 23] (fun c i wr => ∃ k : Nat, k ≤ n ∧ i = .int .i64 k ∧ c = .int .i64 (growN (L.take k)) ∧ Below w.heap.size w wr ∧ g < wr.heap.size ∧ (∀ j, wr.frozen? ⟨g, j, none⟩ = false) ∧ RowE wr g n (fun j => if j < k then ((invFrom s 0 L).map toI).getD j noEd else noEd)) (fun _ i _ => n - (intOf i).toNat)
  case atStart => exact ⟨0, Nat.zero_le _, rfl, rfl, HB1.out, hs1, HF1.out, HZ.out.cong (fun i _ => by rw [if_neg (by omega)])⟩
  case round =>
    obtain ⟨k, hk, rfl, rfl, hbel, hgw, hfz, hrowE⟩ := hrel
    clear HB1 HZ HF1 hs1
    have HBEL := Lib.hid hbel
    have HFZ := Lib.hid hfz
    have HRE := Lib.hid hrowE
    have hsz0 := hbel.size
    by_cases hlt : k < n
    · have hkl : k < L.length := by rw [HL.out]; exact hlt
      obtain ⟨b, off, rfl, hb, hrow⟩ := HR.out (by simpa using (show 0 < L.length by omega))
      obtain ⟨c0, c1, c2⟩ := (hrow.below hbel hb) k (by simpa using hkl)
      rw [toI_get] at c0 c1 c2
      obtain ⟨o1, o2, o3⟩ := HOK.out.at' hkl
      have x3s := HT.out _ (List.getElem_mem hkl)
      obtain ⟨p1, p2⟩ := HIV.out k hkl
      have m1 := madeTo_size s L HOK.out k (by omega)
      have m2 := madeTo_le s L k (by omega)
      have m3 := size_pieces s L 0 HOK.out
      have GN := Lib.hid (show growN (L.take (k + 1)) = growN (L.take k) + ((L[k].2.2.size : Int) - ((L[k].2.1 : Int) - L[k].1)) by
        rw [List.take_succ_eq_append_getElem hkl, growN_append]; simp [growN])
      have gb1 : -65536 ≤ growN (L.take k) := by omega
      have gb2 : growN (L.take k) ≤ 65536 := by omega
      obtain ⟨z0, z1, z2⟩ := hrowE k hlt
      simp only [if_neg (Nat.lt_irrefl k)] at z0 z1 z2
      have f0 := hfz (k * 3)
      have f1 := hfz (k * 3 + 1)
      have f2 := hfz (k * 3 + 2)
      clear hbel hrow hfz hrowE m1 m2 m3
      have P2 := Lib.hid p2
      clear p2
      revert c0 c1 c2 o1 o2 o3 x3s p1 P2 GN
      generalize L[k] = x
      obtain ⟨x1, x2, x3⟩ := x
      intro c0 c1 c2 o1 o2 o3 x3s p1 P2 GN
      unfold toI at c0 c1 c2
      dsimp only at c0 c1 c2 o1 o2 o3 x3s p1 P2 GN
      generalize growN (L.take k) = gk at *
      have GR := Lib.hid (fun w => growth_any (x1 : Int) (x2 : Int) x3 w x3s)
      have GL := Lib.hid (show (x3.size : Int) - lenI (x1 : Int) (x2 : Int) = (x3.size : Int) - ((x2 : Int) - x1) by rw [lenI_nat o2 (by omega)])
      rw [GL.out] at GR
      have o5 : (x1 : Int) ≤ (x2 : Int) := by omega
      have o6 : (x2 : Int) ≤ (s.size : Int) := by omega
      have hne : b ≠ g := by omega
      have hbw : b < wr.heap.size := by omega
      clear hkl
      rename World => wo
      obtain ⟨WA, hWA⟩ : ∃ WA, WA = ((wo.setCell ⟨g, k * 3, none⟩ (.int .i64 ((x1 : Int) + gk))).setCell ⟨g, k * 3 + 1, none⟩ (.int .i64 ((x1 : Int) + gk + x3.size))).alloc (.cells #[.int .i64 (x1 : Int), .int .i64 (x2 : Int), .string x3] 27) := ⟨_, rfl⟩
      have hzA : ((wo.setCell ⟨g, k * 3, none⟩ (.int .i64 ((x1 : Int) + gk))).setCell ⟨g, k * 3 + 1, none⟩ (.int .i64 ((x1 : Int) + gk + x3.size))).heap.size = wo.heap.size := by simp [World.setCell]
      have hAl := (Below.refl ((wo.setCell ⟨g, k * 3, none⟩ (.int .i64 ((x1 : Int) + gk))).setCell ⟨g, k * 3 + 1, none⟩ (.int .i64 ((x1 : Int) + gk + x3.size))).heap.size _).alloc (Nat.le_refl _) (.cells #[.int .i64 (x1 : Int), .int .i64 (x2 : Int), .string x3] 27)
      have RA := Lib.hid ((HRE.out.set01 k hlt ((x1 : Int) + gk) ((x1 : Int) + gk + x3.size)).step hAl (by omega))
      have BA := Lib.hid (after ((HBEL.out.setCell hg0 _).setCell hg0 _) hAl)
      have FA := Lib.hid (show ∀ j, _ from fun j => ((bcell hAl).2 g j (by omega)).trans (show _ = false by rw [World.frozen?_setCell, World.frozen?_setCell]; exact HFZ.out j))
      have e0 : WA.cell? ⟨wo.heap.size, 0, none⟩ = some (.int .i64 (x1 : Int)) := by rw [hWA, ← hzA]; simp [go_sem]
      have e1 : WA.cell? ⟨wo.heap.size, 1, none⟩ = some (.int .i64 (x2 : Int)) := by rw [hWA, ← hzA]; simp [go_sem]
      have e2 : WA.cell? ⟨wo.heap.size, 2, none⟩ = some (.string x3) := by rw [hWA, ← hzA]; simp [go_sem]
      have hzW : WA.heap.size = wo.heap.size + 1 := by rw [hWA, ← hzA]; simp
      rw [← hWA] at RA BA FA
      have zx : (s.extract x1 x2).size ≤ 281474976710656 := by rw [ByteArray.size_extract]; omega
      have HWA := Lib.hid hWA
      clear hWA hAl hzA
      go_wp2_with fail
      rw [← HWA.out]
      refine (clone_any _ _ zx).mono ?_
      rintro e w2 ⟨rfl, h12⟩
      have hz2 := h12.size
      have R2 := Lib.hid (RA.out.step h12 (by omega))
      have F2 := Lib.hid (fun j => ((bcell h12).2 g j (by omega)).trans (FA.out j))
      have B2 := Lib.hid (after BA.out h12)
      have d0 := keep h12 (by omega) e0
      have d1 := keep h12 (by omega) e1
      have d2 := keep h12 (by omega) e2
      obtain ⟨y0, y1, y2⟩ := R2.out k hlt
      have f5 := F2.out (k * 3 + 2)
      simp only [if_true] at y2
      have hgw2 : g < w2.heap.size := by omega
      have hbg : wo.heap.size ≠ g := by omega
      clear e0 e1 e2 y0 y1 h12 z0 z1 z2 f0 f1 f2 c0 c1 c2
      have R3 := Lib.hid (R2.out.set2 k hlt (s.extract x1 x2))
      have B3 := Lib.hid (B2.out.setCell (p := ⟨g, k * 3 + 2, none⟩) hg0 (.string (s.extract x1 x2)))
      have F3 := Lib.hid (show ∀ j, (w2.setCell ⟨g, k * 3 + 2, none⟩ (.string (s.extract x1 x2))).frozen? ⟨g, j, none⟩ = false from fun j => by rw [World.frozen?_setCell]; exact F2.out j)
      have G3 := Lib.hid (show g < (w2.setCell ⟨g, k * 3 + 2, none⟩ (.string (s.extract x1 x2))).heap.size by simpa [World.setCell] using hgw2)
      go_wp2_with fail
      refine (GR.out _).mono ?_
      rintro e w3 ⟨rfl, h23⟩
      have R4 := Lib.hid (R3.out.step h23 G3.out)
      have B4 := Lib.hid (after B3.out h23)
      have F4 := Lib.hid (fun j => ((bcell h23).2 g j G3.out).trans (F3.out j))
      have G4 := Lib.hid (Nat.lt_of_lt_of_le G3.out h23.size)
      have dd1 : -65536 ≤ (x3.size : Int) - ((x2 : Int) - x1) := by omega
      have dd2 : (x3.size : Int) - ((x2 : Int) - x1) ≤ 65536 := by omega
      clear h23 d0 d1 d2
      generalize hdd : (x3.size : Int) - ((x2 : Int) - x1) = d at *
      clear hdd
      go_wp2_with fail
      go_roundw
      case rel =>
        refine ⟨k + 1, by omega, by go_num, by rw [P2.out], B4.out, G4.out, F4.out, R4.out.cong fun i hi => ?_⟩
        have hgd : ((invFrom s 0 L).map toI).getD k noEd = ((x1 : Int) + gk, (x1 : Int) + gk + x3.size, s.extract x1 x2) := by rw [List.getD_eq_getElem?_getD, GN.out]; rfl
        by_cases hq : i = k
        · subst hq
          rw [if_pos (by omega), hgd]; simp
        · by_cases hq2 : i < k
          · rw [if_pos (by omega)]; simp only [if_neg hq, if_pos hq2]
          · rw [if_neg (by omega)]; simp only [if_neg hq, if_neg hq2]
      case measure => simp [intOf]; omega
    · have hk' : k = n := by omega
      subst hk'
      go_wp2_with fail
      go_ret2
      refine ⟨g, rfl, hbel, hgw, hrowE.list (by rw [List.length_map, invFrom_len, HL.out]) (fun i hi => ?_)⟩
      rw [if_pos (by rw [List.length_map, invFrom_len, HL.out] at hi; exact hi), getE _ i hi]

end Go.Proofs.Ytdhbcmbajbgblaa
