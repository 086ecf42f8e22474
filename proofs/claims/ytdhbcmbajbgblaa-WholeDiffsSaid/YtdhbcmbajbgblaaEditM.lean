/- Contract of tidied. -/
import Derived.Test.YtdhbcmbajbgblaaEditL
import Derived.Deep.RegionWith
namespace Go.Proofs.Ytdhbcmbajbgblaa
open Go Go.RowKit
set_option linter.unusedVariables false

abbrev noN : NEd := (0, 0, ByteArray.empty)
/-- while a list is tidied in its place: the row, and the edit at hand in its box -/
structure TS (w wr : World) (B g n : Nat) (f : Nat → IEd) (eb : Nat) (x : IEd) : Prop where
  bel : Below B w wr
  gl : g < wr.heap.size
  gf : ∀ j, wr.frozen? ⟨g, j, none⟩ = false
  row : RowE wr g n f
  el : eb < wr.heap.size
  ef : ∀ j, wr.frozen? ⟨eb, j, none⟩ = false
  e0 : wr.cell? ⟨eb, 0, none⟩ = some (.int .i64 x.1)
  e1 : wr.cell? ⟨eb, 1, none⟩ = some (.int .i64 x.2.1)
  e2 : wr.cell? ⟨eb, 2, none⟩ = some (.string x.2.2)
  ne : eb ≠ g
  eB : B ≤ eb
theorem TS.start {w wr : World} {B g n : Nat} {f : Nat → IEd} (hb : Below B w wr) (hB : B ≤ wr.heap.size) (hg : g < wr.heap.size) (hf : ∀ j, wr.frozen? ⟨g, j, none⟩ = false) (hr : RowE wr g n f) (x : IEd) :
    TS w (wr.alloc (.cells #[.int .i64 x.1, .int .i64 x.2.1, .string x.2.2] 27)) B g n f wr.heap.size x := by
  have hb1 : Below wr.heap.size wr (wr.alloc (.cells #[.int .i64 x.1, .int .i64 x.2.1, .string x.2.2] 27)) := (Below.refl _ _).alloc (Nat.le_refl _) _
  exact ⟨hb.trans (hb1.mono hB), Nat.lt_of_lt_of_le hg hb1.size, fun j => ((bcell hb1).2 g j hg).trans (hf j), hr.step hb1 hg, by simp, fun j => by simp [go_sem], by simp [go_sem], by simp [go_sem], by simp [go_sem], by omega, hB⟩
theorem TS.step {w wr w2 : World} {B g n : Nat} {f : Nat → IEd} {eb : Nat} {x : IEd} (h : TS w wr B g n f eb x) (hb : Below wr.heap.size wr w2) : TS w w2 B g n f eb x :=
  ⟨h.bel.trans (hb.mono (by have := h.el; have := h.eB; omega)), Nat.lt_of_lt_of_le h.gl hb.size, fun j => ((bcell hb).2 g j h.gl).trans (h.gf j), h.row.step hb h.gl, Nat.lt_of_lt_of_le h.el hb.size, fun j => ((bcell hb).2 eb j h.el).trans (h.ef j),
    keep hb h.el h.e0, keep hb h.el h.e1, keep hb h.el h.e2, h.ne, h.eB⟩
theorem TS.drewN {w wr : World} {B g n : Nat} {f : Nat → IEd} {eb : Nat} {x : IEd} (h : TS w wr B g n f eb x) (k : Nat) : TS w (wr.drewN k) B g n f eb x :=
  ⟨below_drewN h.bel k, h.gl, h.gf, h.row, h.el, h.ef, h.e0, h.e1, h.e2, h.ne, h.eB⟩
theorem TS.drew {w wr : World} {B g n : Nat} {f : Nat → IEd} {eb : Nat} {x : IEd} (h : TS w wr B g n f eb x) : TS w wr.drew B g n f eb x :=
  ⟨h.bel.drew, h.gl, h.gf, h.row, h.el, h.ef, h.e0, h.e1, h.e2, h.ne, h.eB⟩
theorem cell_nb {w : World} {a b i j : Nat} {v : Value} (h : a ≠ b) : (w.setCell ⟨a, i, none⟩ v).cell? ⟨b, j, none⟩ = w.cell? ⟨b, j, none⟩ :=
  World.cell?_setCell_other _ _ _ _ (by intro he; injection he with h1 _; exact h h1)
theorem RowE.other {w : World} {g n : Nat} {f : Nat → IEd} (h : RowE w g n f) {a i : Nat} (hne : a ≠ g) (v : Value) : RowE (w.setCell ⟨a, i, none⟩ v) g n f := fun j hj => by
  rw [cell_nb hne, cell_nb hne, cell_nb hne]; exact h j hj
/-- the edit at hand becomes another -/
theorem TS.setE {w wr : World} {B g n : Nat} {f : Nat → IEd} {eb : Nat} {x : IEd} (h : TS w wr B g n f eb x) (y : IEd) :
    TS w (((wr.setCell ⟨eb, 0, none⟩ (.int .i64 y.1)).setCell ⟨eb, 1, none⟩ (.int .i64 y.2.1)).setCell ⟨eb, 2, none⟩ (.string y.2.2)) B g n f eb y := by
  refine ⟨((h.bel.setCell h.eB _).setCell h.eB _).setCell h.eB _, by simpa [World.setCell] using h.gl, fun j => by rw [World.frozen?_setCell, World.frozen?_setCell, World.frozen?_setCell]; exact h.gf j, ((h.row.other h.ne _).other h.ne _).other h.ne _,
    by simpa [World.setCell] using h.el, fun j => by rw [World.frozen?_setCell, World.frozen?_setCell, World.frozen?_setCell]; exact h.ef j, ?_, ?_, ?_, h.ne, h.eB⟩
  · rw [cell_ne (by omega), cell_ne (by omega)]; exact World.cell?_setCell_same _ _ _ h.e0
  · rw [cell_ne (by omega)]
    have : (wr.setCell ⟨eb, 0, none⟩ (.int .i64 y.1)).cell? ⟨eb, 1, none⟩ = some (.int .i64 x.2.1) := by rw [cell_ne (by omega)]; exact h.e1
    exact World.cell?_setCell_same _ _ _ this
  · have : ((wr.setCell ⟨eb, 0, none⟩ (.int .i64 y.1)).setCell ⟨eb, 1, none⟩ (.int .i64 y.2.1)).cell? ⟨eb, 2, none⟩ = some (.string x.2.2) := by rw [cell_ne (by omega), cell_ne (by omega)]; exact h.e2
    exact World.cell?_setCell_same _ _ _ this
/-- an edit into the row -/
theorem TS.put {w wr : World} {B g n : Nat} {f : Nat → IEd} {eb : Nat} {x : IEd} (h : TS w wr B g n f eb x) (hB : B ≤ g) (i : Nat) (hi : i < n) (y : IEd) :
    Below B w (((wr.setCell ⟨g, i * 3, none⟩ (.int .i64 y.1)).setCell ⟨g, i * 3 + 1, none⟩ (.int .i64 y.2.1)).setCell ⟨g, i * 3 + 2, none⟩ (.string y.2.2)) ∧
    g < (((wr.setCell ⟨g, i * 3, none⟩ (.int .i64 y.1)).setCell ⟨g, i * 3 + 1, none⟩ (.int .i64 y.2.1)).setCell ⟨g, i * 3 + 2, none⟩ (.string y.2.2)).heap.size ∧
    (∀ j, (((wr.setCell ⟨g, i * 3, none⟩ (.int .i64 y.1)).setCell ⟨g, i * 3 + 1, none⟩ (.int .i64 y.2.1)).setCell ⟨g, i * 3 + 2, none⟩ (.string y.2.2)).frozen? ⟨g, j, none⟩ = false) ∧
    RowE (((wr.setCell ⟨g, i * 3, none⟩ (.int .i64 y.1)).setCell ⟨g, i * 3 + 1, none⟩ (.int .i64 y.2.1)).setCell ⟨g, i * 3 + 2, none⟩ (.string y.2.2)) g n (fun j => if j = i then y else f j) := by
  refine ⟨((h.bel.setCell hB _).setCell hB _).setCell hB _, by simpa [World.setCell] using h.gl, fun j => by rw [World.frozen?_setCell, World.frozen?_setCell, World.frozen?_setCell]; exact h.gf j, ?_⟩
  refine ((h.row.set01 i hi y.1 y.2.1).set2 i hi y.2.2).cong fun j hj => ?_
  by_cases hq : j = i
  · subst hq; simp
  · simp [hq]

theorem size_mem (s : ByteArray) : ∀ (l : List NEd) (a : Nat) (e : NEd), e ∈ l → e.2.2.size ≤ (pieces s a l).size
  | x :: l, a, e, he => by
    simp only [pieces, ByteArray.size_append]
    rcases List.mem_cons.1 he with rfl | he
    · omega
    · have := size_mem s l x.2.1 e he; omega
theorem nil_or_snoc {α : Type} (l : List α) : l = [] ∨ ∃ m a, l = m ++ [a] := by
  rcases List.eq_nil_or_concat l with h | ⟨m, a, h⟩
  · exact .inl h
  · exact .inr ⟨m, a, by simpa using h⟩

/-- the row while the first k are tidied -/
def TRow (L D : List NEd) (k n : Nat) (f : Nat → IEd) : Prop := (∀ j, j < D.length → f j = toI (D.getD j noN)) ∧ ∀ j, k ≤ j → j < n → f j = toI (L.getD j noN)

theorem hrow_list {w : World} {g n k : Nat} {f : Nat → IEd} {L D : List NEd} (h : RowE w g n f) (ht : TRow L D k n f) (hd : D.length ≤ n) : EditAt w g 0 (D.map toI) := fun i hi => by
  rw [toI_get, Nat.zero_add]
  have hi' : i < D.length := by simpa using hi
  have h1 := h i (by omega)
  rw [ht.1 i hi'] at h1
  rwa [List.getD_eq_getElem?_getD, List.getElem?_eq_getElem hi'] at h1

set_option maxRecDepth 100000 in
set_option maxHeartbeats 4000000 in
theorem tidied_any (s : ByteArray) (B g n cap : Nat) (L : List NEd) (w : World) (f0 : Nat → IEd) (hl : L.length = n) (hn : n ≤ 5000) (hnc : n ≤ cap) (hcm : cap ≤ maxLen) (hB : B ≤ g) (hg : g < w.heap.size) (hfz : ∀ j, w.frozen? ⟨g, j, none⟩ = false)
    (hrow : RowE w g n f0) (hf0 : ∀ j, j < n → f0 j = toI (L.getD j noN)) (hs : s.size ≤ 65536) (hok : EdOk s.size 0 L) (hps : (pieces s 0 L).size ≤ 65536) :
    Calls Try.prog 25 #[.string s, .slice (some ⟨g, 0, none⟩) n cap] w fun e w' => ∃ D : List NEd, e = .returned (.slice (some ⟨g, 0, none⟩) D.length cap) ∧ Below B w w' ∧ g < w'.heap.size ∧ EditAt w' g 0 (D.map toI) ∧
      EdOk s.size 0 D ∧ TidyL s D ∧ pieces s 0 D = pieces s 0 L ∧ costN D ≤ costN L ∧ D.length ≤ L.length ∧ (TidyL s L → D = L) := by
  have HL := Lib.hid hl
  have HFZ := Lib.hid hfz
  have HROW := Lib.hid hrow
  have HF0 : Hid (TRow L [] 0 n f0) := Lib.hid ⟨fun j h => absurd h (by simp), fun j _ h => hf0 j h⟩
  have HOK := Lib.hid hok
  unfold maxLen at hcm
  clear hl hfz hrow hf0 hok
  go_enter Try.func25, Try.ntmps25
  go_wp2_with fail
  go_loopw [5, 10] (fun c i wr => ∃ (k : Nat) (D : List NEd) (f : Nat → IEd), k ≤ n ∧ i = .int .i64 k ∧ c = .int .i64 (D.length : Nat) ∧ TidyInv s L k D ∧ Below B w wr ∧ w.heap.size ≤ wr.heap.size ∧ (∀ j, wr.frozen? ⟨g, j, none⟩ = false) ∧ RowE wr g n f ∧ TRow L D k n f) (fun _ i _ => n - (intOf i).toNat)
  case atStart => exact ⟨0, [], f0, Nat.zero_le _, rfl, rfl, TidyInv.start s L, Below.refl _ _, Nat.le_refl _, HFZ.out, HROW.out, HF0.out⟩
  case round =>
    clear HFZ HROW HF0
    obtain ⟨k, D, f, hk, rfl, rfl, hti, hbel, hwz, hfz, hrow, htr⟩ := hrel
    have HTI := Lib.hid hti
    have HBEL := Lib.hid hbel
    have HFZ := Lib.hid hfz
    have HROW := Lib.hid hrow
    have HTR := Lib.hid htr
    have hfew := hti.few
    have hgw : g < wr.heap.size := by omega
    by_cases hlt : k < n
    · have hkl : k < L.length := by rw [HL.out]; exact hlt
      obtain ⟨c0, c1, c2⟩ := hrow k hlt
      rw [htr.2 k (Nat.le_refl _) hlt] at c0 c1 c2
      obtain ⟨o1, o2, o3⟩ := HOK.out.at hkl
      have hmem : L.getD k noN ∈ L := by rw [List.getD_eq_getElem?_getD, List.getElem?_eq_getElem hkl]; exact List.getElem_mem _
      have x3s := Nat.le_trans (size_mem s L 0 _ hmem) hps
      clear hti hbel hfz hrow htr hmem hkl
      generalize hx0 : L.getD k noN = x0 at *
      have HX0 := Lib.hid hx0
      clear hx0
      have HS0 := Lib.hid (TS.start HBEL.out (by omega) hgw HFZ.out HROW.out (toI x0))
      obtain ⟨a1, a2, a3⟩ := x0
      unfold toI at c0 c1 c2 HS0
      dsimp only at c0 c1 c2 o1 o2 o3 x3s HS0
      have TM := Lib.hid (fun w => trimmed_any s (a1, a2, a3) w hs o2 o3 (by simp only; omega))
      rename World => wo
      go_wp2_with fail
      refine (TM.out _).mono ?_
      rintro e w2 ⟨x, rfl, htrim, hends, h12⟩
      have HTM := Lib.hid htrim
      have HED := Lib.hid hends
      have S2 := Lib.hid (HS0.out.step h12)
      have xz := htrim.size o3
      obtain ⟨t1, t2, t3, -⟩ := htrim
      dsimp only at t1 t3 xz
      obtain ⟨x1, x2, x3⟩ := x
      dsimp only at t1 t2 t3 xz
      have y0 := S2.out.e0
      have y1 := S2.out.e1
      have y2 := S2.out.e2
      have g0 := S2.out.ef 0
      have g1 := S2.out.ef 1
      have g2 := S2.out.ef 2
      clear h12 hends HS0 c0 c1 c2
      rcases nil_or_snoc D with hD | ⟨D0, d, hD⟩
      · have ADD : Hid (Changes (x1, x2, x3) → TidyInv s L (k + 1) (D ++ [(x1, x2, x3)])) := Lib.hid (fun hc => HTI.out.add HOK.out (by have := HL.out; omega) (by rw [HX0.out]; exact HTM.out) HED.out hc (.inl hD))
        have NON : Hid (¬ Changes (x1, x2, x3) → TidyInv s L (k + 1) D) := Lib.hid (fun hc => HTI.out.none HOK.out (by have := HL.out; omega) (by rw [HX0.out]; exact HTM.out) HED.out hc)
        obtain ⟨WT, hWT⟩ : ∃ WT, WT = ((w2.setCell ⟨wo.heap.size, 0, none⟩ (.int .i64 (x1 : Int))).setCell ⟨wo.heap.size, 1, none⟩ (.int .i64 (x2 : Int))).setCell ⟨wo.heap.size, 2, none⟩ (.string x3) := ⟨_, rfl⟩
        have ST := Lib.hid (S2.out.setE (toI (x1, x2, x3)))
        unfold toI at ST
        dsimp only at ST
        rw [← hWT] at ST
        have HWT := Lib.hid hWT
        have HLEN : Hid (D.length = 0) := Lib.hid (by rw [hD]; rfl)
        rw [HLEN.out]
        clear hWT hD
        go_wp2_with fail
        rw [← HWT.out]
        clear y0 y1 y2 g0 g1 g2
        go_quiet (fail)
        have hd2 : 0 < n := by omega
        have hwT : wo.heap.size ≤ WT.heap.size := by have := ST.out.el; omega
        have y0 := ST.out.e0
        have y1 := ST.out.e1
        have y2 := ST.out.e2
        have r0 : WT.cell? ⟨g, 0, none⟩ = some (.int .i64 (f 0).1) := by simpa using (ST.out.row 0 hd2).1
        have r1 : WT.cell? ⟨g, 1, none⟩ = some (.int .i64 (f 0).2.1) := by simpa using (ST.out.row 0 hd2).2.1
        have r2 : WT.cell? ⟨g, 2, none⟩ = some (.string (f 0).2.2) := by simpa using (ST.out.row 0 hd2).2.2
        have h0 := ST.out.gf 0
        have h1 := ST.out.gf 1
        have h2 := ST.out.gf 2
        have gneo : wo.heap.size ≠ g := ST.out.ne
        have i1 : (0 : Int) < (n : Int) := by omega
        by_cases q1 : x1 = x2
        · subst q1
          by_cases q2 : 0 < x3.size
          · have u1 := txt_some q2
            go_wp2_with fail
            have hch : Changes (x1, x1, x3) := by unfold Changes; simp only; omega
            have hlen := HLEN.out
            have PT := (ST.out.drewN nq).put hB 0 hd2 (toI (x1, x1, x3))
            refine ⟨⟨k + 1, D ++ [(x1, x1, x3)], (fun j => if j = 0 then toI (x1, x1, x3) else f j), by omega, by go_num, by simp [hlen], ADD.out hch, PT.1, Nat.le_trans hwz (by simpa [World.setCell] using hwT), PT.2.2.1, PT.2.2.2, ?_⟩, by simp [intOf]; omega⟩
            constructor
            · intro j hj
              simp only [List.length_append, List.length_cons, List.length_nil, hlen] at hj
              have hj0 : j = 0 := by omega
              subst hj0
              simp only [if_true]
              have := getD_mid D [] (x1, x1, x3)
              rw [hlen] at this
              rw [this]
            · intro j h1 h2
              simp only [if_neg (show ¬ j = 0 by omega)]
              exact HTR.out.2 j (by omega) h2
          · have u1 := txt_none q2
            go_wp2_with fail
            have SD := ST.out.drewN nq
            have hlen := HLEN.out
            refine ⟨⟨k + 1, D, f, by omega, by go_num, by simp [hlen], NON.out (by unfold Changes; simp only; omega), SD.bel, Nat.le_trans hwz hwT, SD.gf, SD.row, ?_⟩, by simp [intOf]; omega⟩
            exact ⟨HTR.out.1, fun j h1 h2 => HTR.out.2 j (by omega) h2⟩
        · have u0 : ((x1 : Int) == (x2 : Int)) = false := by rw [Bool.eq_false_iff]; intro h; simp at h; omega
          go_wp2_with fail
          have hch : Changes (x1, x2, x3) := by unfold Changes; simp only; omega
          have hlen := HLEN.out
          have PT := (ST.out.drewN nq).put hB 0 hd2 (toI (x1, x2, x3))
          refine ⟨⟨k + 1, D ++ [(x1, x2, x3)], (fun j => if j = 0 then toI (x1, x2, x3) else f j), by omega, by go_num, by simp [hlen], ADD.out hch, PT.1, Nat.le_trans hwz (by simpa [World.setCell] using hwT), PT.2.2.1, PT.2.2.2, ?_⟩, by simp [intOf]; omega⟩
          constructor
          · intro j hj
            simp only [List.length_append, List.length_cons, List.length_nil, hlen] at hj
            have hj0 : j = 0 := by omega
            subst hj0
            simp only [if_true]
            have := getD_mid D [] (x1, x2, x3)
            rw [hlen] at this
            rw [this]
          · intro j h1 h2
            simp only [if_neg (show ¬ j = 0 by omega)]
            exact HTR.out.2 j (by omega) h2
      · have HD := Lib.hid hD
        obtain ⟨m, hm⟩ : ∃ m, m = D0.length := ⟨_, rfl⟩
        have HL0 : Hid (D0.length = m) := Lib.hid hm.symm
        have HLEN : Hid (D.length = m + 1) := Lib.hid (by rw [hD, hm]; simp)
        have hdf : f m = toI d := by
          rw [HTR.out.1 m (by have := HLEN.out; omega), hD, hm, getD_mid]
        have hmk : m + 1 ≤ k := by have := HLEN.out; omega
        have hto : edTo D D.length = d.2.1 := by rw [hD]; exact edTo_snoc D0 d
        have dok := HTI.out.ok
        rw [hD] at dok
        have dat := dok.at (k := D0.length) (by simp)
        rw [getD_mid] at dat
        obtain ⟨-, da2, da3⟩ := dat
        have dsz : d.2.2.size ≤ 65536 := by
          have h1 := size_mem s (D ++ L.drop k) 0 d (by rw [hD]; simp)
          rw [HTI.out.does] at h1
          omega
        obtain ⟨WT, hWT⟩ : ∃ WT, WT = ((w2.setCell ⟨wo.heap.size, 0, none⟩ (.int .i64 (x1 : Int))).setCell ⟨wo.heap.size, 1, none⟩ (.int .i64 (x2 : Int))).setCell ⟨wo.heap.size, 2, none⟩ (.string x3) := ⟨_, rfl⟩
        have ST := Lib.hid (S2.out.setE (toI (x1, x2, x3)))
        unfold toI at ST
        dsimp only at ST
        rw [← hWT] at ST
        have HWT := Lib.hid hWT
        obtain ⟨b0, b1, b2⟩ := ST.out.row m (by omega)
        rw [hdf] at b0 b1 b2
        have HTO := Lib.hid hto
        clear hWT hD hm hdf dok hto
        obtain ⟨d1, d2, d3⟩ := d
        unfold toI at b0 b1 b2
        dsimp only at b0 b1 b2 da2 da3 dsz
        rw [HLEN.out]
        have j0 : ((m + 1 : Nat) : Int) = (m : Int) + 1 := by omega
        rw [j0]
        have j1 : (m : Int) + 1 - 1 = (m : Int) := by omega
        have j2 : decide (0 < (m : Int) + 1) = true := decide_eq_true (by omega)
        have j3 : (m : Int) < (n : Int) := by omega
        have j4 : (0 : Int) ≤ (m : Int) := by omega
        have j5 : IntKind.i64.wrap ((m : Int) + 1 - 1) = (m : Int) := by rw [j1]; exact IntWalk.i64_in _ ⟨by omega, by omega⟩
        go_wp2_with fail
        rw [← HWT.out]
        clear y0 y1 y2 g0 g1 g2
        have y0 := ST.out.e0
        have y1 := ST.out.e1
        have y2 := ST.out.e2
        have hgT := ST.out.gl
        by_cases hjn : d2 = x1
        · have hjn' := hjn.symm
          subst hjn'
          have u5 : ((x1 : Int) == (x1 : Int)) = true := by simp
          go_quiet (fail)
          go_wp2_with fail
          obtain ⟨WQ, hWQ⟩ : ∃ WQ, WQ = WT.drewN nq := ⟨_, rfl⟩
          have SQ0 := ST.out.drewN nq
          rw [← hWQ] at SQ0
          have b0 : WQ.cell? ⟨g, m * 3, none⟩ = some (.int .i64 (d1 : Int)) := by rw [hWQ]; exact b0
          have b1 : WQ.cell? ⟨g, m * 3 + 1, none⟩ = some (.int .i64 (x1 : Int)) := by rw [hWQ]; exact b1
          have b2 : WQ.cell? ⟨g, m * 3 + 2, none⟩ = some (.string d3) := by rw [hWQ]; exact b2
          clear y0 y1 y2
          have cy0 := SQ0.e0
          have cy1 := SQ0.e1
          have cy2 := SQ0.e2
          have SQ := Lib.hid SQ0.drew
          rw [← hWQ]
          clear hWQ SQ0 u5
          have JO := Lib.hid (fun w => joined_any s (d1, x1, d3) (x1, x2, x3) w hs (by simp only; omega) (by simp only; omega) dsz (by simp only; omega))
          have J1 : (joinE s (d1, x1, d3) (x1, x2, x3)).1 = d1 := rfl
          have J2 : (joinE s (d1, x1, d3) (x1, x2, x3)).2.1 = x2 := rfl
          have J3 : (joinE s (d1, x1, d3) (x1, x2, x3)).2.2.size ≤ 1000000 := by
            simp only [joinE, ByteArray.size_append, ByteArray.size_extract]; omega
          have TM2 := Lib.hid (fun w => trimmed_any s (joinE s (d1, x1, d3) (x1, x2, x3)) w hs (by rw [J1, J2]; omega) (by rw [J2]; omega) J3)
          have JN := Lib.hid (fun y hy hdy => (show TidyInv s L k (D0 ++ [(d1, x1, d3)]) by rw [← HD.out]; exact HTI.out).join (x := (x1, x2, x3)) (y := y) HOK.out (by have := HL.out; omega) (by rw [HX0.out]; exact HTM.out) HED.out rfl hy hdy)
          have HT0 : Hid (TRow L D0 k n f) := Lib.hid ⟨fun j hj => by
            have hm := HL0.out
            rw [HTR.out.1 j (by have := HLEN.out; omega), HD.out, getD_left (by omega)], HTR.out.2⟩
          clear J1 J2 J3
          generalize joinE s (d1, x1, d3) (x1, x2, x3) = J at *
          obtain ⟨jj1, jj2, jj3⟩ := J
          go_region_with (first
            | (go_at_call 46; refine (JO.out _).mono ?_; rintro e w3 ⟨rfl, h23⟩; have S4 := Lib.hid (SQ.out.step h23); clear h23)
            | (go_at_call 45; refine (TM2.out _).mono ?_; rintro e w4 ⟨y, rfl, hty, hey, h34⟩; have ADDN := Lib.hid (JN.out y hty hey); have S5 := Lib.hid (S4.out.step h34); have ty2 := hty.2.1; obtain ⟨y1, y2, y3⟩ := y; have ADD := Lib.hid ADDN.out.1; have NON := Lib.hid ADDN.out.2; dsimp only at ty2; clear hty hey h34 ADDN;
                have z0 := S5.out.e0; have z1 := S5.out.e1; have z2 := S5.out.e2; have zf0 := S5.out.ef 0; have zf1 := S5.out.ef 1; have zf2 := S5.out.ef 2))
          all_goals
            clear cy0 cy1 cy2 b0 b1 b2 z0 z1 z2 zf0 zf1 zf2
            obtain ⟨W6, hW6⟩ : ∃ W6, W6 = ((w4.setCell ⟨wo.heap.size, 0, none⟩ (.int .i64 (y1 : Int))).setCell ⟨wo.heap.size, 1, none⟩ (.int .i64 (y2 : Int))).setCell ⟨wo.heap.size, 2, none⟩ (.string y3) := ⟨_, rfl⟩
            have S6 := Lib.hid (S5.out.setE (toI (y1, y2, y3)))
            unfold toI at S6
            dsimp only at S6
            rw [← hW6] at S6
            have hW6' := hW6.symm
            clear hW6
            have hd2 : m < n := by omega
            have hwT : wo.heap.size ≤ W6.heap.size := by have := S6.out.el; omega
            have ef0 := S6.out.e0
            have ef1 := S6.out.e1
            have ef2 := S6.out.e2
            obtain ⟨r0, r1, r2⟩ := S6.out.row m hd2
            have h0 := S6.out.gf (m * 3)
            have h1 := S6.out.gf (m * 3 + 1)
            have h2 := S6.out.gf (m * 3 + 2)
            have gneo : wo.heap.size ≠ g := S6.out.ne
            have i1 : ((m : Nat) : Int) < (n : Int) := by omega
            have i2 : (0 : Int) ≤ (m : Int) := by omega
            have i3 : (m : Int) + 1 < (n : Int) := by omega
            have i6 : ((m : Int) + 1).toNat = m + 1 := by omega
            by_cases q1 : y1 = y2
            · subst q1
              by_cases q2 : 0 < y3.size
              · have u1 := txt_some q2
                go_wp2_with fail
                have hch : Changes (y1, y1, y3) := by unfold Changes; simp only; omega
                have hlen := HL0.out
                have PT := S6.out.put hB m hd2 (toI (y1, y1, y3))
                refine ⟨⟨k + 1, D0 ++ [(y1, y1, y3)], (fun j => if j = m then toI (y1, y1, y3) else f j), by omega, by go_num, by simp [hlen], ADD.out hch, PT.1, Nat.le_trans hwz (by simpa [World.setCell] using hwT), PT.2.2.1, PT.2.2.2, ?_⟩, by simp [intOf]; omega⟩
                constructor
                · intro j hj
                  simp only [List.length_append, List.length_cons, List.length_nil, hlen] at hj
                  by_cases hq : j = m
                  · subst hq
                    simp only [if_true]
                    have := getD_mid D0 [] (y1, y1, y3)
                    rw [hlen] at this
                    rw [this]
                  · simp only [if_neg hq]
                    rw [getD_left (by omega)]
                    exact HT0.out.1 j (by omega)
                · intro j h1 h2
                  simp only [if_neg (show ¬ j = m by omega)]
                  exact HT0.out.2 j (by omega) h2
              · have u1 := txt_none q2
                go_wp2_with fail
                have SD := S6.out
                have hlen := HL0.out
                refine ⟨⟨k + 1, D0, f, by omega, by go_num, by simp [hlen], NON.out (by unfold Changes; simp only; omega), SD.bel, Nat.le_trans hwz hwT, SD.gf, SD.row, ?_⟩, by simp [intOf]; omega⟩
                exact ⟨HT0.out.1, fun j h1 h2 => HT0.out.2 j (by omega) h2⟩
            · have u0 : ((y1 : Int) == (y2 : Int)) = false := by rw [Bool.eq_false_iff]; intro h; simp at h; omega
              go_wp2_with fail
              have hch : Changes (y1, y2, y3) := by unfold Changes; simp only; omega
              have hlen := HL0.out
              have PT := S6.out.put hB m hd2 (toI (y1, y2, y3))
              refine ⟨⟨k + 1, D0 ++ [(y1, y2, y3)], (fun j => if j = m then toI (y1, y2, y3) else f j), by omega, by go_num, by simp [hlen], ADD.out hch, PT.1, Nat.le_trans hwz (by simpa [World.setCell] using hwT), PT.2.2.1, PT.2.2.2, ?_⟩, by simp [intOf]; omega⟩
              constructor
              · intro j hj
                simp only [List.length_append, List.length_cons, List.length_nil, hlen] at hj
                by_cases hq : j = m
                · subst hq
                  simp only [if_true]
                  have := getD_mid D0 [] (y1, y2, y3)
                  rw [hlen] at this
                  rw [this]
                · simp only [if_neg hq]
                  rw [getD_left (by omega)]
                  exact HT0.out.1 j (by omega)
              · intro j h1 h2
                simp only [if_neg (show ¬ j = m by omega)]
                exact HT0.out.2 j (by omega) h2
        · have ADD : Hid (Changes (x1, x2, x3) → TidyInv s L (k + 1) (D ++ [(x1, x2, x3)])) := Lib.hid (fun hc => HTI.out.add HOK.out (by have := HL.out; omega) (by rw [HX0.out]; exact HTM.out) HED.out hc (.inr (by rw [HTO.out]; exact hjn)))
          have NON : Hid (¬ Changes (x1, x2, x3) → TidyInv s L (k + 1) D) := Lib.hid (fun hc => HTI.out.none HOK.out (by have := HL.out; omega) (by rw [HX0.out]; exact HTM.out) HED.out hc)
          have u5 : ((d2 : Int) == (x1 : Int)) = false := by rw [Bool.eq_false_iff]; intro h; simp at h; omega
          go_quiet (fail)
          clear u5 b0 b1 b2 y0 y1 y2
          have hd2 : (m + 1) < n := by omega
          have hwT : wo.heap.size ≤ WT.heap.size := by have := ST.out.el; omega
          have y0 := ST.out.e0
          have y1 := ST.out.e1
          have y2 := ST.out.e2
          obtain ⟨r0, r1, r2⟩ := ST.out.row (m + 1) hd2
          have h0 := ST.out.gf ((m + 1) * 3)
          have h1 := ST.out.gf ((m + 1) * 3 + 1)
          have h2 := ST.out.gf ((m + 1) * 3 + 2)
          have gneo : wo.heap.size ≠ g := ST.out.ne
          have i1 : (((m + 1) : Nat) : Int) < (n : Int) := by omega
          have i2 : (0 : Int) ≤ (m : Int) := by omega
          have i3 : (m : Int) + 1 < (n : Int) := by omega
          have i6 : ((m : Int) + 1).toNat = m + 1 := by omega
          by_cases q1 : x1 = x2
          · subst q1
            by_cases q2 : 0 < x3.size
            · have u1 := txt_some q2
              go_wp2_with fail
              have hch : Changes (x1, x1, x3) := by unfold Changes; simp only; omega
              have hlen := HLEN.out
              have PT := (ST.out.drewN nq).put hB (m + 1) hd2 (toI (x1, x1, x3))
              refine ⟨⟨k + 1, D ++ [(x1, x1, x3)], (fun j => if j = (m + 1) then toI (x1, x1, x3) else f j), by omega, by go_num, by simp [hlen], ADD.out hch, PT.1, Nat.le_trans hwz (by simpa [World.setCell] using hwT), PT.2.2.1, PT.2.2.2, ?_⟩, by simp [intOf]; omega⟩
              constructor
              · intro j hj
                simp only [List.length_append, List.length_cons, List.length_nil, hlen] at hj
                by_cases hq : j = (m + 1)
                · subst hq
                  simp only [if_true]
                  have := getD_mid D [] (x1, x1, x3)
                  rw [hlen] at this
                  rw [this]
                · simp only [if_neg hq]
                  rw [getD_left (by omega)]
                  exact HTR.out.1 j (by omega)
              · intro j h1 h2
                simp only [if_neg (show ¬ j = (m + 1) by omega)]
                exact HTR.out.2 j (by omega) h2
            · have u1 := txt_none q2
              go_wp2_with fail
              have SD := (ST.out.drewN nq)
              have hlen := HLEN.out
              refine ⟨⟨k + 1, D, f, by omega, by go_num, by simp [hlen], NON.out (by unfold Changes; simp only; omega), SD.bel, Nat.le_trans hwz hwT, SD.gf, SD.row, ?_⟩, by simp [intOf]; omega⟩
              exact ⟨HTR.out.1, fun j h1 h2 => HTR.out.2 j (by omega) h2⟩
          · have u0 : ((x1 : Int) == (x2 : Int)) = false := by rw [Bool.eq_false_iff]; intro h; simp at h; omega
            go_wp2_with fail
            have hch : Changes (x1, x2, x3) := by unfold Changes; simp only; omega
            have hlen := HLEN.out
            have PT := (ST.out.drewN nq).put hB (m + 1) hd2 (toI (x1, x2, x3))
            refine ⟨⟨k + 1, D ++ [(x1, x2, x3)], (fun j => if j = (m + 1) then toI (x1, x2, x3) else f j), by omega, by go_num, by simp [hlen], ADD.out hch, PT.1, Nat.le_trans hwz (by simpa [World.setCell] using hwT), PT.2.2.1, PT.2.2.2, ?_⟩, by simp [intOf]; omega⟩
            constructor
            · intro j hj
              simp only [List.length_append, List.length_cons, List.length_nil, hlen] at hj
              by_cases hq : j = (m + 1)
              · subst hq
                simp only [if_true]
                have := getD_mid D [] (x1, x2, x3)
                rw [hlen] at this
                rw [this]
              · simp only [if_neg hq]
                rw [getD_left (by omega)]
                exact HTR.out.1 j (by omega)
            · intro j h1 h2
              simp only [if_neg (show ¬ j = (m + 1) by omega)]
              exact HTR.out.2 j (by omega) h2
    · have hk' : k = n := by omega
      subst hk'
      have hdn : (D.length : Int) ≤ (k : Int) := by omega
      have hdn0 : (0 : Int) ≤ (D.length : Int) := by omega
      have hdc : (D.length : Int) ≤ (cap : Int) := by omega
      go_wp2_with fail
      go_ret
      have hDN := (show TidyInv s L L.length D by rw [HL.out]; exact HTI.out).done
      exact ⟨D, rfl, hbel, hgw, hrow_list hrow htr (by omega), hDN⟩

end Go.Proofs.Ytdhbcmbajbgblaa
