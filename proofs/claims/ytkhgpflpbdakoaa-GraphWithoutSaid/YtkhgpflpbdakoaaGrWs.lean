/- Contract of a graph's Shut. -/
import Derived.Test.YtkhgpflpbdakoaaGrW
import Derived.Test.YtkhgpflpbdakoaaGrD
namespace Go.Proofs.Ytkhgpflpbdakoaa
open Go Go.RowKit
set_option linter.unusedVariables false
set_option linter.unusedSimpArgs false

/-- a list of numbers, as it reads -/
def InV (w : World) (v : Value) (l : List Int) : Prop := ∃ src cap, v = .slice src l.length cap ∧ ∀ j (hj : j < l.length), ∃ g off, src = some ⟨g, off, none⟩ ∧ g < w.heap.size ∧ w.cell? ⟨g, off + j, none⟩ = some (.int .i64 l[j])
theorem InV.step {w w' : World} {v : Value} {l : List Int} (h : InV w v l) (hb : Below w.heap.size w w') : InV w' v l := by
  obtain ⟨src, cap, hv, hx⟩ := h
  refine ⟨src, cap, hv, fun j hj => ?_⟩
  obtain ⟨g, off, h1, h2, h3⟩ := hx j hj
  exact ⟨g, off, h1, Nat.lt_of_lt_of_le h2 hb.size, keep hb h2 h3⟩
/-- is a node among those that are shut? -/
def shutF (l : List Int) (z : Nat) : Bool := l.any fun y => y == (z : Int)
/-- .. and an edge to one isn't open -/
def opShut (L : List Eg) (l : List Int) : Nat → Bool := fun i => !shutF l (eto L i).toNat
/-- the edges that lead to one -/
def cutsP (l : List Int) (F : Nat → Bool) (e : Eg) : Bool := shutF l e.2.1.toNat && comesP F e

set_option maxRecDepth 100000 in
set_option maxHeartbeats 2000000 in
theorem shut1_any {w : World} {B n : Nat} {L : List Eg} {S : GrS} (h : GrM w B n L S) (hok : ∀ e ∈ L, okE' n e) (i : Nat) (hi : i < L.length) (l : List Int) {t6 t2 sb : Nat}
    (h6 : w.cell? ⟨t6, 0, none⟩ = some (.slice (some ⟨sb, 0, none⟩) n n)) (h2 : w.cell? ⟨t2, 0, none⟩ = some (.pointer (some ⟨S.g, 0, none⟩))) (hs : Bx 4 w sb (rowB n (shutF l))) :
    Calls Try.prog 33 #[.int .i64 (i : Int), .pointer (some ⟨t6, 0, none⟩), .pointer (some ⟨t2, 0, none⟩)] w fun e w' => e = .returned (.bool (opShut L l i)) ∧ Below w.heap.size w w' := by
  obtain ⟨c0, c1, c2, c3, cl, cf⟩ := h.cells
  obtain ⟨es, ec, hes, hec⟩ := h.ev_cells
  obtain ⟨ge, rfl, hge, e0, e1, e2, e3⟩ := hec i hi
  rw [hes] at c1
  have hto := (hok _ (List.getElem_mem hi)).2
  have hop : opShut L l i = !shutF l L[i].2.1.toNat := by unfold opShut; rw [eto_eq hi]
  rw [hop]
  have s0 := hs.cell L[i].2.1.toNat
  rw [rowB_at _ (by omega)] at s0
  obtain ⟨t0, t1⟩ := hto
  have i1 : (0 : Int) ≤ (i : Int) := by omega
  have i2 : (i : Int) < (L.length : Int) := by omega
  obtain ⟨nl, hnl⟩ : ∃ nl, nl = L.length := ⟨_, rfl⟩
  rw [← hnl] at c1 i2
  generalize L[i] = ed at *
  generalize shutF l ed.2.1.toNat = q at *
  clear h hes hec hs hop hnl hok
  go_enter Try.func33, Try.ntmps33
  go_wp2_with fail
  go_quiet (fail)
  go_wp2_with fail
  go_ret
  exact ⟨by first | rfl | simp, by first | exact Below.refl _ _ | exact below_drew (Below.refl _ _) | exact below_drewN (Below.refl _ _) _⟩

/-- what Shut has in memory -/
structure ShM (w0 w : World) (g n t2 sb t6 : Nat) (F : Nat → Bool) : Prop where
  bel : Below w0.heap.size w0 w
  n1 : w0.heap.size ≤ t2
  n2 : w0.heap.size ≤ sb
  n3 : w0.heap.size ≤ t6
  b1 : Bx 24 w t2 [.pointer (some ⟨g, 0, none⟩)]
  b2 : Bx 4 w sb (rowB n F)
  b3 : Bx 34 w t6 [.slice (some ⟨sb, 0, none⟩) n n]
theorem ShM.step {w0 w w' : World} {g n t2 sb t6 : Nat} {F : Nat → Bool} (h : ShM w0 w g n t2 sb t6 F) (hb : Below w.heap.size w w') : ShM w0 w' g n t2 sb t6 F :=
  ⟨after h.bel hb, h.n1, h.n2, h.n3, h.b1.keep hb, h.b2.keep hb, h.b3.keep hb⟩
theorem ShM.to {w0 w : World} {g n t2 sb t6 : Nat} {F H : Nat → Bool} (h : ShM w0 w g n t2 sb t6 F) (hF : ∀ z, z < n → F z = H z) : ShM w0 w g n t2 sb t6 H :=
  ⟨h.bel, h.n1, h.n2, h.n3, h.b1, by rw [← rowB_congr hF]; exact h.b2, h.b3⟩
theorem ShM.put {w0 w : World} {g n t2 sb t6 : Nat} {F : Nat → Bool} (h : ShM w0 w g n t2 sb t6 F) {z : Nat} (hz : z < n) : ShM w0 (w.setCell ⟨sb, z, none⟩ (.bool true)) g n t2 sb t6 (up F z true) := by
  have h1 : t2 ≠ sb := Bx.ne h.b1 h.b2 (by decide)
  have h3 : t6 ≠ sb := Bx.ne h.b3 h.b2 (by decide)
  refine ⟨h.bel.setCell (p := ⟨sb, z, none⟩) h.n2 _, h.n1, h.n2, h.n3, h.b1.other h1 z _, ?_, h.b3.other h3 z _⟩
  have := h.b2.set z (.bool true)
  rwa [rowB_set _ hz] at this
theorem shutF_take {l : List Int} {j : Nat} (hj : j < l.length) (z : Nat) : shutF (l.take (j + 1)) z = (shutF (l.take j) z || l[j] == (z : Int)) := by
  unfold shutF
  rw [List.take_succ_eq_append_getElem hj, List.any_append]
  simp
/-- Shut's answer -/
def ShutPost (w : World) (L : List Eg) (n : Nat) (l : List Int) (e : Ending) (w' : World) : Prop :=
  ∃ v1 v2 s, e = .returned (.tuple #[v1, v2]) ∧ NewB w w' n (fun z => s.far z != -1) v1 ∧ Found L (opShut L l) n s ∧ EgV w' v2 (L.filter (cutsP l (fun z => s.far z != -1))) ∧ Below w.heap.size w w'
set_option maxRecDepth 100000 in
set_option maxHeartbeats 4000000 in
theorem shut_any {w : World} {B n : Nat} {L : List Eg} {S : GrS} (h : GrM w B n L S) (hn : n ≤ 8192) (hL : L.length ≤ 16384) (hok : ∀ e ∈ L, okE' n e) {v : Value} {l : List Int} (hv : InV w v l) (hl : l.length ≤ 100000) :
    Calls Try.prog 21 #[(.pointer (some ⟨S.g, 0, none⟩)), v] w (ShutPost w L n l) := by
  have hmk := make_bools n (by omega)
  obtain ⟨vs, vc, rfl, hvx⟩ := hv
  have HVX := Lib.hid hvx
  have G := Lib.hid h
  have HN := Lib.hid hn
  have HL := Lib.hid hL
  have HOK := Lib.hid hok
  have HLL := Lib.hid hl
  obtain ⟨nl, hnl⟩ : ∃ nl, nl = l.length := ⟨_, rfl⟩
  rw [← hnl]
  have HNL := Lib.hid hnl
  have A1 : Hid (Below w.heap.size w (w.alloc (.cells #[(.pointer (some ⟨S.g, 0, none⟩))] 24))) := Lib.hid (by repeat (first | exact Below.refl _ _ | apply Below.setCell _ (by first | omega | (simp <;> omega)) | apply Below.alloc _ (by first | omega | (simp <;> omega))))
  obtain ⟨c0, c1, c2, c3, cl, cf⟩ := (h.step A1.out).cells
  clear h hn hL hok hl hvx hnl
  go_enter Try.func21, Try.ntmps21
  go_wp2_with fail
  have M0 : Hid (ShM w (((w.alloc (.cells #[(.pointer (some ⟨S.g, 0, none⟩))] 24)).alloc (.cells (rowB n fun x => false).toArray 4)).alloc (.cells #[.slice (some ⟨w.heap.size + 1, 0, none⟩) n n] 34)) S.g n w.heap.size (w.heap.size + 1) (w.heap.size + 1 + 1) (fun _ => false)) := Lib.hid (by
    have e1 := (Bx.new 24 w #[(.pointer (some ⟨S.g, 0, none⟩))])
    have e2 := (Bx.new 4 (w.alloc (.cells #[(.pointer (some ⟨S.g, 0, none⟩))] 24)) (rowB n fun x => false).toArray)
    have e3 := (Bx.new 34 ((w.alloc (.cells #[(.pointer (some ⟨S.g, 0, none⟩))] 24)).alloc (.cells (rowB n fun x => false).toArray 4)) #[.slice (some ⟨w.heap.size + 1, 0, none⟩) n n])
    refine ⟨by repeat (first | exact Below.refl _ _ | apply Below.setCell _ (by first | omega | (simp <;> omega)) | apply Below.alloc _ (by first | omega | (simp <;> omega))), Nat.le_refl _, by omega, by omega, (e1.alloc _).alloc _, by simpa using e2.alloc _, by simpa using e3⟩)
  generalize (((w.alloc (.cells #[(.pointer (some ⟨S.g, 0, none⟩))] 24)).alloc (.cells (rowB n fun x => false).toArray 4)).alloc (.cells #[.slice (some ⟨w.heap.size + 1, 0, none⟩) n n] 34)) = W1 at *
  obtain ⟨t2, ht2⟩ : ∃ t2, t2 = w.heap.size := ⟨_, rfl⟩
  obtain ⟨sb, hsb⟩ : ∃ sb, sb = w.heap.size + 1 := ⟨_, rfl⟩
  obtain ⟨t6, ht6⟩ : ∃ t6, t6 = w.heap.size + 1 + 1 := ⟨_, rfl⟩
  have M1 : Hid (ShM w W1 S.g n t2 sb t6 (fun _ => false)) := Lib.hid (by rw [ht2, hsb, ht6]; exact M0.out)
  rw [← ht6, ← hsb, ← ht2]
  clear M0 ht2 hsb ht6 c0 c1 c2 c3 cl cf A1 hmk
  go_loopg [20] nl (fun gk iv wr => ∃ j : Nat, iv = .int .i64 (j : Int) ∧ j + gk = nl ∧ ShM w wr S.g n t2 sb t6 (shutF (l.take j)))
  case atStart => exact ⟨0, rfl, by omega, M1.out.to (fun z _ => rfl)⟩
  case round =>
    clear M1
    obtain ⟨j, rfl, hjk, hm⟩ := hrel
    have MR := Lib.hid hm
    clear hm
    cases gk with
    | zero =>
      have d1 : decide ((j : Int) < (nl : Int)) = false := decide_eq_false (by omega)
      have d2 : ¬ (j : Int) < (nl : Int) := by omega
      have d3 : decide (j < nl) = false := decide_eq_false (by omega)
      have d4 : ¬ j < nl := by omega
      have M2 : Hid (ShM w wr S.g n t2 sb t6 (shutF l)) := Lib.hid (by
        have := MR.out
        rwa [show j = l.length by rw [← HNL.out]; omega, List.take_length] at this)
      clear MR
      have b1 := M2.out.b1.cell 0
      have bl := M2.out.b1.lt
      simp at b1
      have HS := Lib.hid (spread_any (G.out.step M2.out.bel) HN.out HL.out HOK.out (opShut L l) 33 #[.pointer (some ⟨t6, 0, none⟩), .pointer (some ⟨t2, 0, none⟩)] (fun args w => by kernel_rfl) (fun w' hw i hi => by
        have m := M2.out.step hw
        have := shut1_any (G.out.step m.bel) HOK.out i hi l (m.b3.cell 0) (m.b1.cell 0) m.b2
        simpa using this))
      clear d1 d2 d3 d4
      go_wp2_with fail
      refine HS.out.mono ?_
      rintro e w3 ⟨fb, bb, s, rfl, h1, hf, hb, hi, hl, hbd, -, -⟩
      have M3 := Lib.hid (M2.out.step h1)
      have HF := Lib.hid (nodes_any (bb := bb) hf HN.out)
      have FO := Lib.hid (show Found L (opShut L l) n s from ⟨hi, hl, hbd⟩)
      clear h1 hf hb hi hl hbd HS M2 b1 bl
      go_wp2_with fail
      refine HF.out.mono ?_
      rintro e w4 ⟨v4, rfl, hv4, h4⟩
      have M4 := Lib.hid (M3.out.step h4)
      have NB := Lib.hid hv4
      have NW : Hid (w.heap.size ≤ w3.heap.size) := Lib.hid M3.out.bel.size
      have BV := Lib.hid hv4.bl
      clear hv4 h4 M3 HF
      obtain ⟨es, ec, hes, hec⟩ := (G.out.step M4.out.bel).ev_cells
      obtain ⟨c0, c1, c2, c3, cl, cf⟩ := (G.out.step M4.out.bel).cells
      rw [hes] at c1
      have HEC := Lib.hid hec
      have HES := Lib.hid hes
      clear hes hec
      have b1 := M4.out.b1.cell 0
      have bl := M4.out.b1.lt
      simp at b1
      obtain ⟨nL, hnL⟩ : ∃ nL, nL = L.length := ⟨_, rfl⟩
      rw [← hnL] at c1
      have HNE := Lib.hid hnL
      clear hnL
      go_wp2_with fail
      clear c0 c1 c2 c3 cl cf b1 bl
      obtain ⟨i0, hi0, hz0, hs0, hb0⟩ := info_parts infoE'
      go_loopg [10, 40] nL (fun gk lv iv wx => ∃ j : Nat, iv = .int .i64 (j : Int) ∧ j + gk = nL ∧ Below w4.heap.size w4 wx ∧ wx.ownsRow w4.heap.size 29 4 lv ((L.take j).filter (cutsP l (fun z => s.far z != -1))).length (flatG ((L.take j).filter (cutsP l (fun z => s.far z != -1)))))
      case atStart => exact ⟨0, rfl, by omega, Below.refl _ _, World.ownsRow_nil _ _ _ _⟩
      case round =>
        obtain ⟨i, rfl, hik, hbel, hown⟩ := hrel
        rename World => wx
        have BL := Lib.hid hbel
        have HO := Lib.hid hown
        clear hbel hown
        cases gk with
        | zero =>
          have d1 : decide ((i : Int) < (nL : Int)) = false := decide_eq_false (by omega)
          have d2 : ¬ (i : Int) < (nL : Int) := by omega
          have d3 : decide (i < nL) = false := decide_eq_false (by omega)
          have d4 : ¬ i < nL := by omega
          go_wp2_with fail
          go_ret2
          obtain ⟨b, hb, hb2, hb3⟩ := NB.out
          refine ⟨v4, u10, s, rfl, ⟨b, hb, Nat.le_trans NW.out hb2, hb3.keep BL.out⟩, FO.out, ?_, after M4.out.bel BL.out⟩
          have := HO.out
          rw [show i = L.length by rw [← HNE.out]; omega, List.take_length] at this
          exact EgV.of_row this
        | succ gk =>
          have hil : i < L.length := by rw [← HNE.out]; omega
          obtain ⟨ge, rfl, hge, e0, e1, e2, e3⟩ := HEC.out i hil
          have e0 := keep BL.out hge e0
          have e1 := keep BL.out hge e1
          have e2 := keep BL.out hge e2
          have e3 := keep BL.out hge e3
          have hge := Nat.lt_of_lt_of_le hge BL.out.size
          have hmem := List.getElem_mem hil
          have hto := (HOK.out _ hmem).2
          have HT : Hid ((L.take (i + 1)).filter (cutsP l (fun z => s.far z != -1)) = (L.take i).filter (cutsP l (fun z => s.far z != -1)) ++ (if cutsP l (fun z => s.far z != -1) L[i] then [L[i]] else [])) := Lib.hid (by
            rw [List.take_succ_eq_append_getElem hil, List.filter_append, List.filter_cons, List.filter_nil])
          have HC := Lib.hid (fun w' (hb : Below wx.heap.size wx w') => comes_any (BV.out.step (after BL.out hb)) L[i] (HOK.out _ hmem))
          have HSL : Hid ((L.take i).length ≤ 16384) := Lib.hid (by rw [List.length_take]; have := HL.out; omega)
          generalize L[i] = ed at *
          have i1 : (i : Int) < (nL : Int) := by omega
          have i2 : i < nL := by omega
          have hw1 : IntKind.i64.wrap ((i : Int) + 1) = (i : Int) + 1 := IntWalk.i64_in _ ⟨by omega, by have := HNE.out; have := HL.out; omega⟩
          obtain ⟨t0, t1⟩ := hto
          have MX := M4.out.step BL.out
          have s0 := MX.b3.cell 0
          have sl := MX.b3.lt
          have r0 := MX.b2.cell ed.2.1.toNat
          rw [rowB_at _ (by omega)] at r0
          have rl := MX.b2.lt
          simp at s0
          clear hmem MX
          cases hsh : shutF l ed.2.1.toNat with
          | false =>
            have HT2 : Hid ((L.take (i + 1)).filter (cutsP l (fun z => s.far z != -1)) = (L.take i).filter (cutsP l (fun z => s.far z != -1))) := Lib.hid (by
              rw [HT.out]
              have : cutsP l (fun z => s.far z != -1) ed = false := by unfold cutsP; rw [hsh]; rfl
              rw [this]; simp)
            rw [hsh] at r0
            clear hsh
            go_wp2_with fail
            go_roundg gk
            case measure => omega
            case rel =>
              refine ⟨i + 1, by push_cast; rfl, by omega, BL.out.alloc BL.out.size _, ?_⟩
              rw [HT2.out]
              exact HO.out.alloc _
          | true =>
            have HSH := Lib.hid hsh
            rw [hsh] at r0
            clear hsh
            go_wp2_with fail
            refine (HC.out _ (by repeat (first | exact Below.refl _ _ | apply Below.setCell _ (by first | omega | (simp <;> omega)) | apply Below.alloc _ (by first | omega | (simp <;> omega))))).mono ?_
            rintro x w6 ⟨rfl, h6⟩
            have b6 : Below wx.heap.size wx w6 := after (by repeat (first | exact Below.refl _ _ | apply Below.setCell _ (by first | omega | (simp <;> omega)) | apply Below.alloc _ (by first | omega | (simp <;> omega)))) h6
            have x6 : Bx 29 w6 wx.heap.size (egC ed) := (Bx.new 29 wx (egC ed).toArray).keep h6
            have B6 := Lib.hid b6
            have HO6 := Lib.hid (ownsRow_step HO.out b6)
            obtain ⟨y0, y1, y2, y3, yl, yf⟩ := x6.four
            clear h6 b6 x6 s0 sl r0 rl e0 e1 e2 e3
            cases hcm : comesP (fun z => s.far z != -1) ed with
            | false =>
              have HT2 : Hid ((L.take (i + 1)).filter (cutsP l (fun z => s.far z != -1)) = (L.take i).filter (cutsP l (fun z => s.far z != -1))) := Lib.hid (by
                rw [HT.out]
                have : cutsP l (fun z => s.far z != -1) ed = false := by unfold cutsP; rw [hcm, HSH.out]; rfl
                rw [this]; simp)
              clear hcm
              go_wp2_with fail
              go_roundg gk
              case measure => omega
              case rel =>
                refine ⟨i + 1, by push_cast; rfl, by omega, after BL.out B6.out, ?_⟩
                rw [HT2.out]
                exact HO6.out
            | true =>
              have HT2 : Hid ((L.take (i + 1)).filter (cutsP l (fun z => s.far z != -1)) = (L.take i).filter (cutsP l (fun z => s.far z != -1)) ++ [ed]) := Lib.hid (by
                rw [HT.out]
                have : cutsP l (fun z => s.far z != -1) ed = true := by unfold cutsP; rw [hcm, HSH.out]; rfl
                rw [this]; simp)
              have HLE : Hid (((L.take i).filter (cutsP l (fun z => s.far z != -1))).length ≤ 16384) := Lib.hid (Nat.le_trans (List.length_filter_le _ _) HSL.out)
              clear hcm HT
              generalize (L.take i).filter (cutsP l (fun z => s.far z != -1)) = A at *
              have B7 : Hid (Below w6.heap.size w6 (w6.alloc (.cells (egC ed).toArray 29))) := Lib.hid (by repeat (first | exact Below.refl _ _ | apply Below.setCell _ (by first | omega | (simp <;> omega)) | apply Below.alloc _ (by first | omega | (simp <;> omega))))
              have HO7 := Lib.hid (ownsRow_step HO6.out B7.out)
              have NEWS : Hid (∀ j u, (egC ed)[j]? = some u → (w6.alloc (.cells (egC ed).toArray 29)).cell? ((⟨w6.heap.size, 0, none⟩ : Addr).add j) = some u) := Lib.hid (by
                intro j u hj
                rw [add_at, Nat.zero_add]
                exact ((Bx.new 29 w6 (egC ed).toArray).cell j).trans hj)
              have ONE : Hid (∀ u ∈ egC ed, u.oneCell' = true) := Lib.hid (by
                intro u hu
                unfold egC at hu
                simp only [List.mem_cons, List.not_mem_nil, or_false] at hu
                rcases hu with rfl | rfl | rfl | rfl <;> rfl)
              have N1 : Hid (A.length + 1 ≤ maxLen) := Lib.hid (by have := HLE.out; unfold maxLen; omega)
              have N2 : Hid ((A.length + 1) * 32 ≤ 140737488355328) := Lib.hid (by have := HLE.out; omega)
              have N3 : Hid (w4.heap.size ≤ (w6.alloc (.cells (egC ed).toArray 29)).heap.size) := Lib.hid (Nat.le_trans BL.out.size (Nat.le_trans B6.out.size B7.out.size))
              go_wp2_with (at_builtin; refine wpList_append_own_at _ (by rfl) (.tmp 54) (.tmp 56) 22 (by rfl) w4.heap.size 29 i0 (.agg #[.int .i64 0, .int .i64 0, .int .i64 0, .int .i64 0]) 4 32 Try.underlying22 hi0 hz0 hs0 hb0 rfl (by decide) u10 A.length (flatG A) (by rfl) HO7.out ⟨w6.heap.size, 0, none⟩ 1 1 (egC ed) (by rfl) rfl NEWS.out ONE.out N1.out N2.out N3.out ?_; intro v9 w9 hown9 hgr9 hnil9 hat9)
              go_roundg gk
              case measure => omega
              case rel =>
                refine ⟨i + 1, by push_cast; rfl, by omega, ?_, ?_⟩
                · have h1 := after BL.out (after B6.out B7.out)
                  exact ⟨hgr9.os.trans h1.os, hgr9.tape.trans h1.tape, hgr9.output.trans h1.output, Nat.le_trans h1.size hgr9.size, fun k hk => (hgr9.block k (Nat.lt_of_lt_of_le hk h1.size) (fun q => by have := row_base HO.out q.symm; omega)).trans (h1.block k hk)⟩
                · rw [HT2.out, List.length_append]
                  have : flatG (A ++ [ed]) = flatG A ++ egC ed := by unfold flatG; rw [List.flatMap_append]; simp
                  rw [this]
                  exact hown9
    | succ gk =>
      have hjl : j < l.length := by rw [← HNL.out]; omega
      obtain ⟨gv, off, rfl, hgv, cv⟩ := HVX.out j hjl
      have cv := keep MR.out.bel hgv cv
      have hgv := Nat.lt_of_lt_of_le hgv MR.out.bel.size
      have HT := Lib.hid (shutF_take hjl)
      generalize l[j] = y at *
      have i1 : (j : Int) < (nl : Int) := by omega
      have i2 : j < nl := by omega
      have hw1 : IntKind.i64.wrap ((j : Int) + 1) = (j : Int) + 1 := IntWalk.i64_in _ ⟨by omega, by have := HNL.out; have := HLL.out; omega⟩
      have b1 := MR.out.b1.cell 0
      have bl := MR.out.b1.lt
      simp at b1
      by_cases hy : 0 ≤ y ∧ y < n
      · have HC := Lib.hid (has_yes (G.out.step MR.out.bel) hy)
        obtain ⟨y0, y1⟩ := hy
        have yl : y.toNat < n := by omega
        have s0 := MR.out.b3.cell 0
        have sl := MR.out.b3.lt
        have r0 := MR.out.b2.cell y.toNat
        rw [rowB_at _ yl] at r0
        have rf := MR.out.b2.frozen y.toNat
        have rl := MR.out.b2.lt
        simp at s0
        have M2 : Hid (ShM w (wr.setCell ⟨sb, y.toNat, none⟩ (.bool true)) S.g n t2 sb t6 (shutF (l.take (j + 1)))) := Lib.hid ((MR.out.put yl).to (fun z hz => by
          rw [HT.out]
          unfold up
          by_cases q : z = y.toNat
          · rw [if_pos q]
            have : (y == (z : Int)) = true := by simp; omega
            rw [this]; simp
          · rw [if_neg q]
            have : (y == (z : Int)) = false := by simp; omega
            rw [this]; simp))
        clear MR
        go_wp2_with fail
        refine HC.out.mono ?_
        rintro x W2' ⟨rfl, hw⟩
        replace hw := hw.symm
        subst hw
        go_wp2_with fail
        go_roundg gk
        case measure => omega
        case rel => exact ⟨j + 1, by push_cast; rfl, by omega, M2.out⟩
      · have HC := Lib.hid (has_no (G.out.step MR.out.bel) hy)
        have M2 : Hid (ShM w wr S.g n t2 sb t6 (shutF (l.take (j + 1)))) := Lib.hid (MR.out.to (fun z hz => by
          rw [HT.out]
          have : (y == (z : Int)) = false := by simp; omega
          rw [this]; simp))
        clear MR hy
        go_wp2_with fail
        refine HC.out.mono ?_
        rintro x W2' ⟨rfl, hw⟩
        replace hw := hw.symm
        subst hw
        go_wp2_with fail
        go_roundg gk
        case measure => omega
        case rel => exact ⟨j + 1, by push_cast; rfl, by omega, M2.out⟩
end Go.Proofs.Ytkhgpflpbdakoaa
