/- Contract of diff's alike: the stretches along the way that was found. -/
import Derived.Test.YtdhbcmbajbgblaaRevA
import Derived.Outline
namespace Go.Proofs.Ytdhbcmbajbgblaa
open Go Go.RowKit
set_option linter.unusedVariables false

theorem infoTri : (Try.prog.info? 84).map (fun i => (i.zero, i.size, i.bytes)) = some (some (.agg #[.int .i64 0, .int .i64 0, .int .i64 0]), 3, 24) := by kernel_rfl
/-- the rows in memory -/
def RowsAt (w : World) (a b : ByteArray) (gv k : Nat) (g : Nat → Nat) : Prop := gv < w.heap.size ∧ (∀ j, j < k → w.cell? ⟨gv, j, none⟩ = some (RowV g j)) ∧ ∀ j, j < k → g j < w.heap.size ∧ NumsAt w (g j) (j + 1) (rowF a b j)
theorem RowsAt.step {w w2 : World} {a b : ByteArray} {gv k : Nat} {g : Nat → Nat} (h : RowsAt w a b gv k g) (hb : Below w.heap.size w w2) : RowsAt w2 a b gv k g := by
  obtain ⟨h1, h2, h3⟩ := h
  have hs := hb.size
  exact ⟨by omega, fun j hj => keep hb h1 (h2 j hj), fun j hj => ⟨by have := (h3 j hj).1; omega, (h3 j hj).2.step hb (h3 j hj).1⟩⟩
theorem SInv.rows {w wr : World} {a b : ByteArray} {k gv cap : Nat} {g : Nat → Nat} (h : SInv w a b k g (.slice (some ⟨gv, 0, none⟩) k cap) wr) : RowsAt wr a b gv k g := by
  obtain ⟨h1, h2, h3, h4⟩ := h
  refine ⟨(h2.lt gv rfl).2, fun j hj => ?_, h3⟩
  have := h2.cells (g := gv) rfl j _ (RowsV_at g k j hj)
  rwa [show (⟨gv, 0, none⟩ : Addr).add j = ⟨gv, j, none⟩ by unfold Addr.add; by_cases h : j = 0 <;> simp [h]] at this

/-- the stretches found so far, the last ones first -/
def TInv (w : World) (G : List Run) (v : Value) (wr : World) : Prop := Below w.heap.size w wr ∧ wr.ownsRow w.heap.size 84 3 v G.length (flatT G) ∧ (G.length = 0 → v = .slice none 0 0)
theorem TInv.step {w wr w2 : World} {G : List Run} {v : Value} (h : TInv w G v wr) (hb : Below wr.heap.size wr w2) : TInv w G v w2 :=
  ⟨after h.1 hb, h.2.1.kept (grown_below (B := 0) hb) (by cases v.ownBlock <;> simp), h.2.2⟩

/-- the way back -/
theorem alikeF_step (a b : ByteArray) (m i : Nat) (h : i ≤ m) : alikeF a b m i = (if m = 0 then [] else alikeF a b (m - 1) (stepN a b m i).2) ++
    (if (stepN a b m i).1 < rowF a b m i then [((stepN a b m i).1, (stepN a b m i).1 + m - 2 * i, rowF a b m i - (stepN a b m i).1)] else []) := by
  cases m with
  | zero =>
    have hi : i = 0 := by omega
    subst hi
    rfl
  | succ m => rfl
theorem stepN_from (a b : ByteArray) (m i : Nat) (h : i ≤ m) : (stepN a b m i).2 ≤ m - 1 := by
  unfold stepN
  by_cases h0 : m = 0
  · rw [if_pos h0]; simp
  · rw [if_neg h0]
    unfold stepF
    rw [if_neg h0]
    by_cases hq : i = 0 ∨ (i < m ∧ rowF a b (m - 1) (i - 1) < rowF a b (m - 1) i)
    · rw [if_pos hq]; simp only; omega
    · rw [if_neg hq]; simp only; omega
theorem alikeF_len (a b : ByteArray) : ∀ n i, (alikeF a b n i).length ≤ n + 1
  | 0, i => by unfold alikeF; split <;> simp
  | n + 1, i => by
    have := alikeF_len a b n (stepF (rowF a b n) (n + 1) i).2
    unfold alikeF
    rw [List.length_append]
    split <;> simp <;> omega

set_option maxRecDepth 100000 in
set_option maxHeartbeats 4000000 in
theorem alike_any (a b : ByteArray) (gv N I cap : Nat) (g : Nat → Nat) (w : World) (ha : a.size ≤ 20000) (hb : b.size ≤ 20000) (hN : N ≤ 512) (hc : N + 1 ≤ cap) (hr : RowsAt w a b gv (N + 1) g) (hend : ∃ i, EndAt a b N i) :
    Calls Try.prog 21 #[.string a, .string b, .slice (some ⟨gv, 0, none⟩) (N + 1) cap] w fun e w' => ∃ v i, e = .returned v ∧ Below w.heap.size w w' ∧ EndAt a b N i ∧ w'.ownsRow w.heap.size 84 3 v (alikeF a b N i).length (flatT (alikeF a b N i)) := by
  obtain ⟨i0, hi, hz0, hz1, hz2⟩ := info_parts infoTri
  have HR := Lib.hid hr
  obtain ⟨r1, r2, r3⟩ := hr
  have cN := r2 N (by omega)
  obtain ⟨q1, q2⟩ := r3 N (by omega)
  have e1 : ((N + 1 : Nat) : Int) = (N : Int) + 1 := by omega
  have w1 : IntKind.i64.wrap ((N : Int) + 1 - 1) = (N : Int) := by rw [show (N : Int) + 1 - 1 = (N : Int) by omega]; exact IntWalk.i64_in _ ⟨by omega, by omega⟩
  have iN : (N : Int) < (N : Int) + 1 := by omega
  unfold RowV at cN
  clear r2 r3
  have HE := Lib.hid hend
  have HQ := Lib.hid q2
  clear hend q2
  go_enter Try.func21, Try.ntmps21
  go_wp2_with fail
  refine (atEnd_any a b (rowF a b N) (g N) N (N + 1) _ q1 HQ.out (by omega) (Nat.le_refl _) (fun j => by have := rowF_le a b N j; omega) (by omega) (by omega)).mono ?_
  rintro e w2 ⟨⟨I, f, rfl, hf1, hf2⟩, h12⟩
  have hft : f = true := by
    cases f
    · exfalso
      obtain ⟨i, h1, h2⟩ := HE.out
      exact (hf2 rfl).2 i h1 h2
    · rfl
  subst hft
  have HI : Hid (EndAt a b N I) := Lib.hid ⟨(hf1 rfl).1, (hf1 rfl).2⟩
  have hIN : I ≤ N := (hf1 rfl).1
  have H12 := Lib.hid h12
  clear hf1 hf2 h12 cN w1 iN
  go_wp2_with fail
  go_loopw [7, 8, 9] (fun u n j wr => ∃ (k i : Nat) (G : List Run) (v : Value), k ≤ N + 1 ∧ n = .int .i64 ((k : Int) - 1) ∧ j = .int .i64 (i : Nat) ∧ (0 < k → i ≤ k - 1) ∧ u = v ∧ TInv w G v wr ∧ alikeF a b N I = (if k = 0 then [] else alikeF a b (k - 1) i) ++ G.reverse ∧ G.length + k ≤ N + 1) (fun _ n _ _ => (intOf n + 1).toNat)
  case atStart =>
    refine ⟨N + 1, I, [], _, Nat.le_refl _, vl_int (by omega), rfl, fun _ => by omega, rfl, ⟨H12.out, World.ownsRow_nil _ _ _ _, fun _ => rfl⟩, ?_, by simp⟩
    rw [if_neg (by omega)]; simp
  case round =>
    obtain ⟨k, i, G, v, hk, rfl, rfl, hik, rfl, hinv, heq, hlen⟩ := hrel
    have HV := Lib.hid hinv
    have HEQ := Lib.hid heq
    clear heq hinv
    cases k with
    | zero =>
      have hq : ((0 : Nat) : Int) - 1 = -1 := rfl
      rw [hq]
      go_wp2_with fail
      refine (rev_own w.heap.size u7 G _ (by omega) HV.out.2.1 HV.out.2.2).mono ?_
      rintro e w3 ⟨rfl, hg, hown⟩
      have hal : alikeF a b N I = G.reverse := by have := HEQ.out; rwa [if_pos trivial, List.nil_append] at this
      have HB := Lib.hid (Below.grown HV.out.1 hg HV.out.1.size (fun j hj => (HV.out.2.1.lt j hj).1))
      have HO : Hid (w3.ownsRow w.heap.size 84 3 u7 (alikeF a b N I).length (flatT (alikeF a b N I))) := Lib.hid (by rw [hal, List.length_reverse]; exact hown)
      clear hg hown hal
      go_wp2_with fail
      go_ret
      exact ⟨_, I, rfl, HB.out, HI.out, HO.out⟩
    | succ m =>
      have hq : ((m + 1 : Nat) : Int) - 1 = (m : Int) := by omega
      rw [hq]
      have him : i ≤ m := hik (by omega)
      have hst := alikeF_step a b m i him
      have hfr := stepN_from a b m i him
      have hsd := stepN_side a b m i him
      have hle := stepN_le a b m i
      have hrl := rowF_le a b m i
      have HROW := Lib.hid (HR.out.step HV.out.1)
      obtain ⟨r1, r2, r3⟩ := HR.out.step HV.out.1
      have cm := r2 m (by omega)
      obtain ⟨p1, p2⟩ := r3 m (by omega)
      have ci := p2 i (by omega)
      have HST := Lib.hid hst
      unfold RowV at cm
      have i1 : (m : Int) < (N : Int) + 1 := by omega
      have i2 : (i : Int) < (m : Int) + 1 := by omega
      by_cases h0 : m = 0
      · subst h0
        have HSN := Lib.hid (step_nil a b wr)
        clear r2 r3 p2 hst
        go_wp2_with fail
        refine (HSN.out _ i (Below.refl _ _) him).mono ?_
        rintro e w3 ⟨rfl, h23⟩
        obtain ⟨r1', r2', r3'⟩ := HROW.out.step h23
        have cm3 := r2' (0) (by omega)
        obtain ⟨p1', p2'⟩ := r3' (0) (by omega)
        have ci3 := p2' i (by omega)
        have HV3 := Lib.hid (HV.out.step h23)
        unfold RowV at cm3
        have HFR := Lib.hid hfr
        have HSD := Lib.hid hsd
        clear r1' r2' r3' p1' p2' h23 cm ci hfr r1 p1
        generalize hx : (stepN a b (0) i).1 = x at *
        generalize hfrr : (stepN a b (0) i).2 = fr at *
        generalize hrow : rowF a b (0) i = row at *
        clear hx hfrr hrow
        by_cases hs : x < row
        · have HG : Hid (alikeF a b (0) i = (if 0 = 0 then [] else alikeF a b (0 - 1) fr) ++ [(x, x + (0) - 2 * i, row - x)]) := Lib.hid (by rw [HST.out, if_pos hs] <;> simp)
          have d1 : 0 < (row : Int) - (x : Int) := by omega
          clear hs HST
          go_wp2_with fail
          refine (diagonal_any (0) i _ (by omega) (by omega)).mono ?_
          rintro e w4 ⟨rfl, h34⟩
          have HV4 := Lib.hid (HV3.out.step h34)
          have HOW := Lib.hid HV4.out.2.1
          have zw := HV4.out.1.size
          clear h34
          go_wp2_with (at_builtin; refine wpList_append_own _ rfl _ _ 56 rfl w.heap.size 84 i0 (.agg #[.int .i64 0, .int .i64 0, .int .i64 0]) 3 24 Try.underlying56 hi hz0 hz1 hz2 rfl (by decide) _ _ _ rfl (HOW.out.alloc _) ⟨w4.heap.size, 0, none⟩ 1 1 [.int .i64 (x : Int), .int .i64 ((x : Int) - (2 * (i : Int) - 0)), .int .i64 ((row : Int) - (x : Int))] rfl rfl ?c1 ?c2 ?c3 ?c4 ?c5 ?_)
          case c1 =>
            intro j u hj
            match j, hj with
            | 0, hj => simp at hj; subst hj; simp [Addr.add, go_sem]
            | 1, hj => simp at hj; subst hj; simp [Addr.add, go_sem]
            | 2, hj => simp at hj; subst hj; simp [Addr.add, go_sem]
          case c2 => intro u hu; simp at hu; rcases hu with rfl | rfl | rfl <;> rfl
          case c3 => unfold maxLen; omega
          case c4 => omega
          case c5 => simp; omega
          intro v' w5 hown' hgrow _
          have HV5 : Hid (TInv w (G ++ [(x, x + (0) - 2 * i, row - x)]) v' w5) := Lib.hid (by
            refine ⟨Below.grown (HV4.out.1.alloc HV4.out.1.size _) hgrow (by have := HV4.out.1.size; simp; omega) (fun j hj => (HV4.out.2.1.lt j hj).1), ?_, fun h => by simp at h⟩
            rw [flatT_snoc, List.length_append]
            have e1 : ((x + (0) - 2 * i : Nat) : Int) = (x : Int) - (2 * (i : Int) - 0) := by have := HSD.out; omega
            have e2 : ((row - x : Nat) : Int) = (row : Int) - (x : Int) := by omega
            simp only [e1, e2]
            exact hown')
          clear hown' hgrow
          go_wp2_with fail
          refine ⟨⟨0, fr, G ++ [(x, x + (0) - 2 * i, row - x)], _, by omega, rfl, rfl, fun _ => HFR.out, rfl, HV5.out, ?_, by simp; omega⟩, by simp [intOf] <;> omega⟩
          have h6 := HEQ.out
          rw [if_neg (by omega), show 0 + 1 - 1 = 0 by omega, HG.out] at h6
          rw [h6, List.reverse_append]; simp
        · have HG : Hid (alikeF a b (0) i = (if 0 = 0 then [] else alikeF a b (0 - 1) fr)) := Lib.hid (by rw [HST.out, if_neg hs, List.append_nil] <;> simp)
          have d1 : ¬ 0 < (row : Int) - (x : Int) := by omega
          clear hs HST
          go_wp2_with fail
          refine ⟨⟨0, fr, G, _, by omega, rfl, rfl, fun _ => HFR.out, rfl, HV3.out, ?_, by omega⟩, by simp [intOf] <;> omega⟩
          have h6 := HEQ.out
          rw [if_neg (by omega), show 0 + 1 - 1 = 0 by omega, HG.out] at h6
          exact h6
      · obtain ⟨m', rfl⟩ : ∃ m', m = m' + 1 := ⟨m - 1, by omega⟩
        have cm2 := r2 m' (by omega)
        obtain ⟨t1, t2⟩ := r3 m' (by omega)
        have HSN := Lib.hid (step_row a b wr m' (g m') (by omega) ha t1 t2)
        unfold RowV at cm2
        have i3 : ((m' + 1 : Nat) : Int) = (m' : Int) + 1 := by omega
        have i4 : IntKind.i64.wrap ((m' : Int) + 1 - 1) = (m' : Int) := by rw [show (m' : Int) + 1 - 1 = (m' : Int) by omega]; exact IntWalk.i64_in _ ⟨by omega, by omega⟩
        have i5 : ((m' : Int) + 1).toNat = m' + 1 := by omega
        have i6 : (m' : Int) < (N : Int) + 1 := by omega
        rw [i3] at i1 i2 ⊢
        clear r2 r3 p2 t2 hst
        go_wp2_with fail
        refine (HSN.out _ i (Below.refl _ _) him).mono ?_
        rintro e w3 ⟨rfl, h23⟩
        obtain ⟨r1', r2', r3'⟩ := HROW.out.step h23
        have cm3 := r2' (m' + 1) (by omega)
        obtain ⟨p1', p2'⟩ := r3' (m' + 1) (by omega)
        have ci3 := p2' i (by omega)
        have HV3 := Lib.hid (HV.out.step h23)
        unfold RowV at cm3
        have HFR := Lib.hid hfr
        have HSD := Lib.hid hsd
        clear r1' r2' r3' p1' p2' h23 cm ci hfr r1 p1
        generalize hx : (stepN a b (m' + 1) i).1 = x at *
        generalize hfrr : (stepN a b (m' + 1) i).2 = fr at *
        generalize hrow : rowF a b (m' + 1) i = row at *
        clear hx hfrr hrow
        by_cases hs : x < row
        · have HG : Hid (alikeF a b (m' + 1) i = (if m' + 1 = 0 then [] else alikeF a b (m' + 1 - 1) fr) ++ [(x, x + (m' + 1) - 2 * i, row - x)]) := Lib.hid (by rw [HST.out, if_pos hs] <;> simp)
          have d1 : 0 < (row : Int) - (x : Int) := by omega
          clear hs HST
          go_wp2_with fail
          refine (diagonal_any (m' + 1) i _ (by omega) (by omega)).mono ?_
          rintro e w4 ⟨rfl, h34⟩
          have HV4 := Lib.hid (HV3.out.step h34)
          have HOW := Lib.hid HV4.out.2.1
          have zw := HV4.out.1.size
          clear h34
          go_wp2_with (at_builtin; refine wpList_append_own _ rfl _ _ 56 rfl w.heap.size 84 i0 (.agg #[.int .i64 0, .int .i64 0, .int .i64 0]) 3 24 Try.underlying56 hi hz0 hz1 hz2 rfl (by decide) _ _ _ rfl (HOW.out.alloc _) ⟨w4.heap.size, 0, none⟩ 1 1 [.int .i64 (x : Int), .int .i64 ((x : Int) - (2 * (i : Int) - ((m' : Int) + 1))), .int .i64 ((row : Int) - (x : Int))] rfl rfl ?c1 ?c2 ?c3 ?c4 ?c5 ?_)
          case c1 =>
            intro j u hj
            match j, hj with
            | 0, hj => simp at hj; subst hj; simp [Addr.add, go_sem]
            | 1, hj => simp at hj; subst hj; simp [Addr.add, go_sem]
            | 2, hj => simp at hj; subst hj; simp [Addr.add, go_sem]
          case c2 => intro u hu; simp at hu; rcases hu with rfl | rfl | rfl <;> rfl
          case c3 => unfold maxLen; omega
          case c4 => omega
          case c5 => simp; omega
          intro v' w5 hown' hgrow _
          have HV5 : Hid (TInv w (G ++ [(x, x + (m' + 1) - 2 * i, row - x)]) v' w5) := Lib.hid (by
            refine ⟨Below.grown (HV4.out.1.alloc HV4.out.1.size _) hgrow (by have := HV4.out.1.size; simp; omega) (fun j hj => (HV4.out.2.1.lt j hj).1), ?_, fun h => by simp at h⟩
            rw [flatT_snoc, List.length_append]
            have e1 : ((x + (m' + 1) - 2 * i : Nat) : Int) = (x : Int) - (2 * (i : Int) - ((m' : Int) + 1)) := by have := HSD.out; omega
            have e2 : ((row - x : Nat) : Int) = (row : Int) - (x : Int) := by omega
            simp only [e1, e2]
            exact hown')
          clear hown' hgrow
          go_wp2_with fail
          refine ⟨⟨m' + 1, fr, G ++ [(x, x + (m' + 1) - 2 * i, row - x)], _, by omega, vl_int (by omega), rfl, fun _ => HFR.out, rfl, HV5.out, ?_, by simp; omega⟩, by simp [intOf] <;> omega⟩
          have h6 := HEQ.out
          rw [if_neg (by omega), show m' + 1 + 1 - 1 = m' + 1 by omega, HG.out] at h6
          rw [h6, List.reverse_append]; simp
        · have HG : Hid (alikeF a b (m' + 1) i = (if m' + 1 = 0 then [] else alikeF a b (m' + 1 - 1) fr)) := Lib.hid (by rw [HST.out, if_neg hs, List.append_nil] <;> simp)
          have d1 : ¬ 0 < (row : Int) - (x : Int) := by omega
          clear hs HST
          go_wp2_with fail
          refine ⟨⟨m' + 1, fr, G, _, by omega, vl_int (by omega), rfl, fun _ => HFR.out, rfl, HV3.out, ?_, by omega⟩, by simp [intOf] <;> omega⟩
          have h6 := HEQ.out
          rw [if_neg (by omega), show m' + 1 + 1 - 1 = m' + 1 by omega, HG.out] at h6
          exact h6

end Go.Proofs.Ytdhbcmbajbgblaa
