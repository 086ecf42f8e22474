/- Contract of a graph's Path. -/
import Derived.Test.YtkhgpflpbdakoaaGrX
import Derived.Test.YtkhgpflpbdakoaaGrD
namespace Go.Proofs.Ytkhgpflpbdakoaa
open Go Go.RowKit
set_option linter.unusedVariables false
set_option linter.unusedSimpArgs false

/-- edges one behind the other -/
def Chain : Int → List Eg → Int → Prop
  | a, [], b => a = b
  | a, e :: r, b => e.1 = a ∧ Chain e.2.1 r b
/-- on the way back from a node -/
structure Back (L : List Eg) (n : Nat) (s : Bf) (z : Nat) (y : Int) (l : List Eg) : Prop where
  c : Chain y l.reverse z
  i : ∀ e ∈ l, e ∈ L
  v : vis n s y
  k : (l.length : Int) + key s y = s.far z
/-- a way to a node -/
def PathIs (L : List Eg) (s : Bf) (z : Nat) (p : List Eg) : Prop := (s.far z = -1 → p = []) ∧ (s.far z ≠ -1 → Chain (-1) p z ∧ (∀ e ∈ p, e ∈ L) ∧ (p.length : Int) = s.far z)
theorem Back.start {L : List Eg} {n : Nat} {s : Bf} {z : Nat} (hz : z < n) (h : s.far z ≠ -1) : Back L n s z z [] :=
  ⟨rfl, fun e he => (by cases he), .inr ⟨by omega, by omega, by rw [Int.toNat_natCast]; exact h⟩, by unfold key; rw [if_neg (by omega), Int.toNat_natCast]; simp⟩
theorem Back.next {L : List Eg} {op : Nat → Bool} {n : Nat} {s : Bf} {z : Nat} {y : Int} {l : List Eg} (hf : Found L op n s) (h : Back L n s z y l) (hy : y ≠ -1) :
    ∃ hb : s.by_ y.toNat < L.length, 0 ≤ y ∧ y < n ∧ Back L n s z L[s.by_ y.toNat].1 (l ++ [L[s.by_ y.toNat]]) ∧ (key s L[s.by_ y.toNat].1).toNat < (key s y).toNat := by
  rcases h.v with q | ⟨q1, q2, q3⟩
  · exact absurd q hy
  · rcases hf.1.a y.toNat (by omega) with g | ⟨g1, g2, g3, g4, g5⟩
    · exact absurd g q3
    · have e1 := efr_eq g2
      have e2 := eto_eq g2
      rw [e2] at g4
      rw [e1] at g5
      have hk : key s y = s.far y.toNat := by unfold key; rw [if_neg hy]
      have hv : vis n s L[s.by_ y.toNat].1 ∧ key s L[s.by_ y.toNat].1 + 1 = s.far y.toNat ∧ 0 ≤ key s L[s.by_ y.toNat].1 := by
        rcases g5 with ⟨g5, g6⟩ | ⟨g5, g6, g7, g8⟩
        · exact ⟨.inl g5, by unfold key; rw [if_pos g5, g6]; rfl, by unfold key; rw [if_pos g5]; omega⟩
        · refine ⟨.inr ⟨g5, g6, g7⟩, by unfold key; rw [if_neg (by omega), g8], ?_⟩
          unfold key
          rw [if_neg (by omega)]
          rcases hf.1.a _ (show (L[s.by_ y.toNat].1).toNat < n by omega) with g9 | g9
          · exact absurd g9 g7
          · omega
      refine ⟨g2, q1, q2, ⟨?_, ?_, hv.1, ?_⟩, by omega⟩
      · rw [List.reverse_append]
        show Chain _ (L[s.by_ y.toNat] :: l.reverse) z
        exact ⟨rfl, by rw [g4, Int.toNat_of_nonneg q1]; exact h.c⟩
      · intro e he
        rcases List.mem_append.1 he with he | he
        · exact h.i e he
        · rw [List.mem_singleton] at he
          rw [he]
          exact List.getElem_mem g2
      · rw [List.length_append, List.length_singleton]
        have := h.k
        push_cast
        omega
theorem Back.last {L : List Eg} {n : Nat} {s : Bf} {z : Nat} {l : List Eg} (h : Back L n s z (-1) l) (hf : s.far z ≠ -1) : PathIs L s z l.reverse :=
  ⟨fun q => absurd q hf, fun _ => ⟨h.c, fun e he => h.i e (List.mem_reverse.1 he), by have := h.k; unfold key at this; rw [if_pos rfl] at this; simpa using this⟩⟩
theorem Back.short {L : List Eg} {op : Nat → Bool} {n : Nat} {s : Bf} {z : Nat} {y : Int} {l : List Eg} (hf : Found L op n s) (h : Back L n s z y l) (hz : z < n) : l.length ≤ n := by
  have h1 := h.k
  have h2 := (hf.2.2.1 z hz).2
  have h3 : 0 ≤ key s y := by
    unfold key
    by_cases q : y = -1
    · rw [if_pos q]; omega
    · rw [if_neg q]
      rcases h.v with g | ⟨g1, g2, g3⟩
      · exact absurd g q
      · rcases hf.1.a y.toNat (by omega) with g | g
        · exact absurd g g3
        · omega
  omega

theorem EgV.own {w : World} {B : Nat} {v : Value} {L : List Eg} (h : w.ownsRow B 29 4 v L.length (flatG L)) (hL : L ≠ []) : ∃ g cap, v = .slice (some ⟨g, 0, none⟩) L.length cap ∧ B ≤ g ∧ BlkS w g ∧ ∀ p (hp : p < L.length), EgAt w g (p * 4) L[p] := by
  have hx := EgV.of_row h
  rcases h.2 with ⟨q, q2⟩ | ⟨g, cap, cur, q, hB, hg, _⟩
  · exact absurd (List.eq_nil_of_length_eq_zero q2) hL
  · refine ⟨g, cap, q, hB, ⟨cur, hg⟩, fun p hp => ?_⟩
    obtain ⟨src, cap', hv, hc⟩ := hx
    obtain ⟨g', off', h1, h2, h3⟩ := hc p hp
    rw [q] at hv
    simp only [Value.slice.injEq] at hv
    rw [← hv.1] at h1
    simp only [Option.some.injEq, Addr.mk.injEq] at h1
    obtain ⟨rfl, rfl, -⟩ := h1
    rwa [Nat.zero_add] at h3

/-- Path's answer -/
def PathPost (w : World) (L : List Eg) (n : Nat) (z : Nat) (e : Ending) (w' : World) : Prop :=
  ∃ v s p, e = .returned v ∧ EgV w' v p ∧ Found L opAll n s ∧ PathIs L s z p ∧ Below w.heap.size w w'
theorem path_no {w : World} {B n : Nat} {L : List Eg} {S : GrS} (h : GrM w B n L S) {z : Int} (hz : ¬ (0 ≤ z ∧ z < n)) :
    Calls Try.prog 17 #[(.pointer (some ⟨S.g, 0, none⟩)), .int .i64 z] w fun e w' => e = .returned (.slice none 0 0) ∧ Below w.heap.size w w' := by
  have HC := Lib.hid (has_no h hz)
  clear h hz
  go_enter Try.func17, Try.ntmps17
  go_wp2_with fail
  refine HC.out.mono ?_
  rintro e w1 ⟨rfl, rfl⟩
  go_wp2_with fail
  go_ret
  exact ⟨rfl, Below.refl _ _⟩

set_option maxRecDepth 100000 in
set_option maxHeartbeats 4000000 in
theorem path_any {w : World} {B n : Nat} {L : List Eg} {S : GrS} (h : GrM w B n L S) (hn : n ≤ 8192) (hL : L.length ≤ 16384) (hok : ∀ e ∈ L, okE' n e) (z : Nat) (hz : z < n) :
    Calls Try.prog 17 #[(.pointer (some ⟨S.g, 0, none⟩)), .int .i64 (z : Int)] w (PathPost w L n z) := by
  have HC := Lib.hid (has_yes h (z := (z : Int)) ⟨by omega, by omega⟩)
  have HS := Lib.hid (spread_any h hn hL hok opAll 30 #[] (fun args w => by kernel_rfl) (fun w' _ i _ => by simpa using path1_any i w'))
  have G := Lib.hid h
  have HN := Lib.hid hn
  have HZ := Lib.hid hz
  obtain ⟨es, ec, hes, hec⟩ := h.ev_cells
  have HEC := Lib.hid hec
  have HES := Lib.hid hes
  have HL := Lib.hid hL
  clear h hn hL hok hz hec hes
  go_enter Try.func17, Try.ntmps17
  go_wp2_with fail
  refine HC.out.mono ?_
  rintro e w0 ⟨rfl, hw⟩
  replace hw := hw.symm
  subst hw
  go_wp2_with fail
  refine HS.out.mono ?_
  rintro e w1 ⟨fb, bb, s, rfl, h1, hf, hb, hi, hl, hbd, -, -⟩
  have H1 := Lib.hid h1
  have HF := Lib.hid hf
  have HB := Lib.hid hb
  have FO := Lib.hid (show Found L opAll n s from ⟨hi, hl, hbd⟩)
  clear h1 hf hb hi hl hbd HC HS
  have hb1 : Below w1.heap.size w1 (w1.alloc (.cells #[.slice (some ⟨fb, 0, none⟩) n n, .slice (some ⟨bb, 0, none⟩) n n] 63)) := by repeat (first | exact Below.refl _ _ | apply Below.setCell _ (by first | omega | (simp <;> omega)) | apply Below.alloc _ (by first | omega | (simp <;> omega)))
  have HX2 := Lib.hid (Bx.new 63 w1 #[.slice (some ⟨fb, 0, none⟩) n n, .slice (some ⟨bb, 0, none⟩) n n])
  have H2 := Lib.hid (after H1.out hb1)
  have HF2 := Lib.hid (HF.out.keep hb1)
  have HB2 := Lib.hid (HB.out.keep hb1)
  clear HF HB hb1
  go_wp2_with fail
  generalize htb : w1.heap.size = tb at *
  generalize w1.alloc (.cells #[.slice (some ⟨fb, 0, none⟩) n n, .slice (some ⟨bb, 0, none⟩) n n] 63) = W2 at *
  clear htb
  by_cases hfz : s.far z = -1
  · have PI : Hid (PathIs L s z []) := Lib.hid ⟨fun _ => rfl, fun q => absurd hfz q⟩
    go_loopg [1, 5] 0 (fun gk yv lv wr => yv = .int .i64 (z : Int) ∧ lv = .slice none 0 0 ∧ wr = W2)
    case atStart => exact ⟨rfl, rfl, rfl⟩
    case round =>
      obtain ⟨rfl, rfl, rfl⟩ := hrel
      have t0 := HX2.out.cell 0
      have t1 := HX2.out.cell 1
      have tl := HX2.out.lt
      have f0 := HF2.out.cell z
      rw [rowF_at _ HZ.out, hfz] at f0
      have fl := HF2.out.lt
      have i1 : (z : Int) < (n : Int) := by have := HZ.out; omega
      have i2 : ¬ (z : Int) = -1 := by omega
      have i3 : ((z : Int) == -1) = false := by simp
      simp at t0 t1
      clear hfz
      go_wp2_with fail
      refine (rev_nil _).mono ?_
      rintro e w3 ⟨rfl, rfl⟩
      go_wp2_with fail
      go_ret
      exact ⟨.slice none 0 0, s, [], rfl, ⟨none, 0, rfl, fun j hj => absurd hj (by simp)⟩, FO.out, PI.out, H2.out⟩
  · have B0 := Lib.hid (Back.start HZ.out hfz (L := L))
    have HFZ := Lib.hid hfz
    clear hfz
    obtain ⟨i0, hi0, hz0, hs0, hb0⟩ := info_parts infoE'
    go_loopg [1, 5] (key s z).toNat (fun gk yv lv wr => ∃ y l, yv = .int .i64 y ∧ Back L n s z y l ∧ Below W2.heap.size W2 wr ∧ wr.ownsRow W2.heap.size 29 4 lv l.length (flatG l) ∧ (key s y).toNat ≤ gk)
    case atStart => exact ⟨z, [], rfl, B0.out, Below.refl _ _, World.ownsRow_nil _ _ _ _, Nat.le_refl _⟩
    case round =>
      clear B0
      obtain ⟨y, l, rfl, hbk, hbel, hown, hkk⟩ := hrel
      have BK := Lib.hid hbk
      have BL := Lib.hid hbel
      have HO := Lib.hid hown
      have KK := Lib.hid hkk
      clear hbk hbel hown hkk
      by_cases hy : y = -1
      · subst hy
        have hne : l ≠ [] := fun q => by
          have h1 := BK.out.k
          rw [q] at h1
          have h2 : key s (-1) = 0 := by unfold key; rw [if_pos rfl]
          rw [h2] at h1
          rcases FO.out.1.a z HZ.out with g | g
          · exact HFZ.out g
          · simp at h1; omega
        obtain ⟨g, cap, rfl, hge, hblk, hat⟩ := EgV.own HO.out hne
        have hlen : 0 < l.length := List.length_pos_iff.2 hne
        have hsh := BK.out.short FO.out HZ.out
        have HR := Lib.hid (rev_any g l.length cap (fun p => l.getD p (0, 0, 0, 0)) wr hlen (by have := HN.out; omega) (fun p hp => by rw [List.getD_eq_getElem?_getD, List.getElem?_eq_getElem hp]; exact hat p hp) hblk)
        have GE := Lib.hid hge
        have PI := Lib.hid (BK.out.last HFZ.out)
        clear hge hblk hat hlen hsh hne
        go_wp2_with fail
        refine HR.out.mono ?_
        rintro e w3 ⟨rfl, hgr, hat, hblk⟩
        have GR := Lib.hid hgr
        have AT2 := Lib.hid hat
        have HK := Lib.hid hblk
        clear hgr hat hblk
        go_wp2_with fail
        go_ret
        refine ⟨_, s, l.reverse, rfl, ⟨some ⟨g, 0, none⟩, cap, by rw [List.length_reverse]; rfl, fun j hj => ?_⟩, FO.out, PI.out, ?_⟩
        · rw [List.length_reverse] at hj
          obtain ⟨cur, hc⟩ := HK.out
          refine ⟨g, 0, rfl, lt_block hc, ?_⟩
          have := AT2.out j hj
          rw [Nat.zero_add]
          rw [List.getD_eq_getElem?_getD, List.getElem?_eq_getElem (by omega)] at this
          rw [List.getElem_reverse]
          exact this
        · have h1 := after H2.out BL.out
          have hg := GE.out
          exact ⟨GR.out.os.trans h1.os, GR.out.tape.trans h1.tape, GR.out.output.trans h1.output, Nat.le_trans h1.size GR.out.size, fun k hk => (GR.out.block k (Nat.lt_of_lt_of_le hk h1.size) (fun q => by cases q; have := H2.out.size; omega)).trans (h1.block k hk)⟩
      · obtain ⟨hbl, hy0, hyn, hbk2, hlt⟩ := BK.out.next FO.out hy
        have t0 := (HX2.out.keep BL.out).cell 0
        have t1 := (HX2.out.keep BL.out).cell 1
        have tl := (HX2.out.keep BL.out).lt
        have hvy : s.far y.toNat ≠ -1 := by
          rcases BK.out.v with q | ⟨_, _, q⟩
          · exact absurd q hy
          · exact q
        have f0 := (HF2.out.keep BL.out).cell y.toNat
        rw [rowF_at _ (by omega)] at f0
        have fl := (HF2.out.keep BL.out).lt
        have i2 : (y == -1) = false := by simpa using hy
        have i3 : (s.far y.toNat == -1) = false := by simpa using hvy
        have i6 : (y != -1) = true := by simpa using hy
        have i7 : (s.far y.toNat != -1) = true := by simpa using hvy
        simp at t0 t1
        have BK2 := Lib.hid hbk2
        have HLT := Lib.hid hlt
        have SH := Lib.hid (BK.out.short FO.out HZ.out)
        clear hbk2 hlt
        go_wp2_with fail
        obtain ⟨ge, rfl, hge, -⟩ := HEC.out _ hbl
        have KEEP : Hid (∀ w', Below wr.heap.size wr w' → w'.cell? ⟨S.g, 1, none⟩ = some (.slice (some ⟨ge, 0, none⟩) L.length ec) ∧ w'.cell? ⟨tb, 1, none⟩ = some (.slice (some ⟨bb, 0, none⟩) n n) ∧ w'.cell? ⟨bb, y.toNat, none⟩ = some (.int .i64 (s.by_ y.toNat : Int)) ∧
            w'.cell? ⟨ge, s.by_ y.toNat * 4, none⟩ = some (.int .i64 L[s.by_ y.toNat].1) ∧ w'.cell? ⟨ge, s.by_ y.toNat * 4 + 1, none⟩ = some (.int .i64 L[s.by_ y.toNat].2.1) ∧ w'.cell? ⟨ge, s.by_ y.toNat * 4 + 2, none⟩ = some (.int .i64 L[s.by_ y.toNat].2.2.1) ∧ w'.cell? ⟨ge, s.by_ y.toNat * 4 + 3, none⟩ = some (.int .i64 L[s.by_ y.toNat].2.2.2) ∧ Below wr.heap.size wr w') := Lib.hid (fun w' h => by
          have a1 := after BL.out h
          have a2 := after H2.out a1
          obtain ⟨g', hg', hg2, e0, e1, e2, e3⟩ := HEC.out _ hbl
          simp only [Option.some.injEq, Addr.mk.injEq] at hg'
          obtain ⟨rfl, -, -⟩ := hg'
          exact ⟨by rw [← HES.out]; exact (G.out.step a2).cells.2.1, (HX2.out.keep a1).cell 1, by have := (HB2.out.keep a1).cell y.toNat; rwa [rowF_at _ (by omega)] at this, keep a2 hg2 e0, keep a2 hg2 e1, keep a2 hg2 e2, keep a2 hg2 e3, h⟩)
        have i4 : (0 : Int) ≤ (s.by_ y.toNat : Int) := by omega
        have i5 : (s.by_ y.toNat : Int) < (L.length : Int) := by omega
        generalize L[s.by_ y.toNat] = ed at *
        generalize s.by_ y.toNat = bn at *
        clear t0 t1 tl f0 fl hbl hge
        go_region_held3 (fun w' => w'.cell? ⟨S.g, 1, none⟩ = some (.slice (some ⟨ge, 0, none⟩) L.length ec) ∧ w'.cell? ⟨tb, 1, none⟩ = some (.slice (some ⟨bb, 0, none⟩) n n) ∧ w'.cell? ⟨bb, y.toNat, none⟩ = some (.int .i64 (bn : Int)) ∧
            w'.cell? ⟨ge, bn * 4, none⟩ = some (.int .i64 ed.1) ∧ w'.cell? ⟨ge, bn * 4 + 1, none⟩ = some (.int .i64 ed.2.1) ∧ w'.cell? ⟨ge, bn * 4 + 2, none⟩ = some (.int .i64 ed.2.2.1) ∧ w'.cell? ⟨ge, bn * 4 + 3, none⟩ = some (.int .i64 ed.2.2.2) ∧ Below wr.heap.size wr w')
          ((refine KEEP.out _ ?_; repeat (first | exact Below.refl _ _ | apply below_drew | apply Below.setCell _ (by first | omega | (simp <;> omega)) | apply Below.alloc _ (by first | omega | (simp <;> omega))))) (fail)
        all_goals
          obtain ⟨W4, hW4⟩ : ∃ W4, W4 = (wr.alloc (.cells #[.int .i64 ed.1, .int .i64 ed.2.1, .int .i64 ed.2.2.1, .int .i64 ed.2.2.2] 29)).drew := ⟨_, rfl⟩
          have hb4 : Below wr.heap.size wr W4 := by rw [hW4]; exact below_drew (by repeat (first | exact Below.refl _ _ | apply Below.setCell _ (by first | omega | (simp <;> omega)) | apply Below.alloc _ (by first | omega | (simp <;> omega))))
          have hx4 : Bx 29 W4 wr.heap.size (egC ed) := by rw [hW4]; exact Bx.new 29 wr (egC ed).toArray
          have hs4 : W4.heap.size = wr.heap.size + 1 := by rw [hW4]; simp [World.drew]
          rw [← hW4]
          obtain ⟨e0, e1, e2, e3, el, ef⟩ := hx4.four
          have B4 := Lib.hid hb4
          have B5 : Hid (Below wr.heap.size wr (W4.alloc (.cells (egC ed).toArray 29))) := Lib.hid (hb4.alloc hb4.size _)
          have HO5 := Lib.hid (ownsRow_step HO.out B5.out)
          have NEWS : Hid (∀ j u, (egC ed)[j]? = some u → (W4.alloc (.cells (egC ed).toArray 29)).cell? ((⟨W4.heap.size, 0, none⟩ : Addr).add j) = some u) := Lib.hid (by
            intro j u hj
            rw [add_at, Nat.zero_add]
            exact ((Bx.new 29 W4 (egC ed).toArray).cell j).trans hj)
          have ONE : Hid (∀ u ∈ egC ed, u.oneCell' = true) := Lib.hid (by
            intro u hu
            unfold egC at hu
            simp only [List.mem_cons, List.not_mem_nil, or_false] at hu
            rcases hu with rfl | rfl | rfl | rfl <;> rfl)
          have N1 : Hid (l.length + 1 ≤ maxLen) := Lib.hid (by have := SH.out; have := HN.out; unfold maxLen; omega)
          have N2 : Hid ((l.length + 1) * 32 ≤ 140737488355328) := Lib.hid (by have := SH.out; have := HN.out; omega)
          have N3 : Hid (W2.heap.size ≤ (W4.alloc (.cells (egC ed).toArray 29)).heap.size) := Lib.hid (Nat.le_trans BL.out.size B5.out.size)
          have KX : Hid (∀ w9, (W4.alloc (.cells (egC ed).toArray 29)).grownBy w9 u5.ownBlock → w9.cell? ⟨wr.heap.size, 0, none⟩ = some (.int .i64 ed.1)) := Lib.hid (fun w9 hg => by
            have h1 : Bx 29 w9 wr.heap.size (egC ed) := (hx4.alloc _).at_ (k := wr.heap.size) (hg.block _ (hx4.alloc _).lt (fun q => by have := row_lt HO.out q.symm; omega))
            exact h1.cell 0)
          clear hb4 hx4 hW4 KEEP i4 i5 i2 i3 i6 i7 hy hvy hs4 HEC
          go_wp2_with (at_builtin; refine wpList_append_own_at _ (by rfl) (.tmp 35) (.tmp 37) 22 (by rfl) W2.heap.size 29 i0 (.agg #[.int .i64 0, .int .i64 0, .int .i64 0, .int .i64 0]) 4 32 Try.underlying22 hi0 hz0 hs0 hb0 rfl (by decide) u5 l.length (flatG l) (by rfl) HO5.out ⟨W4.heap.size, 0, none⟩ 1 1 (egC ed) (by rfl) rfl NEWS.out ONE.out N1.out N2.out N3.out ?_; intro v9 w9 hown9 hgr9 hnil9 hat9; have k9 := KX.out w9 hgr9)
          go_roundg (key s ed.1).toNat
          case measure => have := HLT.out; have := KK.out; omega
          case rel =>
            refine ⟨ed.1, l ++ [ed], rfl, BK2.out, ?_, ?_, Nat.le_refl _⟩
            · have h1 := after BL.out B5.out
              exact ⟨hgr9.os.trans h1.os, hgr9.tape.trans h1.tape, hgr9.output.trans h1.output, Nat.le_trans h1.size hgr9.size, fun k hk => (hgr9.block k (Nat.lt_of_lt_of_le hk h1.size) (fun q => by have := row_base HO.out q.symm; omega)).trans (h1.block k hk)⟩
            · rw [List.length_append]
              have : flatG (l ++ [ed]) = flatG l ++ egC ed := by unfold flatG; rw [List.flatMap_append]; simp
              rw [this]
              exact hown9
end Go.Proofs.Ytkhgpflpbdakoaa
