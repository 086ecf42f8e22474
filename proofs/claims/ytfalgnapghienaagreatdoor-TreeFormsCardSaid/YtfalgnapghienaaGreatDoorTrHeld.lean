/- Contract of the eraser's held: a value held against null. -/
import Derived.Test.YtfalgnapghienaaGreatDoorTrAdd2
import Derived.Test.YtfalgnapghienaaGreatDoorTrMark
import Derived.Deep.RegionLaw
namespace Go.Proofs.YtfalgnapghienaaGreatDoor
open Go Go.RowKit
set_option linter.unusedVariables false
set_option linter.unusedSimpArgs false

theorem Bld.row_lt {T : TypeId} {rest : List Value} {w : World} {B b : Nat} {L : List NdR} {v : Value} (h : Bld T rest w B b L v) : ∀ k, v.ownBlock = some k → k < w.heap.size := fun k hk => (h.own.lt k hk).2
/-- a block of the call's own stays where a builder grows -/
theorem BoxN.added {w w' : World} {b g : Nat} {cs : List Value} {v : Value} (h : BoxN w g cs) (hb : g ≠ b) (hv : some g ≠ v.ownBlock) (hk : ∀ k, k < w.heap.size → k ≠ b → some k ≠ v.ownBlock → w'.heap[k]? = w.heap[k]?) : BoxN w' g cs := by
  unfold BoxN at *
  rw [hk g (lt_block h) hb hv]; exact h

theorem Bld.setBox {T : TypeId} {rest : List Value} {w : World} {B b g o : Nat} {L : List NdR} {v u : Value} {cs : List Value} (h : Bld T rest w B b L v) (hx : BoxN w g cs) (hgb : b ≠ g) (hr : v.ownBlock ≠ some g) : Bld T rest (w.setCell ⟨g, o, none⟩ u) B b L v :=
  ⟨h.base, h.box.other hgb o u, h.own.kept (grown_set w g o u) (.inr hr), fun y hy => ⟨(h.new_ y hy).1.set hx, (h.new_ y hy).2.set hx⟩⟩
/-- the row of a builder's nodes is not a box of one node of another kind -/
theorem Bld.ne_box {T : TypeId} {rest : List Value} {w : World} {B b g : Nat} {L : List NdR} {y : NdR} {v : Value} {kind : Int} {cs : List Value} (h : Bld T rest w B b (L ++ [y]) v) (hx : BoxN w g (.int .i64 kind :: cs)) (hc : cs.length = 12) (hk : y.1.kind ≠ kind) : v.ownBlock ≠ some g := by
  intro e
  rcases h.own.2 with ⟨rfl, _⟩ | ⟨g', cap, cur, rfl, _, hg, hnc, _, hcs, htake⟩
  · simp [Value.ownBlock] at e
  · simp [Value.ownBlock] at e
    subst e
    unfold BoxN at hx
    rw [hx] at hg
    simp only [Option.some.injEq, Obj.cells.injEq] at hg
    obtain ⟨rfl, -, -⟩ := hg
    simp only [List.size_toArray, List.length_cons, hc] at hcs
    have hcap : cap = 1 := by omega
    subst hcap
    rw [List.length_append, List.length_singleton] at hnc
    have hL : L = [] := List.eq_nil_of_length_eq_zero (by omega)
    subst hL
    simp only [List.nil_append, List.length_cons, List.length_nil] at htake
    have := congrArg (·[0]?) htake
    simp [flatN, ndC, ndL] at this
    exact hk this.symm
/-- a list of numbers that lies below a block -/
def NumsB (w : World) (B : Nat) (v : Value) (l : List Int) : Prop := ∃ src cap, v = .slice src l.length cap ∧ (0 < l.length → ∃ b off, src = some ⟨b, off, none⟩ ∧ b < B ∧ b < w.heap.size ∧ NumsAt w b off l)
theorem NumsB.to {w w' : World} {B : Nat} {v : Value} {l : List Int} (h : NumsB w B v l) (hb : Below B w w') : NumsB w' B v l := by
  obtain ⟨src, cap, h1, h2⟩ := h
  refine ⟨src, cap, h1, fun h0 => ?_⟩
  obtain ⟨b, off, q1, q2, q3, q4⟩ := h2 h0
  exact ⟨b, off, q1, q2, Nat.lt_of_lt_of_le q3 hb.size, fun i hi => (hb.cell (p := ⟨b, off + i, none⟩) q2).trans (q4 i hi)⟩
theorem NumsB.v {w : World} {B : Nat} {v : Value} {l : List Int} (h : NumsB w B v l) : NumsV w v l := by
  obtain ⟨src, cap, h1, h2⟩ := h
  refine ⟨src, cap, h1, fun h0 => ?_⟩
  obtain ⟨b, off, q1, q2, q3, q4⟩ := h2 h0
  exact ⟨b, off, q1, q3, q4⟩
theorem NumsV.below {w : World} {v : Value} {l : List Int} (h : NumsV w v l) {B : Nat} (hB : w.heap.size ≤ B) : NumsB w B v l := by
  obtain ⟨src, cap, h1, h2⟩ := h
  refine ⟨src, cap, h1, fun h0 => ?_⟩
  obtain ⟨b, off, q1, q2, q3⟩ := h2 h0
  exact ⟨b, off, q1, by omega, q2, q3⟩
theorem KeptN.setBox {w : World} {b g o : Nat} {u : Value} {cs : List Value} (hx : BoxN w g cs) : KeptN w (w.setCell ⟨g, o, none⟩ u) b := fun k c U fz hk hU hkb =>
  heap_setCell_other w _ k u (fun e => by
    simp at e
    subst e
    unfold BoxN at hx
    rw [hx] at hk
    simp at hk
    exact hU hk.2.1.symm)

def HeldPost (rest : List Value) (w : World) (bB b : Nat) (L : List NdR) (x y : Nd) (e : Ending) (w' : World) : Prop :=
  e = .returned (.tuple #[.int .i64 ((L.length + 1 : Nat) : Int), .bool true]) ∧ Below bB w w' ∧ (∃ y1 y2 v', y1.1 = x ∧ y2.1 = y ∧ Bld 74 rest w' bB b (L ++ [y1, y2]) v') ∧ KeptN w w' b

set_option maxRecDepth 100000 in
set_option maxHeartbeats 4000000 in
theorem held_any (tov : Value) (bB b : Nat) (L : List NdR) (v : Value) (kind sf st : Int) (kids : List Int) (text : ByteArray) (B : Int) (N : ByteArray) (D : Int) (M : ByteArray) (num wf wt : Int) (ends : List Int) (ks : Option Addr) (kc : Nat) (ev : Value) (value : Int) (sign : ByteArray) (w : World) (hk23 : kind ≠ 23)
    (hb : Bld 74 [tov] w bB b L v) (hB : bB ≤ w.heap.size) (hL : L.length + 1 < 16384) (he : NumsB w bB ev ends) (le : ends.length ≤ 17592186044416) (sg : sign.size ≤ 10) (sn : N.size ≤ 281474976710656) (sm : M.size ≤ 281474976710656) :
    Calls Tryz.prog 54 #[.pointer (some ⟨b, 0, none⟩), .agg #[.int .i64 kind, .int .i64 sf, .int .i64 st, .slice ks kids.length kc, .string text, .int .i64 B, .string N, .int .i64 D, .string M, .int .i64 num, .int .i64 wf, .int .i64 wt, ev], .int .i64 value, .string sign] w
      (HeldPost [tov] w bB b L ⟨23, st, st, [], ⟨#[]⟩, 0, ⟨#[]⟩, 0, ⟨#[]⟩, 0, 0, 0, []⟩ ⟨34, sf, st, [value, (L.length : Nat)], sign, B, N, D, M, num, wf, wt, ends⟩) := by
  have HEB := Lib.hid he
  obtain ⟨es, ec, rfl, -⟩ := he
  obtain ⟨W0, hW0⟩ : ∃ W0, W0 = w.alloc (.cells #[.int .i64 kind, .int .i64 sf, .int .i64 st, .slice ks kids.length kc, .string text, .int .i64 B, .string N, .int .i64 D, .string M, .int .i64 num, .int .i64 wf, .int .i64 wt, .slice es ends.length ec] 46) := ⟨_, rfl⟩
  have HB0 : Hid (Below w.heap.size w W0) := Lib.hid (by rw [hW0]; exact (Below.refl _ _).alloc (Nat.le_refl _) _)
  have X0 : Hid (BoxN W0 w.heap.size [.int .i64 kind, .int .i64 sf, .int .i64 st, .slice ks kids.length kc, .string text, .int .i64 B, .string N, .int .i64 D, .string M, .int .i64 num, .int .i64 wf, .int .i64 wt, .slice es ends.length ec]) := Lib.hid (by rw [hW0]; exact BoxN.new w #[.int .i64 kind, .int .i64 sf, .int .i64 st, .slice ks kids.length kc, .string text, .int .i64 B, .string N, .int .i64 D, .string M, .int .i64 num, .int .i64 wf, .int .i64 wt, .slice es ends.length ec])
  have HW0 := Lib.hid hW0
  have HBD := Lib.hid (hb.step HB0.out)
  have hbl := hb.box.lt
  have HRW := Lib.hid hb.row_lt
  have HA := Lib.hid (fun (w2 : World) (h : Bld 74 [tov] w2 bB b L v) (hB2 : bB ≤ w2.heap.size) => add2_any 74 (by decide) (by decide) [tov] bB b L v 23 st st [] ⟨#[]⟩ 0 ⟨#[]⟩ 0 ⟨#[]⟩ 0 0 0 [] (.slice none 0 0) (.slice none 0 0) w2 h hB2 (by omega) ⟨none, 0, rfl, fun h => absurd h (by simp)⟩ ⟨none, 0, rfl, fun h => absurd h (by simp)⟩ (by simp) (by simp) (by decide) (by decide) (by decide))
  obtain ⟨⟨a0, a1, a2, a3, a4, a5, a6, a7, a8, a9, a10, a11, a12⟩, al, af⟩ := X0.out.all
  clear hW0 hb
  go_enter Tryz.func54, Tryz.ntmps54
  go_wp2_with fail
  rw [← HW0.out]
  go_region_law (first
    | (go_simp
       go_at_call 20
       refine (HA.out _ (HBD.out.step (Below.refl _ _).drew) (by have := HB0.out.size; simp; omega)).mono ?_
       rintro e W4 ⟨rfl, h34, ⟨y, v', hy, hbd⟩, hk, hkk⟩
       have H4 := Lib.hid h34
       have HY := Lib.hid hy
       have BD4 := Lib.hid hbd
       have HK4 := Lib.hid hk
       have X4 := Lib.hid (BoxN.added (show BoxN W0.drew w.heap.size [.int .i64 kind, .int .i64 sf, .int .i64 st, .slice ks kids.length kc, .string text, .int .i64 B, .string N, .int .i64 D, .string M, .int .i64 num, .int .i64 wf, .int .i64 wt, .slice es ends.length ec] from X0.out) (by omega) (fun e => by have := HRW.out _ e.symm; omega) hkk)
       clear h34 hy hbd hk hkk))
  all_goals
    clear a0 a1 a2 a3 a4 a5 a6 a7 a8 a9 a10 a11 a12 al af HA
    have XA := Lib.hid (X4.out.set 0 (.int .i64 34))
    have XB := Lib.hid (XA.out.set 4 (.string sign))
    have XC := Lib.hid (XB.out.set 3 (.slice (some ⟨W4.heap.size, 0, none⟩) 2 2))
    have hrow := BD4.out.ne_box X4.out rfl (by rw [HY.out]; exact fun e => hk23 e.symm)
    have BA := Lib.hid (BD4.out.setBox (o := 0) (u := .int .i64 34) X4.out (by omega) hrow)
    have BB := Lib.hid (BA.out.setBox (o := 4) (u := .string sign) XA.out (by omega) hrow)
    have BC := Lib.hid (BB.out.setBox (o := 3) (u := .slice (some ⟨W4.heap.size, 0, none⟩) 2 2) XB.out (by omega) hrow)
    obtain ⟨W5, hW5⟩ : ∃ W5, W5 = ((((W4.setCell ⟨w.heap.size, 0, none⟩ (.int .i64 34)).setCell ⟨w.heap.size, 4, none⟩ (.string sign)).setCell ⟨w.heap.size, 3, none⟩ (.slice (some ⟨W4.heap.size, 0, none⟩) 2 2)).alloc (.cells #[.int .i64 value, .int .i64 (L.length : Nat)] 3)) := ⟨_, rfl⟩
    have HW5 := Lib.hid hW5
    have HBA : Hid (Below bB W4 W5) := Lib.hid (by
      rw [hW5]
      exact ((((Below.refl bB W4).setCell (p := ⟨w.heap.size, 0, none⟩) hB _).setCell (p := ⟨w.heap.size, 4, none⟩) hB _).setCell (p := ⟨w.heap.size, 3, none⟩) hB _).alloc (by simp; have := H4.out.size; have := HB0.out.size; simp at *; omega) _)
    have BD5 : Hid (Bld 74 [tov] W5 bB b (L ++ [y]) v') := Lib.hid (by rw [hW5]; exact BC.out.step ((Below.refl _ _).alloc (Nat.le_refl _) _))
    have X5 : Hid (BoxN W5 w.heap.size [.int .i64 34, .int .i64 sf, .int .i64 st, .slice (some ⟨W4.heap.size, 0, none⟩) 2 2, .string sign, .int .i64 B, .string N, .int .i64 D, .string M, .int .i64 num, .int .i64 wf, .int .i64 wt, .slice es ends.length ec]) := Lib.hid (by rw [hW5]; exact XC.out.alloc _)
    have K5 : Hid (KeptN W4 W5 b) := Lib.hid (by
      rw [hW5]
      exact (((KeptN.setBox X4.out).trans (KeptN.setBox XA.out)).trans (KeptN.setBox XB.out)).trans (KeptN.of_below b ((Below.refl _ _).alloc (Nat.le_refl _) _)))
    have N5 : Hid (NumsV W5 (.slice (some ⟨W4.heap.size, 0, none⟩) 2 2) [value, (L.length : Nat)]) := Lib.hid (by
      have hbx : Bx 3 W5 W4.heap.size [.int .i64 value, .int .i64 (L.length : Nat)] := by
        have := Bx.new 3 (((W4.setCell ⟨w.heap.size, 0, none⟩ (.int .i64 34)).setCell ⟨w.heap.size, 4, none⟩ (.string sign)).setCell ⟨w.heap.size, 3, none⟩ (.slice (some ⟨W4.heap.size, 0, none⟩) 2 2)) #[.int .i64 value, .int .i64 (L.length : Nat)]
        rw [← hW5] at this
        simpa using this
      refine ⟨some ⟨W4.heap.size, 0, none⟩, 2, rfl, fun _ => ⟨W4.heap.size, 0, rfl, hbx.lt, fun i hi => ?_⟩⟩
      rw [Nat.zero_add, hbx.cell]
      match i, hi with
      | 0, _ => rfl
      | 1, _ => rfl)
    have E5 := Lib.hid ((HEB.out.to ((HB0.out.mono hB).trans (show Below bB W0 W4 from ⟨H4.out.os, H4.out.tape, H4.out.output, H4.out.size, H4.out.block⟩))).to HBA.out)
    have HA2 := Lib.hid (fun (w2 : World) (hw : Below W5.heap.size W5 w2) => add_any 74 (by decide) (by decide) [tov] bB b (L ++ [y]) v' 34 sf st [value, (L.length : Nat)] sign B N D M num wf wt ends (.slice (some ⟨W4.heap.size, 0, none⟩) 2 2) (.slice es ends.length ec) w2 (BD5.out.step hw) (by have := HBA.out.size; have := hw.size; have := H4.out.size; have := HB0.out.size; simp at *; omega) (by rw [List.length_append]; simpa using hL) (N5.out.step hw) (E5.out.v.step hw) (by simp) le (by omega) sn sm)
    obtain ⟨⟨a0, a1, a2, a3, a4, a5, a6, a7, a8, a9, a10, a11, a12⟩, al, af⟩ := X4.out.all
    clear hW5 hrow
    go_wp2_with fail
    rw [← HW5.out]
    clear a0 a1 a2 a3 a4 a5 a6 a7 a8 a9 a10 a11 a12 al af HW5
    obtain ⟨⟨a0, a1, a2, a3, a4, a5, a6, a7, a8, a9, a10, a11, a12⟩, al, af⟩ := X5.out.all
    go_region_law (first
      | (go_simp
         go_at_call 20
         refine (HA2.out _ ((Below.refl _ _).drew)).mono ?_
         rintro e W6 ⟨rfl, h56, ⟨y2, v2, hy2, hbd2⟩, hk2⟩
         have H6 := Lib.hid h56
         have HY2 := Lib.hid hy2
         have BD6 := Lib.hid hbd2
         have HK6 := Lib.hid hk2
         clear h56 hy2 hbd2 hk2))
    all_goals
      clear a0 a1 a2 a3 a4 a5 a6 a7 a8 a9 a10 a11 a12 al af
      go_wp2_with fail
      go_ret2
      refine ⟨by (have e2 : ((L.length + 1 : Nat) : Int) = (L.length : Int) + 1 := by push_cast; rfl)
                 rw [e2]; rfl, ?_, ⟨y, y2, v2, HY.out, HY2.out, by simpa using BD6.out⟩, ?_⟩
      · exact ((HB0.out.mono hB).trans (show Below bB W0 W4 from ⟨H4.out.os, H4.out.tape, H4.out.output, H4.out.size, H4.out.block⟩)).trans (HBA.out.trans (show Below bB W5 W6 from ⟨H6.out.os, H6.out.tape, H6.out.output, H6.out.size, H6.out.block⟩))
      · exact (KeptN.of_below b HB0.out).trans ((show KeptN W0 W4 b from HK4.out).trans (K5.out.trans (show KeptN W5 W6 b from HK6.out)))
end Go.Proofs.YtfalgnapghienaaGreatDoor
