/- Contract of diff's Kept where the edits may be made. -/
import Derived.Test.YtdhbcmbajbgblaaDiffH
import Derived.Test.YtdhbcmbajbgblaaGapsN
namespace Go.Proofs.Ytdhbcmbajbgblaa
open Go Go.RowKit
set_option linter.unusedVariables false

theorem infoSpanK : (Try.prog.info? 25).map (fun i => (i.zero, i.size, i.bytes)) = some (some (.agg #[.int .i64 0, .int .i64 0]), 2, 16) := by kernel_rfl
/-- the spans that the first k edits take -/
def tkK (l : List IEd) : Nat → List (Int × Int)
  | 0 => []
  | k + 1 => if 0 < lenI (l.getD k noEd).1 (l.getD k noEd).2.1 then tkK l k ++ [((l.getD k noEd).1, (l.getD k noEd).2.1)] else tkK l k
theorem tkK_len (l : List IEd) : ∀ k, (tkK l k).length ≤ k
  | 0 => by simp [tkK]
  | k + 1 => by have := tkK_len l k; unfold tkK; split <;> simp <;> omega
def KpInv (w wr : World) (g : List (Int × Int)) (v : Value) : Prop := Below w.heap.size w wr ∧ wr.ownsRow w.heap.size 25 2 v g.length (flat g) ∧ (g.length = 0 → v = .slice none 0 0)
theorem KpInv.step {w wr w2 : World} {v : Value} {l : List (Int × Int)} (h : KpInv w wr l v) (hb : Below wr.heap.size wr w2) : KpInv w w2 l v :=
  ⟨after h.1 hb, h.2.1.kept (grown_below (B := 0) hb) (by cases v.ownBlock <;> simp), h.2.2⟩

theorem flat_getK (l : List (Int × Int)) : ∀ i (h : i < l.length), (flat l)[i * 2]? = some (.int .i64 l[i].1) ∧ (flat l)[i * 2 + 1]? = some (.int .i64 l[i].2) := by
  induction l with
  | nil => intro i h; exact absurd h (by simp)
  | cons x l ih =>
    intro i h
    have e : flat (x :: l) = .int .i64 x.1 :: .int .i64 x.2 :: flat l := by simp [flat]
    rw [e]
    cases i with
    | zero => simp
    | succ i =>
      have := ih i (by simpa using h)
      rw [show (i + 1) * 2 = i * 2 + 2 by omega, show i * 2 + 2 + 1 = (i * 2 + 1) + 2 by omega]
      simpa using this
theorem span_of_own {w : World} {base g n cap : Nat} {l : List (Int × Int)} (h : w.ownsRow base 25 2 (.slice (some ⟨g, 0, none⟩) n cap) n (flat l)) : SpanAt w g 0 l := by
  intro i hi
  obtain ⟨f0, f1⟩ := flat_getK l i hi
  have hc := h.cells (g := g) rfl
  have c0 := hc _ _ f0
  have c1 := hc _ _ f1
  have e : ∀ j, (⟨g, 0, none⟩ : Addr).add j = ⟨g, j, none⟩ := fun j => by unfold Addr.add; by_cases h : j = 0 <;> simp [h]
  rw [e] at c0 c1
  rw [Nat.zero_add]
  exact ⟨c0, c1⟩

set_option maxRecDepth 100000 in
set_option maxHeartbeats 4000000 in
theorem kept_ok (s : ByteArray) (src : Option Addr) (n cap : Nat) (l : List IEd) (w : World) (hl : l.length = n) (hn : n ≤ 4096) (hs : s.size ≤ 65536) (hr : EdsIn w src l) (hc : checkE s.size l = 0) (h1 : chkTo s.size (tkK l n) = true) (h2 : sortedB (tkK l n) = true) :
    Calls Try.prog 6 #[.string s, .slice src n cap] w fun e w' => Below w.heap.size w w' ∧ ∃ v w1, e = .returned (.tuple #[v, .int .i64 0]) ∧ w.heap.size ≤ w1.heap.size ∧ GpInv w1 w' (gapTo (tkK l n ++ [((s.size : Int), (s.size : Int))]) ((tkK l n).length + 1)) v := by
  obtain ⟨i0, hi, hz0, hz1, hz2⟩ := info_parts infoSpanK
  have hce := fun w hr => echeck_any (s.size : Int) src n cap l w hl (by unfold maxLen; omega) hr
  rw [hc] at hce
  have HC := Lib.hid hce
  have HR := Lib.hid hr
  have HL := Lib.hid hl
  have H1 := Lib.hid h1
  have H2 := Lib.hid h2
  clear hce hr hl hc h1 h2
  go_enter Try.func6, Try.ntmps6
  go_wp2_with fail
  refine (HC.out _ HR.out).mono ?_
  rintro e w1 ⟨rfl, h01⟩
  have HR1 := Lib.hid (HR.out.step h01)
  have H01 := Lib.hid h01
  clear h01 HC HR
  go_wp2_with fail
  go_loopw [7, 19] (fun u i wr => ∃ (k : Nat) (v : Value), k ≤ n ∧ i = .int .i64 k ∧ u = v ∧ KpInv w1 wr (tkK l k) v) (fun _ i _ => n - (intOf i).toNat)
  case atStart => exact ⟨0, _, Nat.zero_le _, rfl, rfl, Below.refl _ _, World.ownsRow_nil _ _ _ _, fun _ => rfl⟩
  case round =>
    obtain ⟨k, v, hk, rfl, rfl, hinv⟩ := hrel
    by_cases hlt : k < n
    · have hkl : k < l.length := by rw [HL.out]; exact hlt
      have hsz := hinv.1.size
      obtain ⟨b, off, rfl, hb, hat⟩ := HR1.out (by omega)
      obtain ⟨c0, c1, c2⟩ := (hat.below hinv.1 hb) k hkl
      have hgr := Nat.lt_of_lt_of_le hb hsz
      have HG := tkK_len l k
      have HN : Hid (tkK l (k + 1) = if 0 < lenI l[k].1 l[k].2.1 then tkK l k ++ [(l[k].1, l[k].2.1)] else tkK l k) := Lib.hid (by
        show (if 0 < lenI (l.getD k noEd).1 (l.getD k noEd).2.1 then tkK l k ++ [((l.getD k noEd).1, (l.getD k noEd).2.1)] else tkK l k) = _; rw [getE l k hkl])
      have HI := Lib.hid hinv
      clear hinv hat
      revert c0 c1 c2 HN
      generalize l[k] = x
      obtain ⟨x1, x2, x3⟩ := x
      generalize tkK l k = G at *
      intro c0 c1 c2 HN
      dsimp only at c0 c1 c2 HN
      clear hkl
      have hbd := lenI_bd x1 x2
      go_wp2_with fail
      refine (len_any x1 x2 _).mono ?_
      rintro e w3 ⟨rfl, h23⟩
      have BA := (Below.refl wr.heap.size wr).alloc (Nat.le_refl _) (.cells #[.int .i64 x1, .int .i64 x2, .string x3] 27)
      have HI3 := Lib.hid (HI.out.step (after BA h23))
      have p0 := keep h23 (B := wr.heap.size) (o := 0) (by simp) (show _ = some (.int .i64 x1) by simp [go_sem])
      have p1 := keep h23 (B := wr.heap.size) (o := 1) (by simp) (show _ = some (.int .i64 x2) by simp [go_sem])
      have HOW := Lib.hid HI3.out.2.1
      have zw := HI3.out.1.size
      clear h23 BA
      by_cases hq : 0 < lenI x1 x2
      · have EN := Lib.hid (HN.out.trans (if_pos hq))
        have hq' := hq
        generalize lenI x1 x2 = lg at *
        clear hq' HN
        go_wp2_with (at_builtin; refine wpList_append_own _ rfl _ _ 28 rfl w1.heap.size 25 i0 (.agg #[.int .i64 0, .int .i64 0]) 2 16 Try.underlying28 hi hz0 hz1 hz2 rfl (by decide) _ _ _ rfl (HOW.out.alloc _) ⟨w3.heap.size, 0, none⟩ 1 1 [.int .i64 x1, .int .i64 x2] rfl rfl ?c1 ?c2 ?c3 ?c4 ?c5 ?_)
        case c1 =>
          intro j u hj
          match j, hj with
          | 0, hj => simp at hj; subst hj; simp [Addr.add, go_sem]
          | 1, hj => simp at hj; subst hj; simp [Addr.add, go_sem]
        case c2 => intro u hu; simp at hu; rcases hu with rfl | rfl <;> rfl
        case c3 => unfold maxLen; omega
        case c4 => omega
        case c5 => simp; omega
        intro v' w5 hown' hgrow _
        have HV := Lib.hid (show KpInv w1 w5 (G ++ [(x1, x2)]) v' from by
          refine ⟨Below.grown (HI3.out.1.alloc HI3.out.1.size _) hgrow (by have := HI3.out.1.size; simp; omega) (fun j hj => (HI3.out.2.1.lt j hj).1), ?_, fun h => by simp at h⟩
          rw [flat_snoc, List.length_append]; exact hown')
        clear hown' hgrow p0 p1
        go_wp2_with fail
        go_roundw
        case rel => exact ⟨k + 1, _, by omega, by go_num, rfl, by rw [EN.out]; exact HV.out⟩
        case measure => simp [intOf]; omega
      · have EN := Lib.hid (HN.out.trans (if_neg hq))
        generalize lenI x1 x2 = lg at *
        clear HN p0 p1
        go_wp2_with fail
        go_roundw
        case rel => exact ⟨k + 1, _, by omega, by go_num, rfl, by rw [EN.out]; exact HI3.out⟩
        case measure => simp [intOf]; omega
    · have hk' : k = n := by omega
      subst hk'
      obtain ⟨v1, v2, v3⟩ := hinv
      have hlen := tkK_len l k
      have HCK : Hid (chkB 0 0 s.size = true) := Lib.hid (by unfold chkB mayB; simp; omega)
      rcases v2.2 with ⟨q1, q2⟩ | ⟨g, cp, cur, q1, q2, q3, q4, q5, q6, q7⟩
      · have hz : (tkK l k).length = 0 := q2
        have ht : tkK l k = [] := List.eq_nil_of_length_eq_zero hz
        have V1 := Lib.hid v1
        rw [q1]
        have HT := Lib.hid ht
        clear v1 v2 v3 q1 q2 hz ht
        go_wp2_with fail
        refine (gaps_zero (s.size : Int) none 0 _ (fun _ => rfl) HCK.out).mono ?_
        rintro e w4 ⟨hb4, v4, w5, rfl, hz4, hg4⟩
        have B4 := Lib.hid (after (after H01.out V1.out) hb4)
        have HZ := Lib.hid (Nat.le_trans (Nat.le_trans H01.out.size V1.out.size) hz4)
        have HG4 := Lib.hid hg4
        clear hb4 hz4 hg4
        go_wp2_with fail
        go_ret2
        exact ⟨B4.out, _, w5, rfl, HZ.out, by rw [HT.out]; exact HG4.out⟩
      · subst q1
        have hpos : 0 < (tkK l k).length ∨ (tkK l k).length = 0 := by omega
        rcases hpos with hpos | hz0'
        · have hlt := v2.lt g rfl
          have hat : SpanAt _ g 0 (tkK l k) := span_of_own v2
          have V1 := Lib.hid v1
          have HAT := Lib.hid hat
          clear v1 v2 v3 q3 q7 hat
          go_wp2_with fail
          refine (gaps_some (s.size : Int) g 0 (tkK l k).length cp (tkK l k) _ rfl hpos q4 q5 hlt.2 HAT.out (by omega) HCK.out).mono ?_
          rintro e w4 ⟨hb4, ⟨hc, _⟩ | ⟨_, hc, _⟩ | ⟨_, _, v4, w5, rfl, hz4, hg4⟩⟩
          · rw [H1.out] at hc; cases hc
          · rw [H2.out] at hc; cases hc
          · have B4 := Lib.hid (after (after H01.out V1.out) hb4)
            have HZ := Lib.hid (Nat.le_trans (Nat.le_trans H01.out.size V1.out.size) hz4)
            have HG4 := Lib.hid hg4
            clear hb4 hz4 hg4
            go_wp2_with fail
            go_ret2
            exact ⟨B4.out, _, w5, rfl, HZ.out, HG4.out⟩
        · have := v3 hz0'; cases this

end Go.Proofs.Ytdhbcmbajbgblaa
