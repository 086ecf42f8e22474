/- Contract of Lex. -/
import Derived.Test.YtgcokjobnpjhhaaLexG
namespace Go.Proofs.Ytgcokjobnpjhhaa
open Go Go.RowKit
set_option linter.unusedVariables false

theorem infoTok : (Try.prog.info? 32).map (fun i => (i.zero, i.size, i.bytes)) = some (some (.agg #[.int .i64 0, .int .i64 0, .int .i64 0]), 3, 24) := by kernel_rfl
def flatK (l : List Tok) : List Value := l.flatMap fun x => [.int .i64 (x.1 : Nat), .int .i64 (x.2.1 : Nat), .int .i64 (x.2.2 : Nat)]
theorem flatK_snoc (l : List Tok) (x : Tok) : flatK (l ++ [x]) = flatK l ++ [.int .i64 (x.1 : Nat), .int .i64 (x.2.1 : Nat), .int .i64 (x.2.2 : Nat)] := by simp [flatK]
theorem flatK_get : ∀ (l : List Tok) (i : Nat) (h : i < l.length), (flatK l)[i * 3]? = some (.int .i64 (l[i].1 : Nat)) ∧ (flatK l)[i * 3 + 1]? = some (.int .i64 (l[i].2.1 : Nat)) ∧ (flatK l)[i * 3 + 2]? = some (.int .i64 (l[i].2.2 : Nat))
  | [], i, h => absurd h (by simp)
  | x :: l, 0, h => ⟨rfl, rfl, rfl⟩
  | x :: l, i + 1, h => by
    have e : flatK (x :: l) = [.int .i64 (x.1 : Nat), .int .i64 (x.2.1 : Nat), .int .i64 (x.2.2 : Nat)] ++ flatK l := rfl
    obtain ⟨h1, h2, h3⟩ := flatK_get l i (by simpa using h)
    rw [e]
    refine ⟨?_, ?_, ?_⟩
    · rw [List.getElem?_append_right (by simp; omega), show (i + 1) * 3 - _ = i * 3 by simp; omega]; exact h1
    · rw [List.getElem?_append_right (by simp; omega), show (i + 1) * 3 + 1 - _ = i * 3 + 1 by simp; omega]; exact h2
    · rw [List.getElem?_append_right (by simp; omega), show (i + 1) * 3 + 2 - _ = i * 3 + 2 by simp; omega]; exact h3
/-- tokens lie in memory from a place on, three cells each -/
def TokAt (w : World) (b off : Nat) (l : List Tok) : Prop :=
  ∀ i (h : i < l.length), w.cell? ⟨b, off + i * 3, none⟩ = some (.int .i64 (l[i].1 : Nat)) ∧ w.cell? ⟨b, off + i * 3 + 1, none⟩ = some (.int .i64 (l[i].2.1 : Nat)) ∧ w.cell? ⟨b, off + i * 3 + 2, none⟩ = some (.int .i64 (l[i].2.2 : Nat))
theorem TokAt.below {w w' : World} {B b off : Nat} {l : List Tok} (h : TokAt w b off l) (hb : Below B w w') (hB : b < B) : TokAt w' b off l := fun i hi =>
  ⟨(hb.cell (p := ⟨b, off + i * 3, none⟩) hB).trans (h i hi).1, (hb.cell (p := ⟨b, off + i * 3 + 1, none⟩) hB).trans (h i hi).2.1, (hb.cell (p := ⟨b, off + i * 3 + 2, none⟩) hB).trans (h i hi).2.2⟩
/-- a list of tokens that was answered -/
def ToksIn (w w' : World) (l : List Tok) (v : Value) : Prop := ∃ g cap, v = .slice (some ⟨g, 0, none⟩) l.length cap ∧ w.heap.size ≤ g ∧ g < w'.heap.size ∧ l.length ≤ cap ∧ cap ≤ maxLen ∧ TokAt w' g 0 l
theorem tok_of_own {w : World} {B : Nat} {l : List Tok} {v : Value} (ho : w.ownsRow B 32 3 v l.length (flatK l)) (h : 0 < l.length) : ∃ g cap, v = .slice (some ⟨g, 0, none⟩) l.length cap ∧ B ≤ g ∧ g < w.heap.size ∧ l.length ≤ cap ∧ cap ≤ maxLen ∧ TokAt w g 0 l := by
  have ho' := ho
  rcases ho.2 with ⟨hv, hn⟩ | ⟨g, cap, cur, hv, hg, hh, hc, hm, _⟩
  · omega
  · subst hv
    refine ⟨g, cap, rfl, hg, (ho'.lt g rfl).2, hc, hm, fun i hi => ?_⟩
    have hcl := ho'.cells (g := g) rfl
    have e : ∀ j, (⟨g, 0, none⟩ : Addr).add j = ⟨g, j, none⟩ := fun j => by unfold Addr.add; by_cases h : j = 0 <;> simp [h]
    obtain ⟨k1, k2, k3⟩ := flatK_get l i hi
    have c1 := hcl _ _ k1
    have c2 := hcl _ _ k2
    have c3 := hcl _ _ k3
    rw [e] at c1 c2 c3
    rw [Nat.zero_add]
    exact ⟨c1, c2, c3⟩
/-- while tokens are gathered -/
def TkInv (w wr : World) (l : List Tok) (v : Value) : Prop :=
  Below w.heap.size w wr ∧ wr.ownsRow w.heap.size 32 3 v l.length (flatK l) ∧ wr.heap[w.heap.size]? = some (.cells #[.int .i64 0, .int .i64 0] 26 (0, 0))
theorem TkInv.lt {w wr : World} {l : List Tok} {v : Value} (h : TkInv w wr l v) : w.heap.size < wr.heap.size := lt_of_block h.2.2
theorem TkInv.step {w wr w2 : World} {l : List Tok} {v : Value} (h : TkInv w wr l v) (hb : Below wr.heap.size wr w2) : TkInv w w2 l v :=
  ⟨after h.1 hb, h.2.1.kept (row := none) ⟨hb.os, hb.tape, hb.output, hb.size, fun k hk _ => hb.block k hk⟩ (by cases v.ownBlock <;> simp), by rw [hb.block _ h.lt]; exact h.2.2⟩
theorem TkInv.alloc {w wr : World} {l : List Tok} {v : Value} (h : TkInv w wr l v) (o : Obj) : TkInv w (wr.alloc o) l v := h.step ((Below.refl _ _).alloc (Nat.le_refl _) _)
theorem TkInv.yes {w wr w2 : World} {v v' : Value} {l : List Tok} {x : Tok} {o' : Obj} (h : TkInv w wr l v)
    (hown' : w2.ownsRow w.heap.size 32 3 v' (l.length + 1) (flatK l ++ [.int .i64 (x.1 : Nat), .int .i64 (x.2.1 : Nat), .int .i64 (x.2.2 : Nat)])) (hg : (wr.alloc o').grownBy w2 v.ownBlock) : TkInv w w2 (l ++ [x]) v' := by
  have hlt := h.lt
  obtain ⟨hbel, ho, hf⟩ := h
  refine ⟨Below.grown (hbel.alloc hbel.size o') hg (by simp; have := hbel.size; omega) (fun j hj => (ho.lt j hj).1), ?_, ?_⟩
  · rw [flatK_snoc]; simpa using hown'
  · rw [hg.block _ (by simp; omega) (fun e => ?_), Below.heap_alloc _ _ _ hlt]
    · exact hf
    · obtain ⟨_, h2⟩ := ho
      rcases h2 with ⟨rfl, _⟩ | ⟨g, cap, cur, rfl, _, hh, _⟩
      · simp [Value.ownBlock] at e
      · simp only [Value.ownBlock, Option.some.injEq] at e
        rw [← e] at hh
        rw [hf] at hh
        simp at hh
/-- a box beside the row stays -/
theorem TkInv.box {w wr w2 : World} {l : List Tok} {v : Value} {o o' : Obj} (h : TkInv w wr l v) (hg : ((wr.alloc o).alloc o').grownBy w2 v.ownBlock) : w2.heap[wr.heap.size]? = some o ∧ wr.heap.size < w2.heap.size := by
  obtain ⟨hbel, ho, hf⟩ := h
  have e : w2.heap[wr.heap.size]? = some o := by
    rw [hg.block _ (by simp; omega) (fun e => by have := (ho.lt _ e.symm).2; omega), Below.heap_alloc _ _ _ (by simp)]
    exact heap_alloc_new _ _
  exact ⟨e, lt_of_block e⟩
theorem three_cells {w : World} {b : Nat} {x y z : Value} {t : TypeId} (h : w.heap[b]? = some (.cells #[x, y, z] t (0, 0))) : w.cell? ⟨b, 0, none⟩ = some x ∧ w.cell? ⟨b, 1, none⟩ = some y ∧ w.cell? ⟨b, 2, none⟩ = some z ∧ b < w.heap.size :=
  ⟨by simp [World.cell?, h], by simp [World.cell?, h], by simp [World.cell?, h], lt_of_block h⟩
theorem two_cellsB {w : World} {b : Nat} {u v : Value} {t : TypeId} (h : w.heap[b]? = some (.cells #[u, v] t (0, 0))) : w.cell? ⟨b, 0, none⟩ = some u ∧ w.cell? ⟨b, 1, none⟩ = some v ∧ w.frozen? ⟨b, 0, none⟩ = false ∧ w.frozen? ⟨b, 1, none⟩ = false :=
  ⟨by simp [World.cell?, h], by simp [World.cell?, h], by simp [World.frozen?, h], by simp [World.frozen?, h]⟩

def LexPost (w : World) (R : List Tok × Nat × Nat) (e : Ending) (w' : World) : Prop :=
  Below w.heap.size w w' ∧ (R.2.1 = 0 → ∃ v, e = .returned (.tuple #[v, .agg #[.int .i64 0, .int .i64 0]]) ∧ ToksIn w w' R.1 v) ∧ (R.2.1 ≠ 0 → e = .returned (.tuple #[.slice none 0 0, .agg #[.int .i64 (R.2.1 : Nat), .int .i64 (R.2.2 : Nat)]]))

theorem lex_bad_post {w w' : World} {R : List Tok × Nat × Nat} {l : List Tok} {c a : Nat} (h : R = (l, c, a)) (hc : c ≠ 0) (hb : Below w.heap.size w w') : LexPost w R (.returned (.tuple #[.slice none 0 0, .agg #[.int .i64 (c : Nat), .int .i64 (a : Nat)]])) w' := by
  subst h
  exact ⟨hb, fun h => absurd h hc, fun _ => rfl⟩

set_option maxRecDepth 100000 in
set_option maxHeartbeats 4000000 in
theorem lex_any (s : ByteArray) (w : World) (hm : s.size ≤ maxLen) :
    Calls Try.prog 10 #[.string s] w (LexPost w (lexG (byS s) s.size)) := by
  have hm' := hm
  unfold maxLen at hm
  by_cases hs : 65536 < s.size
  · have E := Lib.hid (show lexG (byS s) s.size = ([], 2, 0) by unfold lexG; rw [if_pos hs])
    go_enter Try.func10, Try.ntmps10
    go_wp2_with fail
    refine bodyPost_ret (v := .tuple #[.slice none 0 0, .agg #[.int .i64 2, .int .i64 0]]) (by simp [results, Try.results10, go_sem]) rfl ?_
    exact lex_bad_post (c := 2) (a := 0) E.out (by decide) (by repeat (first | exact Below.refl _ _ | apply Below.setCell _ (by first | omega | (simp <;> omega)) | apply Below.alloc _ (by first | omega | (simp <;> omega))))
  · have hs' : s.size ≤ 65536 := by omega
    clear hs
    obtain ⟨i0, hi, hz0, hz1, hz2⟩ := info_parts infoTok
    have hg0 := gap_le (byS s) (Nat.zero_le s.size)
    have HG0 := Lib.hid (fun w => gap_any s 0 w hm' (Nat.zero_le _))
    obtain ⟨R, hR⟩ : ∃ R, toksG (byS s) s.size (gapG (byS s) s.size 0) 0 = R := ⟨_, rfl⟩
    have HR := Lib.hid hR
    have HLX : Hid (lexG (byS s) s.size = if R.2.1 = 0 then (R.1 ++ [(0, s.size, s.size)], 0, 0) else ([], R.2)) := Lib.hid (by unfold lexG; rw [if_neg (by omega), hR])
    have hrow0 : TkInv w (w.alloc (.cells #[.int .i64 0, .int .i64 0] 26)) [] (.slice none 0 0) := ⟨(Below.refl _ _).alloc (Nat.le_refl _) _, ⟨rfl, .inl ⟨rfl, rfl⟩⟩, heap_alloc_new _ _⟩
    have HI0 := Lib.hid hrow0
    have HM := Lib.hid hm'
    clear hR hrow0 hm'
    generalize gapG (byS s) s.size 0 = g0 at *
    generalize hLG : lexG (byS s) s.size = LG at *
    clear hLG
    go_enter Try.func10, Try.ntmps10
    go_wp2_with fail
    refine (HG0.out _).mono ?_
    rintro e w1 ⟨rfl, rfl⟩
    go_wp2_with fail
    go_loopw [4, 5] (fun u t wr => ∃ (a : Nat) (l : List Tok) (v : Value), a ≤ s.size ∧ l.length ≤ 16384 ∧ t = .int .i64 a ∧ u = v ∧ TkInv w wr l v ∧ R = (l ++ (toksG (byS s) s.size a l.length).1, (toksG (byS s) s.size a l.length).2)) (fun _ t _ => s.size - (intOf t).toNat)
    case atStart => exact ⟨g0, [], _, hg0, by simp, rfl, rfl, HI0.out, by rw [← HR.out]; rfl⟩
    case round =>
      obtain ⟨a, l, v, ha, hl, rfl, rfl, hinv, hk⟩ := hrel
      have HK := Lib.hid hk
      have HI := Lib.hid hinv
      clear hk hinv HI0 HR HG0
      by_cases hlt : a < s.size
      · have i1 : (a : Int) < (s.size : Int) := by omega
        have hbel := HI.out.1
        have hbs := hbel.size
        obtain ⟨-, -, hfl⟩ := HI.out
        obtain ⟨f0, f1, fz0, fz1⟩ := two_cellsB hfl
        have hflt := lt_of_block hfl
        obtain ⟨p, q, hshape⟩ : ∃ p q, u4 = .slice p l.length q := by
          rcases HI.out.2.1.2 with ⟨hv, hn⟩ | ⟨g, cap, cur, hv, _⟩
          · exact ⟨none, 0, by rw [hn]; exact hv⟩
          · exact ⟨some ⟨g, 0, none⟩, cap, hv⟩
        subst hshape
        by_cases hfull : l.length = 16384
        · have E := Lib.hid (show LG = ([], 2, a) by
            have h1 := HK.out
            rw [hfull, toks_full hlt] at h1
            rw [HLX.out, h1]; rfl)
          have t1 : ((l.length : Int) == 16384) = true := by rw [hfull]; rfl
          clear hfull
          go_wp2_with fail
          refine bodyPost_ret (v := .tuple #[.slice none 0 0, .agg #[.int .i64 2, .int .i64 (a : Nat)]]) (by simp [results, Try.results10, go_sem, f0, f1]) rfl ?_
          exact lex_bad_post (c := 2) (a := a) E.out (by decide) (by repeat (first | exact Below.refl _ _ | apply Below.setCell _ (by first | omega | (simp <;> omega)) | apply Below.alloc _ (by first | omega | (simp <;> omega)) | exact hbel | refine after ?_ hbel))
        · have t1 : ((l.length : Int) == 16384) = false := by simp; omega
          have HT := Lib.hid (fun w => token_any s a w hs' hlt)
          unfold TokenPost at HT
          by_cases hc : (tokenG (byS s) s.size a).1 = 0
          · obtain ⟨q1, q2, q3, q4⟩ := token_to hlt hc
            have HK2 := Lib.hid (toks_next hlt hfull hc)
            have EV := Lib.hid (show tokV a (tokenG (byS s) s.size a) = .agg #[.int .i64 ((tokenG (byS s) s.size a).2.1 : Nat), .int .i64 (a : Nat), .int .i64 ((tokenG (byS s) s.size a).2.2 : Nat)] by unfold tokV; rw [if_pos hc])
            rw [EV.out, hc] at HT
            have HGP := Lib.hid (fun w => gap_any s (tokenG (byS s) s.size a).2.2 w HM.out q2)
            have hge := gap_ge (byS s) q2
            have hgl := gap_le (byS s) q2
            clear hc EV
            generalize (tokenG (byS s) s.size a).2.1 = k at *
            generalize (tokenG (byS s) s.size a).2.2 = t at *
            have EK : Hid (R = ((l ++ [(k, a, t)]) ++ (toksG (byS s) s.size (gapG (byS s) s.size t) (l ++ [(k, a, t)]).length).1, (toksG (byS s) s.size (gapG (byS s) s.size t) (l ++ [(k, a, t)]).length).2)) := Lib.hid (by
              have h1 := HK.out
              rw [HK2.out] at h1
              rw [h1]; simp)
            clear HK2 HK
            generalize gapG (byS s) s.size t = a2 at *
            go_wp2_with fail
            refine (HT.out _).mono ?_
            rintro e w2 ⟨rfl, h12⟩
            have HI2 := Lib.hid (HI.out.step h12)
            have HO := Lib.hid HI2.out.2.1
            have hz12 := h12.size
            clear h12 f0 f1 fz0 fz1 hfl
            go_wp2_with (at_builtin; refine wpList_append_own _ rfl _ _ 23 rfl w.heap.size 32 i0 (.agg #[.int .i64 0, .int .i64 0, .int .i64 0]) 3 24 Try.underlying23 hi hz0 hz1 hz2 rfl (by decide) _ _ _ rfl ((HO.out.alloc _).alloc _) ⟨w2.heap.size + 1, 0, none⟩ 1 1 [.int .i64 (k : Nat), .int .i64 (a : Nat), .int .i64 (t : Nat)] rfl rfl ?c1 ?c2 ?c3 ?c4 ?c5 ?_)
            case c1 =>
              intro j u hj
              match j, hj with
              | 0, hj => simp at hj; subst hj; simp [Addr.add, go_sem]
              | 1, hj => simp at hj; subst hj; simp [Addr.add, go_sem]
              | 2, hj => simp at hj; subst hj; simp [Addr.add, go_sem]
            case c2 => intro u hu; simp at hu; rcases hu with rfl | rfl | rfl <;> rfl
            case c3 => unfold maxLen; omega
            case c4 => omega
            case c5 => simp; omega
            intro v' w3 hown' hgrow _
            obtain ⟨b1, b2⟩ := HI2.out.box hgrow
            obtain ⟨-, -, d2, -⟩ := three_cells b1
            have HV := Lib.hid ((HI2.out.alloc _).yes (x := (k, a, t)) hown' hgrow)
            clear hown' hgrow b1
            go_wp2_with fail
            refine (HGP.out _).mono ?_
            rintro e w4 ⟨rfl, rfl⟩
            go_wp2_with fail
            go_roundw
            case rel => exact ⟨a2, l ++ [(k, a, t)], _, hgl, by simp; omega, rfl, rfl, HV.out, EK.out⟩
            case measure => simp [intOf]; omega
          · have E := Lib.hid (show LG = ([], (tokenG (byS s) s.size a).1, a) by
              have h1 := HK.out
              rw [toks_bad hlt hfull hc] at h1
              rw [HLX.out, h1, if_neg hc])
            have EV := Lib.hid (show tokV a (tokenG (byS s) s.size a) = .agg #[.int .i64 0, .int .i64 0, .int .i64 0] by unfold tokV; rw [if_neg hc])
            rw [EV.out] at HT
            generalize (tokenG (byS s) s.size a).1 = c at *
            have t2 : ((c : Int) != 0) = true := by simp; omega
            have HC := Lib.hid hc
            clear hc hfull EV
            go_wp2_with fail
            refine (HT.out _).mono ?_
            rintro e w2 ⟨rfl, h12⟩
            have h02 := after hbel h12
            have hz12 := h12.size
            have k0 := keep h12 hflt f0
            have k1 := keep h12 hflt f1
            have k2 : w2.frozen? ⟨w.heap.size, 0, none⟩ = false := by rw [h12.frozen (p := ⟨w.heap.size, 0, none⟩) hflt]; exact fz0
            have k3 : w2.frozen? ⟨w.heap.size, 1, none⟩ = false := by rw [h12.frozen (p := ⟨w.heap.size, 1, none⟩) hflt]; exact fz1
            have hq : w.heap.size < w2.heap.size := by omega
            clear f0 f1 fz0 fz1
            go_wp2_with fail
            refine bodyPost_ret (v := .tuple #[.slice none 0 0, .agg #[.int .i64 (c : Nat), .int .i64 (a : Nat)]]) (by simp [results, Try.results10, go_sem, k0, k1, hq]) rfl ?_
            exact lex_bad_post (c := c) (a := a) E.out HC.out (by repeat (first | exact Below.refl _ _ | apply Below.setCell _ (by first | omega | (simp <;> omega)) | apply Below.alloc _ (by first | omega | (simp <;> omega)) | exact h02 | refine after ?_ h02))
      · have hae : a = s.size := by omega
        have HK1 := Lib.hid (show R = (l, 0, a) by
          have h1 := HK.out
          rw [toks_end (by omega)] at h1
          rw [h1]; simp)
        have E := Lib.hid (show LG = (l ++ [(0, s.size, s.size)], 0, 0) by rw [HLX.out, HK1.out]; rfl)
        have hbel := HI.out.1
        have hbs := hbel.size
        have HO := Lib.hid HI.out.2.1
        subst hae
        clear HK
        go_wp2_with (at_builtin; refine wpList_append_own _ rfl _ _ 23 rfl w.heap.size 32 i0 (.agg #[.int .i64 0, .int .i64 0, .int .i64 0]) 3 24 Try.underlying23 hi hz0 hz1 hz2 rfl (by decide) _ _ _ rfl ((HO.out.alloc _).alloc _) ⟨wr.heap.size + 1, 0, none⟩ 1 1 [.int .i64 ((0 : Nat) : Int), .int .i64 (s.size : Nat), .int .i64 (s.size : Nat)] rfl rfl ?c1 ?c2 ?c3 ?c4 ?c5 ?_)
        case c1 =>
          intro j u hj
          match j, hj with
          | 0, hj => simp at hj; subst hj; simp [Addr.add, go_sem]
          | 1, hj => simp at hj; subst hj; simp [Addr.add, go_sem]
          | 2, hj => simp at hj; subst hj; simp [Addr.add, go_sem]
        case c2 => intro u hu; simp at hu; rcases hu with rfl | rfl | rfl <;> rfl
        case c3 => unfold maxLen; omega
        case c4 => omega
        case c5 => simp; omega
        intro v' w3 hown' hgrow _
        have hV := (HI.out.alloc (.cells #[.int .i64 ((0 : Nat) : Int), .int .i64 (s.size : Nat), .int .i64 (s.size : Nat)] 32)).yes (x := (0, s.size, s.size)) hown' hgrow
        have hfl := hV.2.2
        obtain ⟨f0, f1, fz0, fz1⟩ := two_cellsB hfl
        have hq := lt_of_block hfl
        obtain ⟨g, cap, rfl, r1, r2, r3, r4, r5⟩ := tok_of_own (l := l ++ [(0, s.size, s.size)]) hV.2.1 (by simp)
        have HV := Lib.hid hV
        have HT5 := Lib.hid r5
        have HT4 := Lib.hid r4
        clear hown' hgrow hV hfl r5 r4
        have hne : g ≠ w.heap.size := fun e => by
          have h1 := HV.out.2.2
          rcases HV.out.2.1.2 with ⟨hv, _⟩ | ⟨g', cap', cur, hv, _, hh, _⟩
          · cases hv
          · injection hv with hv
            injection hv with hv
            injection hv with hv
            rw [← hv, e, h1] at hh
            simp at hh
        go_wp2_with fail
        refine bodyPost_ret (v := .tuple #[.slice (some ⟨g, 0, none⟩) (l ++ [(0, s.size, s.size)]).length cap, .agg #[.int .i64 0, .int .i64 0]]) (by simp [results, Try.results10, go_sem, f0, f1]) rfl ?_
        rw [E.out]
        refine ⟨(HV.out.1.setCell (Nat.le_refl _) _).setCell (Nat.le_refl _) _, fun _ => ⟨_, rfl, g, cap, rfl, r1, by simpa [World.setCell] using r2, r3, HT4.out, fun i hi => ?_⟩, fun h => absurd rfl h⟩
        obtain ⟨x0, x1, x2⟩ := HT5.out i hi
        refine ⟨?_, ?_, ?_⟩
        all_goals
          rw [World.cell?_setCell_other _ _ _ _ (by intro hh; injection hh; omega), World.cell?_setCell_other _ _ _ _ (by intro hh; injection hh; omega)]
          assumption

end Go.Proofs.Ytgcokjobnpjhhaa
