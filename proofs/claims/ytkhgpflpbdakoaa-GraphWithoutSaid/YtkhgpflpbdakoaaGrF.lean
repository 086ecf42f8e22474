/- Contract of a graph's Add where an edge is added. -/
import Derived.Test.YtkhgpflpbdakoaaGrD
import Derived.Test.YtkhgpflpbdakoaaGrE
namespace Go.Proofs.Ytkhgpflpbdakoaa
open Go Go.RowKit
set_option linter.unusedVariables false
set_option linter.unusedSimpArgs false

theorem infoI : (Try.prog.info? 3).map (fun i => (i.zero, i.size, i.bytes)) = some (some (.int .i64 0), 1, 8) := by kernel_rfl
theorem infoE : (Try.prog.info? 29).map (fun i => (i.zero, i.size, i.bytes)) = some (some (.agg #[.int .i64 0, .int .i64 0, .int .i64 0, .int .i64 0]), 4, 32) := by kernel_rfl
/-- what is left behind an added edge -/
def AddPost (w : World) (B n : Nat) (L : List Eg) (S : GrS) (e : Eg) (w' : World) : Prop :=
  ∃ S', S'.g = S.g ∧ GrM w' B n (L ++ [e]) S' ∧ Chg B S.own w w' ∧ ∀ k, S'.own k → S.own k ∨ w.heap.size ≤ k

set_option maxRecDepth 100000 in
set_option maxHeartbeats 8000000 in
theorem add_new {w : World} {B n : Nat} {L : List Eg} {S : GrS} (h : GrM w B n L S) (e : Eg) (he : EgIn e) (h1 : okE n e) (h2 : e ∉ L) (hl : L.length < 16384) (hB : B ≤ w.heap.size) :
    Calls Try.prog 10 #[(.pointer (some ⟨S.g, 0, none⟩)), .agg #[.int .i64 e.1, .int .i64 e.2.1, .int .i64 e.2.2.1, .int .i64 e.2.2.2]] w fun x w' => x = .returned (.int .i64 0) ∧ AddPost w B n L S e w' := by
  obtain ⟨b, hb, hbb⟩ : ∃ b : Bool, (b = true ↔ e ∈ L) ∧ b = false := ⟨false, by simp [h2], rfl⟩
  obtain ⟨es, ec, hev⟩ := own_any_shape h.es
  have HS := Lib.hid hev
  have HB := Lib.hid hb
  have HE := Lib.hid he
  have G := Lib.hid h
  have H1 := Lib.hid h1
  have HBB := Lib.hid hbb
  have HL := Lib.hid hl
  have HW := Lib.hid hB
  clear hb he h h1 h2 hbb hl hB hev
  obtain ⟨W1, hW1⟩ : ∃ W1, W1 = w.alloc (.cells (egC e).toArray 29) := ⟨_, rfl⟩
  have A1 : Hid (AddS w e W1) := Lib.hid (by rw [hW1]; exact AddS.start w e)
  go_enter Try.func10, Try.ntmps10
  go_wp2_with fail
  have hW2 : w.alloc (.cells #[.int .i64 e.1, .int .i64 e.2.1, .int .i64 e.2.2.1, .int .i64 e.2.2.2] 29) = W1 := hW1.symm
  rw [hW2]
  clear hW1 hW2
  obtain ⟨c0, c1, c2, c3, d0, d1, d2, d3, lk, -⟩ := A1.out.all G.out HE.out b HB.out
  go_region_held3 (fun w' => w'.cell? ⟨S.g, 0, none⟩ = some (.int .i64 n) ∧ w'.cell? ⟨S.g, 1, none⟩ = some S.ev ∧ w'.cell? ⟨S.g, 2, none⟩ = some (.map (some S.mo)) ∧ w'.cell? ⟨S.g, 3, none⟩ = some (.map (some S.mt)) ∧ w'.cell? ⟨w.heap.size, 0, none⟩ = some (.int .i64 e.1) ∧ w'.cell? ⟨w.heap.size, 1, none⟩ = some (.int .i64 e.2.1) ∧ w'.cell? ⟨w.heap.size, 2, none⟩ = some (.int .i64 e.2.2.1) ∧ w'.cell? ⟨w.heap.size, 3, none⟩ = some (.int .i64 e.2.2.2) ∧ (Instr.lookup 55 (.map (some S.mt)) (.agg #[.int .i64 e.1, .int .i64 e.2.1, .int .i64 e.2.2.1, .int .i64 e.2.2.2]) true).run Try.prog w' = .ok (.tuple #[.agg #[], .bool b]) w' ∧ AddS w e w')
    (first | exact A1.out.all G.out HE.out b HB.out | exact A1.out.drew.all G.out HE.out b HB.out | exact (A1.out.alloc _).all G.out HE.out b HB.out | exact (A1.out.alloc _).drew.all G.out HE.out b HB.out | exact (A1.out.drew.alloc _).all G.out HE.out b HB.out) (fail)
  all_goals
    have A2 : Hid (AddS w e (W1.alloc (.cells #[] 58)).drew) := Lib.hid (A1.out.alloc _).drew
    clear c0 c1 c2 c3 d0 d1 d2 d3 lk A1
    generalize (W1.alloc (.cells #[] 58)).drew = W2 at *
  all_goals
    obtain ⟨d0, d1, d2, d3, dl, df⟩ := A2.out.2.four
    obtain ⟨c0, c1, c2, c3, cl, cf⟩ := (G.out.step A2.out.1).cells
    have hn1 := H1.out
    have hbb := HBB.out
    subst hbb
    unfold okE at hn1
    have HT := Lib.hid (has_yes (G.out.step A2.out.1) hn1.2)
    clear HB H1 HBB
    by_cases q1 : e.1 = -1
    · clear hn1
      have i1 : ((L.length : Int) == 16384) = false := by have := HL.out; simp; omega
      rw [HS.out] at c1
      go_wp2_with fail
      refine HT.out.mono ?_
      rintro x w' ⟨rfl, hw⟩
      replace hw := hw.symm
      subst hw
      go_wp2_with fail
      clear q1
      have G2 := Lib.hid (G.out.step A2.out.1)
      have C2 : Hid (Chg B S.own w W2.drew) := Lib.hid (Chg.of_below (A2.out.1.trans (Below.refl _ _).drew) HW.out)
      have B2 : Hid (B ≤ W2.heap.size) := Lib.hid (Nat.le_trans HW.out A2.out.1.size)
      have hwb := HW.out
      clear G c0 c1 c2 c3 d0 d1 d2 d3 HT HW
      obtain ⟨W3, hup, g3, k3, m3⟩ := (show GrP W2.drew B n L L L S from G2.out.step (Below.refl _ _).drew).put_there HE.out (by have := HL.out; omega) B2.out
      have G3 := Lib.hid g3
      have C3 := Lib.hid (C2.out.trans k3 (fun k q => .inl q))
      have HWB := Lib.hid hwb
      clear hwb
      have X3 : Hid (Bx 29 W3 w.heap.size (egC e)) := Lib.hid (A2.out.2.at_ (k := w.heap.size) (m3 _ _ _ _ A2.out.2))
      clear k3 m3 g3
      have KA : Hid (W2.drew.cell? ⟨S.g, 3, none⟩ = some (.map (some S.mt)) ∧ W2.drew.cell? ⟨w.heap.size, 0, none⟩ = some (.int .i64 e.1) ∧ W2.drew.cell? ⟨w.heap.size, 1, none⟩ = some (.int .i64 e.2.1) ∧ W2.drew.cell? ⟨w.heap.size, 2, none⟩ = some (.int .i64 e.2.2.1) ∧ W2.drew.cell? ⟨w.heap.size, 3, none⟩ = some (.int .i64 e.2.2.2)) :=
        Lib.hid ⟨G2.out.cells.2.2.2.1, A2.out.2.four.1, A2.out.2.four.2.1, A2.out.2.four.2.2.1, A2.out.2.four.2.2.2.1⟩
      have KB : Hid (W3.cell? ⟨S.g, 3, none⟩ = some (.map (some S.mt)) ∧ W3.cell? ⟨w.heap.size, 0, none⟩ = some (.int .i64 e.1) ∧ W3.cell? ⟨w.heap.size, 1, none⟩ = some (.int .i64 e.2.1) ∧ W3.cell? ⟨w.heap.size, 2, none⟩ = some (.int .i64 e.2.2.1) ∧ W3.cell? ⟨w.heap.size, 3, none⟩ = some (.int .i64 e.2.2.2)) :=
        Lib.hid ⟨G3.out.cells.2.2.2.1, X3.out.four.1, X3.out.four.2.1, X3.out.four.2.2.1, X3.out.four.2.2.2.1⟩
      have hup : (Instr.mapUpdate 55 (.map (some S.mt)) (.agg #[.int .i64 e.1, .int .i64 e.2.1, .int .i64 e.2.2.1, .int .i64 e.2.2.2]) (.agg #[])).run Try.prog W2.drew = .ok () W3 := hup
      go_region_held3 (fun w' => w'.cell? ⟨S.g, 3, none⟩ = some (.map (some S.mt)) ∧ w'.cell? ⟨w.heap.size, 0, none⟩ = some (.int .i64 e.1) ∧ w'.cell? ⟨w.heap.size, 1, none⟩ = some (.int .i64 e.2.1) ∧ w'.cell? ⟨w.heap.size, 2, none⟩ = some (.int .i64 e.2.2.1) ∧ w'.cell? ⟨w.heap.size, 3, none⟩ = some (.int .i64 e.2.2.2)) (first | exact KA.out | exact KB.out) (fail)
      go_wp2_with fail
      clear hup KA KB G2 C2
      obtain ⟨W4, hW4⟩ : ∃ W4, W4 = (W3.alloc (.cells #[.int .i64 (L.length : Int)] 3)).drew := ⟨_, rfl⟩
      have h34 : Below W3.heap.size W3 W4 := by rw [hW4]; exact ((Below.refl W3.heap.size W3).alloc (Nat.le_refl _) _).trans (Below.refl _ _).drew
      have g4 := G3.out.step h34
      have B3 : Hid (B ≤ W3.heap.size) := Lib.hid (Nat.le_trans HWB.out C3.out.1.size)
      have B4 : Hid (B ≤ W4.heap.size) := Lib.hid (Nat.le_trans B3.out h34.size)
      have C4 := Lib.hid (C3.out.trans (Chg.of_below (own := S.own) h34 B3.out) (fun k q => .inl q))
      have X4 : Hid (Bx 29 W4 w.heap.size (egC e)) := Lib.hid (X3.out.keep h34)
      have G4 := Lib.hid g4
      have lk1 : (Instr.lookup 54 (.map (some S.mo)) (.int .i64 e.1) false).run Try.prog W3.drew = .ok (S.at_ e.1) W3.drew := (show GrP W3.drew B n L L (L ++ [e]) S from G3.out.step (Below.refl _ _).drew).at_look HE.out.1
      have lk2 : (Instr.lookup 54 (.map (some S.mo)) (.int .i64 e.1) false).run Try.prog ((W3.alloc (.cells #[.int .i64 (L.length : Int)] 3)).drew) = .ok (S.at_ e.1) ((W3.alloc (.cells #[.int .i64 (L.length : Int)] 3)).drew) := by rw [← hW4]; exact G4.out.at_look HE.out.1
      have HR4 := Lib.hid (G4.out.at_row e.1)
      have NEWS : Hid (∀ j u, ([.int .i64 (L.length : Int)] : List Value)[j]? = some u → W4.cell? ((⟨W3.heap.size, 0, none⟩ : Addr).add j) = some u) := Lib.hid (by
        intro j u hj
        rw [add_at, Nat.zero_add, hW4]
        have := (Bx.new 3 W3 #[.int .i64 (L.length : Int)]).cell j
        exact this.trans hj)
      have ONE : Hid (∀ u ∈ ([.int .i64 (L.length : Int)] : List Value), u.oneCell' = true) := Lib.hid (by intro u hu; rw [List.mem_singleton] at hu; rw [hu]; rfl)
      have N1 : Hid ((idx L e.1).length + 1 ≤ maxLen) := Lib.hid (by have := HL.out; have := idx_len L e.1; unfold maxLen; omega)
      have N2 : Hid (((idx L e.1).length + 1) * 8 ≤ 140737488355328) := Lib.hid (by have := HL.out; have := idx_len L e.1; omega)
      have HL5 : Hid (L.length < 100000) := Lib.hid (by have := HL.out; omega)
      obtain ⟨j0, hj, jz0, jz1, jz2⟩ := info_parts infoI
      have KA : Hid (W3.drew.cell? ⟨S.g, 1, none⟩ = some (.slice es L.length ec) ∧ W3.drew.cell? ⟨S.g, 2, none⟩ = some (.map (some S.mo)) ∧ W3.drew.cell? ⟨w.heap.size, 0, none⟩ = some (.int .i64 e.1)) :=
        Lib.hid ⟨by rw [← HS.out]; exact G3.out.cells.2.1, G3.out.cells.2.2.1, X3.out.four.1⟩
      have KB : Hid (((W3.alloc (.cells #[.int .i64 (L.length : Int)] 3)).drew).cell? ⟨S.g, 1, none⟩ = some (.slice es L.length ec) ∧ ((W3.alloc (.cells #[.int .i64 (L.length : Int)] 3)).drew).cell? ⟨S.g, 2, none⟩ = some (.map (some S.mo)) ∧ ((W3.alloc (.cells #[.int .i64 (L.length : Int)] 3)).drew).cell? ⟨w.heap.size, 0, none⟩ = some (.int .i64 e.1)) :=
        Lib.hid (by rw [← hW4]; exact ⟨by rw [← HS.out]; exact G4.out.cells.2.1, G4.out.cells.2.2.1, X4.out.four.1⟩)
      have HW4 := Lib.hid hW4
      clear hW4 h34 g4
      go_region_held3 (fun w' => w'.cell? ⟨S.g, 1, none⟩ = some (.slice es L.length ec) ∧ w'.cell? ⟨S.g, 2, none⟩ = some (.map (some S.mo)) ∧ w'.cell? ⟨w.heap.size, 0, none⟩ = some (.int .i64 e.1)) (first | exact KA.out | exact KB.out | exact K5.out | exact K6.out)
        ((refine step_append_lies _ (by rfl) (.tmp 61) (.tmp 67) 44 (by rfl) B 3 j0 (.int .i64 0) 1 8 Try.underlying44 hj jz0 jz1 jz2 rfl (by decide) (S.at_ e.1) (idx L e.1).length (natC (idx L e.1)) (by rfl) (HW4.out ▸ HR4.out) ⟨W3.heap.size, 0, none⟩ 1 1 [.int .i64 (L.length : Int)] (by rfl) rfl (HW4.out ▸ NEWS.out) ONE.out (by decide) N1.out N2.out (HW4.out ▸ B4.out) _ rfl ?_
          intro g5 c5 w5 hown hgrow hat hlt
          rw [← HW4.out] at hgrow hat
          obtain ⟨w6, hup6, g6, k6, m6, o6⟩ := G4.out.put_out HE.out B4.out HL5.out hown hgrow hat
          have K5 : Hid (w5.cell? ⟨S.g, 1, none⟩ = some (.slice es L.length ec) ∧ w5.cell? ⟨S.g, 2, none⟩ = some (.map (some S.mo)) ∧ w5.cell? ⟨w.heap.size, 0, none⟩ = some (.int .i64 e.1)) := Lib.hid (by
            have q := G4.out.box.at_ (k := S.g) (m6 _ _ _ _ G4.out.box (by decide)).1
            exact ⟨by rw [← HS.out]; exact q.four.2.1, q.four.2.2.1, (X4.out.at_ (k := w.heap.size) (m6 _ _ _ _ X4.out (by decide)).1).four.1⟩)
          have X6 : Hid (Bx 29 w6 w.heap.size (egC e)) := Lib.hid (X4.out.at_ (k := w.heap.size) (m6 _ _ _ _ X4.out (by decide)).2)
          have K6 : Hid (w6.cell? ⟨S.g, 1, none⟩ = some (.slice es L.length ec) ∧ w6.cell? ⟨S.g, 2, none⟩ = some (.map (some S.mo)) ∧ w6.cell? ⟨w.heap.size, 0, none⟩ = some (.int .i64 e.1)) := Lib.hid (by
            have q := G4.out.box.at_ (k := S.g) (m6 _ _ _ _ G4.out.box (by decide)).2
            exact ⟨by rw [← HS.out]; exact q.four.2.1, q.four.2.2.1, X6.out.four.1⟩)
          have C6 := Lib.hid (C4.out.trans k6 (fun k q => .inl q))
          have O6 : Hid (∀ k, (S.putAt e.1 (.slice (some ⟨g5, 0, none⟩) ((idx L e.1).length + 1) c5)).own k → S.own k ∨ w.heap.size ≤ k) := Lib.hid (fun k q => (o6 k q).imp id (fun q => Nat.le_trans C4.out.1.size q))
          have G6 := Lib.hid g6
          clear hown hgrow hat hlt g6 k6 m6 o6))
      all_goals
        go_wp2_with fail
        clear lk1 lk2 KA KB K5 hup6 G4 G3 C3 C4 X3 X4 HR4 NEWS ONE N1 N2 HL5 B3 B4 HW4
        have E6 : Hid ((S.putAt e.1 (.slice (some ⟨g5, 0, none⟩) ((idx L e.1).length + 1) c5)).g = S.g ∧ (S.putAt e.1 (.slice (some ⟨g5, 0, none⟩) ((idx L e.1).length + 1) c5)).ev = .slice es L.length ec) := Lib.hid ⟨rfl, HS.out⟩
        generalize S.putAt e.1 (.slice (some ⟨g5, 0, none⟩) ((idx L e.1).length + 1) c5) = S6 at *
        obtain ⟨W7, hW7⟩ : ∃ W7, W7 = (w6.alloc (.cells #[.int .i64 e.1, .int .i64 e.2.1, .int .i64 e.2.2.1, .int .i64 e.2.2.2] 29)).drew := ⟨_, rfl⟩
        have h67 : Below w6.heap.size w6 W7 := by rw [hW7]; exact ((Below.refl w6.heap.size w6).alloc (Nat.le_refl _) _).trans (Below.refl _ _).drew
        have B6 : Hid (B ≤ w6.heap.size) := Lib.hid (Nat.le_trans HWB.out C6.out.1.size)
        have B7 : Hid (B ≤ W7.heap.size) := Lib.hid (Nat.le_trans B6.out h67.size)
        have G7 := Lib.hid (G6.out.step h67)
        have C7 := Lib.hid (C6.out.trans (Chg.of_below (own := S.own) h67 B6.out) (fun k q => .inl q))
        have HR7 : Hid (W7.ownsRow B 29 4 (.slice es L.length ec) L.length (flatG L)) := Lib.hid (by rw [← E6.out.2]; exact G7.out.es)
        have NEWS : Hid (∀ j u, (egC e)[j]? = some u → W7.cell? ((⟨w6.heap.size, 0, none⟩ : Addr).add j) = some u) := Lib.hid (by
          intro j u hj
          rw [add_at, Nat.zero_add, hW7]
          have := (Bx.new 29 w6 (egC e).toArray).cell j
          exact this.trans hj)
        have ONE : Hid (∀ u ∈ egC e, u.oneCell' = true) := Lib.hid (by
          intro u hu
          unfold egC at hu
          simp only [List.mem_cons, List.not_mem_nil, or_false] at hu
          rcases hu with rfl | rfl | rfl | rfl <;> rfl)
        have N1 : Hid (L.length + 1 ≤ maxLen) := Lib.hid (by have := HL.out; unfold maxLen; omega)
        have N2 : Hid ((L.length + 1) * 32 ≤ 140737488355328) := Lib.hid (by have := HL.out; omega)
        obtain ⟨j1, hj1, jy0, jy1, jy2⟩ := info_parts infoE
        have HW7 := Lib.hid hW7
        obtain ⟨x0, x1, x2, x3, xl, xf⟩ := X6.out.four
        have k1 := K6.out.1
        have gl := G6.out.box.lt
        rw [E6.out.1] at gl
        clear hW7 h67 hup K6 X6 C6 HWB
        go_region_law (refine step_append_lies _ (by rfl) (.tmp 73) (.tmp 75) 22 (by rfl) B 29 j1 (.agg #[.int .i64 0, .int .i64 0, .int .i64 0, .int .i64 0]) 4 32 Try.underlying22 hj1 jy0 jy1 jy2 rfl (by decide) (.slice es L.length ec) L.length (flatG L) (by rfl) (HW7.out ▸ HR7.out) ⟨w6.heap.size, 0, none⟩ 1 1 (egC e) (by rfl) rfl (HW7.out ▸ NEWS.out) ONE.out (by decide) N1.out N2.out (HW7.out ▸ B7.out) _ rfl ?_
                       intro g8 c8 w8 hown hgrow hat hlt
                       rw [← HW7.out] at hgrow hat
                       have hq := G7.out.step_es HE.out hown (by rw [E6.out.2]; exact hgrow)
                       have G8 : Hid (GrP (w8.setCell ⟨S.g, 1, none⟩ (.slice (some ⟨g8, 0, none⟩) (L.length + 1) c8)) B n (L ++ [e]) (L ++ [e]) (L ++ [e]) { S6 with ev := .slice (some ⟨g8, 0, none⟩) (L.length + 1) c8 }) := Lib.hid (by rw [← E6.out.1]; exact hq.1)
                       have b8 := hq.2
                       rw [E6.out.1] at b8
                       have C8 := Lib.hid (C7.out.trans (Chg.of_grown (own := fun k => S.own k ∨ w.heap.size ≤ k) hgrow B7.out (fun b q => ⟨row_base HR7.out q, O6.out b (.inr (.inr (.inr (.inl (by rw [E6.out.2]; exact q)))))⟩)) (fun k q => q))
                       have Q8 : Hid (g8 < w8.heap.size ∧ (W7.heap.size = g8 ∨ S6.ev.ownBlock = some g8)) := Lib.hid ⟨hlt, hat.symm.imp (fun q => q.symm) (fun q => by rw [E6.out.2]; exact q)⟩
                       obtain ⟨y0, y1, y2, y3, yl, yf⟩ := b8.four
                       clear hown hgrow hat hlt hq b8)
        all_goals
          go_wp2_with fail
          go_ret
          refine ⟨rfl, _, ?_, G8.out, C8.out.set (by rw [← E6.out.1]; exact G6.out.bg) (.inl rfl) 1 _, ?_⟩
          · exact E6.out.1
          · rintro k (q | q | q | q | q)
            · exact O6.out k (.inl q)
            · exact O6.out k (.inr (.inl q))
            · exact O6.out k (.inr (.inr (.inl q)))
            · have q : g8 = k := by simpa [Value.ownBlock] using q
              rcases Q8.out.2 with q2 | q2
              · have := C7.out.1.size
                exact .inr (by omega)
              · exact O6.out k (.inr (.inr (.inr (.inl (by rw [q2, q])))))
            · exact O6.out k (.inr (.inr (.inr (.inr q))))
    · have HF := Lib.hid (has_yes (G.out.step A2.out.1) (hn1.1.resolve_left q1))
      clear hn1
      have i1 : ((L.length : Int) == 16384) = false := by have := HL.out; simp; omega
      rw [HS.out] at c1
      go_wp2_with fail
      refine HF.out.mono ?_
      rintro x W2' ⟨rfl, hw⟩
      replace hw := hw.symm
      subst hw
      go_wp2_with fail
      refine HT.out.mono ?_
      rintro x W2' ⟨rfl, hw⟩
      replace hw := hw.symm
      subst hw
      go_wp2_with fail
      clear q1 HF
      have G2 := Lib.hid (G.out.step A2.out.1)
      have C2 : Hid (Chg B S.own w W2.drew) := Lib.hid (Chg.of_below (A2.out.1.trans (Below.refl _ _).drew) HW.out)
      have B2 : Hid (B ≤ W2.heap.size) := Lib.hid (Nat.le_trans HW.out A2.out.1.size)
      have hwb := HW.out
      clear G c0 c1 c2 c3 d0 d1 d2 d3 HT HW
      obtain ⟨W3, hup, g3, k3, m3⟩ := (show GrP W2.drew B n L L L S from G2.out.step (Below.refl _ _).drew).put_there HE.out (by have := HL.out; omega) B2.out
      have G3 := Lib.hid g3
      have C3 := Lib.hid (C2.out.trans k3 (fun k q => .inl q))
      have HWB := Lib.hid hwb
      clear hwb
      have X3 : Hid (Bx 29 W3 w.heap.size (egC e)) := Lib.hid (A2.out.2.at_ (k := w.heap.size) (m3 _ _ _ _ A2.out.2))
      clear k3 m3 g3
      have KA : Hid (W2.drew.cell? ⟨S.g, 3, none⟩ = some (.map (some S.mt)) ∧ W2.drew.cell? ⟨w.heap.size, 0, none⟩ = some (.int .i64 e.1) ∧ W2.drew.cell? ⟨w.heap.size, 1, none⟩ = some (.int .i64 e.2.1) ∧ W2.drew.cell? ⟨w.heap.size, 2, none⟩ = some (.int .i64 e.2.2.1) ∧ W2.drew.cell? ⟨w.heap.size, 3, none⟩ = some (.int .i64 e.2.2.2)) :=
        Lib.hid ⟨G2.out.cells.2.2.2.1, A2.out.2.four.1, A2.out.2.four.2.1, A2.out.2.four.2.2.1, A2.out.2.four.2.2.2.1⟩
      have KB : Hid (W3.cell? ⟨S.g, 3, none⟩ = some (.map (some S.mt)) ∧ W3.cell? ⟨w.heap.size, 0, none⟩ = some (.int .i64 e.1) ∧ W3.cell? ⟨w.heap.size, 1, none⟩ = some (.int .i64 e.2.1) ∧ W3.cell? ⟨w.heap.size, 2, none⟩ = some (.int .i64 e.2.2.1) ∧ W3.cell? ⟨w.heap.size, 3, none⟩ = some (.int .i64 e.2.2.2)) :=
        Lib.hid ⟨G3.out.cells.2.2.2.1, X3.out.four.1, X3.out.four.2.1, X3.out.four.2.2.1, X3.out.four.2.2.2.1⟩
      have hup : (Instr.mapUpdate 55 (.map (some S.mt)) (.agg #[.int .i64 e.1, .int .i64 e.2.1, .int .i64 e.2.2.1, .int .i64 e.2.2.2]) (.agg #[])).run Try.prog W2.drew = .ok () W3 := hup
      go_region_held3 (fun w' => w'.cell? ⟨S.g, 3, none⟩ = some (.map (some S.mt)) ∧ w'.cell? ⟨w.heap.size, 0, none⟩ = some (.int .i64 e.1) ∧ w'.cell? ⟨w.heap.size, 1, none⟩ = some (.int .i64 e.2.1) ∧ w'.cell? ⟨w.heap.size, 2, none⟩ = some (.int .i64 e.2.2.1) ∧ w'.cell? ⟨w.heap.size, 3, none⟩ = some (.int .i64 e.2.2.2)) (first | exact KA.out | exact KB.out) (fail)
      go_wp2_with fail
      clear hup KA KB G2 C2
      obtain ⟨W4, hW4⟩ : ∃ W4, W4 = (W3.alloc (.cells #[.int .i64 (L.length : Int)] 3)).drew := ⟨_, rfl⟩
      have h34 : Below W3.heap.size W3 W4 := by rw [hW4]; exact ((Below.refl W3.heap.size W3).alloc (Nat.le_refl _) _).trans (Below.refl _ _).drew
      have g4 := G3.out.step h34
      have B3 : Hid (B ≤ W3.heap.size) := Lib.hid (Nat.le_trans HWB.out C3.out.1.size)
      have B4 : Hid (B ≤ W4.heap.size) := Lib.hid (Nat.le_trans B3.out h34.size)
      have C4 := Lib.hid (C3.out.trans (Chg.of_below (own := S.own) h34 B3.out) (fun k q => .inl q))
      have X4 : Hid (Bx 29 W4 w.heap.size (egC e)) := Lib.hid (X3.out.keep h34)
      have G4 := Lib.hid g4
      have lk1 : (Instr.lookup 54 (.map (some S.mo)) (.int .i64 e.1) false).run Try.prog W3.drew = .ok (S.at_ e.1) W3.drew := (show GrP W3.drew B n L L (L ++ [e]) S from G3.out.step (Below.refl _ _).drew).at_look HE.out.1
      have lk2 : (Instr.lookup 54 (.map (some S.mo)) (.int .i64 e.1) false).run Try.prog ((W3.alloc (.cells #[.int .i64 (L.length : Int)] 3)).drew) = .ok (S.at_ e.1) ((W3.alloc (.cells #[.int .i64 (L.length : Int)] 3)).drew) := by rw [← hW4]; exact G4.out.at_look HE.out.1
      have HR4 := Lib.hid (G4.out.at_row e.1)
      have NEWS : Hid (∀ j u, ([.int .i64 (L.length : Int)] : List Value)[j]? = some u → W4.cell? ((⟨W3.heap.size, 0, none⟩ : Addr).add j) = some u) := Lib.hid (by
        intro j u hj
        rw [add_at, Nat.zero_add, hW4]
        have := (Bx.new 3 W3 #[.int .i64 (L.length : Int)]).cell j
        exact this.trans hj)
      have ONE : Hid (∀ u ∈ ([.int .i64 (L.length : Int)] : List Value), u.oneCell' = true) := Lib.hid (by intro u hu; rw [List.mem_singleton] at hu; rw [hu]; rfl)
      have N1 : Hid ((idx L e.1).length + 1 ≤ maxLen) := Lib.hid (by have := HL.out; have := idx_len L e.1; unfold maxLen; omega)
      have N2 : Hid (((idx L e.1).length + 1) * 8 ≤ 140737488355328) := Lib.hid (by have := HL.out; have := idx_len L e.1; omega)
      have HL5 : Hid (L.length < 100000) := Lib.hid (by have := HL.out; omega)
      obtain ⟨j0, hj, jz0, jz1, jz2⟩ := info_parts infoI
      have KA : Hid (W3.drew.cell? ⟨S.g, 1, none⟩ = some (.slice es L.length ec) ∧ W3.drew.cell? ⟨S.g, 2, none⟩ = some (.map (some S.mo)) ∧ W3.drew.cell? ⟨w.heap.size, 0, none⟩ = some (.int .i64 e.1)) :=
        Lib.hid ⟨by rw [← HS.out]; exact G3.out.cells.2.1, G3.out.cells.2.2.1, X3.out.four.1⟩
      have KB : Hid (((W3.alloc (.cells #[.int .i64 (L.length : Int)] 3)).drew).cell? ⟨S.g, 1, none⟩ = some (.slice es L.length ec) ∧ ((W3.alloc (.cells #[.int .i64 (L.length : Int)] 3)).drew).cell? ⟨S.g, 2, none⟩ = some (.map (some S.mo)) ∧ ((W3.alloc (.cells #[.int .i64 (L.length : Int)] 3)).drew).cell? ⟨w.heap.size, 0, none⟩ = some (.int .i64 e.1)) :=
        Lib.hid (by rw [← hW4]; exact ⟨by rw [← HS.out]; exact G4.out.cells.2.1, G4.out.cells.2.2.1, X4.out.four.1⟩)
      have HW4 := Lib.hid hW4
      clear hW4 h34 g4
      go_region_held3 (fun w' => w'.cell? ⟨S.g, 1, none⟩ = some (.slice es L.length ec) ∧ w'.cell? ⟨S.g, 2, none⟩ = some (.map (some S.mo)) ∧ w'.cell? ⟨w.heap.size, 0, none⟩ = some (.int .i64 e.1)) (first | exact KA.out | exact KB.out | exact K5.out | exact K6.out)
        ((refine step_append_lies _ (by rfl) (.tmp 61) (.tmp 67) 44 (by rfl) B 3 j0 (.int .i64 0) 1 8 Try.underlying44 hj jz0 jz1 jz2 rfl (by decide) (S.at_ e.1) (idx L e.1).length (natC (idx L e.1)) (by rfl) (HW4.out ▸ HR4.out) ⟨W3.heap.size, 0, none⟩ 1 1 [.int .i64 (L.length : Int)] (by rfl) rfl (HW4.out ▸ NEWS.out) ONE.out (by decide) N1.out N2.out (HW4.out ▸ B4.out) _ rfl ?_
          intro g5 c5 w5 hown hgrow hat hlt
          rw [← HW4.out] at hgrow hat
          obtain ⟨w6, hup6, g6, k6, m6, o6⟩ := G4.out.put_out HE.out B4.out HL5.out hown hgrow hat
          have K5 : Hid (w5.cell? ⟨S.g, 1, none⟩ = some (.slice es L.length ec) ∧ w5.cell? ⟨S.g, 2, none⟩ = some (.map (some S.mo)) ∧ w5.cell? ⟨w.heap.size, 0, none⟩ = some (.int .i64 e.1)) := Lib.hid (by
            have q := G4.out.box.at_ (k := S.g) (m6 _ _ _ _ G4.out.box (by decide)).1
            exact ⟨by rw [← HS.out]; exact q.four.2.1, q.four.2.2.1, (X4.out.at_ (k := w.heap.size) (m6 _ _ _ _ X4.out (by decide)).1).four.1⟩)
          have X6 : Hid (Bx 29 w6 w.heap.size (egC e)) := Lib.hid (X4.out.at_ (k := w.heap.size) (m6 _ _ _ _ X4.out (by decide)).2)
          have K6 : Hid (w6.cell? ⟨S.g, 1, none⟩ = some (.slice es L.length ec) ∧ w6.cell? ⟨S.g, 2, none⟩ = some (.map (some S.mo)) ∧ w6.cell? ⟨w.heap.size, 0, none⟩ = some (.int .i64 e.1)) := Lib.hid (by
            have q := G4.out.box.at_ (k := S.g) (m6 _ _ _ _ G4.out.box (by decide)).2
            exact ⟨by rw [← HS.out]; exact q.four.2.1, q.four.2.2.1, X6.out.four.1⟩)
          have C6 := Lib.hid (C4.out.trans k6 (fun k q => .inl q))
          have O6 : Hid (∀ k, (S.putAt e.1 (.slice (some ⟨g5, 0, none⟩) ((idx L e.1).length + 1) c5)).own k → S.own k ∨ w.heap.size ≤ k) := Lib.hid (fun k q => (o6 k q).imp id (fun q => Nat.le_trans C4.out.1.size q))
          have G6 := Lib.hid g6
          clear hown hgrow hat hlt g6 k6 m6 o6))
      all_goals
        go_wp2_with fail
        clear lk1 lk2 KA KB K5 hup6 G4 G3 C3 C4 X3 X4 HR4 NEWS ONE N1 N2 HL5 B3 B4 HW4
        have E6 : Hid ((S.putAt e.1 (.slice (some ⟨g5, 0, none⟩) ((idx L e.1).length + 1) c5)).g = S.g ∧ (S.putAt e.1 (.slice (some ⟨g5, 0, none⟩) ((idx L e.1).length + 1) c5)).ev = .slice es L.length ec) := Lib.hid ⟨rfl, HS.out⟩
        generalize S.putAt e.1 (.slice (some ⟨g5, 0, none⟩) ((idx L e.1).length + 1) c5) = S6 at *
        obtain ⟨W7, hW7⟩ : ∃ W7, W7 = (w6.alloc (.cells #[.int .i64 e.1, .int .i64 e.2.1, .int .i64 e.2.2.1, .int .i64 e.2.2.2] 29)).drew := ⟨_, rfl⟩
        have h67 : Below w6.heap.size w6 W7 := by rw [hW7]; exact ((Below.refl w6.heap.size w6).alloc (Nat.le_refl _) _).trans (Below.refl _ _).drew
        have B6 : Hid (B ≤ w6.heap.size) := Lib.hid (Nat.le_trans HWB.out C6.out.1.size)
        have B7 : Hid (B ≤ W7.heap.size) := Lib.hid (Nat.le_trans B6.out h67.size)
        have G7 := Lib.hid (G6.out.step h67)
        have C7 := Lib.hid (C6.out.trans (Chg.of_below (own := S.own) h67 B6.out) (fun k q => .inl q))
        have HR7 : Hid (W7.ownsRow B 29 4 (.slice es L.length ec) L.length (flatG L)) := Lib.hid (by rw [← E6.out.2]; exact G7.out.es)
        have NEWS : Hid (∀ j u, (egC e)[j]? = some u → W7.cell? ((⟨w6.heap.size, 0, none⟩ : Addr).add j) = some u) := Lib.hid (by
          intro j u hj
          rw [add_at, Nat.zero_add, hW7]
          have := (Bx.new 29 w6 (egC e).toArray).cell j
          exact this.trans hj)
        have ONE : Hid (∀ u ∈ egC e, u.oneCell' = true) := Lib.hid (by
          intro u hu
          unfold egC at hu
          simp only [List.mem_cons, List.not_mem_nil, or_false] at hu
          rcases hu with rfl | rfl | rfl | rfl <;> rfl)
        have N1 : Hid (L.length + 1 ≤ maxLen) := Lib.hid (by have := HL.out; unfold maxLen; omega)
        have N2 : Hid ((L.length + 1) * 32 ≤ 140737488355328) := Lib.hid (by have := HL.out; omega)
        obtain ⟨j1, hj1, jy0, jy1, jy2⟩ := info_parts infoE
        have HW7 := Lib.hid hW7
        obtain ⟨x0, x1, x2, x3, xl, xf⟩ := X6.out.four
        have k1 := K6.out.1
        have gl := G6.out.box.lt
        rw [E6.out.1] at gl
        clear hW7 h67 hup K6 X6 C6 HWB
        go_region_law (refine step_append_lies _ (by rfl) (.tmp 73) (.tmp 75) 22 (by rfl) B 29 j1 (.agg #[.int .i64 0, .int .i64 0, .int .i64 0, .int .i64 0]) 4 32 Try.underlying22 hj1 jy0 jy1 jy2 rfl (by decide) (.slice es L.length ec) L.length (flatG L) (by rfl) (HW7.out ▸ HR7.out) ⟨w6.heap.size, 0, none⟩ 1 1 (egC e) (by rfl) rfl (HW7.out ▸ NEWS.out) ONE.out (by decide) N1.out N2.out (HW7.out ▸ B7.out) _ rfl ?_
                       intro g8 c8 w8 hown hgrow hat hlt
                       rw [← HW7.out] at hgrow hat
                       have hq := G7.out.step_es HE.out hown (by rw [E6.out.2]; exact hgrow)
                       have G8 : Hid (GrP (w8.setCell ⟨S.g, 1, none⟩ (.slice (some ⟨g8, 0, none⟩) (L.length + 1) c8)) B n (L ++ [e]) (L ++ [e]) (L ++ [e]) { S6 with ev := .slice (some ⟨g8, 0, none⟩) (L.length + 1) c8 }) := Lib.hid (by rw [← E6.out.1]; exact hq.1)
                       have b8 := hq.2
                       rw [E6.out.1] at b8
                       have C8 := Lib.hid (C7.out.trans (Chg.of_grown (own := fun k => S.own k ∨ w.heap.size ≤ k) hgrow B7.out (fun b q => ⟨row_base HR7.out q, O6.out b (.inr (.inr (.inr (.inl (by rw [E6.out.2]; exact q)))))⟩)) (fun k q => q))
                       have Q8 : Hid (g8 < w8.heap.size ∧ (W7.heap.size = g8 ∨ S6.ev.ownBlock = some g8)) := Lib.hid ⟨hlt, hat.symm.imp (fun q => q.symm) (fun q => by rw [E6.out.2]; exact q)⟩
                       obtain ⟨y0, y1, y2, y3, yl, yf⟩ := b8.four
                       clear hown hgrow hat hlt hq b8)
        all_goals
          go_wp2_with fail
          go_ret
          refine ⟨rfl, _, ?_, G8.out, C8.out.set (by rw [← E6.out.1]; exact G6.out.bg) (.inl rfl) 1 _, ?_⟩
          · exact E6.out.1
          · rintro k (q | q | q | q | q)
            · exact O6.out k (.inl q)
            · exact O6.out k (.inr (.inl q))
            · exact O6.out k (.inr (.inr (.inl q)))
            · have q : g8 = k := by simpa [Value.ownBlock] using q
              rcases Q8.out.2 with q2 | q2
              · have := C7.out.1.size
                exact .inr (by omega)
              · exact O6.out k (.inr (.inr (.inr (.inl (by rw [q2, q])))))
            · exact O6.out k (.inr (.inr (.inr (.inr q))))
end Go.Proofs.Ytkhgpflpbdakoaa
