/- Contracts of a builder's At and Tree. -/
import Derived.Test.YtfalgnapghienaaGreatDoorTrAdd
namespace Go.Proofs.YtfalgnapghienaaGreatDoor
open Go Go.RowKit
set_option linter.unusedVariables false
set_option linter.unusedSimpArgs false

/-- a builder's row, read -/
theorem Bld.row {T : TypeId} {rest : List Value} {w : World} {B b : Nat} {L : List NdR} {v : Value} (h : Bld T rest w B b L v) : ∃ src c, v = .slice src L.length c ∧ RowOk w L ∧ RowAt w src L := by
  rcases h.own.2 with ⟨hv, h0⟩ | ⟨g, cap, cur, hv, hBg, hg, hnc, hcm, hcs, htake⟩
  · exact ⟨none, 0, by rw [hv, h0], h.new_.ok, fun h1 => by omega⟩
  · refine ⟨_, cap, hv, h.new_.ok, fun _ => ⟨g, 0, rfl, lt_block hg, fun m u hm => ?_⟩⟩
    have := h.own.cells (g := g) (by rw [hv]; rfl) m u hm
    rwa [add_at] at this
theorem Bld.nds {T : TypeId} {rest : List Value} {w : World} {B b : Nat} {L : List NdR} {v : Value} (h : Bld T rest w B b L v) : NdsV w v (L.map (·.1)) := by
  obtain ⟨src, c, rfl, h1, h2⟩ := h.row
  exact rows_nds h1 h2

/-- a row's node, its thirteen cells -/
theorem row_cells {w : World} {src : Option Addr} {L : List NdR} {i : Nat} (h : RowAt w src L) (hi : i < L.length) : ∃ b off, src = some ⟨b, off, none⟩ ∧ b < w.heap.size ∧ ∀ j, j < 13 → w.cell? ⟨b, off + i * 13 + j, none⟩ = (ndC L[i])[j]? := by
  obtain ⟨b, off, h1, h2, h3⟩ := h (by omega)
  refine ⟨b, off, h1, h2, fun j hj => ?_⟩
  have e := flatN_at L i hi j hj
  have hl : j < (ndC L[i]).length := hj
  rw [List.getElem?_eq_getElem hl] at e ⊢
  rw [show off + i * 13 + j = off + (i * 13 + j) by omega]
  exact h3 _ _ e
theorem cells13 {w : World} {b o : Nat} {v0 v1 v2 v3 v4 v5 v6 v7 v8 v9 v10 v11 v12 : Value} (h : ∀ j, j < 13 → w.cell? ⟨b, o + j, none⟩ = [v0, v1, v2, v3, v4, v5, v6, v7, v8, v9, v10, v11, v12][j]?) :
    w.cell? ⟨b, o, none⟩ = some v0 ∧ w.cell? ⟨b, o + 1, none⟩ = some v1 ∧ w.cell? ⟨b, o + 2, none⟩ = some v2 ∧ w.cell? ⟨b, o + 3, none⟩ = some v3 ∧ w.cell? ⟨b, o + 4, none⟩ = some v4 ∧ w.cell? ⟨b, o + 5, none⟩ = some v5 ∧ w.cell? ⟨b, o + 6, none⟩ = some v6 ∧ w.cell? ⟨b, o + 7, none⟩ = some v7 ∧ w.cell? ⟨b, o + 8, none⟩ = some v8 ∧ w.cell? ⟨b, o + 9, none⟩ = some v9 ∧ w.cell? ⟨b, o + 10, none⟩ = some v10 ∧ w.cell? ⟨b, o + 11, none⟩ = some v11 ∧ w.cell? ⟨b, o + 12, none⟩ = some v12 :=
  ⟨h 0 (by omega), h 1 (by omega), h 2 (by omega), h 3 (by omega), h 4 (by omega), h 5 (by omega), h 6 (by omega), h 7 (by omega), h 8 (by omega), h 9 (by omega), h 10 (by omega), h 11 (by omega), h 12 (by omega)⟩

def AtPost (w : World) (x : Nd) (e : Ending) (w' : World) : Prop := ∃ s1 c1 s2 c2, e = .returned (.agg #[.int .i64 x.kind, .int .i64 x.sf, .int .i64 x.st, .slice s1 x.kids.length c1, .string x.text, .int .i64 x.B, .string x.N, .int .i64 x.D, .string x.M, .int .i64 x.num, .int .i64 x.wf, .int .i64 x.wt, .slice s2 x.ends.length c2]) ∧
  Below w.heap.size w w' ∧ NewNums w' w.heap.size (.slice s1 x.kids.length c1) x.kids ∧ NewNums w' w.heap.size (.slice s2 x.ends.length c2) x.ends

set_option maxRecDepth 100000 in
set_option maxHeartbeats 4000000 in
theorem at_any (T : TypeId) (rest : List Value) (bB b : Nat) (L : List NdR) (v : Value) (i : Nat) (w : World) (hb : Bld T rest w bB b L v) (hi : i < L.length) (hf : NdFit L[i].1) (hL : L.length ≤ 16384) :
    Calls Tryz.prog 23 #[.pointer (some ⟨b, 0, none⟩), .int .i64 (i : Nat)] w (AtPost w L[i].1) := by
  obtain ⟨src, vc, rfl, ho, hr⟩ := hb.row
  obtain ⟨g, off, rfl, hg, hcell⟩ := row_cells hr hi
  have HO1 := Lib.hid (ho L[i] (List.getElem_mem hi))
  have c0 := hb.box.cell 0
  have hbl := hb.box.lt
  simp only [List.getElem?_cons_zero] at c0
  have HL := Lib.hid hL
  generalize L[i] = y at *
  obtain ⟨⟨kind, sf, st, kids, text, B, N, D, M, num, wf, wt, ends⟩, kv, ev⟩ := y
  obtain ⟨⟨ks, kc, hkv, hks⟩, ⟨es, ec, hev, hes⟩⟩ := HO1.out
  simp only at hkv hev
  subst hkv hev
  obtain ⟨e0, e1, e2, e3, e4, e5, e6, e7, e8, e9, e10, e11, e12⟩ := cells13 hcell
  have HC := Lib.hid (fun (w2 : World) (hb : Below w.heap.size w w2) => nclone_any kind sf st kids text B N D M num wf wt ends (.slice ks kids.length kc) (.slice es ends.length ec) w2 ⟨ks, kc, rfl, hks.step hb⟩ ⟨es, ec, rfl, hes.step hb⟩ hf.kids hf.ends hf.text hf.N hf.M)
  clear ho hr HO1 hks hes hcell hf hb hL
  generalize L.length = n at *
  have i1 : decide ((i : Int) < 0) = false := decide_eq_false (by omega)
  have i2 : decide ((n : Int) ≤ (i : Int)) = false := decide_eq_false (by omega)
  have hnb : n ≤ 16384 := HL.out
  go_enter Tryz.func23, Tryz.ntmps23
  go_wp2_with fail
  refine (HC.out _ (by repeat (first | exact Below.refl _ _ | apply Below.setCell _ (by first | omega | (simp <;> omega)) | apply Below.alloc _ (by first | omega | (simp <;> omega))))).mono ?_
  rintro e w5 ⟨s1, c1, s2, c2, rfl, h5, n1, n2⟩
  have hba : Below w.heap.size w (w.alloc (.cells #[.int .i64 0, .int .i64 0, .int .i64 0, .slice none 0 0, .string ⟨#[]⟩, .int .i64 0, .string ⟨#[]⟩, .int .i64 0, .string ⟨#[]⟩, .int .i64 0, .int .i64 0, .int .i64 0, .slice none 0 0] 46)) := (Below.refl _ _).alloc (Nat.le_refl _) _
  have H5 := Lib.hid (after hba h5)
  have R5 := Lib.hid ((BoxN.new w #[.int .i64 0, .int .i64 0, .int .i64 0, .slice none 0 0, .string ⟨#[]⟩, .int .i64 0, .string ⟨#[]⟩, .int .i64 0, .string ⟨#[]⟩, .int .i64 0, .int .i64 0, .int .i64 0, .slice none 0 0]).keep h5)
  have N1 := Lib.hid (n1.mono (B' := w.heap.size) (by simp))
  have N2 := Lib.hid (n2.mono (B' := w.heap.size) (by simp))
  clear e0 e1 e2 e3 e4 e5 e6 e7 e8 e9 e10 e11 e12 hba h5 n1 n2 HC
  obtain ⟨⟨r0, r1, r2, r3, r4, r5, r6, r7, r8, r9, r10, r11, r12⟩, rl, rf⟩ := R5.out.all
  go_wp2_with fail
  refine bodyPost_ret (v := .agg #[.int .i64 kind, .int .i64 sf, .int .i64 st, .slice s1 kids.length c1, .string text, .int .i64 B, .string N, .int .i64 D, .string M, .int .i64 num, .int .i64 wf, .int .i64 wt, .slice s2 ends.length c2]) (by simp [results, Tryz.results23, go_sem, r0, r1, r2, r3, r4, r5, r6, r7, r8, r9, r10, r11, r12]) rfl ?_
  exact ⟨s1, c1, s2, c2, rfl, H5.out.trans (fill_below w.heap.size (Nat.le_refl _) [.int .i64 kind, .int .i64 sf, .int .i64 st, .slice s1 kids.length c1, .string text, .int .i64 B, .string N, .int .i64 D, .string M, .int .i64 num, .int .i64 wf, .int .i64 wt, .slice s2 ends.length c2] 0 _), N1.out.sets' R5.out [.int .i64 kind, .int .i64 sf, .int .i64 st, .slice s1 kids.length c1, .string text, .int .i64 B, .string N, .int .i64 D, .string M, .int .i64 num, .int .i64 wf, .int .i64 wt, .slice s2 ends.length c2] 0, N2.out.sets' R5.out [.int .i64 kind, .int .i64 sf, .int .i64 st, .slice s1 kids.length c1, .string text, .int .i64 B, .string N, .int .i64 D, .string M, .int .i64 num, .int .i64 wf, .int .i64 wt, .slice s2 ends.length c2] 0⟩
end Go.Proofs.YtfalgnapghienaaGreatDoor
