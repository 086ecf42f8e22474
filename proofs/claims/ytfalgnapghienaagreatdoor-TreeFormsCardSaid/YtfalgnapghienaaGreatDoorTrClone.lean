/- Contracts of tree's clone: a node with its lists in blocks of their own. -/
import Derived.Test.YtfalgnapghienaaGreatDoorTrNew
namespace Go.Proofs.YtfalgnapghienaaGreatDoor
open Go Go.RowKit
set_option linter.unusedVariables false
set_option linter.unusedSimpArgs false

/-- a box of a node's cells -/
def BoxN (w : World) (b : Nat) (cs : List Value) : Prop := w.heap[b]? = some (.cells cs.toArray 46 (0, 0))
theorem BoxN.keep {w w' : World} {b : Nat} {cs : List Value} (h : BoxN w b cs) (hb : Below w.heap.size w w') : BoxN w' b cs := by
  unfold BoxN at *; rw [hb.block b (lt_block h)]; exact h
theorem BoxN.set {w : World} {b : Nat} {cs : List Value} (h : BoxN w b cs) (o : Nat) (v : Value) : BoxN (w.setCell ⟨b, o, none⟩ v) b (cs.set o v) := by
  unfold BoxN at *
  rw [heap_setCell_same w b o _ _ v h]
  simp
theorem BoxN.other {w : World} {b b' : Nat} {cs : List Value} (h : BoxN w b cs) (hne : b ≠ b') (o : Nat) (v : Value) : BoxN (w.setCell ⟨b', o, none⟩ v) b cs := by
  unfold BoxN at *
  rw [heap_setCell_other w _ b v (by simpa using hne)]; exact h
theorem BoxN.lt {w : World} {b : Nat} {cs : List Value} (h : BoxN w b cs) : b < w.heap.size := lt_block h
theorem BoxN.cell {w : World} {b : Nat} {cs : List Value} (h : BoxN w b cs) (j : Nat) : w.cell? ⟨b, j, none⟩ = cs[j]? := by
  rw [cell_at h]; simp
theorem BoxN.frozen {w : World} {b : Nat} {cs : List Value} (h : BoxN w b cs) (j : Nat) : w.frozen? ⟨b, j, none⟩ = false := by
  unfold World.frozen?
  rw [h]
  simp
theorem BoxN.alloc {w : World} {b : Nat} {cs : List Value} (h : BoxN w b cs) (o : Obj) : BoxN (w.alloc o) b cs := h.keep ((Below.refl _ _).alloc (Nat.le_refl _) _)
theorem BoxN.new (w : World) (cs : Array Value) : BoxN (w.alloc (.cells cs 46)) w.heap.size cs.toList := by
  unfold BoxN; rw [heap_alloc_new]

/-- the thirteen cells -/
theorem BoxN.all {w : World} {b : Nat} {v0 v1 v2 v3 v4 v5 v6 v7 v8 v9 v10 v11 v12 : Value} (h : BoxN w b [v0, v1, v2, v3, v4, v5, v6, v7, v8, v9, v10, v11, v12]) :
    (w.cell? ⟨b, 0, none⟩ = some v0 ∧ w.cell? ⟨b, 1, none⟩ = some v1 ∧ w.cell? ⟨b, 2, none⟩ = some v2 ∧ w.cell? ⟨b, 3, none⟩ = some v3 ∧ w.cell? ⟨b, 4, none⟩ = some v4 ∧ w.cell? ⟨b, 5, none⟩ = some v5 ∧ w.cell? ⟨b, 6, none⟩ = some v6 ∧ w.cell? ⟨b, 7, none⟩ = some v7 ∧ w.cell? ⟨b, 8, none⟩ = some v8 ∧ w.cell? ⟨b, 9, none⟩ = some v9 ∧ w.cell? ⟨b, 10, none⟩ = some v10 ∧ w.cell? ⟨b, 11, none⟩ = some v11 ∧ w.cell? ⟨b, 12, none⟩ = some v12) ∧ b < w.heap.size ∧ ∀ j, w.frozen? ⟨b, j, none⟩ = false :=
  ⟨⟨h.cell 0, h.cell 1, h.cell 2, h.cell 3, h.cell 4, h.cell 5, h.cell 6, h.cell 7, h.cell 8, h.cell 9, h.cell 10, h.cell 11, h.cell 12⟩, h.lt, h.frozen⟩

theorem boxes2 {w w1 : World} {cs rs : Array Value} (h : Below ((w.alloc (.cells cs 46)).alloc (.cells rs 46)).heap.size ((w.alloc (.cells cs 46)).alloc (.cells rs 46)) w1) :
    Below w.heap.size w w1 ∧ BoxN w1 w.heap.size cs.toList ∧ BoxN w1 (w.heap.size + 1) rs.toList := by
  have h1 : Below w.heap.size w ((w.alloc (.cells cs 46)).alloc (.cells rs 46)) := ((Below.refl _ _).alloc (Nat.le_refl _) _).alloc (by simp) _
  refine ⟨after h1 h, (((BoxN.new w cs).alloc _).keep h), ?_⟩
  have h2 := BoxN.new (w.alloc (.cells cs 46)) rs
  simp only [World.size_alloc] at h2
  exact h2.keep h
theorem NewNums.set {w : World} {B b o : Nat} {v u : Value} {l : List Int} {cs : List Value} (h : NewNums w B v l) (hb : BoxN w b cs) : NewNums (w.setCell ⟨b, o, none⟩ u) B v l :=
  h.kept fun g cur hg _ => heap_setCell_other w _ g u (fun e => by
    simp at e
    subst e
    unfold BoxN at hb
    rw [hb] at hg
    simp at hg)

theorem NewNums.sets {B b : Nat} {v : Value} {l : List Int} : ∀ (vs : List Value) (o : Nat) {w : World} {cs : List Value}, NewNums w B v l → BoxN w b cs → NewNums (w.setCells b o vs) B v l
  | [], o, w, cs, h, _ => h
  | u :: vs, o, w, cs, h, hb => NewNums.sets vs (o + 1) (h.set hb) (hb.set o u)
theorem NewNums.sets' {B b : Nat} {v : Value} {l : List Int} {w : World} {cs : List Value} (h : NewNums w B v l) (hb : BoxN w b cs) (vs : List Value) (o : Nat) : NewNums (w.setCells b o vs) B v l := NewNums.sets vs o h hb

set_option maxRecDepth 100000 in
set_option maxHeartbeats 4000000 in
theorem nclone_any (kind sf st : Int) (kids : List Int) (text : ByteArray) (B : Int) (N : ByteArray) (D : Int) (M : ByteArray) (num wf wt : Int) (ends : List Int) (kv ev : Value) (w : World)
    (hk : NumsV w kv kids) (he : NumsV w ev ends) (lk : kids.length ≤ 17592186044416) (le : ends.length ≤ 17592186044416) (st1 : text.size ≤ 281474976710656) (sn : N.size ≤ 281474976710656) (sm : M.size ≤ 281474976710656) :
    Calls Tryz.prog 44 #[.agg #[.int .i64 kind, .int .i64 sf, .int .i64 st, kv, .string text, .int .i64 B, .string N, .int .i64 D, .string M, .int .i64 num, .int .i64 wf, .int .i64 wt, ev]] w fun e w' => ∃ s1 c1 s2 c2, e = .returned (.agg #[.int .i64 kind, .int .i64 sf, .int .i64 st, .slice s1 kids.length c1, .string text, .int .i64 B, .string N, .int .i64 D, .string M, .int .i64 num, .int .i64 wf, .int .i64 wt, .slice s2 ends.length c2]) ∧ Below w.heap.size w w' ∧ NewNums w' w.heap.size (.slice s1 kids.length c1) kids ∧ NewNums w' w.heap.size (.slice s2 ends.length c2) ends := by
  obtain ⟨ks, kc, rfl, hks⟩ := hk
  obtain ⟨es, ec, rfl, hes⟩ := he
  have HK := Lib.hid (fun (w2 : World) (hb : Below w.heap.size w w2) => listI_any ks kc kids w2 lk (hks.step hb))
  have HE := Lib.hid (fun (w2 : World) (hb : Below w.heap.size w w2) => listI_any es ec ends w2 le (hes.step hb))
  have HT := Lib.hid (fun w => clone_any text w st1)
  have HN := Lib.hid (fun w => clone_any N w sn)
  have HM := Lib.hid (fun w => clone_any M w sm)
  clear hks hes lk le st1 sn sm
  go_enter Tryz.func44, Tryz.ntmps44
  go_wp2_with fail
  refine (HK.out _ (by repeat (first | exact Below.refl _ _ | apply Below.setCell _ (by first | omega | (simp <;> omega)) | apply Below.alloc _ (by first | omega | (simp <;> omega))))).mono ?_
  rintro e w1 ⟨s1, c1, rfl, h01, n1⟩
  obtain ⟨hb1, x1, r1⟩ := boxes2 h01
  have B1 := Lib.hid hb1
  have X1 := Lib.hid x1
  have R1 := Lib.hid r1
  have N1 := Lib.hid (n1.mono (B' := w.heap.size) (by simp; omega))
  clear HK h01 n1 hb1 x1 r1
  obtain ⟨⟨a0, a1, a2, a3, a4, a5, a6, a7, a8, a9, a10, a11, a12⟩, al, af⟩ := X1.out.all
  go_wp2_with fail
  have HS : Hid (Below w.heap.size w (w1.setCell ⟨w.heap.size, 3, none⟩ (.slice s1 kids.length c1))) := Lib.hid (B1.out.setCell (Nat.le_refl _) _)
  refine (HE.out _ HS.out).mono ?_
  rintro e w2 ⟨s2, c2, rfl, h12, n2⟩
  have N2 := Lib.hid (n2.mono (B' := w.heap.size) (by have := HS.out.size; simpa using this))
  have B2 := Lib.hid (after HS.out h12)
  have X2 := Lib.hid ((X1.out.set 3 (.slice s1 kids.length c1)).keep h12)
  have R2 := Lib.hid ((R1.out.other (b' := w.heap.size) (by omega) 3 (.slice s1 kids.length c1)).keep h12)
  have N12 := Lib.hid ((N1.out.set (o := 3) (u := (.slice s1 kids.length c1)) X1.out).step h12)
  clear a0 a1 a2 a3 a4 a5 a6 a7 a8 a9 a10 a11 a12 al af
  clear B1 X1 R1 N1 HS HE h12 n2
  have X1 := X2
  clear X2
  obtain ⟨⟨a0, a1, a2, a3, a4, a5, a6, a7, a8, a9, a10, a11, a12⟩, al, af⟩ := X1.out.all
  go_wp2_with fail
  have HS : Hid (Below w.heap.size w (w2.setCell ⟨w.heap.size, 12, none⟩ (.slice s2 ends.length c2))) := Lib.hid (B2.out.setCell (Nat.le_refl _) _)
  refine (HT.out _).mono ?_
  rintro e w3 ⟨rfl, h12⟩
  have B3 := Lib.hid (after HS.out h12)
  have X0 := Lib.hid ((X1.out.set 12 (.slice s2 ends.length c2)).keep h12)
  have R3 := Lib.hid ((R2.out.other (b' := w.heap.size) (by omega) 12 (.slice s2 ends.length c2)).keep h12)
  have M1 := Lib.hid ((N12.out.set (o := 12) (u := (.slice s2 ends.length c2)) X1.out).step h12)
  have M2 := Lib.hid ((N2.out.set (o := 12) (u := (.slice s2 ends.length c2)) X1.out).step h12)
  clear a0 a1 a2 a3 a4 a5 a6 a7 a8 a9 a10 a11 a12 al af
  clear X1 B2 R2 HS h12 N12 N2
  have X1 := X0
  have N12 := M1
  have N2 := M2
  clear X0 M1 M2
  obtain ⟨⟨a0, a1, a2, a3, a4, a5, a6, a7, a8, a9, a10, a11, a12⟩, al, af⟩ := X1.out.all
  go_wp2_with fail
  have HS : Hid (Below w.heap.size w (w3.setCell ⟨w.heap.size, 4, none⟩ (.string text))) := Lib.hid (B3.out.setCell (Nat.le_refl _) _)
  refine (HN.out _).mono ?_
  rintro e w4 ⟨rfl, h12⟩
  have B4 := Lib.hid (after HS.out h12)
  have X0 := Lib.hid ((X1.out.set 4 (.string text)).keep h12)
  have R4 := Lib.hid ((R3.out.other (b' := w.heap.size) (by omega) 4 (.string text)).keep h12)
  have M1 := Lib.hid ((N12.out.set (o := 4) (u := (.string text)) X1.out).step h12)
  have M2 := Lib.hid ((N2.out.set (o := 4) (u := (.string text)) X1.out).step h12)
  clear a0 a1 a2 a3 a4 a5 a6 a7 a8 a9 a10 a11 a12 al af
  clear X1 B3 R3 HS h12 N12 N2
  have X1 := X0
  have N12 := M1
  have N2 := M2
  clear X0 M1 M2
  obtain ⟨⟨a0, a1, a2, a3, a4, a5, a6, a7, a8, a9, a10, a11, a12⟩, al, af⟩ := X1.out.all
  go_wp2_with fail
  have HS : Hid (Below w.heap.size w (w4.setCell ⟨w.heap.size, 6, none⟩ (.string N))) := Lib.hid (B4.out.setCell (Nat.le_refl _) _)
  refine (HM.out _).mono ?_
  rintro e w5 ⟨rfl, h12⟩
  have B5 := Lib.hid (after HS.out h12)
  have X0 := Lib.hid ((X1.out.set 6 (.string N)).keep h12)
  have R5 := Lib.hid ((R4.out.other (b' := w.heap.size) (by omega) 6 (.string N)).keep h12)
  have M1 := Lib.hid ((N12.out.set (o := 6) (u := (.string N)) X1.out).step h12)
  have M2 := Lib.hid ((N2.out.set (o := 6) (u := (.string N)) X1.out).step h12)
  clear a0 a1 a2 a3 a4 a5 a6 a7 a8 a9 a10 a11 a12 al af
  clear X1 B4 R4 HS h12 N12 N2
  have X1 := X0
  have N12 := M1
  have N2 := M2
  clear X0 M1 M2
  obtain ⟨⟨a0, a1, a2, a3, a4, a5, a6, a7, a8, a9, a10, a11, a12⟩, al, af⟩ := X1.out.all
  obtain ⟨⟨r0, r1, r2, r3, r4, r5, r6, r7, r8, r9, r10, r11, r12⟩, rl, rf⟩ := R5.out.all
  go_wp2_with fail
  have F1 := Lib.hid ((N12.out.set (o := 8) (u := .string M) X1.out).sets' (R5.out.other (b' := w.heap.size) (by omega) 8 (.string M)) [.int .i64 kind, .int .i64 sf, .int .i64 st, (.slice s1 kids.length c1), .string text, .int .i64 B, .string N, .int .i64 D, .string M, .int .i64 num, .int .i64 wf, .int .i64 wt, (.slice s2 ends.length c2)] 0)
  have F2 := Lib.hid ((N2.out.set (o := 8) (u := .string M) X1.out).sets' (R5.out.other (b' := w.heap.size) (by omega) 8 (.string M)) [.int .i64 kind, .int .i64 sf, .int .i64 st, (.slice s1 kids.length c1), .string text, .int .i64 B, .string N, .int .i64 D, .string M, .int .i64 num, .int .i64 wf, .int .i64 wt, (.slice s2 ends.length c2)] 0)
  have F3 := Lib.hid ((B5.out.setCell (p := ⟨w.heap.size, 8, none⟩) (Nat.le_refl _) (.string M)).trans (fill_below (w.heap.size + 1) (Nat.le_succ _) [.int .i64 kind, .int .i64 sf, .int .i64 st, (.slice s1 kids.length c1), .string text, .int .i64 B, .string N, .int .i64 D, .string M, .int .i64 num, .int .i64 wf, .int .i64 wt, (.slice s2 ends.length c2)] 0 _))
  refine bodyPost_ret (v := .agg #[.int .i64 kind, .int .i64 sf, .int .i64 st, .slice s1 kids.length c1, .string text, .int .i64 B, .string N, .int .i64 D, .string M, .int .i64 num, .int .i64 wf, .int .i64 wt, .slice s2 ends.length c2]) (by simp [results, Tryz.results44, go_sem, r0, r1, r2, r3, r4, r5, r6, r7, r8, r9, r10, r11, r12]) rfl ?_
  exact ⟨s1, c1, s2, c2, rfl, F3.out, F1.out, F2.out⟩
end Go.Proofs.YtfalgnapghienaaGreatDoor
