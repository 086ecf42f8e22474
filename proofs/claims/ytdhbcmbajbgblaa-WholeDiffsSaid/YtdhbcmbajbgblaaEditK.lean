/- Contracts of trimmed and joined. -/
import Derived.Test.YtdhbcmbajbgblaaEditF
import Derived.MapKept
namespace Go.Proofs.Ytdhbcmbajbgblaa
open Go Go.RowKit
set_option linter.unusedVariables false

theorem get_by (s : ByteArray) : ∀ (n : Nat) (h : n < s.size), ((s[n]'h).toNat : Int) = (by' s n : Int) := fun n h => by unfold by'; rw [dif_pos h]
/-- how long the text in a box is -/
def txtAt (w : World) (B : Nat) : Nat := match w.cell? ⟨B, 2, none⟩ with
  | some (.string t) => t.size
  | _ => 0
theorem txtAt_is {w : World} {B : Nat} {t : ByteArray} (h : w.cell? ⟨B, 2, none⟩ = some (.string t)) : txtAt w B = t.size := by unfold txtAt; rw [h]
/-- an edit in its box -/
def BoxE (w wr : World) (x : NEd) : Prop :=
  Below w.heap.size w wr ∧ w.heap.size < wr.heap.size ∧ (∀ j, wr.frozen? ⟨w.heap.size, j, none⟩ = false) ∧
  wr.cell? ⟨w.heap.size, 0, none⟩ = some (.int .i64 (x.1 : Int)) ∧ wr.cell? ⟨w.heap.size, 1, none⟩ = some (.int .i64 (x.2.1 : Int)) ∧ wr.cell? ⟨w.heap.size, 2, none⟩ = some (.string x.2.2)
/-- and the result's box behind it -/
def BoxR (w wr : World) : Prop := w.heap.size + 1 < wr.heap.size ∧ (∀ j, wr.frozen? ⟨w.heap.size + 1, j, none⟩ = false) ∧
  wr.cell? ⟨w.heap.size + 1, 0, none⟩ = some (.int .i64 0) ∧ wr.cell? ⟨w.heap.size + 1, 1, none⟩ = some (.int .i64 0) ∧ wr.cell? ⟨w.heap.size + 1, 2, none⟩ = some (.string ⟨#[]⟩)
theorem BoxE.start (w : World) (x : NEd) : BoxE w ((w.alloc (.cells #[.int .i64 (x.1 : Int), .int .i64 (x.2.1 : Int), .string x.2.2] 27)).alloc (.cells #[.int .i64 0, .int .i64 0, .string ⟨#[]⟩] 27)) x ∧
    BoxR w ((w.alloc (.cells #[.int .i64 (x.1 : Int), .int .i64 (x.2.1 : Int), .string x.2.2] 27)).alloc (.cells #[.int .i64 0, .int .i64 0, .string ⟨#[]⟩] 27)) := by
  have hz : (w.alloc (.cells #[.int .i64 (x.1 : Int), .int .i64 (x.2.1 : Int), .string x.2.2] 27)).heap.size = w.heap.size + 1 := by simp
  refine ⟨⟨((Below.refl _ _).alloc (Nat.le_refl _) _).alloc (by simp) _, by simp; omega, fun j => by simp [go_sem], by simp [go_sem], by simp [go_sem], by simp [go_sem]⟩, by simp, fun j => ?_, ?_, ?_, ?_⟩
  · rw [← hz]; simp [go_sem]
  · rw [← hz]; simp [go_sem]
  · rw [← hz]; simp [go_sem]
  · rw [← hz]; simp [go_sem]
theorem BoxR.drewN {w wr : World} (h : BoxR w wr) (n : Nat) : BoxR w (wr.drewN n) := h
theorem BoxR.set {w wr : World} (h : BoxR w wr) (o : Nat) (v : Value) : BoxR w (wr.setCell ⟨w.heap.size, o, none⟩ v) := by
  obtain ⟨h1, h2, h3, h4, h5⟩ := h
  have hne : ∀ j, (⟨w.heap.size, o, none⟩ : Addr) ≠ ⟨w.heap.size + 1, j, none⟩ := fun j he => by injection he with h1 _; omega
  refine ⟨by simpa [World.setCell] using h1, fun j => by rw [World.frozen?_setCell]; exact h2 j, ?_, ?_, ?_⟩
  · rw [World.cell?_setCell_other _ _ _ _ (hne 0)]; exact h3
  · rw [World.cell?_setCell_other _ _ _ _ (hne 1)]; exact h4
  · rw [World.cell?_setCell_other _ _ _ _ (hne 2)]; exact h5
theorem BoxE.drewN {w wr : World} {x : NEd} (h : BoxE w wr x) (n : Nat) : BoxE w (wr.drewN n) x := ⟨below_drewN h.1 n, h.2⟩
theorem BoxE.from {w wr : World} {x : NEd} (h : BoxE w wr x) (f : Int) (t : ByteArray) (y : NEd) (h1 : (y.1 : Int) = f) (h2 : y.2.1 = x.2.1) (h3 : y.2.2 = t) :
    BoxE w ((wr.setCell ⟨w.heap.size, 0, none⟩ (.int .i64 f)).setCell ⟨w.heap.size, 2, none⟩ (.string t)) y := by
  obtain ⟨b1, b2, b3, c0, c1, c2⟩ := h
  refine ⟨(b1.setCell (Nat.le_refl _) _).setCell (Nat.le_refl _) _, by simpa [World.setCell] using b2, fun j => by rw [World.frozen?_setCell, World.frozen?_setCell]; exact b3 j, ?_, ?_, ?_⟩
  · rw [cell_ne (by omega), h1]; exact World.cell?_setCell_same _ _ _ c0
  · rw [cell_ne (by omega), cell_ne (by omega), h2]; exact c1
  · rw [h3]
    have : (wr.setCell ⟨w.heap.size, 0, none⟩ (.int .i64 f)).cell? ⟨w.heap.size, 2, none⟩ = some (.string x.2.2) := by rw [cell_ne (by omega)]; exact c2
    exact World.cell?_setCell_same _ _ _ this
theorem BoxE.upto {w wr : World} {x : NEd} (h : BoxE w wr x) (f : Int) (t : ByteArray) (y : NEd) (h1 : (y.2.1 : Int) = f) (h2 : y.1 = x.1) (h3 : y.2.2 = t) :
    BoxE w ((wr.setCell ⟨w.heap.size, 1, none⟩ (.int .i64 f)).setCell ⟨w.heap.size, 2, none⟩ (.string t)) y := by
  obtain ⟨b1, b2, b3, c0, c1, c2⟩ := h
  refine ⟨(b1.setCell (Nat.le_refl _) _).setCell (Nat.le_refl _) _, by simpa [World.setCell] using b2, fun j => by rw [World.frozen?_setCell, World.frozen?_setCell]; exact b3 j, ?_, ?_, ?_⟩
  · rw [cell_ne (by omega), cell_ne (by omega), h2]; exact c0
  · rw [cell_ne (by omega), h1]; exact World.cell?_setCell_same _ _ _ c1
  · rw [h3]
    have : (wr.setCell ⟨w.heap.size, 1, none⟩ (.int .i64 f)).cell? ⟨w.heap.size, 2, none⟩ = some (.string x.2.2) := by rw [cell_ne (by omega)]; exact c2
    exact World.cell?_setCell_same _ _ _ this

theorem txt_some {t : ByteArray} (h : 0 < t.size) : t.toList.isEmpty = false := by
  rw [Lib.toList_data]
  have hl : t.data.toList.length = t.size := by rw [Array.length_toList]; rfl
  cases hq : t.data.toList with
  | nil => rw [hq] at hl; simp at hl; omega
  | cons a l => rfl
theorem txt_none {t : ByteArray} (h : ¬ 0 < t.size) : t.toList.isEmpty = true := by
  rw [Lib.toList_data]
  have hl : t.data.toList.length = t.size := by rw [Array.length_toList]; rfl
  cases hq : t.data.toList with
  | nil => rfl
  | cons a l => rw [hq] at hl; simp at hl; omega

/-- an edit's first ends aren't alike -/
def FrontD (s : ByteArray) (x : NEd) : Prop := x.1 < x.2.1 → 0 < x.2.2.size → by' s x.1 ≠ by' x.2.2 0

set_option maxHeartbeats 2000000 in
theorem trimmed_any (s : ByteArray) (e : NEd) (w : World) (hs : s.size ≤ 65536) (h1 : e.1 ≤ e.2.1) (h2 : e.2.1 ≤ s.size) (h3 : e.2.2.size ≤ 1000000) :
    Calls Try.prog 45 #[.string s, .agg #[.int .i64 (e.1 : Nat), .int .i64 (e.2.1 : Nat), .string e.2.2]] w fun r w' => ∃ x : NEd, r = .returned (.agg #[.int .i64 (x.1 : Nat), .int .i64 (x.2.1 : Nat), .string x.2.2]) ∧ TrimOf s e x ∧ EndsDiffer s x ∧ Below w.heap.size w w' := by
  have gs := get_by s
  go_enter Try.func45, Try.ntmps45
  go_wp2_with fail
  have HS := Lib.hid (BoxE.start w e)
  go_loopw [] (fun wr => ∃ x : NEd, TrimOf s e x ∧ BoxE w wr x ∧ BoxR w wr) (fun wr => txtAt wr w.heap.size)
  case atStart => exact ⟨e, TrimOf.refl s e h1, HS.out.1, HS.out.2⟩
  case round =>
    obtain ⟨x, htr, hbx, hbr⟩ := hrel
    have HTR := Lib.hid htr
    have HBX := Lib.hid hbx
    have HBR := Lib.hid hbr
    have tz := htr.size h2
    obtain ⟨t1, t2, t3, -⟩ := htr
    obtain ⟨b1, b2, b3, c0, c1, c2⟩ := hbx
    have f0 := b3 0
    have f2 := b3 2
    clear b1 b3 hbr HS
    obtain ⟨x1, x2, x3⟩ := x
    dsimp only at t1 t2 t3 tz c0 c1 c2
    have gt := get_by x3
    by_cases hA : x1 < x2
    · by_cases hB : 0 < x3.size
      · by_cases hC : by' s x1 = by' x3 0
        · have HN := Lib.hid (HTR.out.first h2 hA hB hC)
          have d0 : decide ((x1 : Int) < (x2 : Int)) = true := decide_eq_true (by omega)
          have d1 := txt_some hB
          have d2 : ((by' s x1 : Int) == (by' x3 0 : Int)) = true := by simp [hC]
          have i1 : x1 < s.size := by omega
          have iw : IntKind.i64.wrap ((x1 : Int) + 1) = (x1 : Int) + 1 := IntWalk.i64_in _ ⟨by omega, by omega⟩
          go_wp2_with fail
          go_quiet (fail)
          go_wp2_with fail
          refine ⟨⟨_, HN.out, (HBX.out.drewN _).from _ _ _ rfl rfl rfl, ((HBR.out.drewN _).set _ _).set _ _⟩, ?_⟩
          rw [txtAt_is ((HBX.out.drewN _).from ((x1 : Int) + 1) (x3.extract 1 x3.size) (x1 + 1, x2, x3.extract 1 x3.size) rfl rfl rfl).2.2.2.2.2, txtAt_is c2]
          simp only [ByteArray.size_extract]; omega
        · have HFR : Hid (FrontD s (x1, x2, x3)) := Lib.hid (fun _ _ => hC)
          have d0 : decide ((x1 : Int) < (x2 : Int)) = true := decide_eq_true (by omega)
          have d1 := txt_some hB
          have d2 : ((by' s x1 : Int) == (by' x3 0 : Int)) = false := by
            rw [Bool.eq_false_iff]; intro h; simp at h; omega
          have i1 : x1 < s.size := by omega
          go_wp2_with fail
          go_quiet (fail)
          go_wp2_with fail
          go_loopw [] (fun wr => ∃ x : NEd, TrimOf s e x ∧ FrontD s x ∧ BoxE w wr x ∧ BoxR w wr) (fun wr => txtAt wr w.heap.size)
          case atStart => exact ⟨_, HTR.out, HFR.out, HBX.out.drewN _, HBR.out.drewN _⟩
          case round =>
            clear HTR HFR HBX HBR tz t1 t2 t3 b2 c0 c1 c2 f0 f2 gt
            clear hA
            obtain ⟨x, htr, hfr, hbx, hbr⟩ := hrel
            have HTR := Lib.hid htr
            have HBX := Lib.hid hbx
            have HBR := Lib.hid hbr
            have HFR := Lib.hid hfr
            have tz := htr.size h2
            obtain ⟨t1, t2, t3, -⟩ := htr
            obtain ⟨b1, b2, b3, c0, c1, c2⟩ := hbx
            obtain ⟨r1, r2, r3, r4, r5⟩ := hbr
            have f1 := b3 1
            have f2 := b3 2
            have g0 := r2 0
            have g1 := r2 1
            have g2 := r2 2
            clear b1 b3 r2
            obtain ⟨y1, y2, y3⟩ := x
            dsimp only at t1 t2 t3 tz c0 c1 c2
            have gt := get_by y3
            by_cases qA : y1 < y2
            · by_cases qB : 0 < y3.size
              · by_cases qC : by' s (y2 - 1) = by' y3 (y3.size - 1)
                · have HN := Lib.hid (HTR.out.last h2 qA qB qC)
                  have e0 : decide ((y1 : Int) < (y2 : Int)) = true := decide_eq_true (by omega)
                  have e1 := txt_some qB
                  have e2 : ((by' s (y2 - 1) : Int) == (by' y3 (y3.size - 1) : Int)) = true := by simp [qC]
                  have i1 : y2 - 1 < s.size := by omega
                  have i2 : ((y2 : Int) - 1).toNat = y2 - 1 := by omega
                  have i3 : ((y3.size : Int) - 1).toNat = y3.size - 1 := by omega
                  have i4 : (0 : Int) ≤ (y2 : Int) - 1 := by omega
                  have i5 : (y2 : Int) - 1 < (s.size : Int) := by omega
                  have i6 : (0 : Int) ≤ (y3.size : Int) - 1 := by omega
                  have i7 : (y3.size : Int) - 1 < (y3.size : Int) := by omega
                  have i8 : (y3.size : Int) - 1 ≤ (y3.size : Int) := by omega
                  have iw1 : IntKind.i64.wrap ((y2 : Int) - 1) = (y2 : Int) - 1 := IntWalk.i64_in _ ⟨by omega, by omega⟩
                  have iw2 : IntKind.i64.wrap ((y3.size : Int) - 1) = (y3.size : Int) - 1 := IntWalk.i64_in _ ⟨by omega, by omega⟩
                  have HFN : Hid (FrontD s (y1, y2 - 1, y3.extract 0 (y3.size - 1))) := Lib.hid (fun ha hb => by
                    simp only [ByteArray.size_extract] at hb
                    simp only
                    rw [by_extract (by omega) (by omega)]
                    exact HFR.out qA qB)
                  go_wp2_with fail
                  go_quiet (fail)
                  go_wp2_with fail
                  refine ⟨⟨_, HN.out, HFN.out, (HBX.out.drewN _).upto _ _ _ (by simp only; omega) rfl rfl, ((HBR.out.drewN _).set _ _).set _ _⟩, ?_⟩
                  rw [txtAt_is ((HBX.out.drewN _).upto ((y2 : Int) - 1) (y3.extract 0 (y3.size - 1)) (y1, y2 - 1, y3.extract 0 (y3.size - 1)) (by simp only; omega) rfl rfl).2.2.2.2.2, txtAt_is c2]
                  simp only [ByteArray.size_extract]; omega
                · have HEND : Hid (EndsDiffer s (y1, y2, y3)) := Lib.hid (fun ha hb => ⟨HFR.out ha hb, qC⟩)
                  have e0 : decide ((y1 : Int) < (y2 : Int)) = true := decide_eq_true (by omega)
                  have e1 := txt_some qB
                  have e2 : ((by' s (y2 - 1) : Int) == (by' y3 (y3.size - 1) : Int)) = false := by
                    rw [Bool.eq_false_iff]; intro h; simp at h; omega
                  have i1 : y2 - 1 < s.size := by omega
                  have i2 : ((y2 : Int) - 1).toNat = y2 - 1 := by omega
                  have i3 : ((y3.size : Int) - 1).toNat = y3.size - 1 := by omega
                  have i4 : (0 : Int) ≤ (y2 : Int) - 1 := by omega
                  have i5 : (y2 : Int) - 1 < (s.size : Int) := by omega
                  have i6 : (0 : Int) ≤ (y3.size : Int) - 1 := by omega
                  have i7 : (y3.size : Int) - 1 < (y3.size : Int) := by omega
                  have iw1 : IntKind.i64.wrap ((y2 : Int) - 1) = (y2 : Int) - 1 := IntWalk.i64_in _ ⟨by omega, by omega⟩
                  have iw2 : IntKind.i64.wrap ((y3.size : Int) - 1) = (y3.size : Int) - 1 := IntWalk.i64_in _ ⟨by omega, by omega⟩
                  go_wp2_with fail
                  go_quiet (fail)
                  go_wp2_with fail
                  refine bodyPost_ret (v := .agg #[.int .i64 (y1 : Int), .int .i64 (y2 : Int), .string y3]) (by simp [results, Try.results45, go_sem, r3, r4, r5]) rfl ?_
                  have HB := HBX.out.1
                  exact ⟨(y1, y2, y3), rfl, HTR.out, HEND.out, by repeat (first | exact Below.refl _ _ | refine below_drewN ?_ _ | apply Below.setCell _ (by first | omega | (simp <;> omega)) | apply Below.alloc _ (by first | omega | (simp <;> omega)) | exact HB | refine after ?_ HB)⟩
              · have HEND : Hid (EndsDiffer s (y1, y2, y3)) := Lib.hid (fun _ hb => absurd hb qB)
                have e0 : decide ((y1 : Int) < (y2 : Int)) = true := decide_eq_true (by omega)
                have e1 := txt_none qB
                go_wp2_with fail
                go_quiet (fail)
                go_wp2_with fail
                refine bodyPost_ret (v := .agg #[.int .i64 (y1 : Int), .int .i64 (y2 : Int), .string y3]) (by simp [results, Try.results45, go_sem, r3, r4, r5]) rfl ?_
                have HB := HBX.out.1
                exact ⟨(y1, y2, y3), rfl, HTR.out, HEND.out, by repeat (first | exact Below.refl _ _ | refine below_drewN ?_ _ | apply Below.setCell _ (by first | omega | (simp <;> omega)) | apply Below.alloc _ (by first | omega | (simp <;> omega)) | exact HB | refine after ?_ HB)⟩
            · have HEND : Hid (EndsDiffer s (y1, y2, y3)) := Lib.hid (fun ha _ => absurd ha qA)
              have e0 : decide ((y1 : Int) < (y2 : Int)) = false := decide_eq_false (by omega)
              go_wp2_with fail
              go_quiet (fail)
              go_wp2_with fail
              refine bodyPost_ret (v := .agg #[.int .i64 (y1 : Int), .int .i64 (y2 : Int), .string y3]) (by simp [results, Try.results45, go_sem, r3, r4, r5]) rfl ?_
              have HB := HBX.out.1
              exact ⟨(y1, y2, y3), rfl, HTR.out, HEND.out, by repeat (first | exact Below.refl _ _ | refine below_drewN ?_ _ | apply Below.setCell _ (by first | omega | (simp <;> omega)) | apply Below.alloc _ (by first | omega | (simp <;> omega)) | exact HB | refine after ?_ HB)⟩
      · have HFR : Hid (FrontD s (x1, x2, x3)) := Lib.hid (fun _ h => absurd h hB)
        have d0 : decide ((x1 : Int) < (x2 : Int)) = true := decide_eq_true (by omega)
        have d1 := txt_none hB
        go_wp2_with fail
        go_quiet (fail)
        go_wp2_with fail
        go_loopw [] (fun wr => ∃ x : NEd, TrimOf s e x ∧ FrontD s x ∧ BoxE w wr x ∧ BoxR w wr) (fun wr => txtAt wr w.heap.size)
        case atStart => exact ⟨_, HTR.out, HFR.out, HBX.out.drewN _, HBR.out.drewN _⟩
        case round =>
          clear HTR HFR HBX HBR tz t1 t2 t3 b2 c0 c1 c2 f0 f2 gt
          clear hA
          obtain ⟨x, htr, hfr, hbx, hbr⟩ := hrel
          have HTR := Lib.hid htr
          have HBX := Lib.hid hbx
          have HBR := Lib.hid hbr
          have HFR := Lib.hid hfr
          have tz := htr.size h2
          obtain ⟨t1, t2, t3, -⟩ := htr
          obtain ⟨b1, b2, b3, c0, c1, c2⟩ := hbx
          obtain ⟨r1, r2, r3, r4, r5⟩ := hbr
          have f1 := b3 1
          have f2 := b3 2
          have g0 := r2 0
          have g1 := r2 1
          have g2 := r2 2
          clear b1 b3 r2
          obtain ⟨y1, y2, y3⟩ := x
          dsimp only at t1 t2 t3 tz c0 c1 c2
          have gt := get_by y3
          by_cases qA : y1 < y2
          · by_cases qB : 0 < y3.size
            · by_cases qC : by' s (y2 - 1) = by' y3 (y3.size - 1)
              · have HN := Lib.hid (HTR.out.last h2 qA qB qC)
                have e0 : decide ((y1 : Int) < (y2 : Int)) = true := decide_eq_true (by omega)
                have e1 := txt_some qB
                have e2 : ((by' s (y2 - 1) : Int) == (by' y3 (y3.size - 1) : Int)) = true := by simp [qC]
                have i1 : y2 - 1 < s.size := by omega
                have i2 : ((y2 : Int) - 1).toNat = y2 - 1 := by omega
                have i3 : ((y3.size : Int) - 1).toNat = y3.size - 1 := by omega
                have i4 : (0 : Int) ≤ (y2 : Int) - 1 := by omega
                have i5 : (y2 : Int) - 1 < (s.size : Int) := by omega
                have i6 : (0 : Int) ≤ (y3.size : Int) - 1 := by omega
                have i7 : (y3.size : Int) - 1 < (y3.size : Int) := by omega
                have i8 : (y3.size : Int) - 1 ≤ (y3.size : Int) := by omega
                have iw1 : IntKind.i64.wrap ((y2 : Int) - 1) = (y2 : Int) - 1 := IntWalk.i64_in _ ⟨by omega, by omega⟩
                have iw2 : IntKind.i64.wrap ((y3.size : Int) - 1) = (y3.size : Int) - 1 := IntWalk.i64_in _ ⟨by omega, by omega⟩
                have HFN : Hid (FrontD s (y1, y2 - 1, y3.extract 0 (y3.size - 1))) := Lib.hid (fun ha hb => by
                  simp only [ByteArray.size_extract] at hb
                  simp only
                  rw [by_extract (by omega) (by omega)]
                  exact HFR.out qA qB)
                go_wp2_with fail
                go_quiet (fail)
                go_wp2_with fail
                refine ⟨⟨_, HN.out, HFN.out, (HBX.out.drewN _).upto _ _ _ (by simp only; omega) rfl rfl, ((HBR.out.drewN _).set _ _).set _ _⟩, ?_⟩
                rw [txtAt_is ((HBX.out.drewN _).upto ((y2 : Int) - 1) (y3.extract 0 (y3.size - 1)) (y1, y2 - 1, y3.extract 0 (y3.size - 1)) (by simp only; omega) rfl rfl).2.2.2.2.2, txtAt_is c2]
                simp only [ByteArray.size_extract]; omega
              · have HEND : Hid (EndsDiffer s (y1, y2, y3)) := Lib.hid (fun ha hb => ⟨HFR.out ha hb, qC⟩)
                have e0 : decide ((y1 : Int) < (y2 : Int)) = true := decide_eq_true (by omega)
                have e1 := txt_some qB
                have e2 : ((by' s (y2 - 1) : Int) == (by' y3 (y3.size - 1) : Int)) = false := by
                  rw [Bool.eq_false_iff]; intro h; simp at h; omega
                have i1 : y2 - 1 < s.size := by omega
                have i2 : ((y2 : Int) - 1).toNat = y2 - 1 := by omega
                have i3 : ((y3.size : Int) - 1).toNat = y3.size - 1 := by omega
                have i4 : (0 : Int) ≤ (y2 : Int) - 1 := by omega
                have i5 : (y2 : Int) - 1 < (s.size : Int) := by omega
                have i6 : (0 : Int) ≤ (y3.size : Int) - 1 := by omega
                have i7 : (y3.size : Int) - 1 < (y3.size : Int) := by omega
                have iw1 : IntKind.i64.wrap ((y2 : Int) - 1) = (y2 : Int) - 1 := IntWalk.i64_in _ ⟨by omega, by omega⟩
                have iw2 : IntKind.i64.wrap ((y3.size : Int) - 1) = (y3.size : Int) - 1 := IntWalk.i64_in _ ⟨by omega, by omega⟩
                go_wp2_with fail
                go_quiet (fail)
                go_wp2_with fail
                refine bodyPost_ret (v := .agg #[.int .i64 (y1 : Int), .int .i64 (y2 : Int), .string y3]) (by simp [results, Try.results45, go_sem, r3, r4, r5]) rfl ?_
                have HB := HBX.out.1
                exact ⟨(y1, y2, y3), rfl, HTR.out, HEND.out, by repeat (first | exact Below.refl _ _ | refine below_drewN ?_ _ | apply Below.setCell _ (by first | omega | (simp <;> omega)) | apply Below.alloc _ (by first | omega | (simp <;> omega)) | exact HB | refine after ?_ HB)⟩
            · have HEND : Hid (EndsDiffer s (y1, y2, y3)) := Lib.hid (fun _ hb => absurd hb qB)
              have e0 : decide ((y1 : Int) < (y2 : Int)) = true := decide_eq_true (by omega)
              have e1 := txt_none qB
              go_wp2_with fail
              go_quiet (fail)
              go_wp2_with fail
              refine bodyPost_ret (v := .agg #[.int .i64 (y1 : Int), .int .i64 (y2 : Int), .string y3]) (by simp [results, Try.results45, go_sem, r3, r4, r5]) rfl ?_
              have HB := HBX.out.1
              exact ⟨(y1, y2, y3), rfl, HTR.out, HEND.out, by repeat (first | exact Below.refl _ _ | refine below_drewN ?_ _ | apply Below.setCell _ (by first | omega | (simp <;> omega)) | apply Below.alloc _ (by first | omega | (simp <;> omega)) | exact HB | refine after ?_ HB)⟩
          · have HEND : Hid (EndsDiffer s (y1, y2, y3)) := Lib.hid (fun ha _ => absurd ha qA)
            have e0 : decide ((y1 : Int) < (y2 : Int)) = false := decide_eq_false (by omega)
            go_wp2_with fail
            go_quiet (fail)
            go_wp2_with fail
            refine bodyPost_ret (v := .agg #[.int .i64 (y1 : Int), .int .i64 (y2 : Int), .string y3]) (by simp [results, Try.results45, go_sem, r3, r4, r5]) rfl ?_
            have HB := HBX.out.1
            exact ⟨(y1, y2, y3), rfl, HTR.out, HEND.out, by repeat (first | exact Below.refl _ _ | refine below_drewN ?_ _ | apply Below.setCell _ (by first | omega | (simp <;> omega)) | apply Below.alloc _ (by first | omega | (simp <;> omega)) | exact HB | refine after ?_ HB)⟩
    · have HFR : Hid (FrontD s (x1, x2, x3)) := Lib.hid (fun h _ => absurd h hA)
      have d0 : decide ((x1 : Int) < (x2 : Int)) = false := decide_eq_false (by omega)
      go_wp2_with fail
      go_quiet (fail)
      go_wp2_with fail
      go_loopw [] (fun wr => ∃ x : NEd, TrimOf s e x ∧ FrontD s x ∧ BoxE w wr x ∧ BoxR w wr) (fun wr => txtAt wr w.heap.size)
      case atStart => exact ⟨_, HTR.out, HFR.out, HBX.out.drewN _, HBR.out.drewN _⟩
      case round =>
        clear HTR HFR HBX HBR tz t1 t2 t3 b2 c0 c1 c2 f0 f2 gt
        clear hA
        obtain ⟨x, htr, hfr, hbx, hbr⟩ := hrel
        have HTR := Lib.hid htr
        have HBX := Lib.hid hbx
        have HBR := Lib.hid hbr
        have HFR := Lib.hid hfr
        have tz := htr.size h2
        obtain ⟨t1, t2, t3, -⟩ := htr
        obtain ⟨b1, b2, b3, c0, c1, c2⟩ := hbx
        obtain ⟨r1, r2, r3, r4, r5⟩ := hbr
        have f1 := b3 1
        have f2 := b3 2
        have g0 := r2 0
        have g1 := r2 1
        have g2 := r2 2
        clear b1 b3 r2
        obtain ⟨y1, y2, y3⟩ := x
        dsimp only at t1 t2 t3 tz c0 c1 c2
        have gt := get_by y3
        by_cases qA : y1 < y2
        · by_cases qB : 0 < y3.size
          · by_cases qC : by' s (y2 - 1) = by' y3 (y3.size - 1)
            · have HN := Lib.hid (HTR.out.last h2 qA qB qC)
              have e0 : decide ((y1 : Int) < (y2 : Int)) = true := decide_eq_true (by omega)
              have e1 := txt_some qB
              have e2 : ((by' s (y2 - 1) : Int) == (by' y3 (y3.size - 1) : Int)) = true := by simp [qC]
              have i1 : y2 - 1 < s.size := by omega
              have i2 : ((y2 : Int) - 1).toNat = y2 - 1 := by omega
              have i3 : ((y3.size : Int) - 1).toNat = y3.size - 1 := by omega
              have i4 : (0 : Int) ≤ (y2 : Int) - 1 := by omega
              have i5 : (y2 : Int) - 1 < (s.size : Int) := by omega
              have i6 : (0 : Int) ≤ (y3.size : Int) - 1 := by omega
              have i7 : (y3.size : Int) - 1 < (y3.size : Int) := by omega
              have i8 : (y3.size : Int) - 1 ≤ (y3.size : Int) := by omega
              have iw1 : IntKind.i64.wrap ((y2 : Int) - 1) = (y2 : Int) - 1 := IntWalk.i64_in _ ⟨by omega, by omega⟩
              have iw2 : IntKind.i64.wrap ((y3.size : Int) - 1) = (y3.size : Int) - 1 := IntWalk.i64_in _ ⟨by omega, by omega⟩
              have HFN : Hid (FrontD s (y1, y2 - 1, y3.extract 0 (y3.size - 1))) := Lib.hid (fun ha hb => by
                simp only [ByteArray.size_extract] at hb
                simp only
                rw [by_extract (by omega) (by omega)]
                exact HFR.out qA qB)
              go_wp2_with fail
              go_quiet (fail)
              go_wp2_with fail
              refine ⟨⟨_, HN.out, HFN.out, (HBX.out.drewN _).upto _ _ _ (by simp only; omega) rfl rfl, ((HBR.out.drewN _).set _ _).set _ _⟩, ?_⟩
              rw [txtAt_is ((HBX.out.drewN _).upto ((y2 : Int) - 1) (y3.extract 0 (y3.size - 1)) (y1, y2 - 1, y3.extract 0 (y3.size - 1)) (by simp only; omega) rfl rfl).2.2.2.2.2, txtAt_is c2]
              simp only [ByteArray.size_extract]; omega
            · have HEND : Hid (EndsDiffer s (y1, y2, y3)) := Lib.hid (fun ha hb => ⟨HFR.out ha hb, qC⟩)
              have e0 : decide ((y1 : Int) < (y2 : Int)) = true := decide_eq_true (by omega)
              have e1 := txt_some qB
              have e2 : ((by' s (y2 - 1) : Int) == (by' y3 (y3.size - 1) : Int)) = false := by
                rw [Bool.eq_false_iff]; intro h; simp at h; omega
              have i1 : y2 - 1 < s.size := by omega
              have i2 : ((y2 : Int) - 1).toNat = y2 - 1 := by omega
              have i3 : ((y3.size : Int) - 1).toNat = y3.size - 1 := by omega
              have i4 : (0 : Int) ≤ (y2 : Int) - 1 := by omega
              have i5 : (y2 : Int) - 1 < (s.size : Int) := by omega
              have i6 : (0 : Int) ≤ (y3.size : Int) - 1 := by omega
              have i7 : (y3.size : Int) - 1 < (y3.size : Int) := by omega
              have iw1 : IntKind.i64.wrap ((y2 : Int) - 1) = (y2 : Int) - 1 := IntWalk.i64_in _ ⟨by omega, by omega⟩
              have iw2 : IntKind.i64.wrap ((y3.size : Int) - 1) = (y3.size : Int) - 1 := IntWalk.i64_in _ ⟨by omega, by omega⟩
              go_wp2_with fail
              go_quiet (fail)
              go_wp2_with fail
              refine bodyPost_ret (v := .agg #[.int .i64 (y1 : Int), .int .i64 (y2 : Int), .string y3]) (by simp [results, Try.results45, go_sem, r3, r4, r5]) rfl ?_
              have HB := HBX.out.1
              exact ⟨(y1, y2, y3), rfl, HTR.out, HEND.out, by repeat (first | exact Below.refl _ _ | refine below_drewN ?_ _ | apply Below.setCell _ (by first | omega | (simp <;> omega)) | apply Below.alloc _ (by first | omega | (simp <;> omega)) | exact HB | refine after ?_ HB)⟩
          · have HEND : Hid (EndsDiffer s (y1, y2, y3)) := Lib.hid (fun _ hb => absurd hb qB)
            have e0 : decide ((y1 : Int) < (y2 : Int)) = true := decide_eq_true (by omega)
            have e1 := txt_none qB
            go_wp2_with fail
            go_quiet (fail)
            go_wp2_with fail
            refine bodyPost_ret (v := .agg #[.int .i64 (y1 : Int), .int .i64 (y2 : Int), .string y3]) (by simp [results, Try.results45, go_sem, r3, r4, r5]) rfl ?_
            have HB := HBX.out.1
            exact ⟨(y1, y2, y3), rfl, HTR.out, HEND.out, by repeat (first | exact Below.refl _ _ | refine below_drewN ?_ _ | apply Below.setCell _ (by first | omega | (simp <;> omega)) | apply Below.alloc _ (by first | omega | (simp <;> omega)) | exact HB | refine after ?_ HB)⟩
        · have HEND : Hid (EndsDiffer s (y1, y2, y3)) := Lib.hid (fun ha _ => absurd ha qA)
          have e0 : decide ((y1 : Int) < (y2 : Int)) = false := decide_eq_false (by omega)
          go_wp2_with fail
          go_quiet (fail)
          go_wp2_with fail
          refine bodyPost_ret (v := .agg #[.int .i64 (y1 : Int), .int .i64 (y2 : Int), .string y3]) (by simp [results, Try.results45, go_sem, r3, r4, r5]) rfl ?_
          have HB := HBX.out.1
          exact ⟨(y1, y2, y3), rfl, HTR.out, HEND.out, by repeat (first | exact Below.refl _ _ | refine below_drewN ?_ _ | apply Below.setCell _ (by first | omega | (simp <;> omega)) | apply Below.alloc _ (by first | omega | (simp <;> omega)) | exact HB | refine after ?_ HB)⟩

end Go.Proofs.Ytdhbcmbajbgblaa
