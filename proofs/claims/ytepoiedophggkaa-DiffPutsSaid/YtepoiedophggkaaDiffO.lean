/- Bytes of texts that are too long, or too far apart. -/
import Derived.Test.YtepoiedophggkaaDiffN
namespace Go.Proofs.Ytepoiedophggkaa
open Go Go.RowKit
set_option linter.unusedVariables false

theorem infoU8D : (Try.prog.info? 5).map (fun i => (i.zero, i.size, i.bytes)) = some (some (.int .u8 0), 1, 1) := by kernel_rfl
/-- a text of so many noughts -/
def zerosD (m : Nat) : ByteArray := ⟨(List.replicate m 0).toArray⟩
theorem zerosD_size (m : Nat) : (zerosD m).size = m := by unfold zerosD ByteArray.size; simp
theorem made_zerosD (m : Nat) (w : World) (hm : m ≤ 100000) :
    ∃ W1, (Instr.makeSlice 41 (.int .i64 (m : Int)) (.int .i64 (m : Int))).run Try.prog w = .ok (.slice (some ⟨w.heap.size, 0, none⟩) m m) W1 ∧
      (convert 41 9 (.slice (some ⟨w.heap.size, 0, none⟩) m m)).run Try.prog W1 = .ok (.string (zerosD m)) W1 ∧ Below w.heap.size w W1 := by
  obtain ⟨i0, hi, hz0, hz1, hz2⟩ := info_parts infoU8D
  obtain ⟨W1, h1, h2, h3⟩ := run_makeSlice_full (P := Try.prog) w w.heap.size 41 5 i0 (.int .u8 0) 1 Try.underlying41 hi hz0 hz1 .i64 .i64 m (by omega) (by rw [hz2]; omega) (by unfold maxLen; omega) (Nat.le_refl _)
  refine ⟨W1, h1, ?_, Below.grown (Below.refl _ _) h3 (Nat.le_refl _) (fun j hj => by cases hj)⟩
  have := run_convert_bytes_back (P := Try.prog) W1 41 9 5 ⟨w.heap.size, 0, none⟩ m (List.replicate m 0) Try.underlying41 Try.underlying5 Try.underlying9 (fun j hj => by
    rw [List.length_replicate] at hj
    rw [add_at, Nat.zero_add, h2.cellAt j (by omega), show (Value.int .u8 0).cells = #[.int .u8 0] from rfl, toList_madeCells_one, List.getElem?_replicate, if_pos (by omega)]
    simp)
  rw [List.length_replicate] at this
  exact this

set_option maxRecDepth 100000 in
set_option maxHeartbeats 2000000 in
theorem bytes_long (a b : ByteArray) (w : World) (ha : a.size ≤ maxLen) (hb : b.size ≤ maxLen) (h : 16384 < a.size ∨ 16384 < b.size) :
    Calls Try.prog 27 #[.string a, .string b] w fun e w' => e = .returned (.tuple #[.slice none 0 0, .bool false, .int .i64 2]) ∧ Below w.heap.size w w' := by
  have HL := Lib.hid (fun w => tooLong_any a b w ha hb)
  rw [longB_yes h] at HL
  go_enter Try.func27, Try.ntmps27
  go_wp2_with fail
  refine (HL.out _).mono ?_
  rintro e w1 ⟨rfl, rfl⟩
  go_wp2_with fail
  go_ret3
  exact ⟨rfl, Below.refl _ _⟩

/-- what tells of edits that they make one text of the other -/
def MakesE (a b : ByteArray) (n : Nat) (L : List NEd) : Prop := EdOk a.size 0 L ∧ pieces a 0 L = b ∧ costN L ≤ n ∧ L.length ≤ 514
/-- Bytes of texts that aren't too long, near or far -/
theorem whole_ok (a b : ByteArray) : EdOk a.size 0 [(0, a.size, b)] ∧ pieces a 0 [(0, a.size, b)] = b ∧ costN [(0, a.size, b)] = a.size + b.size := by
  refine ⟨⟨Nat.le_refl _, Nat.zero_le _, Nat.le_refl _⟩, ?_, by simp [costN]; omega⟩
  apply ByteArray.ext
  simp [pieces]

set_option maxRecDepth 100000 in
set_option maxHeartbeats 2000000 in
theorem bytes_far (a b : ByteArray) (w : World) (ha : a.size ≤ 16384) (hb : b.size ≤ 16384) (h : 512 < farN a b) :
    Calls Try.prog 27 #[.string a, .string b] w fun e w' => ∃ g cap L, e = .returned (.tuple #[.slice (some ⟨g, 0, none⟩) L.length cap, .bool false, .int .i64 0]) ∧ Below w.heap.size w w' ∧ g < w'.heap.size ∧ EditAt w' g 0 (L.map toI) ∧ MakesE a b (a.size + b.size) L := by
  have HL := Lib.hid (fun w => tooLong_any a b w (by unfold maxLen; omega) (by unfold maxLen; omega))
  rw [longB_no ha hb] at HL
  obtain ⟨o1, o2, o3⟩ := whole_ok a b
  have hg : (a.size : Int) + growN [(0, a.size, b)] ≤ 65536 := by simp [growN]; omega
  have ht : ∀ e ∈ [((0 : Nat), a.size, b)], e.2.2.size ≤ 65536 := by intro e he; simp at he; subst he; simp; omega
  obtain ⟨v1, v2, v3⟩ := valid_fits o1 (by simp) (by omega) hg ht
  have HT := Lib.hid (fun w cap g hr => tidy_ok a (some ⟨g, 0, none⟩) 1 cap [(0, a.size, b)] w rfl (by omega) (by omega) o1 hg v1 ht hr)
  have HX : Hid (∀ D, TidyOf a [(0, a.size, b)] D → MakesE a b (a.size + b.size) D) := Lib.hid (fun D hD => by
    obtain ⟨u1, u2, u3, u4, u5, u6⟩ := hD
    simp at u5
    exact ⟨u1, by rw [u3]; exact o2, by rw [← o3]; exact u4, by omega⟩)
  clear o1 o2 o3 hg ht v1 v2 v3
  go_enter Try.func27, Try.ntmps27
  go_wp2_with fail
  refine (HL.out _).mono ?_
  rintro e w1 ⟨rfl, rfl⟩
  go_wp2_with fail
  refine (search_any a b _ (by omega) (by omega)).mono ?_
  rintro e w2 (⟨n, g, v, i, rfl, hn, hend, hno, hinv⟩ | ⟨rfl, hno, hbel⟩)
  · have hN := least_is ⟨i, hend⟩ hno
    exact absurd hn (by omega)
  · have HB := Lib.hid hbel
    clear hno hbel
    go_wp2_with fail
    have BA := (((Below.refl w2.heap.size w2).alloc (Nat.le_refl _) (.cells #[.int .i64 0, .int .i64 (a.size : Nat), .string b] 37)).alloc (by simp) (.cells #[.int .i64 0, .int .i64 (a.size : Nat), .string b] 37))
    have HR : Hid (EdsIn ((w2.alloc (.cells #[.int .i64 0, .int .i64 (a.size : Nat), .string b] 37)).alloc (.cells #[.int .i64 0, .int .i64 (a.size : Nat), .string b] 37)) (some ⟨w2.heap.size + 1, 0, none⟩) ([((0 : Nat), a.size, b)].map toI)) := Lib.hid (fun _ => ⟨w2.heap.size + 1, 0, rfl, by simp, fun i hi => by
      have hi0 : i = 0 := by simp at hi; omega
      subst hi0
      have hz : (w2.alloc (.cells #[.int .i64 0, .int .i64 (a.size : Nat), .string b] 37)).heap.size = w2.heap.size + 1 := by simp
      rw [← hz]
      simp [go_sem, toI]⟩)
    refine (HT.out _ 1 (w2.heap.size + 1) HR.out).mono ?_
    rintro e w3 ⟨g, D, rfl, h23, hg3, hrow, hq⟩
    have HM := Lib.hid (HX.out D hq)
    have H3 := Lib.hid (after (after HB.out BA) h23)
    have HROW := Lib.hid hrow
    clear hq h23 hrow BA
    go_wp2_with fail
    go_ret3
    exact ⟨g, 1, D, rfl, H3.out, hg3, HROW.out, HM.out⟩

theorem bytes_ok (a b : ByteArray) (w : World) (ha : a.size ≤ 16384) (hb : b.size ≤ 16384) :
    Calls Try.prog 27 #[.string a, .string b] w fun e w' => ∃ src cap L f, e = .returned (.tuple #[.slice src L.length cap, .bool f, .int .i64 0]) ∧ Below w.heap.size w w' ∧ EdsIn w' src (L.map toI) ∧ MakesE a b (a.size + b.size) L ∧ (f = true → costN L ≤ 512) := by
  by_cases h : farN a b ≤ 512
  · refine (bytes_near a b w ha hb h).mono ?_
    rintro e w' ⟨v, w2, L, rfl, h1, -, ⟨f1, f2, f3, -, -, f6⟩, -, hd⟩
    obtain ⟨src, cap, rfl, hr⟩ := hd.shape (show (L.map toI).length = L.length by simp)
    exact ⟨src, cap, L, true, rfl, h1, hr, ⟨f1, f2, by rw [f3]; exact farN_le a b, f6⟩, fun _ => by omega⟩
  · refine (bytes_far a b w ha hb (by omega)).mono ?_
    rintro e w' ⟨g, cap, L, rfl, h1, h2, h3, h4⟩
    exact ⟨_, cap, L, false, rfl, h1, fun _ => ⟨g, 0, rfl, h2, h3⟩, h4, fun h => by cases h⟩
theorem MakesE.fits {a b : ByteArray} {L : List NEd} {n : Nat} (h : MakesE a b n L) (ha : a.size ≤ 16384) (hb : b.size ≤ 16384) (hn : n ≤ 32768) :
    (a.size : Int) + growN L ≤ 65536 ∧ (∀ e ∈ L, e.2.2.size ≤ 65536) ∧ fitsE a.size (L.map toI) = 0 ∧ costE (L.map toI) = (costN L : Nat) := by
  obtain ⟨f1, f2, f3, f4⟩ := h
  have hs := size_pieces a L 0 f1
  rw [f2] at hs
  have hg : (a.size : Int) + growN L ≤ 65536 := by omega
  have ht : ∀ e ∈ L, e.2.2.size ≤ 65536 := fun e he => by have := text_cost L e he; omega
  obtain ⟨v1, v2, v3⟩ := valid_fits f1 (by omega) (by omega) hg ht
  exact ⟨hg, ht, v1, v2⟩

end Go.Proofs.Ytepoiedophggkaa
