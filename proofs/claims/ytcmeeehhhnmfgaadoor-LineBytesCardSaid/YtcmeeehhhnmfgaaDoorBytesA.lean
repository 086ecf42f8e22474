/- Facts on places, and LineBytes' walk where the place stands nowhere. -/
import Derived.Test.YtcmeeehhhnmfgaaDoorPlaces
namespace Go.Proofs.YtcmeeehhhnmfgaaDoor
open Go.RowKit
set_option linter.unusedVariables false

/-- a place that stands in the table is a byte's -/
theorem place_of (s : ByteArray) (l c : Nat) (h1 : 1 ≤ l) (h2 : l ≤ (begs s).length) (h3 : 1 ≤ c) (h4 : c ≤ colsN s l) :
    (begs s)[l - 1] + c - 1 ≤ s.size ∧ lineN s ((begs s)[l - 1] + c - 1) = l ∧ colN s ((begs s)[l - 1] + c - 1) = c := by
  have hb := begs_le s (l - 1) (by omega)
  have hi : (begs s)[l - 1] + c - 1 ≤ s.size := by
    unfold colsN at h4
    split at h4
    · rename_i h; have := begs_le s l h; have := begs_lt s (l - 1) l (by omega) h; omega
    · split at h4
      · omega
      · omega
  have hl : l = lineN s ((begs s)[l - 1] + c - 1) := by
    refine begs_search s _ l hi h2 (fun x hx hlt => ?_) (fun x hx hge => ?_)
    · by_cases hx1 : x = l - 1
      · subst hx1; omega
      · have := begs_lt s x (l - 1) (by omega) (by omega); omega
    · have hl0 : l < (begs s).length := by omega
      unfold colsN at h4
      rw [dif_pos hl0] at h4
      have h5 : (begs s)[l] ≤ (begs s)[x] := by
        by_cases hx1 : x = l
        · subst hx1; exact Nat.le_refl _
        · have := begs_lt s l x (by omega) hx; omega
      have := begs_lt s (l - 1) l (by omega) hl0
      omega
  refine ⟨hi, hl.symm, ?_⟩
  have hat := begs_at s _ hi (by omega)
  have : begN s ((begs s)[l - 1] + c - 1) = (begs s)[l - 1] := by
    rw [← hat]; congr 1; omega
  unfold colN
  rw [this]; omega
theorem place_inj (s : ByteArray) (i j : Nat) (h1 : lineN s i = lineN s j) (h2 : colN s i = colN s j) : i = j := by
  by_cases h : i < j
  · have := place_lt s i j h; omega
  · by_cases h' : j < i
    · have := place_lt s j i h'; omega
    · omega

set_option maxHeartbeats 1000000 in
theorem bytes_no (s : ByteArray) (l c : Int) (w : World) (hn : Tab w) (hs : s.size ≤ 3000) (hb : placeB s l c = false) :
    Calls Tryd.prog 4 #[.string s, .agg #[.int .i64 l, .int .i64 c]] w fun e w' => e = .returned (.bool true) ∧ Below w.heap.size w w' := by
  have HS := Lib.hid hs
  have HN := Lib.hid hn
  have HB := Lib.hid hb
  clear hn hb
  go_enter Tryd.func4, Tryd.ntmps4
  go_wp2_with fail
  refine (tells_any _ (HN.out.step (by repeat (first | exact Below.refl _ _ | apply Below.setCell _ (by first | omega | (simp <;> omega)) | apply Below.alloc _ (by first | omega | (simp <;> omega)))))).mono ?_
  rintro e w1 ⟨rfl, h01⟩
  obtain ⟨g01, q0, q1, q2⟩ := box2 h01
  have HN1 := Lib.hid (HN.out.step g01)
  clear HN h01
  go_wp2_with fail
  refine (lof_any s _ (by omega)).mono ?_
  rintro e w2 ⟨p, rfl, hp, ht, h12⟩
  have H2 : Hold w p s [(w.heap.size, 0, .int .i64 l), (w.heap.size, 1, .int .i64 c)] w2 := ⟨after g01 h12, ht, HN1.out.step h12, fun x hx => by
    have hz := h12.size
    rcases List.mem_cons.1 hx with rfl | hx
    · exact ⟨by simp; omega, keep h12 (by simp; omega) q0⟩
    · rcases List.mem_cons.1 hx with rfl | hx
      · exact ⟨by simp; omega, keep h12 (by simp; omega) q1⟩
      · exact absurd hx (by simp)⟩
  have c0 : w2.cell? ⟨w.heap.size, 0, none⟩ = some (.int .i64 l) := H2.cell (by simp)
  have c1 : w2.cell? ⟨w.heap.size, 1, none⟩ = some (.int .i64 c) := H2.cell (by simp)
  have b2 : w.heap.size < w2.heap.size := H2.lt (o := 0) (v := .int .i64 l) (by simp)
  clear ht h12 HN1 g01 q0 q1 q2
  go_wp2_with fail
  refine (byte_no s p l c _ (by omega) H2.tab HB.out).mono ?_
  rintro e w3 ⟨rfl, h23⟩
  have H3 := H2.step h23
  have d0 : w3.cell? ⟨w.heap.size, 0, none⟩ = some (.int .i64 l) := H3.cell (by simp)
  have d1 : w3.cell? ⟨w.heap.size, 1, none⟩ = some (.int .i64 c) := H3.cell (by simp)
  have HL := Lib.hid H3.bel
  clear c0 c1 b2 H2 H3 h23
  go_wp2_with fail
  go_loopw [9, 10, 11] (fun x y i wr => ∃ k : Nat, k ≤ s.size + 1 ∧ i = .int .i64 k ∧ x = .int .i64 0 ∧ y = .bool false ∧ w3 = wr) (fun _ _ i _ => s.size + 1 - (intOf i).toNat)
  case atStart => exact ⟨0, Nat.zero_le _, rfl, rfl, rfl, rfl⟩
  case round =>
    obtain ⟨k, hk, rfl, rfl, rfl, rfl⟩ := hrel
    by_cases hlt : k ≤ s.size
    · have hne : (lineN s k : Int) ≠ l ∨ ((lineN s k : Int) = l ∧ (colN s k : Int) ≠ c) := by
        by_cases e1 : (lineN s k : Int) = l
        · refine .inr ⟨e1, fun e2 => ?_⟩
          have h1 := lineN_le s k hlt
          have h2 := col_le s k hlt
          have h3 := HB.out
          unfold placeB at h3
          have e3 : l.toNat = lineN s k := by omega
          rw [e3] at h3
          rw [hasB_iff.2 ⟨by omega, by omega⟩, Bool.true_and] at h3
          have := of_decide_eq_false h3
          exact this ⟨by omega, by omega⟩
        · exact .inl e1
      have HE := Lib.hid hne
      clear hne
      go_wp2_with fail
      refine (refat_any s k _ (by omega) hlt).mono ?_
      rintro e w4 ⟨rfl, rfl⟩
      generalize (lineN s k : Int) = x at *
      generalize (colN s k : Int) = y at *
      rcases HE.out with hne | ⟨heq, hne⟩
      · go_wp2_with fail
        go_roundw
        case rel => exact ⟨k + 1, by omega, by go_num, rfl, rfl, trivial⟩
        case measure => simp [intOf]; omega
      · subst heq
        go_wp2_with fail
        go_roundw
        case rel => exact ⟨k + 1, by omega, by go_num, rfl, rfl, trivial⟩
        case measure => simp [intOf]; omega
    · have hk' : k = s.size + 1 := by omega
      subst hk'
      go_wp2_with fail
      go_ret
      exact ⟨rfl, HL.out⟩

end Go.Proofs.YtcmeeehhhnmfgaaDoor
