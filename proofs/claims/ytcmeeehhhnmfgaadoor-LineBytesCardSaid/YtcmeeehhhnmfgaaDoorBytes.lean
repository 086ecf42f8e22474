/- LineBytes: the walk where the place is a byte's. -/
import Derived.Test.YtcmeeehhhnmfgaaDoorBytesA
namespace Go.Proofs.YtcmeeehhhnmfgaaDoor
open Go.RowKit
set_option linter.unusedVariables false

set_option maxHeartbeats 1000000 in
theorem bytes_yes (s : ByteArray) (n : Nat) (w : World) (hn : Tab w) (hs : s.size ≤ 3000) (hb : n ≤ s.size) :
    Calls Tryd.prog 4 #[.string s, .agg #[.int .i64 (lineN s n : Nat), .int .i64 (colN s n : Nat)]] w fun e w' => e = .returned (.bool true) ∧ Below w.heap.size w w' := by
  have HS := Lib.hid hs
  have HN := Lib.hid hn
  have HB := Lib.hid hb
  have BY := Lib.hid (fun p w ht => byte_at s p n w (by omega) ht hb)
  have IN := Lib.hid (fun (k : Nat) (h : k ≠ n) => (show (lineN s k : Int) ≠ (lineN s n : Int) ∨ ((lineN s k : Int) = (lineN s n : Int) ∧ (colN s k : Int) ≠ (colN s n : Int)) by
    by_cases e1 : lineN s k = lineN s n
    · refine .inr ⟨by omega, fun e2 => h (place_inj s k n e1 (by omega))⟩
    · exact .inl (by omega)))
  clear hn hb
  have EL := Lib.hid (show ((lineN s n : Nat) : Int) = lineN s n from rfl)
  have EC := Lib.hid (show ((colN s n : Nat) : Int) = colN s n from rfl)
  revert EL EC
  generalize hl : ((lineN s n : Nat) : Int) = l at *
  generalize hc : ((colN s n : Nat) : Int) = c at *
  intro EL EC
  have HLN := Lib.hid hl
  have HCN := Lib.hid hc
  clear hl hc EL EC
  go_enter Tryd.func4, Tryd.ntmps4
  go_wp2_with fail
  refine (tells_any _ (HN.out.step (by repeat (first | exact Below.refl _ _ | apply Below.setCell _ (by first | omega | (simp <;> omega)) | apply Below.alloc _ (by first | omega | (simp <;> omega)))))).mono ?_
  rintro e w1 ⟨rfl, h01⟩
  obtain ⟨g01, q0, q1, q2⟩ := box2 h01
  have HN1 := Lib.hid (HN.out.step g01)
  clear HN h01
  go_wp2_with fail
  refine (lof_any s _ (by omega)).mono ?_
  rintro e w2 ⟨p, rfl, hp, ht, h12⟩
  have H2 : Hold w p s [(w.heap.size, 0, .int .i64 l), (w.heap.size, 1, .int .i64 c)] w2 := ⟨after g01 h12, ht, HN1.out.step h12, fun x hx => by
    have hz := h12.size
    rcases List.mem_cons.1 hx with rfl | hx
    · exact ⟨by simp; omega, keep h12 (by simp; omega) q0⟩
    · rcases List.mem_cons.1 hx with rfl | hx
      · exact ⟨by simp; omega, keep h12 (by simp; omega) q1⟩
      · exact absurd hx (by simp)⟩
  have c0 : w2.cell? ⟨w.heap.size, 0, none⟩ = some (.int .i64 l) := H2.cell (by simp)
  have c1 : w2.cell? ⟨w.heap.size, 1, none⟩ = some (.int .i64 c) := H2.cell (by simp)
  have b2 : w.heap.size < w2.heap.size := H2.lt (o := 0) (v := .int .i64 l) (by simp)
  clear ht h12 HN1 g01 q0 q1 q2
  go_wp2_with fail
  refine (BY.out p _ H2.tab).mono ?_
  rintro e w3 ⟨rfl, h23⟩
  have H3 := H2.step h23
  have d0 : w3.cell? ⟨w.heap.size, 0, none⟩ = some (.int .i64 l) := H3.cell (by simp)
  have d1 : w3.cell? ⟨w.heap.size, 1, none⟩ = some (.int .i64 c) := H3.cell (by simp)
  have HL := Lib.hid H3.bel
  clear c0 c1 b2 H2 H3 h23
  go_wp2_with fail
  go_loopw [9, 10, 11] (fun x y i wr => ∃ k : Nat, k ≤ s.size + 1 ∧ i = .int .i64 k ∧ ((k ≤ n ∧ x = .int .i64 0 ∧ y = .bool false) ∨ (n < k ∧ x = .int .i64 n ∧ y = .bool true)) ∧ w3 = wr) (fun _ _ i _ => s.size + 1 - (intOf i).toNat)
  case atStart => exact ⟨0, Nat.zero_le _, rfl, .inl ⟨Nat.zero_le _, rfl, rfl⟩, rfl⟩
  case round =>
    obtain ⟨k, hk, rfl, hxy, rfl⟩ := hrel
    by_cases hlt : k ≤ s.size
    · by_cases hkn : k = n
      · subst hkn
        rcases hxy with ⟨h1, rfl, rfl⟩ | ⟨h1, rfl, rfl⟩
        · clear h1
          go_wp2_with fail
          refine (refat_any s k _ (by omega) hlt).mono ?_
          rw [HLN.out, HCN.out]
          rintro e w4 ⟨rfl, rfl⟩
          go_wp2_with fail
          go_roundw
          case rel => exact ⟨k + 1, by omega, by go_num, .inr ⟨by omega, rfl, rfl⟩, trivial⟩
          case measure => simp [intOf]; omega
        · exact absurd h1 (by omega)
      · have HE := Lib.hid (IN.out k hkn)
        rcases hxy with ⟨h1, rfl, rfl⟩ | ⟨h1, rfl, rfl⟩
        · have HK := Lib.hid (show k < n by omega)
          clear h1 hkn
          go_wp2_with fail
          refine (refat_any s k _ (by omega) hlt).mono ?_
          rintro e w4 ⟨rfl, rfl⟩
          generalize (lineN s k : Int) = x at *
          generalize (colN s k : Int) = y at *
          rcases HE.out with hne | ⟨heq, hne⟩
          · go_wp2_with fail
            go_roundw
            case rel => exact ⟨k + 1, by omega, by go_num, .inl ⟨HK.out, rfl, rfl⟩, trivial⟩
            case measure => simp [intOf]; omega
          · subst heq
            go_wp2_with fail
            go_roundw
            case rel => exact ⟨k + 1, by omega, by go_num, .inl ⟨HK.out, rfl, rfl⟩, trivial⟩
            case measure => simp [intOf]; omega
        · have HK := Lib.hid h1
          clear h1 hkn
          go_wp2_with fail
          refine (refat_any s k _ (by omega) hlt).mono ?_
          rintro e w4 ⟨rfl, rfl⟩
          generalize (lineN s k : Int) = x at *
          generalize (colN s k : Int) = y at *
          rcases HE.out with hne | ⟨heq, hne⟩
          · go_wp2_with fail
            go_roundw
            case rel => exact ⟨k + 1, by omega, by go_num, .inr ⟨by have := HK.out; omega, rfl, rfl⟩, trivial⟩
            case measure => simp [intOf]; omega
          · subst heq
            go_wp2_with fail
            go_roundw
            case rel => exact ⟨k + 1, by omega, by go_num, .inr ⟨by have := HK.out; omega, rfl, rfl⟩, trivial⟩
            case measure => simp [intOf]; omega
    · have hk' : k = s.size + 1 := by omega
      subst hk'
      rcases hxy with ⟨h1, rfl, rfl⟩ | ⟨h1, rfl, rfl⟩
      · exact absurd HB.out (by omega)
      · clear h1
        go_wp2_with fail
        go_ret
        exact ⟨rfl, HL.out⟩

theorem bytes_far (s : ByteArray) (l c : Int) (w : World) (hn : Tab w) (hs : 3000 < s.size) (hm : s.size ≤ maxLen) :
    Calls Tryd.prog 4 #[.string s, .agg #[.int .i64 l, .int .i64 c]] w fun e w' => e = .returned (.bool true) ∧ Below w.heap.size w w' := by
  have HN := Lib.hid hn
  have hm1 : s.size < 9223372036854775808 := by unfold maxLen at hm; omega
  clear hn hm
  go_enter Tryd.func4, Tryd.ntmps4
  go_wp2_with fail
  refine (tells_any _ (HN.out.step (by repeat (first | exact Below.refl _ _ | apply Below.setCell _ (by first | omega | (simp <;> omega)) | apply Below.alloc _ (by first | omega | (simp <;> omega)))))).mono ?_
  rintro e w1 ⟨rfl, h01⟩
  obtain ⟨g01, q0, q1, q2⟩ := box2 h01
  clear h01 q0 q1 q2
  go_wp2_with fail
  go_ret
  exact ⟨rfl, g01⟩

theorem bytes_any (s : ByteArray) (hm : s.size ≤ maxLen) (l c : Int) (hl : (Lit.int .i64 l).wf = true) (hc : (Lit.int .i64 c).wf = true) (w : World) (hn : Tab w) :
    Calls Tryd.prog 4 #[.string s, .agg #[.int .i64 l, .int .i64 c]] w fun e w' => e = .returned (.bool true) ∧ Below w.heap.size w w' := by
  by_cases h0 : 3000 < s.size
  · exact bytes_far s l c w hn h0 hm
  cases hb : placeB s l c
  · exact bytes_no s l c w hn (by omega) hb
  · unfold placeB at hb
    rw [Bool.and_eq_true] at hb
    have h1 := hasB_iff.1 hb.1
    have h2 := of_decide_eq_true hb.2
    have h3 := place_of s l.toNat c.toNat (by omega) (by omega) (by omega) (by omega)
    have h4 := bytes_yes s _ w hn (by omega) h3.1
    rw [h3.2.1, h3.2.2] at h4
    have e1 : ((l.toNat : Nat) : Int) = l := by omega
    have e2 : ((c.toNat : Nat) : Int) = c := by omega
    rw [e1, e2] at h4
    exact h4

end Go.Proofs.YtcmeeehhhnmfgaaDoor
