/- Contracts of Table.Byte. -/
import Derived.Test.YtcmeeehhhnmfgaaDoorLineAt
namespace Go.Proofs.YtcmeeehhhnmfgaaDoor
open Go.RowKit
set_option linter.unusedVariables false

/-- does a place stand in the table? -/
def placeB (s : ByteArray) (l c : Int) : Bool := hasB s l && decide (1 ≤ c ∧ c ≤ colsN s l.toNat)

set_option maxHeartbeats 1000000 in
theorem byte_no (s : ByteArray) (p : Nat) (l c : Int) (w : World) (hs : s.size ≤ 65536) (ht : TableAt w p s) (hb : placeB s l c = false) :
    Calls Tryd.prog 13 #[.pointer (some ⟨p, 0, none⟩), .agg #[.int .i64 l, .int .i64 c]] w fun e w' => e = .returned (.tuple #[.int .i64 0, .int .i64 1]) ∧ Below w.heap.size w w' := by
  have HT := Lib.hid ht
  have hz := ht.lt
  clear ht
  have hways : hasB s l = false ∨ (hasB s l = true ∧ c < 1) ∨ (hasB s l = true ∧ 1 ≤ c ∧ (colsN s l.toNat : Int) < c) := by
    cases h : hasB s l
    · exact .inl rfl
    · by_cases h1 : c < 1
      · exact .inr (.inl ⟨rfl, h1⟩)
      · refine .inr (.inr ⟨rfl, by omega, ?_⟩)
        unfold placeB at hb
        rw [h, Bool.true_and] at hb
        have := of_decide_eq_false hb
        omega
  clear hb
  rcases hways with h | ⟨h, k1⟩ | ⟨h, k1, k2⟩
  · have H := Lib.hid h
    clear h
    go_enter Tryd.func13, Tryd.ntmps13
    go_wp2_with fail
    go_quiet ((go_at_call 33; exact Calls.quiet_of_same (has_at s p l _ false (HT.out.box _) H.out)))
    go_wp2_with fail
    go_ret2
    exact ⟨rfl, by repeat (first | exact Below.refl _ _ | refine below_drewN ?_ _ | apply Below.setCell _ (by first | omega | (simp <;> omega)) | apply Below.alloc _ (by first | omega | (simp <;> omega)))⟩
  · have H := Lib.hid h
    clear h
    go_enter Tryd.func13, Tryd.ntmps13
    go_wp2_with fail
    go_quiet ((go_at_call 33; exact Calls.quiet_of_same (has_at s p l _ true (HT.out.box _) H.out)))
    go_wp2_with fail
    go_ret2
    exact ⟨rfl, by repeat (first | exact Below.refl _ _ | refine below_drewN ?_ _ | apply Below.setCell _ (by first | omega | (simp <;> omega)) | apply Below.alloc _ (by first | omega | (simp <;> omega)))⟩
  · have H := Lib.hid h
    obtain ⟨q1, q2⟩ := hasB_iff.1 h
    obtain ⟨l', rfl⟩ := Int.eq_ofNat_of_zero_le (show 0 ≤ l by omega)
    rw [Int.toNat_natCast] at k2
    have q1' : 1 ≤ l' := by omega
    have q2' : l' ≤ (begs s).length := by omega
    have k0 : ¬ c < 1 := by omega
    have Q := Lib.hid q2'
    clear h q2 q2'
    go_enter Tryd.func13, Tryd.ntmps13
    go_wp2_with fail
    go_quiet ((first | (go_at_call 33; exact Calls.quiet_of_same (has_at s p l' _ true (HT.out.box _) H.out)) | (go_at_call 34; exact Calls.quiet_of (columns_any s p l' _ hs (HT.out.box _) q1' Q.out))))
    go_wp2_with fail
    go_ret2
    exact ⟨rfl, by repeat (first | exact Below.refl _ _ | refine below_drewN ?_ _ | apply Below.setCell _ (by first | omega | (simp <;> omega)) | apply Below.alloc _ (by first | omega | (simp <;> omega)))⟩

set_option maxHeartbeats 1000000 in
theorem byte_yes (s : ByteArray) (p l c : Nat) (w : World) (hs : s.size ≤ 65536) (ht : TableAt w p s) (h1l : 1 ≤ l) (hln : l ≤ (begs s).length) (h1c : 1 ≤ c) (hcn : c ≤ colsN s l) :
    Calls Tryd.prog 13 #[.pointer (some ⟨p, 0, none⟩), .agg #[.int .i64 (l : Nat), .int .i64 (c : Nat)]] w fun e w' => e = .returned (.tuple #[.int .i64 ((begs s)[l - 1] + c - 1 : Nat), .int .i64 0]) ∧ Below w.heap.size w w' := by
  have HT := Lib.hid ht
  have H := Lib.hid (show hasB s (l : Nat) = true from hasB_iff.2 ⟨by omega, by omega⟩)
  obtain ⟨b, cap, h1, h2, t0, t1, h5, h6, h7⟩ := ht
  have t2 := h7 (l - 1) (by omega)
  have hB := begs_le s (l - 1) (by omega)
  have hn := (begs_len s).2
  have hcb : c ≤ s.size + 1 := by
    have : colsN s l ≤ s.size + 1 := by
      unfold colsN
      split
      · rename_i h; have := begs_le s l h; omega
      · split <;> omega
    omega
  have E := Lib.hid (show (((begs s)[l - 1] + c - 1 : Nat) : Int) = ((begs s)[l - 1] : Int) + (c : Int) - 1 by omega)
  have Q := Lib.hid hln
  have k0 : ¬ (c : Int) < 1 := by omega
  have k1 : (c : Int) ≤ (colsN s l : Int) := by omega
  clear h7
  generalize (begs s)[l - 1] = B at *
  have e1 : (1 : Int) ≤ (l : Int) := by omega
  have e2 : (l : Int) - 1 < ((begs s).length : Int) := by omega
  have e3 : ((l : Int) - 1).toNat = l - 1 := by omega
  have h1a : p < w.heap.size + 1 := by omega
  go_enter Tryd.func13, Tryd.ntmps13
  go_wp2_with fail
  go_quiet ((first | (go_at_call 33; exact Calls.quiet_of_same (has_at s p l _ true (HT.out.box _) H.out)) | (go_at_call 34; exact Calls.quiet_of (columns_any s p l _ hs (HT.out.box _) h1l Q.out))))
  go_wp2_with fail
  go_region
  all_goals go_wp2_with fail
  all_goals go_ret2
  all_goals exact ⟨by rw [E.out]; rfl, by repeat (first | exact Below.refl _ _ | refine below_drewN ?_ _ | apply Below.setCell _ (by first | omega | (simp <;> omega)) | apply Below.alloc _ (by first | omega | (simp <;> omega)))⟩

end Go.Proofs.YtcmeeehhhnmfgaaDoor
