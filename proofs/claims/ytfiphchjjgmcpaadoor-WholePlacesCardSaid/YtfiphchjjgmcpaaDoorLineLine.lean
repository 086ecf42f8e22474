/- Contracts of Table.Line and Table.Text. -/
import Derived.Test.YtfiphchjjgmcpaaDoorLineAt
namespace Go.Proofs.YtfiphchjjgmcpaaDoor
open Go.RowKit
set_option linter.unusedVariables false

/-- is the byte at a place a return? -/
def crAt (s : ByteArray) (i : Nat) : Bool := s.data.toList.getD i 0 == 13
theorem crAt_int (s : ByteArray) (i : Nat) (h : i < s.size) : ((s[i].toNat : Int) == 13) = crAt s i := by
  have e : crAt s i = (s[i] == 13) := by
    unfold crAt
    have h' : i < s.data.toList.length := by simpa using h
    rw [List.getD_eq_getElem?_getD, List.getElem?_eq_getElem h']
    rfl
  rw [e, Bool.eq_iff_iff]
  simp only [beq_iff_eq]
  constructor
  · intro e; exact UInt8.toNat_inj.1 (by simpa using (show s[i].toNat = 13 by omega))
  · intro e; rw [e]; rfl

theorem undrew {w w1 : World} (h : Below w.drew.heap.size w.drew w1) : Below w.heap.size w w1 := ⟨h.os, h.tape, h.output, h.size, h.block⟩
/-- a new box of two cells, that may be written, and a call behind it -/
theorem box2f {w w1 : World} {a b : Value} {T : TypeId} (h : Below (w.alloc (.cells #[a, b] T)).heap.size (w.alloc (.cells #[a, b] T)) w1) :
    Below w.heap.size w w1 ∧ w1.cell? ⟨w.heap.size, 0, none⟩ = some a ∧ w1.cell? ⟨w.heap.size, 1, none⟩ = some b ∧ w.heap.size < w1.heap.size ∧ w1.frozen? ⟨w.heap.size, 0, none⟩ = false ∧ w1.frozen? ⟨w.heap.size, 1, none⟩ = false := by
  obtain ⟨h1, h2, h3, h4⟩ := box2 h
  obtain ⟨hc, hf⟩ := bcell h
  refine ⟨h1, h2, h3, h4, ?_, ?_⟩
  · rw [hf _ _ (by simp)]; simp [go_sem]
  · rw [hf _ _ (by simp)]; simp [go_sem]

/-- where a line begins, and where it ends without its end -/
def bgN (s : ByteArray) (n : Nat) : Nat := (begs s).getD n 0
theorem bgN_get (s : ByteArray) (n : Nat) (h : n < (begs s).length) : (begs s)[n] = bgN s n := by
  unfold bgN; rw [List.getD_eq_getElem?_getD, List.getElem?_eq_getElem h]; rfl
def endN (s : ByteArray) (n : Nat) : Nat :=
  if n < (begs s).length then (if decide (bgN s (n - 1) < bgN s n - 1) && crAt s (bgN s n - 1 - 1) then bgN s n - 1 - 1 else bgN s n - 1) else s.size

theorem bgN_lt (s : ByteArray) (n : Nat) (h1 : 1 ≤ n) (h : n < (begs s).length) : bgN s (n - 1) < bgN s n := by
  have := begs_lt s (n - 1) n (by omega) h
  rwa [bgN_get s n h, bgN_get s (n - 1) (by omega)] at this
theorem bgN_le (s : ByteArray) (n : Nat) : bgN s n ≤ s.size := by
  by_cases h : n < (begs s).length
  · rw [← bgN_get s n h]; exact begs_le s n h
  · unfold bgN; rw [List.getD_eq_getElem?_getD, List.getElem?_eq_none (by omega)]; simp
theorem endN_le (s : ByteArray) (n : Nat) (h1 : 1 ≤ n) (h2 : n ≤ (begs s).length) : bgN s (n - 1) ≤ endN s n ∧ endN s n ≤ s.size := by
  unfold endN
  have h3 := bgN_le s n
  have h4 := bgN_le s (n - 1)
  split
  · rename_i h
    have := bgN_lt s n h1 h
    split
    · rename_i h5; simp only [Bool.and_eq_true, decide_eq_true_eq] at h5; omega
    · omega
  · omega

set_option maxHeartbeats 1000000 in
theorem line_no (s : ByteArray) (p : Nat) (n : Int) (w : World) (ht : TableAt w p s) (hb : hasB s n = false) :
    Calls Tryd.prog 7 #[.pointer (some ⟨p, 0, none⟩), .int .i64 n] w fun e w' => e = .returned (.tuple #[.agg #[.int .i64 0, .int .i64 0], .int .i64 1]) ∧ Below w.heap.size w w' := by
  have HT := Lib.hid ht
  have H := Lib.hid hb
  clear ht hb
  go_enter Tryd.func7, Tryd.ntmps7
  go_wp2_with (go_at_call 18; refine (has_at s p n _ false (HT.out.box _) H.out).mono ?_; rintro e w' ⟨rfl, rfl⟩)
  refine bodyPost_ret (v := .tuple #[.agg #[.int .i64 0, .int .i64 0], .int .i64 1]) (by simp [results, Tryd.results7, go_sem]) rfl ?_
  exact ⟨rfl, by repeat (first | exact Below.refl _ _ | refine below_drewN ?_ _ | apply Below.setCell _ (by first | omega | (simp <;> omega)) | apply Below.alloc _ (by first | omega | (simp <;> omega)))⟩

set_option maxHeartbeats 2000000 in
theorem line_yes (s : ByteArray) (p n : Nat) (w : World) (hs : s.size ≤ 65536) (ht : TableAt w p s) (h1n : 1 ≤ n) (hnl : n ≤ (begs s).length) :
    Calls Tryd.prog 7 #[.pointer (some ⟨p, 0, none⟩), .int .i64 (n : Nat)] w fun e w' => e = .returned (.tuple #[.agg #[.int .i64 (bgN s (n - 1) : Nat), .int .i64 (endN s n : Nat)], .int .i64 0]) ∧ Below w.heap.size w w' := by
  have HT := Lib.hid ht
  have H := Lib.hid (show hasB s (n : Nat) = true from hasB_iff.2 ⟨by omega, by omega⟩)
  have hle := endN_le s n h1n hnl
  have HO := Lib.hid (show mayB (bgN s (n - 1) : Nat) (endN s n : Nat) = true from mayB_iff.2 ⟨by omega, by omega, by omega⟩)
  obtain ⟨b, cap, h1, h2, t0, t1, h5, h6, h7⟩ := ht
  have t2 := h7 (n - 1) (by omega)
  rw [bgN_get s (n - 1) (by omega)] at t2
  have hB := bgN_le s (n - 1)
  have hn := (begs_len s).2
  have e1 : (1 : Int) ≤ (n : Int) := by omega
  have e2 : (n : Int) - 1 < ((begs s).length : Int) := by omega
  have e3 : ((n : Int) - 1).toNat = n - 1 := by omega
  have h1a : p < w.heap.size + 1 := by omega
  by_cases hlt : n < (begs s).length
  · have t3 := h7 n hlt
    rw [bgN_get s n hlt] at t3
    have hC := bgN_le s n
    have hBC := bgN_lt s n h1n hlt
    have HE : Hid (endN s n = if decide (bgN s (n - 1) < bgN s n - 1) && crAt s (bgN s n - 1 - 1) then bgN s n - 1 - 1 else bgN s n - 1) := by unfold endN; rw [if_pos hlt]; exact rfl
    have e2' : (n : Int) < ((begs s).length : Int) := by omega
    clear h7 hle
    have hk : (decide (bgN s (n - 1) < bgN s n - 1) && crAt s (bgN s n - 1 - 1)) = true ∨ ¬ bgN s (n - 1) < bgN s n - 1 ∨ (bgN s (n - 1) < bgN s n - 1 ∧ crAt s (bgN s n - 1 - 1) = false) := by
      by_cases h : bgN s (n - 1) < bgN s n - 1
      · cases hc : crAt s (bgN s n - 1 - 1)
        · exact .inr (.inr ⟨h, rfl⟩)
        · exact .inl (by simp [h])
      · exact .inr (.inl h)
    generalize bgN s n = C at *
    generalize bgN s (n - 1) = B at *
    rcases hk with hk | hk | ⟨hk1, hk2⟩
    · simp only [Bool.and_eq_true, decide_eq_true_eq] at hk
      obtain ⟨k1, k2⟩ := hk
      have HE' := Lib.hid (show ((endN s n : Nat) : Int) = (C : Int) - 1 - 1 by rw [HE.out, if_pos (by simp [k1, k2])]; omega)
      have hb : (((s[C - 1 - 1]'(by omega)).toNat : Int) == 13) = true := by rw [crAt_int s (C - 1 - 1) (by omega)]; exact k2
      rw [HE'.out] at HO ⊢
      clear HE k2
      go_enter Tryd.func7, Tryd.ntmps7
      go_wp2_with (go_at_call 18; refine (has_at s p n _ true (HT.out.box _) H.out).mono ?_; rintro e w' ⟨rfl, rfl⟩)
      go_region
      go_wp2_with fail
      refine (lines_any s p _ (HT.out.step (by repeat (first | exact Below.refl _ _ | refine below_drewN ?_ _ | apply Below.setCell _ (by first | omega | (simp <;> omega)) | apply Below.alloc _ (by first | omega | (simp <;> omega)))))).mono ?_
      rintro e w' ⟨rfl, rfl⟩
      go_wp2_with fail
      refine (of_yes _ _ _ HO.out).mono ?_
      rintro e w1 ⟨rfl, h⟩
      obtain ⟨h01, z0, z1, zz, f0, f1⟩ := box2f (undrew h)
      clear h
      go_wp2_with fail
      refine bodyPost_ret (v := .tuple #[.agg #[.int .i64 (B : Int), .int .i64 ((C : Int) - 1 - 1)], .int .i64 0]) (by simp [results, Tryd.results7, go_sem, z0, z1]) rfl ?_
      exact ⟨rfl, by repeat (first | exact Below.refl _ _ | refine below_drewN ?_ _ | apply Below.setCell _ (by first | omega | (simp <;> omega)) | apply Below.alloc _ (by first | omega | (simp <;> omega)) | exact h01 | refine after ?_ h01)⟩
    · have HE' := Lib.hid (show ((endN s n : Nat) : Int) = (C : Int) - 1 by rw [HE.out, if_neg (by simp [hk])]; omega)
      have k1 : ¬ (B : Int) < (C : Int) - 1 := by omega
      rw [HE'.out] at HO ⊢
      clear HE hk
      go_enter Tryd.func7, Tryd.ntmps7
      go_wp2_with (go_at_call 18; refine (has_at s p n _ true (HT.out.box _) H.out).mono ?_; rintro e w' ⟨rfl, rfl⟩)
      go_region
      go_wp2_with fail
      refine (lines_any s p _ (HT.out.step (by repeat (first | exact Below.refl _ _ | refine below_drewN ?_ _ | apply Below.setCell _ (by first | omega | (simp <;> omega)) | apply Below.alloc _ (by first | omega | (simp <;> omega)))))).mono ?_
      rintro e w' ⟨rfl, rfl⟩
      go_wp2_with fail
      refine (of_yes _ _ _ HO.out).mono ?_
      rintro e w1 ⟨rfl, h⟩
      obtain ⟨h01, z0, z1, zz, f0, f1⟩ := box2f (undrew h)
      clear h
      go_wp2_with fail
      refine bodyPost_ret (v := .tuple #[.agg #[.int .i64 (B : Int), .int .i64 ((C : Int) - 1)], .int .i64 0]) (by simp [results, Tryd.results7, go_sem, z0, z1]) rfl ?_
      exact ⟨rfl, by repeat (first | exact Below.refl _ _ | refine below_drewN ?_ _ | apply Below.setCell _ (by first | omega | (simp <;> omega)) | apply Below.alloc _ (by first | omega | (simp <;> omega)) | exact h01 | refine after ?_ h01)⟩
    · have HE' := Lib.hid (show ((endN s n : Nat) : Int) = (C : Int) - 1 by rw [HE.out, if_neg (by simp [hk2])]; omega)
      have hb : (((s[C - 1 - 1]'(by omega)).toNat : Int) == 13) = false := by rw [crAt_int s (C - 1 - 1) (by omega)]; exact hk2
      rw [HE'.out] at HO ⊢
      clear HE hk2
      go_enter Tryd.func7, Tryd.ntmps7
      go_wp2_with (go_at_call 18; refine (has_at s p n _ true (HT.out.box _) H.out).mono ?_; rintro e w' ⟨rfl, rfl⟩)
      go_region
      go_wp2_with fail
      refine (lines_any s p _ (HT.out.step (by repeat (first | exact Below.refl _ _ | refine below_drewN ?_ _ | apply Below.setCell _ (by first | omega | (simp <;> omega)) | apply Below.alloc _ (by first | omega | (simp <;> omega)))))).mono ?_
      rintro e w' ⟨rfl, rfl⟩
      go_wp2_with fail
      refine (of_yes _ _ _ HO.out).mono ?_
      rintro e w1 ⟨rfl, h⟩
      obtain ⟨h01, z0, z1, zz, f0, f1⟩ := box2f (undrew h)
      clear h
      go_wp2_with fail
      refine bodyPost_ret (v := .tuple #[.agg #[.int .i64 (B : Int), .int .i64 ((C : Int) - 1)], .int .i64 0]) (by simp [results, Tryd.results7, go_sem, z0, z1]) rfl ?_
      exact ⟨rfl, by repeat (first | exact Below.refl _ _ | refine below_drewN ?_ _ | apply Below.setCell _ (by first | omega | (simp <;> omega)) | apply Below.alloc _ (by first | omega | (simp <;> omega)) | exact h01 | refine after ?_ h01)⟩
  · have HE' := Lib.hid (show ((endN s n : Nat) : Int) = (s.size : Int) by unfold endN; rw [if_neg hlt])
    rw [HE'.out] at HO ⊢
    have e2' : ¬ (n : Int) < ((begs s).length : Int) := by omega
    clear h7 hle
    generalize bgN s (n - 1) = B at *
    go_enter Tryd.func7, Tryd.ntmps7
    go_wp2_with (go_at_call 18; refine (has_at s p n _ true (HT.out.box _) H.out).mono ?_; rintro e w' ⟨rfl, rfl⟩)
    go_region
    go_wp2_with fail
    refine (lines_any s p _ (HT.out.step (by repeat (first | exact Below.refl _ _ | refine below_drewN ?_ _ | apply Below.setCell _ (by first | omega | (simp <;> omega)) | apply Below.alloc _ (by first | omega | (simp <;> omega)))))).mono ?_
    rintro e w' ⟨rfl, rfl⟩
    go_wp2_with fail
    refine (of_yes _ _ _ HO.out).mono ?_
    rintro e w1 ⟨rfl, h⟩
    obtain ⟨h01, z0, z1, zz, f0, f1⟩ := box2f (undrew h)
    clear h
    go_wp2_with fail
    refine bodyPost_ret (v := .tuple #[.agg #[.int .i64 (B : Int), .int .i64 ((s.size : Int))], .int .i64 0]) (by simp [results, Tryd.results7, go_sem, z0, z1]) rfl ?_
    exact ⟨rfl, by repeat (first | exact Below.refl _ _ | refine below_drewN ?_ _ | apply Below.setCell _ (by first | omega | (simp <;> omega)) | apply Below.alloc _ (by first | omega | (simp <;> omega)) | exact h01 | refine after ?_ h01)⟩

end Go.Proofs.YtfiphchjjgmcpaaDoor
