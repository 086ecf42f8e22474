/- Contracts of package heap's functions of values. -/
import Derived.Test.YtfkcjnlhindhfaaHpA
namespace Go.Proofs.Ytfkcjnlhindhfaa
open Go Go.RowKit
set_option linter.unusedVariables false
set_option linter.unusedSimpArgs false

theorem ret_ag {a b c a' b' c' : Value} (h1 : a = a') (h2 : b = b') (h3 : c = c') : Ending.returned (.agg #[a, b, c]) = Ending.returned (.agg #[a', b', c']) := by rw [h1, h2, h3]
theorem clone_any (s : ByteArray) (w : World) (h : s.size ≤ 281474976710656) :
    Calls Try.prog 28 #[.string s] w fun e w' => e = .returned (.string s) ∧ Below w.heap.size w w' := by
  go_enter Try.func28, Try.ntmps28
  go_wp2_with (go_at_call 34; refine (Try.stringslite_Clone _ _ h).mono ?_; rintro e w' ⟨rfl, hb1⟩)
  go_ret
  exact ⟨rfl, hb1⟩

set_option maxHeartbeats 1000000 in
theorem own_any (B : Int) (N : ByteArray) (D : Int) (M : ByteArray) (w : World) (hN : N.size ≤ 281474976710656) (hM : M.size ≤ 281474976710656) :
    Calls Try.prog 29 #[.agg #[.int .i64 B, .string N, .int .i64 D, .string M]] w fun e w' => e = .returned (.agg #[.int .i64 B, .string N, .int .i64 D, .string M]) ∧ Below w.heap.size w w' := by
  have HC := Lib.hid (fun w => clone_any N w hN)
  have HD := Lib.hid (fun w => clone_any M w hM)
  clear hN hM
  go_enter Try.func29, Try.ntmps29
  go_wp2_with fail
  refine (HC.out _).mono ?_
  rintro e w1 ⟨rfl, h1⟩
  have K1 : Hid (Below w.heap.size w w1 ∧ Bx 30 w1 w.heap.size [.int .i64 B, .string N, .int .i64 D, .string M] ∧ Bx 30 w1 (w.heap.size + 1) [.int .i64 0, .string ⟨#[]⟩, .int .i64 0, .string ⟨#[]⟩]) := Lib.hid ⟨by repeat (first | exact Below.refl _ _ | apply Below.setCell _ (by first | omega | (simp <;> omega)) | apply Below.alloc _ (by first | omega | (simp <;> omega)) | exact h1 | refine after ?_ h1), ((Bx.new _ w _).alloc _).keep h1, by
    have := (Bx.new 30 (w.alloc (.cells #[.int .i64 B, .string N, .int .i64 D, .string M] 30)) #[.int .i64 0, .string ⟨#[]⟩, .int .i64 0, .string ⟨#[]⟩]).keep h1
    simpa using this⟩
  clear h1
  obtain ⟨a0, a1, a2, a3, al, af⟩ := K1.out.2.1.four
  obtain ⟨b0, b1, b2, b3, bl, bf⟩ := K1.out.2.2.four
  go_wp2_with fail
  refine (HD.out _).mono ?_
  rintro e w2 ⟨rfl, h2⟩
  have K2 : Hid (Below w.heap.size w w2 ∧ Bx 30 w2 w.heap.size [.int .i64 B, .string N, .int .i64 D, .string M] ∧ Bx 30 w2 (w.heap.size + 1) [.int .i64 0, .string ⟨#[]⟩, .int .i64 0, .string ⟨#[]⟩]) :=
    Lib.hid ⟨after (K1.out.1.setCell (Nat.le_refl _) _) h2, (K1.out.2.1.set 1 _).keep h2, (K1.out.2.2.other (by omega) 1 _).keep h2⟩
  clear h2 a0 a1 a2 a3 al af b0 b1 b2 b3 bl bf
  obtain ⟨a0, a1, a2, a3, al, af⟩ := K2.out.2.1.four
  obtain ⟨b0, b1, b2, b3, bl, bf⟩ := K2.out.2.2.four
  go_wp2_with fail
  refine bodyPost_ret (v := .agg #[.int .i64 B, .string N, .int .i64 D, .string M]) (by simp [results, Try.results29, go_sem, a0, a1, a2, a3, b0, b1, b2, b3]) rfl ?_
  exact ⟨rfl, K2.out.1.trans (by repeat (first | exact Below.refl _ _ | apply Below.setCell _ (by first | omega | (simp <;> omega)) | apply Below.alloc _ (by first | omega | (simp <;> omega))))⟩

set_option maxHeartbeats 1000000 in
theorem vown_any (k n : Int) (s : ByteArray) (w : World) (hs : s.size ≤ 281474976710656) :
    Calls Try.prog 31 #[.agg #[.int .i64 k, .int .i64 n, .string s]] w fun e w' => e = .returned (.agg #[.int .i64 k, .int .i64 n, .string s]) ∧ Below w.heap.size w w' := by
  have HC := Lib.hid (fun w => clone_any s w hs)
  clear hs
  go_enter Try.func31, Try.ntmps31
  go_wp2_with fail
  refine (HC.out _).mono ?_
  rintro e w1 ⟨rfl, h1⟩
  have K1 : Hid (Below w.heap.size w w1 ∧ Bx 32 w1 w.heap.size [.int .i64 k, .int .i64 n, .string s] ∧ Bx 32 w1 (w.heap.size + 1) [.int .i64 0, .int .i64 0, .string ⟨#[]⟩]) := Lib.hid ⟨by repeat (first | exact Below.refl _ _ | apply Below.setCell _ (by first | omega | (simp <;> omega)) | apply Below.alloc _ (by first | omega | (simp <;> omega)) | exact h1 | refine after ?_ h1), ((Bx.new _ w _).alloc _).keep h1, by
    have := (Bx.new 32 (w.alloc (.cells #[.int .i64 k, .int .i64 n, .string s] 32)) #[.int .i64 0, .int .i64 0, .string ⟨#[]⟩]).keep h1
    simpa using this⟩
  clear h1
  obtain ⟨a0, a1, a2, al, af⟩ := K1.out.2.1.three
  obtain ⟨b0, b1, b2, bl, bf⟩ := K1.out.2.2.three
  go_wp2_with fail
  refine bodyPost_ret (v := .agg #[.int .i64 k, .int .i64 n, .string s]) (by simp [results, Try.results31, go_sem, a0, a1, a2, b0, b1, b2]) rfl ?_
  exact ⟨rfl, K1.out.1.trans (by repeat (first | exact Below.refl _ _ | apply Below.setCell _ (by first | omega | (simp <;> omega)) | apply Below.alloc _ (by first | omega | (simp <;> omega))))⟩

set_option maxHeartbeats 1000000 in
theorem at_any (n : Int) (w : World) : Calls Try.prog 8 #[.int .i64 n] w fun e w' => e = .returned (.agg #[.int .i64 5, .int .i64 n, .string ⟨#[]⟩]) ∧ Below w.heap.size w w' := by
  go_enter Try.func8, Try.ntmps8
  go_wp2_with fail
  refine bodyPost_ret (v := .agg #[.int .i64 5, .int .i64 n, .string ⟨#[]⟩]) (by simp [results, Try.results8, go_sem]) rfl ?_
  exact ⟨rfl, by repeat (first | exact Below.refl _ _ | apply Below.setCell _ (by first | omega | (simp <;> omega)) | apply Below.alloc _ (by first | omega | (simp <;> omega)))⟩
theorem int_any (n : Int) (w : World) : Calls Try.prog 22 #[.int .i64 n] w fun e w' => e = .returned (.agg #[.int .i64 1, .int .i64 n, .string ⟨#[]⟩]) ∧ Below w.heap.size w w' := by
  go_enter Try.func22, Try.ntmps22
  go_wp2_with fail
  refine bodyPost_ret (v := .agg #[.int .i64 1, .int .i64 n, .string ⟨#[]⟩]) (by simp [results, Try.results22, go_sem]) rfl ?_
  exact ⟨rfl, by repeat (first | exact Below.refl _ _ | apply Below.setCell _ (by first | omega | (simp <;> omega)) | apply Below.alloc _ (by first | omega | (simp <;> omega)))⟩
theorem double9_any (w : World) : Calls Try.prog 24 #[.int .u64 9] w fun e w' => e = .returned (.agg #[.int .i64 3, .int .i64 9, .string ⟨#[]⟩]) ∧ Below w.heap.size w w' := by
  go_enter Try.func24, Try.ntmps24
  go_wp2_with fail
  refine bodyPost_ret (v := .agg #[.int .i64 3, .int .i64 9, .string ⟨#[]⟩]) (by simp [results, Try.results24, go_sem]) rfl ?_
  exact ⟨rfl, by repeat (first | exact Below.refl _ _ | apply Below.setCell _ (by first | omega | (simp <;> omega)) | apply Below.alloc _ (by first | omega | (simp <;> omega)))⟩
theorem bool_no (w : World) : Calls Try.prog 18 #[.bool false] w fun e w' => e = .returned (.agg #[.int .i64 2, .int .i64 0, .string ⟨#[]⟩]) ∧ Below w.heap.size w w' := by
  go_enter Try.func18, Try.ntmps18
  go_wp2_with fail
  refine bodyPost_ret (v := .agg #[.int .i64 2, .int .i64 0, .string ⟨#[]⟩]) (by simp [results, Try.results18, go_sem]) rfl ?_
  exact ⟨rfl, by repeat (first | exact Below.refl _ _ | apply Below.setCell _ (by first | omega | (simp <;> omega)) | apply Below.alloc _ (by first | omega | (simp <;> omega)))⟩
theorem str_any (s : ByteArray) (w : World) (hs : s.size ≤ 281474976710656) : Calls Try.prog 23 #[.string s] w fun e w' => e = .returned (.agg #[.int .i64 4, .int .i64 0, .string s]) ∧ Below w.heap.size w w' := by
  have HC := Lib.hid (fun w => vown_any 4 0 s w hs)
  clear hs
  go_enter Try.func23, Try.ntmps23
  go_wp2_with fail
  refine (HC.out _).mono ?_
  rintro e w1 ⟨rfl, h1⟩
  have K1 : Hid (Below w.heap.size w w1 ∧ Bx 32 w1 w.heap.size [.int .i64 0, .int .i64 0, .string ⟨#[]⟩]) := Lib.hid ⟨by repeat (first | exact Below.refl _ _ | apply Below.setCell _ (by first | omega | (simp <;> omega)) | apply Below.alloc _ (by first | omega | (simp <;> omega)) | exact h1 | refine after ?_ h1), (Bx.new _ w _).keep h1⟩
  clear h1
  obtain ⟨a0, a1, a2, al, af⟩ := K1.out.2.three
  go_wp2_with fail
  refine bodyPost_ret (v := .agg #[.int .i64 4, .int .i64 0, .string s]) (by simp [results, Try.results23, go_sem, a0, a1, a2]) rfl ?_
  exact ⟨rfl, K1.out.1.trans (by repeat (first | exact Below.refl _ _ | apply Below.setCell _ (by first | omega | (simp <;> omega)) | apply Below.alloc _ (by first | omega | (simp <;> omega))))⟩
theorem same_yes (k n : Int) (s : ByteArray) (w : World) : Calls Try.prog 21 #[.agg #[.int .i64 k, .int .i64 n, .string s], .agg #[.int .i64 k, .int .i64 n, .string s]] w fun e w' => e = .returned (.bool true) ∧ Below w.heap.size w w' := by
  go_enter Try.func21, Try.ntmps21
  go_wp2_with fail
  go_ret
  exact ⟨rfl, by repeat (first | exact Below.refl _ _ | apply Below.setCell _ (by first | omega | (simp <;> omega)) | apply Below.alloc _ (by first | omega | (simp <;> omega)))⟩
theorem wrap_ref (n : Int) (w : World) : Calls Try.prog 20 #[.agg #[.int .i64 5, .int .i64 n, .string ⟨#[]⟩]] w fun e w' => e = .returned (.agg #[.int .i64 9, .int .i64 n, .string ⟨#[]⟩]) ∧ Below w.heap.size w w' := by
  go_enter Try.func20, Try.ntmps20
  go_wp2_with fail
  refine bodyPost_ret (v := .agg #[.int .i64 9, .int .i64 n, .string ⟨#[]⟩]) (by simp [results, Try.results20, go_sem]) rfl ?_
  exact ⟨rfl, by repeat (first | exact Below.refl _ _ | apply Below.setCell _ (by first | omega | (simp <;> omega)) | apply Below.alloc _ (by first | omega | (simp <;> omega)))⟩
theorem open_some (n : Int) (w : World) : Calls Try.prog 19 #[.agg #[.int .i64 9, .int .i64 n, .string ⟨#[]⟩]] w fun e w' => e = .returned (.agg #[.int .i64 5, .int .i64 n, .string ⟨#[]⟩]) ∧ Below w.heap.size w w' := by
  go_enter Try.func19, Try.ntmps19
  go_wp2_with fail
  refine bodyPost_ret (v := .agg #[.int .i64 5, .int .i64 n, .string ⟨#[]⟩]) (by simp [results, Try.results19, go_sem]) rfl ?_
  exact ⟨rfl, by repeat (first | exact Below.refl _ _ | apply Below.setCell _ (by first | omega | (simp <;> omega)) | apply Below.alloc _ (by first | omega | (simp <;> omega)))⟩

set_option maxHeartbeats 4000000 in
theorem empty_any (B : Int) (N : ByteArray) (D : Int) (M : ByteArray) (w : World) (hM : M.size ≤ 9223372036854775807) :
    Calls Try.prog 26 #[.agg #[.int .i64 B, .string N, .int .i64 D, .string M]] w fun e w' => e = .returned (.agg #[.int .i64 (emptyV B D M).1, .int .i64 (emptyV B D M).2.1, .string (emptyV B D M).2.2]) ∧ Below w.heap.size w w' := by
  by_cases ho : lastO M = true
  · have E := Lib.hid (show emptyV B D M = (8, 0, ⟨#[]⟩) by unfold emptyV; rw [if_pos ho])
    have HO := Lib.hid ho
    clear ho
    go_enter Try.func26, Try.ntmps26
    go_wp2_with (go_at_call 33; refine (Try.strings_HasSuffix _ _ _ hM).mono ?_; rintro e w1 ⟨he, rfl⟩; rw [show Lib.hasSuffix M.data.toList (⟨#[111]⟩ : ByteArray).data.toList = _ from HO.out] at he; subst he)
    refine bodyPost_ret (v := .agg #[.int .i64 8, .int .i64 0, .string ⟨#[]⟩]) (by simp [results, Try.results26, go_sem]) rfl ?_
    exact ⟨by rw [E.out], by repeat (first | exact Below.refl _ _ | apply Below.setCell _ (by first | omega | (simp <;> omega)) | apply Below.alloc _ (by first | omega | (simp <;> omega)))⟩
  · have HO := Lib.hid (show lastO M = false by simpa using ho)
    by_cases h7 : 0 < D ∨ B = 5 ∨ B = 7 ∨ B = 8
    · have E := Lib.hid (show emptyV B D M = (7, 0, ⟨#[]⟩) by unfold emptyV; rw [if_neg ho, if_pos h7])
      clear ho
      by_cases hd : 0 < D
      · clear h7
        go_enter Try.func26, Try.ntmps26
        go_wp2_with (go_at_call 33; refine (Try.strings_HasSuffix _ _ _ hM).mono ?_; rintro e w1 ⟨he, rfl⟩; rw [show Lib.hasSuffix M.data.toList (⟨#[111]⟩ : ByteArray).data.toList = _ from HO.out] at he; subst he)
        refine bodyPost_ret (v := .agg #[.int .i64 7, .int .i64 0, .string ⟨#[]⟩]) (by simp [results, Try.results26, go_sem]) rfl ?_
        exact ⟨by rw [E.out], by repeat (first | exact Below.refl _ _ | apply Below.setCell _ (by first | omega | (simp <;> omega)) | apply Below.alloc _ (by first | omega | (simp <;> omega)))⟩
      · have h5 : B = 5 ∨ B = 7 ∨ B = 8 := by omega
        clear h7
        rcases h5 with rfl | rfl | rfl
        all_goals go_enter Try.func26, Try.ntmps26
        all_goals go_wp2_with (go_at_call 33; refine (Try.strings_HasSuffix _ _ _ hM).mono ?_; rintro e w1 ⟨he, rfl⟩; rw [show Lib.hasSuffix M.data.toList (⟨#[111]⟩ : ByteArray).data.toList = _ from HO.out] at he; subst he)
        all_goals refine bodyPost_ret (v := .agg #[.int .i64 7, .int .i64 0, .string ⟨#[]⟩]) (by simp [results, Try.results26, go_sem]) rfl ?_
        all_goals exact ⟨by rw [E.out], by repeat (first | exact Below.refl _ _ | apply Below.setCell _ (by first | omega | (simp <;> omega)) | apply Below.alloc _ (by first | omega | (simp <;> omega)))⟩
    · have hd : ¬ 0 < D := by omega
      have b5 : ¬ B = 5 := by omega
      have b7 : ¬ B = 7 := by omega
      have b8 : ¬ B = 8 := by omega
      by_cases h0 : B = 0 ∨ B = 6
      · have E := Lib.hid (show emptyV B D M = (0, 0, ⟨#[]⟩) by unfold emptyV; rw [if_neg ho, if_neg h7, if_pos h0])
        clear ho h7 b5 b7 b8
        rcases h0 with rfl | rfl
        all_goals go_enter Try.func26, Try.ntmps26
        all_goals go_wp2_with (go_at_call 33; refine (Try.strings_HasSuffix _ _ _ hM).mono ?_; rintro e w1 ⟨he, rfl⟩; rw [show Lib.hasSuffix M.data.toList (⟨#[111]⟩ : ByteArray).data.toList = _ from HO.out] at he; subst he)
        all_goals refine bodyPost_ret (v := .agg #[.int .i64 0, .int .i64 0, .string ⟨#[]⟩]) (by simp [results, Try.results26, go_sem]) rfl ?_
        all_goals exact ⟨by rw [E.out], by repeat (first | exact Below.refl _ _ | apply Below.setCell _ (by first | omega | (simp <;> omega)) | apply Below.alloc _ (by first | omega | (simp <;> omega)))⟩
      · have E := Lib.hid (show emptyV B D M = (B, 0, ⟨#[]⟩) by unfold emptyV; rw [if_neg ho, if_neg h7, if_neg h0])
        have b0 : ¬ B = 0 := by omega
        have b6 : ¬ B = 6 := by omega
        have e5 : (B == 5) = false := by simpa using b5
        have e7 : (B == 7) = false := by simpa using b7
        have e8 : (B == 8) = false := by simpa using b8
        have e0 : (B == 0) = false := by simpa using b0
        have e6 : (B == 6) = false := by simpa using b6
        clear ho h7 h0
        go_enter Try.func26, Try.ntmps26
        go_wp2_with (go_at_call 33; refine (Try.strings_HasSuffix _ _ _ hM).mono ?_; rintro e w1 ⟨he, rfl⟩; rw [show Lib.hasSuffix M.data.toList (⟨#[111]⟩ : ByteArray).data.toList = _ from HO.out] at he; subst he)
        refine bodyPost_ret (v := .agg #[.int .i64 B, .int .i64 0, .string ⟨#[]⟩]) (by simp [results, Try.results26, go_sem]) rfl ?_
        exact ⟨by rw [E.out], by repeat (first | exact Below.refl _ _ | apply Below.setCell _ (by first | omega | (simp <;> omega)) | apply Below.alloc _ (by first | omega | (simp <;> omega)))⟩

theorem join_yes (a b : ByteArray) (w : World) (h : a.size + b.size ≤ 1024) : Calls Try.prog 17 #[.string a, .string b] w fun e w' => e = .returned (.tuple #[.string (a ++ b), .int .i64 0]) ∧ Below w.heap.size w w' := by
  have HC := Lib.hid (fun w => clone_any (a ++ b) w (by rw [ByteArray.size_append]; omega))
  have h1 : ¬ (1024 : Int) < (a.size : Int) := by omega
  have h2 : ¬ (1024 : Int) - (a.size : Int) < (b.size : Int) := by omega
  have h3 : ¬ 9223372036854775807 < a.size + b.size := by omega
  clear h
  go_enter Try.func17, Try.ntmps17
  go_wp2_with fail
  refine (HC.out _).mono ?_
  rintro e w1 ⟨rfl, k1⟩
  go_wp2_with fail
  go_ret2
  exact ⟨rfl, k1⟩
theorem join_no (a b : ByteArray) (w : World) (hs : a.size ≤ 9223372036854775807) (hb : b.size ≤ 9223372036854775807) (h : 1024 < a.size + b.size) : Calls Try.prog 17 #[.string a, .string b] w fun e w' => e = .returned (.tuple #[.string ⟨#[]⟩, .int .i64 2]) ∧ Below w.heap.size w w' := by
  by_cases h1 : 1024 < a.size
  · go_enter Try.func17, Try.ntmps17
    go_wp2_with fail
    go_ret2
    exact ⟨rfl, by repeat (first | exact Below.refl _ _ | apply Below.setCell _ (by first | omega | (simp <;> omega)) | apply Below.alloc _ (by first | omega | (simp <;> omega)))⟩
  · have h2 : (1024 : Int) - (a.size : Int) < (b.size : Int) := by omega
    have wr : IntKind.i64.wrap (1024 - (a.size : Int)) = 1024 - (a.size : Int) := IntWalk.i64_in _ ⟨by omega, by omega⟩
    go_enter Try.func17, Try.ntmps17
    go_wp2_with fail
    go_ret2
    exact ⟨rfl, by repeat (first | exact Below.refl _ _ | apply Below.setCell _ (by first | omega | (simp <;> omega)) | apply Below.alloc _ (by first | omega | (simp <;> omega)))⟩
end Go.Proofs.Ytfkcjnlhindhfaa
