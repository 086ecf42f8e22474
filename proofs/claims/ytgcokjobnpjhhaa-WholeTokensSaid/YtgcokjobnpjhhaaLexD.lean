/- Contracts of sign, quoted, reach and longest. -/
import Derived.Test.YtgcokjobnpjhhaaLexC
import Derived.Outline
namespace Go.Proofs.Ytgcokjobnpjhhaa
open Go.RowKit
set_option linter.unusedVariables false

def idxOne (k : Nat) : Int := Lib.indexByte (⟨#[123, 125, 40, 41, 91, 93, 59, 44, 46, 61, 60, 62, 43, 45, 42, 47, 37, 33, 63]⟩ : ByteArray).data.toList k.toUInt8
theorem idxOne_all : ∀ k, k < 256 → (oneS k = true → 0 ≤ idxOne k) ∧ (oneS k = false → idxOne k < 0) := by decide +kernel
theorem one_any (k : Nat) (w : World) :
    Calls Try.prog 28 #[.string ⟨#[123, 125, 40, 41, 91, 93, 59, 44, 46, 61, 60, 62, 43, 45, 42, 47, 37, 33, 63]⟩, .int .u8 (k : Int)] w fun e w' => e = .returned (.int .i64 (idxOne k)) ∧ w = w' :=
  (Try.strings_IndexByte ⟨#[123, 125, 40, 41, 91, 93, 59, 44, 46, 61, 60, 62, 43, 45, 42, 47, 37, 33, 63]⟩ (k : Int) w).mono fun e w' h => ⟨by rw [h.1]; rfl, h.2.symm⟩

theorem list_two (x : ByteArray) (h : 2 ≤ x.size) : (x.extract 0 2).toList = [x[0]'(by omega), x[1]'(by omega)] := by
  have e : (x.extract 0 2).toList = x.data.toList.take 2 := by
    rw [ByteArray.toList_eq, ByteArray.data_extract, Array.toList_extract, List.extract_eq_take_drop]
    rfl
  have hl : x.data.toList.length = x.size := by simp
  rw [e, List.take_succ_eq_append_getElem (by omega), List.take_succ_eq_append_getElem (by omega)]
  rfl
theorem list_one (x : ByteArray) (h : x.size = 1) : (x.extract 0 1).toList = [x[0]'(by omega)] := by
  have e : (x.extract 0 1).toList = x.data.toList.take 1 := by
    rw [ByteArray.toList_eq, ByteArray.data_extract, Array.toList_extract, List.extract_eq_take_drop]
    rfl
  have hl : x.data.toList.length = x.size := by simp
  rw [e, List.take_succ_eq_append_getElem (by omega)]
  rfl
theorem two_eq (a b : UInt8) (m n : UInt8) : ([a, b] == [m, n]) = (decide (a.toNat = m.toNat) && decide (b.toNat = n.toNat)) := by
  rw [Bool.eq_iff_iff]
  simp [UInt8.toNat_inj]

set_option maxHeartbeats 4000000 in
theorem sign_two (x : ByteArray) (w : World) (hs : x.size ≤ 65536) (h2 : 2 ≤ x.size) :
    Calls Try.prog 65 #[.string x] w fun e w' => e = .returned (.int .i64 (signG (byS x) x.size 0 : Nat)) ∧ w = w' := by
  have hm : min (2 : Int) (x.size : Int) = ((2 : Nat) : Int) := by omega
  have h0 : 0 < x.size := by omega
  have hl := list_two x h2
  have f1 := two_eq x[0] x[1] 61 61
  have f2 := two_eq x[0] x[1] 33 61
  have f3 := two_eq x[0] x[1] 60 61
  have f4 := two_eq x[0] x[1] 62 61
  have f5 := two_eq x[0] x[1] 38 38
  have f6 := two_eq x[0] x[1] 124 124
  rw [← hl] at f1 f2 f3 f4 f5 f6
  have hx : x[0].toNat < 256 := UInt8.toNat_lt _
  have HP : Hid (signG (byS x) x.size 0 = if pairS x[0].toNat x[1].toNat = true then 2 else if oneS x[0].toNat = true then 1 else 0) := Lib.hid (by
    unfold signG; rw [byS_get x 0 h0, byS_get x (0 + 1) h2]
    by_cases hp : pairS x[0].toNat x[1].toNat = true
    · rw [if_pos ⟨by omega, hp⟩, if_pos hp]
    · rw [if_neg (fun h => hp h.2), if_neg hp])
  clear hl
  cases hp : pairS x[0].toNat x[1].toNat
  · unfold pairS at hp
    simp only [decide_eq_false_iff_not, not_or, not_and] at hp
    have n1 : ((x.extract 0 2).toList == [61, 61]) = false := by rw [f1]; simp; exact hp.1
    have n2 : ((x.extract 0 2).toList == [33, 61]) = false := by rw [f2]; simp; exact hp.2.1
    have n3 : ((x.extract 0 2).toList == [60, 61]) = false := by rw [f3]; simp; exact hp.2.2.1
    have n4 : ((x.extract 0 2).toList == [62, 61]) = false := by rw [f4]; simp; exact hp.2.2.2.1
    have n5 : ((x.extract 0 2).toList == [38, 38]) = false := by rw [f5]; simp; exact hp.2.2.2.2.1
    have n6 : ((x.extract 0 2).toList == [124, 124]) = false := by rw [f6]; simp; exact hp.2.2.2.2.2
    have hp' : pairS x[0].toNat x[1].toNat = false := by unfold pairS; simp only [decide_eq_false_iff_not, not_or, not_and]; exact hp
    have HO := Lib.hid (idxOne_all _ hx)
    have HI := Lib.hid (fun w => one_any x[0].toNat w)
    clear f1 f2 f3 f4 f5 f6 hp
    cases ho : oneS x[0].toNat
    · have hneg := HO.out.2 ho
      have E := Lib.hid (show signG (byS x) x.size 0 = 0 by rw [HP.out, if_neg (by simp [hp']), if_neg (by simp [ho])])
      clear hp' ho
      generalize idxOne x[0].toNat = v at *
      go_enter Try.func65, Try.ntmps65
      go_wp2_with (go_at_call 28; refine (HI.out _).mono ?_; rintro e w1 ⟨rfl, rfl⟩)
      go_ret
      exact ⟨ret_i (by rw [E.out]; rfl), rfl⟩
    · have hpos := HO.out.1 ho
      have E := Lib.hid (show signG (byS x) x.size 0 = 1 by rw [HP.out, if_neg (by simp [hp']), if_pos ho])
      clear hp' ho
      generalize idxOne x[0].toNat = v at *
      go_enter Try.func65, Try.ntmps65
      go_wp2_with (go_at_call 28; refine (HI.out _).mono ?_; rintro e w1 ⟨rfl, rfl⟩)
      go_ret
      exact ⟨ret_i (by rw [E.out]; rfl), rfl⟩
  · have E := Lib.hid (show signG (byS x) x.size 0 = 2 by rw [HP.out, if_pos hp])
    have hp' := hp
    unfold pairS at hp'
    rw [decide_eq_true_iff] at hp'
    clear hp
    rcases hp' with ⟨a, b⟩ | ⟨a, b⟩ | ⟨a, b⟩ | ⟨a, b⟩ | ⟨a, b⟩ | ⟨a, b⟩
    all_goals
      rw [a, b] at f1 f2 f3 f4 f5 f6
      first | (have g1 : ((x.extract 0 2).toList == [61, 61]) = true := f1.trans rfl) | (have g1 : ((x.extract 0 2).toList == [61, 61]) = false := f1.trans rfl)
      first | (have g2 : ((x.extract 0 2).toList == [33, 61]) = true := f2.trans rfl) | (have g2 : ((x.extract 0 2).toList == [33, 61]) = false := f2.trans rfl)
      first | (have g3 : ((x.extract 0 2).toList == [60, 61]) = true := f3.trans rfl) | (have g3 : ((x.extract 0 2).toList == [60, 61]) = false := f3.trans rfl)
      first | (have g4 : ((x.extract 0 2).toList == [62, 61]) = true := f4.trans rfl) | (have g4 : ((x.extract 0 2).toList == [62, 61]) = false := f4.trans rfl)
      first | (have g5 : ((x.extract 0 2).toList == [38, 38]) = true := f5.trans rfl) | (have g5 : ((x.extract 0 2).toList == [38, 38]) = false := f5.trans rfl)
      first | (have g6 : ((x.extract 0 2).toList == [124, 124]) = true := f6.trans rfl) | (have g6 : ((x.extract 0 2).toList == [124, 124]) = false := f6.trans rfl)
      clear f1 f2 f3 f4 f5 f6 a b
      go_enter Try.func65, Try.ntmps65
      go_wp2_with fail
      go_ret
      exact ⟨ret_i (by rw [E.out]; rfl), rfl⟩

theorem one_eq (a m n : UInt8) : ([a] == [m, n]) = false := by
  rw [Bool.eq_false_iff]; simp
set_option maxHeartbeats 2000000 in
theorem sign_one (x : ByteArray) (w : World) (h1 : x.size = 1) :
    Calls Try.prog 65 #[.string x] w fun e w' => e = .returned (.int .i64 (signG (byS x) x.size 0 : Nat)) ∧ w = w' := by
  have h0 : 0 < x.size := by omega
  have hl := list_one x h1
  have n1 := one_eq x[0] 61 61
  have n2 := one_eq x[0] 33 61
  have n3 := one_eq x[0] 60 61
  have n4 := one_eq x[0] 62 61
  have n5 := one_eq x[0] 38 38
  have n6 := one_eq x[0] 124 124
  rw [← hl] at n1 n2 n3 n4 n5 n6
  have hx : x[0].toNat < 256 := UInt8.toNat_lt _
  have HP : Hid (signG (byS x) x.size 0 = if oneS x[0].toNat = true then 1 else 0) := Lib.hid (by
    unfold signG; rw [byS_get x 0 h0, if_neg (fun h => by omega)])
  have H1 := Lib.hid h1
  have hz : x.size ≤ 1 := by omega
  have HO := Lib.hid (idxOne_all _ hx)
  have HI := Lib.hid (fun w => one_any x[0].toNat w)
  have hm : min (2 : Int) (x.size : Int) = ((1 : Nat) : Int) := by omega
  clear hl h1
  cases ho : oneS x[0].toNat
  · have hneg := HO.out.2 ho
    have E := Lib.hid (show signG (byS x) x.size 0 = 0 by rw [HP.out, if_neg (by simp [ho])])
    clear ho
    generalize idxOne x[0].toNat = v at *
    go_enter Try.func65, Try.ntmps65
    go_wp2_with (go_at_call 28; refine (HI.out _).mono ?_; rintro e w1 ⟨rfl, rfl⟩)
    go_ret
    exact ⟨ret_i (by rw [E.out]; rfl), rfl⟩
  · have hpos := HO.out.1 ho
    have E := Lib.hid (show signG (byS x) x.size 0 = 1 by rw [HP.out, if_pos ho])
    clear ho
    generalize idxOne x[0].toNat = v at *
    go_enter Try.func65, Try.ntmps65
    go_wp2_with (go_at_call 28; refine (HI.out _).mono ?_; rintro e w1 ⟨rfl, rfl⟩)
    go_ret
    exact ⟨ret_i (by rw [E.out]; rfl), rfl⟩
theorem sign_any (x : ByteArray) (w : World) (hs : x.size ≤ 65536) (h0 : 0 < x.size) :
    Calls Try.prog 65 #[.string x] w fun e w' => e = .returned (.int .i64 (signG (byS x) x.size 0 : Nat)) ∧ w = w' := by
  by_cases h : x.size = 1
  · exact sign_one x w h
  · exact sign_two x w hs (by omega)
theorem byS_extract (s : ByteArray) (a b i : Nat) (hb : b ≤ s.size) (h : i < b - a) : byS (s.extract a b) i = byS s (a + i) := by
  have h1 : i < (s.extract a b).size := by simp; omega
  rw [byS_get _ i h1, byS_get s (a + i) (by omega)]
  congr 1
  simp [ByteArray.getElem_extract]
theorem sign_rest (s : ByteArray) (a : Nat) (w : World) (hs : s.size ≤ 65536) (h : a < s.size) :
    Calls Try.prog 65 #[.string (s.extract a s.size)] w fun e w' => e = .returned (.int .i64 (signG (byS s) s.size a : Nat)) ∧ w = w' := by
  have hz : (s.extract a s.size).size = s.size - a := by simp
  refine (sign_any (s.extract a s.size) w (by omega) (by omega)).mono ?_
  rintro e w' ⟨rfl, rfl⟩
  refine ⟨ret_i ?_, rfl⟩
  congr 1
  unfold signG
  rw [hz, byS_extract s a s.size 0 (Nat.le_refl _) (by omega)]
  by_cases h2 : 0 + 1 < s.size - a
  · rw [byS_extract s a s.size (0 + 1) (Nat.le_refl _) (by omega), Nat.zero_add]
    have : (1 < s.size - a) = (a + 1 < s.size) := propext ⟨fun h => by omega, fun h => by omega⟩
    simp only [this, Nat.add_zero]
  · rw [if_neg (fun h => h2 h.1), if_neg (fun h : a + 1 < s.size ∧ _ => h2 (by omega))]
    simp only [Nat.add_zero]

set_option maxHeartbeats 2000000 in
theorem longest_any (k : Nat) (w : World) (h1 : 1 ≤ k) (h5 : k ≤ 5) :
    Calls Try.prog 53 #[.int .i64 (k : Nat)] w fun e w' => e = .returned (.int .i64 (longG k : Nat)) ∧ w = w' := by
  have : k = 1 ∨ k = 2 ∨ k = 3 ∨ k = 4 ∨ k = 5 := by omega
  rcases this with rfl | rfl | rfl | rfl | rfl
  all_goals
    go_enter Try.func53, Try.ntmps53
    go_wp2_with fail
    go_ret
    exact ⟨rfl, rfl⟩

/-- one step over a text in quotes -/
def stopB (c : Nat) (b : Bool) : Bool := decide (c = 10) || (decide (c = 34) && !b)
theorem stopB_iff {c : Nat} {b : Bool} : stopB c b = true ↔ c = 10 ∨ (c = 34 ∧ b = false) := by unfold stopB; cases b <;> simp
def PairPost (w : World) (B c : Nat) (b : Bool) (e : Ending) (w' : World) : Prop := (stopB c b = true → e = .returned (.bool false) ∧ w = w') ∧ (stopB c b = false → e = .returned (.bool true) ∧ w.setCell ⟨B, 0, none⟩ (.bool (decide (c = 92) && !b)) = w')
set_option maxHeartbeats 2000000 in
theorem paired_any (c B : Nat) (b : Bool) (w : World) (hB : w.heap[B]? = some (.cells #[.bool b] 4 (0, 0))) :
    Calls Try.prog 57 #[.int .u8 (c : Int), .pointer (some ⟨B, 0, none⟩)] w (PairPost w B c b) := by
  have hc := cell_of_one hB
  have hf := free_of_one hB
  by_cases h10 : c = 10
  · have t1 : ((c : Int) == 10) = true := by simp; omega
    have HS := Lib.hid (show stopB c b = true from stopB_iff.2 (.inl h10))
    clear h10
    go_enter Try.func57, Try.ntmps57
    go_wp2_with fail
    go_ret
    exact ⟨fun _ => ⟨rfl, rfl⟩, fun h => (by rw [HS.out] at h; cases h)⟩
  · have t1 : ((c : Int) == 10) = false := by simp; omega
    by_cases h34 : c = 34
    · have t2 : ((c : Int) == 34) = true := by simp; omega
      have t3 : ((c : Int) == 92) = false := by simp; omega
      cases b
      · have HS := Lib.hid (show stopB c false = true from stopB_iff.2 (.inr ⟨h34, rfl⟩))
        clear h10 h34
        go_enter Try.func57, Try.ntmps57
        go_wp2_with fail
        go_ret
        exact ⟨fun _ => ⟨rfl, rfl⟩, fun h => (by rw [HS.out] at h; cases h)⟩
      · have HS : Hid (stopB c true = false) := Lib.hid (by unfold stopB; simp; omega)
        have HD := Lib.hid (show decide (c = 92) = false from decide_eq_false (by omega))
        clear h10 h34
        go_enter Try.func57, Try.ntmps57
        go_wp2_with fail
        go_ret
        exact ⟨fun h => (by rw [HS.out] at h; cases h), fun _ => ⟨rfl, by rw [HD.out]; rfl⟩⟩
    · have t2 : ((c : Int) == 34) = false := by simp; omega
      have HS : Hid (stopB c b = false) := Lib.hid (by unfold stopB; simp; omega)
      by_cases h92 : c = 92
      · have t3 : ((c : Int) == 92) = true := by simp; omega
        have HD := Lib.hid (show decide (c = 92) = true from decide_eq_true h92)
        clear h10 h34 h92
        go_enter Try.func57, Try.ntmps57
        go_wp2_with fail
        go_ret
        exact ⟨fun h => (by rw [HS.out] at h; cases h), fun _ => ⟨rfl, by rw [HD.out]; rfl⟩⟩
      · have t3 : ((c : Int) == 92) = false := by simp; omega
        have HD := Lib.hid (show decide (c = 92) = false from decide_eq_false h92)
        clear h10 h34 h92
        go_enter Try.func57, Try.ntmps57
        go_wp2_with fail
        go_ret
        exact ⟨fun h => (by rw [HS.out] at h; cases h), fun _ => ⟨rfl, by rw [HD.out]; rfl⟩⟩

end Go.Proofs.Ytgcokjobnpjhhaa
