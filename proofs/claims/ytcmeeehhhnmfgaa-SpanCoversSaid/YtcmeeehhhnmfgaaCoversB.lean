/- SpanCovers: the other ways, and all of them together. -/
import Derived.Test.YtcmeeehhhnmfgaaCovers
namespace Go.Proofs.Ytcmeeehhhnmfgaa
open Go.RowKit
set_option linter.unusedVariables false

set_option maxHeartbeats 1000000 in
theorem covers_no (b off n cap : Nat) (l : List (Int × Int)) (w : World) (hl : l.length = n) (hn : n ≤ cap) (hcap : cap ≤ maxLen) (hb : b < w.heap.size) (hr : SpanAt w b off l) (hall : allB l = false) (h40 : n ≤ 40) (h1n : 1 ≤ n) :
    Calls Try.prog 5 #[.slice (some ⟨b, off, none⟩) n cap] w fun e w' => e = .returned (.bool true) ∧ Below w.heap.size w w' := by
  have hcap0 := hcap
  unfold maxLen at hcap
  have HR := Lib.hid hr
  have HLL := Lib.hid hl
  have HA := Lib.hid hall
  have hn1 : 0 < (n : Int) := by omega
  have hn0 : 0 < n := by omega
  have h40' : ¬ (40 < (n : Int)) := by omega
  clear hr hl hall
  go_enter Try.func5, Try.ntmps5
  go_wp2_with fail
  refine (spans_any _).mono ?_
  rintro e w1 ⟨rfl, h01⟩
  go_wp2_with fail
  refine (cover_no b off n cap l _ HLL.out hn hcap0 (Nat.lt_of_lt_of_le hb h01.size) (HR.out.below h01 hb) HA.out).mono ?_
  rintro e w2 ⟨rfl, h12⟩
  have h02 := after h01 h12
  have z02 := h02.size
  go_wp2_with fail
  go_loopw [5, 6, 28] (fun g t i wr => ∃ k : Nat, k ≤ n ∧ i = .int .i64 k ∧ g = .bool (allB (l.take k)) ∧ t = .int .i64 (sumI (l.take k)) ∧ CvInv w w2 wr 0 0) (fun _ _ i _ => n - (intOf i).toNat)
  case atStart => exact ⟨0, Nat.zero_le _, rfl, rfl, rfl, by repeat (first | exact Below.refl _ _ | apply Below.setCell _ (by first | omega | (simp <;> omega)) | apply Below.alloc _ (by first | omega | (simp <;> omega)) | exact h02 | refine after ?_ h02), by simp, by simp [go_sem], by simp [go_sem]⟩
  case round =>
    obtain ⟨k, hk, rfl, rfl, rfl, hinv⟩ := hrel
    have HI := Lib.hid hinv
    obtain ⟨hbel, hz, c0, c1⟩ := hinv
    have hsz := hbel.size
    by_cases hlt : k < n
    · have hkl : k < l.length := by rw [HLL.out]; exact hlt
      obtain ⟨x0, x1⟩ := (HR.out.below hbel hb) k hkl
      have b1 := lenI_bd l[k].1 l[k].2
      have b2 := sumI_bd (l.take k)
      have b3 : ((l.take k).length : Int) ≤ k := by have := List.length_take_le k l; omega
      have b4 : sumI (l.take k) ≤ 65536 * (k : Int) := by omega
      have b5 := b2.1
      have E := Lib.hid (sumI_snoc l k hkl)
      have A := Lib.hid (allB_snoc l k hkl)
      clear b1 b2 b3
      cases hm : mayB l[k].1 l[k].2 <;> cases ha : allB (l.take k)
      all_goals
        have A2 := Lib.hid (by have := A.out; rwa [hm, ha] at this)
        clear A
      · have E2 := Lib.hid (by have := E.out; rwa [lenI_no hm, Int.add_zero] at this)
        clear E
        go_wp2_with (go_at_call 15; refine (may_any _ _ _).mono ?_; rintro e w' ⟨rfl, rfl⟩)
        go_roundw
        case rel => exact ⟨k + 1, by omega, by go_num, by rw [A2.out]; rfl, by rw [E2.out], (HI.out.alloc z02 _).alloc z02 _⟩
        case measure => simp [intOf]; omega
      · have E2 := Lib.hid (by have := E.out; rwa [lenI_no hm, Int.add_zero] at this)
        clear E
        go_wp2_with (go_at_call 15; refine (may_any _ _ _).mono ?_; rintro e w' ⟨rfl, rfl⟩)
        go_roundw
        case rel => exact ⟨k + 1, by omega, by go_num, by rw [A2.out]; rfl, by rw [E2.out], ((HI.out.alloc z02 _).alloc z02 _).alloc z02 _⟩
        case measure => simp [intOf]; omega
      · obtain ⟨m1, m2, m3⟩ := mayB_iff.1 hm
        have E2 := Lib.hid (by have := E.out; rwa [lenI_yes hm] at this)
        clear E
        go_wp2_with (go_at_call 15; refine (may_any _ _ _).mono ?_; rintro e w' ⟨rfl, rfl⟩)
        go_roundw
        case rel => exact ⟨k + 1, by omega, by go_num, by rw [A2.out]; rfl, by rw [E2.out], (HI.out.alloc z02 _).alloc z02 _⟩
        case measure => simp [intOf]; omega
      · obtain ⟨m1, m2, m3⟩ := mayB_iff.1 hm
        have E2 := Lib.hid (by have := E.out; rwa [lenI_yes hm] at this)
        clear E
        go_wp2_with (go_at_call 15; refine (may_any _ _ _).mono ?_; rintro e w' ⟨rfl, rfl⟩)
        go_roundw
        case rel => exact ⟨k + 1, by omega, by go_num, by rw [A2.out]; rfl, by rw [E2.out], ((HI.out.alloc z02 _).alloc z02 _).alloc z02 _⟩
        case measure => simp [intOf]; omega
    · have hkl : k = l.length := by have := HLL.out; omega
      have E1 := Lib.hid (show allB (l.take k) = false by rw [hkl, List.take_length]; exact HA.out)
      have E2 := Lib.hid (show sumI (l.take k) = sumI l by rw [hkl, List.take_length])
      clear hkl
      rw [E1.out, E2.out]
      go_wp2_with fail
      refine (sum_some b off n cap l _ HLL.out hn hcap0 (Nat.lt_of_lt_of_le hb hsz) (HR.out.below hbel hb) (by omega)).mono ?_
      rintro e w3 ⟨rfl, h23⟩
      have HI3 := Lib.hid (HI.out.step z02 h23)
      clear HI hbel hz c0 c1 h23
      obtain ⟨hbel, hz, c0, c1⟩ := HI3.out
      go_wp2_with fail
      go_ret
      exact ⟨rfl, hbel⟩

set_option maxHeartbeats 1000000 in
theorem sum_empty (a : Addr) (cap : Nat) (w : World) :
    Calls Try.prog 19 #[.slice (some a) 0 cap] w fun e w' => e = .returned (.int .i64 0) ∧ Below w.heap.size w w' := by
  go_enter Try.func19, Try.ntmps19
  go_wp2
  go_loopw [3, 8] (fun t i wr => i = .int .i64 0 ∧ t = .int .i64 0 ∧ Below w.heap.size w wr) (fun _ _ _ => 0)
  case atStart => exact ⟨rfl, rfl, Below.refl _ _⟩
  case round =>
    obtain ⟨rfl, rfl, hbel⟩ := hrel
    go_wp2
    go_ret
    exact ⟨rfl, hbel⟩

set_option maxHeartbeats 1000000 in
theorem covers_none (w : World) :
    Calls Try.prog 5 #[.slice none 0 0] w fun e w' => e = .returned (.bool true) ∧ Below w.heap.size w w' := by
  go_enter Try.func5, Try.ntmps5
  go_wp2_with fail
  refine (spans_any _).mono ?_
  rintro e w1 ⟨rfl, h01⟩
  go_wp2_with fail
  refine (cover_none _).mono ?_
  rintro e w2 ⟨rfl, h12⟩
  have h02 := after h01 h12
  have z02 := h02.size
  go_wp2_with fail
  go_loopw [5, 6, 28] (fun g t i wr => i = .int .i64 0 ∧ g = .bool false ∧ t = .int .i64 0 ∧ CvInv w w2 wr 0 0) (fun _ _ _ _ => 0)
  case atStart => exact ⟨rfl, rfl, rfl, by repeat (first | exact Below.refl _ _ | apply Below.setCell _ (by first | omega | (simp <;> omega)) | apply Below.alloc _ (by first | omega | (simp <;> omega)) | exact h02 | refine after ?_ h02), by simp, by simp [go_sem], by simp [go_sem]⟩
  case round =>
    obtain ⟨rfl, rfl, rfl, hinv⟩ := hrel
    have HI := Lib.hid hinv
    clear hinv
    go_wp2_with fail
    refine (sum_none _).mono ?_
    rintro e w3 ⟨rfl, h23⟩
    obtain ⟨hbel, hz, c0, c1⟩ := HI.out.step z02 h23
    go_wp2_with fail
    go_ret
    exact ⟨rfl, hbel⟩

set_option maxHeartbeats 1000000 in
theorem covers_empty (a : Addr) (cap : Nat) (w : World) :
    Calls Try.prog 5 #[.slice (some a) 0 cap] w fun e w' => e = .returned (.bool true) ∧ Below w.heap.size w w' := by
  go_enter Try.func5, Try.ntmps5
  go_wp2_with fail
  refine (spans_any _).mono ?_
  rintro e w1 ⟨rfl, h01⟩
  go_wp2_with fail
  refine (cover_empty _ _ _).mono ?_
  rintro e w2 ⟨rfl, h12⟩
  have h02 := after h01 h12
  have z02 := h02.size
  go_wp2_with fail
  go_loopw [5, 6, 28] (fun g t i wr => i = .int .i64 0 ∧ g = .bool false ∧ t = .int .i64 0 ∧ CvInv w w2 wr 0 0) (fun _ _ _ _ => 0)
  case atStart => exact ⟨rfl, rfl, rfl, by repeat (first | exact Below.refl _ _ | apply Below.setCell _ (by first | omega | (simp <;> omega)) | apply Below.alloc _ (by first | omega | (simp <;> omega)) | exact h02 | refine after ?_ h02), by simp, by simp [go_sem], by simp [go_sem]⟩
  case round =>
    obtain ⟨rfl, rfl, rfl, hinv⟩ := hrel
    have HI := Lib.hid hinv
    clear hinv
    go_wp2_with fail
    refine (sum_empty _ _ _).mono ?_
    rintro e w3 ⟨rfl, h23⟩
    obtain ⟨hbel, hz, c0, c1⟩ := HI.out.step z02 h23
    go_wp2_with fail
    go_ret
    exact ⟨rfl, hbel⟩

set_option maxHeartbeats 1000000 in
theorem covers_any {w : World} (v : Value) (l : List (Int × Int)) (hv : Spans w v l) :
    Calls Try.prog 5 #[v] w fun e w' => e = .returned (.bool true) ∧ Below w.heap.size w w' := by
  rcases hv with ⟨rfl, rfl⟩ | ⟨a, cap, rfl, rfl⟩ | ⟨b, off, n, cap, rfl, hl, h1, hn, hcap, hb, hr⟩
  · exact covers_none w
  · exact covers_empty a cap w
  · by_cases h40 : n ≤ 40
    · cases hall : allB l
      · exact covers_no b off n cap l w hl hn hcap hb hr hall h40 h1
      · cases l with
        | nil => simp at hl; omega
        | cons x t =>
          obtain ⟨s0, s1⟩ := x
          exact covers_yes b off n cap s0 s1 t w (by simpa using hl) hn hcap hb hr hall h40
    · have h40' : 40 < (n : Int) := by omega
      unfold maxLen at hcap
      go_enter Try.func5, Try.ntmps5
      go_wp2_with fail
      refine (spans_any _).mono ?_
      rintro e w1 ⟨rfl, h01⟩
      go_wp2_with fail
      go_ret
      exact ⟨rfl, h01⟩

end Go.Proofs.Ytcmeeehhhnmfgaa
