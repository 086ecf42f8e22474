/- The way back costs the same; by way of a third text it costs no less: the walks. -/
import Derived.Test.YtepoiedophggkaaDiffJ
namespace Go.Proofs.Ytepoiedophggkaa
open Go Go.RowKit
set_option linter.unusedVariables false

theorem ret_bl {x y : Bool} (h : x = y) : Ending.returned (.bool x) = Ending.returned (.bool y) := by rw [h]
theorem bytes_eq_list (a b : ByteArray) : a.toList = b.toList ↔ a = b := by
  rw [ByteArray.toList_eq, ByteArray.toList_eq]
  constructor
  · intro h; apply ByteArray.ext; exact Array.toList_inj.1 h
  · intro h; rw [h]

set_option maxRecDepth 100000 in
set_option maxHeartbeats 2000000 in
theorem diffBack_in (a b : ByteArray) (w : World) (ha : a.size ≤ 250) (hb : b.size ≤ 250) :
    Calls Try.prog 11 #[.string a, .string b] w fun e w' => e = .returned (.bool true) ∧ Below w.heap.size w w' := by
  have hle := farN_le a b
  obtain ⟨s1, s2⟩ := farN_sub a b
  have hz := farN_zero a b
  have hsw := farN_swap a b
  have hf1 := fun w => far_near a b w (by omega) (by omega) (by omega)
  have hf2 := fun w => far_near b a w (by omega) (by omega) (by omega)
  rw [← hsw] at hf2
  have F1 := Lib.hid hf1
  have F2 := Lib.hid hf2
  have heq : ((farN a b : Int) == 0) = (a.toList == b.toList) := by
    rw [Bool.eq_iff_iff, beq_iff_eq, beq_iff_eq, bytes_eq_list, ← hz]; omega
  have HQ := Lib.hid heq
  clear hsw hf1 hf2 hz heq
  generalize farN a b = n at *
  have k1 : ¬ 250 < (a.size : Int) := by omega
  have k2 : ¬ 250 < (b.size : Int) := by omega
  have k3 : (n : Int) ≤ (a.size : Int) + (b.size : Int) := by omega
  have k4 : max ((a.size : Int) - (b.size : Int)) ((b.size : Int) - (a.size : Int)) ≤ (n : Int) := by omega
  go_enter Try.func11, Try.ntmps11
  go_wp2_with fail
  refine (finds_any _).mono ?_
  rintro e w1 ⟨rfl, h01⟩
  have H1 := Lib.hid h01
  clear h01
  go_wp2_with fail
  refine (F1.out _).mono ?_
  rintro e w2 ⟨rfl, h12⟩
  have H2 := Lib.hid (after H1.out h12)
  clear h12
  go_wp2_with fail
  refine (F2.out _).mono ?_
  rintro e w3 ⟨rfl, h23⟩
  have H3 := Lib.hid (after H2.out h23)
  clear h23
  go_wp2_with fail
  go_ret
  refine ⟨ret_bl ?_, H3.out⟩
  rw [HQ.out]; simp

theorem diffBack_any (a : ByteArray) (ha : a.size ≤ maxLen) (b : ByteArray) (hb : b.size ≤ maxLen) (w : World) :
    Calls Try.prog 11 #[.string a, .string b] w fun e w' => e = .returned (.bool true) ∧ Below w.heap.size w w' := by
  unfold maxLen at ha hb
  by_cases h1 : 250 < a.size
  · have k1 : 250 < (a.size : Int) := by omega
    go_enter Try.func11, Try.ntmps11
    go_wp2_with (go_at_call 26; refine (finds_any _).mono ?_; rintro e w1 ⟨rfl, h01⟩)
    go_ret
    exact ⟨rfl, h01⟩
  · by_cases h2 : 250 < b.size
    · have k1 : ¬ 250 < (a.size : Int) := by omega
      have k2 : 250 < (b.size : Int) := by omega
      go_enter Try.func11, Try.ntmps11
      go_wp2_with (go_at_call 26; refine (finds_any _).mono ?_; rintro e w1 ⟨rfl, h01⟩)
      go_ret
      exact ⟨rfl, h01⟩
    · exact diffBack_in a b w (by omega) (by omega)

set_option maxRecDepth 100000 in
set_option maxHeartbeats 2000000 in
theorem diffTri_in (a b c : ByteArray) (w : World) (ha : a.size ≤ 120) (hb : b.size ≤ 120) (hc : c.size ≤ 120) :
    Calls Try.prog 12 #[.string a, .string b, .string c] w fun e w' => e = .returned (.bool true) ∧ Below w.heap.size w w' := by
  have l1 := farN_le a b
  have l2 := farN_le b c
  have l3 := farN_le a c
  have ht := farN_tri a b c
  have F1 := Lib.hid (fun w => far_near a b w (by omega) (by omega) (by omega))
  have F2 := Lib.hid (fun w => far_near b c w (by omega) (by omega) (by omega))
  have F3 := Lib.hid (fun w => far_near a c w (by omega) (by omega) (by omega))
  generalize farN a b = x at *
  generalize farN b c = y at *
  generalize farN a c = z at *
  have k1 : ¬ 120 < (a.size : Int) := by omega
  have k2 : ¬ 120 < (b.size : Int) := by omega
  have k3 : ¬ 120 < (c.size : Int) := by omega
  have k4 : (z : Int) ≤ (x : Int) + (y : Int) := by omega
  go_enter Try.func12, Try.ntmps12
  go_wp2_with fail
  refine (finds_any _).mono ?_
  rintro e w1 ⟨rfl, h01⟩
  have H1 := Lib.hid h01
  clear h01
  go_wp2_with fail
  refine (F1.out _).mono ?_
  rintro e w2 ⟨rfl, h12⟩
  have H2 := Lib.hid (after H1.out h12)
  clear h12
  go_wp2_with fail
  refine (F2.out _).mono ?_
  rintro e w3 ⟨rfl, h23⟩
  have H3 := Lib.hid (after H2.out h23)
  clear h23
  go_wp2_with fail
  refine (F3.out _).mono ?_
  rintro e w4 ⟨rfl, h34⟩
  have H4 := Lib.hid (after H3.out h34)
  clear h34
  go_wp2_with fail
  go_ret
  exact ⟨by simp, H4.out⟩

theorem diffTri_any (a : ByteArray) (ha : a.size ≤ maxLen) (b : ByteArray) (hb : b.size ≤ maxLen) (c : ByteArray) (hc : c.size ≤ maxLen) (w : World) :
    Calls Try.prog 12 #[.string a, .string b, .string c] w fun e w' => e = .returned (.bool true) ∧ Below w.heap.size w w' := by
  unfold maxLen at ha hb hc
  by_cases h1 : 120 < a.size
  · have k1 : 120 < (a.size : Int) := by omega
    go_enter Try.func12, Try.ntmps12
    go_wp2_with (go_at_call 26; refine (finds_any _).mono ?_; rintro e w1 ⟨rfl, h01⟩)
    go_ret
    exact ⟨rfl, h01⟩
  · have k1 : ¬ 120 < (a.size : Int) := by omega
    by_cases h2 : 120 < b.size
    · have k2 : 120 < (b.size : Int) := by omega
      go_enter Try.func12, Try.ntmps12
      go_wp2_with (go_at_call 26; refine (finds_any _).mono ?_; rintro e w1 ⟨rfl, h01⟩)
      go_ret
      exact ⟨rfl, h01⟩
    · have k2 : ¬ 120 < (b.size : Int) := by omega
      by_cases h3 : 120 < c.size
      · have k3 : 120 < (c.size : Int) := by omega
        go_enter Try.func12, Try.ntmps12
        go_wp2_with (go_at_call 26; refine (finds_any _).mono ?_; rintro e w1 ⟨rfl, h01⟩)
        go_ret
        exact ⟨rfl, h01⟩
      · exact diffTri_in a b c w (by omega) (by omega) (by omega)

end Go.Proofs.Ytepoiedophggkaa
