/- DiffAny: the walk. -/
import Derived.Test.YtepoiedophggkaaDiffO
namespace Go.Proofs.Ytepoiedophggkaa
open Go Go.RowKit
set_option linter.unusedVariables false

set_option maxRecDepth 100000 in
set_option maxHeartbeats 4000000 in
theorem diffAny_in (a b : ByteArray) (m : Nat) (w : World) (ha : a.size ≤ 300) (hb : b.size ≤ 300) (hm : m ≤ 17000) :
    Calls Try.prog 9 #[.string a, .string b, .int .i64 (m : Nat)] w fun e w' => e = .returned (.bool true) ∧ Below w.heap.size w w' := by
  have k1 : ¬ 300 < (a.size : Int) := by omega
  have k2 : ¬ 300 < (b.size : Int) := by omega
  have k3 : ¬ (m : Int) < 0 := by omega
  have k4 : ¬ 17000 < (m : Int) := by omega
  go_enter Try.func9, Try.ntmps9
  go_wp2_with fail
  refine (finds_any _).mono ?_
  rintro e w1 ⟨rfl, h01⟩
  obtain ⟨w2, mk1, cv1, h12⟩ := made_zerosD m w1 (by omega)
  have zs := zerosD_size m
  have H2 := Lib.hid (after h01 h12)
  clear h01 h12
  have p1 : ¬ maxLen < a.size + (zerosD m).size := by unfold maxLen; omega
  have p2 : ¬ maxLen < b.size + (zerosD m).size := by unfold maxLen; omega
  go_wp2_with fail
  have zx : (a ++ zerosD m).size = a.size + m := by rw [ByteArray.size_append, zs]
  have zy : (b ++ zerosD m ++ b).size = b.size + m + b.size := by rw [ByteArray.size_append, ByteArray.size_append, zs]
  clear mk1 cv1 p1 p2 zs
  generalize a ++ zerosD m = x at *
  generalize b ++ zerosD m ++ b = y at *
  by_cases hl : 16384 < x.size ∨ 16384 < y.size
  · refine (bytes_long x y _ (by unfold maxLen; omega) (by unfold maxLen; omega) hl).mono ?_
    rintro e w3 ⟨rfl, h23⟩
    have H3 := Lib.hid (after H2.out h23)
    clear h23
    by_cases h1 : 16384 < x.size
    · have d1 : 16384 < (x.size : Int) := by omega
      go_wp2_with fail
      go_ret
      exact ⟨rfl, H3.out⟩
    · have d1 : ¬ 16384 < (x.size : Int) := by omega
      have d2 : 16384 < (y.size : Int) := by omega
      go_wp2_with fail
      go_ret
      exact ⟨rfl, H3.out⟩
  · have d1 : ¬ 16384 < (x.size : Int) := by omega
    have d2 : ¬ 16384 < (y.size : Int) := by omega
    refine (bytes_ok x y _ (by omega) (by omega)).mono ?_
    rintro e w3 ⟨src, cap, L, f, rfl, h23, hr, hme, hf⟩
    obtain ⟨q1, q2, q3, q4⟩ := hme.fits (by omega) (by omega) (by omega)
    obtain ⟨f1, f2, f3, f4⟩ := hme
    have HA := Lib.hid (fun w hr => rapply_ok x src L.length cap L w rfl (by omega) (by omega) f1 q1 q3 q2 hr)
    rw [f2] at HA
    have HC := Lib.hid (fun w hr => cost_any src L.length cap (L.map toI) w (by simp) (by omega) (fun e he => by
      obtain ⟨x, hx, rfl⟩ := List.mem_map.1 he
      exact q2 x hx) hr)
    rw [q4] at HC
    have HR3 := Lib.hid hr
    have H3 := Lib.hid (after H2.out h23)
    clear h23 q1 q2 q3 q4 f1 f2 f4 hr
    generalize L.map toI = l at *
    generalize L.length = z at *
    generalize costN L = c at *
    have d3 : (c : Int) ≤ (x.size : Int) + (y.size : Int) := by omega
    go_wp2_with fail
    refine (HA.out _ HR3.out).mono ?_
    rintro e w4 ⟨rfl, h34⟩
    have HR4 := Lib.hid (HR3.out.step h34)
    have H4 := Lib.hid (after H3.out h34)
    clear h34
    cases f
    · clear hf
      go_wp2_with fail
      refine (HC.out _ HR4.out).mono ?_
      rintro e w5 ⟨rfl, h45⟩
      have H5 := Lib.hid (after H4.out h45)
      clear h45
      go_wp2_with fail
      go_ret
      exact ⟨by simp, H5.out⟩
    · have d4 : (c : Int) ≤ 512 := by have := hf rfl; omega
      clear hf
      go_wp2_with fail
      refine (HC.out _ HR4.out).mono ?_
      rintro e w5 ⟨rfl, h45⟩
      have HR5 := Lib.hid (HR4.out.step h45)
      have H5 := Lib.hid (after H4.out h45)
      clear h45
      go_wp2_with fail
      refine (HC.out _ HR5.out).mono ?_
      rintro e w6 ⟨rfl, h56⟩
      have H6 := Lib.hid (after H5.out h56)
      clear h56
      go_wp2_with fail
      go_ret
      exact ⟨by simp, H6.out⟩

theorem diffAny_any (a : ByteArray) (ha : a.size ≤ maxLen) (b : ByteArray) (hb : b.size ≤ maxLen) (more : Int) (_ : (Lit.int .i64 more).wf = true) (w : World) :
    Calls Try.prog 9 #[.string a, .string b, .int .i64 more] w fun e w' => e = .returned (.bool true) ∧ Below w.heap.size w w' := by
  unfold maxLen at ha hb
  by_cases h1 : 300 < a.size
  · have k1 : 300 < (a.size : Int) := by omega
    go_enter Try.func9, Try.ntmps9
    go_wp2_with (go_at_call 26; refine (finds_any _).mono ?_; rintro e w1 ⟨rfl, h01⟩)
    go_ret
    exact ⟨rfl, h01⟩
  · have k1 : ¬ 300 < (a.size : Int) := by omega
    by_cases h2 : 300 < b.size
    · have k2 : 300 < (b.size : Int) := by omega
      go_enter Try.func9, Try.ntmps9
      go_wp2_with (go_at_call 26; refine (finds_any _).mono ?_; rintro e w1 ⟨rfl, h01⟩)
      go_ret
      exact ⟨rfl, h01⟩
    · have k2 : ¬ 300 < (b.size : Int) := by omega
      by_cases h3 : more < 0
      · go_enter Try.func9, Try.ntmps9
        go_wp2_with (go_at_call 26; refine (finds_any _).mono ?_; rintro e w1 ⟨rfl, h01⟩)
        go_ret
        exact ⟨rfl, h01⟩
      · by_cases h4 : 17000 < more
        · go_enter Try.func9, Try.ntmps9
          go_wp2_with (go_at_call 26; refine (finds_any _).mono ?_; rintro e w1 ⟨rfl, h01⟩)
          go_ret
          exact ⟨rfl, h01⟩
        · obtain ⟨m, rfl⟩ : ∃ m : Nat, more = m := ⟨more.toNat, by omega⟩
          exact diffAny_in a b m w (by omega) (by omega) (by omega)

end Go.Proofs.Ytepoiedophggkaa
