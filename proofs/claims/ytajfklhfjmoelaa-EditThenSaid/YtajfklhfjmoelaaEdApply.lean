/- EditApplies: the walk. -/
import Derived.Test.YtajfklhfjmoelaaEditJ
import Derived.Test.YtajfklhfjmoelaaEdFrame
namespace Go.Proofs.Ytajfklhfjmoelaa
open Go Go.RowKit
set_option linter.unusedVariables false

theorem smallB_true {s : ByteArray} {l : List IEd} (h : smallB s l = true) : s.size ≤ 2000 ∧ l.length ≤ 60 ∧ ∀ e ∈ l, e.2.2.size ≤ 500 := by
  unfold smallB smallTo at h
  simp at h
  exact ⟨h.1.1, h.1.2, fun e he => h.2 _ _ _ he⟩

set_option maxRecDepth 100000 in
set_option maxHeartbeats 1000000 in
theorem eapplies_far (s : ByteArray) (src : Option Addr) (n cap : Nat) (l : List IEd) (w : World) (hl : l.length = n) (hr : EdsIn w src l) (hb : smallB s l = false) :
    Calls Try.prog 3 #[.string s, .slice src n cap] w fun e w' => e = .returned (.bool true) ∧ Below w.heap.size w w' := by
  have SM := Lib.hid (fun w hr => small_any s src n cap l w hl hr)
  rw [hb] at SM
  go_enter Try.func3, Try.ntmps3
  go_wp2_with fail
  refine (edits_any _).mono ?_
  rintro e w1 ⟨rfl, h01⟩
  go_wp2_with fail
  refine (SM.out _ (hr.step h01)).mono ?_
  rintro e w2 ⟨rfl, h12⟩
  go_wp2_with fail
  go_ret
  exact ⟨rfl, after h01 h12⟩

set_option maxRecDepth 100000 in
set_option maxHeartbeats 1000000 in
theorem eapplies_two (s t : ByteArray) (c : Int) (src : Option Addr) (n cap : Nat) (l : List IEd) (w : World) (hl : l.length = n) (hn : n ≤ maxLen) (hs : s.size ≤ maxLen) (hr : EdsIn w src l) (hb : smallB s l = true)
    (A1 : Hid (∀ w1, EdsIn w1 src l → Calls Try.prog 18 #[.string s, .slice src n cap] w1 fun e w2 => e = .returned (.tuple #[.string t, .int .i64 c]) ∧ Below w1.heap.size w1 w2))
    (A2 : Hid (∀ w1, EdsIn w1 src l → Calls Try.prog 19 #[.string s, .slice src n cap] w1 fun e w2 => e = .returned (.tuple #[.string t, .int .i64 c]) ∧ Below w1.heap.size w1 w2)) :
    Calls Try.prog 3 #[.string s, .slice src n cap] w fun e w' => e = .returned (.bool true) ∧ Below w.heap.size w w' := by
  have SM := Lib.hid (fun w hr => small_any s src n cap l w hl hr)
  rw [hb] at SM
  have C1 := Lib.hid (fun w hr => echeck_any (s.size : Int) src n cap l w hl hn hr)
  have C2 := Lib.hid (fun w hr => rcheck_any s.size src n cap l w hl hn hs hr)
  generalize checkE s.size l = q at *
  go_enter Try.func3, Try.ntmps3
  go_wp2_with fail
  refine (edits_any _).mono ?_
  rintro e w1 ⟨rfl, h01⟩
  have r1 := Lib.hid (hr.step h01)
  go_wp2_with fail
  refine (SM.out _ r1.out).mono ?_
  rintro e w2 ⟨rfl, h12⟩
  have r2 := Lib.hid (r1.out.step h12)
  have b2 := Lib.hid (after h01 h12)
  clear h01 h12 r1
  go_wp2_with fail
  refine (A1.out _ r2.out).mono ?_
  rintro e w3 ⟨rfl, h23⟩
  have r3 := Lib.hid (r2.out.step h23)
  have b3 := Lib.hid (after b2.out h23)
  clear h23 b2 r2
  go_wp2_with fail
  refine (A2.out _ r3.out).mono ?_
  rintro e w4 ⟨rfl, h34⟩
  have r4 := Lib.hid (r3.out.step h34)
  have b4 := Lib.hid (after b3.out h34)
  clear h34 b3 r3
  go_wp2_with fail
  refine (C1.out _ r4.out).mono ?_
  rintro e w5 ⟨rfl, h45⟩
  have r5 := Lib.hid (r4.out.step h45)
  have b5 := Lib.hid (after b4.out h45)
  clear h45 b4 r4
  go_wp2_with fail
  refine (C2.out _ r5.out).mono ?_
  rintro e w6 ⟨rfl, h56⟩
  go_wp2_with fail
  go_ret
  exact ⟨by simp, after b5.out h56⟩

theorem eapplies_any {w : World} (s : ByteArray) (hs : s.size ≤ maxLen) (v : Value) (l : List IEd) (h : Eds w v l) :
    Calls Try.prog 3 #[.string s, v] w fun e w' => e = .returned (.bool true) ∧ Below w.heap.size w w' := by
  obtain ⟨src, n, cap, rfl, hl, hn, hr⟩ := h
  cases hb : smallB s l
  · exact eapplies_far s src n cap l w hl hr hb
  · obtain ⟨b1, b2, b3⟩ := smallB_true hb
    by_cases hf : fitsE s.size l = 0
    · obtain ⟨L, rfl, v1, v2, v3, v4, v5, v6, v7⟩ := fits_valid hf
      have hl' : L.length = n := by simpa using hl
      exact eapplies_two s (pieces s 0 L) 0 src n cap _ w hl hn hs hr hb (Lib.hid (fun w1 h1 => apply_ok s src n cap L w1 hl' (by omega) v3 v1 v6 hf v7 h1)) (Lib.hid (fun w1 h1 => rapply_ok s src n cap L w1 hl' (by omega) v3 v1 v6 hf v7 h1))
    · exact eapplies_two s ⟨#[]⟩ (fitsE s.size l) src n cap l w hl hn hs hr hb (Lib.hid (fun w1 h1 => apply_no s src n cap l w1 hl hn hf h1)) (Lib.hid (fun w1 h1 => rapply_no s src n cap l w1 hl hn h1 hf))

end Go.Proofs.Ytajfklhfjmoelaa
