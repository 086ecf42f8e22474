/- The document's own answer: the place of a byte, by counting. -/
import Derived.Test.YtcmeeehhhnmfgaaDoorLinePlain
import Derived.Test.YtcmeeehhhnmfgaaDoorSpanB
namespace Go.Proofs.YtcmeeehhhnmfgaaDoor
open Go.RowKit
set_option linter.unusedVariables false

theorem colN_no {s : ByteArray} {k : Nat} (h : nlAt s k = false) : lineN s (k + 1) = lineN s k ∧ colN s (k + 1) = colN s k + 1 := by
  have h1 := begN_no h
  have h2 := begN_le s k
  exact ⟨h1.2, by unfold colN; rw [h1.1]; omega⟩
theorem colN_yes {s : ByteArray} {k : Nat} (h : nlAt s k = true) : lineN s (k + 1) = lineN s k + 1 ∧ colN s (k + 1) = 1 := by
  have h1 := begN_yes h
  exact ⟨h1.2, by unfold colN; rw [h1.1]; omega⟩

theorem refat_any (s : ByteArray) (n : Nat) (w : World) (hs : s.size ≤ 65536) (hn : n ≤ s.size) :
    Calls Tryd.prog 12 #[.string s, .int .i64 (n : Nat)] w fun e w' => e = .returned (.tuple #[.int .i64 (lineN s n : Nat), .int .i64 (colN s n : Nat)]) ∧ w = w' := by
  go_enter Tryd.func12, Tryd.ntmps12
  go_wp2_with fail
  go_loopw [6, 7, 8] (fun l c i wr => ∃ k : Nat, k ≤ n ∧ i = .int .i64 k ∧ l = .int .i64 (lineN s k : Nat) ∧ c = .int .i64 (colN s k : Nat) ∧ w = wr) (fun _ _ i _ => n - (intOf i).toNat)
  case atStart => exact ⟨0, Nat.zero_le _, rfl, rfl, rfl, rfl⟩
  case round =>
    obtain ⟨k, hk, rfl, rfl, rfl, rfl⟩ := hrel
    have hl := begsTo_len s k
    have hc := begN_le s k
    have b1 : lineN s k ≤ 65537 := by unfold lineN; omega
    have b2 : colN s k ≤ 65537 := by unfold colN; omega
    clear hl hc
    by_cases hlt : k < n
    · have hks : k < s.size := by omega
      cases hq : nlAt s k
      · have hb : ((s[k].toNat : Int) == 10) = false := by rw [nlAt_int s k hks]; exact hq
        have HQ := Lib.hid (colN_no hq)
        clear hq
        go_wp2_with fail
        go_roundw
        case rel => exact ⟨k + 1, by omega, by go_num, by rw [HQ.out.1], by rw [HQ.out.2]; go_num, trivial⟩
        case measure => simp [intOf]; omega
      · have hb : ((s[k].toNat : Int) == 10) = true := by rw [nlAt_int s k hks]; exact hq
        have HQ := Lib.hid (colN_yes hq)
        clear hq
        go_wp2_with fail
        go_roundw
        case rel => exact ⟨k + 1, by omega, by go_num, by rw [HQ.out.1]; go_num, by rw [HQ.out.2]; go_num, trivial⟩
        case measure => simp [intOf]; omega
    · have hk' : k = n := by omega
      subst hk'
      go_wp2_with fail
      go_ret2
      exact ⟨rfl, rfl⟩

end Go.Proofs.YtcmeeehhhnmfgaaDoor
