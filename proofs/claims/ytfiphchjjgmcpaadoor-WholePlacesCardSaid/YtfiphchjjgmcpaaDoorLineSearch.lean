/- sort.Search over the closure of Table.At: it answers the line of a place. -/
import Derived.Test.YtfiphchjjgmcpaaDoorLineOf
namespace Go.Proofs.YtfiphchjjgmcpaaDoor
open Go.RowKit
set_option linter.unusedVariables false

theorem TableAt.drewN {w : World} {p : Nat} {s : ByteArray} (h : TableAt w p s) (k : Nat) : TableAt (w.drewN k) p s := h

set_option maxHeartbeats 1000000 in
theorem at1_any (s : ByteArray) (l : List Nat) (hbl : begs s = l) (p b2 b3 i pos : Nat) (w : World) (ht : TableAt w p s) (hi : i < l.length) (c2 : w.cell? ⟨b2, 0, none⟩ = some (.pointer (some ⟨p, 0, none⟩))) (c3 : w.cell? ⟨b3, 0, none⟩ = some (.int .i64 (pos : Nat))) :
    Calls Tryd.prog 21 #[.int .i64 (i : Nat), .pointer (some ⟨b2, 0, none⟩), .pointer (some ⟨b3, 0, none⟩)] w fun e w' => e = .returned (.bool (decide (pos < l[i]))) ∧ ∃ nq, w' = w.drewN nq := by
  subst hbl
  obtain ⟨b, cap, h1, h2, t0, t1, h5, h6, h7⟩ := ht
  have t2 := h7 i hi
  have hi0 : (0 : Int) ≤ (i : Int) := by omega
  have hi1 : (i : Int) < ((begs s).length : Int) := by omega
  unfold maxLen at h6
  clear h7
  generalize (begs s)[i] = x at *
  generalize (begs s).length = n at *
  go_enter Tryd.func21, Tryd.ntmps21
  go_wp2_with fail
  go_quiet (fail)
  go_wp2_with fail
  go_ret
  exact ⟨rfl, nq, rfl⟩

set_option maxHeartbeats 1000000 in
theorem search_line (s : ByteArray) (p b2 b3 pos : Nat) (w : World) (hs : s.size ≤ 65536) (ht : TableAt w p s) (hpos : pos ≤ s.size) (c2 : w.cell? ⟨b2, 0, none⟩ = some (.pointer (some ⟨p, 0, none⟩))) (c3 : w.cell? ⟨b3, 0, none⟩ = some (.int .i64 (pos : Nat))) :
    Calls Tryd.prog 20 #[.int .i64 ((begs s).length : Nat), .func (.func 21) #[] #[.pointer (some ⟨b2, 0, none⟩), .pointer (some ⟨b3, 0, none⟩)]] w fun e w' => e = .returned (.int .i64 (lineN s pos : Nat)) ∧ ∃ nq, w' = w.drewN nq := by
  have HT := Lib.hid ht
  have hl := (begs_len s).2
  have HS := Lib.hid (begs_search s pos)
  have C2 := Lib.hid c2
  have C3 := Lib.hid c3
  have hso := begs_sorted s
  generalize hbg : begs s = l at *
  have HBL := Lib.hid hbg
  have HSO := Lib.hid hso
  clear hbg ht c2 c3 hso
  go_enter Tryd.func20, Tryd.ntmps20
  go_wp2_with fail
  go_loopw [5, 6] (fun i j wr => ∃ a b : Nat, i = .int .i64 a ∧ j = .int .i64 b ∧ a ≤ b ∧ b ≤ l.length ∧ (∀ x (hx : x < l.length), x < a → l[x] ≤ pos) ∧ (∀ x (hx : x < l.length), b ≤ x → pos < l[x]) ∧ ∃ nq, wr = w.drewN nq) (fun i j _ => (intOf j).toNat - (intOf i).toNat)
  case atStart => exact ⟨0, l.length, rfl, rfl, by omega, by omega, by omega, by omega, 0, rfl⟩
  case round =>
    obtain ⟨a, b, rfl, rfl, hab, hbn, hlo, hhi, nq, rfl⟩ := hrel
    have HLO := Lib.hid hlo
    have HHI := Lib.hid hhi
    clear hlo hhi
    by_cases hlt : a < b
    · obtain ⟨m, hm⟩ : ∃ m, m = (a + b) / 2 := ⟨_, rfl⟩
      have m1 : 2 * m ≤ a + b := by omega
      have m2 : a + b < 2 * m + 2 := by omega
      clear hm
      have m3 : m < l.length := by omega
      go_wp2_with fail
      rw [show ((a : Int) + (b : Int)) / 2 = (m : Int) by omega]
      refine (at1_any s l HBL.out p b2 b3 m pos _ (HT.out.drewN nq) m3 C2.out C3.out).mono ?_
      by_cases hc : pos < l[m]
      · have hd : decide (pos < l[m]) = true := by simpa using hc
        rw [hd]
        rintro e w' ⟨rfl, mq, rfl⟩
        clear hd
        go_wp2_with fail
        go_roundw
        case rel =>
          refine ⟨a, m, rfl, rfl, by omega, by omega, HLO.out, ?_, nq + mq, by simp⟩
          intro x hx hmx
          rcases Nat.lt_or_eq_of_le hmx with h | h
          · have := List.pairwise_iff_getElem.1 HSO.out m x m3 hx h; omega
          · subst h; exact hc
        case measure => simp [intOf]; omega
      · have hd : decide (pos < l[m]) = false := by simpa using hc
        rw [hd]
        rintro e w' ⟨rfl, mq, rfl⟩
        clear hd
        go_wp2_with fail
        go_roundw
        case rel =>
          refine ⟨m + 1, b, by go_num, rfl, by omega, by omega, ?_, HHI.out, nq + mq, by simp⟩
          intro x hx hmx
          rcases Nat.lt_or_eq_of_le (show x ≤ m by omega) with h | h
          · have := List.pairwise_iff_getElem.1 HSO.out x m hx m3 h; omega
          · subst h; omega
        case measure => simp [intOf]; omega
    · have hab' : a = b := by omega
      subst hab'
      have E := Lib.hid (HS.out a hpos hbn HLO.out HHI.out)
      go_wp2_with fail
      go_ret
      exact ⟨by rw [← E.out]; rfl, nq, rfl⟩

end Go.Proofs.YtfiphchjjgmcpaaDoor
