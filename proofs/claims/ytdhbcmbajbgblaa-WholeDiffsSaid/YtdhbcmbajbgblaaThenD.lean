/- Contract of Then. -/
import Derived.Test.YtdhbcmbajbgblaaThenC
namespace Go.Proofs.Ytdhbcmbajbgblaa
open Go Go.RowKit
set_option linter.unusedVariables false

theorem RunOk.small {s t : ByteArray} (hs : s.size ≤ 65536) (ht : t.size ≤ 65536) : ∀ {M : List Run} {w i : Nat}, RunOk s t w i M → SmallR M
  | [], w, i, h => fun r hr => absurd hr (by simp)
  | a :: M, w, i, h => fun r hr => by
    have hle := h.2.2.2.le
    rcases List.mem_cons.1 hr with rfl | hr
    · omega
    · exact RunOk.small hs ht h.2.2.2 r hr
theorem keepE_len (l : List NEd) : (keepE 0 0 l).length ≤ l.length := by rw [← keepK_all]; exact keepK_len l _
/-- the runs that both leave -/
abbrev bothR (s : ByteArray) (l r : List NEd) : List Run := thr (keepE 0 0 (endE s l)) (keepE 0 0 (endE (pieces s 0 l) r))
theorem both_ok (s : ByteArray) (l r : List NEd) (hl : EdOk s.size 0 l) (hr : EdOk (pieces s 0 l).size 0 r) :
    RunOk s (pieces s 0 l) 0 0 (keepE 0 0 (endE s l)) ∧ RunOk (pieces s 0 l) (pieces (pieces s 0 l) 0 r) 0 0 (keepE 0 0 (endE (pieces s 0 l) r)) ∧ RunOk s (pieces (pieces s 0 l) 0 r) 0 0 (bothR s l r) := by
  obtain ⟨a1, a2⟩ := keep_does s (pieces s 0 l) l 0 0 hl (Nat.zero_le _) ByteArray.extract_zero_size
  obtain ⟨b1, b2⟩ := keep_does (pieces s 0 l) (pieces (pieces s 0 l) 0 r) r 0 0 hr (Nat.zero_le _) ByteArray.extract_zero_size
  obtain ⟨c1, c2⟩ := thr_does s (pieces s 0 l) (pieces (pieces s 0 l) 0 r) _ _ _ 0 0 0 0 0 0 0 rfl a1 b1 (by cases keepE 0 0 (l ++ [(s.size, s.size, ByteArray.empty)]) with | nil => trivial | cons a A => exact ⟨by omega, by omega⟩)
    (by cases keepE 0 0 (r ++ [((pieces s 0 l).size, (pieces s 0 l).size, ByteArray.empty)]) with | nil => trivial | cons a A => exact ⟨by omega, by omega⟩) (by omega) (by omega) (by omega) (fun _ _ _ _ => Nat.zero_le _)
  exact ⟨a1, b1, c1⟩

/-- the step from a row of edits to tidied -/
theorem own_row {w : World} {B n : Nat} {v : Value} {L : List NEd} (h : w.ownsRow B 27 3 v n (flatE (L.map toI))) (hn : L.length = n) (h0 : 0 < n) :
    ∃ g cap, v = .slice (some ⟨g, 0, none⟩) n cap ∧ n ≤ cap ∧ cap ≤ maxLen ∧ B ≤ g ∧ g < w.heap.size ∧ (∀ j, w.frozen? ⟨g, j, none⟩ = false) ∧ RowE w g n (fun j => (L.map toI).getD j noEd) := by
  have h' := h
  rcases h.2 with ⟨_, q⟩ | ⟨g, cap, cur, rfl, q2, q3, q4, q5, q6⟩
  · omega
  have hc := h'.cells (g := g) rfl
  refine ⟨g, cap, rfl, q4, q5, q2, (h'.lt g rfl).2, fun j => h'.frozenAt j, fun i hi => ?_⟩
  have hi' : i < (L.map toI).length := by simp; omega
  obtain ⟨f0, f1, f2⟩ := flatE_get (L.map toI) i hi'
  have c0 := hc _ _ f0
  have c1 := hc _ _ f1
  have c2 := hc _ _ f2
  rw [add_at, Nat.zero_add] at c0 c1 c2
  have e : (L.map toI).getD i noEd = (L.map toI)[i] := by rw [List.getD_eq_getElem?_getD, List.getElem?_eq_getElem hi']; rfl
  simp only [e]
  exact ⟨c0, c1, c2⟩

set_option maxRecDepth 100000 in
set_option maxHeartbeats 1000000 in
theorem then_no1 (s : ByteArray) (src : Option Addr) (n cap : Nat) (l : List IEd) (v2 : Value) (w : World) (hl : l.length = n) (hn : n ≤ maxLen) (hf : fitsE s.size l ≠ 0) (hr : EdsIn w src l) :
    Calls Try.prog 10 #[.string s, .slice src n cap, v2] w fun e w' => e = .returned (.tuple #[.slice none 0 0, .int .i64 (fitsE s.size l)]) ∧ Below w.heap.size w w' := by
  have AP := Lib.hid (fun w hr => apply_no s src n cap l w hl hn hf hr)
  generalize fitsE s.size l = c at *
  have hc : (c == 0) = false := by simp; exact hf
  go_enter Try.func10, Try.ntmps10
  go_wp2_with fail
  refine (AP.out _ hr).mono ?_
  rintro e w1 ⟨rfl, h01⟩
  go_wp2_with fail
  go_ret2
  exact ⟨rfl, h01⟩

set_option maxRecDepth 100000 in
set_option maxHeartbeats 1000000 in
theorem then_no2 (s : ByteArray) (src : Option Addr) (n cap : Nat) (L : List NEd) (src2 : Option Addr) (n2 cap2 : Nat) (l2 : List IEd) (w : World) (hl : L.length = n) (hn : n ≤ 4096) (hs : s.size ≤ 65536) (hok : EdOk s.size 0 L) (hsz : (s.size : Int) + growN L ≤ 65536) (hfit : fitsE s.size (L.map toI) = 0) (ht : ∀ e ∈ L, e.2.2.size ≤ 65536) (hr : EdsIn w src (L.map toI))
    (hl2 : l2.length = n2) (hn2 : n2 ≤ maxLen) (hf : fitsE (pieces s 0 L).size l2 ≠ 0) (hr2 : EdsIn w src2 l2) :
    Calls Try.prog 10 #[.string s, .slice src n cap, .slice src2 n2 cap2] w fun e w' => e = .returned (.tuple #[.slice none 0 0, .int .i64 (fitsE (pieces s 0 L).size l2)]) ∧ Below w.heap.size w w' := by
  have A1 := Lib.hid (fun w hr => apply_ok s src n cap L w hl hn hs hok hsz hfit ht hr)
  have A2 := Lib.hid (fun w hr => apply_no (pieces s 0 L) src2 n2 cap2 l2 w hl2 hn2 hf hr)
  generalize fitsE (pieces s 0 L).size l2 = c at *
  generalize pieces s 0 L = P at *
  have hc : (c == 0) = false := by simp; exact hf
  have R2 := Lib.hid hr2
  go_enter Try.func10, Try.ntmps10
  go_wp2_with fail
  refine (A1.out _ hr).mono ?_
  rintro e w1 ⟨rfl, h01⟩
  have r2 := Lib.hid (R2.out.step h01)
  go_wp2_with fail
  refine (A2.out _ r2.out).mono ?_
  rintro e w2 ⟨rfl, h12⟩
  go_wp2_with fail
  go_ret2
  exact ⟨rfl, after h01 h12⟩

/-- what is said of one step for two -/
def ThenOf (s : ByteArray) (l r D : List NEd) : Prop :=
  EdOk s.size 0 D ∧ pieces s 0 D = pieces (pieces s 0 l) 0 r ∧ costN D ≤ costN l + costN r ∧ D.length ≤ l.length + r.length + 3

end Go.Proofs.Ytdhbcmbajbgblaa
