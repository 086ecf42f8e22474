/- Contract of edit.Move at a place that edits leave; where that place is, and how many there are. -/
import Derived.Test.YtdhbcmbajbgblaaThenE
import Derived.Test.YtdhbcmbajbgblaaKeepC
namespace Go.Proofs.Ytdhbcmbajbgblaa
open Go Go.RowKit
set_option linter.unusedVariables false

/-- how far edits that end ahead of a place move it -/
def mvL (p : Nat) : List NEd → Int
  | [] => 0
  | e :: l => (if e.2.1 ≤ p then (e.2.2.size : Int) - ((e.2.1 : Int) - e.1) else 0) + mvL p l
theorem mvL_snoc (p : Nat) (x : NEd) : ∀ l, mvL p (l ++ [x]) = mvL p l + (if x.2.1 ≤ p then (x.2.2.size : Int) - ((x.2.1 : Int) - x.1) else 0)
  | [] => by simp [mvL]
  | e :: l => by
    have := mvL_snoc p x l
    simp only [List.cons_append, mvL]; omega
theorem mvL_take (p : Nat) (l : List NEd) (k : Nat) (h : k < l.length) : mvL p (l.take (k + 1)) = mvL p (l.take k) + (if l[k].2.1 ≤ p then (l[k].2.2.size : Int) - ((l[k].2.1 : Int) - l[k].1) else 0) := by
  rw [List.take_succ_eq_append_getElem h, mvL_snoc]
theorem mvL_bd (p : Nat) : ∀ (l : List NEd), (∀ e ∈ l, e.1 ≤ e.2.1 ∧ e.2.1 ≤ 65536 ∧ e.2.2.size ≤ 65536) → -65536 * (l.length : Int) ≤ mvL p l ∧ mvL p l ≤ 65536 * (l.length : Int)
  | [], _ => by simp [mvL]
  | e :: l, h => by
    have ih := mvL_bd p l (fun x hx => h x (by simp [hx]))
    have h1 := h e (by simp)
    simp only [mvL, List.length_cons]
    split <;> omega
theorem mvL_zero (p n : Nat) : ∀ (l : List NEd) (a : Nat), EdOk n a l → p < a → mvL p l = 0
  | [], _, _, _ => rfl
  | e :: l, a, h, hp => by
    obtain ⟨h1, h2, h3⟩ := h
    have := mvL_zero p n l e.2.1 h3 (by omega)
    simp only [mvL]
    rw [if_neg (by omega), this]; rfl

set_option maxRecDepth 100000 in
set_option maxHeartbeats 4000000 in
theorem move_ok (s : ByteArray) (p : Nat) (src : Option Addr) (n cap : Nat) (L : List NEd) (w : World) (hl : L.length = n) (hn : n ≤ 4096) (hs : s.size ≤ 65536) (hok : EdOk s.size 0 L) (hfit : fitsE s.size (L.map toI) = 0) (ht : ∀ e ∈ L, e.2.2.size ≤ 65536) (hp : p ≤ s.size) (hnot : ∀ e ∈ L, ¬ (e.1 ≤ p ∧ p < e.2.1)) (hr : EdsIn w src (L.map toI)) :
    Calls Try.prog 14 #[.string s, .int .i64 (p : Nat), .bool true, .slice src n cap] w fun e w' => e = .returned (.tuple #[.int .i64 ((p : Int) + mvL p L), .int .i64 0]) ∧ Below w.heap.size w w' := by
  have FT := Lib.hid (fun w hr => fits_any s src n cap (L.map toI) w (by simpa using hl) (by unfold maxLen; omega) hr)
  rw [hfit] at FT
  have hall := (edOk_all L 0 hok).1
  have HBD : Hid (∀ k : Nat, -65536 * (k : Int) ≤ mvL p (L.take k) ∧ mvL p (L.take k) ≤ 65536 * (k : Int)) := Lib.hid (fun k => by
    have h1 := mvL_bd p (L.take k) (fun e he => by
      have h2 := hall e (List.mem_of_mem_take he)
      exact ⟨h2.2.1, by omega, ht e (List.mem_of_mem_take he)⟩)
    have h3 : (L.take k).length ≤ k := List.length_take_le _ _
    omega)
  have HALL := Lib.hid hall
  have HTX := Lib.hid ht
  have HNOT := Lib.hid hnot
  have HL := Lib.hid hl
  have HR := Lib.hid hr
  have k1 : decide ((p : Int) < 0) = false := decide_eq_false (by omega)
  have k2 : decide ((s.size : Int) < (p : Int)) = false := decide_eq_false (by omega)
  have k3 : decide (s.size < p) = false := decide_eq_false (by omega)
  clear hall hok ht hnot hl hr hfit
  go_enter Try.func14, Try.ntmps14
  go_wp2_with fail
  refine (FT.out _ HR.out).mono ?_
  rintro e w1 ⟨rfl, h01⟩
  have HR1 := Lib.hid (HR.out.step h01)
  have H1 := Lib.hid h01
  clear h01
  go_wp2_with fail
  go_loopw [31, 11] (fun i t wr => ∃ k : Nat, k ≤ n ∧ i = .int .i64 k ∧ t = .int .i64 ((p : Int) + mvL p (L.take k)) ∧ Below w1.heap.size w1 wr) (fun i _ _ => n - (intOf i).toNat)
  case atStart => exact ⟨0, Nat.zero_le _, rfl, by simp [mvL], Below.refl _ _⟩
  case round =>
    obtain ⟨k, hk, rfl, rfl, hbel⟩ := hrel
    have HBEL := Lib.hid hbel
    by_cases hlt : k < n
    · have hkl : k < L.length := by rw [HL.out]; exact hlt
      obtain ⟨b, off, hsr, hb, hrow⟩ := HR1.out (by simpa using (show 0 < L.length by omega))
      subst hsr
      have hbw := Nat.lt_of_lt_of_le hb hbel.size
      obtain ⟨c0, c1, c2⟩ := (hrow.below hbel hb) k (by simpa using hkl)
      rw [toI_get] at c0 c1 c2
      have hal := HALL.out _ (List.getElem_mem hkl)
      have htx := HTX.out _ (List.getElem_mem hkl)
      have hno := HNOT.out _ (List.getElem_mem hkl)
      have HTK := Lib.hid (mvL_take p L k hkl)
      have hbd := HBD.out k
      clear hrow hbel
      revert c0 c1 c2 hal htx hno HTK
      generalize L[k] = x
      obtain ⟨x1, x2, x3⟩ := x
      intro c0 c1 c2 hal htx hno HTK
      unfold toI at c0 c1 c2
      dsimp only at c0 c1 c2 hal htx hno HTK
      have hlen := lenI_nat (f := x1) (t := x2) hal.2.1 (by omega)
      have EL := Lib.hid hlen
      have i1 : (k : Int) < (n : Int) := by omega
      clear hkl hlen
      generalize mvL p (L.take k) = M at *
      rename World => wk
      by_cases hend : x2 ≤ p
      · have ET := Lib.hid (HTK.out.trans (by rw [if_pos hend]))
        have HG := Lib.hid (fun w => growth_any (x1 : Nat) (x2 : Nat) x3 w htx)
        rw [EL.out] at HG
        have j2 : (x2 : Int) ≤ (p : Int) := by omega
        by_cases hlt1 : x1 < p
        · have j1 : (x1 : Int) < (p : Int) := by omega
          have j3 : ¬ (p : Int) < (x2 : Int) := by omega
          have j4 : ((x1 : Int) == (p : Int)) = false := by simp; omega
          have hM1 : -268435456 ≤ M := by omega
          have hM2 : M ≤ 268435456 := by omega
          clear hlt1 hend hno
          go_wp2_with fail
          refine (HG.out _).mono ?_
          rintro e w2 ⟨rfl, h12⟩
          have H2 := Lib.hid (after (HBEL.out.alloc HBEL.out.size (.cells #[.int .i64 (x1 : Nat), .int .i64 (x2 : Nat), .string x3] 27)) h12)
          clear h12
          go_wp2_with fail
          go_roundw
          case rel => exact ⟨k + 1, by omega, by go_num, by rw [ET.out]; go_num, H2.out⟩
          case measure => simp [intOf]; omega
        · have hxp : x1 = p := by omega
          have hx2 : x2 = p := by omega
          have j1 : ¬ (x1 : Int) < (p : Int) := by omega
          have j4 : ((x1 : Int) == (p : Int)) = true := by simp; omega
          have j5 : ((x2 : Int) == (p : Int)) = true := by simp; omega
          have hM1 : -268435456 ≤ M := by omega
          have hM2 : M ≤ 268435456 := by omega
          clear hlt1 hend hno hxp hx2
          go_wp2_with fail
          refine (HG.out _).mono ?_
          rintro e w2 ⟨rfl, h12⟩
          have H2 := Lib.hid (after (HBEL.out.alloc HBEL.out.size (.cells #[.int .i64 (x1 : Nat), .int .i64 (x2 : Nat), .string x3] 27)) h12)
          clear h12
          go_wp2_with fail
          go_roundw
          case rel => exact ⟨k + 1, by omega, by go_num, by rw [ET.out]; go_num, H2.out⟩
          case measure => simp [intOf]; omega
      · have ET := Lib.hid (HTK.out.trans (by rw [if_neg hend, Int.add_zero]))
        have j1 : ¬ (x1 : Int) < (p : Int) := by omega
        have j2 : ¬ (x2 : Int) ≤ (p : Int) := by omega
        have j4 : ((x1 : Int) == (p : Int)) = false := by simp; omega
        clear hend hno
        go_wp2_with fail
        go_roundw
        case rel => exact ⟨k + 1, by omega, by go_num, by rw [ET.out], HBEL.out.alloc HBEL.out.size _⟩
        case measure => simp [intOf]; omega
    · have hkn : k = n := by omega
      have hfull : L.take k = L := List.take_of_length_le (by rw [HL.out]; omega)
      rw [hfull]
      have H2 := Lib.hid (after H1.out hbel)
      clear hbel HBEL hfull
      go_wp2_with fail
      go_ret2
      exact ⟨rfl, H2.out⟩

end Go.Proofs.Ytdhbcmbajbgblaa
