/- Contracts of fits, and of the document's own Check. -/
import Derived.Test.YtdhbcmbajbgblaaEditB
namespace Go.Proofs.Ytdhbcmbajbgblaa
open Go Go.RowKit
set_option linter.unusedVariables false

theorem firstE_zero {n : Int} : ∀ {l : List IEd}, firstE n l = 0 → ∀ e ∈ l, oneE n e = 0
  | [], _, e, he => absurd he (by simp)
  | x :: l, h, e, he => by
    by_cases hx : oneE n x = 0
    · simp only [firstE, hx, if_true] at h
      rcases List.mem_cons.1 he with rfl | he
      · exact hx
      · exact firstE_zero h e he
    · simp only [firstE, hx, if_false] at h
theorem oneE_zero {n : Int} {e : IEd} (h : oneE n e = 0) : e.2.2.size ≤ 65536 ∧ chkB e.1 e.2.1 n = true := by
  unfold oneE at h
  by_cases hz : 65536 < e.2.2.size
  · rw [if_pos hz] at h; omega
  · rw [if_neg hz] at h
    refine ⟨by omega, ?_⟩
    cases hc : chkB e.1 e.2.1 n
    · rw [hc] at h; simp [errI] at h
    · rfl
theorem checkE_zero {n : Int} {l : List IEd} (h : checkE n l = 0) : l.length ≤ 4096 ∧ (∀ e ∈ l, e.2.2.size ≤ 65536 ∧ chkB e.1 e.2.1 n = true) ∧ ordE l (l.length - 1) = true := by
  unfold checkE at h
  by_cases h1 : 4096 < l.length
  · rw [if_pos h1] at h; omega
  · rw [if_neg h1] at h
    by_cases h2 : firstE n l = 0
    · rw [if_pos h2] at h
      refine ⟨by omega, fun e he => oneE_zero (firstE_zero h2 e he), ?_⟩
      by_cases h3 : ordE l (l.length - 1) = true
      · exact h3
      · rw [if_neg h3] at h; omega
    · rw [if_neg h2] at h; exact absurd h h2

/-- why edits may not be made to a text of so many bytes -/
def fitsE (s : Nat) (l : List IEd) : Int :=
  if 65536 < s then 2 else if checkE s l = 0 then (if 65536 < (s : Int) + growE l then 2 else 0) else checkE s l
theorem fitsE_zero {s : Nat} {l : List IEd} (h : fitsE s l = 0) : s ≤ 65536 ∧ checkE s l = 0 ∧ (s : Int) + growE l ≤ 65536 := by
  unfold fitsE at h
  by_cases h1 : 65536 < s
  · rw [if_pos h1] at h; omega
  · rw [if_neg h1] at h
    by_cases h2 : checkE s l = 0
    · rw [if_pos h2] at h
      by_cases h3 : 65536 < (s : Int) + growE l
      · rw [if_pos h3] at h; omega
      · exact ⟨by omega, h2, by omega⟩
    · rw [if_neg h2] at h; exact absurd h h2

set_option maxHeartbeats 1000000 in
theorem fits_any (s : ByteArray) (src : Option Addr) (n cap : Nat) (l : List IEd) (w : World) (hl : l.length = n) (hn : n ≤ maxLen) (hr : EdsIn w src l) :
    Calls Try.prog 28 #[.string s, .slice src n cap] w fun e w' => e = .returned (.int .i64 (fitsE s.size l)) ∧ Below w.heap.size w w' := by
  have HC1 := Lib.hid (fun w hr => echeck_any (s.size : Int) src n cap l w hl hn hr)
  have HR := Lib.hid hr
  have HL := Lib.hid hl
  clear hr hl
  by_cases hs : 65536 < s.size
  · have E := Lib.hid (show fitsE s.size l = 2 by unfold fitsE; rw [if_pos hs])
    have hs' : 65536 < (s.size : Int) := by omega
    go_enter Try.func28, Try.ntmps28
    go_wp2_with fail
    go_ret
    exact ⟨by rw [E.out]; rfl, Below.refl _ _⟩
  · have hs' : ¬ 65536 < (s.size : Int) := by omega
    by_cases hc : checkE s.size l = 0
    · have E := Lib.hid (show fitsE s.size l = if 65536 < (s.size : Int) + growE l then 2 else 0 by unfold fitsE; rw [if_neg hs, if_pos hc])
      obtain ⟨k1, k2, k3⟩ := checkE_zero hc
      have HC0 := Lib.hid hc
      have HALL := Lib.hid k2
      have hnn : n ≤ 4096 := by have := HL.out; omega
      clear hc k1 k2 k3
      go_enter Try.func28, Try.ntmps28
      go_wp2_with fail
      refine (HC1.out _ HR.out).mono ?_
      rw [HC0.out]
      rintro e w1 ⟨rfl, h01⟩
      have H01 := Lib.hid h01
      clear h01
      go_wp2_with fail
      go_loopw [6, 23] (fun c i wr => ∃ k : Nat, k ≤ n ∧ i = .int .i64 k ∧ c = .int .i64 ((s.size : Int) + growE (l.take k)) ∧ Below w.heap.size w wr) (fun _ i _ => n - (intOf i).toNat)
      case atStart => exact ⟨0, Nat.zero_le _, rfl, by simp [growE], H01.out⟩
      case round =>
        obtain ⟨k, hk, rfl, rfl, hbel⟩ := hrel
        have HBEL := Lib.hid hbel
        have hsz := hbel.size
        have hbd := growE_bd (l.take k) (fun e he => (HALL.out e (List.mem_of_mem_take he)).1)
        have hlen : ((l.take k).length : Int) ≤ 4096 := by rw [List.length_take]; omega
        have hg1 : growE (l.take k) ≤ 65536 * 4096 := by omega
        have hg2 : -(65536 * 4096) ≤ growE (l.take k) := by omega
        clear hbd hlen
        by_cases hlt : k < n
        · have hkl : k < l.length := by rw [HL.out]; exact hlt
          obtain ⟨b, off, rfl, hb, hrow⟩ := HR.out (by omega)
          obtain ⟨c0, c1, c2⟩ := (hrow.below hbel hb) k hkl
          have SN := Lib.hid (growE_snoc l k hkl)
          have x3s := (HALL.out _ (List.getElem_mem hkl)).1
          clear hbel hrow
          revert c0 c1 c2 SN x3s
          generalize l[k] = x
          obtain ⟨x1, x2, x3⟩ := x
          intro c0 c1 c2 SN x3s
          dsimp only at c0 c1 c2 SN x3s
          have hl1 := lenI_bd x1 x2
          generalize growE (l.take k) = c at *
          have GR := Lib.hid (fun w => growth_any x1 x2 x3 w x3s)
          generalize hd : (x3.size : Int) - lenI x1 x2 = d at *
          have hd1 : -65536 ≤ d := by omega
          have hd2 : d ≤ 65536 := by omega
          clear hkl hl1 x3s hd
          go_wp2_with fail
          refine (GR.out _).mono ?_
          rintro e w2 ⟨rfl, h12⟩
          have H2 := Lib.hid (after HBEL.out (after ((Below.refl _ _).alloc (Nat.le_refl _) _) h12))
          clear h12
          go_wp2_with fail
          go_roundw
          case rel => exact ⟨k + 1, by omega, by go_num, by rw [SN.out, Int.add_assoc], H2.out⟩
          case measure => simp [intOf]; omega
        · have hk' : k = n := by omega
          subst hk'
          have E1 : growE (l.take k) = growE l := by rw [← HL.out, List.take_length]
          rw [E1] at *
          clear E1
          generalize growE l = g at *
          by_cases hq : 65536 < (s.size : Int) + g
          · have E2 := Lib.hid (E.out.trans (if_pos hq))
            go_wp2_with fail
            go_ret
            exact ⟨by rw [E2.out]; rfl, hbel⟩
          · have E2 := Lib.hid (E.out.trans (if_neg hq))
            go_wp2_with fail
            go_ret
            exact ⟨by rw [E2.out]; rfl, hbel⟩
    · have E := Lib.hid (show fitsE s.size l = checkE s.size l by unfold fitsE; rw [if_neg hs, if_neg hc])
      generalize hce : checkE s.size l = c at *
      have HCE := Lib.hid hce
      have hc1 : (c == 0) = false := by simp; exact hc
      clear hce
      go_enter Try.func28, Try.ntmps28
      go_wp2_with fail
      refine (HC1.out _ HR.out).mono ?_
      rintro e w1 ⟨rfl, h01⟩
      go_wp2_with fail
      go_ret
      exact ⟨by rw [E.out]; rfl, h01⟩

end Go.Proofs.Ytdhbcmbajbgblaa
