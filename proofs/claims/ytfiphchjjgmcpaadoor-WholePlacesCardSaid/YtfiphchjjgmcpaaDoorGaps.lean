/- Gaps, of some spans. -/
import Derived.Test.YtfiphchjjgmcpaaDoorWithEnd
namespace Go.Proofs.YtfiphchjjgmcpaaDoor
open Go Go.RowKit
set_option linter.unusedVariables false

def chkTo (m : Int) (l : List (Int × Int)) : Bool := l.all fun s => chkB s.1 s.2 m
theorem chkTo_snoc (m : Int) (l : List (Int × Int)) (k : Nat) (h : k < l.length) : chkTo m (l.take (k + 1)) = (chkTo m (l.take k) && chkB l[k].1 l[k].2 m) := by
  unfold chkTo; rw [List.take_succ_eq_append_getElem h, List.all_append]; simp
theorem chkTo_take (m : Int) (l : List (Int × Int)) (k : Nat) (h : chkTo m (l.take k) = false) : chkTo m l = false := by
  unfold chkTo at *
  rw [List.all_eq_false] at *
  obtain ⟨x, hx, hp⟩ := h
  exact ⟨x, List.mem_of_mem_take hx, hp⟩

theorem gaps_range (m : Int) (v : Value) (w : World) (hm : chkB 0 0 m = false) :
    Calls Tryd.prog 9 #[.int .i64 m, v] w fun e w' => e = .returned (.tuple #[.slice none 0 0, .int .i64 1]) ∧ Below w.heap.size w w' := by
  have E := Lib.hid (show errI (chkB 0 0 m) 1 = 1 by rw [hm]; rfl)
  clear hm
  go_enter Tryd.func9, Tryd.ntmps9
  go_wp2_with fail
  refine (check_any _ _ _ _).mono ?_
  rw [E.out]
  rintro e w1 ⟨rfl, h01⟩
  go_wp2_with fail
  go_ret2
  exact ⟨rfl, h01⟩

set_option maxRecDepth 100000 in
set_option maxHeartbeats 1000000 in
theorem gaps_some (m : Int) (b off n cap : Nat) (l : List (Int × Int)) (w : World) (hl : l.length = n) (h1 : 1 ≤ n) (hn : n ≤ cap) (hcap : cap ≤ maxLen) (hb : b < w.heap.size) (hr : SpanAt w b off l) (hs : n ≤ 65536) (hm : chkB 0 0 m = true) :
    Calls Tryd.prog 9 #[.int .i64 m, .slice (some ⟨b, off, none⟩) n cap] w fun e w' => Below w.heap.size w w' ∧
      ((chkTo m l = false ∧ e = .returned (.tuple #[.slice none 0 0, .int .i64 1])) ∨ (chkTo m l = true ∧ sortedB l = false ∧ e = .returned (.tuple #[.slice none 0 0, .int .i64 7])) ∨
       (chkTo m l = true ∧ sortedB l = true ∧ ∃ v w1, e = .returned (.tuple #[v, .int .i64 0]) ∧ w.heap.size ≤ w1.heap.size ∧ GpInv w1 w' (gapTo (l ++ [(m, m)]) (n + 1)) v)) := by
  have E := Lib.hid (show errI (chkB 0 0 m) 1 = 0 by rw [hm]; rfl)
  have HR := Lib.hid hr
  have HL := Lib.hid hl
  have HC := Lib.hid hcap
  unfold maxLen at hcap
  clear hm hr hl
  go_enter Tryd.func9, Tryd.ntmps9
  go_wp2_with fail
  refine (check_any _ _ _ _).mono ?_
  rw [E.out]
  rintro e w1 ⟨rfl, h01⟩
  have HB1 := Lib.hid h01
  clear h01
  go_wp2_with fail
  go_loopw [18] (fun i wr => ∃ k : Nat, k ≤ n ∧ i = .int .i64 k ∧ chkTo m (l.take k) = true ∧ Below w.heap.size w wr) (fun i _ => n - (intOf i).toNat)
  case atStart => exact ⟨0, Nat.zero_le _, rfl, rfl, HB1.out⟩
  case round =>
    obtain ⟨k, hk, rfl, hall, hbel⟩ := hrel
    have HA := Lib.hid hall
    have HBEL := Lib.hid hbel
    clear hall
    have hsz := hbel.size
    by_cases hlt : k < n
    · have hkl : k < l.length := by rw [HL.out]; exact hlt
      obtain ⟨c0, c1⟩ := (HR.out.below hbel hb) k hkl
      have SN := Lib.hid (chkTo_snoc m l k hkl)
      have TK := Lib.hid (chkTo_take m l (k + 1))
      clear hbel
      revert c0 c1 SN
      generalize l[k] = x
      obtain ⟨x1, x2⟩ := x
      intro c0 c1 SN
      dsimp only at c0 c1 SN
      clear hkl
      cases hm : chkB x1 x2 m
      · have EC := Lib.hid (show errI (chkB x1 x2 m) 1 = 1 by rw [hm]; rfl)
        have ER := Lib.hid (TK.out (by rw [SN.out, hm, Bool.and_false]))
        clear hm
        go_wp2_with fail
        refine (check_any _ _ _ _).mono ?_
        rw [EC.out]
        rintro e w2 ⟨rfl, h12⟩
        go_wp2_with fail
        go_ret2
        exact ⟨after HBEL.out (after ((Below.refl _ _).alloc (Nat.le_refl _) _) h12), .inl ⟨ER.out, rfl⟩⟩
      · have EC := Lib.hid (show errI (chkB x1 x2 m) 1 = 0 by rw [hm]; rfl)
        have ER := Lib.hid (show chkTo m (l.take (k + 1)) = true by rw [SN.out, hm, HA.out]; rfl)
        clear hm
        go_wp2_with fail
        refine (check_any _ _ _ _).mono ?_
        rw [EC.out]
        rintro e w2 ⟨rfl, h12⟩
        have H2 := Lib.hid (after HBEL.out (after ((Below.refl _ _).alloc (Nat.le_refl _) _) h12))
        clear h12
        go_wp2_with fail
        go_roundw
        case rel => exact ⟨k + 1, by omega, by go_num, ER.out, H2.out⟩
        case measure => simp [intOf]; omega
    · have hk' : k = n := by omega
      subst hk'
      have HALL := Lib.hid (show chkTo m l = true by have := HA.out; rwa [← HL.out, List.take_length] at this)
      have HR1 := Lib.hid (HR.out.below hbel hb)
      clear hbel
      have SRT := Lib.hid (fun w hb hr => sorted_some b off k cap l w HL.out h1 hn HC.out hb hr)
      cases hsb : sortedB l
      · have EB := Lib.hid hsb
        clear hsb
        go_wp2_with fail
        refine (SRT.out wr (by omega) HR1.out).mono ?_
        rw [EB.out]
        rintro e w2 ⟨rfl, h12⟩
        go_wp2_with fail
        go_ret2
        exact ⟨after HBEL.out h12, .inr (.inl ⟨HALL.out, EB.out, rfl⟩)⟩
      · have EB := Lib.hid hsb
        clear hsb
        go_wp2_with fail
        refine (SRT.out wr (by omega) HR1.out).mono ?_
        rw [EB.out]
        rintro e w2 ⟨rfl, h12⟩
        have h02 := Lib.hid (after HBEL.out h12)
        have hr2 := Lib.hid (HR1.out.below h12 (by omega))
        have hb2 : b < w2.heap.size := by have := h12.size; omega
        clear h12
        go_wp2_with fail
        refine (withEnd_some b off k cap l m w2 HL.out hn HC.out hb2 hr2.out hs).mono ?_
        rintro e w3 ⟨rfl, h23, hsz3, hrow⟩
        have HROW := Lib.hid hrow
        clear hrow
        go_wp2_with fail
        refine (between_any w2.heap.size 0 (k + 1) (k + 1) (l ++ [(m, m)]) w3 (by simp [HL.out]) (Nat.le_refl _) (by unfold maxLen; omega) hsz3 HROW.out (by omega)).mono ?_
        rintro e w4 ⟨v, rfl, hg⟩
        have hg1 := Lib.hid hg
        clear hg
        go_wp2_with fail
        go_ret2
        exact ⟨after h02.out (after h23 hg1.out.1), .inr (.inr ⟨HALL.out, EB.out, v, w3, rfl, by have := h02.out.size; have := h23.size; omega, hg1.out⟩)⟩

end Go.Proofs.YtfiphchjjgmcpaaDoor
