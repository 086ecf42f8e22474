/- Sorted. -/
import Derived.Test.YtfiphchjjgmcpaaDoorSpanE
import Derived.Test.YtfiphchjjgmcpaaDoorSpanG
import Derived.Deep.RegionHeld3
import Derived.BigQuiet
namespace Go.Proofs.YtfiphchjjgmcpaaDoor
open Go.RowKit
set_option linter.unusedVariables false

/-- do two neighbours stand in order, each apart from the other? -/
def pairB (l : List (Int × Int)) (j : Nat) : Bool :=
  decide ((l.getD j (0, 0)).2 ≤ (l.getD (j + 1) (0, 0)).1) && apartB (l.getD j (0, 0)).1 (l.getD j (0, 0)).2 (l.getD (j + 1) (0, 0)).1 (l.getD (j + 1) (0, 0)).2
def okTo (l : List (Int × Int)) (k : Nat) : Bool := (List.range k).all (pairB l)
theorem okTo_succ (l : List (Int × Int)) (k : Nat) : okTo l (k + 1) = (okTo l k && pairB l k) := by
  unfold okTo; rw [List.range_succ, List.all_append]; simp
theorem okTo_stop {l : List (Int × Int)} {k m : Nat} (h : pairB l k = false) (hk : k < m) : okTo l m = false := by
  unfold okTo
  rw [List.all_eq_false]
  exact ⟨k, List.mem_range.2 hk, by simp [h]⟩
def sortedB (l : List (Int × Int)) : Bool := okTo l (l.length - 1) && allB l
theorem getD_get (l : List (Int × Int)) (k : Nat) (h : k < l.length) : l.getD k (0, 0) = l[k] := by
  rw [List.getD_eq_getElem?_getD, List.getElem?_eq_getElem h]; rfl

set_option maxHeartbeats 2000000 in
theorem sorted_some (b off n cap : Nat) (l : List (Int × Int)) (w : World) (hl : l.length = n) (h1 : 1 ≤ n) (hn : n ≤ cap) (hcap : cap ≤ maxLen) (hb : b < w.heap.size) (hr : SpanAt w b off l) :
    Calls Tryd.prog 22 #[.slice (some ⟨b, off, none⟩) n cap] w fun e w' => e = .returned (.bool (sortedB l)) ∧ Below w.heap.size w w' := by
  have HC := Lib.hid hcap
  unfold maxLen at hcap
  have HR := Lib.hid hr
  have HL := Lib.hid hl
  have ALLMAY := Lib.hid (fun w hb hr => allMayBe_some b off n cap l w hl hn HC.out hb hr)
  clear hr hl
  have en : (n : Int) - 1 = ((n - 1 : Nat) : Int) := by omega
  go_enter Tryd.func22, Tryd.ntmps22
  go_wp2_with fail
  go_loopw [7] (fun i wr => ∃ k : Nat, k ≤ n - 1 ∧ i = .int .i64 k ∧ okTo l k = true ∧ Below w.heap.size w wr) (fun i _ => n - 1 - (intOf i).toNat)
  case atStart => exact ⟨0, Nat.zero_le _, rfl, rfl, Below.refl _ _⟩
  case round =>
    obtain ⟨k, hk, rfl, hok, hbel⟩ := hrel
    have HOK := Lib.hid hok
    have HBEL := Lib.hid hbel
    clear hok
    by_cases hlt : k < n - 1
    · have hkl : k < l.length := by rw [HL.out]; omega
      have hkl1 : k + 1 < l.length := by rw [HL.out]; omega
      have hsz := hbel.size
      obtain ⟨c0, c1⟩ := (HR.out.below hbel hb) k hkl
      obtain ⟨c2, c3⟩ := (HR.out.below hbel hb) (k + 1) hkl1
      have HP : Hid (pairB l k = (decide (l[k].2 ≤ l[k + 1].1) && apartB l[k].1 l[k].2 l[k + 1].1 l[k + 1].2)) := Lib.hid (by unfold pairB; rw [getD_get l k hkl, getD_get l (k + 1) hkl1])
      have HS := Lib.hid (fun (h : pairB l k = false) => (show sortedB l = false by unfold sortedB; rw [okTo_stop h (by have := HL.out; omega)]; rfl))
      have HT := Lib.hid (fun (h : pairB l k = true) => (show okTo l (k + 1) = true by rw [okTo_succ, HOK.out, h]; rfl))
      clear hbel
      revert c0 c1 c2 c3 HP
      generalize l[k] = x
      generalize l[k + 1] = y
      obtain ⟨x1, x2⟩ := x
      obtain ⟨y1, y2⟩ := y
      intro c0 c1 c2 c3 HP
      dsimp only at c0 c1 c2 c3 HP
      clear hkl hkl1
      by_cases hgt : y1 < x2
      · have E := Lib.hid (HS.out (by rw [HP.out]; simp; omega))
        go_wp2_with fail
        go_quiet (fail)
        go_wp2_with fail
        go_ret
        have hb := HBEL.out
        exact ⟨by rw [E.out]; rfl, by repeat (first | exact Below.refl _ _ | refine below_drewN ?_ _ | apply Below.setCell _ (by first | omega | (simp <;> omega)) | apply Below.alloc _ (by first | omega | (simp <;> omega)) | exact hb | refine after ?_ hb)⟩
      · have ALL := Lib.hid (fun (W : World) (H : Below wr.heap.size wr W) => (⟨keep H (by omega) c0, keep H (by omega) c1, keep H (by omega) c2, keep H (by omega) c3, H⟩ : W.cell? ⟨b, off + k * 2, none⟩ = some (.int .i64 x1) ∧ W.cell? ⟨b, off + k * 2 + 1, none⟩ = some (.int .i64 x2) ∧ W.cell? ⟨b, off + (k + 1) * 2, none⟩ = some (.int .i64 y1) ∧ W.cell? ⟨b, off + (k + 1) * 2 + 1, none⟩ = some (.int .i64 y2) ∧ Below wr.heap.size wr W))
        have hle : x2 ≤ y1 := by omega
        have i0 : (0 : Int) ≤ (k : Int) := by omega
        have i1 : (k : Int) < (n : Int) := by omega
        have i2 : (k : Int) + 1 < (n : Int) := by omega
        have i3 : (0 : Int) ≤ (k : Int) + 1 := by omega
        have i4 : k < n := by omega
        have i5 : k + 1 < n := by omega
        have iw : IntKind.i64.wrap ((k : Int) + 1) = (k : Int) + 1 := IntWalk.i64_in _ ⟨by omega, by omega⟩
        have i6 : ((k : Int) + 1).toNat = k + 1 := by omega
        clear hcap
        have hdl : decide (y1 < x2) = false := decide_eq_false hgt
        cases hA : apartB x1 x2 y1 y2
        · have E := Lib.hid (HS.out (by rw [HP.out, hA]; simp))
          have EA := Lib.hid hA
          clear hA
          go_wp2_with fail
          (go_region_held3 (fun w' => w'.cell? ⟨b, off + k * 2, none⟩ = some (.int .i64 x1) ∧ w'.cell? ⟨b, off + k * 2 + 1, none⟩ = some (.int .i64 x2) ∧ w'.cell? ⟨b, off + (k + 1) * 2, none⟩ = some (.int .i64 y1) ∧ w'.cell? ⟨b, off + (k + 1) * 2 + 1, none⟩ = some (.int .i64 y2) ∧ Below wr.heap.size wr w') (first | exact ALL.out _ (Below.refl _ _).drew | exact ALL.out _ (after (by assumption) hb2)) (first | (go_at_call 32; go_split_ands; refine (apart_any _ _ _ _ _).mono ?_; rw [EA.out]; rintro e w2 ⟨rfl, hb2⟩)))
          all_goals go_split_ands
          all_goals go_wp2_with fail
          all_goals go_ret
          have hb := HBEL.out
          exact ⟨by rw [E.out]; rfl, after hb (by assumption)⟩
        · have E := Lib.hid (HT.out (by rw [HP.out, hA]; simp [hle]))
          have EA := Lib.hid hA
          clear hA
          go_wp2_with fail
          (go_region_held3 (fun w' => w'.cell? ⟨b, off + k * 2, none⟩ = some (.int .i64 x1) ∧ w'.cell? ⟨b, off + k * 2 + 1, none⟩ = some (.int .i64 x2) ∧ w'.cell? ⟨b, off + (k + 1) * 2, none⟩ = some (.int .i64 y1) ∧ w'.cell? ⟨b, off + (k + 1) * 2 + 1, none⟩ = some (.int .i64 y2) ∧ Below wr.heap.size wr w') (first | exact ALL.out _ (Below.refl _ _).drew | exact ALL.out _ (after (by assumption) hb2)) (first | (go_at_call 32; go_split_ands; refine (apart_any _ _ _ _ _).mono ?_; rw [EA.out]; rintro e w2 ⟨rfl, hb2⟩)))
          all_goals go_split_ands
          all_goals go_wp2_with fail
          go_roundw
          case rel => exact ⟨k + 1, by omega, by go_num, E.out, after HBEL.out (by assumption)⟩
          case measure => simp [intOf]; omega
    · have hk' : k = n - 1 := by omega
      subst hk'
      have hsz := hbel.size
      have hr1 := Lib.hid (HR.out.below hbel hb)
      have E := Lib.hid (show sortedB l = allB l by
        unfold sortedB
        have e : l.length - 1 = n - 1 := by have := HL.out; omega
        rw [e, HOK.out]; rfl)
      go_wp2_with fail
      refine (ALLMAY.out wr (by omega) hr1.out).mono ?_
      rw [← E.out]
      rintro e w2 ⟨rfl, h12⟩
      go_wp2_with fail
      go_ret
      exact ⟨rfl, after HBEL.out h12⟩

theorem allMayBe_empty (a : Addr) (cap : Nat) (w : World) :
    Calls Tryd.prog 16 #[.slice (some a) 0 cap] w fun e w' => e = .returned (.bool true) ∧ Below w.heap.size w w' := by
  go_enter Tryd.func16, Tryd.ntmps16
  go_wp2
  go_loopw [7] (fun i wr => i = .int .i64 0 ∧ Below w.heap.size w wr) (fun _ _ => 0)
  case atStart => exact ⟨rfl, Below.refl _ _⟩
  case round =>
    obtain ⟨rfl, hbel⟩ := hrel
    go_wp2
    go_ret
    exact ⟨rfl, hbel⟩

theorem sorted_none (w : World) :
    Calls Tryd.prog 22 #[.slice none 0 0] w fun e w' => e = .returned (.bool true) ∧ Below w.heap.size w w' := by
  go_enter Tryd.func22, Tryd.ntmps22
  go_wp2_with fail
  go_loopw [7] (fun i wr => i = .int .i64 0 ∧ w = wr) (fun _ _ => 0)
  case atStart => exact ⟨rfl, rfl⟩
  case round =>
    obtain ⟨rfl, rfl⟩ := hrel
    go_wp2_with fail
    refine (allMayBe_none _).mono ?_
    rintro e w1 ⟨rfl, h01⟩
    go_wp2_with fail
    go_ret
    exact ⟨rfl, h01⟩

theorem sorted_empty (a : Addr) (cap : Nat) (w : World) :
    Calls Tryd.prog 22 #[.slice (some a) 0 cap] w fun e w' => e = .returned (.bool true) ∧ Below w.heap.size w w' := by
  go_enter Tryd.func22, Tryd.ntmps22
  go_wp2_with fail
  go_loopw [7] (fun i wr => i = .int .i64 0 ∧ w = wr) (fun _ _ => 0)
  case atStart => exact ⟨rfl, rfl⟩
  case round =>
    obtain ⟨rfl, rfl⟩ := hrel
    go_wp2_with fail
    refine (allMayBe_empty a cap _).mono ?_
    rintro e w1 ⟨rfl, h01⟩
    go_wp2_with fail
    go_ret
    exact ⟨rfl, h01⟩

end Go.Proofs.YtfiphchjjgmcpaaDoor
