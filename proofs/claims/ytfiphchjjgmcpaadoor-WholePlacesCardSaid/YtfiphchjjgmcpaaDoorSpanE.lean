/- Contracts of allMayBe and Sum: they go through a list of spans. -/
import Derived.Test.YtfiphchjjgmcpaaDoorSpanB
import Derived.LoopTactic
namespace Go.Proofs.YtfiphchjjgmcpaaDoor
open Go.RowKit
set_option linter.unusedVariables false

/-- a list of spans lies in memory from a place on, two cells each -/
def SpanAt (w : World) (b off : Nat) (l : List (Int × Int)) : Prop :=
  ∀ i (h : i < l.length), w.cell? ⟨b, off + i * 2, none⟩ = some (.int .i64 l[i].1) ∧ w.cell? ⟨b, off + i * 2 + 1, none⟩ = some (.int .i64 l[i].2)
theorem SpanAt.below {w w' : World} {B b off : Nat} {l : List (Int × Int)} (h : SpanAt w b off l) (hb : Below B w w') (hB : b < B) : SpanAt w' b off l := fun i hi =>
  ⟨(hb.cell (p := ⟨b, off + i * 2, none⟩) hB).trans (h i hi).1, (hb.cell (p := ⟨b, off + i * 2 + 1, none⟩) hB).trans (h i hi).2⟩

/-- may each of some spans be? -/
def allB (l : List (Int × Int)) : Bool := l.all fun s => mayB s.1 s.2
theorem allB_nil : allB [] = true := rfl
theorem allB_snoc (l : List (Int × Int)) (k : Nat) (h : k < l.length) : allB (l.take (k + 1)) = (allB (l.take k) && mayB l[k].1 l[k].2) := by
  unfold allB; rw [List.take_succ_eq_append_getElem h, List.all_append]; simp
theorem allB_take (l : List (Int × Int)) (k : Nat) (h : allB (l.take k) = false) : allB l = false := by
  unfold allB at *
  rw [List.all_eq_false] at *
  obtain ⟨x, hx, hp⟩ := h
  exact ⟨x, List.mem_of_mem_take hx, hp⟩

set_option maxHeartbeats 400000 in
theorem allMayBe_some (b off n cap : Nat) (l : List (Int × Int)) (w : World) (hl : l.length = n) (hn : n ≤ cap) (hcap : cap ≤ maxLen) (hb : b < w.heap.size) (hr : SpanAt w b off l) :
    Calls Tryd.prog 16 #[.slice (some ⟨b, off, none⟩) n cap] w fun e w' => e = .returned (.bool (allB l)) ∧ Below w.heap.size w w' := by
  unfold maxLen at hcap
  have HR := Lib.hid hr
  have HL := Lib.hid hl
  clear hr hl
  go_enter Tryd.func16, Tryd.ntmps16
  go_wp2
  go_loopw [7] (fun i wr => ∃ k : Nat, k ≤ n ∧ i = .int .i64 k ∧ allB (l.take k) = true ∧ Below w.heap.size w wr) (fun i _ => n - (intOf i).toNat)
  case atStart => exact ⟨0, Nat.zero_le _, rfl, rfl, Below.refl _ _⟩
  case round =>
    obtain ⟨k, hk, rfl, hall, hbel⟩ := hrel
    have HA := Lib.hid hall
    clear hall
    by_cases hlt : k < n
    · have hkl : k < l.length := by rw [HL.out]; exact hlt
      have hsz := hbel.size
      obtain ⟨c0, c1⟩ := (HR.out.below hbel hb) k hkl
      cases hm : mayB l[k].1 l[k].2
      · have E := Lib.hid (allB_take l (k + 1) (by rw [allB_snoc l k hkl, hm, Bool.and_false]))
        go_wp2_with (go_at_call 30; refine (mayBe_any _ _ _).mono ?_; rintro e w' ⟨rfl, rfl⟩)
        go_ret
        exact ⟨by rw [E.out]; rfl, by repeat (first | exact Below.refl _ _ | apply Below.setCell _ (by first | omega | (simp <;> omega)) | apply Below.alloc _ (by first | omega | (simp <;> omega)) | exact hbel | refine after ?_ hbel)⟩
      · have E := Lib.hid (show allB (l.take (k + 1)) = true by rw [allB_snoc l k hkl, hm, HA.out]; rfl)
        go_wp2_with (go_at_call 30; refine (mayBe_any _ _ _).mono ?_; rintro e w' ⟨rfl, rfl⟩)
        go_roundw
        case rel => exact ⟨k + 1, by omega, by go_num, E.out, by repeat (first | exact Below.refl _ _ | apply Below.setCell _ (by first | omega | (simp <;> omega)) | apply Below.alloc _ (by first | omega | (simp <;> omega)) | exact hbel | refine after ?_ hbel)⟩
        case measure => simp [intOf]; omega
    · go_wp2_with (go_at_call 30; refine (mayBe_any _ _ _).mono ?_; rintro e w' ⟨rfl, rfl⟩)
      go_ret
      have hk' : k = l.length := by have := HL.out; omega
      exact ⟨by have := HA.out; rw [hk', List.take_length] at this; rw [this]; rfl, hbel⟩

set_option maxHeartbeats 400000 in
theorem allMayBe_none (w : World) :
    Calls Tryd.prog 16 #[.slice none 0 0] w fun e w' => e = .returned (.bool true) ∧ Below w.heap.size w w' := by
  go_enter Tryd.func16, Tryd.ntmps16
  go_wp2
  go_loopw [7] (fun i wr => i = .int .i64 0 ∧ Below w.heap.size w wr) (fun _ _ => 0)
  case atStart => exact ⟨rfl, Below.refl _ _⟩
  case round =>
    obtain ⟨rfl, hbel⟩ := hrel
    go_wp2
    go_ret
    exact ⟨rfl, hbel⟩

/-- how many bytes some spans have together -/
def sumI (l : List (Int × Int)) : Int := (l.map fun s => lenI s.1 s.2).sum
theorem sumI_snoc (l : List (Int × Int)) (k : Nat) (h : k < l.length) : sumI (l.take (k + 1)) = sumI (l.take k) + lenI l[k].1 l[k].2 := by
  unfold sumI; rw [List.take_succ_eq_append_getElem h, List.map_append, List.sum_append]; simp
theorem lenI_bd (f t : Int) : 0 ≤ lenI f t ∧ lenI f t ≤ 65536 := by
  cases h : mayB f t
  · rw [lenI_no h]; omega
  · rw [lenI_yes h]; have := mayB_iff.1 h; omega
theorem sumI_bd (l : List (Int × Int)) : 0 ≤ sumI l ∧ sumI l ≤ 65536 * (l.length : Int) := by
  induction l with
  | nil => simp [sumI]
  | cons x l ih =>
    have e : sumI (x :: l) = lenI x.1 x.2 + sumI l := by simp [sumI]
    have := lenI_bd x.1 x.2
    rw [e]; simp only [List.length_cons]; omega

set_option maxHeartbeats 400000 in
theorem sum_some (b off n cap : Nat) (l : List (Int × Int)) (w : World) (hl : l.length = n) (hn : n ≤ cap) (hcap : cap ≤ maxLen) (hb : b < w.heap.size) (hr : SpanAt w b off l) (hs : n ≤ 1000000) :
    Calls Tryd.prog 10 #[.slice (some ⟨b, off, none⟩) n cap] w fun e w' => e = .returned (.int .i64 (sumI l)) ∧ Below w.heap.size w w' := by
  unfold maxLen at hcap
  have HR := Lib.hid hr
  have HL := Lib.hid hl
  clear hr hl
  go_enter Tryd.func10, Tryd.ntmps10
  go_wp2
  go_loopw [3, 8] (fun t i wr => ∃ k : Nat, k ≤ n ∧ i = .int .i64 k ∧ t = .int .i64 (sumI (l.take k)) ∧ Below w.heap.size w wr) (fun _ i _ => n - (intOf i).toNat)
  case atStart => exact ⟨0, Nat.zero_le _, rfl, rfl, Below.refl _ _⟩
  case round =>
    obtain ⟨k, hk, rfl, rfl, hbel⟩ := hrel
    by_cases hlt : k < n
    · have hkl : k < l.length := by rw [HL.out]; exact hlt
      have hsz := hbel.size
      obtain ⟨c0, c1⟩ := (HR.out.below hbel hb) k hkl
      have b1 := lenI_bd l[k].1 l[k].2
      have b2 := sumI_bd (l.take k)
      have b3 : ((l.take k).length : Int) ≤ k := by have := List.length_take_le k l; omega
      have b4 : sumI (l.take k) ≤ 65536 * (k : Int) := by omega
      have b5 := b2.1
      have b6 := b1.1
      have b7 := b1.2
      have E := Lib.hid (sumI_snoc l k hkl)
      clear b1 b2 b3
      go_wp2_with (go_at_call 15; refine (len_any _ _ _).mono ?_; rintro e w1 ⟨rfl, hb1⟩; obtain ⟨hc, hf⟩ := bcell hb1)
      go_roundw
      case rel => exact ⟨k + 1, by omega, by go_num, by rw [E.out], by repeat (first | exact Below.refl _ _ | apply Below.setCell _ (by first | omega | (simp <;> omega)) | apply Below.alloc _ (by first | omega | (simp <;> omega)) | exact hb1 | refine after ?_ hb1 | exact hbel | refine after ?_ hbel)⟩
      case measure => simp [intOf]; omega
    · go_wp2
      go_ret
      have hk' : k = l.length := by have := HL.out; omega
      exact ⟨by rw [hk', List.take_length]; rfl, hbel⟩

set_option maxHeartbeats 400000 in
theorem sum_none (w : World) :
    Calls Tryd.prog 10 #[.slice none 0 0] w fun e w' => e = .returned (.int .i64 0) ∧ Below w.heap.size w w' := by
  go_enter Tryd.func10, Tryd.ntmps10
  go_wp2
  go_loopw [3, 8] (fun t i wr => i = .int .i64 0 ∧ t = .int .i64 0 ∧ Below w.heap.size w wr) (fun _ _ _ => 0)
  case atStart => exact ⟨rfl, rfl, Below.refl _ _⟩
  case round =>
    obtain ⟨rfl, rfl, hbel⟩ := hrel
    go_wp2
    go_ret
    exact ⟨rfl, hbel⟩

end Go.Proofs.YtfiphchjjgmcpaaDoor
