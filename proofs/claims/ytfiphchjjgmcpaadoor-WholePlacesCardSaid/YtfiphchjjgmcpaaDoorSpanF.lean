/- Contracts of Cover. -/
import Derived.Test.YtfiphchjjgmcpaaDoorSpanC
import Derived.Test.YtfiphchjjgmcpaaDoorSpanE
namespace Go.Proofs.YtfiphchjjgmcpaaDoor
open Go.RowKit
set_option linter.unusedVariables false

/-- where the span over some begins and ends -/
def covF (s : Int) (t : List (Int × Int)) : Int := t.foldl (fun m x => minI m x.1) s
def covT (s : Int) (t : List (Int × Int)) : Int := t.foldl (fun m x => maxI m x.2) s
theorem covF_snoc (s : Int) (l : List (Int × Int)) (k : Nat) (h : k < l.length) : covF s (l.take (k + 1)) = minI (covF s (l.take k)) l[k].1 := by
  unfold covF; rw [List.take_succ_eq_append_getElem h, List.foldl_append]; rfl
theorem covT_snoc (s : Int) (l : List (Int × Int)) (k : Nat) (h : k < l.length) : covT s (l.take (k + 1)) = maxI (covT s (l.take k)) l[k].2 := by
  unfold covT; rw [List.take_succ_eq_append_getElem h, List.foldl_append]; rfl

/-- what stands in memory while Cover goes through its list: the span so far, and the result's place -/
def CovInv (w w1 wr : World) (x y : Int) : Prop :=
  Below w.heap.size w wr ∧ w1.heap.size < wr.heap.size ∧ wr.cell? ⟨w1.heap.size, 0, none⟩ = some (.int .i64 x) ∧ wr.cell? ⟨w1.heap.size, 1, none⟩ = some (.int .i64 y) ∧
  wr.cell? ⟨w.heap.size, 0, none⟩ = some (.int .i64 0) ∧ wr.cell? ⟨w.heap.size, 1, none⟩ = some (.int .i64 0) ∧
  wr.frozen? ⟨w1.heap.size, 0, none⟩ = false ∧ wr.frozen? ⟨w1.heap.size, 1, none⟩ = false ∧ wr.frozen? ⟨w.heap.size, 0, none⟩ = false ∧ wr.frozen? ⟨w.heap.size, 1, none⟩ = false

theorem CovInv.step {w w1 wr : World} {x y : Int} (h : CovInv w w1 wr x y) (hlt : w.heap.size < w1.heap.size) (x' y' : Int) (c : Array Value) (T : TypeId) :
    CovInv w w1 (((wr.setCell ⟨w1.heap.size, 0, none⟩ (.int .i64 x')).setCell ⟨w1.heap.size, 1, none⟩ (.int .i64 y')).alloc (.cells c T)) x' y' := by
  obtain ⟨hbel, hsz, d0, d1, d2, d3, g0, g1, g2, g3⟩ := h
  have hsz2 : w.heap.size < wr.heap.size := by omega
  refine ⟨?_, ?_, ?_, ?_, ?_, ?_, ?_, ?_, ?_, ?_⟩
  · repeat (first | exact Below.refl _ _ | apply Below.setCell _ (by first | omega | (simp <;> omega)) | apply Below.alloc _ (by first | omega | (simp <;> omega)) | exact hbel | refine after ?_ hbel)
  · simp [go_sem]; omega
  all_goals simp [go_sem, hsz, hsz2, d0, d1, d2, d3, g0, g1, g2, g3]
theorem CovInv.start {w w1 : World} (hbel : Below w.heap.size w w1) (hlt : w.heap.size < w1.heap.size) (c2 : w1.cell? ⟨w.heap.size, 0, none⟩ = some (.int .i64 0)) (c3 : w1.cell? ⟨w.heap.size, 1, none⟩ = some (.int .i64 0))
    (f2 : w1.frozen? ⟨w.heap.size, 0, none⟩ = false) (f3 : w1.frozen? ⟨w.heap.size, 1, none⟩ = false) (x y : Int) (T : TypeId) : CovInv w w1 (w1.alloc (.cells #[.int .i64 x, .int .i64 y] T)) x y := by
  refine ⟨?_, ?_, ?_, ?_, ?_, ?_, ?_, ?_, ?_, ?_⟩
  · repeat (first | exact Below.refl _ _ | apply Below.setCell _ (by first | omega | (simp <;> omega)) | apply Below.alloc _ (by first | omega | (simp <;> omega)) | exact hbel | refine after ?_ hbel)
  · simp [go_sem]
  all_goals simp [go_sem, hlt, c2, c3, f2, f3]

set_option maxHeartbeats 1000000 in
theorem cover_some (b off n cap : Nat) (s0 s1 : Int) (t : List (Int × Int)) (w : World) (hl : t.length + 1 = n) (hn : n ≤ cap) (hcap : cap ≤ maxLen) (hb : b < w.heap.size) (hr : SpanAt w b off ((s0, s1) :: t)) (hall : allB ((s0, s1) :: t) = true) :
    Calls Tryd.prog 4 #[.slice (some ⟨b, off, none⟩) n cap] w fun e w' => e = .returned (.tuple #[.agg #[.int .i64 (covF s0 t), .int .i64 (covT s1 t)], .bool true]) ∧ Below w.heap.size w w' := by
  have hcap0 := hcap
  unfold maxLen at hcap
  have HR := Lib.hid hr
  have HL := Lib.hid hl
  have HA := Lib.hid hall
  have c0 := (hr 0 (by simp)).1
  have c1 := (hr 0 (by simp)).2
  simp only [List.getElem_cons_zero, Nat.zero_mul, Nat.add_zero] at c0 c1
  have hn1 : 1 ≤ n := by omega
  have hn2 : ((n : Int) == 0) = false := by simp; omega
  clear hr hl hall
  by_cases h1 : n = 1
  · have ht : t = [] := by cases t with
      | nil => rfl
      | cons a b => simp at HL; have := HL.out; omega
    have E0 := Lib.hid (show covF s0 t = s0 by rw [ht]; rfl)
    have E1 := Lib.hid (show covT s1 t = s1 by rw [ht]; rfl)
    clear ht
    subst h1
    by_cases h2 : cap = 1
    · subst h2
      go_enter Tryd.func4, Tryd.ntmps4
      go_wp2_with fail
      refine (allMayBe_some b off 1 1 ((s0, s1) :: t) _ HL.out hn hcap0 ?_ ?_).mono ?_
      · simp; omega
      · exact HR.out.below (B := w.heap.size) (by repeat (first | exact Below.refl _ _ | apply Below.setCell _ (by first | omega | (simp <;> omega)) | apply Below.alloc _ (by first | omega | (simp <;> omega)))) hb
      rw [HA.out]
      rintro e w1 ⟨rfl, hb1⟩
      have hz := hb1.size
      have hbw : Below w.heap.size w w1 := by repeat (first | exact Below.refl _ _ | apply Below.setCell _ (by first | omega | (simp <;> omega)) | apply Below.alloc _ (by first | omega | (simp <;> omega)) | exact hb1 | refine after ?_ hb1)
      obtain ⟨hc, hf⟩ := bcell hb1
      go_wp2
      have c2 : w1.cell? ⟨w.heap.size, 0, none⟩ = some (.int .i64 0) := by rw [hc _ _ (by simp)]; simp [go_sem]
      have c3 : w1.cell? ⟨w.heap.size, 1, none⟩ = some (.int .i64 0) := by rw [hc _ _ (by simp)]; simp [go_sem]
      have f2 : w1.frozen? ⟨w.heap.size, 0, none⟩ = false := by rw [hf _ _ (by simp)]; simp [go_sem]
      have f3 : w1.frozen? ⟨w.heap.size, 1, none⟩ = false := by rw [hf _ _ (by simp)]; simp [go_sem]
      have hz1 : w.heap.size < w1.heap.size := by simp at hz; omega
      clear hc hf hz hb1
      go_loopw [22] (fun i wr => i = .int .i64 0 ∧ CovInv w w1 wr s0 s1) (fun i _ => 0)
      case atStart => exact ⟨rfl, CovInv.start hbw hz1 c2 c3 f2 f3 _ _ _⟩
      case round =>
        obtain ⟨rfl, hinv⟩ := hrel
        obtain ⟨hbel, hsz, d0, d1, d2, d3, g0, g1, g2, g3⟩ := hinv
        go_wp2
        refine bodyPost_ret (v := .tuple #[.agg #[.int .i64 s0, .int .i64 s1], .bool true]) (by simp [results, Tryd.results4, go_sem, d2, d3]) rfl ?_
        exact ⟨by rw [E0.out, E1.out], by repeat (first | exact Below.refl _ _ | apply Below.setCell _ (by first | omega | (simp <;> omega)) | apply Below.alloc _ (by first | omega | (simp <;> omega)) | exact hbel | refine after ?_ hbel)⟩
    · have h2' : 1 < cap := by omega
      clear h2
      go_enter Tryd.func4, Tryd.ntmps4
      go_wp2_with fail
      refine (allMayBe_some b off 1 cap ((s0, s1) :: t) _ HL.out hn hcap0 ?_ ?_).mono ?_
      · simp; omega
      · exact HR.out.below (B := w.heap.size) (by repeat (first | exact Below.refl _ _ | apply Below.setCell _ (by first | omega | (simp <;> omega)) | apply Below.alloc _ (by first | omega | (simp <;> omega)))) hb
      rw [HA.out]
      rintro e w1 ⟨rfl, hb1⟩
      have hz := hb1.size
      have hbw : Below w.heap.size w w1 := by repeat (first | exact Below.refl _ _ | apply Below.setCell _ (by first | omega | (simp <;> omega)) | apply Below.alloc _ (by first | omega | (simp <;> omega)) | exact hb1 | refine after ?_ hb1)
      obtain ⟨hc, hf⟩ := bcell hb1
      go_wp2
      have c2 : w1.cell? ⟨w.heap.size, 0, none⟩ = some (.int .i64 0) := by rw [hc _ _ (by simp)]; simp [go_sem]
      have c3 : w1.cell? ⟨w.heap.size, 1, none⟩ = some (.int .i64 0) := by rw [hc _ _ (by simp)]; simp [go_sem]
      have f2 : w1.frozen? ⟨w.heap.size, 0, none⟩ = false := by rw [hf _ _ (by simp)]; simp [go_sem]
      have f3 : w1.frozen? ⟨w.heap.size, 1, none⟩ = false := by rw [hf _ _ (by simp)]; simp [go_sem]
      have hz1 : w.heap.size < w1.heap.size := by simp at hz; omega
      clear hc hf hz hb1
      go_loopw [22] (fun i wr => i = .int .i64 0 ∧ CovInv w w1 wr s0 s1) (fun i _ => 0)
      case atStart => exact ⟨rfl, CovInv.start hbw hz1 c2 c3 f2 f3 _ _ _⟩
      case round =>
        obtain ⟨rfl, hinv⟩ := hrel
        obtain ⟨hbel, hsz, d0, d1, d2, d3, g0, g1, g2, g3⟩ := hinv
        go_wp2
        refine bodyPost_ret (v := .tuple #[.agg #[.int .i64 s0, .int .i64 s1], .bool true]) (by simp [results, Tryd.results4, go_sem, d2, d3]) rfl ?_
        exact ⟨by rw [E0.out, E1.out], by repeat (first | exact Below.refl _ _ | apply Below.setCell _ (by first | omega | (simp <;> omega)) | apply Below.alloc _ (by first | omega | (simp <;> omega)) | exact hbel | refine after ?_ hbel)⟩
  · have h1' : 1 < n := by omega
    have h1c : 1 < cap := by omega
    clear h1
    go_enter Tryd.func4, Tryd.ntmps4
    go_wp2_with fail
    refine (allMayBe_some b off n cap ((s0, s1) :: t) _ HL.out hn hcap0 ?_ ?_).mono ?_
    · simp; omega
    · exact HR.out.below (B := w.heap.size) (by repeat (first | exact Below.refl _ _ | apply Below.setCell _ (by first | omega | (simp <;> omega)) | apply Below.alloc _ (by first | omega | (simp <;> omega)))) hb
    rw [HA.out]
    rintro e w1 ⟨rfl, hb1⟩
    have hz := hb1.size
    have hbw : Below w.heap.size w w1 := by repeat (first | exact Below.refl _ _ | apply Below.setCell _ (by first | omega | (simp <;> omega)) | apply Below.alloc _ (by first | omega | (simp <;> omega)) | exact hb1 | refine after ?_ hb1)
    obtain ⟨hc, hf⟩ := bcell hb1
    go_wp2
    have c2 : w1.cell? ⟨w.heap.size, 0, none⟩ = some (.int .i64 0) := by rw [hc _ _ (by simp)]; simp [go_sem]
    have c3 : w1.cell? ⟨w.heap.size, 1, none⟩ = some (.int .i64 0) := by rw [hc _ _ (by simp)]; simp [go_sem]
    have f2 : w1.frozen? ⟨w.heap.size, 0, none⟩ = false := by rw [hf _ _ (by simp)]; simp [go_sem]
    have f3 : w1.frozen? ⟨w.heap.size, 1, none⟩ = false := by rw [hf _ _ (by simp)]; simp [go_sem]
    have hz1 : w.heap.size < w1.heap.size := by simp at hz; omega
    clear hc hf hz hb1
    go_loopw [22] (fun i wr => ∃ k : Nat, k ≤ n - 1 ∧ i = .int .i64 k ∧ CovInv w w1 wr (covF s0 (t.take k)) (covT s1 (t.take k))) (fun i _ => n - (intOf i).toNat)
    case atStart => exact ⟨0, Nat.zero_le _, rfl, CovInv.start hbw hz1 c2 c3 f2 f3 _ _ _⟩
    case round =>
      obtain ⟨k, hk, rfl, hinv⟩ := hrel
      have HI := Lib.hid hinv
      obtain ⟨hbel, hsz, d0, d1, d2, d3, g0, g1, g2, g3⟩ := hinv
      by_cases hlt : k < n - 1
      · have hkl : k < t.length := by have := HL.out; omega
        have hkl' : k + 1 < ((s0, s1) :: t).length := by simp; omega
        obtain ⟨x0, x1⟩ := (HR.out.below hbel hb) (k + 1) hkl'
        simp only [List.getElem_cons_succ, show off + (k + 1) * 2 = off + 2 + k * 2 by omega] at x0 x1
        have E0 := Lib.hid (covF_snoc s0 t k hkl)
        have E1 := Lib.hid (covT_snoc s1 t k hkl)
        clear g2 g3
        rcases minI_ways (covF s0 (t.take k)) t[k].1 with ⟨h1, e1⟩ | ⟨h1, e1⟩ <;> rcases maxI_ways (covT s1 (t.take k)) t[k].2 with ⟨h2, e2⟩ | ⟨h2, e2⟩
        all_goals
          have E2 := Lib.hid (E0.out.trans e1)
          have E3 := Lib.hid (E1.out.trans e2)
          clear e1 e2 E0 E1
          go_wp2
          go_roundw
          case rel => exact ⟨k + 1, by omega, by go_num, by rw [E2.out, E3.out]; exact HI.out.step hz1 _ _ _ _⟩
          case measure => simp [intOf]; omega
      · have hkl : k = t.length := by have := HL.out; omega
        have E0 := Lib.hid (show covF s0 (t.take k) = covF s0 t by rw [hkl, List.take_length])
        have E1 := Lib.hid (show covT s1 (t.take k) = covT s1 t by rw [hkl, List.take_length])
        clear hkl
        go_wp2
        refine bodyPost_ret (v := .tuple #[.agg #[.int .i64 (covF s0 (t.take k)), .int .i64 (covT s1 (t.take k))], .bool true]) (by simp [results, Tryd.results4, go_sem, d2, d3]) rfl ?_
        exact ⟨by rw [E0.out, E1.out], by repeat (first | exact Below.refl _ _ | apply Below.setCell _ (by first | omega | (simp <;> omega)) | apply Below.alloc _ (by first | omega | (simp <;> omega)) | exact hbel | refine after ?_ hbel)⟩

set_option maxHeartbeats 400000 in
theorem cover_no (b off n cap : Nat) (l : List (Int × Int)) (w : World) (hl : l.length = n) (hn : n ≤ cap) (hcap : cap ≤ maxLen) (hb : b < w.heap.size) (hr : SpanAt w b off l) (hall : allB l = false) :
    Calls Tryd.prog 4 #[.slice (some ⟨b, off, none⟩) n cap] w fun e w' => e = .returned (.tuple #[.agg #[.int .i64 0, .int .i64 0], .bool false]) ∧ Below w.heap.size w w' := by
  have hcap0 := hcap
  unfold maxLen at hcap
  have HR := Lib.hid hr
  have HL := Lib.hid hl
  have HA := Lib.hid hall
  have hn1 : 1 ≤ n := by
    cases l with
    | nil => simp [allB] at hall
    | cons x y => simp at hl; omega
  have hn2 : ((n : Int) == 0) = false := by simp; omega
  clear hr hl hall
  go_enter Tryd.func4, Tryd.ntmps4
  go_wp2_with fail
  refine (allMayBe_some b off n cap l _ HL.out hn hcap0 ?_ ?_).mono ?_
  · simp; omega
  · exact HR.out.below (B := w.heap.size) (by repeat (first | exact Below.refl _ _ | apply Below.setCell _ (by first | omega | (simp <;> omega)) | apply Below.alloc _ (by first | omega | (simp <;> omega)))) hb
  rw [HA.out]
  rintro e w1 ⟨rfl, hb1⟩
  have hz := hb1.size
  have hbw : Below w.heap.size w w1 := by repeat (first | exact Below.refl _ _ | apply Below.setCell _ (by first | omega | (simp <;> omega)) | apply Below.alloc _ (by first | omega | (simp <;> omega)) | exact hb1 | refine after ?_ hb1)
  obtain ⟨hc, hf⟩ := bcell hb1
  go_wp2
  refine bodyPost_ret (v := .tuple #[.agg #[.int .i64 0, .int .i64 0], .bool false]) (by simp [results, Tryd.results4, go_sem, hc]) rfl ?_
  exact ⟨rfl, by repeat (first | exact Below.refl _ _ | apply Below.setCell _ (by first | omega | (simp <;> omega)) | apply Below.alloc _ (by first | omega | (simp <;> omega)) | exact hbw | refine after ?_ hbw)⟩

set_option maxHeartbeats 400000 in
theorem cover_none (w : World) :
    Calls Tryd.prog 4 #[.slice none 0 0] w fun e w' => e = .returned (.tuple #[.agg #[.int .i64 0, .int .i64 0], .bool false]) ∧ Below w.heap.size w w' := by
  go_enter Tryd.func4, Tryd.ntmps4
  go_wp2
  refine bodyPost_ret (v := .tuple #[.agg #[.int .i64 0, .int .i64 0], .bool false]) (by simp [results, Tryd.results4, go_sem, go_sem]) rfl ?_
  exact ⟨rfl, by repeat (first | exact Below.refl _ _ | apply Below.setCell _ (by first | omega | (simp <;> omega)) | apply Below.alloc _ (by first | omega | (simp <;> omega)))⟩

set_option maxHeartbeats 400000 in
theorem cover_empty (a : Addr) (cap : Nat) (w : World) :
    Calls Tryd.prog 4 #[.slice (some a) 0 cap] w fun e w' => e = .returned (.tuple #[.agg #[.int .i64 0, .int .i64 0], .bool false]) ∧ Below w.heap.size w w' := by
  go_enter Tryd.func4, Tryd.ntmps4
  go_wp2
  refine bodyPost_ret (v := .tuple #[.agg #[.int .i64 0, .int .i64 0], .bool false]) (by simp [results, Tryd.results4, go_sem, go_sem]) rfl ?_
  exact ⟨rfl, by repeat (first | exact Below.refl _ _ | apply Below.setCell _ (by first | omega | (simp <;> omega)) | apply Below.alloc _ (by first | omega | (simp <;> omega)))⟩

end Go.Proofs.YtfiphchjjgmcpaaDoor
