/- Contracts of a heap's functions that look: room, at, cell, Load, Class, Elem, Len, Objects, Cells. -/
import Derived.Test.YtfkcjnlhindhfaaHpB
namespace Go.Proofs.Ytfkcjnlhindhfaa
open Go Go.RowKit
set_option linter.unusedVariables false
set_option linter.unusedSimpArgs false

theorem HpM.shape {w : World} {B b n : Nat} {L : List ThR} {v : Value} (h : HpM w B b L n v) : ∃ g c, v = .slice g L.length c := own_any_shape h.own
theorem HpM.two {w : World} {B b n : Nat} {L : List ThR} {v : Value} (h : HpM w B b L n v) : w.cell? ⟨b, 0, none⟩ = some v ∧ w.cell? ⟨b, 1, none⟩ = some (.int .i64 n) ∧ b < w.heap.size ∧ ∀ j, w.frozen? ⟨b, j, none⟩ = false := h.box.two
/-- a thing's cells -/
theorem HpM.thing {w : World} {B b n : Nat} {L : List ThR} {v : Value} (h : HpM w B b L n v) (i : Nat) (hi : i < L.length) : ∃ g c, v = .slice (some ⟨g, 0, none⟩) L.length c ∧ g < w.heap.size ∧
    w.cell? ⟨g, i * 7, none⟩ = some (.bool L[i].1.arr) ∧ w.cell? ⟨g, i * 7 + 1, none⟩ = some (.string L[i].1.cls) ∧ w.cell? ⟨g, i * 7 + 2, none⟩ = some (.int .i64 L[i].1.ty.1) ∧ w.cell? ⟨g, i * 7 + 3, none⟩ = some (.string L[i].1.ty.2.1) ∧
    w.cell? ⟨g, i * 7 + 4, none⟩ = some (.int .i64 L[i].1.ty.2.2.1) ∧ w.cell? ⟨g, i * 7 + 5, none⟩ = some (.string L[i].1.ty.2.2.2) ∧ w.cell? ⟨g, i * 7 + 6, none⟩ = some (.slice (some ⟨L[i].2, 0, none⟩) L[i].1.vs.length L[i].1.vs.length) := by
  rcases h.own.2 with ⟨_, h0⟩ | ⟨g, cap, cur, hv, _, hg, _⟩
  · omega
  · have k : ∀ j, j < 7 → w.cell? ⟨g, i * 7 + j, none⟩ = (thC L[i])[j]? := fun j hj => by
      have e := fm_at thC 7 (fun _ => rfl) L i hi j hj
      have hl : j < (thC L[i]).length := hj
      rw [List.getElem?_eq_getElem hl] at e ⊢
      have := h.own.cells (g := g) (by rw [hv]; rfl) (i * 7 + j) _ e
      rwa [add_at, Nat.zero_add] at this
    exact ⟨g, cap, hv, lt_block hg, k 0 (by omega), k 1 (by omega), k 2 (by omega), k 3 (by omega), k 4 (by omega), k 5 (by omega), k 6 (by omega)⟩

set_option maxHeartbeats 1000000 in
theorem objects_any (b bB n : Nat) (L : List ThR) (v : Value) (w : World) (h : HpM w bB b L n v) :
    Calls Try.prog 12 #[.pointer (some ⟨b, 0, none⟩)] w fun e w' => e = .returned (.int .i64 (L.length : Nat)) ∧ Below w.heap.size w w' := by
  obtain ⟨g, c, rfl⟩ := h.shape
  obtain ⟨c0, c1, cl, cf⟩ := h.two
  clear h
  go_enter Try.func12, Try.ntmps12
  go_wp2_with fail
  go_ret
  exact ⟨rfl, by repeat (first | exact Below.refl _ _ | apply Below.setCell _ (by first | omega | (simp <;> omega)) | apply Below.alloc _ (by first | omega | (simp <;> omega)))⟩
theorem cells_any (b bB n : Nat) (L : List ThR) (v : Value) (w : World) (h : HpM w bB b L n v) :
    Calls Try.prog 13 #[.pointer (some ⟨b, 0, none⟩)] w fun e w' => e = .returned (.int .i64 (n : Nat)) ∧ Below w.heap.size w w' := by
  obtain ⟨c0, c1, cl, cf⟩ := h.two
  clear h
  go_enter Try.func13, Try.ntmps13
  go_wp2_with fail
  go_ret
  exact ⟨rfl, by repeat (first | exact Below.refl _ _ | apply Below.setCell _ (by first | omega | (simp <;> omega)) | apply Below.alloc _ (by first | omega | (simp <;> omega)))⟩
set_option maxHeartbeats 1000000 in
theorem room_any (b bB n : Nat) (L : List ThR) (v : Value) (c : Int) (w : World) (h : HpM w bB b L n v) :
    Calls Try.prog 25 #[.pointer (some ⟨b, 0, none⟩), .int .i64 c] w fun e w' => e = .returned (.bool (decide (L.length < 4096) && decide (c ≤ 65536 - n))) ∧ Below w.heap.size w w' := by
  obtain ⟨g, k, rfl⟩ := h.shape
  obtain ⟨c0, c1, cl, cf⟩ := h.two
  have hn := h.ln
  have hl := h.ll
  clear h
  generalize L.length = m at *
  have wr : IntKind.i64.wrap (65536 - (n : Int)) = 65536 - (n : Int) := IntWalk.i64_in _ ⟨by omega, by omega⟩
  by_cases hm : m < 4096
  · have E := Lib.hid (show (decide (m < 4096) && decide (c ≤ 65536 - (n : Int))) = decide (c ≤ 65536 - (n : Int)) by simp [hm])
    have hm' : (m : Int) < 4096 := by omega
    clear hm
    go_enter Try.func25, Try.ntmps25
    go_wp2_with fail
    all_goals go_ret
    all_goals exact ⟨by rw [E.out]; first | rfl | simp_all, by repeat (first | exact Below.refl _ _ | apply Below.setCell _ (by first | omega | (simp <;> omega)) | apply Below.alloc _ (by first | omega | (simp <;> omega)))⟩
  · have E := Lib.hid (show (decide (m < 4096) && decide (c ≤ 65536 - (n : Int))) = false by simp [hm])
    have hm' : ¬ (m : Int) < 4096 := by omega
    clear hm
    go_enter Try.func25, Try.ntmps25
    go_wp2_with fail
    all_goals go_ret
    all_goals exact ⟨by rw [E.out]; first | rfl | simp_all, by repeat (first | exact Below.refl _ _ | apply Below.setCell _ (by first | omega | (simp <;> omega)) | apply Below.alloc _ (by first | omega | (simp <;> omega)))⟩

/-- which object or array a value refers to -/
def thereN (L : List ThR) (k n : Int) : Bool := k == 5 && decide (0 ≤ n) && decide (n < L.length)
set_option maxHeartbeats 2000000 in
theorem hat_no (b bB m : Nat) (L : List ThR) (v : Value) (k n : Int) (s : ByteArray) (w : World) (h : HpM w bB b L m v) (ht : thereN L k n = false) :
    Calls Try.prog 32 #[.pointer (some ⟨b, 0, none⟩), .agg #[.int .i64 k, .int .i64 n, .string s]] w fun e w' => e = .returned (.pointer none) ∧ Below w.heap.size w w' := by
  obtain ⟨g, c, rfl⟩ := h.shape
  obtain ⟨c0, c1, cl, cf⟩ := h.two
  clear h
  unfold thereN at ht
  generalize L.length = l at *
  by_cases h5 : k = 5
  · by_cases h0 : n < 0
    · clear ht
      subst h5
      go_enter Try.func32, Try.ntmps32
      go_wp2_with fail
      go_quiet (fail)
      go_wp2_with fail
      go_ret
      exact ⟨rfl, by repeat (first | exact Below.refl _ _ | refine below_drewN ?_ _ | apply Below.setCell _ (by first | omega | (simp <;> omega)) | apply Below.alloc _ (by first | omega | (simp <;> omega)))⟩
    · have h0' : 0 ≤ n := by omega
      have hl : (l : Int) ≤ n := by subst h5; simp [h0'] at ht; exact ht
      clear ht h0
      subst h5
      have d1 : decide (n < 0) = false := decide_eq_false (by omega)
      go_enter Try.func32, Try.ntmps32
      go_wp2_with fail
      go_quiet (fail)
      go_wp2_with fail
      go_ret
      exact ⟨rfl, by repeat (first | exact Below.refl _ _ | refine below_drewN ?_ _ | apply Below.setCell _ (by first | omega | (simp <;> omega)) | apply Below.alloc _ (by first | omega | (simp <;> omega)))⟩
  · clear ht
    have h5' : (k != 5) = true := by simpa using h5
    go_enter Try.func32, Try.ntmps32
    go_wp2_with fail
    go_quiet (fail)
    go_wp2_with fail
    go_ret
    exact ⟨rfl, by repeat (first | exact Below.refl _ _ | refine below_drewN ?_ _ | apply Below.setCell _ (by first | omega | (simp <;> omega)) | apply Below.alloc _ (by first | omega | (simp <;> omega)))⟩
set_option maxHeartbeats 2000000 in
theorem hat_yes (b bB m : Nat) (L : List ThR) (g c : Nat) (i : Nat) (s : ByteArray) (w : World) (h : HpM w bB b L m (.slice (some ⟨g, 0, none⟩) L.length c)) (hi : i < L.length) :
    Calls Try.prog 32 #[.pointer (some ⟨b, 0, none⟩), .agg #[.int .i64 5, .int .i64 (i : Nat), .string s]] w fun e w' => e = .returned (.pointer (some ⟨g, i * 7, none⟩)) ∧ Below w.heap.size w w' := by
  obtain ⟨c0, c1, cl, cf⟩ := h.two
  have hll := h.ll
  clear h
  generalize L.length = l at *
  have d1 : decide ((i : Int) < 0) = false := decide_eq_false (by omega)
  have d2 : decide ((l : Int) ≤ (i : Int)) = false := decide_eq_false (by omega)
  have i2 : (i : Int) < (l : Int) := by omega
  go_enter Try.func32, Try.ntmps32
  go_wp2_with fail
  go_quiet (fail)
  go_wp2_with fail
  go_quiet (fail)
  go_wp2_with fail
  go_ret
  exact ⟨rfl, by repeat (first | exact Below.refl _ _ | refine below_drewN ?_ _ | apply Below.setCell _ (by first | omega | (simp <;> omega)) | apply Below.alloc _ (by first | omega | (simp <;> omega)))⟩
end Go.Proofs.Ytfkcjnlhindhfaa
