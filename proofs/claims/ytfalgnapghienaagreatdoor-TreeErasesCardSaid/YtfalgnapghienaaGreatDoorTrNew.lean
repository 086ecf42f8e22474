/- Contracts of tree's list at whole numbers and at nodes: a copy in a block of its own. -/
import Derived.Test.YtfalgnapghienaaGreatDoorTrMem
import Derived.Outline
import Derived.Deep.RegionWith
namespace Go.Proofs.YtfalgnapghienaaGreatDoor
open Go Go.RowKit
set_option linter.unusedVariables false
set_option linter.unusedSimpArgs false

theorem infoInt : (Tryz.prog.info? 3).map (fun i => (i.zero, i.size, i.bytes)) = some (some (.int .i64 0), 1, 8) := by kernel_rfl
theorem infoNode : (Tryz.prog.info? 46).map (fun i => (i.zero, i.size, i.bytes)) = some (some (.agg #[.int .i64 0, .int .i64 0, .int .i64 0, .slice none 0 0, .string ⟨#[]⟩, .int .i64 0, .string ⟨#[]⟩, .int .i64 0, .string ⟨#[]⟩, .int .i64 0, .int .i64 0, .int .i64 0, .slice none 0 0]), 13, 160) := by kernel_rfl

theorem run_copy_size {P : Program} (s : Nat) (w : World) (dT sT ty elem : TypeId) (b o dLen dCap : Nat) (a : Addr) (sLen sCap k : Nat) (cs : List Value)
    (hu : P.underlying dT = some (.slice elem)) (hs : (P.info? elem).map (·.size) = some s) (hk : Nat.min sLen dLen = k) (hn : cs.length = k * s)
    (hsrc : ∀ j v, cs[j]? = some v → w.cell? (a.add j) = some v) (hc : ∀ j, j < cs.length → (w.cell? ⟨b, o + j, none⟩).isSome = true) (hf : ∀ j, j < cs.length → w.frozen? ⟨b, o + j, none⟩ = false) (h1 : ∀ v ∈ cs, v.oneCell' = true) :
    (Builtin.copy_ #[dT, sT] ty #[.slice (some ⟨b, o, none⟩) dLen dCap, .slice (some a) sLen sCap]).run P w = .ok (goInt k) (w.setCells b o cs) := by
  have hl := run_loadCells_list (P := P) w a cs hsrc
  have hst := run_storeCells_cells (P := P) b o cs 0 w (by simpa using hc) (by simpa using hf) h1
  rw [hn] at hl
  cases hq : P.info? elem with
  | none => simp [hq] at hs
  | some i =>
    have hi : i.size = s := by simpa [hq] using hs
    simp [Builtin.copy_, run_underlying hu, Builtin.lenOf, Builtin.firstCells, sizeOf, typeInfo, hq, hi, hk, hl, hst]

/-- a row that is made, and then copied over whole: a new block with what was copied -/
theorem make_copy {P : Program} (s : Nat) (w : World) (sT elem tI : TypeId) (i : TypeInfo) (z : Value) (hu : P.underlying sT = some (.slice elem)) (hi : P.info? elem = some i) (hz : i.zero = some z) (hs : i.size = s)
    (n cap : Nat) (a : Addr) (cs : List Value) (hn : cs.length = n * s) (h0 : a.block < w.heap.size) (hsrc : ∀ j v, cs[j]? = some v → w.cell? (a.add j) = some v) (h1 : ∀ v ∈ cs, v.oneCell' = true) (hb : i.bytes * n ≤ 281474976710656) (hm : n ≤ maxLen) :
    ∃ W1 W2, (Instr.makeSlice sT (.int .i64 (n : Int)) (.int .i64 (n : Int))).run P w = .ok (.slice (some ⟨w.heap.size, 0, none⟩) n n) W1 ∧
      (Builtin.copy_ #[sT, sT] tI #[.slice (some ⟨w.heap.size, 0, none⟩) n n, .slice (some a) n cap]).run P W1 = .ok (goInt n) W2 ∧
      Below w.heap.size w W2 ∧ W2.heap[w.heap.size]? = some (.cells cs.toArray elem (0, 0)) := by
  have hr := run_make (P := P) w sT elem i z hu hi hz .i64 .i64 n n (by omega) (Int.le_refl _) (by
    have h : ((i.bytes * n : Nat) : Int) ≤ 281474976710656 := by omega
    rwa [Int.natCast_mul] at h) (by unfold maxLen at hm; omega)
  simp only [Int.toNat_natCast] at hr
  have hb1 : Below w.heap.size w (w.alloc (.cells (madeCells z.cells (n * i.size)) elem)) := (Below.refl _ _).alloc (Nat.le_refl _) _
  have hh := heap_alloc_new w (.cells (madeCells z.cells (n * i.size)) elem)
  refine ⟨_, _, hr, run_copy_size s _ sT sT tI elem w.heap.size 0 n n a n cap n cs hu (by rw [hi]; simp [hs]) (Nat.min_self n) hn ?_ ?_ ?_ h1, hb1.trans (fill_below _ (Nat.le_refl _) _ _ _), row_fill _ cs _ _ hh (by rw [size_madeCells, hs, hn])⟩
  · intro j v hj
    rw [← hsrc j v hj]
    exact hb1.cell (p := a.add j) (by unfold Addr.add; split <;> exact h0)
  · intro j hj
    rw [Nat.zero_add, cell_of_row _ _ _ _ _ _ hh, Array.getElem?_eq_getElem (by rw [size_madeCells, hs]; omega)]
    rfl
  · intro j hj
    unfold World.frozen?
    rw [hh]
    simp

set_option maxRecDepth 100000 in
set_option maxHeartbeats 1000000 in
theorem listI_any (src : Option Addr) (cap : Nat) (l : List Int) (w : World) (hl : l.length ≤ 17592186044416) (hr : NumsIn w src l) :
    Calls Tryz.prog 57 #[.slice src l.length cap] w fun e w' => ∃ s c, e = .returned (.slice s l.length c) ∧ Below w.heap.size w w' ∧ NewNums w' w.heap.size (.slice s l.length c) l := by
  by_cases h0 : l.length = 0
  · have hl0 := List.eq_nil_of_length_eq_zero h0
    subst hl0
    clear h0 hl hr
    go_enter Tryz.func57, Tryz.ntmps57
    go_wp2_with fail
    go_ret
    exact ⟨_, _, rfl, Below.refl _ _, .inl ⟨rfl, rfl⟩⟩
  · obtain ⟨b, off, rfl, hb, hrow⟩ := hr (by omega)
    obtain ⟨i0, hi, hz0, hz1, hz2⟩ := info_parts infoInt
    obtain ⟨W1, W2, hmk, hcp, hbel, hblk⟩ := make_copy (P := Tryz.prog) 1 w 35 3 3 i0 (.int .i64 0) Tryz.underlying35 hi hz0 hz1 l.length cap ⟨b, off, none⟩ (numC l) (by simp [numC]) hb
      (fun j v hj => by
        rw [add_at]
        obtain ⟨hj1, hj2⟩ := List.getElem?_eq_some_iff.1 hj
        have hj3 : j < l.length := by simpa [numC] using hj1
        rw [hrow j hj3, ← hj2]; simp [numC])
      (fun v hv => by
        obtain ⟨x, -, rfl⟩ := List.mem_map.1 hv
        rfl) (by rw [hz2]; omega) (by unfold maxLen; omega)
    have HB := Lib.hid hbel
    have HN : Hid (NewNums W2 w.heap.size (.slice (some ⟨w.heap.size, 0, none⟩) l.length l.length) l) := Lib.hid (.inr ⟨by omega, w.heap.size, rfl, Nat.le_refl _, hblk⟩)
    have i1 : ¬ (l.length : Int) = 0 := by omega
    clear hr hrow hbel hblk
    generalize l.length = n at *
    go_enter Tryz.func57, Tryz.ntmps57
    go_wp2_with fail
    go_ret
    exact ⟨_, _, rfl, HB.out, HN.out⟩
end Go.Proofs.YtfalgnapghienaaGreatDoor
