/- lines.blanks: what stands below a text. -/
import Derived.Test.YtfiphchjjgmcpaaDoorLineHold
import Derived.Lib.ConvBytes
import Derived.Laws.IdiomStrings
namespace Go.Proofs.YtfiphchjjgmcpaaDoor
open Go.RowKit
set_option linter.unusedVariables false

/-- what stands below a byte, and below a text -/
def blankB (b : UInt8) : UInt8 := if b = 9 then 9 else 32
def byteAt (s : ByteArray) (j : Nat) : UInt8 := s.data.toList.getD j 0
def blAt (s : ByteArray) (k j : Nat) : UInt8 := if j < k then blankB (byteAt s j) else byteAt s j
def blankS (s : ByteArray) : ByteArray := ⟨(s.data.toList.map blankB).toArray⟩

def BlInv (w : World) (s : ByteArray) (k : Nat) (wr : World) : Prop :=
  Below w.heap.size w wr ∧ w.heap.size < wr.heap.size ∧ ∀ j, j < s.size → wr.cell? ⟨w.heap.size, j, none⟩ = some (.int .u8 ((blAt s k j).toNat : Int)) ∧ wr.frozen? ⟨w.heap.size, j, none⟩ = false

theorem conv_bytes (s : ByteArray) (w : World) : ∃ W1 cap, (convert 9 70 (.string s)).run Tryd.prog w = .ok (.slice (some ⟨w.heap.size, 0, none⟩) s.size cap) W1 ∧ BlInv w s 0 W1 := by
  refine ⟨_, _, Lib.run_convert_string_bytes (P := Tryd.prog) w 9 70 5 s Tryd.underlying9 Tryd.underlying70 Tryd.underlying5, ?_, ?_, ?_⟩
  · refine ⟨?_, ?_, ?_, by rw [Lib.bytesWorld_size]; omega, fun k hk => Lib.bytesWorld_at_old w 5 s k hk⟩ <;> simp [Lib.bytesWorld, World.freeze, World.alloc, World.drew, -World.alloc_eq, -World.drew_eq]
  · rw [Lib.bytesWorld_size]; omega
  · intro j hj
    refine ⟨by simpa [blAt, byteAt] using Lib.bytesWorld_cell w 5 s j hj, ?_⟩
    simp [World.frozen?, Lib.bytesWorld_at_new, Lib.bytesCells]
    omega

theorem BlInv.keep {w wr : World} {s : ByteArray} {k : Nat} (h : BlInv w s k wr) (hk : byteAt s k = 9) : BlInv w s (k + 1) wr := by
  obtain ⟨h1, h2, h3⟩ := h
  refine ⟨h1, h2, fun j hj => ?_⟩
  have := h3 j hj
  refine ⟨?_, this.2⟩
  rw [this.1]
  unfold blAt
  by_cases hlt : j < k
  · rw [if_pos hlt, if_pos (by omega)]
  · by_cases he : j = k
    · subst he; rw [if_neg hlt, if_pos (by omega), hk]; rfl
    · rw [if_neg hlt, if_neg (by omega)]
theorem BlInv.put {w wr : World} {s : ByteArray} {k : Nat} (h : BlInv w s k wr) (hk : byteAt s k ≠ 9) (hks : k < s.size) : BlInv w s (k + 1) (wr.setCell ⟨w.heap.size, k, none⟩ (.int .u8 32)) := by
  obtain ⟨h1, h2, h3⟩ := h
  refine ⟨h1.setCell (Nat.le_refl _) _, by simp [go_sem]; exact h2, fun j hj => ?_⟩
  have := h3 j hj
  have hkk := h3 k hks
  by_cases he : j = k
  · subst he
    refine ⟨?_, by simp [go_sem, this.2]⟩
    have e : blAt s (j + 1) j = 32 := by unfold blAt blankB; rw [if_pos (by omega), if_neg hk]
    simp [go_sem, this.1, e]
  · refine ⟨?_, by simp [go_sem, this.2]⟩
    have e : blAt s (k + 1) j = blAt s k j := by
      unfold blAt
      by_cases hlt : j < k
      · rw [if_pos hlt, if_pos (by omega)]
      · rw [if_neg hlt, if_neg (by omega)]
    rw [e]
    have e2 : (wr.setCell ⟨w.heap.size, k, none⟩ (.int .u8 32)).cell? ⟨w.heap.size, j, none⟩ = wr.cell? ⟨w.heap.size, j, none⟩ := by simp [go_sem]
    rw [e2]; exact this.1

theorem byteAt_int (s : ByteArray) (i : Nat) : (((byteAt s i).toNat : Int) != 9) = (byteAt s i != 9) := by
  rw [Bool.eq_iff_iff]
  simp only [bne_iff_ne, ne_eq]
  constructor
  · intro e h; rw [h] at e; exact e rfl
  · intro e h; exact e (UInt8.toNat_inj.1 (by simpa using (show (byteAt s i).toNat = 9 by omega)))

theorem back_bytes (s : ByteArray) (w wr : World) (cap : Nat) (h : BlInv w s s.size wr) : (convert 70 9 (.slice (some ⟨w.heap.size, 0, none⟩) s.size cap)).run Tryd.prog wr = .ok (.string (blankS s)) wr := by
  have hl : (s.data.toList.map blankB).length = s.size := by simp
  have := run_convert_bytes_back (P := Tryd.prog) wr 70 9 5 ⟨w.heap.size, 0, none⟩ cap (s.data.toList.map blankB) Tryd.underlying70 Tryd.underlying5 Tryd.underlying9 (fun j hj => by
    rw [hl] at hj
    have h1 := (h.2.2 j hj).1
    have e : (⟨w.heap.size, 0, none⟩ : Addr).add j = ⟨w.heap.size, j, none⟩ := by unfold Addr.add; by_cases h : j = 0 <;> simp [h]
    rw [e, h1]
    have hj' : j < s.data.toList.length := by simpa using hj
    simp only [blAt, if_pos hj, List.getElem_map, byteAt, List.getD_eq_getElem?_getD, List.getElem?_eq_getElem hj', Option.getD_some])
  rw [hl] at this
  exact this

set_option maxRecDepth 100000 in
set_option maxHeartbeats 1000000 in
theorem blanks_any (s : ByteArray) (w : World) (hs : s.size ≤ 65536) :
    Calls Tryd.prog 29 #[.string s] w fun e w' => e = .returned (.string (blankS s)) ∧ Below w.heap.size w w' := by
  obtain ⟨W1, cap, hcv, hinv0⟩ := conv_bytes s w
  have H0 := Lib.hid hinv0
  clear hinv0
  go_enter Tryd.func29, Tryd.ntmps29
  go_wp2_with fail
  go_loopw [9] (fun i wr => ∃ k : Nat, k ≤ s.size ∧ i = .int .i64 k ∧ BlInv w s k wr) (fun i _ => s.size - (intOf i).toNat)
  case atStart => exact ⟨0, Nat.zero_le _, rfl, H0.out⟩
  case round =>
    clear hcv
    obtain ⟨k, hk, rfl, hinv⟩ := hrel
    have HI := Lib.hid hinv
    by_cases hlt : k < s.size
    · obtain ⟨c0, f0⟩ := hinv.2.2 k hlt
      have e0 : blAt s k k = byteAt s k := by unfold blAt; rw [if_neg (by omega)]
      rw [e0] at c0
      clear hinv e0
      by_cases h9 : byteAt s k = 9
      · have hb : (((byteAt s k).toNat : Int) != 9) = false := by rw [byteAt_int]; simp [h9]
        have H9 := Lib.hid h9
        clear h9
        generalize (byteAt s k).toNat = x at *
        go_wp2_with fail
        go_roundw
        case rel => exact ⟨k + 1, by omega, by go_num, HI.out.keep H9.out⟩
        case measure => simp [intOf]; omega
      · have hb : (((byteAt s k).toNat : Int) != 9) = true := by rw [byteAt_int]; simp [h9]
        have H9 := Lib.hid h9
        clear h9
        generalize (byteAt s k).toNat = x at *
        go_wp2_with fail
        go_roundw
        case rel => exact ⟨k + 1, by omega, by go_num, HI.out.put H9.out hlt⟩
        case measure => simp [intOf]; omega
    · have hk' : k = s.size := by omega
      rw [hk'] at hinv
      have hbk := back_bytes s w wr cap hinv
      have hbel := hinv.1
      clear HI
      go_wp2_with fail
      go_ret
      exact ⟨rfl, hbel⟩

end Go.Proofs.YtfiphchjjgmcpaaDoor
