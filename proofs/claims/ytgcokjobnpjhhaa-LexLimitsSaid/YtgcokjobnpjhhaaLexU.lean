/- Rows of bytes that are made, written and made a text; facts of LexLimits. -/
import Derived.Test.YtgcokjobnpjhhaaLexM
import Derived.Laws.IdiomStrings
namespace Go.Proofs.Ytgcokjobnpjhhaa
open Go Go.RowKit
set_option linter.unusedVariables false

theorem infoU8 : (Try.prog.info? 5).map (fun i => (i.zero, i.size, i.bytes)) = some (some (.int .u8 0), 1, 1) := by kernel_rfl
/-- a row of bytes in memory -/
def URow (B n : Nat) (f : Nat → Nat) (wr : World) : Prop := B < wr.heap.size ∧ (∀ j, j < n → wr.cell? ⟨B, j, none⟩ = some (.int .u8 (f j : Nat))) ∧ ∀ j, wr.frozen? ⟨B, j, none⟩ = false
theorem URow.step {B n : Nat} {f : Nat → Nat} {w w' : World} (h : URow B n f w) (hb : Below w.heap.size w w') : URow B n f w' :=
  ⟨Nat.lt_of_lt_of_le h.1 hb.size, fun j hj => keep hb h.1 (h.2.1 j hj), fun j => by rw [hb.frozen (p := ⟨B, j, none⟩) h.1]; exact h.2.2 j⟩
theorem URow.drew {B n : Nat} {f : Nat → Nat} {w : World} (h : URow B n f w) : URow B n f w.drew := h
theorem URow.cong {B n : Nat} {f f' : Nat → Nat} {w : World} (h : URow B n f w) (he : ∀ j, j < n → f' j = f j) : URow B n f' w := ⟨h.1, fun j hj => by rw [he j hj]; exact h.2.1 j hj, h.2.2⟩
theorem URow.put {B n : Nat} {f f' : Nat → Nat} {w : World} (h : URow B n f w) (k c : Nat) (hk : k < n) (hf : ∀ j, j < n → f' j = if j = k then c else f j) : URow B n f' (w.setCell ⟨B, k, none⟩ (.int .u8 (c : Nat))) := by
  obtain ⟨h1, h2, h3⟩ := h
  refine ⟨by simpa [World.setCell] using h1, fun j hj => ?_, fun j => by rw [World.frozen?_setCell]; exact h3 j⟩
  rw [hf j hj]
  by_cases e : j = k
  · subst e
    rw [if_pos rfl]
    exact World.cell?_setCell_same _ _ _ (h2 j hj)
  · rw [World.cell?_setCell_other _ _ _ _ (by intro hh; injection hh; omega), h2 j hj, if_neg e]
theorem URow.other {B B' n k : Nat} {v : Value} {f : Nat → Nat} {w : World} (h : URow B n f w) (hne : B' ≠ B) : URow B n f (w.setCell ⟨B', k, none⟩ v) := by
  obtain ⟨h1, h2, h3⟩ := h
  refine ⟨by simpa [World.setCell] using h1, fun j hj => ?_, fun j => by rw [World.frozen?_setCell]; exact h3 j⟩
  rw [World.cell?_setCell_other _ _ _ _ (by intro hh; injection hh; omega)]; exact h2 j hj
theorem made_u8 (m : Nat) (w : World) (hm : m ≤ 100000) :
    ∃ W1, (Instr.makeSlice 38 (.int .i64 (m : Int)) (.int .i64 (m : Int))).run Try.prog w = .ok (.slice (some ⟨w.heap.size, 0, none⟩) m m) W1 ∧ Below w.heap.size w W1 ∧ URow w.heap.size m (fun _ => 0) W1 := by
  obtain ⟨i0, hi, hz0, hz1, hz2⟩ := info_parts infoU8
  obtain ⟨W1, h1, h2, h3⟩ := run_makeSlice_full (P := Try.prog) w w.heap.size 38 5 i0 (.int .u8 0) 1 Try.underlying38 hi hz0 hz1 .i64 .i64 m (by omega) (by rw [hz2]; omega) (by unfold maxLen; omega) (Nat.le_refl _)
  refine ⟨W1, h1, Below.grown (Below.refl _ _) h3 (Nat.le_refl _) (fun j hj => by cases hj), (h2.lt _ rfl).2, fun j hj => ?_, fun j => h2.frozenAt j⟩
  rw [h2.cellAt j (by omega), show (Value.int .u8 0).cells = #[.int .u8 0] from rfl, toList_madeCells_one, List.getElem?_replicate, if_pos (by omega)]
  rfl
/-- a text of one byte many times -/
def repN (m : Nat) (c : UInt8) : ByteArray := ⟨(List.replicate m c).toArray⟩
theorem repN_size (m : Nat) (c : UInt8) : (repN m c).size = m := by unfold repN ByteArray.size; simp
theorem repN_get (m : Nat) (c : UInt8) (j : Nat) (h : j < m) : byS (repN m c) j = c.toNat := by
  rw [byS_get _ j (by rw [repN_size]; exact h)]
  congr 1
  show (List.replicate m c).toArray[j]'_ = c
  simp
theorem row_text {B m : Nat} {c : UInt8} {wr : World} {cap : Nat} (h : URow B m (fun _ => c.toNat) wr) : (convert 38 9 (.slice (some ⟨B, 0, none⟩) m cap)).run Try.prog wr = .ok (.string (repN m c)) wr := by
  have := run_convert_bytes_back (P := Try.prog) wr 38 9 5 ⟨B, 0, none⟩ cap (List.replicate m c) Try.underlying38 Try.underlying5 Try.underlying9 (fun j hj => by
    rw [List.length_replicate] at hj
    have e : (⟨B, 0, none⟩ : Addr).add j = ⟨B, j, none⟩ := by unfold Addr.add; by_cases h : j = 0 <;> simp [h]
    rw [e, h.2.1 j hj]
    simp)
  rw [List.length_replicate] at this
  exact this
theorem quoted_word (m : Nat) : Reads (byS (⟨#[34]⟩ ++ repN m 119 ++ ⟨#[34]⟩)) 0 (34 :: (List.replicate m 119 ++ [34])) ∧ (⟨#[34]⟩ ++ repN m 119 ++ ⟨#[34]⟩ : ByteArray).size = m + 2 := by
  have hz : (⟨#[34]⟩ ++ repN m 119 ++ ⟨#[34]⟩ : ByteArray).size = m + 2 := by
    rw [ByteArray.size_append, ByteArray.size_append, repN_size]
    show 1 + m + 1 = m + 2
    omega
  refine ⟨fun j hj => ?_, hz⟩
  have hd : (⟨#[34]⟩ ++ repN m 119 ++ ⟨#[34]⟩ : ByteArray).data.toList = 34 :: (List.replicate m 119 ++ [34]) := by
    rw [ByteArray.data_append, ByteArray.data_append, Array.toList_append, Array.toList_append]
    simp [repN]
  have hj' : j < m + 2 := by simp at hj; omega
  rw [Nat.zero_add]
  unfold byS
  rw [dif_pos (by omega)]
  have e : (⟨#[34]⟩ ++ repN m 119 ++ ⟨#[34]⟩ : ByteArray)[j]'(by omega) = (⟨#[34]⟩ ++ repN m 119 ++ ⟨#[34]⟩ : ByteArray).data.toList[j]'(by rw [hd]; simp; omega) := rfl
  rw [e]
  have e2 : (34 :: (List.replicate m 119 ++ [34]) : List Nat) = (34 :: (List.replicate m (119 : UInt8) ++ [34]) : List UInt8).map UInt8.toNat := by simp
  simp only [hd, e2, List.getElem_map]

end Go.Proofs.Ytgcokjobnpjhhaa
