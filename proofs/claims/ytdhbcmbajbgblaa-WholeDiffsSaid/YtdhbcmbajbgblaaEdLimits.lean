/- EditLimits: the walk. -/
import Derived.Test.YtdhbcmbajbgblaaEditN
import Derived.OneCell
import Derived.Laws.IdiomStrings
namespace Go.Proofs.Ytdhbcmbajbgblaa
open Go Go.RowKit
set_option linter.unusedVariables false

theorem infoU8 : (Try.prog.info? 5).map (fun i => (i.zero, i.size, i.bytes)) = some (some (.int .u8 0), 1, 1) := by kernel_rfl
/-- a text of so many noughts -/
def zerosB (m : Nat) : ByteArray := ⟨(List.replicate m 0).toArray⟩
theorem zerosB_size (m : Nat) : (zerosB m).size = m := by unfold zerosB ByteArray.size; simp
theorem made_zeros (m : Nat) (w : World) (hm : m ≤ 100000) :
    ∃ W1, (Instr.makeSlice 65 (.int .i64 (m : Int)) (.int .i64 (m : Int))).run Try.prog w = .ok (.slice (some ⟨w.heap.size, 0, none⟩) m m) W1 ∧
      (convert 65 9 (.slice (some ⟨w.heap.size, 0, none⟩) m m)).run Try.prog W1 = .ok (.string (zerosB m)) W1 ∧ Below w.heap.size w W1 := by
  obtain ⟨i0, hi, hz0, hz1, hz2⟩ := info_parts infoU8
  obtain ⟨W1, h1, h2, h3⟩ := run_makeSlice_full (P := Try.prog) w w.heap.size 65 5 i0 (.int .u8 0) 1 Try.underlying65 hi hz0 hz1 .i64 .i64 m (by omega) (by rw [hz2]; omega) (by unfold maxLen; omega) (Nat.le_refl _)
  refine ⟨W1, h1, ?_, Below.grown (Below.refl _ _) h3 (Nat.le_refl _) (fun j hj => by cases hj)⟩
  have := run_convert_bytes_back (P := Try.prog) W1 65 9 5 ⟨w.heap.size, 0, none⟩ m (List.replicate m 0) Try.underlying65 Try.underlying5 Try.underlying9 (fun j hj => by
    rw [List.length_replicate] at hj
    rw [add_at, Nat.zero_add, h2.cellAt j (by omega), show (Value.int .u8 0).cells = #[.int .u8 0] from rfl, toList_madeCells_one, List.getElem?_replicate, if_pos (by omega)]
    simp)
  rw [List.length_replicate] at this
  exact this

def xB : ByteArray := ⟨#[120]⟩
/-- so many x, each put in one byte behind the other -/
def insN : Nat → Nat → List NEd
  | _, 0 => []
  | a, k + 1 => (a, a, xB) :: insN (a + 1) k
theorem insN_len : ∀ (k a : Nat), (insN a k).length = k
  | 0, _ => rfl
  | k + 1, a => by simp [insN, insN_len k]
theorem insN_snoc : ∀ (k a : Nat), insN a (k + 1) = insN a k ++ [(a + k, a + k, xB)]
  | 0, a => by simp [insN]
  | k + 1, a => by
    rw [insN, insN_snoc k (a + 1)]
    simp [insN]
    omega
theorem insN_ok (n : Nat) : ∀ (k a b : Nat), b ≤ a → b ≤ n → a + k ≤ n + 1 → EdOk n b (insN a k)
  | 0, a, b, h1, h2, h3 => h2
  | k + 1, a, b, h1, h2, h3 => ⟨h1, Nat.le_refl _, insN_ok n k (a + 1) a (by omega) (by omega) (by omega)⟩
theorem insN_grow : ∀ (k a : Nat), growN (insN a k) = k
  | 0, _ => rfl
  | k + 1, a => by simp only [insN, growN, insN_grow k]; have : xB.size = 1 := rfl; omega
theorem insN_text : ∀ (k a : Nat), ∀ e ∈ insN a k, e.2.2.size ≤ 65536
  | 0, _, e, h => absurd h (by simp [insN])
  | k + 1, a, e, h => by
    rcases List.mem_cons.1 h with rfl | h
    · show (1 : Nat) ≤ 65536; omega
    · exact insN_text k _ e h
theorem flatE_snoc (l : List IEd) (x : IEd) : flatE (l ++ [x]) = flatE l ++ [.int .i64 x.1, .int .i64 x.2.1, .string x.2.2] := by simp [flatE]

/-- a list of edits that grows -/
def InInv (w wr : World) (l : List IEd) (v : Value) : Prop :=
  Below w.heap.size w wr ∧ wr.ownsRow w.heap.size 27 3 v l.length (flatE l)
theorem InInv.yes {w wr w2 : World} {v v' : Value} {l : List IEd} {x : IEd} {o' : Obj} (h : InInv w wr l v)
    (hown' : w2.ownsRow w.heap.size 27 3 v' (l.length + 1) (flatE l ++ [.int .i64 x.1, .int .i64 x.2.1, .string x.2.2])) (hg : (wr.alloc o').grownBy w2 v.ownBlock) : InInv w w2 (l ++ [x]) v' := by
  obtain ⟨hbel, ho⟩ := h
  refine ⟨Below.grown (hbel.alloc hbel.size o') hg (by simp; have := hbel.size; omega) (fun j hj => (ho.lt j hj).1), ?_⟩
  rw [flatE_snoc]; simpa using hown'
theorem InInv.in {w wr : World} {l : List IEd} {v : Value} (h : InInv w wr l v) : ∃ src cap, v = .slice src l.length cap ∧ EdsIn wr src l := by
  obtain ⟨h1, h2⟩ := h
  rcases h2.2 with ⟨q1, q2⟩ | ⟨b, cap, cur, q1, q2⟩
  · exact ⟨none, 0, by rw [q1, q2], fun h0 => by omega⟩
  · refine ⟨some ⟨b, 0, none⟩, cap, q1, fun h0 => ⟨b, 0, rfl, (h2.lt b (by rw [q1]; rfl)).2, fun i hi => ?_⟩⟩
    have hc := h2.cells (g := b) (by rw [q1]; rfl)
    obtain ⟨f0, f1, f2⟩ := flatE_get l i hi
    have c0 := hc _ _ f0
    have c1 := hc _ _ f1
    have c2 := hc _ _ f2
    rw [add_at, Nat.zero_add] at c0 c1 c2
    rw [Nat.zero_add]
    exact ⟨c0, c1, c2⟩


end Go.Proofs.Ytdhbcmbajbgblaa
