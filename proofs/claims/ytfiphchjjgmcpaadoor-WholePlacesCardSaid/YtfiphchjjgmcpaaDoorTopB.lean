/- WholePlaces: what stands while the lines' spans are gathered. -/
import Derived.Test.YtfiphchjjgmcpaaDoorTopA
import Derived.Test.YtfiphchjjgmcpaaDoorLinePoint
import Derived.Test.YtfiphchjjgmcpaaDoorSpanF
import Derived.Test.YtfiphchjjgmcpaaDoorFrame
import Derived.Lib.SlicesS
namespace Go.Proofs.YtfiphchjjgmcpaaDoor
open Go Go.RowKit
set_option linter.unusedVariables false

theorem GpInv.step {w wr w2 : World} {v : Value} {g : List (Int × Int)} (h : GpInv w wr g v) (hb : Below wr.heap.size wr w2) : GpInv w w2 g v :=
  ⟨after h.1 hb, h.2.kept (row := none) ⟨hb.os, hb.tape, hb.output, hb.size, fun k hk _ => hb.block k hk⟩ (Classical.em _)⟩
/-- one more span joins -/
theorem GpInv.join {w wr w2 : World} {v v' : Value} {g : List (Int × Int)} {x : Int × Int} {o : Obj} (h : GpInv w wr g v)
    (hown' : w2.ownsRow w.heap.size 24 2 v' (g.length + 1) (flat g ++ [.int .i64 x.1, .int .i64 x.2])) (hg : (wr.alloc o).grownBy w2 v.ownBlock) : GpInv w w2 (g ++ [x]) v' := by
  obtain ⟨hbel, ho⟩ := h
  refine ⟨Below.grown (hbel.alloc hbel.size o) hg (by simp; have := hbel.size; omega) (fun j hj => (ho.lt j hj).1), ?_⟩
  rw [flat_snoc]; simpa using hown'

/-- spans in a row, as a value -/
theorem row_some {w : World} {base : Nat} {v : Value} {g : List (Int × Int)} (h : w.ownsRow base 24 2 v g.length (flat g)) (h0 : 0 < g.length) :
    ∃ b cap, v = .slice (some ⟨b, 0, none⟩) g.length cap ∧ g.length ≤ cap ∧ cap ≤ maxLen ∧ b < w.heap.size ∧ SpanAt w b 0 g := by
  rcases h.2 with ⟨h1, h2⟩ | ⟨b, cap, cur, h1, h2, h3, h4, h5, h6, h7⟩
  · omega
  · refine ⟨b, cap, h1, h4, h5, (h.lt b (by rw [h1]; rfl)).2, fun i hi => ?_⟩
    have hc := h.cells (g := b) (by rw [h1]; rfl)
    have g0 := flat_get g (i * 2)
    have g1 := flat_get g (i * 2 + 1)
    rw [if_pos (by omega), show i * 2 / 2 = i by omega, List.getElem?_eq_getElem hi] at g0
    rw [if_neg (by omega), show (i * 2 + 1) / 2 = i by omega, List.getElem?_eq_getElem hi] at g1
    have c0 := hc _ _ g0
    have c1 := hc _ _ g1
    rw [add_none] at c0 c1
    exact ⟨c0, by rw [Nat.add_assoc]; exact c1⟩
theorem row_any {w : World} {base : Nat} {v : Value} {g : List (Int × Int)} (h : w.ownsRow base 24 2 v g.length (flat g)) :
    ∃ sa vc, v = .slice sa g.length vc ∧ (0 < g.length → ∃ gb, sa = some ⟨gb, 0, none⟩ ∧ gb < w.heap.size ∧ SpanAt w gb 0 g) := by
  by_cases h0 : 0 < g.length
  · obtain ⟨b, cap, h1, _, _, h2, h3⟩ := row_some h h0
    exact ⟨_, _, h1, fun _ => ⟨b, rfl, h2, h3⟩⟩
  · rcases h.2 with ⟨h1, h2⟩ | ⟨b, cap, cur, h1, h2⟩
    · exact ⟨none, 0, by rw [h1, h2], fun hp => absurd hp h0⟩
    · exact ⟨_, _, h1, fun hp => absurd hp h0⟩
/-- Sum, of a row of spans -/
theorem sum_row (v : Value) (g : List (Int × Int)) (base : Nat) (w : World) (h : w.ownsRow base 24 2 v g.length (flat g)) (hs : g.length ≤ 1000000) :
    Calls Tryd.prog 10 #[v] w fun e w' => e = .returned (.int .i64 (sumI g)) ∧ Below w.heap.size w w' := by
  by_cases h0 : 0 < g.length
  · obtain ⟨b, cap, rfl, h1, h2, h3, h4⟩ := row_some h h0
    exact sum_some b 0 _ cap g w rfl h1 h2 h3 h4 hs
  · have hg : g = [] := List.length_eq_zero_iff.1 (by omega)
    subst hg
    rcases h.2 with ⟨h1, h2⟩ | ⟨b, cap, cur, h1, h2, h3, h4, h5, h6, h7⟩
    · subst h1; exact sum_none w
    · subst h1
      exact sum_some b 0 0 cap [] w rfl (Nat.zero_le _) h5 (h.lt b rfl).2 (fun i hi => absurd hi (by simp)) (by omega)

/-- what is shown of a span isn't empty -/
theorem showS_some (s : ByteArray) (f t : Nat) : 1 ≤ (showS s f t).size := by
  have h3 : (⟨#[58]⟩ : ByteArray).size = 1 := rfl
  unfold showS placeS
  split <;> simp only [ByteArray.size_append, h3] <;> omega
theorem pointS_some (s : ByteArray) (f t : Nat) : 1 ≤ (pointS s f t).size := by
  have h3 : (⟨#[10]⟩ : ByteArray).size = 1 := rfl
  unfold pointS
  simp only [ByteArray.size_append, h3]
  omega
theorem not_empty {x : ByteArray} (h : 1 ≤ x.size) : ¬ x.toList = ([] : List UInt8) := by
  intro e
  rw [ByteArray.toList_eq] at e
  have h2 : x.data.toList.length = x.size := by simp
  rw [e] at h2
  simp at h2
  omega
theorem not_empty_b {x : ByteArray} (h : 1 ≤ x.size) : (x.toList == ([] : List UInt8)) = false := by
  rw [beq_eq_false_iff_ne]
  exact not_empty h

end Go.Proofs.YtfiphchjjgmcpaaDoor
