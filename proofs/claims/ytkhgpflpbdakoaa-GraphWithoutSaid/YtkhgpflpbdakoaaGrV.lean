/- Contracts of slices.Clone and slices.Reverse at edges, and of a graph's Edges. -/
import Derived.Test.YtkhgpflpbdakoaaGrU
import Derived.RegionTactic
import Derived.ChangeAlike
import Derived.Laws.Rows
namespace Go.Proofs.Ytkhgpflpbdakoaa
open Go Go.RowKit
set_option linter.unusedVariables false
set_option linter.unusedSimpArgs false

/-- an edge's cells -/
def EgAt (w : World) (g o : Nat) (x : Eg) : Prop := w.cell? ⟨g, o, none⟩ = some (.int .i64 x.1) ∧ w.cell? ⟨g, o + 1, none⟩ = some (.int .i64 x.2.1) ∧ w.cell? ⟨g, o + 2, none⟩ = some (.int .i64 x.2.2.1) ∧ w.cell? ⟨g, o + 3, none⟩ = some (.int .i64 x.2.2.2)
/-- a slice that reads as edges -/
def EgV (w : World) (v : Value) (L : List Eg) : Prop := ∃ src cap, v = .slice src L.length cap ∧ ∀ j (hj : j < L.length), ∃ g off, src = some ⟨g, off, none⟩ ∧ g < w.heap.size ∧ EgAt w g (off + j * 4) L[j]
theorem EgAt.step {w w' : World} {g o : Nat} {x : Eg} (h : EgAt w g o x) (hg : g < w.heap.size) (hb : Below w.heap.size w w') : EgAt w' g o x :=
  ⟨keep hb hg h.1, keep hb hg h.2.1, keep hb hg h.2.2.1, keep hb hg h.2.2.2⟩
theorem EgV.step {w w' : World} {v : Value} {L : List Eg} (h : EgV w v L) (hb : Below w.heap.size w w') : EgV w' v L := by
  obtain ⟨src, cap, hv, hx⟩ := h
  refine ⟨src, cap, hv, fun j hj => ?_⟩
  obtain ⟨g, off, h1, h2, h3⟩ := hx j hj
  exact ⟨g, off, h1, Nat.lt_of_lt_of_le h2 hb.size, h3.step h2 hb⟩
/-- an owned row reads so -/
theorem EgV.of_row {T : TypeId} {w : World} {B : Nat} {v : Value} {L : List Eg} (h : w.ownsRow B T 4 v L.length (flatG L)) : EgV w v L := by
  obtain ⟨src, cap, hv⟩ := own_any_shape h
  refine ⟨src, cap, hv, fun j hj => ?_⟩
  rcases h.2 with ⟨q, q2⟩ | ⟨g, cap', cur, q, _, hg, _⟩
  · omega
  · rw [hv] at q
    simp only [Value.slice.injEq] at q
    have hc : ∀ o, o < 4 → w.cell? ⟨g, j * 4 + o, none⟩ = (egC L[j])[o]? := fun o ho => by
      have e := fm_at egC 4 (fun _ => rfl) L j hj o ho
      rw [← e]
      have hlt : j * 4 + o < (flatG L).length := by rw [flatG_len]; omega
      have := h.cells (g := g) (by rw [hv, q.1]; rfl) (j * 4 + o) _ (List.getElem?_eq_getElem hlt)
      rw [add_at, Nat.zero_add] at this
      rw [this]
      exact (List.getElem?_eq_getElem hlt).symm
    exact ⟨g, 0, q.1, lt_block hg, by rw [Nat.zero_add]; exact ⟨hc 0 (by omega), hc 1 (by omega), hc 2 (by omega), hc 3 (by omega)⟩⟩
theorem EgV.flat {w : World} {src : Option Addr} {cap m : Nat} {L : List Eg} (h : EgV w (.slice src m cap) L) : m = L.length ∧ ∀ g off, src = some ⟨g, off, none⟩ → ∀ j u, (flatG L)[j]? = some u → w.cell? ((⟨g, off, none⟩ : Addr).add j) = some u := by
  obtain ⟨src', cap', hv, hx⟩ := h
  simp only [Value.slice.injEq] at hv
  obtain ⟨rfl, rfl, rfl⟩ := hv
  refine ⟨rfl, fun g off hs j u hj => ?_⟩
  have hjl : j < (flatG L).length := by
    rcases Nat.lt_or_ge j (flatG L).length with q | q
    · exact q
    · rw [List.getElem?_eq_none q] at hj; cases hj
  rw [flatG_len] at hjl
  have hd : j / 4 < L.length := by omega
  obtain ⟨g', off', h1, h2, h3⟩ := hx (j / 4) hd
  rw [hs] at h1
  simp only [Option.some.injEq, Addr.mk.injEq] at h1
  obtain ⟨rfl, rfl, -⟩ := h1
  have e := fm_at egC 4 (fun _ => rfl) L (j / 4) hd (j % 4) (by omega)
  rw [show j / 4 * 4 + j % 4 = j by omega] at e
  rw [show flatG L = L.flatMap egC from rfl, e] at hj
  rw [add_at]
  have hm : j % 4 = 0 ∨ j % 4 = 1 ∨ j % 4 = 2 ∨ j % 4 = 3 := by omega
  obtain ⟨k0, k1, k2, k3⟩ := h3
  rcases hm with q | q | q | q
  · rw [q] at hj; rw [show off + j = off + j / 4 * 4 by omega, k0]; exact hj
  · rw [q] at hj; rw [show off + j = off + j / 4 * 4 + 1 by omega, k1]; exact hj
  · rw [q] at hj; rw [show off + j = off + j / 4 * 4 + 2 by omega, k2]; exact hj
  · rw [q] at hj; rw [show off + j = off + j / 4 * 4 + 3 by omega, k3]; exact hj
theorem flatG_one (l : List Eg) : ∀ u ∈ flatG l, u.oneCell' = true := by
  intro u hu
  obtain ⟨y, hy, hu⟩ := List.mem_flatMap.1 hu
  unfold egC at hu
  simp only [List.mem_cons, List.not_mem_nil, or_false] at hu
  rcases hu with rfl | rfl | rfl | rfl <;> rfl
theorem infoE' : (Try.prog.info? 29).map (fun i => (i.zero, i.size, i.bytes)) = some (some (.agg #[.int .i64 0, .int .i64 0, .int .i64 0, .int .i64 0]), 4, 32) := by kernel_rfl

set_option maxRecDepth 100000 in
theorem clone_nil (w : World) : Calls Try.prog 25 #[.slice none 0 0] w fun e w' => e = .returned (.slice none 0 0) ∧ Below w.heap.size w w' := by
  have hq : ∀ w, Sem.run Try.prog (binOp BinOp.eql 22 (.slice none 0 0) (.slice none 0 0)) w = .ok (.bool true) w := fun w => by kernel_rfl
  go_enter Try.func25, Try.ntmps25
  go_wp2_with fail
  go_ret
  exact ⟨rfl, Below.refl _ _⟩
set_option maxRecDepth 100000 in
set_option maxHeartbeats 1000000 in
theorem clone_some {w : World} {g off m cap : Nat} {L : List Eg} (h : EgV w (.slice (some ⟨g, off, none⟩) m cap) L) (hL : L.length ≤ 16384) :
    Calls Try.prog 25 #[.slice (some ⟨g, off, none⟩) m cap] w fun e w' => ∃ v, e = .returned v ∧ w'.ownsRow w.heap.size 29 4 v L.length (flatG L) ∧ Below w.heap.size w w' := by
  obtain ⟨i, hi, hz, hs, hb⟩ := info_parts infoE'
  obtain ⟨hm, hx⟩ := h.flat
  subst hm
  have H0 : Hid (Below w.heap.size w (w.alloc (.cells #[] 29))) := Lib.hid (by repeat (first | exact Below.refl _ _ | apply Below.setCell _ (by first | omega | (simp <;> omega)) | apply Below.alloc _ (by first | omega | (simp <;> omega))))
  have HX := Lib.hid (h.step H0.out).flat.2
  have HO : Hid ((w.alloc (.cells #[] 29)).ownsRow w.heap.size 29 4 (.slice (some ⟨w.heap.size, 0, none⟩) 0 0) 0 []) := Lib.hid ⟨rfl, .inr ⟨w.heap.size, 0, #[], rfl, Nat.le_refl _, heap_alloc_new w _, Nat.le_refl _, by unfold maxLen; omega, rfl, rfl⟩⟩
  have HN1 : Hid (0 + L.length ≤ maxLen) := Lib.hid (by unfold maxLen; omega)
  have HN2 : Hid ((0 + L.length) * 32 ≤ 140737488355328) := Lib.hid (by omega)
  have HN3 : Hid (w.heap.size ≤ (w.alloc (.cells #[] 29)).heap.size) := Lib.hid H0.out.size
  have hq : ∀ w, Sem.run Try.prog (binOp BinOp.eql 22 (.slice (some ⟨g, off, none⟩) L.length cap) (.slice none 0 0)) w = .ok (.bool false) w := fun w => by kernel_rfl
  clear h hx hL
  go_enter Try.func25, Try.ntmps25
  go_wp2_with (at_builtin; refine wpList_append_own_at _ (by rfl) (.tmp 5) (.tmp 6) 22 (by rfl) w.heap.size 29 i (.agg #[.int .i64 0, .int .i64 0, .int .i64 0, .int .i64 0]) 4 32 Try.underlying22 hi hz hs hb rfl (by decide) (.slice (some ⟨w.heap.size, 0, none⟩) 0 0) 0 [] (by rfl) HO.out ⟨g, off, none⟩ L.length cap (flatG L) (by rfl) (flatG_len L) (HX.out g off rfl) (flatG_one L) HN1.out HN2.out HN3.out ?_; intro v' w' hown hgr hnil hat)
  go_ret
  refine ⟨v', rfl, by simpa using hown, ?_⟩
  exact ⟨hgr.os.trans H0.out.os, hgr.tape.trans H0.out.tape, hgr.output.trans H0.out.output, Nat.le_trans H0.out.size hgr.size, fun k hk => (hgr.block k (Nat.lt_of_lt_of_le hk H0.out.size) (fun q => by simp [Value.ownBlock] at q; omega)).trans (H0.out.block k hk)⟩
theorem edges_any {w : World} {B n : Nat} {L : List Eg} {S : GrS} (h : GrM w B n L S) (hL : L.length ≤ 16384) :
    Calls Try.prog 11 #[(.pointer (some ⟨S.g, 0, none⟩))] w fun e w' => ∃ v, e = .returned v ∧ w'.ownsRow w.heap.size 29 4 v L.length (flatG L) ∧ Below w.heap.size w w' := by
  obtain ⟨c0, c1, c2, c3, cl, cf⟩ := h.cells
  have hr := EgV.of_row h.es
  rcases h.es.2 with ⟨q, q2⟩ | ⟨g, cap, cur, q, _⟩
  · rw [q] at c1
    have hnil : L = [] := List.eq_nil_of_length_eq_zero q2
    subst hnil
    have HC := Lib.hid (clone_nil w)
    clear hr h q q2
    go_enter Try.func11, Try.ntmps11
    go_wp2_with fail
    refine HC.out.mono ?_
    rintro e w1 ⟨rfl, h1⟩
    go_wp2_with fail
    go_ret
    exact ⟨_, rfl, World.ownsRow_nil _ _ _ _, h1⟩
  · rw [q] at c1 hr
    have HC := Lib.hid (clone_some hr hL)
    clear hr h q
    go_enter Try.func11, Try.ntmps11
    go_wp2_with fail
    refine HC.out.mono ?_
    rintro e w1 ⟨v, rfl, ho, h1⟩
    have HO := Lib.hid ho
    clear ho
    go_wp2_with fail
    go_ret
    exact ⟨v, rfl, HO.out, h1⟩
end Go.Proofs.Ytkhgpflpbdakoaa
