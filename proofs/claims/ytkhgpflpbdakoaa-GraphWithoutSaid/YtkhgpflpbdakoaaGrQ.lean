/- A queue of whole numbers in memory: taken from ahead, given to behind; rows of numbers by their places. -/
import Derived.Test.YtkhgpflpbdakoaaGrP
import Derived.Test.YtkhgpflpbdakoaaGrC
import Derived.ArgAppend
namespace Go.Proofs.Ytkhgpflpbdakoaa
open Go Go.RowKit
set_option linter.unusedVariables false
set_option linter.unusedSimpArgs false

/-- a queue: a part of a row of its own -/
def Qu (w : World) (B : Nat) (v : Value) (l : List Int) : Prop :=
  ∃ g off cap cur, v = .slice (some ⟨g, off, none⟩) l.length cap ∧ B ≤ g ∧ w.heap[g]? = some (.cells cur 3 (0, 0)) ∧ l.length ≤ cap ∧ off + cap ≤ cur.size ∧ cap ≤ maxLen ∧ ∀ j (h : j < l.length), cur[off + j]? = some (.int .i64 l[j])
theorem Qu.shape {w : World} {B : Nat} {v : Value} {l : List Int} (h : Qu w B v l) : ∃ g off cap, v = .slice (some ⟨g, off, none⟩) l.length cap ∧ B ≤ g ∧ g < w.heap.size ∧ l.length ≤ cap ∧ cap ≤ maxLen ∧ (∀ j (h : j < l.length), w.cell? ⟨g, off + j, none⟩ = some (.int .i64 l[j])) ∧ Qu w B (.slice (some ⟨g, off, none⟩) l.length cap) l := by
  obtain ⟨g, off, cap, cur, hv, hB, hg, hl, hc, hm, hx⟩ := h
  refine ⟨g, off, cap, hv, hB, lt_block hg, hl, hm, fun j hj => ?_, g, off, cap, cur, rfl, hB, hg, hl, hc, hm, hx⟩
  rw [cell_at hg]
  exact hx j hj
theorem Qu.at_ {w w' : World} {B g off n cap : Nat} {l : List Int} (h : Qu w B (.slice (some ⟨g, off, none⟩) n cap) l) (hk : w'.heap[g]? = w.heap[g]?) : Qu w' B (.slice (some ⟨g, off, none⟩) n cap) l := by
  obtain ⟨g', off', cap', cur, hv, hB, hg, r⟩ := h
  simp only [Value.slice.injEq, Option.some.injEq, Addr.mk.injEq] at hv
  obtain ⟨⟨rfl, rfl, -⟩, h2, rfl⟩ := hv
  exact ⟨g, off, cap, cur, by rw [h2], hB, by rw [hk]; exact hg, r⟩
theorem Qu.pop {w : World} {B g off n cap : Nat} {x : Int} {l : List Int} (h : Qu w B (.slice (some ⟨g, off, none⟩) n cap) (x :: l)) :
    Qu w B (.slice (some ⟨g, if cap = 1 then off else off + 1, none⟩) l.length (cap - 1)) l := by
  obtain ⟨g', off', cap', cur, hv, hB, hg, hl, hc, hm, hx⟩ := h
  simp only [Value.slice.injEq, Option.some.injEq, Addr.mk.injEq] at hv
  obtain ⟨⟨rfl, rfl, -⟩, h2, rfl⟩ := hv
  rw [List.length_cons] at hl
  refine ⟨g, _, _, cur, rfl, hB, hg, by omega, by split <;> omega, by omega, fun j hj => ?_⟩
  have := hx (j + 1) (by simpa using hj)
  rw [List.getElem_cons_succ] at this
  rw [← this]
  congr 1
  split <;> omega
/-- one more behind -/
theorem Qu.push {w : World} {B g off n cap : Nat} {l : List Int} (h : Qu w B (.slice (some ⟨g, off, none⟩) n cap) l) (hB : B ≤ w.heap.size) (x : Int) (ty : TypeId) (ad : Addr) (c : Nat) (hn : l.length < 1000000) (ha : w.cell? (ad.add 0) = some (.int .i64 x)) :
    ∃ v' w', (Builtin.append_ #[44, 44] ty #[.slice (some ⟨g, off, none⟩) n cap, .slice (some ad) 1 c]).run Try.prog w = .ok v' w' ∧ Qu w' B v' (l ++ [x]) ∧ w.grownBy w' (some g) ∧ (v'.ownBlock = some g ∨ ∃ g2, v'.ownBlock = some g2 ∧ w.heap.size ≤ g2) := by
  obtain ⟨g', off', cap', cur, hv, hBg, hg, hl, hc, hm, hx⟩ := h
  simp only [Value.slice.injEq, Option.some.injEq, Addr.mk.injEq] at hv
  obtain ⟨⟨rfl, rfl, -⟩, h2, rfl⟩ := hv
  subst h2
  obtain ⟨i, hi, hz, hs, hb⟩ := info_parts (show (Try.prog.info? 3).map (fun i => (i.zero, i.size, i.bytes)) = some (some (.int .i64 0), 1, 8) by kernel_rfl)
  have hnews : ∀ j u, ([.int .i64 x] : List Value)[j]? = some u → w.cell? (ad.add j) = some u := by
    intro j u hj
    match j, hj with
    | 0, hj => simp at hj; subst hj; exact ha
  have h1 : ∀ u ∈ ([.int .i64 x] : List Value), u.oneCell' = true := by intro u hu; rw [List.mem_singleton] at hu; rw [hu]; rfl
  by_cases hroom : l.length + 1 ≤ cap
  · have hr := run_append_room_cells (P := Try.prog) w 44 ty 3 i Try.underlying44 hi g off l.length cap ad 1 c [.int .i64 x] (by rw [hs]; rfl) hnews h1 hroom
      (fun j hj => by
        have : j = 0 := by simpa using hj
        subst this
        rw [hs, cell_at hg, Nat.mul_one, Nat.add_zero, Array.getElem?_eq_getElem (by omega)]
        rfl)
      (fun j hj => by simp [World.frozen?, hg])
    refine ⟨_, _, hr, ?_, ?_, .inl rfl⟩
    · rw [hs, Nat.mul_one]
      have e : w.setCells g (off + l.length) [.int .i64 x] = w.setCell ⟨g, off + l.length, none⟩ (.int .i64 x) := rfl
      rw [e]
      have hg' : (w.setCell ⟨g, off + l.length, none⟩ (.int .i64 x)).heap[g]? = some (.cells (cur.setIfInBounds (off + l.length) (.int .i64 x)) 3 (0, 0)) := by
        simp only [World.setCell, Array.getElem?_modify, if_pos, hg, Option.map_some]
        rfl
      refine ⟨g, off, cap, _, by rw [List.length_append]; rfl, hBg, hg', by rw [List.length_append]; exact hroom, by simpa using hc, hm, fun j hj => ?_⟩
      rw [List.length_append, List.length_singleton] at hj
      rw [Array.getElem?_setIfInBounds]
      by_cases hjl : j = l.length
      · subst hjl
        rw [if_pos rfl, if_pos (by omega)]
        simp
      · rw [if_neg (by omega), hx j (by omega)]
        rw [List.getElem_append_left (by omega)]
    · rw [hs, Nat.mul_one]
      exact ⟨rfl, rfl, rfl, by simp [World.setCell, World.setCells], fun k hk hne => heap_setCell_other _ _ k _ (fun q => hne (by rw [q]))⟩
  · have hr := run_append_arg_grows (P := Try.prog) w 44 ty 3 i (.int .i64 0) 1 8 Try.underlying44 hi hz hs hb rfl (by decide) ⟨g, off, none⟩ l.length cap (l.map (Value.int .i64)) (by simp)
      (fun j u hj => by
        rw [List.getElem?_map] at hj
        rw [add_at, cell_at hg]
        have hjl : j < l.length := by
          rcases Nat.lt_or_ge j l.length with q | q
          · exact q
          · rw [List.getElem?_eq_none q] at hj; cases hj
        rw [List.getElem?_eq_getElem hjl] at hj
        rw [hx j hjl]
        exact hj)
      ad 1 c [.int .i64 x] rfl hnews (by omega) (by unfold maxLen; omega) (by omega)
    obtain ⟨v', w', hrun, hown, hgr⟩ := hr
    refine ⟨v', w', hrun, ?_, ⟨hgr.os, hgr.tape, hgr.output, hgr.size, fun k hk _ => hgr.block k hk (by simp)⟩, ?_⟩
    · rcases hown.2 with ⟨_, q⟩ | ⟨g2, cap2, cur2, hv2, hge, hg2, hn2, hc2, hs2, ht2⟩
      · omega
      · refine ⟨g2, 0, cap2, cur2, by rw [hv2, List.length_append]; rfl, by omega, hg2, by rw [List.length_append]; exact hn2, by omega, hc2, fun j hj => ?_⟩
        rw [Nat.zero_add, ← Array.getElem?_toList]
        rw [List.length_append, List.length_singleton] at hj
        have e : cur2.toList[j]? = (cur2.toList.take ((l.length + 1) * 1))[j]? := by rw [List.getElem?_take, if_pos (by omega)]
        rw [e, ht2]
        have e2 : l.map (Value.int .i64) ++ [.int .i64 x] = (l ++ [x]).map (Value.int .i64) := by simp
        rw [e2, List.getElem?_map, List.getElem?_eq_getElem (by simpa using hj)]
        rfl
    · rcases hown.2 with ⟨_, q⟩ | ⟨g2, cap2, cur2, hv2, hge, hg2, _⟩
      · omega
      · exact .inr ⟨g2, by rw [hv2]; rfl, hge⟩

/-- .. at the operation -/
theorem wpList_push (w : World) {ops : Array Oper} {rest : List Oper} {o : Oper} {a : Act} {Q : Exit → Act → World → Prop} (hgd : o.guard = none) (s x : Operand)
    (ho : o.op = .call { callee := .builtin .append, args := #[s, x], argTypes := #[44, 44] }) {B g off n cap : Nat} {l : List Int} (hs : a.eval s = .slice (some ⟨g, off, none⟩) n cap)
    (hq : Qu w B (.slice (some ⟨g, off, none⟩) n cap) l) (hB : B ≤ w.heap.size) (y : Int) (ad : Addr) (c : Nat) (hx : a.eval x = .slice (some ad) 1 c) (hn : l.length < 1000000) (ha : w.cell? (ad.add 0) = some (.int .i64 y))
    (h : ∀ v' w', Qu w' B v' (l ++ [y]) → w.grownBy w' (some g) → (v'.ownBlock = some g ∨ ∃ g2, v'.ownBlock = some g2 ∧ w.heap.size ≤ g2) → wpList Try.prog ops Q rest (a.put o.dst v') w') :
    wpList Try.prog ops Q (o :: rest) a w := by
  refine wpList_plain hgd fun K hK => ?_
  obtain ⟨v', w', hr, h2, h3, h4⟩ := hq.push hB y o.type ad c hn ha
  unfold Oper.wp execOp
  simp only [ho, resolve, invoke, builtin, Sem.run_bind, Sem.run_pure, Result.andThen_ok, List.map_toArray, List.map_cons, List.map_nil, hs, hx, hr]
  exact hK _ _ (h v' w' h2 h3 h4)

/-- a row of numbers by their places -/
def rowF (n : Nat) (F : Nat → Int) : List Value := (List.range n).map fun z => .int .i64 (F z)
theorem rowF_len (n : Nat) (F : Nat → Int) : (rowF n F).length = n := by unfold rowF; simp
theorem rowF_at {n : Nat} (F : Nat → Int) {z : Nat} (h : z < n) : (rowF n F)[z]? = some (.int .i64 (F z)) := by unfold rowF; rw [List.getElem?_map, List.getElem?_range h]; rfl
theorem rowF_set {n : Nat} (F : Nat → Int) {z : Nat} (h : z < n) (x : Int) : (rowF n F).set z (.int .i64 x) = rowF n (up F z x) := by
  apply List.ext_getElem?
  intro j
  rw [List.getElem?_set]
  unfold rowF
  rw [List.getElem?_map, List.getElem?_map, List.length_map, List.length_range]
  by_cases hj : z = j
  · subst hj
    rw [if_pos rfl, if_pos h, List.getElem?_range h]
    simp [up_same]
  · rw [if_neg hj]
    by_cases hjn : j < n
    · rw [List.getElem?_range hjn]
      simp [up_other _ _ (Ne.symm hj)]
    · rw [List.getElem?_eq_none (by simpa using hjn)]
      rfl
end Go.Proofs.Ytkhgpflpbdakoaa
