/- lines.Of: the table of a text, in new memory. -/
import Derived.Test.YtfiphchjjgmcpaaDoorLinePlain
import Derived.Test.YtfiphchjjgmcpaaDoorSpanG
import Derived.OneCell
namespace Go.Proofs.YtfiphchjjgmcpaaDoor
open Go.RowKit
set_option linter.unusedVariables false

theorem infoInt : (Tryd.prog.info? 3).map (fun i => (i.zero, i.size, i.bytes)) = some (some (.int .i64 0), 1, 8) := by kernel_rfl

/-- numbers as values -/
def nums (l : List Nat) : List Value := l.map fun (n : Nat) => Value.int .i64 (n : Int)
theorem nums_len (l : List Nat) : (nums l).length = l.length := by simp [nums]

/-- a text's table stands at a block -/
def TableAt (w : World) (p : Nat) (s : ByteArray) : Prop :=
  ∃ b cap, p < w.heap.size ∧ b < w.heap.size ∧ w.cell? ⟨p, 0, none⟩ = some (.string s) ∧ w.cell? ⟨p, 1, none⟩ = some (.slice (some ⟨b, 0, none⟩) (begs s).length cap) ∧
    (begs s).length ≤ cap ∧ cap ≤ maxLen ∧ ∀ i (h : i < (begs s).length), w.cell? ⟨b, i, none⟩ = some (.int .i64 ((begs s)[i] : Nat))
theorem TableAt.step {w w' : World} {p : Nat} {s : ByteArray} (h : TableAt w p s) (hb : Below w.heap.size w w') : TableAt w' p s := by
  obtain ⟨b, cap, h1, h2, h3, h4, h5, h6, h7⟩ := h
  have := hb.size
  exact ⟨b, cap, by omega, by omega, keep hb h1 h3, keep hb h1 h4, h5, h6, fun i hi => keep hb h2 (h7 i hi)⟩
theorem TableAt.lt {w : World} {p : Nat} {s : ByteArray} (h : TableAt w p s) : p < w.heap.size := by obtain ⟨b, cap, h1, _⟩ := h; exact h1

/-- what stands in memory while Of goes through its text -/
def OfInv (w wr : World) (p : Nat) (s : ByteArray) (k : Nat) : Prop :=
  ∃ v, Below w.heap.size w wr ∧ w.heap.size ≤ p ∧ wr.heap[p]? = some (.cells #[.string s, v] 51 (0, 0)) ∧ wr.ownsRow w.heap.size 3 1 v (begsTo s k).length (nums (begsTo s k))

theorem two_cells {w : World} {b : Nat} {u v : Value} {t : TypeId} (h : w.heap[b]? = some (.cells #[u, v] t (0, 0))) : w.cell? ⟨b, 0, none⟩ = some u ∧ w.cell? ⟨b, 1, none⟩ = some v ∧ w.frozen? ⟨b, 1, none⟩ = false ∧ b < w.heap.size := by
  refine ⟨by simp [World.cell?, h], by simp [World.cell?, h], by simp [World.frozen?, h], lt_of_block h⟩
theorem two_setCell {w : World} {b : Nat} {u v x : Value} {t : TypeId} (h : w.heap[b]? = some (.cells #[u, v] t (0, 0))) : (w.setCell ⟨b, 1, none⟩ x).heap[b]? = some (.cells #[u, x] t (0, 0)) := by
  have hlt := lt_of_block h
  have h' : w.heap[b] = .cells #[u, v] t (0, 0) := by simpa [Array.getElem?_eq_getElem hlt] using h
  show (w.heap.modify b _)[b]? = _
  rw [Array.getElem?_eq_getElem (by simpa using hlt), Array.getElem_modify_self, h']
  rfl
theorem row_other {w : World} {B p n : Nat} {v u x : Value} {xs : List Value} {T E : TypeId} (hT : T ≠ E) (h : w.heap[p]? = some (.cells #[u, x] T (0, 0))) (ho : w.ownsRow B E 1 v n xs) : v.ownBlock ≠ some p := by
  obtain ⟨_, h2⟩ := ho
  rcases h2 with ⟨rfl, _⟩ | ⟨g, cap, cur, rfl, _, hh, _⟩
  · simp [Value.ownBlock]
  · simp only [Value.ownBlock, ne_eq, Option.some.injEq]
    rintro rfl
    rw [h] at hh
    simp at hh
    exact hT hh.2

theorem row_shape {w : World} {B n : Nat} {v : Value} {xs : List Value} {E : TypeId} (ho : w.ownsRow B E 1 v n xs) (h : 0 < n) : ∃ g cap, v = .slice (some ⟨g, 0, none⟩) n cap := by
  obtain ⟨_, h2⟩ := ho
  rcases h2 with ⟨rfl, h0⟩ | ⟨g, cap, cur, rfl, _⟩
  · omega
  · exact ⟨g, cap, rfl⟩

theorem OfInv.yes {w wr w2 : World} {p : Nat} {s : ByteArray} {k : Nat} {v v' : Value} {o : Obj} (hn : nlAt s k = true)
    (hbel : Below w.heap.size w wr) (hp : w.heap.size ≤ p) (hh : wr.heap[p]? = some (.cells #[.string s, v] 51 (0, 0))) (ho : wr.ownsRow w.heap.size 3 1 v (begsTo s k).length (nums (begsTo s k)))
    (hown' : w2.ownsRow w.heap.size 3 1 v' ((begsTo s k).length + 1) (nums (begsTo s k) ++ [.int .i64 ((k : Int) + 1)])) (hg : (wr.alloc o).grownBy w2 v.ownBlock) :
    w2.cell? ⟨p, 1, none⟩ = some v ∧ w2.frozen? ⟨p, 1, none⟩ = false ∧ OfInv w (w2.setCell ⟨p, 1, none⟩ v') p s (k + 1) := by
  have hlt := lt_of_block hh
  have hne := row_other (by decide) hh ho
  have h1 : (wr.alloc o).heap[p]? = some (.cells #[.string s, v] 51 (0, 0)) := by rw [Below.heap_alloc _ _ _ hlt]; exact hh
  have h2 : w2.heap[p]? = some (.cells #[.string s, v] 51 (0, 0)) := by rw [hg.block p (by simp; omega) (fun e => hne e.symm)]; exact h1
  obtain ⟨-, c1, f1, -⟩ := two_cells h2
  refine ⟨c1, f1, v', ?_, hp, two_setCell h2, ?_⟩
  · refine Below.setCell ?_ hp _
    refine Below.grown (hbel.alloc hbel.size o) hg (by simp; have := hbel.size; omega) ?_
    intro j hj
    exact (ho.lt j hj).1
  · rw [begsTo_yes hn]
    have h3 : w2.ownsRow w.heap.size 3 1 v' (begsTo s k ++ [k + 1]).length (nums (begsTo s k ++ [k + 1])) := by
      have e : nums (begsTo s k ++ [k + 1]) = nums (begsTo s k) ++ [.int .i64 ((k : Int) + 1)] := by simp [nums]
      rw [e]; simpa using hown'
    exact ownsRow_setCell_other h3 (row_other (by decide) h2 h3) _

theorem OfInv.table {w wr : World} {p : Nat} {s : ByteArray} (h : OfInv w wr p s s.size) (hs : s.size ≤ 65536) : TableAt wr p s := by
  obtain ⟨v, hbel, hp, hh, ho⟩ := h
  obtain ⟨c0, c1, f1, hlt⟩ := two_cells hh
  have hl := begs_len s
  change wr.ownsRow w.heap.size 3 1 v (begs s).length (nums (begs s)) at ho
  have ho' := ho
  obtain ⟨hx, h2⟩ := ho
  rcases h2 with ⟨rfl, h0⟩ | ⟨g, cap, cur, rfl, hg, hgh, hn, hcap, hcs, htk⟩
  · omega
  · refine ⟨g, cap, hlt, lt_of_block hgh, c0, c1, hn, hcap, ?_⟩
    intro i hi
    have := ho'.cells (g := g) rfl i (.int .i64 ((begs s)[i] : Nat)) (by simp [nums, hi])
    have e : (⟨g, 0, none⟩ : Addr).add i = ⟨g, i, none⟩ := by unfold Addr.add; by_cases h : i = 0 <;> simp [h]
    rwa [e] at this

theorem OfInv.start {w w1 : World} {s : ByteArray} (h : Below w.heap.size w w1) :
    OfInv w ((w1.alloc (.cells #[.int .i64 0] 3)).alloc (.cells #[.string s, .slice (some ⟨w1.heap.size, 0, none⟩) 1 1] 51)) (w1.heap.size + 1) s 0 := by
  have hz := h.size
  refine ⟨.slice (some ⟨w1.heap.size, 0, none⟩) 1 1, by repeat (first | exact Below.refl _ _ | apply Below.setCell _ (by first | omega | (simp <;> omega)) | apply Below.alloc _ (by first | omega | (simp <;> omega)) | exact h | refine after ?_ h), by omega, ?_, rfl, .inr ⟨w1.heap.size, 1, #[.int .i64 0], rfl, hz, ?_, Nat.le_refl _, by decide, rfl, rfl⟩⟩
  · have := heap_alloc_new (w1.alloc (.cells #[.int .i64 0] 3)) (.cells #[.string s, .slice (some ⟨w1.heap.size, 0, none⟩) 1 1] 51)
    simpa using this
  · rw [Below.heap_alloc _ _ _ (by simp)]
    exact heap_alloc_new _ _

/-- what Of answers to a text that isn't too long -/
def OfPost (w : World) (s : ByteArray) (e : Ending) (w' : World) : Prop :=
  ∃ p, e = .returned (.tuple #[.pointer (some ⟨p, 0, none⟩), .int .i64 0]) ∧ w.heap.size ≤ p ∧ TableAt w' p s ∧ Below w.heap.size w w'

set_option maxHeartbeats 1000000 in
theorem lof_long (s : ByteArray) (w : World) (hs : 65536 < s.size) (hm : s.size ≤ maxLen) :
    Calls Tryd.prog 5 #[.string s] w fun e w' => e = .returned (.tuple #[.pointer none, .int .i64 2]) ∧ Below w.heap.size w w' := by
  unfold maxLen at hm
  go_enter Tryd.func5, Tryd.ntmps5
  go_wp2_with fail
  go_ret2
  exact ⟨rfl, Below.refl _ _⟩

set_option maxRecDepth 100000 in
set_option maxHeartbeats 1000000 in
theorem lof_any (s : ByteArray) (w : World) (hs : s.size ≤ 65536) :
    Calls Tryd.prog 5 #[.string s] w (OfPost w s) := by
  obtain ⟨i0, hi, hz0, hz1, hz2⟩ := info_parts infoInt
  go_enter Tryd.func5, Tryd.ntmps5
  go_wp2_with fail
  refine (clone_any _ _ (by omega)).mono ?_
  rintro e w1 ⟨rfl, h01⟩
  have hz := h01.size
  go_wp2_with fail
  go_loopw [16] (fun i wr => ∃ k : Nat, k ≤ s.size ∧ i = .int .i64 k ∧ OfInv w wr (w1.heap.size + 1) s k) (fun i _ => s.size - (intOf i).toNat)
  case atStart => exact ⟨0, Nat.zero_le _, rfl, OfInv.start h01⟩
  case round =>
    obtain ⟨k, hk, rfl, hinv⟩ := hrel
    have HI := Lib.hid hinv
    by_cases hlt : k < s.size
    · cases hn : nlAt s k
      · have HI' := Lib.hid (show OfInv w wr (w1.heap.size + 1) s (k + 1) by
          obtain ⟨v, q1, q2, q3, q4⟩ := hinv
          exact ⟨v, q1, q2, q3, by rw [begsTo_no hn]; exact q4⟩)
        have hb : ((s[k].toNat : Int) == 10) = false := by rw [nlAt_int s k hlt]; exact hn
        clear hinv hn
        go_wp2_with fail
        go_roundw
        case rel => exact ⟨k + 1, by omega, by go_num, HI'.out⟩
        case measure => simp [intOf]; omega
      · have HN := Lib.hid hn
        have hb : ((s[k].toNat : Int) == 10) = true := by rw [nlAt_int s k hlt]; exact hn
        clear hn
        obtain ⟨v, hbel, hp, hh, hown⟩ := hinv
        obtain ⟨c0, c1, f1, hzp⟩ := two_cells hh
        have HB := Lib.hid hbel
        have HH := Lib.hid hh
        have HO := Lib.hid hown
        have hsz := hbel.size
        have hlen := begsTo_len s k
        clear hh hown
        go_wp2_with (at_builtin; refine wpList_append_own _ rfl _ _ 49 rfl w.heap.size 3 i0 (.int .i64 0) 1 8 Tryd.underlying49 hi hz0 hz1 hz2 rfl (by decide) _ _ _ rfl (HO.out.alloc _) ⟨wr.heap.size, 0, none⟩ 1 1 [.int .i64 ((k : Int) + 1)] rfl rfl ?c1 ?c2 ?c3 ?c4 ?c5 ?_)
        case c1 =>
          intro j u hj
          match j, hj with
          | 0, hj => simp at hj; subst hj; simp [Addr.add]
        case c2 => intro u hu; simp at hu; subst hu; rfl
        case c3 => unfold maxLen; omega
        case c4 => omega
        case c5 => simp; omega
        intro v' w2 hown' hgrow _
        obtain ⟨d1, g1, R⟩ := OfInv.yes HN.out HB.out hp HH.out HO.out hown' hgrow
        obtain ⟨g, gcap, hv⟩ := row_shape hown' (by omega)
        rw [hv] at R
        rw [hv]
        have HR := Lib.hid R
        clear R hown' hgrow hv
        go_wp2_with fail
        go_roundw
        case rel => exact ⟨k + 1, by omega, by go_num, HR.out⟩
        case measure => simp [intOf]; omega
    · have hk' : k = s.size := by omega
      go_wp2_with fail
      go_ret2
      rw [hk'] at hinv
      have hb := hinv
      obtain ⟨v, hbel, hp, -, -⟩ := hb
      exact ⟨_, rfl, by omega, hinv.table hs, hbel⟩

end Go.Proofs.YtfiphchjjgmcpaaDoor
