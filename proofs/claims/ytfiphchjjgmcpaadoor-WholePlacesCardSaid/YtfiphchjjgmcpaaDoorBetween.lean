/- between: what lies ahead of each of some spans. -/
import Derived.Test.YtfiphchjjgmcpaaDoorSorted
import Derived.OneCell
namespace Go.Proofs.YtfiphchjjgmcpaaDoor
open Go.RowKit
set_option linter.unusedVariables false

theorem infoSpan : (Tryd.prog.info? 24).map (fun i => (i.zero, i.size, i.bytes)) = some (some (.agg #[.int .i64 0, .int .i64 0]), 2, 16) := by kernel_rfl

/-- where the first k of some spans end -/
def atTo (l : List (Int × Int)) : Nat → Int
  | 0 => 0
  | k + 1 => (l.getD k (0, 0)).2
/-- what lies ahead of each of the first k -/
def gapTo (l : List (Int × Int)) : Nat → List (Int × Int)
  | 0 => []
  | k + 1 => if atTo l k < (l.getD k (0, 0)).1 then gapTo l k ++ [(atTo l k, (l.getD k (0, 0)).1)] else gapTo l k
def flat (g : List (Int × Int)) : List Value := g.flatMap fun x => [.int .i64 x.1, .int .i64 x.2]
theorem flat_snoc (g : List (Int × Int)) (x : Int × Int) : flat (g ++ [x]) = flat g ++ [.int .i64 x.1, .int .i64 x.2] := by simp [flat]
theorem gapTo_len (l : List (Int × Int)) (k : Nat) : (gapTo l k).length ≤ k := by
  induction k with
  | zero => simp [gapTo]
  | succ k ih => unfold gapTo; split <;> (try simp) <;> omega

def GpInv (w wr : World) (g : List (Int × Int)) (v : Value) : Prop :=
  Below w.heap.size w wr ∧ wr.ownsRow w.heap.size 24 2 v g.length (flat g)
theorem GpInv.alloc {w wr : World} {v : Value} {g : List (Int × Int)} (h : GpInv w wr g v) (o : Obj) : GpInv w (wr.alloc o) g v := ⟨h.1.alloc h.1.size o, h.2.alloc o⟩
/-- one more gap joins -/
theorem GpInv.yes {w wr w2 : World} {v v' : Value} {g : List (Int × Int)} {x : Int × Int} {o o' : Obj} (h : GpInv w wr g v)
    (hown' : w2.ownsRow w.heap.size 24 2 v' (g.length + 1) (flat g ++ [.int .i64 x.1, .int .i64 x.2])) (hg : ((wr.alloc o).alloc o').grownBy w2 v.ownBlock) : GpInv w w2 (g ++ [x]) v' := by
  obtain ⟨hbel, ho⟩ := h
  refine ⟨Below.grown ((hbel.alloc hbel.size o).alloc (by have := hbel.size; simp; omega) o') hg (by simp; have := hbel.size; omega) (fun j hj => (ho.lt j hj).1), ?_⟩
  rw [flat_snoc]; simpa using hown'
/-- the box ahead of it stays -/
theorem GpInv.box {w wr w2 : World} {v : Value} {g : List (Int × Int)} {a b : Value} {o' : Obj} {T : TypeId} (h : GpInv w wr g v)
    (hg : ((wr.alloc (.cells #[a, b] T)).alloc o').grownBy w2 v.ownBlock) : w2.cell? ⟨wr.heap.size, 1, none⟩ = some b := by
  obtain ⟨hbel, ho⟩ := h
  have hne : wr.heap.size ≠ wr.heap.size + 1 := by omega
  have h1 : w2.heap[wr.heap.size]? = ((wr.alloc (.cells #[a, b] T)).alloc o').heap[wr.heap.size]? := hg.block _ (by simp; omega) (fun e => by
    have := (ho.lt _ e.symm).2; omega)
  have h2 : ((wr.alloc (.cells #[a, b] T)).alloc o').cell? ⟨wr.heap.size, 1, none⟩ = some b := by simp [go_sem]
  unfold World.cell? at h2 ⊢
  simp only [h1]
  exact h2

set_option maxRecDepth 100000 in
set_option maxHeartbeats 2000000 in
theorem between_any (b off n cap : Nat) (l : List (Int × Int)) (w : World) (hl : l.length = n) (hn : n ≤ cap) (hcap : cap ≤ maxLen) (hb : b < w.heap.size) (hr : SpanAt w b off l) (hs : n ≤ 65537) :
    Calls Tryd.prog 23 #[.slice (some ⟨b, off, none⟩) n cap] w fun e w' => ∃ v, e = .returned v ∧ GpInv w w' (gapTo l n) v := by
  obtain ⟨i0, hi, hz0, hz1, hz2⟩ := info_parts infoSpan
  have HR := Lib.hid hr
  have HL := Lib.hid hl
  unfold maxLen at hcap
  clear hr hl
  go_enter Tryd.func23, Tryd.ntmps23
  go_wp2_with fail
  go_loopw [3, 4, 9] (fun u t i wr => ∃ (k : Nat) (v : Value), k ≤ n ∧ i = .int .i64 k ∧ t = .int .i64 (atTo l k) ∧ u = v ∧ GpInv w wr (gapTo l k) v) (fun _ _ i _ => n - (intOf i).toNat)
  case atStart => exact ⟨0, _, Nat.zero_le _, rfl, rfl, rfl, Below.refl _ _, rfl, .inl ⟨rfl, rfl⟩⟩
  case round =>
    obtain ⟨k, v, hk, rfl, rfl, rfl, hinv⟩ := hrel
    by_cases hlt : k < n
    · have hkl : k < l.length := by rw [HL.out]; exact hlt
      have hsz := hinv.1.size
      obtain ⟨c0, c1⟩ := (HR.out.below hinv.1 hb) k hkl
      have HG := gapTo_len l k
      have HA : Hid (atTo l (k + 1) = l[k].2) := Lib.hid (by show (l.getD k (0, 0)).2 = _; rw [getD_get l k hkl])
      have HN : Hid (gapTo l (k + 1) = if atTo l k < l[k].1 then gapTo l k ++ [(atTo l k, l[k].1)] else gapTo l k) := Lib.hid (by
        show (if atTo l k < (l.getD k (0, 0)).1 then gapTo l k ++ [(atTo l k, (l.getD k (0, 0)).1)] else gapTo l k) = _; rw [getD_get l k hkl])
      have HI := Lib.hid hinv
      have HO := Lib.hid hinv.2
      clear hinv
      revert c0 c1 HA HN
      generalize l[k] = x
      obtain ⟨x1, x2⟩ := x
      generalize atTo l k = A at *
      generalize gapTo l k = G at *
      intro c0 c1 HA HN
      dsimp only at c0 c1 HA HN
      by_cases hq : A < x1
      · have EN := Lib.hid (HN.out.trans (if_pos hq))
        go_wp2_with (at_builtin; refine wpList_append_own _ rfl _ _ 22 rfl w.heap.size 24 i0 (.agg #[.int .i64 0, .int .i64 0]) 2 16 Tryd.underlying22 hi hz0 hz1 hz2 rfl (by decide) _ _ _ rfl ((HO.out.alloc _).alloc _) ⟨wr.heap.size + 1, 0, none⟩ 1 1 [.int .i64 A, .int .i64 x1] rfl rfl ?c1 ?c2 ?c3 ?c4 ?c5 ?_)
        case c1 =>
          intro j u hj
          match j, hj with
          | 0, hj => simp at hj; subst hj; simp [Addr.add, go_sem]
          | 1, hj => simp at hj; subst hj; simp [Addr.add, go_sem]
        case c2 => intro u hu; simp at hu; rcases hu with rfl | rfl <;> rfl
        case c3 => unfold maxLen; omega
        case c4 => omega
        case c5 => simp; omega
        intro v' w2 hown' hgrow _
        have HB := HI.out.box hgrow
        have HV := Lib.hid (HI.out.yes (x := (A, x1)) hown' hgrow)
        clear hown' hgrow
        go_wp2_with fail
        go_roundw
        case rel => exact ⟨k + 1, _, by omega, by go_num, by rw [HA.out], rfl, by rw [EN.out]; exact HV.out⟩
        case measure => simp [intOf]; omega
      · have EN := Lib.hid (HN.out.trans (if_neg hq))
        have HV := Lib.hid (HI.out.alloc (.cells #[.int .i64 x1, .int .i64 x2] 24))
        go_wp2_with fail
        go_roundw
        case rel => exact ⟨k + 1, _, by omega, by go_num, by rw [HA.out], rfl, by rw [EN.out]; exact HV.out⟩
        case measure => simp [intOf]; omega
    · have hk' : k = n := by omega
      subst hk'
      go_wp2_with fail
      go_ret
      exact ⟨_, rfl, hinv⟩

end Go.Proofs.YtfiphchjjgmcpaaDoor
