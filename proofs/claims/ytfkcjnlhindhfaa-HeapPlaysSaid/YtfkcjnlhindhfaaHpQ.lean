/- The walk of HeapPlays: more acts than are asked of. -/
import Derived.Test.YtfkcjnlhindhfaaHpO
import Derived.Deep.RegionHeld3
import Derived.Deep.CutRange
import Derived.Deep.CutBlock
namespace Go.Proofs.Ytfkcjnlhindhfaa
open Go Go.RowKit
set_option linter.unusedVariables false
set_option linter.unusedSimpArgs false

def Keeps : Prop := ∀ w : World, Calls Try.prog 5 #[] w fun e w' => e = .returned (.bool true) ∧ Below w.heap.size w w'
def YesP (w : World) (e : Ending) (w' : World) : Prop := e = .returned (.bool true) ∧ Below w.heap.size w w'
/-- the loop over the acts -/
structure PInv (w0 W : World) (B k n : Nat) (av : Value) : Prop where
  ex : ∃ L v A, PM w0 W B L n v A av ∧ A.map (·.1) = L.map (·.1) ∧ L.length ≤ k ∧ ∀ x ∈ L, (x.1.arr = false → x.1.ty = (0, ⟨#[]⟩, 0, ⟨#[]⟩)) ∧ (x.1.arr = true → x.1.cls = ⟨#[]⟩)

set_option maxRecDepth 100000 in
set_option maxHeartbeats 4000000 in
theorem plays_long (HK : Keeps) (src : Option Addr) (len cap : Nat) (w : World) (h : 40 < len) (hl : len ≤ 9223372036854775807) : Calls Try.prog 3 #[.slice src len cap] w (YesP w) := by
  have HKH := Lib.hid HK
  clear HK
  have d1 : (40 : Int) < (len : Int) := by omega
  go_enter Try.func3, Try.ntmps3
  go_wp2_with fail
  refine (HKH.out _).mono ?_
  rintro e w1 ⟨rfl, h1'⟩
  go_wp2_with fail
  go_ret
  exact ⟨rfl, h1'⟩

/-- an object or array of the statement's own that is being made, in a box -/
structure CB (w0 W : World) (B : Nat) (L : List ThR) (n : Nat) (v : Value) (A : List CeR) (av : Value) (Wb : World) (t : Th) (vv : Value) (vals : List Vl) : Prop where
  pm : PM w0 Wb B L n v A av
  bel : Below Wb.heap.size Wb W
  box : Bx 40 W Wb.heap.size (ceC (t, vv))
  own : W.ownsRow Wb.heap.size 32 3 vv vals.length (flatV vals)
theorem CB.keep {w0 W W' : World} {B n : Nat} {L : List ThR} {v av vv : Value} {A : List CeR} {Wb : World} {t : Th} {vals : List Vl} (h : CB w0 W B L n v A av Wb t vv vals) (hb : Below W.heap.size W W') : CB w0 W' B L n v A av Wb t vv vals :=
  ⟨h.pm, h.bel.trans (hb.mono h.bel.size), h.box.keep hb, ownsRow_step h.own hb⟩
theorem CB.start {w0 Wb : World} {B n : Nat} {L : List ThR} {v av : Value} {A : List CeR} (h : PM w0 Wb B L n v A av) (t : Th) : CB w0 (Wb.alloc (.cells (ceC (t, .slice none 0 0)).toArray 40)) B L n v A av Wb t (.slice none 0 0) [] :=
  ⟨h, (Below.refl _ _).alloc (Nat.le_refl _) _, Bx.new 40 Wb _, World.ownsRow_nil _ _ _ _⟩
theorem CB.push {w0 W w5 : World} {B n : Nat} {L : List ThR} {v av vv vv' : Value} {A : List CeR} {Wb : World} {t : Th} {vals : List Vl} {o : Obj} (h : CB w0 W B L n v A av Wb t vv vals) (x : Vl)
    (hown : w5.ownsRow Wb.heap.size 32 3 vv' (vals.length + 1) (flatV vals ++ vC x)) (hg : (W.alloc o).grownBy w5 vv.ownBlock) :
    CB w0 (w5.setCell ⟨Wb.heap.size, 6, none⟩ vv') B L n v A av Wb t vv' (vals ++ [x]) ∧ Bx 40 w5 Wb.heap.size (ceC (t, vv)) := by
  have hbx : Bx 40 w5 Wb.heap.size (ceC (t, vv)) := h.box.at_ (k := 0) (by rw [hg.block _ (by have := h.box.lt; simp; omega) (own_ne h.own h.box (by decide)), Below.heap_alloc W _ _ h.box.lt])
  have hbl : Below Wb.heap.size Wb w5 := Below.grown (h.bel.alloc h.bel.size o) hg (by have := h.bel.size; simp; omega) (fun j hj => (h.own.lt j hj).1)
  refine ⟨⟨h.pm, hbl.setCell (p := ⟨Wb.heap.size, 6, none⟩) (Nat.le_refl _) vv', hbx.set 6 vv', ?_⟩, hbx⟩
  rw [List.length_append, show flatV (vals ++ [x]) = flatV vals ++ vC x by unfold flatV; simp]
  refine own_stay hown fun g hq => heap_setCell_other _ _ g vv' fun e => ?_
  obtain ⟨c, hc⟩ := own_type hown hq
  simp at e
  subst e
  unfold Bx at hbx
  rw [hbx] at hc
  simp at hc
theorem CB.done {w0 W w' : World} {B n : Nat} {L : List ThR} {v av av' vv : Value} {A : List CeR} {Wb : World} {arr : Bool} {cls : ByteArray} {ty : Ty4} {vals : List Vl} {o' : Obj} (h : CB w0 W B L n v A av Wb ⟨arr, cls, ty, []⟩ vv vals)
    (hown : w'.ownsRow B 40 7 av' (A.length + 1) (flatC A ++ ceC (⟨arr, cls, ty, []⟩, vv))) (hg : (W.alloc o').grownBy w' av.ownBlock) : PM w0 w' B L n v (A ++ [(⟨arr, cls, ty, vals⟩, vv)]) av' ∧ Bx 40 w' Wb.heap.size (ceC (⟨arr, cls, ty, []⟩, vv)) := by
  have hB : B ≤ Wb.heap.size := Nat.le_of_lt h.pm.size
  have hlow : ∀ g, vv.ownBlock = some g → Wb.heap.size ≤ g := fun g hq => (h.own.lt g hq).1
  have hpm := h.pm.step h.bel
  refine ⟨hpm.grow (y := (⟨arr, cls, ty, vals⟩, vv)) (own_base h.own hB) (fun x hx e => ?_) (fun z hz g hq e => ?_) hown hg, h.box.at_ (k := 0) (by
    have hne : some Wb.heap.size ≠ av.ownBlock := fun e => by have := (h.pm.row.lt _ e.symm).2; omega
    rw [hg.block _ (by have := h.box.lt; simp; omega) hne, Below.heap_alloc W _ _ h.box.lt])⟩
  · have := hlow _ e
    have h2 := (h.pm.hp.cells x hx).2.lt
    omega
  · have := hlow _ e
    have h2 := ((h.pm.vals z hz).lt g hq).2
    omega
theorem infoVal2 : ∃ i, Try.prog.info? 32 = some i ∧ i.zero = some (.agg #[.int .i64 0, .int .i64 0, .string ⟨#[]⟩]) ∧ i.size = 3 ∧ i.bytes = 32 := info_parts infoVal
theorem infoCell : (Try.prog.info? 40).map (fun i => (i.zero, i.size, i.bytes)) = some (some (.agg #[.string ⟨#[]⟩, .int .i64 0, .string ⟨#[]⟩, .int .i64 0, .string ⟨#[]⟩, .bool false, .slice none 0 0]), 7, 96) := by kernel_rfl
theorem PInv.next {w0 W : World} {B k n g : Nat} {L : List ThR} {v av vv : Value} {A : List CeR} {t : Th} (h : PM w0 W B (L ++ [(t, g)]) n v (A ++ [(t, vv)]) av) (hs : A.map (·.1) = L.map (·.1)) (hk : L.length ≤ k)
    (hz : ∀ x ∈ L, (x.1.arr = false → x.1.ty = (0, ⟨#[]⟩, 0, ⟨#[]⟩)) ∧ (x.1.arr = true → x.1.cls = ⟨#[]⟩)) (ht : (t.arr = false → t.ty = (0, ⟨#[]⟩, 0, ⟨#[]⟩)) ∧ (t.arr = true → t.cls = ⟨#[]⟩)) : PInv w0 W B (k + 1) n av :=
  ⟨_, _, _, h, by rw [List.map_append, List.map_append, hs]; rfl, by rw [List.length_append]; simp; omega, fun x hx => by
    rcases List.mem_append.1 hx with hx | hx
    · exact hz x hx
    · rw [List.mem_singleton] at hx
      subst hx
      exact ht⟩
theorem same_at {A : List CeR} {L : List ThR} (hs : A.map (·.1) = L.map (·.1)) (i : Nat) (hiA : i < A.length) (hi : i < L.length) : A[i].1 = L[i].1 := by
  have h1 : (A.map (·.1))[i]? = (L.map (·.1))[i]? := by rw [hs]
  rw [List.getElem?_map, List.getElem?_map, List.getElem?_eq_getElem hiA, List.getElem?_eq_getElem hi] at h1
  simpa using h1
theorem there_at {L : List ThR} {k n : Int} (h : thereN L k n = true) : k = 5 ∧ ∃ i : Nat, n = i ∧ i < L.length := by
  unfold thereN at h
  simp only [Bool.and_eq_true, beq_iff_eq, decide_eq_true_iff] at h
  exact ⟨h.1.1, n.toNat, by omega, by omega⟩
end Go.Proofs.Ytfkcjnlhindhfaa
