/- ParseWhole -/
import Derived.Test.YtcllbfijhgiclaaGreatDoorWTrM
set_option linter.unusedVariables false
set_option linter.unusedSimpArgs false
namespace Go.Proofs.YtcllbfijhgiclaaGreatDoor
open Go Go.RowKit
def Bx (T : TypeId) (w : World) (b : Nat) (cs : List Value) : Prop:=w.heap[b]? = some (.cells cs.toArray T (0,0))
section
variable {T : TypeId} {w w' : World} {b : Nat} {cs : List Value}
theorem Bx.keep (h : Bx T w b cs) (hb : Below w.heap.size w w') : Bx T w' b cs:=by
 unfold Bx at *;rw [hb.block b (lt_block h)];exact h
theorem Bx.keepB {B : Nat} (h : Bx T w b cs) (hb : Below B w w') (hB : b < B) : Bx T w' b cs:=by
 unfold Bx at *;rw [hb.block b hB];exact h
theorem Bx.set (h : Bx T w b cs) (o : Nat) (v : Value) : Bx T (w.setCell ⟨b,o,none⟩ v) b (cs.set o v):=by
 unfold Bx at *
 rw [heap_setCell_same w b o _ _ v h]
 simp
theorem Bx.other (h : Bx T w b cs) {b' : Nat} (hne : b ≠ b') (o : Nat) (v : Value) : Bx T (w.setCell ⟨b',o,none⟩ v) b cs:=by
 unfold Bx at *
 rw [heap_setCell_other w _ b v (by simpa using hne)];exact h
theorem Bx.lt (h : Bx T w b cs) : b < w.heap.size:=lt_block h
theorem Bx.cell (h : Bx T w b cs) (j : Nat) : w.cell? ⟨b,j,none⟩ = cs[j]?:=by
 rw [cell_at h];simp
theorem Bx.frozen (h : Bx T w b cs) (j : Nat) : w.frozen? ⟨b,j,none⟩ = false:=by
 unfold World.frozen?
 rw [h]
 simp
theorem Bx.alloc (h : Bx T w b cs) (o : Obj) : Bx T (w.alloc o) b cs:=h.keep ((Below.refl _ _).alloc (Nat.le_refl _) _)
theorem Bx.new (T : TypeId) (w : World) (cs : Array Value) : Bx T (w.alloc (.cells cs T)) w.heap.size cs.toList:=by
 unfold Bx;rw [heap_alloc_new]
end
theorem Bx.two {T : TypeId} {w : World} {b : Nat} {u v : Value} (h : Bx T w b [u,v]) : w.cell? ⟨b,0,none⟩ = some u /\ w.cell? ⟨b,1,none⟩ = some v /\ b < w.heap.size /\ ∀ j,w.frozen? ⟨b,j,none⟩ = false:=⟨h.cell 0,h.cell 1,h.lt,h.frozen⟩
theorem new_two {w w1 : World} {T T' : TypeId} {cs rs : Array Value} (h : Below ((w.alloc (.cells cs T)).alloc (.cells rs T')).heap.size ((w.alloc (.cells cs T)).alloc (.cells rs T')) w1) :
  Below w.heap.size w w1 /\ Bx T w1 w.heap.size cs.toList /\ Bx T' w1 (w.heap.size + 1) rs.toList:=by
 have h1 : Below w.heap.size w ((w.alloc (.cells cs T)).alloc (.cells rs T')):=((Below.refl _ _).alloc (Nat.le_refl _) _).alloc (by simp) _
 refine ⟨after h1 h,(((Bx.new T w cs).alloc _).keep h),?_⟩
 have h2:=Bx.new T' (w.alloc (.cells cs T)) rs
 simp only [World.size_alloc] at h2
 exact h2.keep h
theorem BoxN.part {w : World} {g : Nat} {A X C : List Value} (h : BoxN w g (A ++ X ++ C)) (Y : List Value) (hl : Y.length = X.length) : BoxN (w.setCells g A.length Y) g (A ++ Y ++ C):=by
 unfold BoxN at *
 obtain ⟨cur,a1,a2,a3,a4⟩:=row_set g Y A.length w _ h
 rw [a1]
 congr 2
 have hs : cur.size = A.length + X.length + C.length:=by rw [a2];simp;omega
 apply Array.ext_getElem?
 intro i
 by_cases h1 : i < A.length
 ·rw [a4 i (.inl h1)]
  simp only [List.getElem?_toArray]
  rw [List.append_assoc,List.append_assoc,List.getElem?_append_left h1,List.getElem?_append_left h1]
 ·by_cases h2 : i < A.length + Y.length
  ·have:=a3 (i - A.length) (by omega) (by simp;omega)
   rw [show A.length + (i - A.length) = i by omega] at this
   rw [this]
   simp only [List.getElem?_toArray]
   rw [List.append_assoc,List.getElem?_append_right (by omega),List.getElem?_append_left (by omega)]
  ·rw [a4 i (.inr (by omega))]
   simp only [List.getElem?_toArray]
   rw [List.getElem?_append_right (by simp;omega),List.getElem?_append_right (by simp;omega)]
   simp [hl]
theorem part_cells {w : World} {g o : Nat} {A C : List Value} {v0 v1 v2 v3 v4 v5 v6 v7 v8 v9 v10 v11 v12 : Value} (h : BoxN w g (A ++ [v0,v1,v2,v3,v4,v5,v6,v7,v8,v9,v10,v11,v12] ++ C)) (ho : A.length = o) :
  (w.cell? ⟨g,o,none⟩ = some v0 /\ w.cell? ⟨g,o + 1,none⟩ = some v1 /\ w.cell? ⟨g,o + 2,none⟩ = some v2 /\ w.cell? ⟨g,o + 3,none⟩ = some v3 /\ w.cell? ⟨g,o + 4,none⟩ = some v4 /\ w.cell? ⟨g,o + 5,none⟩ = some v5 /\ w.cell? ⟨g,o + 6,none⟩ = some v6 /\ w.cell? ⟨g,o + 7,none⟩ = some v7 /\ w.cell? ⟨g,o + 8,none⟩ = some v8 /\ w.cell? ⟨g,o + 9,none⟩ = some v9 /\ w.cell? ⟨g,o + 10,none⟩ = some v10 /\ w.cell? ⟨g,o + 11,none⟩ = some v11 /\ w.cell? ⟨g,o + 12,none⟩ = some v12) /\ g < w.heap.size /\ ∀ j,w.frozen? ⟨g,j,none⟩ = false:=by
 subst ho
 have key : ∀ j,j < 13 -> w.cell? ⟨g,A.length + j,none⟩ = [v0,v1,v2,v3,v4,v5,v6,v7,v8,v9,v10,v11,v12][j]?:=fun j hj=>by
  rw [h.cell,List.append_assoc,List.getElem?_append_right (by omega),show A.length + j - A.length = j by omega,List.getElem?_append_left (by simpa using hj)]
 exact ⟨⟨key 0 (by omega),key 1 (by omega),key 2 (by omega),key 3 (by omega),key 4 (by omega),key 5 (by omega),key 6 (by omega),key 7 (by omega),key 8 (by omega),key 9 (by omega),key 10 (by omega),key 11 (by omega),key 12 (by omega)⟩,h.lt,h.frozen⟩
end Go.Proofs.YtcllbfijhgiclaaGreatDoor
