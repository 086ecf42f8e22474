/- For any text and any number,ScopeFinds returns true and leaves its arguments as they were. -/
import Derived.Test.YtfehpdliobapfaaGreatDoorRows
import Derived.Lib.SlTrimSet
set_option linter.unusedVariables false
set_option linter.unusedSimpArgs false
namespace Go.Proofs.YtfehpdliobapfaaGreatDoor
def byS (s:ByteArray) (k:Nat):Nat:=if h:k<s.size then (s[k]'h).toNat else 0
theorem byS_get (s:ByteArray) (k:Nat) (h:k<s.size):byS s k=s[k].toNat:=by unfold byS;rw [dif_pos h]
theorem byS_out (s:ByteArray) (k:Nat) (h:s.size<=k):byS s k=0:=by unfold byS;rw [dif_neg (by omega)]
theorem byS_list (s:ByteArray) (k:Nat):byS s k=((s.data.toList[k]?).map UInt8.toNat).getD 0:=by
 unfold byS
 split
 ·rename_i h
  rw [List.getElem?_eq_getElem (by rw [Array.length_toList];exact h)]
  rfl
 ·rename_i h
  rw [List.getElem?_eq_none (by rw [Array.length_toList];exact Nat.le_of_not_lt h)]
  rfl
theorem byS_extract (M:ByteArray) (a b i:Nat) (hb:b<=M.size) (h:i<b-a):byS (M.extract a b) i=byS M (a+i):=by
 rw [byS_get _ i (by rw [ByteArray.size_extract];omega),byS_get M (a+i) (by omega),ByteArray.getElem_extract]
theorem byS_app (a b:ByteArray) (i:Nat):byS (a ++ b) i=if i<a.size then byS a i else byS b (i-a.size):=by
 split
 ·rename_i h
  rw [byS_get _ i (by rw [ByteArray.size_append];omega),byS_get a i h,ByteArray.getElem_append_left h]
 ·rename_i h
  by_cases h2:i<(a ++ b).size
  ·have h3:i-a.size<b.size:=by rw [ByteArray.size_append] at h2;omega
   rw [byS_get _ i h2,byS_get b _ h3,ByteArray.getElem_append_right (by omega)]
  ·rw [byS_out _ _ (by omega),byS_out b _ (by rw [ByteArray.size_append] at h2;omega)]
theorem tl_nil (s:ByteArray):s.toList=[] ↔ s.size=0:=by
 rw [ByteArray.toList_eq]
 constructor
 ·intro h
  have:s.data.toList.length=0:=by rw [h];rfl
  rw [Array.length_toList] at this
  exact this
 ·intro h
  apply List.eq_nil_of_length_eq_zero
  rw [Array.length_toList]
  exact h
theorem tl_ne (s:ByteArray) (h:s.size≠0):¬ s.toList=[]/\(s.toList == [])=false:=by
 have h1:¬ s.toList=[]:=fun e=>h ((tl_nil s).1 e)
 exact ⟨h1,by simpa using h1⟩
theorem empty_of (s:ByteArray) (h:s.size=0):s=⟨#[]⟩:=by
 apply ByteArray.ext
 exact Array.eq_empty_of_size_eq_zero h
def lastM (c:Nat):Bool:=decide (c=32\/c=63\/c=111)
def innerM (M:ByteArray) (d:Nat):Bool:=decide (∀ i,i<d->byS M i=32\/byS M i=63)
def marksB (B:Int) (d:Nat) (M:ByteArray):Bool:=decide (M.size=d+1) && (decide (B=5) || decide (byS M 0=32)) && innerM M d && lastM (byS M d)
def rightB (B:Int) (N:ByteArray) (D:Int) (M:ByteArray):Bool :=
 decide (1<=B/\B<=6) && decide (B=5 ↔ N.size≠0) && decide (0<=D/\D<=4/\(B=6->D=0)) && marksB B D.toNat M
theorem drop_nil (p:UInt8->Bool) (l:List UInt8):l.dropWhile p=[] ↔ ∀ x ∈ l,p x=true:=by
 induction l with
 | nil=>simp
 | cons a l ih =>
  rw [List.dropWhile_cons]
  by_cases h:p a=true
  ·rw [if_pos h,ih];simp [h]
  ·rw [if_neg h]
   constructor
   ·intro e;cases e
   ·intro e;exact absurd (e a List.mem_cons_self) h
theorem trim_nil (l cs:List UInt8):Lib.trimS l cs=[] ↔ ∀ x ∈ l,x ∈ cs:=by
 unfold Lib.trimS Lib.trimLeftS Lib.trimRightS
 rw [drop_nil]
 constructor
 ·intro h
  have h2:l.reverse.dropWhile (cs.contains ·)=[]:=by
   apply Classical.byContradiction
   intro hne
   have hp:=List.head_dropWhile_not (cs.contains ·) hne
   have:=h _ (List.mem_reverse.2 (List.head_mem hne))
   rw [this] at hp
   cases hp
  rw [drop_nil] at h2
  intro x hx
  have:=h2 x (List.mem_reverse.2 hx)
  simpa using this
 ·intro h x hx
  have:x ∈ l:=by
   have h1:=List.mem_reverse.1 hx
   exact List.mem_reverse.1 ((List.dropWhile_sublist _).subset h1)
  simpa using h x this
theorem trim_marks (M:ByteArray) (d:Nat) (hd:d<=M.size):(Lib.trimS (M.extract 0 d).data.toList [32,63]=[]) ↔ innerM M d=true:=by
 rw [trim_nil]
 unfold innerM
 rw [decide_eq_true_iff]
 have hsz:(M.extract 0 d).data.toList.length=d:=by
  rw [Array.length_toList]
  show (M.extract 0 d).size=d
  rw [ByteArray.size_extract];omega
 constructor
 ·intro h i hi
  have hin:=h _ (List.getElem_mem (show i<(M.extract 0 d).data.toList.length by omega))
  have hg:byS M i=((M.extract 0 d).data.toList[i]'(by omega)).toNat:=by
   have:=byS_extract M 0 d i hd (by omega)
   rw [Nat.zero_add] at this
   rw [<- this,byS_list,List.getElem?_eq_getElem (by omega)]
   rfl
  rw [hg]
  simp only [List.mem_cons,List.not_mem_nil,or_false] at hin
  rcases hin with e|e<;>rw [e]<;>decide
 ·intro h x hx
  obtain ⟨i,hi,rfl⟩:=List.getElem_of_mem hx
  have hg:byS M i=((M.extract 0 d).data.toList[i]).toNat:=by
   have:=byS_extract M 0 d i hd (by omega)
   rw [Nat.zero_add] at this
   rw [<- this,byS_list,List.getElem?_eq_getElem (by omega)]
   rfl
  have:=h i (by omega)
  rw [hg] at this
  simp only [List.mem_cons,List.not_mem_nil,or_false]
  rcases this with e|e
  ·left;exact UInt8.toNat_inj.1 e
  ·right;exact UInt8.toNat_inj.1 e
end Go.Proofs.YtfehpdliobapfaaGreatDoor
