/- For any text and any number,ScopeFinds returns true and leaves its arguments as they were. -/
import Derived.Test.YtfehpdliobapfaaGreatDoorFPaNG
import Derived.Test.YtfehpdliobapfaaGreatDoorFPaMF
import Derived.Test.YtfehpdliobapfaaGreatDoorFLexWi
set_option linter.unusedVariables false
set_option linter.unusedSimpArgs false
namespace Go.Proofs.YtfehpdliobapfaaGreatDoor.G
open Go Go.RowKit
theorem wrap64_in (z:Int) : -9223372036854775808<=wrap64 z/\wrap64 z<=9223372036854775807:=by unfold wrap64;omega
theorem long_most (k:Nat):L.longG k<=256:=by unfold L.longG;repeat (first|split|omega)
section
variable {x s u:ByteArray}
theorem tok_size (h:codeX x=0) {l:List L.Tok} (hl:∀ k (h:k<l.length),L.TokOk (L.byS x) x.size (L.atK l k) l[k]) (k:Nat) (hk:k<l.length):l[k].2.2-l[k].2.1<=256:=by
 obtain ⟨h1,h2,h3,h4,h5,h6,h7,h8,h9⟩:=hl k hk
 obtain ⟨e,-,-,f,-⟩:=L.token_facts (g:=L.byS x) (n:=x.size) (i:=l[k].2.1) (by omega) (by rw [h7])
 rw [h7] at e
 have er:L.reachG (L.byS x) x.size l[k].2.1=(l[k].1,l[k].2.2):=(Prod.mk.inj e).2.symm
 rw [er] at f
 have:=long_most l[k].1
 simp only at f
 omega
theorem pc_sz (h:codeX x=0):Sz (pcOf x):=by
 obtain ⟨hs,l,hl,hn,hk⟩:=toks_of h
 refine ⟨fun i=>?_,fun y=>?_,fun y hy=>?_,fun y hy=>?_,fun y=>wrap64_in _⟩
 ·rw [pc_word,hl]
  by_cases h1:i<l.length
  ·rw [List.getElem?_append_left h1,List.getElem?_eq_getElem h1]
   show (x.extract l[i].2.1 l[i].2.2).size<=256
   rw [ByteArray.size_extract]
   have:=tok_size h hk i h1
   omega
  ·by_cases h2:i=l.length
   ·subst h2
    rw [List.getElem?_append_right (Nat.le_refl _),Nat.sub_self]
    show (x.extract x.size x.size).size<=256
    rw [ByteArray.size_extract];omega
   ·rw [List.getElem?_eq_none (by simp;omega)]
    show (0:Nat)<=256;omega
 ·show (L.strN (L.unqF y).2).size<=y.size
  rw [strN_size];exact unq_len y
 ·have:L.nameS y=true:=hy
  unfold L.nameS at this
  simp only [Bool.and_eq_true,decide_eq_true_eq] at this
  omega
 ·have hy:(L.intR y).2.toNat=0:=hy
  show 0<=(L.intR y).1/\(L.intR y).1<=_
  unfold L.intR at hy ⊢
  split at hy
  ·split at hy
   ·rename_i h1 h2
    rw [if_pos h1,if_pos h2]
    show (0:Int)<=((L.valL y.data.toList:Nat):Int)/\((L.valL y.data.toList:Nat):Int)<=_
    omega
   ·simp at hy
  ·simp at hy
end
end Go.Proofs.YtfehpdliobapfaaGreatDoor.G
