/- For any text and any numbers,ScopeBlocks,ScopeUses and ScopeMany return true and leave their arguments as they were. -/
import Derived.Test.YtfehpdliobapfaaGreatDoorKScMD
set_option linter.unusedVariables false
set_option linter.unusedSimpArgs false
namespace Go.Proofs.YtfehpdliobapfaaGreatDoor.S
open Go Go.RowKit
section
variable {n m j k:Nat} {f:Nat->Option Nat}
theorem for_succ:forS (j+1) f k=if f j=some k then forS j f k ++ [j] else forS j f k:=by
 unfold forS
 rw [List.range_succ,List.filter_append]
 by_cases h:f j=some k
 ·rw [if_pos h];congr 1;simp [h]
 ·rw [if_neg h];simp [h]
theorem for_pre (h:m<=n):∃ t,forS n f k=forS m f k ++ t:=by
 induction n with
 | zero =>
  obtain rfl:m=0:=by omega
  exact ⟨[],by simp⟩
 | succ n ih =>
  by_cases e:m=n+1
  ·subst e;exact ⟨[],by simp⟩
  ·obtain ⟨t,ht⟩:=ih (by omega)
   rw [for_succ,ht]
   by_cases q:f n=some k
   ·rw [if_pos q];exact ⟨t ++ [n],by simp⟩
   ·rw [if_neg q];exact ⟨t,rfl⟩
theorem for_hit (h:j<n) (hf:f j=some k):∃ t,forS n f k=forS j f k ++ j :: t:=by
 obtain ⟨t,ht⟩:=for_pre (f:=f) (k:=k) (show j+1<=n by omega)
 rw [for_succ,if_pos hf] at ht
 exact ⟨t,by rw [ht];simp⟩
theorem for_lt (h:j<n) (hf:f j=some k):(forS j f k).length<(forS n f k).length:=by
 obtain ⟨t,ht⟩:=for_hit h hf
 rw [ht];simp
theorem for_at (h:j<n) (hf:f j=some k):(forS n f k)[(forS j f k).length]? = some j:=by
 obtain ⟨t,ht⟩:=for_hit h hf
 rw [ht,List.getElem?_append_right (Nat.le_refl _),Nat.sub_self];rfl
theorem for_yes (hf:f j=some k):(forS (j+1) f k).length=(forS j f k).length+1:=by rw [for_succ,if_pos hf];simp
theorem for_no (hf:¬ f j=some k):(forS (j+1) f k).length=(forS j f k).length:=by rw [for_succ,if_neg hf]
theorem for_len:(forS n f k).length<=n:=by
 unfold forS
 have:=List.length_filter_le (fun x=>decide (f x=some k)) (List.range n)
 rw [List.length_range] at this
 exact this
end
theorem ris_nat (n:Nat) (f:Nat->Option Nat) (k:Nat):risS n f (k:Int)=forS n f k:=by
 unfold risS
 rw [if_neg (by omega),show ((k:Int)).toNat=k by omega]
theorem ris_out {n c:Nat} {f:Nat->Option Nat} {slot:Int} (hf:∀ x k,f x=some k->k<c) (h:slot<0\/(c:Int)<=slot):risS n f slot=[]:=by
 unfold risS
 by_cases h0:slot<0
 ·rw [if_pos h0]
 ·rw [if_neg h0]
  refine List.eq_nil_iff_forall_not_mem.2 (fun x hx=>?_)
  have:=hf x _ (forS_mem.1 hx).2
  omega
section
variable {l:List Nd} {root:Int} {m:Nat} {s:Sc}
end
end Go.Proofs.YtfehpdliobapfaaGreatDoor.S
