/- For any text and any number,ScopeFinds returns true and leaves its arguments as they were. -/
import Derived.Test.YtfehpdliobapfaaGreatDoorFScMD
set_option linter.unusedVariables false
set_option linter.unusedSimpArgs false
namespace Go.Proofs.YtfehpdliobapfaaGreatDoor.S
open Go Go.RowKit
section
variable {n m j k:Nat} {f:Nat->Option Nat}
end
theorem idx_iff2 {L:List Nat} (hn:L.Nodup) (i k:Nat):(L.findIdx? fun a=>decide (a=i))=some k ↔ L[k]? = some i:=by
 rw [List.findIdx?_eq_some_iff_getElem]
 constructor
 ·rintro ⟨hk,h1,_⟩
  rw [List.getElem?_eq_getElem hk]
  simpa using h1
 ·intro h
  obtain ⟨hk,h1⟩:=List.getElem?_eq_some_iff.1 h
  refine ⟨hk,by simpa using h1,fun j hj=>?_⟩
  simp
  intro hq
  exact List.pairwise_iff_getElem.1 hn j k (by omega) hk hj (by rw [hq,h1])
theorem ScI.slot_var2 {l:List Nd} {V:List Nat} {s:Sc} (I:ScI l V s) {i:Nat} (h:kndS l i=25):slotS s i=s.us i:=by
 unfold slotS
 cases hu:s.us i with
 | some k=>rfl
 | none =>
  show (s.lc.findIdx? fun a=>decide (a=i))=none
  rw [List.findIdx?_eq_none_iff]
  intro a ha
  simp
  intro e
  have:=(I.lcV a ha).2
  rw [e,h] at this
  omega
theorem ScI.slot_decl2 {l:List Nd} {V:List Nat} {s:Sc} (I:ScI l V s) {i:Nat} (h:kndS l i≠25) (k:Nat):slotS s i=some k ↔ s.lc[k]? = some i:=by
 unfold slotS
 cases hu:s.us i with
 | some k=>exact absurd (I.usV i k hu).2.1 h
 | none=>exact idx_iff2 I.once i k
section
variable {l:List Nd} {root:Int} {m:Nat} {s:Sc}
end
end Go.Proofs.YtfehpdliobapfaaGreatDoor.S
