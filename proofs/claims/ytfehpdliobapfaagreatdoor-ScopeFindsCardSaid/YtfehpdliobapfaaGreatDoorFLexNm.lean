/- For any text and any number,ScopeFinds returns true and leaves its arguments as they were. -/
import Derived.Test.YtfehpdliobapfaaGreatDoorFLexJ
set_option linter.unusedVariables false
namespace Go.Proofs.YtfehpdliobapfaaGreatDoor.L
open Go Go.RowKit
theorem lstr_empty (s:ByteArray) (h:s.size=0):s.toList.isEmpty=true:=by
 have:s=⟨#[]⟩:=by
  apply ByteArray.ext
  apply Array.eq_empty_of_size_eq_zero h
 subst this;rw [ByteArray.toList_eq];rfl
theorem lstr_full (s:ByteArray) (h:s.size≠0):s.toList.isEmpty=false:=by
 rw [ByteArray.toList_eq]
 cases hs:s.data.toList.isEmpty
 ·rfl
 ·rw [List.isEmpty_iff,<- List.length_eq_zero_iff] at hs
  exact absurd (show s.size=0 from hs) h
def nameS (x:ByteArray):Bool:=decide (0<x.size) && decide (x.size<=64) && letterB (byS x 0) && decide (skipG inWordB (byS x) x.size 0=x.size) && !keptS x
set_option maxHeartbeats 4000000 in
theorem name_any (x:ByteArray) (w:World) (hs:x.size<=maxLen) :
  Calls Tryz.prog 182 #[.string x] w fun e w'=>e = .returned (.bool (nameS x))/\w=w':=by
 have HM:=Lib.hid hs
 unfold maxLen at hs
 by_cases h0:x.size=0
 ·have E:=Lib.hid (show nameS x=false by unfold nameS;simp [h0])
  have he:=lstr_empty x h0
  clear h0
  go_enter Tryz.func182,Tryz.ntmps182
  go_wp2_with fail
  go_ret
  exact ⟨ret_bo E.out.symm,rfl⟩
 ·have he:=lstr_full x h0
  have hp:0<x.size:=by omega
  by_cases h64:64<x.size
  ·have E:=Lib.hid (show nameS x=false by unfold nameS;rw [decide_eq_false (show ¬ x.size<=64 by omega)];simp)
   have i1:(64:Int)<(x.size:Int):=by omega
   clear h0
   go_enter Tryz.func182,Tryz.ntmps182
   go_wp2_with fail
   go_ret
   exact ⟨ret_bo E.out.symm,rfl⟩
  ·have i1:¬ (64:Int)<(x.size:Int):=by omega
   have HB:=Lib.hid (byS_get x 0 hp)
   have HL:=Lib.hid (fun w=>letter_any x[0].toNat w)
   have HS:=Lib.hid (fun w=>skip_word x 0 w HM.out (Nat.zero_le _))
   have HK:=Lib.hid (fun w=>kept_any x w)
   have HN:Hid (nameS x=(letterB x[0].toNat && decide (skipG inWordB (byS x) x.size 0=x.size) && !keptS x)):=Lib.hid (by
    unfold nameS;rw [HB.out,decide_eq_true hp,decide_eq_true (show x.size<=64 by omega)];simp)
   clear h0 h64
   cases hl:letterB x[0].toNat
   ·have E:=Lib.hid (show nameS x=false by rw [HN.out,hl];rfl)
    rw [hl] at HL
    clear hl
    go_enter Tryz.func182,Tryz.ntmps182
    go_wp2_with (go_at_call 172;refine (HL.out _).mono ?_;rintro e w1 ⟨rfl,rfl⟩)
    go_ret
    exact ⟨ret_bo E.out.symm,rfl⟩
   ·rw [hl] at HL HN
    clear hl
    generalize skipG inWordB (byS x) x.size 0=a at *
    by_cases ha:a=x.size
    ·have t1:((a:Int) == (x.size:Int))=true:=by simp;omega
     have E:=Lib.hid (show nameS x = !keptS x by rw [HN.out,decide_eq_true ha];simp)
     clear ha
     generalize keptS x=k at *
     go_enter Tryz.func182,Tryz.ntmps182
     go_wp2_with (first|(go_at_call 172;refine (HL.out _).mono ?_;rintro e w1 ⟨rfl,rfl⟩)|(go_at_call 140;refine (HS.out _).mono ?_;rintro e w1 ⟨rfl,rfl⟩)|(go_at_call 204;refine (HK.out _).mono ?_;rintro e w1 ⟨rfl,rfl⟩))
     go_ret
     exact ⟨ret_bo E.out.symm,rfl⟩
    ·have t1:((a:Int) == (x.size:Int))=false:=by simp;omega
     have E:=Lib.hid (show nameS x=false by rw [HN.out,decide_eq_false ha];simp)
     clear ha
     go_enter Tryz.func182,Tryz.ntmps182
     go_wp2_with (first|(go_at_call 172;refine (HL.out _).mono ?_;rintro e w1 ⟨rfl,rfl⟩)|(go_at_call 140;refine (HS.out _).mono ?_;rintro e w1 ⟨rfl,rfl⟩))
     go_ret
     exact ⟨ret_bo E.out.symm,rfl⟩
end Go.Proofs.YtfehpdliobapfaaGreatDoor.L
