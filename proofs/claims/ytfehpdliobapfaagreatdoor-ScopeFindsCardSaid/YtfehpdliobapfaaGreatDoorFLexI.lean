/- For any text and any number,ScopeFinds returns true and leaves its arguments as they were. -/
import Derived.Test.YtfehpdliobapfaaGreatDoorFLexFH
set_option maxHeartbeats 4000000
set_option linter.unusedVariables false
namespace Go.Proofs.YtfehpdliobapfaaGreatDoor.L
open Go Go.RowKit
theorem quote_prefix (x:ByteArray):Lib.hasPrefix x.data.toList (⟨#[34]⟩:ByteArray).data.toList=(decide (0<x.size) && decide (byS x 0=34)):=by
 have hl:x.data.toList.length=x.size:=by simp
 unfold Lib.hasPrefix
 show List.isPrefixOf [34] x.data.toList=_
 by_cases h:0<x.size
 ·have e:x.data.toList=x[0] :: x.data.toList.drop 1:=by
   rw [show x.data.toList=x.data.toList.drop 0 from rfl,List.drop_eq_getElem_cons (by omega)];rfl
  rw [e,byS_get x 0 h,decide_eq_true h]
  have u:((34:UInt8) == x[0])=decide (x[0].toNat=34):=by
   rw [Bool.eq_iff_iff,beq_iff_eq,decide_eq_true_iff]
   constructor
   ·intro h;rw [<- h];rfl
   ·intro h;exact UInt8.toNat_inj.1 (by rw [h];rfl)
  simp [List.isPrefixOf,u]
 ·have e:x.data.toList=[]:=List.eq_nil_of_length_eq_zero (by omega)
  rw [e,decide_eq_false h];rfl
def unqF (x:ByteArray):Nat × List Nat :=
 if (decide (0<x.size) && decide (byS x 0=34))=false then (5,[]) else
 if (saidG (byS x) (quotedG (byS x) x.size 0) 1 false []).1≠0 then ((saidG (byS x) (quotedG (byS x) x.size 0) 1 false []).1,[]) else
 if quotedG (byS x) x.size 0<x.size then (5,[]) else (0,(saidG (byS x) (quotedG (byS x) x.size 0) 1 false []).2)
def UnqPost (w:World) (R:Nat × List Nat) (e:Ending) (w':World):Prop:=e = .returned (.tuple #[.string (strN R.2),.int .i64 (R.1:Nat)])/\Below w.heap.size w w'
theorem unquote_any (x:ByteArray) (w:World) (hs:x.size<=65536) :
  Calls Tryz.prog 272 #[.string x] w (UnqPost w (unqF x)):=by
 have HP:Hid (∀ w,Calls Tryz.prog 102 #[.string x,.string ⟨#[34]⟩] w fun e w'=>e = .returned (.bool (decide (0<x.size) && decide (byS x 0=34)))/\w=w'):=Lib.hid (fun w =>
  (Tryz.strings_HasPrefix x ⟨#[34]⟩ w).mono fun e w' h=>⟨by rw [h.1,quote_prefix x],h.2.symm⟩)
 cases hp:(decide (0<x.size) && decide (byS x 0=34))
 ·have E:=Lib.hid (show unqF x=(5,[]) by unfold unqF;rw [if_pos hp])
  rw [hp] at HP
  clear hp
  go_enter Tryz.func272,Tryz.ntmps272
  go_wp2_with (go_at_call 102;refine (HP.out _).mono ?_;rintro e w1 ⟨rfl,rfl⟩)
  go_ret2
  exact ⟨by rw [E.out];rfl,Below.refl _ _⟩
 ·have h0:0<x.size:=by simp at hp;omega
  have HU:Hid (unqF x=if (saidG (byS x) (quotedG (byS x) x.size 0) 1 false []).1≠0 then ((saidG (byS x) (quotedG (byS x) x.size 0) 1 false []).1,[]) else if quotedG (byS x) x.size 0<x.size then (5,[]) else (0,(saidG (byS x) (quotedG (byS x) x.size 0) 1 false []).2)):=Lib.hid (by unfold unqF;rw [if_neg (by rw [hp];simp)])
  rw [hp] at HP
  have HQ:=Lib.hid (fun w=>quoted_any x 0 w hs h0)
  obtain ⟨q1,q2⟩:=quoted_facts (g:=byS x) h0
  generalize quotedG (byS x) x.size 0=t at *
  have hz:(x.extract 0 t).size=t:=by simp;omega
  have HS:=Lib.hid (fun w=>said_any (x.extract 0 t) w (by omega) (by omega))
  rw [hz,said_congr (g:=byS x) (fun j _ hj=>by rw [byS_extract x 0 t j q2 (by omega),Nat.zero_add])] at HS
  obtain ⟨⟨code,out⟩,hR⟩:∃ R,saidG (byS x) t 1 false []=R:=⟨_,rfl⟩
  rw [hR] at HS HU
  unfold SaidPost at HS
  dsimp only at HS HU
  clear hR hz hp
  by_cases hc:code=0
  ·have tc:((code:Int) != 0)=false:=by simp;omega
   by_cases hlt:t<x.size
   ·have E:=Lib.hid (show unqF x=(5,[]) by rw [HU.out,if_neg (fun h=>h hc),if_pos hlt])
    have i1:(t:Int)<(x.size:Int):=by omega
    clear hc
    go_enter Tryz.func272,Tryz.ntmps272
    go_wp2_with (go_at_call 102;refine (HP.out _).mono ?_;rintro e w1 ⟨rfl,rfl⟩)
    refine (HQ.out _).mono ?_
    rintro e w1 ⟨rfl,h01⟩
    have H1:=Lib.hid h01
    clear h01
    go_wp2_with fail
    refine (HS.out _).mono ?_
    rintro e w2 ⟨rfl,h12⟩
    have H2:=Lib.hid (after H1.out h12)
    clear h12
    go_wp2_with fail
    go_ret2
    exact ⟨by rw [E.out];rfl,H2.out⟩
   ·have E:=Lib.hid (show unqF x=(0,out) by rw [HU.out,if_neg (fun h=>h hc),if_neg hlt])
    have i1:¬ (t:Int)<(x.size:Int):=by omega
    clear hc hlt
    go_enter Tryz.func272,Tryz.ntmps272
    go_wp2_with (go_at_call 102;refine (HP.out _).mono ?_;rintro e w1 ⟨rfl,rfl⟩)
    refine (HQ.out _).mono ?_
    rintro e w1 ⟨rfl,h01⟩
    have H1:=Lib.hid h01
    clear h01
    go_wp2_with fail
    refine (HS.out _).mono ?_
    rintro e w2 ⟨rfl,h12⟩
    have H2:=Lib.hid (after H1.out h12)
    clear h12
    go_wp2_with fail
    go_ret2
    exact ⟨by rw [E.out];rfl,H2.out⟩
  ·have E:=Lib.hid (show unqF x=(code,[]) by rw [HU.out,if_pos hc])
   have tc:((code:Int) != 0)=true:=by simp;omega
   clear hc
   go_enter Tryz.func272,Tryz.ntmps272
   go_wp2_with (go_at_call 102;refine (HP.out _).mono ?_;rintro e w1 ⟨rfl,rfl⟩)
   refine (HQ.out _).mono ?_
   rintro e w1 ⟨rfl,h01⟩
   have H1:=Lib.hid h01
   clear h01
   go_wp2_with fail
   refine (HS.out _).mono ?_
   rintro e w2 ⟨rfl,h12⟩
   have H2:=Lib.hid (after H1.out h12)
   clear h12
   go_wp2_with fail
   go_ret2
   exact ⟨by rw [E.out];rfl,H2.out⟩
theorem say_any (s:ByteArray) (k f t:Nat) (w:World) (hs:s.size<=65536) (hft:f<=t) (ht:t<=s.size) :
  Calls Tryz.prog 59 #[.string s,.agg #[.int .i64 (k:Nat),.int .i64 (f:Nat),.int .i64 (t:Nat)]] w fun e w'=>e = .returned (.string (s.extract f t))/\Below w.heap.size w w':=by
 have HT:=Lib.hid (fun w=>text_yes s f t w (chkB_iff.2 ⟨⟨by omega,by omega,by omega⟩,by omega,by omega⟩))
 go_enter Tryz.func59,Tryz.ntmps59
 go_wp2_with fail
 refine (HT.out _).mono ?_
 rintro e w1 ⟨rfl,h01⟩
 have H1:=Lib.hid h01
 clear h01
 go_wp2_with fail
 go_ret
 exact ⟨rfl,after ((Below.refl _ _).alloc (Nat.le_refl _) _) H1.out⟩
end Go.Proofs.YtfehpdliobapfaaGreatDoor.L
