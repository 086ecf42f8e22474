/- For any text and any number,ScopeFinds returns true and leaves its arguments as they were. -/
import Derived.Test.YtfehpdliobapfaaGreatDoorFNumC
set_option linter.unusedVariables false
namespace Go.Proofs.YtfehpdliobapfaaGreatDoor.L
open Go.RowKit
theorem ret_ui {x y:Nat} {i j:Int} (h:x=y) (k:i=j):Ending.returned (.tuple #[.int .u64 (x:Int),.int .i64 i])=Ending.returned (.tuple #[.int .u64 (y:Int),.int .i64 j]):=by rw [h,k]
theorem ext_size (s:ByteArray) (i j:Nat) (h:j<=s.size):(s.extract i j).size=j-i:=by
 rw [ByteArray.size_extract];omega
set_option maxHeartbeats 1000000 in
theorem float_any (s:ByteArray) (w:World) (hs:s.size<9223372036854775807) :
  Calls Tryz.prog 271 #[.string s] w fun e w'=>e = .returned (.tuple #[.int .u64 ((fltR s).1:Nat),.int .i64 (fltR s).2])/\∃ n,w'=w.drewN n:=by
 cases hp:posOf s.data.toList 46 with
 | none =>
  have H:=Lib.hid (show fltR s=(0,5) by unfold fltR;rw [hp])
  have HC:=Lib.hid (fun w=>cut_no s 46 w hp)
  clear hp
  go_enter Tryz.func271,Tryz.ntmps271
  go_wp2_with (go_at_call 276;refine (HC.out _).mono ?_;rintro e w' ⟨rfl,rfl⟩)
  go_ret2
  exact ⟨by rw [H.out];rfl,0,rfl⟩
 | some k =>
  have hk:k<s.size:=by have:=posOf_lt _ _ _ hp;simpa using this
  have HF:=Lib.hid (show fltR s=fltOf (s.extract 0 k) (s.extract (k+1) s.size) by unfold fltR;rw [hp])
  have HC:=Lib.hid (fun w=>cut_yes s 46 k w hs hp)
  have za:(s.extract 0 k).size<9223372036854775807:=by rw [ext_size _ _ _ (by omega)];omega
  have zb:(s.extract (k+1) s.size).size<9223372036854775807:=by rw [ext_size _ _ _ (Nat.le_refl _)];omega
  have zc:(s.extract 0 k).size+(s.extract (k+1) s.size).size<=s.size:=by rw [ext_size _ _ _ (by omega),ext_size _ _ _ (Nat.le_refl _)];omega
  clear hp
  generalize s.extract 0 k=a at *
  generalize s.extract (k+1) s.size=b at *
  have HW:=Lib.hid (fun w=>whole_any a w za)
  have HG:=Lib.hid (fun w=>digits_any b w zb)
  cases hw:wholeS a
  ·have H:=Lib.hid (fltOf_no (a:=a) (b:=b) (by rw [hw];rfl))
   rw [hw] at HW
   clear hw
   go_enter Tryz.func271,Tryz.ntmps271
   go_wp2_with (first|(go_at_call 276;refine (HC.out _).mono ?_;rintro e w' ⟨rfl,n,rfl⟩)|(go_at_call 274;refine (HW.out _).mono ?_;rintro e w' ⟨rfl,rfl⟩)|(go_at_call 277;refine (HG.out _).mono ?_;rintro e w' ⟨rfl,rfl⟩))
   go_ret2
   exact ⟨by rw [HF.out,H.out];rfl,_,rfl⟩
  ·cases hg:digS b
   ·have H:=Lib.hid (fltOf_no (a:=a) (b:=b) (by rw [hw,hg];rfl))
    rw [hw] at HW
    rw [hg] at HG
    clear hw hg
    go_enter Tryz.func271,Tryz.ntmps271
    go_wp2_with (first|(go_at_call 276;refine (HC.out _).mono ?_;rintro e w' ⟨rfl,n,rfl⟩)|(go_at_call 274;refine (HW.out _).mono ?_;rintro e w' ⟨rfl,rfl⟩)|(go_at_call 277;refine (HG.out _).mono ?_;rintro e w' ⟨rfl,rfl⟩))
    go_ret2
    exact ⟨by rw [HF.out,H.out];rfl,_,rfl⟩
   ·have hy:(wholeS a && digS b)=true:=by rw [hw,hg];rfl
    rw [hw] at HW
    rw [hg] at HG
    by_cases hl:15<a.size+b.size
    ·have H:=Lib.hid (fltOf_long hy hl)
     have hl2:15<(a.size:Int)+(b.size:Int):=by omega
     have zc2:(a.size:Int)+(b.size:Int)<=9223372036854775807:=by omega
     clear hw hg hy hl
     go_enter Tryz.func271,Tryz.ntmps271
     go_wp2_with (first|(go_at_call 276;refine (HC.out _).mono ?_;rintro e w' ⟨rfl,n,rfl⟩)|(go_at_call 274;refine (HW.out _).mono ?_;rintro e w' ⟨rfl,rfl⟩)|(go_at_call 277;refine (HG.out _).mono ?_;rintro e w' ⟨rfl,rfl⟩))
     go_ret2
     exact ⟨by rw [HF.out,H.out];rfl,_,rfl⟩
    ·have H:=Lib.hid (fltOf_yes hy hl)
     have hl2:¬ 15<(a.size:Int)+(b.size:Int):=by omega
     have zc2:(a.size:Int)+(b.size:Int)<=9223372036854775807:=by omega
     obtain ⟨hd,hv⟩:=fltV_small a b hy hl
     have hb15:b.size<=15:=by omega
     have zn:¬ 9223372036854775807<a.size+b.size:=by omega
     have hvr:=valR_yes (show valL (a ++ b).data.toList<=9223372036854775807 by omega)
     have hva:=fun w=>value_any (a ++ b) w (by rw [app_size];omega) hd
     rw [hvr] at hva
     have HV:=Lib.hid hva
     have HT:=Lib.hid (fun w=>tens_any b.size w hb15)
     have HL:=Lib.hid (app_list a b)
     obtain ⟨f1,f2,_,_⟩:=flt_bits (valL (a ++ b).data.toList) b.size hv hb15
     have HD:=Lib.hid (fun w=>run_float_arith (P:=Tryz.prog) w .quo 277 .f64 _ _ _ f1)
     have HI:=Lib.hid (floatOfInt_eq ((valL (a ++ b).data.toList:Nat):Int))
     have HN:=Lib.hid (norm_of f2)
     rw [<- app_list] at H
     clear hw hg hy hl hva hvr hd hv f1 f2 hb15
     generalize valL (a ++ b).data.toList=v at *
     generalize hfd:fDiv (toF (v:Int)) (tensF b.size)=f at *
     generalize tensF b.size=tb at *
     have hdd:=HD.out
     have hii:=HI.out
     clear hfd
     go_enter Tryz.func271,Tryz.ntmps271
     go_wp2_with (first|(go_at_call 276;refine (HC.out _).mono ?_;rintro e w' ⟨rfl,n,rfl⟩)|(go_at_call 274;refine (HW.out _).mono ?_;rintro e w' ⟨rfl,rfl⟩)|(go_at_call 277;refine (HG.out _).mono ?_;rintro e w' ⟨rfl,rfl⟩)|(go_at_call 275;refine (HV.out _).mono ?_;rintro e w' ⟨rfl,rfl⟩)|(go_at_call 279;refine (HT.out _).mono ?_;rintro e w' ⟨rfl,rfl⟩)|(go_at_call 278;refine (bitsOf_any _ _).mono ?_;rintro e w' ⟨rfl,rfl⟩))
     go_ret2
     exact ⟨by rw [HF.out,H.out];exact ret_ui HN.out rfl,_,rfl⟩
end Go.Proofs.YtfehpdliobapfaaGreatDoor.L
