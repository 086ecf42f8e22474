/- For any text and any number,ScopeFinds returns true and leaves its arguments as they were. -/
import Derived.Test.YtfehpdliobapfaaGreatDoorFNumA
set_option maxHeartbeats 1000000
set_option linter.unusedVariables false
namespace Go.Proofs.YtfehpdliobapfaaGreatDoor.L
open Go.RowKit
def digC (c:UInt8):Bool:=decide (48<=c.toNat/\c.toNat<=57)
def digTo (s:ByteArray) (k:Nat):Bool:=(s.data.toList.take k).all digC
def digS (s:ByteArray):Bool:=s.data.toList.all digC && !s.data.toList.isEmpty
def valL (l:List UInt8):Nat:=l.foldl (fun n c=>10*n+(c.toNat-48)) 0
def valTo (s:ByteArray) (k:Nat):Nat:=valL (s.data.toList.take k)
theorem take_snoc (s:ByteArray) (k:Nat) (h:k<s.size):s.data.toList.take (k+1)=s.data.toList.take k ++ [s[k]]:=by
 rw [List.take_succ_eq_append_getElem (by simpa using h)];rfl
theorem digTo_succ (s:ByteArray) (k:Nat) (h:k<s.size):digTo s (k+1)=(digTo s k && digC s[k]):=by
 unfold digTo;rw [take_snoc s k h,List.all_append];simp
theorem digTo_all (s:ByteArray):digTo s s.size=s.data.toList.all digC:=by
 unfold digTo;rw [List.take_of_length_le (by simp)]
theorem valL_snoc (l:List UInt8) (c:UInt8):valL (l ++ [c])=10*valL l+(c.toNat-48):=by unfold valL;rw [List.foldl_append];rfl
theorem valTo_succ (s:ByteArray) (k:Nat) (h:k<s.size):valTo s (k+1)=10*valTo s k+(s[k].toNat-48):=by
 unfold valTo;rw [take_snoc s k h,valL_snoc]
theorem valTo_all (s:ByteArray):valTo s s.size=valL s.data.toList:=by
 unfold valTo;rw [List.take_of_length_le (by simp)]
theorem valTo_mono (s:ByteArray) (k m:Nat) (h:k+m<=s.size):valTo s k<=valTo s (k+m):=by
 induction m with
 | zero=>exact Nat.le_refl _
 | succ m ih =>
  have:=ih (by omega)
  rw [show k+(m+1)=(k+m)+1 by omega,valTo_succ s (k+m) (by omega)]
  omega
theorem valTo_le (s:ByteArray) (k:Nat) (h:k<=s.size):valTo s k<=valL s.data.toList:=by
 rw [<- valTo_all]
 have:=valTo_mono s k (s.size-k) (by omega)
 rwa [show k+(s.size-k)=s.size by omega] at this
theorem dig_at (s:ByteArray) (k:Nat) (h:k<s.size) (hd:s.data.toList.all digC=true):48<=s[k].toNat/\s[k].toNat<=57:=by
 have:=List.all_eq_true.1 hd s[k] (by rw [show s[k]=s.data.toList[k]'(by simpa using h) from rfl];exact List.getElem_mem _)
 unfold digC at this;exact of_decide_eq_true this
theorem empty_iff (s:ByteArray):s.data.toList.isEmpty=true ↔ s.size=0:=by
 rw [List.isEmpty_iff,<- List.length_eq_zero_iff];simp
theorem digS_no (s:ByteArray) (k:Nat) (h:k<s.size) (hd:digC s[k]=false):digS s=false:=by
 unfold digS
 have:s.data.toList.all digC=false:=by
  cases ha:s.data.toList.all digC
  ·rfl
  ·have:=dig_at s k h ha
   unfold digC at hd
   simp at hd;omega
 rw [this];rfl
theorem val_int {k:IntKind} {a b:Int} (h:a=b):Value.int k a=Value.int k b:=by rw [h]
theorem str_empty (s:ByteArray) (h:s.size=0):s.toList.isEmpty=true:=by
 have:s=⟨#[]⟩:=by
  apply ByteArray.ext
  apply Array.eq_empty_of_size_eq_zero h
 subst this;rw [ByteArray.toList_eq];rfl
theorem str_nonempty (s:ByteArray) (h:s.size≠0):s.toList.isEmpty=false:=by
 rw [ByteArray.toList_eq]
 cases hs:s.data.toList.isEmpty
 ·rfl
 ·exact absurd ((empty_iff s).1 hs) h
theorem digits_any (s:ByteArray) (w:World) (hs:s.size<9223372036854775807) :
  Calls Tryz.prog 277 #[.string s] w fun e w'=>e = .returned (.bool (digS s))/\w=w':=by
 go_enter Tryz.func277,Tryz.ntmps277
 go_wp2_with fail
 go_loop [6] (fun i=>∃ k:Nat,k<=s.size/\i = .int .i64 k/\digTo s k=true) (fun i=>s.size-(intOf i).toNat)
 case atStart=>exact ⟨0,Nat.zero_le _,rfl,by simp [digTo]⟩
 case round =>
  obtain ⟨k,hk,rfl,hkk⟩:=hrel
  have HK:=Lib.hid hkk
  clear hkk
  by_cases hlt:k<s.size
  ·have hn1:=digTo_succ s k hlt
   have hno:=digS_no s k hlt
   cases hq:digC s[k]
   ·have HN:=Lib.hid (hno hq)
    have hq2:¬ (48<=s[k].toNat/\s[k].toNat<=57):=by unfold digC at hq;simpa using hq
    clear hn1 hno hq
    by_cases h48:s[k].toNat<48
    ·have h48':(s[k].toNat:Int)<48:=by omega
     clear hq2 h48
     go_wp2_with fail
     go_ret
     exact ⟨by rw [HN.out];rfl,rfl⟩
    ·have h48':¬ (s[k].toNat:Int)<48:=by omega
     have h57':57<(s[k].toNat:Int):=by omega
     clear hq2 h48
     go_wp2_with fail
     go_ret
     exact ⟨by rw [HN.out];rfl,rfl⟩
   ·have hq2:48<=s[k].toNat/\s[k].toNat<=57:=by unfold digC at hq;simpa using hq
    rw [hq,HK.out] at hn1
    have HN:=Lib.hid hn1
    have h48':¬ (s[k].toNat:Int)<48:=by omega
    have h57':¬ 57<(s[k].toNat:Int):=by omega
    clear hn1 hno hq hq2
    go_wp2_with fail
    go_round
    case rel=>exact ⟨k+1,by omega,by go_num,by rw [HN.out];rfl⟩
    case measure=>simp [intOf];omega
  ·have hk':k=s.size:=by omega
   subst hk'
   have hall:digS s = !s.data.toList.isEmpty:=by unfold digS;rw [<- digTo_all,HK.out];rfl
   by_cases h0:s.size=0
   ·have he:=str_empty s h0
    have hb:=(empty_iff s).2 h0
    rw [hb] at hall
    have HA:=Lib.hid hall
    have H0:=Lib.hid h0
    clear hall hb h0
    go_wp2_with fail
    go_ret
    exact ⟨by rw [HA.out];rfl,rfl⟩
   ·have he:=str_nonempty s h0
    have hb:s.data.toList.isEmpty=false:=by
     cases hs:s.data.toList.isEmpty
     ·rfl
     ·exact absurd ((empty_iff s).1 hs) h0
    rw [hb] at hall
    have HA:=Lib.hid hall
    have H0:=Lib.hid h0
    clear hall hb h0
    go_wp2_with fail
    go_ret
    exact ⟨by rw [HA.out];rfl,rfl⟩
def wholeS (s:ByteArray):Bool:=digS s && (s.data.toList.head? != some 48 || s.data.toList.length == 1)
theorem head_get (s:ByteArray) (h:0<s.size):s.data.toList.head? = some s[0]:=by
 have h1:0<s.data.toList.length:=by simpa using h
 rw [List.head?_eq_getElem?,List.getElem?_eq_getElem h1];rfl
theorem u8_eq (c:UInt8) (n:Nat) (hn:n<256):c=UInt8.ofNat n ↔ c.toNat=n:=by
 constructor
 ·intro h;subst h;simp;omega
 ·intro h;apply UInt8.toNat_inj.1;simp;omega
theorem digS_pos (s:ByteArray) (h:digS s=true):0<s.size:=by
 unfold digS at h
 rcases Nat.eq_zero_or_pos s.size with h0|h0
 ·have:=(empty_iff s).2 h0;rw [this] at h;simp at h
 ·exact h0
theorem whole_any (s:ByteArray) (w:World) (hs:s.size<9223372036854775807) :
  Calls Tryz.prog 274 #[.string s] w fun e w'=>e = .returned (.bool (wholeS s))/\w=w':=by
 have HC:=Lib.hid (fun w=>digits_any s w hs)
 cases hd:digS s
 ·have H:=Lib.hid (show wholeS s=false by unfold wholeS;rw [hd];rfl)
  rw [hd] at HC
  clear hd
  go_enter Tryz.func274,Tryz.ntmps274
  go_wp2_with (go_at_call 277;refine (HC.out _).mono ?_;rintro e w' ⟨rfl,rfl⟩)
  go_ret
  exact ⟨by rw [H.out];rfl,rfl⟩
 ·have hp:=digS_pos s hd
  have hh:=head_get s hp
  rw [hd] at HC
  have hl:(s.data.toList.length == 1)=decide (s.size=1):=by
   rw [show s.data.toList.length=s.size by simp];rfl
  by_cases h48:s[0].toNat=48
  ·have hw:wholeS s=decide (s.size=1):=by
    unfold wholeS
    rw [hd,hh,(u8_eq s[0] 48 (by omega)).2 h48,hl];rfl
   have h48':((s[0].toNat:Int) != 48)=false:=by rw [h48];rfl
   by_cases h1:s.size=1
   ·rw [decide_eq_true h1] at hw
    have H:=Lib.hid hw
    have H1:=Lib.hid h1
    have hb:((s.size:Int) == 1)=true:=by rw [h1];rfl
    clear hw hd hh hl h48 h1
    go_enter Tryz.func274,Tryz.ntmps274
    go_wp2_with (go_at_call 277;refine (HC.out _).mono ?_;rintro e w' ⟨rfl,rfl⟩)
    go_ret
    exact ⟨by rw [H.out];rfl,rfl⟩
   ·rw [decide_eq_false h1] at hw
    have H:=Lib.hid hw
    have hb:((s.size:Int) == 1)=false:=by simp;omega
    clear hw hd hh hl h48 h1
    go_enter Tryz.func274,Tryz.ntmps274
    go_wp2_with (go_at_call 277;refine (HC.out _).mono ?_;rintro e w' ⟨rfl,rfl⟩)
    go_ret
    exact ⟨by rw [H.out];rfl,rfl⟩
  ·have hw:wholeS s=true:=by
    unfold wholeS
    have:(some s[0] != some (48:UInt8))=true:=by
     simp only [bne_iff_ne,ne_eq,Option.some.injEq]
     intro e;exact h48 (by rw [e];rfl)
    rw [hd,hh,this];rfl
   have H:=Lib.hid hw
   have h48':((s[0].toNat:Int) != 48)=true:=by simp;omega
   clear hw hd hh hl h48
   go_enter Tryz.func274,Tryz.ntmps274
   go_wp2_with (go_at_call 277;refine (HC.out _).mono ?_;rintro e w' ⟨rfl,rfl⟩)
   go_ret
   exact ⟨by rw [H.out];rfl,rfl⟩
def valR (n:Nat):Int × Bool:=if n<=9223372036854775807 then ((n:Int),true) else (0,false)
theorem valR_yes {n:Nat} (h:n<=9223372036854775807):valR n=((n:Int),true):=if_pos h
theorem valR_no {n:Nat} (h:¬ n<=9223372036854775807):valR n=(0,false):=if_neg h
theorem value_any (s:ByteArray) (w:World) (hs:s.size<9223372036854775807) (hd:s.data.toList.all digC=true) :
  Calls Tryz.prog 275 #[.string s] w fun e w'=>e = .returned (.tuple #[.int .i64 (valR (valL s.data.toList)).1,.bool (valR (valL s.data.toList)).2])/\w=w':=by
 have HD:=Lib.hid hd
 clear hd
 go_enter Tryz.func275,Tryz.ntmps275
 go_wp2_with fail
 go_loop [4,9] (fun n i=>∃ k:Nat,k<=s.size/\i = .int .i64 k/\n = .int .i64 (valTo s k:Nat)/\valTo s k<=9223372036854775807) (fun _ i=>s.size-(intOf i).toNat)
 case atStart=>exact ⟨0,Nat.zero_le _,rfl,by simp [valTo,valL],by simp [valTo,valL]⟩
 case round =>
  obtain ⟨k,hk,rfl,rfl,hv⟩:=hrel
  by_cases hlt:k<s.size
  ·have h1:=valTo_succ s k hlt
   obtain ⟨h2,h3⟩:=dig_at s k hlt HD.out
   have h4:=valTo_le s (k+1) (by omega)
   have HN:=Lib.hid h1
   have H4:=Lib.hid h4
   clear h1 h4
   have g1:((s[k].toNat:Int)-48) % 256=(s[k].toNat:Int)-48:=by omega
   by_cases hb:10*valTo s k+(s[k].toNat-48)<=9223372036854775807
   ·have hb':¬ (9223372036854775807-((s[k].toNat:Int)-48) % 256) / 10<(valTo s k:Int):=by omega
    have HB:=Lib.hid hb
    have b1:10*(valTo s k:Int)<=9223372036854775807:=by omega
    have b2:0<=((s[k].toNat:Int)-48) % 256:=by omega
    have b3:10*(valTo s k:Int)+((s[k].toNat:Int)-48) % 256<=9223372036854775807:=by omega
    clear g1 hb
    go_wp2_with fail
    go_round
    case rel=>exact ⟨k+1,by omega,by go_num,by rw [HN.out];exact val_int (by omega),by rw [HN.out];exact HB.out⟩
    case measure=>simp [intOf];omega
   ·have hb':(9223372036854775807-((s[k].toNat:Int)-48) % 256) / 10<(valTo s k:Int):=by omega
    have HV:=Lib.hid (valR_no (show ¬ valL s.data.toList<=9223372036854775807 by have:=H4.out;rw [HN.out] at this;omega))
    clear g1 hb
    go_wp2_with fail
    go_ret2
    exact ⟨by rw [HV.out];rfl,rfl⟩
  ·have hk':k=s.size:=by omega
   subst hk'
   have ha:=valTo_all s
   rw [ha] at hv
   have HV:=Lib.hid (valR_yes hv)
   have HA:=Lib.hid ha
   clear ha hv
   go_wp2_with fail
   go_ret2
   exact ⟨by rw [HV.out,<- HA.out];rfl,rfl⟩
def intR (s:ByteArray):Int × Int:=if wholeS s=true then (if valL s.data.toList<=9223372036854775807 then (((valL s.data.toList:Nat):Int),0) else (0,1)) else (0,5)
theorem wholeS_digs {s:ByteArray} (h:wholeS s=true):s.data.toList.all digC=true:=by
 unfold wholeS digS at h;simp only [Bool.and_eq_true] at h;exact h.1.1
theorem intR_no {s:ByteArray} (h:wholeS s=false):intR s=(0,5):=by unfold intR;rw [h];rfl
theorem intR_yes {s:ByteArray} (h:wholeS s=true) (hv:valL s.data.toList<=9223372036854775807):intR s=(((valL s.data.toList:Nat):Int),0):=by unfold intR;rw [if_pos h,if_pos hv]
theorem intR_big {s:ByteArray} (h:wholeS s=true) (hv:¬ valL s.data.toList<=9223372036854775807):intR s=(0,1):=by unfold intR;rw [if_pos h,if_neg hv]
theorem int_any (s:ByteArray) (w:World) (hs:s.size<9223372036854775807) :
  Calls Tryz.prog 270 #[.string s] w fun e w'=>e = .returned (.tuple #[.int .i64 (intR s).1,.int .i64 (intR s).2])/\w=w':=by
 have HW:=Lib.hid (fun w=>whole_any s w hs)
 have HV:=Lib.hid (fun w=>value_any s w hs)
 cases hw:wholeS s
 ·have H:=Lib.hid (intR_no hw)
  rw [hw] at HW
  clear hw
  go_enter Tryz.func270,Tryz.ntmps270
  go_wp2_with (go_at_call 274;refine (HW.out _).mono ?_;rintro e w' ⟨rfl,rfl⟩)
  go_ret2
  exact ⟨by rw [H.out];rfl,rfl⟩
 ·have hd:=wholeS_digs hw
  by_cases hv:valL s.data.toList<=9223372036854775807
  ·have H:=Lib.hid (intR_yes hw hv)
   have HV2:=Lib.hid (fun w=>HV.out w hd)
   rw [valR_yes hv] at HV2
   rw [hw] at HW
   clear hw HV hv hd
   go_enter Tryz.func270,Tryz.ntmps270
   go_wp2_with (first|(go_at_call 274;refine (HW.out _).mono ?_;rintro e w' ⟨rfl,rfl⟩)|(go_at_call 275;refine (HV2.out _).mono ?_;rintro e w' ⟨rfl,rfl⟩))
   go_ret2
   exact ⟨by rw [H.out];rfl,rfl⟩
  ·have H:=Lib.hid (intR_big hw hv)
   have HV2:=Lib.hid (fun w=>HV.out w hd)
   rw [valR_no hv] at HV2
   rw [hw] at HW
   clear hw HV hv hd
   go_enter Tryz.func270,Tryz.ntmps270
   go_wp2_with (first|(go_at_call 274;refine (HW.out _).mono ?_;rintro e w' ⟨rfl,rfl⟩)|(go_at_call 275;refine (HV2.out _).mono ?_;rintro e w' ⟨rfl,rfl⟩))
   go_ret2
   exact ⟨by rw [H.out];rfl,rfl⟩
end Go.Proofs.YtfehpdliobapfaaGreatDoor.L
