/- For any text and any number,ScopeFinds returns true and leaves its arguments as they were. -/
import Derived.Test.YtfehpdliobapfaaGreatDoorFNumB
import Derived.Test.YtfehpdliobapfaaGreatDoorFShelfX
import Derived.Lib.Index
import Derived.Deep.QuietTactic
import Derived.BigQuiet
set_option linter.unusedVariables false
namespace Go.Proofs.YtfehpdliobapfaaGreatDoor.L
open Go.RowKit
def posOf:List UInt8->UInt8->Option Nat
 | [],_=>none
 | b :: l,c=>if b == c then some 0 else (posOf l c).map (· + 1)
theorem posOf_lt:∀ (l:List UInt8) (c:UInt8) (k:Nat),posOf l c=some k->k<l.length
 | [],c,k,h=>by cases h
 | b :: l,c,k,h=>by
  unfold posOf at h
  split at h
  ·cases h;simp
  ·cases hp:posOf l c with
   | none=>rw [hp] at h;cases h
   | some j =>
    rw [hp] at h
    simp at h
    have:=posOf_lt l c j hp
    simp;omega
theorem indexByte_eq:∀ (l:List UInt8) (c:UInt8),Lib.indexByte l c=match posOf l c with|some k=>(k:Int)|none=>-1
 | [],c=>rfl
 | b :: l,c=>by
  unfold Lib.indexByte posOf
  split
  ·rfl
  ·rw [indexByte_eq l c]
   cases posOf l c with
   | none=>rfl
   | some k =>
    simp only [Option.map_some]
    have:((k:Int) == -1)=false:=by rw [beq_eq_false_iff_ne];omega
    rw [if_neg (by rw [this];decide)];rfl
theorem cut0_no (s:ByteArray) (c:UInt8) (w:World) (h:posOf s.data.toList c=none) :
  Calls Tryz.prog 280 #[.string s,.string ⟨#[c]⟩] w fun e w'=>e = .returned (.tuple #[.string s,.string ⟨#[]⟩,.bool false])/\w=w':=by
 have hc:=Tryz.stringslite_Index_one s c w
 rw [indexByte_eq,h] at hc
 have HC:=Lib.hid hc
 clear hc h
 go_enter Tryz.func280,Tryz.ntmps280
 go_wp2_with (go_at_call 283;refine (HC.out).mono ?_;rintro e w' ⟨rfl,rfl⟩)
 go_ret3
 exact ⟨rfl,rfl⟩
theorem cut0_yes (s:ByteArray) (c:UInt8) (k:Nat) (w:World) (hs:s.size<9223372036854775807) (h:posOf s.data.toList c=some k) :
  Calls Tryz.prog 280 #[.string s,.string ⟨#[c]⟩] w fun e w'=>e = .returned (.tuple #[.string (s.extract 0 k),.string (s.extract (k+1) s.size),.bool true])/\∃ n,w'=w.drewN n:=by
 have hlt:k<s.size:=by have:=posOf_lt _ _ _ h;simpa using this
 have hc:=Tryz.stringslite_Index_one s c w
 rw [indexByte_eq,h] at hc
 have HC:=Lib.hid hc
 clear hc h
 have e1:IntKind.i64.wrap ((k:Int)+1)=(k:Int)+1:=IntWalk.i64_in _ (by omega)
 have e2:((k:Int)+1).toNat=k+1:=by omega
 have e3:0<=(k:Int)+1:=by omega
 have e4:(k:Int)+1<=(s.size:Int):=by omega
 go_enter Tryz.func280,Tryz.ntmps280
 go_wp2_with (go_at_call 283;refine (HC.out).mono ?_;rintro e w' ⟨rfl,rfl⟩)
 go_quiet (fail)
 go_wp2_with fail
 go_ret3
 exact ⟨rfl,_,rfl⟩
theorem cut_no (s:ByteArray) (c:UInt8) (w:World) (h:posOf s.data.toList c=none) :
  Calls Tryz.prog 276 #[.string s,.string ⟨#[c]⟩] w fun e w'=>e = .returned (.tuple #[.string s,.string ⟨#[]⟩,.bool false])/\w=w':=by
 have HC:=Lib.hid (cut0_no s c w h)
 clear h
 go_enter Tryz.func276,Tryz.ntmps276
 go_wp2_with (go_at_call 280;refine (HC.out).mono ?_;rintro e w' ⟨rfl,rfl⟩)
 go_ret3
 exact ⟨rfl,rfl⟩
theorem cut_yes (s:ByteArray) (c:UInt8) (k:Nat) (w:World) (hs:s.size<9223372036854775807) (h:posOf s.data.toList c=some k) :
  Calls Tryz.prog 276 #[.string s,.string ⟨#[c]⟩] w fun e w'=>e = .returned (.tuple #[.string (s.extract 0 k),.string (s.extract (k+1) s.size),.bool true])/\∃ n,w'=w.drewN n:=by
 have HC:=Lib.hid (cut0_yes s c k w hs h)
 clear h
 go_enter Tryz.func276,Tryz.ntmps276
 go_wp2_with (go_at_call 280;refine (HC.out).mono ?_;rintro e w' ⟨rfl,n,rfl⟩)
 go_ret3
 exact ⟨rfl,n,rfl⟩
def tensF:Nat->Nat
 | 0=>4607182418800017408
 | n+1=>fMul (tensF n) 4621819117588971520
theorem tensF_fin:∀ n,n<=15->RW (tensF n)<9218868437227405312/\¬ isZero (tensF n)/\SG (tensF n)=false:=by decide +kernel
theorem tensF_some (n:Nat) (h:n<=15):floatBits .mul .f64 (tensF n) 4621819117588971520=some (tensF (n+1)):=by
 have key:∀ n,n<=15->Ieee.double.mul (tensF n) 4621819117588971520=some (tensF (n+1)):=by decide +kernel
 exact key n h
theorem tens_any (n:Nat) (w:World) (hn:n<=15) :
  Calls Tryz.prog 279 #[.int .i64 (n:Nat)] w fun e w'=>e = .returned (.float .f64 (tensF n))/\w=w':=by
 go_enter Tryz.func279,Tryz.ntmps279
 go_wp2_with fail
 go_loop [3,5] (fun x i=>∃ k:Nat,k<=n/\i = .int .i64 k/\x = .float .f64 (tensF k)) (fun _ i=>n-(intOf i).toNat)
 case atStart=>exact ⟨0,Nat.zero_le _,rfl,rfl⟩
 case round =>
  obtain ⟨k,hk,rfl,rfl⟩:=hrel
  by_cases hlt:k<n
  ·have hm:=run_float_arith (P:=Tryz.prog) w .mul 277 .f64 (tensF k) 4621819117588971520 _ (tensF_some k (by omega))
   go_wp2_with fail
   go_round
   case rel=>exact ⟨k+1,by omega,by go_num,rfl⟩
   case measure=>simp [intOf];omega
  ·have hk':k=n:=by omega
   subst hk'
   go_wp2_with fail
   go_ret
   exact ⟨rfl,rfl⟩
theorem valL_lt (l:List UInt8) (h:l.all digC=true):valL l<10 ^ l.length:=by
 suffices hs:∀ (l:List UInt8) (n m:Nat),l.all digC=true->n<10 ^ m->l.foldl (fun n c=>10*n+(c.toNat-48)) n<10 ^ (m+l.length) by
  have:=hs l 0 0 h (by decide)
  rwa [Nat.zero_add] at this
 intro l
 induction l with
 | nil=>intro n m _ h;exact h
 | cons c l ih =>
  intro n m hd hn
  rw [List.all_cons,Bool.and_eq_true] at hd
  have hc:c.toNat<=57:=by have:=hd.1;unfold digC at this;simp at this;omega
  rw [List.foldl_cons,List.length_cons,show m+(l.length+1)=(m+1)+l.length by omega]
  refine ih _ (m+1) hd.2 ?_
  rw [Nat.pow_succ];omega
def fltOf (a b:ByteArray):Nat × Int :=
 if (wholeS a && digS b)=false then (0,5) else if 15<a.size+b.size then (0,2)
 else (fDiv (toF ((valL (a.data.toList ++ b.data.toList):Nat):Int)) (tensF b.size),0)
def fltR (s:ByteArray):Nat × Int:=match posOf s.data.toList 46 with
 | none=>(0,5)
 | some k=>fltOf (s.extract 0 k) (s.extract (k+1) s.size)
theorem fltOf_no {a b:ByteArray} (h:(wholeS a && digS b)=false):fltOf a b=(0,5):=by unfold fltOf;rw [if_pos h]
theorem fltOf_long {a b:ByteArray} (h:(wholeS a && digS b)=true) (h2:15<a.size+b.size):fltOf a b=(0,2):=by
 unfold fltOf;rw [if_neg (by rw [h];decide),if_pos h2]
theorem fltOf_yes {a b:ByteArray} (h:(wholeS a && digS b)=true) (h2:¬ 15<a.size+b.size):fltOf a b=(fDiv (toF ((valL (a.data.toList ++ b.data.toList):Nat):Int)) (tensF b.size),0):=by
 unfold fltOf;rw [if_neg (by rw [h];decide),if_neg h2]
theorem app_size (a b:ByteArray):(a ++ b).size=a.size+b.size:=by simp
theorem app_list (a b:ByteArray):(a ++ b).data.toList=a.data.toList ++ b.data.toList:=by rw [ByteArray.data_append,Array.toList_append]
theorem fltV_small (a b:ByteArray) (h:(wholeS a && digS b)=true) (h2:¬ 15<a.size+b.size):(a ++ b).data.toList.all digC=true/\valL (a ++ b).data.toList<1000000000000000:=by
 simp only [Bool.and_eq_true] at h
 have d1:=wholeS_digs h.1
 have d2:b.data.toList.all digC=true:=by have:=h.2;unfold digS at this;simp only [Bool.and_eq_true] at this;exact this.1
 have hd:(a ++ b).data.toList.all digC=true:=by rw [app_list,List.all_append,d1,d2];rfl
 refine ⟨hd,Nat.lt_of_lt_of_le (valL_lt _ hd) ?_⟩
 have:(a ++ b).data.toList.length<=15:=by rw [app_list];simp;omega
 calc 10 ^ (a ++ b).data.toList.length<=10 ^ 15:=Nat.pow_le_pow_right (by decide) this
  _=1000000000000000:=by decide
theorem flt_div (n m:Nat) (hn:n<1000000000000000) (hm:m<=15):∃ r,r<=9218868437227405312/\Ieee.double.div (toF (n:Int)) (tensF m)=some (Ieee.double.word false r):=by
 obtain ⟨h1,h2,h3⟩:=tensF_fin m hm
 obtain ⟨u,hu⟩:∃ u:Nat,u=52+1022:=⟨_,rfl⟩
 obtain ⟨_,g2,_,g4⟩:=svI_toF (n:Int) (by omega) u hu
 obtain ⟨r,hr,e⟩:=div_fin (toF (n:Int)) (tensF m) g2 h1 h2
 rw [h3,g4,decide_eq_false (by omega)] at e
 exact ⟨r,hr,e⟩
theorem flt_bits (n m:Nat) (hn:n<1000000000000000) (hm:m<=15):floatBits .quo .f64 (toF (n:Int)) (tensF m)=some (fDiv (toF (n:Int)) (tensF m))/\¬ isNaN (fDiv (toF (n:Int)) (tensF m))/\SG (fDiv (toF (n:Int)) (tensF m))=false/\fDiv (toF (n:Int)) (tensF m)<18446744073709551616:=by
 obtain ⟨r,hr,e⟩:=flt_div n m hn hm
 have e2:fDiv (toF (n:Int)) (tensF m)=Ieee.double.word false r:=by unfold fDiv;rw [e];rfl
 refine ⟨?_,?_,?_,fDiv_lt _ _⟩
 ·show Ieee.double.div _ _=_
  rw [e,e2]
 ·rw [e2];exact notNaN_word _ _ hr
 ·rw [e2];exact sg_word _ _ (by omega)
end Go.Proofs.YtfehpdliobapfaaGreatDoor.L
