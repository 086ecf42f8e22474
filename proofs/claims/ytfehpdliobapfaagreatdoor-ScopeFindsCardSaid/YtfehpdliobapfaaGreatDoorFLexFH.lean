/- For any text and any number,ScopeFinds returns true and leaves its arguments as they were. -/
import Derived.Test.YtfehpdliobapfaaGreatDoorFLexCE
import Derived.Test.YtfehpdliobapfaaGreatDoorFBuilderB
set_option maxRecDepth 100000
set_option maxHeartbeats 4000000
set_option linter.unusedVariables false
namespace Go.Proofs.YtfehpdliobapfaaGreatDoor.L
open Go Go.RowKit
def ofN (l:List Nat):List UInt8:=l.map Nat.toUInt8
def strN (l:List Nat):ByteArray:=⟨(ofN l).toArray⟩
theorem ofN_snoc (l:List Nat) (c:Nat):ofN (l ++ [c])=ofN l ++ [c.toUInt8]:=by simp [ofN]
theorem cells_snoc (l:List Nat) (c:Nat) (h:c<256):Lib.byteCells (ofN (l ++ [c]))=Lib.byteCells (ofN l) ++ [.int .u8 (c:Int)]:=by
 rw [ofN_snoc];simp [Lib.byteCells];omega
def idxW (k:Nat):Int:=Lib.indexByte (⟨#[110,116,34,92]⟩:ByteArray).data.toList k.toUInt8
theorem idxW_all:∀ k,k<256->(meantS k=none->idxW k<0):=by decide +kernel
theorem idxW110:idxW 110=0:=by decide
theorem idxW116:idxW 116=1:=by decide
theorem idxW34:idxW 34=2:=by decide
theorem idxW92:idxW 92=3:=by decide
theorem meant_cases {k m:Nat} (h:meantS k=some m):(k=110/\m=10)\/(k=116/\m=9)\/(k=34/\m=34)\/(k=92/\m=92):=by
 unfold meantS at h
 split at h
 ·injection h;omega
 ·split at h
  ·injection h;omega
  ·split at h
   ·injection h;omega
   ·split at h
    ·injection h;omega
    ·cases h
theorem writ_any (k:Nat) (w:World) :
  Calls Tryz.prog 179 #[.string ⟨#[110,116,34,92]⟩,.int .u8 (k:Int)] w fun e w'=>e = .returned (.int .i64 (idxW k))/\w=w' :=
 (Tryz.strings_IndexByte ⟨#[110,116,34,92]⟩ (k:Int) w).mono fun e w' h=>⟨by rw [h.1];rfl,h.2.symm⟩
theorem said_end {g:Nat->Nat} {n i:Nat} {b:Bool} {acc:List Nat} (h:n<=i):saidG g n i b acc=(61,[]):=by
 unfold saidG;rw [show n-i=0 by omega];rfl
theorem said_step {g:Nat->Nat} {n i:Nat} {b:Bool} {acc:List Nat} (h:i<n):saidG g n i b acc =
  if seenB (g i)=false then (60,[]) else
  if b=true then (match meantS (g i) with|none=>(5,[])|some m=>saidG g n (i+1) false (acc ++ [m])) else
  if g i=34 then (0,acc) else if g i=92 then saidG g n (i+1) true acc else saidG g n (i+1) false (acc ++ [g i]):=by
 unfold saidG
 rw [show n-i=(n-(i+1))+1 by omega]
 rfl
def SayInv (w wr:World) (acc:List Nat):Prop:=Below w.heap.size w wr/\w.heap.size<wr.heap.size/\Lib.IsBuilderF 154 5 w.heap.size w.heap.size (Lib.byteCells (ofN acc)) wr
theorem SayInv.wrote {w wr w2:World} {acc:List Nat} {c:Nat} (h:SayInv w wr acc) (hc:c<256) (h1:Lib.IsBuilderF 154 5 w.heap.size w.heap.size (Lib.byteCells (ofN acc) ++ [.int .u8 (c:Int)]) w2) (hb:Below w.heap.size wr w2):SayInv w w2 (acc ++ [c]) :=
 ⟨h.1.trans hb,by have:=hb.size;have:=h.2.1;omega,by rw [cells_snoc _ _ hc];exact h1⟩
def SaidPost (w:World) (R:Nat × List Nat) (e:Ending) (w':World):Prop:=e = .returned (.tuple #[.string (strN R.2),.int .i64 (R.1:Nat)])/\Below w.heap.size w w'
theorem said_any (x:ByteArray) (w:World) (h0:0<x.size) (hs:x.size<=65536) :
  Calls Tryz.prog 145 #[.string x] w (SaidPost w (saidG (byS x) x.size 1 false [])):=by
 obtain ⟨R,hR⟩:∃ R,saidG (byS x) x.size 1 false []=R:=⟨_,rfl⟩
 rw [hR]
 have HR:=Lib.hid hR
 have HI0:Hid (SayInv w (w.alloc (.cells #[.pointer none,.slice none 0 0] 154)) []):=Lib.hid
  ⟨(Below.refl _ _).alloc (Nat.le_refl _) _,by simp,Lib.IsBuilderF.of (Lib.fresh_isBuilder 154 5 w)⟩
 clear hR
 go_enter Tryz.func145,Tryz.ntmps145
 go_wp2_with fail
 go_loopw [12,5] (fun t b wr=>∃ (j:Nat) (bb:Bool) (acc:List Nat),j+1<=x.size/\acc.length<=j/\t = .int .i64 j/\b = .bool bb/\saidG (byS x) x.size (j+1) bb acc=R/\SayInv w wr acc) (fun t _ _=>x.size-(intOf t).toNat)
 case atStart=>exact ⟨0,false,[],by omega,by simp,rfl,rfl,HR.out,HI0.out⟩
 case round =>
  obtain ⟨j,bb,acc,hj,hacc,rfl,rfl,hk,hinv⟩:=hrel
  have HK:=Lib.hid hk
  have HI:=Lib.hid hinv
  clear hk hinv HI0 HR
  by_cases hlt:j+1<x.size
  ·have i1:(j:Int)<(x.size:Int)-1:=by omega
   have HB:=Lib.hid (byS_get x (j+1) hlt)
   have HST:=Lib.hid (said_step (g:=byS x) (b:=bb) (acc:=acc) hlt)
   rw [HB.out,HK.out] at HST
   have hc256:x[j+1].toNat<256:=UInt8.toNat_lt _
   have HC:=Lib.hid hc256
   have HS:=Lib.hid (fun w=>seen_any x[j+1].toNat w)
   have HW:=Lib.hid (fun w=>writ_any x[j+1].toNat w)
   cases hs:seenB x[j+1].toNat
   ·rw [hs] at HS
    have E:=Lib.hid (show R=(60,[]) by rw [HST.out,if_pos hs])
    clear hs
    go_wp2_with (first|(go_at_call 178;refine (HS.out _).mono ?_;rintro e w1 ⟨rfl,rfl⟩)|(go_at_call 179;refine (HW.out _).mono ?_;rintro e w1 ⟨rfl,rfl⟩))
    go_ret2
    exact ⟨by rw [E.out];rfl,HI.out.1⟩
   ·rw [hs] at HS
    have HSN:Hid (R=if bb=true then (match meantS x[j+1].toNat with|none=>(5,[])|some m=>saidG (byS x) x.size (j+1+1) false (acc ++ [m])) else if x[j+1].toNat=34 then (0,acc) else if x[j+1].toNat=92 then saidG (byS x) x.size (j+1+1) true acc else saidG (byS x) x.size (j+1+1) false (acc ++ [x[j+1].toNat])):=Lib.hid (by rw [HST.out,if_neg (by simp [hs])])
    clear hs HST
    cases bb
    ·by_cases h34:x[j+1].toNat=34
     ·have t1:((x[j+1].toNat:Int) == 34)=true:=by rw [h34];rfl
      have E:=Lib.hid (show R=(0,acc) by rw [HSN.out,if_neg (by simp),if_pos h34])
      clear h34 hc256
      go_wp2_with (first|(go_at_call 178;refine (HS.out _).mono ?_;rintro e w1 ⟨rfl,rfl⟩)|(go_at_call 179;refine (HW.out _).mono ?_;rintro e w1 ⟨rfl,rfl⟩))
      refine (Tryz.Builder_String_any_k _ _ (ofN acc) _ HI.out.2.2 (by have:=HI.out.2.1;omega)).mono ?_
      rintro e w3 ⟨rfl,-,g2,-⟩
      have G2:=Lib.hid g2
      clear g2
      go_wp2_with fail
      go_ret2
      exact ⟨by rw [E.out];rfl,HI.out.1.trans G2.out⟩
     ·have t1:((x[j+1].toNat:Int) == 34)=false:=by simp;omega
      by_cases h92:x[j+1].toNat=92
      ·have t2:((x[j+1].toNat:Int) == 92)=true:=by rw [h92];rfl
       have E:=Lib.hid (show saidG (byS x) x.size (j+1+1) true acc=R by rw [HSN.out,if_neg (by simp),if_neg h34,if_pos h92])
       clear h34 h92 hc256
       go_wp2_with (first|(go_at_call 178;refine (HS.out _).mono ?_;rintro e w1 ⟨rfl,rfl⟩)|(go_at_call 179;refine (HW.out _).mono ?_;rintro e w1 ⟨rfl,rfl⟩))
       go_roundw
       case rel=>exact ⟨j+1,true,acc,by omega,by omega,by go_num,rfl,E.out,HI.out⟩
       case measure=>simp [intOf];omega
      ·have t2:((x[j+1].toNat:Int) == 92)=false:=by simp;omega
       have E:=Lib.hid (show saidG (byS x) x.size (j+1+1) false (acc ++ [x[j+1].toNat])=R by rw [HSN.out,if_neg (by simp),if_neg h34,if_neg h92])
       clear h34 h92 hc256
       go_wp2_with fail
       refine (HS.out _).mono ?_
       rintro e w1 ⟨rfl,rfl⟩
       go_wp2_with fail
       refine (writeByte_any _ _ _ _ _ HI.out.2.2 (by simp [Lib.byteCells,ofN];omega) (by have:=HI.out.2.1;omega)).mono ?_
       rintro e w2 ⟨rfl,g1,g2,-⟩
       have HN:=Lib.hid (HI.out.wrote HC.out g1 g2)
       clear g1 g2
       go_wp2_with fail
       go_roundw
       case rel=>exact ⟨j+1,false,acc ++ [x[j+1].toNat],by omega,by simp;omega,by go_num,rfl,E.out,HN.out⟩
       case measure=>simp [intOf];omega
    ·cases hm:meantS x[j+1].toNat with
     | none =>
      have hneg:=idxW_all _ hc256 hm
      have E:=Lib.hid (show R=(5,[]) by rw [HSN.out,if_pos rfl,hm])
      clear hm hc256
      generalize idxW x[j+1].toNat=v at *
      go_wp2_with (first|(go_at_call 178;refine (HS.out _).mono ?_;rintro e w1 ⟨rfl,rfl⟩)|(go_at_call 179;refine (HW.out _).mono ?_;rintro e w1 ⟨rfl,rfl⟩))
      go_ret2
      exact ⟨by rw [E.out];rfl,HI.out.1⟩
     | some m =>
      have E:=Lib.hid (show saidG (byS x) x.size (j+1+1) false (acc ++ [m])=R by rw [HSN.out,if_pos rfl,hm])
      have hmc:=meant_cases hm
      clear hm hc256 HC HSN
      rcases hmc with ⟨q1,q2⟩|⟨q1,q2⟩|⟨q1,q2⟩|⟨q1,q2⟩
      all_goals
       subst q2
       rw [q1] at HW
       first|rw [idxW110] at HW|rw [idxW116] at HW|rw [idxW34] at HW|rw [idxW92] at HW
       have hv:(x[j+1].toNat:Int)=((_:Nat):Int):=congrArg Nat.cast q1
       have HV:=Lib.hid hv
       have HQ:=Lib.hid q1
       clear hv q1
       go_wp2_with fail
       refine (HS.out _).mono ?_
       rintro e w1 ⟨rfl,rfl⟩
       go_wp2_with fail
       rw [HQ.out]
       refine (HW.out _).mono ?_
       rintro e w1 ⟨rfl,rfl⟩
       go_wp2_with fail
       refine (writeByte_any _ _ _ _ _ HI.out.2.2 (by simp [Lib.byteCells,ofN];omega) (by have:=HI.out.2.1;omega)).mono ?_
       rintro e w2 ⟨rfl,g1,g2,-⟩
       have HN:=Lib.hid (HI.out.wrote (by decide) g1 g2)
       clear g1 g2
       go_wp2_with fail
       go_roundw
       case rel=>exact ⟨j+1,false,_,by omega,by simp;omega,by go_num,rfl,E.out,HN.out⟩
       case measure=>simp [intOf];omega
  ·have i1:¬ (j:Int)<(x.size:Int)-1:=by omega
   have E:=Lib.hid (show R=(61,[]) by rw [<- HK.out,said_end (by omega)])
   go_wp2_with fail
   go_ret2
   exact ⟨by rw [E.out];rfl,HI.out.1⟩
def tokV (i:Nat) (r:Nat × Nat × Nat):Value:=if r.1=0 then .agg #[.int .i64 (r.2.1:Nat),.int .i64 (i:Nat),.int .i64 (r.2.2:Nat)] else .agg #[.int .i64 0,.int .i64 0,.int .i64 0]
def TokenPost (w:World) (i:Nat) (r:Nat × Nat × Nat) (e:Ending) (w':World):Prop:=e = .returned (.tuple #[tokV i r,.int .i64 (r.1:Nat)])/\Below w.heap.size w w'
theorem token_any (s:ByteArray) (i:Nat) (w:World) (hs:s.size<=65536) (hi:i<s.size) :
  Calls Tryz.prog 108 #[.string s,.int .i64 (i:Nat)] w (TokenPost w i (tokenG (byS s) s.size i)):=by
 have HR:=Lib.hid (fun w=>reach_any s i w hs hi)
 obtain ⟨a1,a2,a3,a4,a5⟩:=reach_facts (g:=byS s) hi
 have HT:Hid (tokenG (byS s) s.size i=if longG (reachG (byS s) s.size i).1<(reachG (byS s) s.size i).2-i then (2,0,0) else if (reachG (byS s) s.size i).1=5/\(reachG (byS s) s.size i).2=i then (60,0,0) else if (reachG (byS s) s.size i).1=4/\(saidG (fun j=>byS s (i+j)) ((reachG (byS s) s.size i).2-i) 1 false []).1≠0 then ((saidG (fun j=>byS s (i+j)) ((reachG (byS s) s.size i).2-i) 1 false []).1,0,0) else (0,(reachG (byS s) s.size i).1,(reachG (byS s) s.size i).2)):=Lib.hid rfl
 generalize reachG (byS s) s.size i=r at *
 obtain ⟨k,t⟩:=r
 dsimp only at a1 a2 a3 a4 a5 HT HR
 have HLG:=Lib.hid (fun w=>longest_any k w a4 a5)
 have hlg:longG k<=256:=by unfold longG;split<;>(try split)<;>omega
 generalize hLL:longG k=lg at *
 clear hLL
 by_cases h1:lg<t-i
 ·have E:=Lib.hid (show tokenG (byS s) s.size i=(2,0,0) by rw [HT.out,if_pos h1])
  have i1:(lg:Int)<(t:Int)-(i:Int):=by omega
  clear h1
  go_enter Tryz.func108,Tryz.ntmps108
  go_wp2_with fail
  refine (HR.out _).mono ?_
  rintro e w1 ⟨rfl,h01⟩
  have hz:=h01.size
  obtain ⟨hc,hf⟩:=bcell h01
  go_wp2_with fail
  refine (HLG.out _).mono ?_
  rintro e w2 ⟨rfl,rfl⟩
  go_wp2_with fail
  refine bodyPost_ret (v:=.tuple #[.agg #[.int .i64 0,.int .i64 0,.int .i64 0],.int .i64 2]) (by simp [results,Tryz.results108,go_sem,hc]) rfl ?_
  exact ⟨by rw [E.out];rfl,by repeat (first|exact Below.refl _ _|apply Below.setCell _ (by first|omega|(simp<;>omega))|apply Below.alloc _ (by first|omega|(simp<;>omega))|exact h01|refine after ?_ h01)⟩
 ·have i1:¬ (lg:Int)<(t:Int)-(i:Int):=by omega
  by_cases h2:k=5/\t=i
  ·have E:=Lib.hid (show tokenG (byS s) s.size i=(60,0,0) by rw [HT.out,if_neg h1,if_pos h2])
   obtain ⟨rfl,rfl⟩:=h2
   clear h1
   go_enter Tryz.func108,Tryz.ntmps108
   go_wp2_with fail
   refine (HR.out _).mono ?_
   rintro e w1 ⟨rfl,h01⟩
   have hz:=h01.size
   obtain ⟨hc,hf⟩:=bcell h01
   go_wp2_with fail
   refine (HLG.out _).mono ?_
   rintro e w2 ⟨rfl,rfl⟩
   go_wp2_with fail
   refine bodyPost_ret (v:=.tuple #[.agg #[.int .i64 0,.int .i64 0,.int .i64 0],.int .i64 60]) (by simp [results,Tryz.results108,go_sem,hc]) rfl ?_
   exact ⟨by rw [E.out];rfl,by repeat (first|exact Below.refl _ _|apply Below.setCell _ (by first|omega|(simp<;>omega))|apply Below.alloc _ (by first|omega|(simp<;>omega))|exact h01|refine after ?_ h01)⟩
  ·by_cases h4:k=4
   ·have hti:=a3 (by omega)
    have hz2:(s.extract i t).size=t-i:=by simp;omega
    have HS:=Lib.hid (fun w=>said_any (s.extract i t) w (by omega) (by omega))
    rw [hz2,said_congr (g:=fun j=>byS s (i+j)) (fun j _ hj=>byS_extract s i t j a2 hj)] at HS
    have t4:((k:Int) == 4)=true:=by simp;omega
    have t5:((k:Int) == 5)=false:=by simp;omega
    obtain ⟨⟨code,out⟩,hR⟩:∃ R,saidG (fun j=>byS s (i+j)) (t-i) 1 false []=R:=⟨_,rfl⟩
    rw [hR] at HS HT
    unfold SaidPost at HS
    dsimp only at HS HT
    clear hR hz2
    by_cases h0:code=0
    ·have E:=Lib.hid (show tokenG (byS s) s.size i=(0,k,t) by rw [HT.out,if_neg h1,if_neg h2,if_neg (fun h=>h.2 h0)])
     have tc:((code:Int) != 0)=false:=by simp;omega
     clear h0 h1 h2 h4
     go_enter Tryz.func108,Tryz.ntmps108
     go_wp2_with fail
     refine (HR.out _).mono ?_
     rintro e w1 ⟨rfl,h01⟩
     have hz:=h01.size
     obtain ⟨hc,hf⟩:=bcell h01
     go_wp2_with fail
     refine (HLG.out _).mono ?_
     rintro e w2 ⟨rfl,rfl⟩
     go_wp2_with fail
     refine (HS.out _).mono ?_
     rintro e w3 ⟨rfl,h12⟩
     have h03:=after h01 h12
     have hz3:=h03.size
     obtain ⟨hc3,hf3⟩:=bcell h03
     clear hc hf
     go_wp2_with fail
     refine bodyPost_ret (v:=.tuple #[.agg #[.int .i64 (k:Nat),.int .i64 (i:Nat),.int .i64 (t:Nat)],.int .i64 0]) (by simp [results,Tryz.results108,go_sem,hc3]) rfl ?_
     exact ⟨by rw [E.out];rfl,by repeat (first|exact Below.refl _ _|apply Below.setCell _ (by first|omega|(simp<;>omega))|apply Below.alloc _ (by first|omega|(simp<;>omega))|exact h03|refine after ?_ h03)⟩
    ·have E:=Lib.hid (show tokenG (byS s) s.size i=(code,0,0) by rw [HT.out,if_neg h1,if_neg h2,if_pos ⟨h4,h0⟩])
     have tc:((code:Int) != 0)=true:=by simp;omega
     have EV:=Lib.hid (show tokV i (code,0,0) = .agg #[.int .i64 0,.int .i64 0,.int .i64 0] by unfold tokV;rw [if_neg h0])
     clear h0 h1 h2 h4
     go_enter Tryz.func108,Tryz.ntmps108
     go_wp2_with fail
     refine (HR.out _).mono ?_
     rintro e w1 ⟨rfl,h01⟩
     have hz:=h01.size
     obtain ⟨hc,hf⟩:=bcell h01
     go_wp2_with fail
     refine (HLG.out _).mono ?_
     rintro e w2 ⟨rfl,rfl⟩
     go_wp2_with fail
     refine (HS.out _).mono ?_
     rintro e w3 ⟨rfl,h12⟩
     have h03:=after h01 h12
     have hz3:=h03.size
     obtain ⟨hc3,hf3⟩:=bcell h03
     clear hc hf
     go_wp2_with fail
     refine bodyPost_ret (v:=.tuple #[.agg #[.int .i64 0,.int .i64 0,.int .i64 0],.int .i64 (code:Nat)]) (by simp [results,Tryz.results108,go_sem,hc3]) rfl ?_
     exact ⟨by rw [E.out,EV.out],by repeat (first|exact Below.refl _ _|apply Below.setCell _ (by first|omega|(simp<;>omega))|apply Below.alloc _ (by first|omega|(simp<;>omega))|exact h03|refine after ?_ h03)⟩
   ·have t4:((k:Int) == 4)=false:=by simp;omega
    have E:=Lib.hid (show tokenG (byS s) s.size i=(0,k,t) by rw [HT.out,if_neg h1,if_neg h2,if_neg (fun h=>h4 h.1)])
    by_cases h5:k=5
    ·have t5:((k:Int) == 5)=true:=by simp;omega
     have t6:((t:Int) == (i:Int))=false:=by simp;omega
     clear h1 h2 h4 h5
     go_enter Tryz.func108,Tryz.ntmps108
     go_wp2_with fail
     refine (HR.out _).mono ?_
     rintro e w1 ⟨rfl,h01⟩
     have hz:=h01.size
     obtain ⟨hc,hf⟩:=bcell h01
     go_wp2_with fail
     refine (HLG.out _).mono ?_
     rintro e w2 ⟨rfl,rfl⟩
     go_wp2_with fail
     refine bodyPost_ret (v:=.tuple #[.agg #[.int .i64 (k:Nat),.int .i64 (i:Nat),.int .i64 (t:Nat)],.int .i64 0]) (by simp [results,Tryz.results108,go_sem,hc]) rfl ?_
     exact ⟨by rw [E.out];rfl,by repeat (first|exact Below.refl _ _|apply Below.setCell _ (by first|omega|(simp<;>omega))|apply Below.alloc _ (by first|omega|(simp<;>omega))|exact h01|refine after ?_ h01)⟩
    ·have t5:((k:Int) == 5)=false:=by simp;omega
     clear h1 h2 h4 h5
     go_enter Tryz.func108,Tryz.ntmps108
     go_wp2_with fail
     refine (HR.out _).mono ?_
     rintro e w1 ⟨rfl,h01⟩
     have hz:=h01.size
     obtain ⟨hc,hf⟩:=bcell h01
     go_wp2_with fail
     refine (HLG.out _).mono ?_
     rintro e w2 ⟨rfl,rfl⟩
     go_wp2_with fail
     refine bodyPost_ret (v:=.tuple #[.agg #[.int .i64 (k:Nat),.int .i64 (i:Nat),.int .i64 (t:Nat)],.int .i64 0]) (by simp [results,Tryz.results108,go_sem,hc]) rfl ?_
     exact ⟨by rw [E.out];rfl,by repeat (first|exact Below.refl _ _|apply Below.setCell _ (by first|omega|(simp<;>omega))|apply Below.alloc _ (by first|omega|(simp<;>omega))|exact h01|refine after ?_ h01)⟩
theorem infoTok:(Tryz.prog.info? 109).map (fun i=>(i.zero,i.size,i.bytes))=some (some (.agg #[.int .i64 0,.int .i64 0,.int .i64 0]),3,24):=by kernel_rfl
def flatK (l:List Tok):List Value:=l.flatMap fun x=>[.int .i64 (x.1:Nat),.int .i64 (x.2.1:Nat),.int .i64 (x.2.2:Nat)]
theorem flatK_snoc (l:List Tok) (x:Tok):flatK (l ++ [x])=flatK l ++ [.int .i64 (x.1:Nat),.int .i64 (x.2.1:Nat),.int .i64 (x.2.2:Nat)]:=by simp [flatK]
theorem flatK_get:∀ (l:List Tok) (i:Nat) (h:i<l.length),(flatK l)[i*3]? = some (.int .i64 (l[i].1:Nat))/\(flatK l)[i*3+1]? = some (.int .i64 (l[i].2.1:Nat))/\(flatK l)[i*3+2]? = some (.int .i64 (l[i].2.2:Nat))
 | [],i,h=>absurd h (by simp)
 | x :: l,0,h=>⟨rfl,rfl,rfl⟩
 | x :: l,i+1,h=>by
  have e:flatK (x :: l)=[.int .i64 (x.1:Nat),.int .i64 (x.2.1:Nat),.int .i64 (x.2.2:Nat)] ++ flatK l:=rfl
  obtain ⟨h1,h2,h3⟩:=flatK_get l i (by simpa using h)
  rw [e]
  refine ⟨?_,?_,?_⟩
  ·rw [List.getElem?_append_right (by simp;omega),show (i+1)*3-_=i*3 by simp;omega];exact h1
  ·rw [List.getElem?_append_right (by simp;omega),show (i+1)*3+1-_=i*3+1 by simp;omega];exact h2
  ·rw [List.getElem?_append_right (by simp;omega),show (i+1)*3+2-_=i*3+2 by simp;omega];exact h3
def TokAt (w:World) (b off:Nat) (l:List Tok):Prop :=
 ∀ i (h:i<l.length),w.cell? ⟨b,off+i*3,none⟩=some (.int .i64 (l[i].1:Nat))/\w.cell? ⟨b,off+i*3+1,none⟩=some (.int .i64 (l[i].2.1:Nat))/\w.cell? ⟨b,off+i*3+2,none⟩=some (.int .i64 (l[i].2.2:Nat))
theorem TokAt.below {w w':World} {B b off:Nat} {l:List Tok} (h:TokAt w b off l) (hb:Below B w w') (hB:b<B):TokAt w' b off l:=fun i hi =>
 ⟨(hb.cell (p:=⟨b,off+i*3,none⟩) hB).trans (h i hi).1,(hb.cell (p:=⟨b,off+i*3+1,none⟩) hB).trans (h i hi).2.1,(hb.cell (p:=⟨b,off+i*3+2,none⟩) hB).trans (h i hi).2.2⟩
def ToksIn (w w':World) (l:List Tok) (v:Value):Prop:=∃ g cap,v = .slice (some ⟨g,0,none⟩) l.length cap/\w.heap.size<=g/\g<w'.heap.size/\l.length<=cap/\cap<=maxLen/\TokAt w' g 0 l
theorem tok_of_own {w:World} {B:Nat} {l:List Tok} {v:Value} (ho:w.ownsRow B 109 3 v l.length (flatK l)) (h:0<l.length):∃ g cap,v = .slice (some ⟨g,0,none⟩) l.length cap/\B<=g/\g<w.heap.size/\l.length<=cap/\cap<=maxLen/\TokAt w g 0 l:=by
 have ho':=ho
 rcases ho.2 with ⟨hv,hn⟩|⟨g,cap,cur,hv,hg,hh,hc,hm,_⟩
 ·omega
 ·subst hv
  refine ⟨g,cap,rfl,hg,(ho'.lt g rfl).2,hc,hm,fun i hi=>?_⟩
  have hcl:=ho'.cells (g:=g) rfl
  have e:∀ j,(⟨g,0,none⟩:Addr).add j=⟨g,j,none⟩:=fun j=>by unfold Addr.add;by_cases h:j=0<;>simp [h]
  obtain ⟨k1,k2,k3⟩:=flatK_get l i hi
  have c1:=hcl _ _ k1
  have c2:=hcl _ _ k2
  have c3:=hcl _ _ k3
  rw [e] at c1 c2 c3
  rw [Nat.zero_add]
  exact ⟨c1,c2,c3⟩
def TkInv (w wr:World) (l:List Tok) (v:Value):Prop :=
 Below w.heap.size w wr/\wr.ownsRow w.heap.size 109 3 v l.length (flatK l)/\wr.heap[w.heap.size]? = some (.cells #[.int .i64 0,.int .i64 0] 28 (0,0))
theorem TkInv.lt {w wr:World} {l:List Tok} {v:Value} (h:TkInv w wr l v):w.heap.size<wr.heap.size:=lt_of_block h.2.2
theorem TkInv.step {w wr w2:World} {l:List Tok} {v:Value} (h:TkInv w wr l v) (hb:Below wr.heap.size wr w2):TkInv w w2 l v :=
 ⟨after h.1 hb,h.2.1.kept (row:=none) ⟨hb.os,hb.tape,hb.output,hb.size,fun k hk _=>hb.block k hk⟩ (by cases v.ownBlock<;>simp),by rw [hb.block _ h.lt];exact h.2.2⟩
theorem TkInv.alloc {w wr:World} {l:List Tok} {v:Value} (h:TkInv w wr l v) (o:Obj):TkInv w (wr.alloc o) l v:=h.step ((Below.refl _ _).alloc (Nat.le_refl _) _)
theorem TkInv.yes {w wr w2:World} {v v':Value} {l:List Tok} {x:Tok} {o':Obj} (h:TkInv w wr l v)
  (hown':w2.ownsRow w.heap.size 109 3 v' (l.length+1) (flatK l ++ [.int .i64 (x.1:Nat),.int .i64 (x.2.1:Nat),.int .i64 (x.2.2:Nat)])) (hg:(wr.alloc o').grownBy w2 v.ownBlock):TkInv w w2 (l ++ [x]) v':=by
 have hlt:=h.lt
 obtain ⟨hbel,ho,hf⟩:=h
 refine ⟨Below.grown (hbel.alloc hbel.size o') hg (by simp;have:=hbel.size;omega) (fun j hj=>(ho.lt j hj).1),?_,?_⟩
 ·rw [flatK_snoc];simpa using hown'
 ·rw [hg.block _ (by simp;omega) (fun e=>?_),Below.heap_alloc _ _ _ hlt]
  ·exact hf
  ·obtain ⟨_,h2⟩:=ho
   rcases h2 with ⟨rfl,_⟩|⟨g,cap,cur,rfl,_,hh,_⟩
   ·simp [Value.ownBlock] at e
   ·simp only [Value.ownBlock,Option.some.injEq] at e
    rw [<- e] at hh
    rw [hf] at hh
    simp at hh
theorem TkInv.box {w wr w2:World} {l:List Tok} {v:Value} {o o':Obj} (h:TkInv w wr l v) (hg:((wr.alloc o).alloc o').grownBy w2 v.ownBlock):w2.heap[wr.heap.size]? = some o/\wr.heap.size<w2.heap.size:=by
 obtain ⟨hbel,ho,hf⟩:=h
 have e:w2.heap[wr.heap.size]? = some o:=by
  rw [hg.block _ (by simp;omega) (fun e=>by have:=(ho.lt _ e.symm).2;omega),Below.heap_alloc _ _ _ (by simp)]
  exact heap_alloc_new _ _
 exact ⟨e,lt_of_block e⟩
theorem three_cells {w:World} {b:Nat} {x y z:Value} {t:TypeId} (h:w.heap[b]? = some (.cells #[x,y,z] t (0,0))):w.cell? ⟨b,0,none⟩=some x/\w.cell? ⟨b,1,none⟩=some y/\w.cell? ⟨b,2,none⟩=some z/\b<w.heap.size :=
 ⟨by simp [World.cell?,h],by simp [World.cell?,h],by simp [World.cell?,h],lt_of_block h⟩
theorem two_cellsB {w:World} {b:Nat} {u v:Value} {t:TypeId} (h:w.heap[b]? = some (.cells #[u,v] t (0,0))):w.cell? ⟨b,0,none⟩=some u/\w.cell? ⟨b,1,none⟩=some v/\w.frozen? ⟨b,0,none⟩=false/\w.frozen? ⟨b,1,none⟩=false :=
 ⟨by simp [World.cell?,h],by simp [World.cell?,h],by simp [World.frozen?,h],by simp [World.frozen?,h]⟩
def LexPost (w:World) (R:List Tok × Nat × Nat) (e:Ending) (w':World):Prop :=
 Below w.heap.size w w'/\(R.2.1=0->∃ v,e = .returned (.tuple #[v,.agg #[.int .i64 0,.int .i64 0]])/\ToksIn w w' R.1 v)/\(R.2.1≠0->e = .returned (.tuple #[.slice none 0 0,.agg #[.int .i64 (R.2.1:Nat),.int .i64 (R.2.2:Nat)]]))
theorem lex_bad_post {w w':World} {R:List Tok × Nat × Nat} {l:List Tok} {c a:Nat} (h:R=(l,c,a)) (hc:c≠0) (hb:Below w.heap.size w w'):LexPost w R (.returned (.tuple #[.slice none 0 0,.agg #[.int .i64 (c:Nat),.int .i64 (a:Nat)]])) w':=by
 subst h
 exact ⟨hb,fun h=>absurd h hc,fun _=>rfl⟩
theorem lex_any (s:ByteArray) (w:World) (hm:s.size<=maxLen) :
  Calls Tryz.prog 57 #[.string s] w (LexPost w (lexG (byS s) s.size)):=by
 have hm':=hm
 unfold maxLen at hm
 by_cases hs:65536<s.size
 ·have E:=Lib.hid (show lexG (byS s) s.size=([],2,0) by unfold lexG;rw [if_pos hs])
  go_enter Tryz.func57,Tryz.ntmps57
  go_wp2_with fail
  refine bodyPost_ret (v:=.tuple #[.slice none 0 0,.agg #[.int .i64 2,.int .i64 0]]) (by simp [results,Tryz.results57,go_sem]) rfl ?_
  exact lex_bad_post (c:=2) (a:=0) E.out (by decide) (by repeat (first|exact Below.refl _ _|apply Below.setCell _ (by first|omega|(simp<;>omega))|apply Below.alloc _ (by first|omega|(simp<;>omega))))
 ·have hs':s.size<=65536:=by omega
  clear hs
  obtain ⟨i0,hi,hz0,hz1,hz2⟩:=info_parts infoTok
  have hg0:=gap_le (byS s) (Nat.zero_le s.size)
  have HG0:=Lib.hid (fun w=>gap_any s 0 w hm' (Nat.zero_le _))
  obtain ⟨R,hR⟩:∃ R,toksG (byS s) s.size (gapG (byS s) s.size 0) 0=R:=⟨_,rfl⟩
  have HR:=Lib.hid hR
  have HLX:Hid (lexG (byS s) s.size=if R.2.1=0 then (R.1 ++ [(0,s.size,s.size)],0,0) else ([],R.2)):=Lib.hid (by unfold lexG;rw [if_neg (by omega),hR])
  have hrow0:TkInv w (w.alloc (.cells #[.int .i64 0,.int .i64 0] 28)) [] (.slice none 0 0):=⟨(Below.refl _ _).alloc (Nat.le_refl _) _,⟨rfl,.inl ⟨rfl,rfl⟩⟩,heap_alloc_new _ _⟩
  have HI0:=Lib.hid hrow0
  have HM:=Lib.hid hm'
  clear hR hrow0 hm'
  generalize gapG (byS s) s.size 0=g0 at *
  generalize hLG:lexG (byS s) s.size=LG at *
  clear hLG
  go_enter Tryz.func57,Tryz.ntmps57
  go_wp2_with fail
  refine (HG0.out _).mono ?_
  rintro e w1 ⟨rfl,rfl⟩
  go_wp2_with fail
  go_loopw [4,5] (fun u t wr=>∃ (a:Nat) (l:List Tok) (v:Value),a<=s.size/\l.length<=16384/\t = .int .i64 a/\u=v/\TkInv w wr l v/\R=(l ++ (toksG (byS s) s.size a l.length).1,(toksG (byS s) s.size a l.length).2)) (fun _ t _=>s.size-(intOf t).toNat)
  case atStart=>exact ⟨g0,[],_,hg0,by simp,rfl,rfl,HI0.out,by rw [<- HR.out];rfl⟩
  case round =>
   obtain ⟨a,l,v,ha,hl,rfl,rfl,hinv,hk⟩:=hrel
   have HK:=Lib.hid hk
   have HI:=Lib.hid hinv
   clear hk hinv HI0 HR HG0
   by_cases hlt:a<s.size
   ·have i1:(a:Int)<(s.size:Int):=by omega
    have hbel:=HI.out.1
    have hbs:=hbel.size
    obtain ⟨-,-,hfl⟩:=HI.out
    obtain ⟨f0,f1,fz0,fz1⟩:=two_cellsB hfl
    have hflt:=lt_of_block hfl
    obtain ⟨p,q,hshape⟩:∃ p q,u4 = .slice p l.length q:=by
     rcases HI.out.2.1.2 with ⟨hv,hn⟩|⟨g,cap,cur,hv,_⟩
     ·exact ⟨none,0,by rw [hn];exact hv⟩
     ·exact ⟨some ⟨g,0,none⟩,cap,hv⟩
    subst hshape
    by_cases hfull:l.length=16384
    ·have E:=Lib.hid (show LG=([],2,a) by
      have h1:=HK.out
      rw [hfull,toks_full hlt] at h1
      rw [HLX.out,h1];rfl)
     have t1:((l.length:Int) == 16384)=true:=by rw [hfull];rfl
     clear hfull
     go_wp2_with fail
     refine bodyPost_ret (v:=.tuple #[.slice none 0 0,.agg #[.int .i64 2,.int .i64 (a:Nat)]]) (by simp [results,Tryz.results57,go_sem,f0,f1]) rfl ?_
     exact lex_bad_post (c:=2) (a:=a) E.out (by decide) (by repeat (first|exact Below.refl _ _|apply Below.setCell _ (by first|omega|(simp<;>omega))|apply Below.alloc _ (by first|omega|(simp<;>omega))|exact hbel|refine after ?_ hbel))
    ·have t1:((l.length:Int) == 16384)=false:=by simp;omega
     have HT:=Lib.hid (fun w=>token_any s a w hs' hlt)
     unfold TokenPost at HT
     by_cases hc:(tokenG (byS s) s.size a).1=0
     ·obtain ⟨q1,q2,q3,q4⟩:=token_to hlt hc
      have HK2:=Lib.hid (toks_next hlt hfull hc)
      have EV:=Lib.hid (show tokV a (tokenG (byS s) s.size a) = .agg #[.int .i64 ((tokenG (byS s) s.size a).2.1:Nat),.int .i64 (a:Nat),.int .i64 ((tokenG (byS s) s.size a).2.2:Nat)] by unfold tokV;rw [if_pos hc])
      rw [EV.out,hc] at HT
      have HGP:=Lib.hid (fun w=>gap_any s (tokenG (byS s) s.size a).2.2 w HM.out q2)
      have hge:=gap_ge (byS s) q2
      have hgl:=gap_le (byS s) q2
      clear hc EV
      generalize (tokenG (byS s) s.size a).2.1=k at *
      generalize (tokenG (byS s) s.size a).2.2=t at *
      have EK:Hid (R=((l ++ [(k,a,t)]) ++ (toksG (byS s) s.size (gapG (byS s) s.size t) (l ++ [(k,a,t)]).length).1,(toksG (byS s) s.size (gapG (byS s) s.size t) (l ++ [(k,a,t)]).length).2)):=Lib.hid (by
       have h1:=HK.out
       rw [HK2.out] at h1
       rw [h1];simp)
      clear HK2 HK
      generalize gapG (byS s) s.size t=a2 at *
      go_wp2_with fail
      refine (HT.out _).mono ?_
      rintro e w2 ⟨rfl,h12⟩
      have HI2:=Lib.hid (HI.out.step h12)
      have HO:=Lib.hid HI2.out.2.1
      have hz12:=h12.size
      clear h12 f0 f1 fz0 fz1 hfl
      go_wp2_with (at_builtin;refine wpList_append_own _ rfl _ _ 99 rfl w.heap.size 109 i0 (.agg #[.int .i64 0,.int .i64 0,.int .i64 0]) 3 24 Tryz.underlying99 hi hz0 hz1 hz2 rfl (by decide) _ _ _ rfl ((HO.out.alloc _).alloc _) ⟨w2.heap.size+1,0,none⟩ 1 1 [.int .i64 (k:Nat),.int .i64 (a:Nat),.int .i64 (t:Nat)] rfl rfl ?c1 ?c2 ?c3 ?c4 ?c5 ?_)
      case c1 =>
       intro j u hj
       match j,hj with
       | 0,hj=>simp at hj;subst hj;simp [Addr.add,go_sem]
       | 1,hj=>simp at hj;subst hj;simp [Addr.add,go_sem]
       | 2,hj=>simp at hj;subst hj;simp [Addr.add,go_sem]
      case c2=>intro u hu;simp at hu;rcases hu with rfl|rfl|rfl<;>rfl
      case c3=>unfold maxLen;omega
      case c4=>omega
      case c5=>simp;omega
      intro v' w3 hown' hgrow _
      obtain ⟨b1,b2⟩:=HI2.out.box hgrow
      obtain ⟨-,-,d2,-⟩:=three_cells b1
      have HV:=Lib.hid ((HI2.out.alloc _).yes (x:=(k,a,t)) hown' hgrow)
      clear hown' hgrow b1
      go_wp2_with fail
      refine (HGP.out _).mono ?_
      rintro e w4 ⟨rfl,rfl⟩
      go_wp2_with fail
      go_roundw
      case rel=>exact ⟨a2,l ++ [(k,a,t)],_,hgl,by simp;omega,rfl,rfl,HV.out,EK.out⟩
      case measure=>simp [intOf];omega
     ·have E:=Lib.hid (show LG=([],(tokenG (byS s) s.size a).1,a) by
       have h1:=HK.out
       rw [toks_bad hlt hfull hc] at h1
       rw [HLX.out,h1,if_neg hc])
      have EV:=Lib.hid (show tokV a (tokenG (byS s) s.size a) = .agg #[.int .i64 0,.int .i64 0,.int .i64 0] by unfold tokV;rw [if_neg hc])
      rw [EV.out] at HT
      generalize (tokenG (byS s) s.size a).1=c at *
      have t2:((c:Int) != 0)=true:=by simp;omega
      have HC:=Lib.hid hc
      clear hc hfull EV
      go_wp2_with fail
      refine (HT.out _).mono ?_
      rintro e w2 ⟨rfl,h12⟩
      have h02:=after hbel h12
      have hz12:=h12.size
      have k0:=keep h12 hflt f0
      have k1:=keep h12 hflt f1
      have k2:w2.frozen? ⟨w.heap.size,0,none⟩=false:=by rw [h12.frozen (p:=⟨w.heap.size,0,none⟩) hflt];exact fz0
      have k3:w2.frozen? ⟨w.heap.size,1,none⟩=false:=by rw [h12.frozen (p:=⟨w.heap.size,1,none⟩) hflt];exact fz1
      have hq:w.heap.size<w2.heap.size:=by omega
      clear f0 f1 fz0 fz1
      go_wp2_with fail
      refine bodyPost_ret (v:=.tuple #[.slice none 0 0,.agg #[.int .i64 (c:Nat),.int .i64 (a:Nat)]]) (by simp [results,Tryz.results57,go_sem,k0,k1,hq]) rfl ?_
      exact lex_bad_post (c:=c) (a:=a) E.out HC.out (by repeat (first|exact Below.refl _ _|apply Below.setCell _ (by first|omega|(simp<;>omega))|apply Below.alloc _ (by first|omega|(simp<;>omega))|exact h02|refine after ?_ h02))
   ·have hae:a=s.size:=by omega
    have HK1:=Lib.hid (show R=(l,0,a) by
     have h1:=HK.out
     rw [toks_end (by omega)] at h1
     rw [h1];simp)
    have E:=Lib.hid (show LG=(l ++ [(0,s.size,s.size)],0,0) by rw [HLX.out,HK1.out];rfl)
    have hbel:=HI.out.1
    have hbs:=hbel.size
    have HO:=Lib.hid HI.out.2.1
    subst hae
    clear HK
    go_wp2_with (at_builtin;refine wpList_append_own _ rfl _ _ 99 rfl w.heap.size 109 i0 (.agg #[.int .i64 0,.int .i64 0,.int .i64 0]) 3 24 Tryz.underlying99 hi hz0 hz1 hz2 rfl (by decide) _ _ _ rfl ((HO.out.alloc _).alloc _) ⟨wr.heap.size+1,0,none⟩ 1 1 [.int .i64 ((0:Nat):Int),.int .i64 (s.size:Nat),.int .i64 (s.size:Nat)] rfl rfl ?c1 ?c2 ?c3 ?c4 ?c5 ?_)
    case c1 =>
     intro j u hj
     match j,hj with
     | 0,hj=>simp at hj;subst hj;simp [Addr.add,go_sem]
     | 1,hj=>simp at hj;subst hj;simp [Addr.add,go_sem]
     | 2,hj=>simp at hj;subst hj;simp [Addr.add,go_sem]
    case c2=>intro u hu;simp at hu;rcases hu with rfl|rfl|rfl<;>rfl
    case c3=>unfold maxLen;omega
    case c4=>omega
    case c5=>simp;omega
    intro v' w3 hown' hgrow _
    have hV:=(HI.out.alloc (.cells #[.int .i64 ((0:Nat):Int),.int .i64 (s.size:Nat),.int .i64 (s.size:Nat)] 109)).yes (x:=(0,s.size,s.size)) hown' hgrow
    have hfl:=hV.2.2
    obtain ⟨f0,f1,fz0,fz1⟩:=two_cellsB hfl
    have hq:=lt_of_block hfl
    obtain ⟨g,cap,rfl,r1,r2,r3,r4,r5⟩:=tok_of_own (l:=l ++ [(0,s.size,s.size)]) hV.2.1 (by simp)
    have HV:=Lib.hid hV
    have HT5:=Lib.hid r5
    have HT4:=Lib.hid r4
    clear hown' hgrow hV hfl r5 r4
    have hne:g≠w.heap.size:=fun e=>by
     have h1:=HV.out.2.2
     rcases HV.out.2.1.2 with ⟨hv,_⟩|⟨g',cap',cur,hv,_,hh,_⟩
     ·cases hv
     ·injection hv with hv
      injection hv with hv
      injection hv with hv
      rw [<- hv,e,h1] at hh
      simp at hh
    go_wp2_with fail
    refine bodyPost_ret (v:=.tuple #[.slice (some ⟨g,0,none⟩) (l ++ [(0,s.size,s.size)]).length cap,.agg #[.int .i64 0,.int .i64 0]]) (by simp [results,Tryz.results57,go_sem,f0,f1]) rfl ?_
    rw [E.out]
    refine ⟨(HV.out.1.setCell (Nat.le_refl _) _).setCell (Nat.le_refl _) _,fun _=>⟨_,rfl,g,cap,rfl,r1,by simpa [World.setCell] using r2,r3,HT4.out,fun i hi=>?_⟩,fun h=>absurd rfl h⟩
    obtain ⟨x0,x1,x2⟩:=HT5.out i hi
    refine ⟨?_,?_,?_⟩
    all_goals
     rw [World.cell?_setCell_other _ _ _ _ (by intro hh;injection hh;omega),World.cell?_setCell_other _ _ _ _ (by intro hh;injection hh;omega)]
     assumption
end Go.Proofs.YtfehpdliobapfaaGreatDoor.L
