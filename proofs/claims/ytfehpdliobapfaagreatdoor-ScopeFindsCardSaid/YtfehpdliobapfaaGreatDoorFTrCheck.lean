/- For any text and any number,ScopeFinds returns true and leaves its arguments as they were. -/
import Derived.Test.YtfehpdliobapfaaGreatDoorFTrTake
set_option linter.unusedVariables false
set_option linter.unusedSimpArgs false
namespace Go.Proofs.YtfehpdliobapfaaGreatDoor
open Go Go.RowKit
theorem infoBool:(Tryz.prog.info? 4).map (fun i=>(i.zero,i.size,i.bytes))=some (some (.bool false),1,1):=by kernel_rfl
theorem made_bools (n:Nat) (W:World) (hn:n<=16384):(Instr.makeSlice 172 (.int .i64 (n:Int)) (.int .i64 (n:Int))).run Tryz.prog W = .ok (.slice (some ⟨W.heap.size,0,none⟩) n n) (W.alloc (.cells (takenL n []).toArray 4)):=by
 obtain ⟨i0,hi,hz0,hz1,hz2⟩:=info_parts infoBool
 have:=run_make (P:=Tryz.prog) W 172 4 i0 (.bool false) Tryz.underlying172 hi hz0 .i64 .i64 n n (by omega) (Int.le_refl _) (by rw [hz2];omega) (by omega)
 simp only [Int.toNat_natCast] at this
 have e:madeCells (Value.bool false).cells (n*i0.size)=(takenL n []).toArray:=by
  rw [hz1,Nat.mul_one]
  apply Array.ext'
  rw [takenL_nil]
  exact toList_madeCells_one (.bool false) n
 rw [this,e]
theorem checkL_step (x:Nd) (xs:List Nd) (i:Nat) (u:List Nat) (h1:shapedE x=0) (h2:(takeE i x.kids u).1=0):checkL (x :: xs) i u=checkL xs (i+1) (takeE i x.kids u).2:=by
 conv=>lhs;unfold checkL
 rw [if_neg (by simpa using h1),if_neg (by simpa using h2)]
theorem checkL_shape (x:Nd) (xs:List Nd) (i:Nat) (u:List Nat) (h1:shapedE x≠0):checkL (x :: xs) i u=(shapedE x,u):=by unfold checkL;rw [if_pos h1]
theorem checkL_take (x:Nd) (xs:List Nd) (i:Nat) (u:List Nat) (h1:shapedE x=0) (h2:(takeE i x.kids u).1≠0):checkL (x :: xs) i u=takeE i x.kids u:=by unfold checkL;rw [if_neg (by simpa using h1),if_pos h2]
def ChkPost (w:World) (c:Int) (e:Ending) (w':World):Prop:=e = .returned (.int .i64 c)/\Below w.heap.size w w'
set_option maxRecDepth 100000 in
set_option maxHeartbeats 4000000 in
theorem check_any (l:List Nd) (nv:Value) (root:Int) (w:World) (hT:ShTab w) (hn:NdsV w nv l) (hl:l.length<=1099511627776) (hf:∀ x ∈ l,NdFit x) :
  Calls Tryz.prog 62 #[.agg #[nv,.int .i64 root]] w (ChkPost w (checkE l root)):=by
 obtain ⟨src,cap,rfl,hsrc⟩:=hn
 by_cases hlong:16384<l.length
 ·have E:=Lib.hid (show checkE l root=2 by unfold checkE;rw [if_pos hlong])
  clear hsrc hf hT
  generalize l.length=n at *
  have q1:decide ((16384:Int)<(n:Int))=true:=decide_eq_true (by omega)
  go_enter Tryz.func62,Tryz.ntmps62
  go_wp2_with fail
  go_ret
  exact ⟨by rw [E.out];rfl,by repeat (first|exact Below.refl _ _|apply Below.setCell _ (by first|omega|(simp<;>omega))|apply Below.alloc _ (by first|omega|(simp<;>omega)))⟩
 ·by_cases h0:l.length=0
  ·have E:=Lib.hid (show checkE l root=5 by unfold checkE;rw [if_neg hlong,if_pos (.inl h0)])
   clear hsrc hf hT
   rw [h0]
   go_enter Tryz.func62,Tryz.ntmps62
   go_wp2_with fail
   go_ret
   exact ⟨by rw [E.out];rfl,by repeat (first|exact Below.refl _ _|apply Below.setCell _ (by first|omega|(simp<;>omega))|apply Below.alloc _ (by first|omega|(simp<;>omega)))⟩
  ·obtain ⟨b,off,rfl,hb,hrow⟩:=hsrc (by omega)
   obtain ⟨m,hm⟩:∃ m,l.length=m+1:=⟨l.length-1,by omega⟩
   have q1:decide ((16384:Int)<((m:Int)+1))=false:=decide_eq_false (by omega)
   have q2:decide ((m:Int)<0)=false:=decide_eq_false (by omega)
   have hmb:m<16384:=by omega
   have HM:=Lib.hid hm
   have wr1:IntKind.i64.wrap ((m:Int)+1-1)=(m:Int):=by rw [show (m:Int)+1-1=(m:Int) by omega];exact IntWalk.i64_in _ ⟨by omega,by omega⟩
   by_cases hr:root=(m:Int)
   ·subst hr
    obtain ⟨kv,ev,hnd⟩:=hrow m (by omega)
    have c0:=hnd.c0
    have HK:Hid (l.getLast?.map Nd.kind=some (l[m]'(by omega)).kind):=Lib.hid (by
     rw [List.getLast?_eq_getElem?,List.getElem?_eq_getElem (by omega)]
     simp [hm])
    generalize (l[m]'(by omega)).kind=kd at *
    by_cases hk:kd=1
    ·subst hk
     have HE:Hid (checkE l (m:Int)=if (checkL l 0 []).1≠0 then (checkL l 0 []).1 else if ∀ j,j<m->j ∈ (checkL l 0 []).2 then 0 else 3):=Lib.hid (by
      unfold checkE
      rw [if_neg hlong,if_neg (fun h=>by
       rcases h with h|h|h
       ·omega
       ·exact h (by omega)
       ·exact h HK.out)]
      simp only [hm,Nat.add_sub_cancel])
     have HROW:=Lib.hid hrow
     have HF:=Lib.hid hf
     have HT:=Lib.hid hT
     obtain ⟨W0,hW0⟩:∃ W0,W0=w.alloc (.cells #[.slice (some ⟨b,off,none⟩) (m+1) cap,.int .i64 (m:Int)] 25):=⟨_,rfl⟩
     have hmk:=made_bools (m+1) W0 (by omega)
     rw [show ((m+1:Nat):Int)=(m:Int)+1 by omega] at hmk
     have HMK:=Lib.hid hmk
     have HB0:Hid (Below w.heap.size w W0):=Lib.hid (by rw [hW0];exact (Below.refl _ _).alloc (Nat.le_refl _) _)
     have HS0:Hid (W0.heap.size=w.heap.size+1):=Lib.hid (by rw [hW0];simp)
     have HX0:Hid (Bx 25 W0 w.heap.size [.slice (some ⟨b,off,none⟩) (m+1) cap,.int .i64 (m:Int)]):=Lib.hid (by rw [hW0];exact Bx.new 25 w _)
     have HW0:=Lib.hid hW0
     clear hrow hf hT hlong h0 hnd hW0 hmk
     rw [hm]
     clear hm
     go_enter Tryz.func62,Tryz.ntmps62
     go_wp2_with fail
     rw [<- HW0.out,HMK.out]
     simp only [Result.andThen_ok]
     rw [Oper.upon_value]
     obtain ⟨a0,a1,al,af⟩:=HX0.out.two
     go_wp2_with fail
     clear a0 a1 al af
     obtain ⟨g,hg⟩:∃ g,g=W0.heap.size:=⟨_,rfl⟩
     have HG:=Lib.hid hg
     have HB1:Hid (Bx 4 (W0.alloc (.cells (takenL (m+1) []).toArray 4)) g (takenL (m+1) [])):=Lib.hid (by rw [hg];exact Bx.new 4 W0 _)
     have HB2:Hid (Below g W0 (W0.alloc (.cells (takenL (m+1) []).toArray 4))):=Lib.hid (by rw [hg];exact (Below.refl _ _).alloc (Nat.le_refl _) _)
     rw [<- hg]
     clear hg HMK
     go_loopw [43] (fun a wr=>∃ (k:Nat) (u:List Nat),k<=m+1/\a = .int .i64 k/\checkL l 0 []=checkL (l.drop k) k u/\Bx 4 wr g (takenL (m+1) u)/\Below g W0 wr) (fun a _=>m+1-(intOf a).toNat)
     case atStart=>exact ⟨0,[],Nat.zero_le _,rfl,rfl,HB1.out,HB2.out⟩
     case round =>
      clear HB1 HB2
      obtain ⟨k,u,hk,rfl,he,hbx,hbl⟩:=hrel
      have HEQ:=Lib.hid he
      have HBX:=Lib.hid hbx
      have HBL:=Lib.hid hbl
      clear he hbx hbl
      have HGS:Hid (g=w.heap.size+1):=Lib.hid (HG.out.trans HS0.out)
      have BW:=Lib.hid (HB0.out.trans (HBL.out.mono (by have:=HGS.out;omega)))
      by_cases hlt:k<m+1
      ·have hkl:k<l.length:=by have:=HM.out;omega
       obtain ⟨kv,ev,hnd0⟩:=HROW.out k hkl
       have hnd:=hnd0.step hb BW.out
       have HD:Hid (l.drop k=l[k] :: l.drop (k+1)):=Lib.hid (List.drop_eq_getElem_cons hkl)
       have HF1:=Lib.hid (HF.out _ (List.getElem_mem hkl))
       have hk0:=hnd0.kids
       clear hnd0
       generalize l[k]=y at *
       obtain ⟨kind,sf,st,kids,text,B,N,D,M,num,wf,wt,ends⟩:=y
       obtain ⟨ks,kc,hkv,hks⟩:=hk0
       obtain ⟨-,⟨es,ec,hev,hes⟩,e0,e1,e2,e3,e4,e5,e6,e7,e8,e9,e10,e11,e12⟩:=hnd
       simp only at hkv hks hev e0 e1 e2 e3 e4 e5 e6 e7 e8 e9 e10 e11 e12
       subst hkv hev
       have HKB:Hid (∀ w2:World,Below w.heap.size w w2->0<kids.length->∃ b off,ks=some ⟨b,off,none⟩/\b<g/\NumsAt w2 b off kids):=Lib.hid (fun w2 h2 h0=>by
        obtain ⟨b',o',q1,q2,q3⟩:=hks h0
        exact ⟨b',o',q1,by have:=HGS.out;omega,fun i hi=>keep h2 q2 (q3 i hi)⟩)
       have HS:=Lib.hid (fun (w2:World) (h2:Below w.heap.size w w2)=>shaped_any kind sf st kids text B N D M num wf wt ends (.slice ks kids.length kc) (.slice es ends.length ec) w2 (HT.out.step h2) ⟨ks,kc,rfl,hks.step h2⟩ HF1.out.kids (Nat.le_trans HF1.out.M (by unfold maxLen;omega)))
       have HBA:Hid (Below wr.heap.size wr (wr.alloc (.cells #[.int .i64 kind,.int .i64 sf,.int .i64 st,.slice ks kids.length kc,.string text,.int .i64 B,.string N,.int .i64 D,.string M,.int .i64 num,.int .i64 wf,.int .i64 wt,.slice es ends.length ec] 61))):=Lib.hid ((Below.refl _ _).alloc (Nat.le_refl _) _)
       have HX:=Lib.hid (BoxN.new wr #[.int .i64 kind,.int .i64 sf,.int .i64 st,.slice ks kids.length kc,.string text,.int .i64 B,.string N,.int .i64 D,.string M,.int .i64 num,.int .i64 wf,.int .i64 wt,.slice es ends.length ec])
       have HKL:=Lib.hid HF1.out.kids
       have hgl:=HBX.out.lt
       generalize hc:shapedE ⟨kind,sf,st,kids,text,B,N,D,M,num,wf,wt,ends⟩=c at *
       have HC:=Lib.hid hc
       clear hc hks hes HF1
       by_cases h1:c=0
       ·subst h1
        generalize hR:takeE k kids u=R at *
        have HR:=Lib.hid hR
        clear hR
        obtain ⟨r,u'⟩:=R
        by_cases h2:r=0
        ·subst h2
         have HST:Hid (checkL l 0 []=checkL (l.drop (k+1)) (k+1) u'):=Lib.hid (by
          rw [HEQ.out,HD.out,checkL_step _ _ _ _ HC.out (by rw [HR.out]),HR.out])
         go_wp2_with fail
         refine (HS.out _ (BW.out.trans (HBA.out.mono (by have:=BW.out.size;omega)))).mono ?_
         rintro e w2 ⟨rfl,h2⟩
         have H2:=Lib.hid (after HBA.out h2)
         obtain ⟨⟨-,-,-,a3,-⟩,al,-⟩:=(HX.out.keep h2).all
         have HX2:=Lib.hid (HBX.out.keep H2.out)
         have BW2:=Lib.hid (BW.out.trans (H2.out.mono (by have:=BW.out.size;omega)))
         clear h2 HS HX HBA e0 e1 e2 e3 e4 e5 e6 e7 e8 e9 e10 e11 e12
         go_wp2_with fail
         refine (tktake_any (m+1) k g u kids ks kc w2 HX2.out (HKB.out _ BW2.out) hlt (by omega) HKL.out).mono ?_
         rw [HR.out]
         rintro e w3 ⟨rfl,hx3,hg3⟩
         have HX3:=Lib.hid hx3
         have HB3:Hid (Below g W0 w3):=Lib.hid (Below.grown (HBL.out.trans (H2.out.mono (by omega))) hg3 (by have:=H2.out.size;omega) (fun j hj=>by simp at hj;omega))
         clear hx3 hg3
         go_wp2_with fail
         go_roundw
         case rel=>exact ⟨k+1,u',by omega,by go_num,HST.out,HX3.out,HB3.out⟩
         case measure=>simp [intOf];omega
        ·have HF2:Hid (checkE l (m:Int)=r):=Lib.hid (by
          have:checkL l 0 []=(r,u'):=by rw [HEQ.out,HD.out,checkL_take _ _ _ _ HC.out (by rw [HR.out];exact h2),HR.out]
          rw [HE.out,this,if_pos h2])
         have q5:(r != 0)=true:=by simpa using h2
         clear h2
         go_wp2_with fail
         refine (HS.out _ (BW.out.trans (HBA.out.mono (by have:=BW.out.size;omega)))).mono ?_
         rintro e w2 ⟨rfl,h2⟩
         have H2:=Lib.hid (after HBA.out h2)
         obtain ⟨⟨-,-,-,a3,-⟩,al,-⟩:=(HX.out.keep h2).all
         have HX2:=Lib.hid (HBX.out.keep H2.out)
         have BW2:=Lib.hid (BW.out.trans (H2.out.mono (by have:=BW.out.size;omega)))
         clear h2 HS HX HBA e0 e1 e2 e3 e4 e5 e6 e7 e8 e9 e10 e11 e12
         go_wp2_with fail
         refine (tktake_any (m+1) k g u kids ks kc w2 HX2.out (HKB.out _ BW2.out) hlt (by omega) HKL.out).mono ?_
         rw [HR.out]
         rintro e w3 ⟨rfl,hx3,hg3⟩
         have HB3:Hid (Below g W0 w3):=Lib.hid (Below.grown (HBL.out.trans (H2.out.mono (by omega))) hg3 (by have:=H2.out.size;omega) (fun j hj=>by simp at hj;omega))
         clear hx3 hg3
         go_wp2_with fail
         go_ret
         exact ⟨by rw [HF2.out];rfl,HB0.out.trans (HB3.out.mono (by have:=HGS.out;omega))⟩
       ·have HF2:Hid (checkE l (m:Int)=c):=Lib.hid (by
         have:checkL l 0 []=(c,u):=by rw [HEQ.out,HD.out,checkL_shape _ _ _ _ (by rw [HC.out];exact h1),HC.out]
         rw [HE.out,this,if_pos h1])
        have q5:(c != 0)=true:=by simpa using h1
        clear h1
        go_wp2_with fail
        refine (HS.out _ (BW.out.trans (HBA.out.mono (by have:=BW.out.size;omega)))).mono ?_
        rintro e w2 ⟨rfl,h2⟩
        have H2:=Lib.hid (after HBA.out h2)
        clear h2 HS HX HBA e0 e1 e2 e3 e4 e5 e6 e7 e8 e9 e10 e11 e12
        go_wp2_with fail
        go_ret
        exact ⟨by rw [HF2.out];rfl,BW.out.trans (H2.out.mono (by have:=BW.out.size;omega))⟩
      ·have hk':k=m+1:=by omega
       subst hk'
       have HE2:Hid (checkE l (m:Int)=if ∀ j,j<m->j ∈ u then 0 else 3):=Lib.hid (by
        have:checkL l 0 []=(0,u):=by rw [HEQ.out,<- HM.out,List.drop_length];rfl
        rw [HE.out,this];simp)
       have HCT:=Lib.hid (fun cap w (h:Bx 4 w g (takenL (m+1) u))=>containsB_any (m+1) m cap g u w h (by omega) (by omega))
       have i1:(m:Int)<=(m:Int)+1:=by omega
       have i2:m<=m+1:=by omega
       by_cases hall:∀ j,j<m->j ∈ u
       ·have E:Hid (checkE l (m:Int)=0):=Lib.hid (by rw [HE2.out,if_pos hall])
        rw [decide_eq_true hall] at HCT
        clear hall
        go_wp2_with fail
        refine (HCT.out _ _ HBX.out).mono ?_
        rintro e w2 ⟨rfl,rfl⟩
        go_wp2_with fail
        go_ret
        exact ⟨by rw [E.out];rfl,BW.out⟩
       ·have E:Hid (checkE l (m:Int)=3):=Lib.hid (by rw [HE2.out,if_neg hall])
        rw [decide_eq_false hall] at HCT
        clear hall
        go_wp2_with fail
        refine (HCT.out _ _ HBX.out).mono ?_
        rintro e w2 ⟨rfl,rfl⟩
        go_wp2_with fail
        go_ret
        exact ⟨by rw [E.out];rfl,BW.out⟩
    ·have E:=Lib.hid (show checkE l (m:Int)=5 by unfold checkE;rw [if_neg hlong,if_pos (.inr (.inr (by rw [HK.out];simpa using hk)))])
     clear hrow hf hT hlong h0 hnd
     rw [hm]
     clear hm
     go_enter Tryz.func62,Tryz.ntmps62
     go_wp2_with fail
     go_ret
     exact ⟨by rw [E.out];rfl,by repeat (first|exact Below.refl _ _|apply Below.setCell _ (by first|omega|(simp<;>omega))|apply Below.alloc _ (by first|omega|(simp<;>omega)))⟩
   ·have E:=Lib.hid (show checkE l root=5 by unfold checkE;rw [if_neg hlong,if_pos (.inr (.inl (by omega)))])
    clear hrow hf hT hlong h0
    rw [hm]
    clear hm
    go_enter Tryz.func62,Tryz.ntmps62
    go_wp2_with fail
    go_ret
    exact ⟨by rw [E.out];rfl,by repeat (first|exact Below.refl _ _|apply Below.setCell _ (by first|omega|(simp<;>omega))|apply Below.alloc _ (by first|omega|(simp<;>omega)))⟩
end Go.Proofs.YtfehpdliobapfaaGreatDoor
