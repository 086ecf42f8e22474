/- For any text and any numbers,ScopeBlocks,ScopeUses and ScopeMany return true and leave their arguments as they were. -/
import Derived.Test.YtfehpdliobapfaaGreatDoorKScMT
import Derived.OpenShut
set_option linter.unusedVariables false
set_option linter.unusedSimpArgs false
namespace Go.Proofs.YtfehpdliobapfaaGreatDoor.S
open Go Go.RowKit
theorem idx_eq (o:Option Nat) (k:Nat):(idxI o == (k:Int))=decide (o=some k):=by
 cases o with
 | none =>
  have:¬ ((-1:Int)=(k:Int)):=by omega
  simp [idxI,this]
 | some q =>
  by_cases h:q=k
  ·simp [idxI,h]
  ·have:¬ ((q:Int)=(k:Int)):=by omega
   simp [idxI,h,this]
theorem in_of_wf {z:Int} (h:(Lit.int .i64 z).wf=true):In64 z:=by
 have h' : -9223372036854775808<=z/\z<=9223372036854775807:=bounds_i64 h
 exact h'
set_option maxRecDepth 100000 in
set_option maxHeartbeats 4000000 in
theorem usesw_any (x:ByteArray) (hm:x.size<=maxLen) (k:Int) (wk:(Lit.int .i64 k).wf=true) (slot:Int) (ws:(Lit.int .i64 slot).wf=true) (w:World) (hT:ShTab w) :
  Calls Tryz.prog 10 #[.string x,.int .i64 k,.int .i64 slot] w fun e w'=>e = .returned (.bool true)/\Below w.heap.size w w':=by
 have HT:=Lib.hid hT
 have HM:=Lib.hid hm
 have HK:=Lib.hid (in_of_wf wk)
 have HS:=Lib.hid (in_of_wf ws)
 clear wk ws
 by_cases hbig:1200<x.size
 ·have q1:decide ((x.size:Int) > 1200)=true:=decide_eq_true (by omega)
  have q2:decide ((1200:Int)<(x.size:Int))=true:=decide_eq_true (by omega)
  go_enter Tryz.func10,Tryz.ntmps10
  go_wp2_with fail
  refine (means_any w hT).mono ?_
  rintro e w1 ⟨rfl,hb1⟩
  have BB:=Lib.hid hb1
  clear hb1
  go_wp2_with fail
  go_ret
  exact ⟨rfl,by first|exact BB.out|exact BB.out.alloc (by have:=BB.out.size;omega) _⟩
 ·have q1:decide ((x.size:Int) > 1200)=false:=decide_eq_false (by omega)
  have q2:decide ((1200:Int)<(x.size:Int))=false:=decide_eq_false (by omega)
  have q3:x.size<=1200:=by omega
  go_enter Tryz.func10,Tryz.ntmps10
  go_wp2_with fail
  refine (means_any w hT).mono ?_
  rintro e w1 ⟨rfl,hb1⟩
  have B1:=Lib.hid hb1
  clear hb1 hT
  go_wp2_with fail
  refine (parse_any x w1 HM.out).mono ?_
  rintro e w2 ⟨hb2,v,root,rfl,hyes,hno⟩
  have B2:=Lib.hid (after B1.out hb2)
  clear hbig q1 q2 q3
  generalize parsedX x=R at *
  obtain ⟨l,c,z⟩:=R
  dsimp only at hyes hno ⊢
  by_cases hc:c=0
  ·subst hc
   obtain ⟨rfl,hn,h0,hl,hgood⟩:=hyes rfl
   have N2:=Lib.hid hn
   have L2:=Lib.hid hl
   have HG:Hid (∀ y ∈ l,NdFit y):=Lib.hid (fun y hy=>good_fit (hgood y hy))
   obtain ⟨s1,c1,rfl,-⟩:=id hn.nds
   clear hyes hno hn h0 hl hgood hb2
   have HME:=Lib.hid (fun (w3:World) (hb:Below w2.heap.size w2 w3)=>method_any l (.slice s1 l.length c1) ((l.length:Int)-1) k w3 (N2.out.nds.step hb) (by have:=L2.out;omega) HK.out)
   go_wp2_with fail
   refine (HME.out _ (by repeat (first|exact Below.refl _ _|apply Below.setCell _ (by first|omega|(simp<;>omega))|apply Below.alloc _ (by first|omega|(simp<;>omega))))).mono ?_
   rintro e w3 ⟨rfl,hb3⟩
   obtain ⟨hbA,hT3,hF3⟩:=new_two hb3
   have B3:=Lib.hid (after B2.out hbA)
   have T3:=Lib.hid hT3
   have F3:=Lib.hid hF3
   have HO:=Lib.hid (of_any l (.slice s1 l.length c1) ((l.length:Int)-1) (methS l k) w3 (HT.out.step B3.out) (N2.out.nds.step hbA) (by have:=L2.out;omega) HG.out)
   have N3:=Lib.hid (N2.out.nds.step hbA)
   clear hb3 hbA hT3 hF3 HME N2
   obtain ⟨f0,f1,fl,ff⟩:=F3.out.two
   obtain ⟨t0,t1,tl,tf⟩:=T3.out.two
   generalize methS l k=m at *
   by_cases hneg:m<0
   ·have n1:decide (m<0)=true:=decide_eq_true hneg
    have BB:=B3
    clear hneg HO
    go_wp2_with fail
    go_ret
    exact ⟨rfl,by first|exact BB.out|exact BB.out.alloc (by have:=BB.out.size;omega) _⟩
   have n1:decide (m<0)=false:=decide_eq_false hneg
   obtain ⟨n,hnn⟩:∃ n,l.length=n:=⟨_,rfl⟩
   have HNN:=Lib.hid hnn
   rw [hnn] at HO t0 t1 ⊢
   clear hneg hnn
   go_wp2_with fail
   refine HO.out.mono ?_
   rintro e w4 ⟨hb4,⟨k4,z4,hr,rfl,hk0⟩|⟨s,S,hr,rfl,hX⟩⟩
   ·have BB:=Lib.hid (after B3.out hb4)
    clear hr hb4 HO hk0
    go_wp2_with fail
    go_ret
    exact ⟨rfl,by first|exact BB.out|exact BB.out.alloc (by have:=BB.out.size;omega) _⟩
   ·obtain ⟨P,K,h0⟩:=scope_ok (show scopeS l ((n:Int)-1) m (inBlockS l m.toNat) = .ok s from hr)
    have HUS:Hid (∀ x k,s.us x=some k->x<l.length):=Lib.hid (fun x k h=>K.lt P (K.inn.usV x k h).1)
    have HSS:Hid (∀ x k,s.ss x=some k->x<l.length):=Lib.hid (fun x k h=>K.lt P (K.inn.ssV x k h).1)
    have HUK:Hid (∀ x k,s.us x=some k->k<s.lc.length):=Lib.hid (fun x k h=>(K.inn.usV x k h).2.2)
    have HSK:Hid (∀ x k,s.ss x=some k->k<s.lc.length):=Lib.hid (fun x k h=>by
     rcases (K.inn.ssV x k h).2 with ⟨-,q⟩|⟨-,q⟩
     ·exact (List.getElem?_eq_some_iff.1 q).1
     ·exact (K.inn.usV _ k q).2.2)
    have PP:=Lib.hid P
    have KK:=Lib.hid K
    have T4:=Lib.hid (T3.out.keep hb4)
    have N4:=Lib.hid (N3.out.step hb4)
    have B4:=Lib.hid (after B3.out hb4)
    clear t0 t1 tl tf f0 f1 fl ff HO hr P K h0 hb4 T3 F3 N3 B3
    go_wp2_with fail
    have B5:=Lib.hid (B4.out.alloc (by have:=B4.out.size;omega) (.cells #[.int .i64 0,.int .i64 0] 28))
    have X5:=Lib.hid (hX.step ((Below.refl _ _).alloc (Nat.le_refl _) (.cells #[.int .i64 0,.int .i64 0] 28)))
    have T5:=Lib.hid (T4.out.alloc (.cells #[.int .i64 0,.int .i64 0] 28))
    have N5:=Lib.hid (N4.out.step ((Below.refl _ _).alloc (Nat.le_refl _) (.cells #[.int .i64 0,.int .i64 0] 28)))
    generalize w4.alloc (.cells #[.int .i64 0,.int .i64 0] 28)=w5 at *
    obtain ⟨t11,h11⟩:∃ t11,t11=w4.heap.size:=⟨_,rfl⟩
    rw [<- h11]
    clear h11 B4 hX T4 N4
    refine (uses_any X5.out slot HUS.out (by have:=L2.out;omega)).mono ?_
    rintro e w6 ⟨uv,rfl,hru,hb6⟩
    have X6:=Lib.hid (X5.out.step hb6)
    have HRU:=Lib.hid hru
    obtain ⟨ug,uc,rfl⟩:=own_any_shape hru
    clear hru
    go_wp2_with fail
    refine (sets_any X6.out slot HSS.out (by have:=L2.out;omega)).mono ?_
    rintro e w7 ⟨sv,rfl,hrs,hb7⟩
    have X7:=Lib.hid (X6.out.step hb7)
    have RU:=Lib.hid (ownsRow_step HRU.out hb7)
    have RS:=Lib.hid hrs
    obtain ⟨sg,sc,rfl⟩:=own_any_shape hrs
    have B7:=Lib.hid (after (after B5.out hb6) hb7)
    have T7:=Lib.hid ((T5.out.keep hb6).keep hb7)
    have N7:=Lib.hid ((N5.out.step hb6).step hb7)
    clear hrs hb6 hb7 X5 X6 HRU T5 N5 B5
    by_cases hout:slot<0\/(s.lc.length:Int)<=slot
    ·rw [ris_out HUK.out hout,ris_out HSK.out hout]
     by_cases hneg:slot<0
     ·have o1:decide (slot<0)=true:=decide_eq_true hneg
      have BB:=B7
      clear hneg hout
      go_wp2_with fail
      go_ret
      exact ⟨rfl,by first|exact BB.out|exact BB.out.alloc (by have:=BB.out.size;omega) _⟩
     ·have o1:decide (slot<0)=false:=decide_eq_false hneg
      have o2:decide (slot ≥ (s.lc.length:Int))=true:=decide_eq_true (by omega)
      have o3:decide ((s.lc.length:Int)<=slot)=true:=decide_eq_true (by omega)
      clear hneg hout
      go_wp2_with fail
      refine (sclen_any X7.out).mono ?_
      rintro e w8 ⟨rfl,rfl⟩
      have BB:=B7
      go_wp2_with fail
      go_ret
      exact ⟨rfl,by first|exact BB.out|exact BB.out.alloc (by have:=BB.out.size;omega) _⟩
    ·obtain ⟨sl,rfl⟩:∃ sl:Nat,slot=sl:=⟨slot.toNat,by omega⟩
     have hsl:sl<s.lc.length:=by omega
     have o1:decide ((sl:Int)<0)=false:=decide_eq_false (by omega)
     have o2:decide ((sl:Int) ≥ (s.lc.length:Int))=false:=decide_eq_false (by omega)
     have o3:decide ((s.lc.length:Int)<=(sl:Int))=false:=decide_eq_false (by omega)
     have o4:decide (s.lc.length<=sl)=false:=decide_eq_false (by omega)
     have HSL:=Lib.hid hsl
     clear hout hsl
     go_wp2_with fail
     refine (sclen_any X7.out).mono ?_
     rintro e w8 ⟨rfl,rfl⟩
     rw [ris_nat] at RU RS
     rw [ris_nat,ris_nat]
     have HU:=Lib.hid (own_nums (l:=natI (forS l.length s.us sl)) (by rw [natI_len];exact RU.out))
     have HW:=Lib.hid (own_nums (l:=natI (forS l.length s.ss sl)) (by rw [natI_len];exact RS.out))
     clear RU RS
     rw [natI_len,HNN.out] at HU HW
     rw [HNN.out]
     have HPU:Hid (∀ j,j<n->s.us j=some sl->(forS j s.us sl).length<(forS n s.us sl).length/\(forS n s.us sl)[(forS j s.us sl).length]? = some j):=Lib.hid (fun j hj h=>⟨for_lt hj h,for_at hj h⟩)
     have HPS:Hid (∀ j,j<n->s.ss j=some sl->(forS j s.ss sl).length<(forS n s.ss sl).length/\(forS n s.ss sl)[(forS j s.ss sl).length]? = some j):=Lib.hid (fun j hj h=>⟨for_lt hj h,for_at hj h⟩)
     obtain ⟨t0,t1,tl,tf⟩:=T7.out.two
     rw [HNN.out] at t0
     obtain ⟨u,hu⟩:∃ u,u=forS n s.us sl:=⟨_,rfl⟩
     obtain ⟨v,hv⟩:∃ v,v=forS n s.ss sl:=⟨_,rfl⟩
     have ULN:u.length<=n:=by rw [hu];exact for_len
     have VLN:v.length<=n:=by rw [hv];exact for_len
     rw [<- hu] at HU HPU ⊢
     rw [<- hv] at HW HPS ⊢
     have HUU:=Lib.hid hu
     have HVV:=Lib.hid hv
     have NLE:n<=8193:=by have:=L2.out;have:=HNN.out;omega
     obtain ⟨ul,hul⟩:∃ ul,ul=u.length:=⟨_,rfl⟩
     obtain ⟨vl,hvl⟩:∃ vl,vl=v.length:=⟨_,rfl⟩
     rw [<- hul] at HU HPU ULN ⊢
     rw [<- hvl] at HW HPS VLN ⊢
     have HUL:=Lib.hid hul
     have HVL:=Lib.hid hvl
     clear hu hv hul hvl
     go_wp2_with fail
     clear t0 t1 tl tf
     go_loopg [14,15,71] n (fun gk av bv iv wr=>∃ j:Nat,iv = .int .i64 (j:Int)/\j+gk=n/\av = .int .i64 ((forS j s.us sl).length:Nat)/\bv = .int .i64 ((forS j s.ss sl).length:Nat)/\Below w8.heap.size w8 wr)
     case atStart=>exact ⟨0,rfl,by omega,rfl,rfl,Below.refl _ _⟩
     case round =>
      obtain ⟨j,rfl,hjk,rfl,rfl,hbel⟩:=hrel
      rename World=>wr
      have BR:=Lib.hid hbel
      cases gk with
      | zero =>
       have d1:decide ((j:Int)<(n:Int))=false:=decide_eq_false (by omega)
       have d2:¬ (j:Int)<(n:Int):=by omega
       have d3:decide (j<n)=false:=decide_eq_false (by omega)
       have d4:¬ j<n:=by omega
       have e:j=n:=by omega
       have BB:=Lib.hid (after B7.out BR.out)
       have eu:(forS j s.us sl).length=ul:=by rw [e,HUL.out,HUU.out]
       have ev:(forS j s.ss sl).length=vl:=by rw [e,HVL.out,HVV.out]
       rw [eu,ev]
       clear hbel eu ev
       go_wp2_with fail
       go_ret
       exact ⟨rfl,by first|exact BB.out|exact BB.out.alloc (by have:=BB.out.size;omega) _⟩
      | succ gk =>
       have hjn:j<n:=by omega
       have hjl:j<l.length:=by have:=HNN.out;omega
       obtain ⟨src',cap',hv',hin⟩:=N7.out
       simp only [Value.slice.injEq] at hv'
       obtain ⟨rfl,-,-⟩:=hv'
       obtain ⟨g,off,rfl,hg,hat⟩:=hin (by omega)
       have HAT:=Lib.hid hat
       obtain ⟨kv,ev,hx⟩:=hat j hjl
       have hx:=hx.step hg hbel
       have hg8:=hg
       have hg:=Nat.lt_of_lt_of_le hg hbel.size
       obtain ⟨ks,kc,rfl,hks⟩:=hx.kids
       obtain ⟨es,ec,rfl,hes⟩:=hx.ends
       obtain ⟨-,-,d0,d1,d2,d3,d4,d5,d6,d7,d8,d9,d10,d11,d12⟩:=hx
       have XR:=Lib.hid (X7.out.step hbel)
       have HSJ:=Lib.hid (fun (W:World) (hb:Below wr.heap.size wr W)=>slot_any (XR.out.step hb) (z:=(j:Nat)) (by unfold In64;omega))
       rw [if_neg (show ¬ ((j:Nat):Int)<0 by omega),show ((j:Nat):Int).toNat=j by omega] at HSJ
       have HUI:=Lib.hid (KK.out.use_iff j sl)
       have HSI:=Lib.hid (KK.out.set_iff PP.out j sl hjl)
       have HPJ:=Lib.hid (HPU.out j hjn)
       have HQJ:=Lib.hid (HPS.out j hjn)
       have hA1:∀ h:s.us j=some sl,(forS (j+1) s.us sl).length=(forS j s.us sl).length+1:=fun h=>for_yes h
       have hA0:∀ h:¬ s.us j=some sl,(forS (j+1) s.us sl).length=(forS j s.us sl).length:=fun h=>for_no h
       have hB1:∀ h:s.ss j=some sl,(forS (j+1) s.ss sl).length=(forS j s.ss sl).length+1:=fun h=>for_yes h
       have hB0:∀ h:¬ s.ss j=some sl,(forS (j+1) s.ss sl).length=(forS j s.ss sl).length:=fun h=>for_no h
       have HA1:=Lib.hid hA1
       have HA0:=Lib.hid hA0
       have HB1:=Lib.hid hB1
       have HB0:=Lib.hid hB0
       have aL:(forS j s.us sl).length<=j:=for_len
       have bL:(forS j s.ss sl).length<=j:=for_len
       clear hA1 hA0 hB1 hB0
       generalize (forS j s.us sl).length=a at *
       generalize (forS j s.ss sl).length=b at *
       have e1:decide ((j:Int)<(n:Int))=true:=decide_eq_true (by omega)
       have e2:(j:Int)<(n:Int):=by omega
       have e3:decide (j<n)=true:=decide_eq_true (by omega)
       have e5:j+1<=8193:=by omega
       have e6:(j:Int)+1<=8193:=by omega
       have e7:a+1<=8193/\b+1<=8193:=by omega
       have HKJ:=Lib.hid (kndS_get hjl)
       have HKO:=Lib.hid (kidsOf_get l j hjl)
       have HAH:=Lib.hid (PP.out.ahead j hjl)
       have HKS:=Lib.hid hks
       have HL1:=Lib.hid hjl
       generalize l[j]=y at *
       have hI:=idx_eq (slotS s j) sl
       obtain ⟨p,hp⟩:∃ p,idxI (slotS s j)=p:=⟨_,rfl⟩
       rw [hp] at hI HSJ
       clear hat hin hks hes hbel hp
       by_cases h25:y.kind=25
       ·have k25:(y.kind == 25)=true:=by simp [h25]
        have k9:(y.kind == 9)=false:=by simp [h25]
        have k10:(y.kind == 10)=false:=by simp [h25]
        have HSN:Hid ((forS (j+1) s.ss sl).length=b):=Lib.hid (HB0.out (fun h=>by
         rcases HSI.out.2 h with ⟨q,-⟩|⟨q,-⟩<;>(rw [HKJ.out,h25] at q;cases q)))
        by_cases hit:slotS s j=some sl
        ·have hus:s.us j=some sl:=HUI.out.1 ⟨by rw [HKJ.out];exact h25,hit⟩
         have HUN:=Lib.hid (HA1.out hus)
         obtain ⟨hlt,hgt⟩:=HPJ.out hus
         obtain ⟨s0,c0,hv0,hnum⟩:=HU.out
         simp only [Value.slice.injEq] at hv0
         obtain ⟨rfl,-,-⟩:=hv0
         obtain ⟨ub,uo,rfl,hub,huc⟩:=hnum (by rw [natI_len,<- HUL.out];omega)
         have cu:=huc a (by rw [natI_len,<- HUL.out];exact hlt)
         have ev:(natI u)[a]'(by rw [natI_len,<- HUL.out];exact hlt)=(j:Int):=by
          have h2:=(List.getElem?_eq_some_iff.1 hgt).2
          simp [natI,h2]
         rw [ev] at cu
         have cu:=keep BR.out hub cu
         have hub:=Nat.lt_of_lt_of_le hub BR.out.size
         rw [decide_eq_true hit] at hI
         have a0:(0:Int)<=(a:Int):=by omega
         have a1:(a:Int)<(ul:Int):=by omega
         have a2:decide ((a:Int) ≥ (ul:Int))=false:=decide_eq_false (by omega)
         have a3:decide ((ul:Int)<=(a:Int))=false:=decide_eq_false (by omega)
         have a4:decide (ul<=a)=false:=decide_eq_false (by omega)
         have jj:((j:Int) != (j:Int))=false:=by simp
         clear hit hus hlt hgt hnum huc ev h25
         go_wp2_with fail
         have YN:Hid (BoxN (wr.alloc (.cells #[.int .i64 y.kind,.int .i64 y.sf,.int .i64 y.st,.slice ks y.kids.length kc,.string y.text,.int .i64 y.B,.string y.N,.int .i64 y.D,.string y.M,.int .i64 y.num,.int .i64 y.wf,.int .i64 y.wt,.slice es y.ends.length ec] 61)) wr.heap.size (Array.toList #[.int .i64 y.kind,.int .i64 y.sf,.int .i64 y.st,.slice ks y.kids.length kc,.string y.text,.int .i64 y.B,.string y.N,.int .i64 y.D,.string y.M,.int .i64 y.num,.int .i64 y.wf,.int .i64 y.wt,.slice es y.ends.length ec])):=Lib.hid (BoxN.new wr #[.int .i64 y.kind,.int .i64 y.sf,.int .i64 y.st,.slice ks y.kids.length kc,.string y.text,.int .i64 y.B,.string y.N,.int .i64 y.D,.string y.M,.int .i64 y.num,.int .i64 y.wf,.int .i64 y.wt,.slice es y.ends.length ec])
         have BW:Hid (Below wr.heap.size wr (wr.alloc (.cells #[.int .i64 y.kind,.int .i64 y.sf,.int .i64 y.st,.slice ks y.kids.length kc,.string y.text,.int .i64 y.B,.string y.N,.int .i64 y.D,.string y.M,.int .i64 y.num,.int .i64 y.wf,.int .i64 y.wt,.slice es y.ends.length ec] 61))):=Lib.hid ((Below.refl _ _).alloc (Nat.le_refl _) _)
         generalize wr.alloc (.cells #[.int .i64 y.kind,.int .i64 y.sf,.int .i64 y.st,.slice ks y.kids.length kc,.string y.text,.int .i64 y.B,.string y.N,.int .i64 y.D,.string y.M,.int .i64 y.num,.int .i64 y.wf,.int .i64 y.wt,.slice es y.ends.length ec] 61)=wn at *
         obtain ⟨nb,hnb⟩:∃ nb,nb=wr.heap.size:=⟨_,rfl⟩
         rw [<- hnb] at YN ⊢
         clear hnb d0 d1 d2 d3 d4 d5 d6 d7 d8 d9 d10 d11 d12
         refine (HSJ.out _ BW.out).mono ?_
         rintro e w9 ⟨rfl,hb9⟩
         have BN:=Lib.hid (after BW.out hb9)
         have Y9:=Lib.hid (YN.out.keep hb9)
         have cu:=keep BN.out hub cu
         have hub:=Nat.lt_of_lt_of_le hub BN.out.size
         have y0:=Y9.out.cell 0
         have y3:=Y9.out.cell 3
         have yl:=Y9.out.lt
         have B9:=Lib.hid (after BR.out BN.out)
         clear hb9 YN BW
         go_upto_region 23 with fail
         go_quiet (fail)
         go_wp2_with fail
         go_roundg gk
         case measure=>omega
         case rel=>exact ⟨j+1,by go_num,by omega,by rw [HUN.out];go_num,by rw [HSN.out],by first|exact B9.out|exact ⟨B9.out.os,B9.out.tape,B9.out.output,B9.out.size,B9.out.block⟩⟩
        ·have HUN:=Lib.hid (HA0.out (fun h=>hit (HUI.out.2 h).2))
         rw [decide_eq_false hit] at hI
         clear hit h25
         go_wp2_with fail
         have YN:Hid (BoxN (wr.alloc (.cells #[.int .i64 y.kind,.int .i64 y.sf,.int .i64 y.st,.slice ks y.kids.length kc,.string y.text,.int .i64 y.B,.string y.N,.int .i64 y.D,.string y.M,.int .i64 y.num,.int .i64 y.wf,.int .i64 y.wt,.slice es y.ends.length ec] 61)) wr.heap.size (Array.toList #[.int .i64 y.kind,.int .i64 y.sf,.int .i64 y.st,.slice ks y.kids.length kc,.string y.text,.int .i64 y.B,.string y.N,.int .i64 y.D,.string y.M,.int .i64 y.num,.int .i64 y.wf,.int .i64 y.wt,.slice es y.ends.length ec])):=Lib.hid (BoxN.new wr #[.int .i64 y.kind,.int .i64 y.sf,.int .i64 y.st,.slice ks y.kids.length kc,.string y.text,.int .i64 y.B,.string y.N,.int .i64 y.D,.string y.M,.int .i64 y.num,.int .i64 y.wf,.int .i64 y.wt,.slice es y.ends.length ec])
         have BW:Hid (Below wr.heap.size wr (wr.alloc (.cells #[.int .i64 y.kind,.int .i64 y.sf,.int .i64 y.st,.slice ks y.kids.length kc,.string y.text,.int .i64 y.B,.string y.N,.int .i64 y.D,.string y.M,.int .i64 y.num,.int .i64 y.wf,.int .i64 y.wt,.slice es y.ends.length ec] 61))):=Lib.hid ((Below.refl _ _).alloc (Nat.le_refl _) _)
         generalize wr.alloc (.cells #[.int .i64 y.kind,.int .i64 y.sf,.int .i64 y.st,.slice ks y.kids.length kc,.string y.text,.int .i64 y.B,.string y.N,.int .i64 y.D,.string y.M,.int .i64 y.num,.int .i64 y.wf,.int .i64 y.wt,.slice es y.ends.length ec] 61)=wn at *
         obtain ⟨nb,hnb⟩:∃ nb,nb=wr.heap.size:=⟨_,rfl⟩
         rw [<- hnb] at YN ⊢
         clear hnb d0 d1 d2 d3 d4 d5 d6 d7 d8 d9 d10 d11 d12
         refine (HSJ.out _ BW.out).mono ?_
         rintro e w9 ⟨rfl,hb9⟩
         have Y9:=Lib.hid (YN.out.keep hb9)
         have y0:=Y9.out.cell 0
         have y3:=Y9.out.cell 3
         have yl:=Y9.out.lt
         have B9:=Lib.hid (after BR.out (after BW.out hb9))
         clear hb9 YN BW
         go_upto_region 23 with fail
         go_quiet (fail)
         go_wp2_with fail
         go_roundg gk
         case measure=>omega
         case rel=>exact ⟨j+1,by go_num,by omega,by rw [HUN.out],by rw [HSN.out],by first|exact B9.out|exact ⟨B9.out.os,B9.out.tape,B9.out.output,B9.out.size,B9.out.block⟩⟩
       ·have k25:(y.kind == 25)=false:=by simp [h25]
        have HUN:Hid ((forS (j+1) s.us sl).length=a):=Lib.hid (HA0.out (fun h=>by
         have q:=(HUI.out.2 h).1
         rw [HKJ.out] at q
         exact h25 q))
        by_cases h9:y.kind=9
        ·have k9:(y.kind == 9)=true:=by simp [h9]
         have k10:(y.kind == 10)=false:=by simp [h9]
         by_cases hk0:y.kids.length=0
         ·have HSN:Hid ((forS (j+1) s.ss sl).length=b):=Lib.hid (HB0.out (fun h=>by
           rcases HSI.out.2 h with ⟨-,q,-⟩|⟨q,-⟩
           ·rw [HKO.out,List.eq_nil_of_length_eq_zero hk0] at q;exact q rfl
           ·rw [HKJ.out,h9] at q;cases q))
          have z1:decide ((y.kids.length:Int) > 0)=false:=decide_eq_false (by omega)
          have z2:decide ((0:Int)<(y.kids.length:Int))=false:=decide_eq_false (by omega)
          have z3:decide (0<y.kids.length)=false:=decide_eq_false (by omega)
          clear h9 hk0 h25
          go_upto_region 19 with fail
          have YN:Hid (BoxN (wr.alloc (.cells #[.int .i64 y.kind,.int .i64 y.sf,.int .i64 y.st,.slice ks y.kids.length kc,.string y.text,.int .i64 y.B,.string y.N,.int .i64 y.D,.string y.M,.int .i64 y.num,.int .i64 y.wf,.int .i64 y.wt,.slice es y.ends.length ec] 61)) wr.heap.size (Array.toList #[.int .i64 y.kind,.int .i64 y.sf,.int .i64 y.st,.slice ks y.kids.length kc,.string y.text,.int .i64 y.B,.string y.N,.int .i64 y.D,.string y.M,.int .i64 y.num,.int .i64 y.wf,.int .i64 y.wt,.slice es y.ends.length ec])):=Lib.hid (BoxN.new wr #[.int .i64 y.kind,.int .i64 y.sf,.int .i64 y.st,.slice ks y.kids.length kc,.string y.text,.int .i64 y.B,.string y.N,.int .i64 y.D,.string y.M,.int .i64 y.num,.int .i64 y.wf,.int .i64 y.wt,.slice es y.ends.length ec])
          have BW:Hid (Below wr.heap.size wr (wr.alloc (.cells #[.int .i64 y.kind,.int .i64 y.sf,.int .i64 y.st,.slice ks y.kids.length kc,.string y.text,.int .i64 y.B,.string y.N,.int .i64 y.D,.string y.M,.int .i64 y.num,.int .i64 y.wf,.int .i64 y.wt,.slice es y.ends.length ec] 61))):=Lib.hid ((Below.refl _ _).alloc (Nat.le_refl _) _)
          generalize wr.alloc (.cells #[.int .i64 y.kind,.int .i64 y.sf,.int .i64 y.st,.slice ks y.kids.length kc,.string y.text,.int .i64 y.B,.string y.N,.int .i64 y.D,.string y.M,.int .i64 y.num,.int .i64 y.wf,.int .i64 y.wt,.slice es y.ends.length ec] 61)=wn at *
          obtain ⟨nb,hnb⟩:∃ nb,nb=wr.heap.size:=⟨_,rfl⟩
          rw [<- hnb] at YN ⊢
          clear hnb d0 d1 d2 d3 d4 d5 d6 d7 d8 d9 d10 d11 d12
          have y0:=YN.out.cell 0
          have y3:=YN.out.cell 3
          have yl:=YN.out.lt
          have B9:=Lib.hid (after BR.out BW.out)
          clear YN BW
          go_upto_region 23 with fail
          go_quiet (fail)
          go_wp2_with fail
          go_roundg gk
          case measure=>omega
          case rel=>exact ⟨j+1,by go_num,by omega,by rw [HUN.out],by rw [HSN.out],by first|exact B9.out|exact ⟨B9.out.os,B9.out.tape,B9.out.output,B9.out.size,B9.out.block⟩⟩
         ·have z1:decide ((y.kids.length:Int) > 0)=true:=decide_eq_true (by omega)
          have z2:decide ((0:Int)<(y.kids.length:Int))=true:=decide_eq_true (by omega)
          have z3:decide (0<y.kids.length)=true:=decide_eq_true (by omega)
          have k9':decide (y.kind=9)=true:=decide_eq_true h9
          have k10':decide (y.kind=10)=false:=decide_eq_false (by omega)
          by_cases hit:slotS s j=some sl
          ·have hss:s.ss j=some sl:=HSI.out.1 (.inl ⟨by rw [HKJ.out];exact h9,(by rw [HKO.out];intro q;exact hk0 (by have:=congrArg List.length q;simpa using this)),hit⟩)
           have HSN:=Lib.hid (HB1.out hss)
           obtain ⟨hlt,hgt⟩:=HQJ.out hss
           obtain ⟨s0,c0,hv0,hnum⟩:=HW.out
           simp only [Value.slice.injEq] at hv0
           obtain ⟨rfl,-,-⟩:=hv0
           obtain ⟨vb,vo,rfl,hvb,hvc⟩:=hnum (by rw [natI_len,<- HVL.out];omega)
           have cv:=hvc b (by rw [natI_len,<- HVL.out];exact hlt)
           have ev:(natI v)[b]'(by rw [natI_len,<- HVL.out];exact hlt)=(j:Int):=by
            have h2:=(List.getElem?_eq_some_iff.1 hgt).2
            simp [natI,h2]
           rw [ev] at cv
           have cv:=keep BR.out hvb cv
           have hvb:=Nat.lt_of_lt_of_le hvb BR.out.size
           have b0:(0:Int)<=(b:Int):=by omega
           have b1:(b:Int)<(vl:Int):=by omega
           have b2:decide ((b:Int) ≥ (vl:Int))=false:=decide_eq_false (by omega)
           have b3:decide ((vl:Int)<=(b:Int))=false:=decide_eq_false (by omega)
           have b4:decide (vl<=b)=false:=decide_eq_false (by omega)
           have jj:((j:Int) != (j:Int))=false:=by simp
           clear hss hlt hgt hnum hvc ev
           rw [decide_eq_true hit] at hI
           have hI':decide (p=(sl:Int))=true:=by rw [<- hI];rfl
           clear h9 hk0 h25 hit
           go_upto_region 19 with fail
           have YN:Hid (BoxN (wr.alloc (.cells #[.int .i64 y.kind,.int .i64 y.sf,.int .i64 y.st,.slice ks y.kids.length kc,.string y.text,.int .i64 y.B,.string y.N,.int .i64 y.D,.string y.M,.int .i64 y.num,.int .i64 y.wf,.int .i64 y.wt,.slice es y.ends.length ec] 61)) wr.heap.size (Array.toList #[.int .i64 y.kind,.int .i64 y.sf,.int .i64 y.st,.slice ks y.kids.length kc,.string y.text,.int .i64 y.B,.string y.N,.int .i64 y.D,.string y.M,.int .i64 y.num,.int .i64 y.wf,.int .i64 y.wt,.slice es y.ends.length ec])):=Lib.hid (BoxN.new wr #[.int .i64 y.kind,.int .i64 y.sf,.int .i64 y.st,.slice ks y.kids.length kc,.string y.text,.int .i64 y.B,.string y.N,.int .i64 y.D,.string y.M,.int .i64 y.num,.int .i64 y.wf,.int .i64 y.wt,.slice es y.ends.length ec])
           have BW:Hid (Below wr.heap.size wr (wr.alloc (.cells #[.int .i64 y.kind,.int .i64 y.sf,.int .i64 y.st,.slice ks y.kids.length kc,.string y.text,.int .i64 y.B,.string y.N,.int .i64 y.D,.string y.M,.int .i64 y.num,.int .i64 y.wf,.int .i64 y.wt,.slice es y.ends.length ec] 61))):=Lib.hid ((Below.refl _ _).alloc (Nat.le_refl _) _)
           generalize wr.alloc (.cells #[.int .i64 y.kind,.int .i64 y.sf,.int .i64 y.st,.slice ks y.kids.length kc,.string y.text,.int .i64 y.B,.string y.N,.int .i64 y.D,.string y.M,.int .i64 y.num,.int .i64 y.wf,.int .i64 y.wt,.slice es y.ends.length ec] 61)=wn at *
           obtain ⟨nb,hnb⟩:∃ nb,nb=wr.heap.size:=⟨_,rfl⟩
           rw [<- hnb] at YN ⊢
           clear hnb d0 d1 d2 d3 d4 d5 d6 d7 d8 d9 d10 d11 d12
           have KP:Hid (∀ W',Below wn.heap.size wn W'->W'.cell? ⟨nb,0,none⟩=some (.int .i64 y.kind)/\W'.cell? ⟨nb,3,none⟩=some (.slice ks y.kids.length kc)/\Below wn.heap.size wn W'):=Lib.hid (fun W' h=>⟨(YN.out.keep h).cell 0,(YN.out.keep h).cell 3,h⟩)
           have HSQ:=Lib.hid (fun (W:World) (hb:Below wn.heap.size wn W)=>HSJ.out W (after BW.out hb))
           have y0:=YN.out.cell 0
           have y3:=YN.out.cell 3
           have yl:=YN.out.lt
           clear YN HSJ
           go_upto_region 23 with fail
           refine wp_region_held_drew (S:=(fun W':World=>W'.cell? ⟨nb,0,none⟩=some (.int .i64 y.kind)/\W'.cell? ⟨nb,3,none⟩=some (.slice ks y.kids.length kc)/\Below wn.heap.size wn W')) (by kernel_rfl) (KP.out _ (Below.refl _ _).drew) (fun hHeld=>?_)
           (refine wpAnyH_take (i:=0) (v:=?vv0) rfl (by kernel_rfl) (by kernel_rfl) (by kernel_rfl) (fun _ _ _ h=>h) (Or.inl ⟨by rfl,?hy0⟩) (by assumption) ?rest0;case hy0=>(intro w hSw;(try dsimp only at hSw);go_simp;try with_reducible rfl))
           (try simp only [List.getElem_toArray,List.getElem_cons_zero,List.getElem_cons_succ,Act.put,List.setIfInBounds_toArray,List.set_cons_zero,List.set_cons_succ])
           (refine wpAnyH_take (i:=1) (v:=?vv1) rfl (by kernel_rfl) (by kernel_rfl) (by kernel_rfl) (fun _ _ _ h=>h) (Or.inl ⟨by rfl,?hy1⟩) (by assumption) ?rest1;case hy1=>(intro w hSw;(try dsimp only at hSw);go_simp;try with_reducible rfl))
           (try simp only [List.getElem_toArray,List.getElem_cons_zero,List.getElem_cons_succ,Act.put,List.setIfInBounds_toArray,List.set_cons_zero,List.set_cons_succ])
           (refine wpAnyH_take (i:=2) (v:=?vv2) rfl (by kernel_rfl) (by kernel_rfl) (by kernel_rfl) (fun _ _ _ h=>h) (Or.inl ⟨by rfl,?hy2⟩) (by assumption) ?rest2;case hy2=>(intro w hSw;(try dsimp only at hSw);go_simp;try with_reducible rfl))
           (try simp only [List.getElem_toArray,List.getElem_cons_zero,List.getElem_cons_succ,Act.put,List.setIfInBounds_toArray,List.set_cons_zero,List.set_cons_succ])
           (first|rw [k9]|rw [k9']|skip)
           (refine wpAnyH_take (i:=3) (v:=?vv3) rfl (by kernel_rfl) (by kernel_rfl) (by kernel_rfl) (fun _ _ _ h=>h) (Or.inl ⟨by rfl,?hy3⟩) (by assumption) ?rest3;case hy3=>(intro w hSw;(try dsimp only at hSw);go_simp;try with_reducible rfl))
           (try simp only [List.getElem_toArray,List.getElem_cons_zero,List.getElem_cons_succ,Act.put,List.setIfInBounds_toArray,List.set_cons_zero,List.set_cons_succ])
           first|(refine wpAnyH_take (i:=4) (v:=undef) rfl (by kernel_rfl) (by kernel_rfl) (by kernel_rfl) (fun _ _ _ h=>h) (Or.inr ⟨by rfl,rfl⟩) (by assumption) ?_)|(refine wpAnyH_take (i:=4) (v:=?vv4) rfl (by kernel_rfl) (by kernel_rfl) (by kernel_rfl) (fun _ _ _ h=>h) (Or.inl ⟨by rfl,?hy4⟩) (by assumption) ?rest4;case hy4=>(intro w hSw;(try dsimp only at hSw);go_simp;try with_reducible rfl))
           (try simp only [List.getElem_toArray,List.getElem_cons_zero,List.getElem_cons_succ,Act.put,List.setIfInBounds_toArray,List.set_cons_zero,List.set_cons_succ])
           first|(refine wpAnyH_take (i:=5) (v:=undef) rfl (by kernel_rfl) (by kernel_rfl) (by kernel_rfl) (fun _ _ _ h=>h) (Or.inr ⟨by rfl,rfl⟩) (by assumption) ?_)|(refine wpAnyH_take (i:=5) (v:=?vv5) rfl (by kernel_rfl) (by kernel_rfl) (by kernel_rfl) (fun _ _ _ h=>h) (Or.inl ⟨by rfl,?hy5⟩) (by assumption) ?rest5;case hy5=>(intro w hSw;(try dsimp only at hSw);go_simp;try with_reducible rfl))
           (try simp only [List.getElem_toArray,List.getElem_cons_zero,List.getElem_cons_succ,Act.put,List.setIfInBounds_toArray,List.set_cons_zero,List.set_cons_succ])
           first|(refine wpAnyH_take (i:=6) (v:=undef) rfl (by kernel_rfl) (by kernel_rfl) (by kernel_rfl) (fun _ _ _ h=>h) (Or.inr ⟨by rfl,rfl⟩) (by assumption) ?_)|(refine wpAnyH_take (i:=6) (v:=?vv6) rfl (by kernel_rfl) (by kernel_rfl) (by kernel_rfl) (fun _ _ _ h=>h) (Or.inl ⟨by rfl,?hy6⟩) (by assumption) ?rest6;case hy6=>(intro w hSw;(try dsimp only at hSw);go_simp;try with_reducible rfl))
           (try simp only [List.getElem_toArray,List.getElem_cons_zero,List.getElem_cons_succ,Act.put,List.setIfInBounds_toArray,List.set_cons_zero,List.set_cons_succ])
           first|(refine wpAnyH_take (i:=7) (v:=undef) rfl (by kernel_rfl) (by kernel_rfl) (by kernel_rfl) (fun _ _ _ h=>h) (Or.inr ⟨by rfl,rfl⟩) (by assumption) ?_)|(refine wpAnyH_take (i:=7) (v:=?vv7) rfl (by kernel_rfl) (by kernel_rfl) (by kernel_rfl) (fun _ _ _ h=>h) (Or.inl ⟨by rfl,?hy7⟩) (by assumption) ?rest7;case hy7=>(intro w hSw;(try dsimp only at hSw);go_simp;try with_reducible rfl))
           (try simp only [List.getElem_toArray,List.getElem_cons_zero,List.getElem_cons_succ,Act.put,List.setIfInBounds_toArray,List.set_cons_zero,List.set_cons_succ])
           (first|rw [z1]|rw [z2]|rw [z3]|skip)
           (refine wpAnyH_take (i:=8) (v:=?vv8) rfl (by kernel_rfl) (by kernel_rfl) (by kernel_rfl) (fun _ _ _ h=>h) (Or.inl ⟨by rfl,?hy8⟩) (by assumption) ?rest8;case hy8=>(intro w hSw;(try dsimp only at hSw);go_simp;try with_reducible rfl))
           (try simp only [List.getElem_toArray,List.getElem_cons_zero,List.getElem_cons_succ,Act.put,List.setIfInBounds_toArray,List.set_cons_zero,List.set_cons_succ])
           (refine wpAnyH_take (i:=9) (v:=?vv9) rfl (by kernel_rfl) (by kernel_rfl) (by kernel_rfl) (fun _ _ _ h=>h) (Or.inl ⟨by rfl,?hy9⟩) (by assumption) ?rest9;case hy9=>(intro w hSw;(try dsimp only at hSw);go_simp;try with_reducible rfl))
           (try simp only [List.getElem_toArray,List.getElem_cons_zero,List.getElem_cons_succ,Act.put,List.setIfInBounds_toArray,List.set_cons_zero,List.set_cons_succ])
           first|(refine wpAnyH_take (i:=10) (v:=undef) rfl (by kernel_rfl) (by kernel_rfl) (by kernel_rfl) (fun _ _ _ h=>h) (Or.inr ⟨by rfl,rfl⟩) (by assumption) ?_)|(refine wpAnyH_take (i:=10) (v:=?vv10) rfl (by kernel_rfl) (by kernel_rfl) (by kernel_rfl) (fun _ _ _ h=>h) (Or.inl ⟨by rfl,?hy10⟩) (by assumption) ?rest10;case hy10=>(intro w hSw;(try dsimp only at hSw);go_simp;try with_reducible rfl))
           (try simp only [List.getElem_toArray,List.getElem_cons_zero,List.getElem_cons_succ,Act.put,List.setIfInBounds_toArray,List.set_cons_zero,List.set_cons_succ])
           first|(refine wpAnyH_take (i:=11) (v:=undef) rfl (by kernel_rfl) (by kernel_rfl) (by kernel_rfl) (fun _ _ _ h=>h) (Or.inr ⟨by rfl,rfl⟩) (by assumption) ?_)|(refine wpAnyH_take (i:=11) (v:=?vv11) rfl (by kernel_rfl) (by kernel_rfl) (by kernel_rfl) (fun _ _ _ h=>h) (Or.inl ⟨by rfl,?hy11⟩) (by assumption) ?rest11;case hy11=>(intro w hSw;(try dsimp only at hSw);go_simp;try with_reducible rfl))
           (try simp only [List.getElem_toArray,List.getElem_cons_zero,List.getElem_cons_succ,Act.put,List.setIfInBounds_toArray,List.set_cons_zero,List.set_cons_succ])
           first|(refine wpAnyH_take (i:=13) (v:=undef) rfl (by kernel_rfl) (by kernel_rfl) (by kernel_rfl) (fun _ _ _ h=>h) (Or.inr ⟨by rfl,rfl⟩) (by assumption) ?_)|(refine wpAnyH_take (i:=13) (v:=?vv12) rfl (by kernel_rfl) (by kernel_rfl) (by kernel_rfl) (fun _ _ _ h=>h) (Or.inl ⟨by rfl,?hy12⟩) (by assumption) ?rest12;case hy12=>(intro w hSw;(try dsimp only at hSw);go_simp;try with_reducible rfl))
           (try simp only [List.getElem_toArray,List.getElem_cons_zero,List.getElem_cons_succ,Act.put,List.setIfInBounds_toArray,List.set_cons_zero,List.set_cons_succ])
           first
            |(refine wpAnyH_take (i:=12) (v:=undef) rfl (by kernel_rfl) (by kernel_rfl) (by kernel_rfl) (fun _ _ _ h=>h) (Or.inr ⟨by rfl,rfl⟩) (by assumption) ?_;(try simp only [List.getElem_toArray,List.getElem_cons_zero,List.getElem_cons_succ,Act.put,List.setIfInBounds_toArray,List.set_cons_zero,List.set_cons_succ]))
            |(refine wpAnyH_ready (rs:=[12]) (by kernel_rfl) (List.cons_ne_nil _ _) ?_;refine AllReadyH.cons rfl (fun K hK=>?_) AllReadyH.nil;go_simp;go_split_ands;refine (HSQ.out _ (by assumption)).mono ?_;rintro e wz ⟨rfl,hb2⟩;(try go_wp2_with fail);refine hK.out _ _ ?hS13 (fun hHeld2=>?rest13);(case hS13=>(exact KP.out _ (after (by assumption) hb2)));clear hK K;(try simp only [List.getElem_toArray,List.getElem_cons_zero,List.getElem_cons_succ,Act.put,List.setIfInBounds_toArray,List.set_cons_zero,List.set_cons_succ]))
           first|(refine wpAnyH_take (i:=14) (v:=undef) rfl (by kernel_rfl) (by kernel_rfl) (by kernel_rfl) (fun _ _ _ h=>h) (Or.inr ⟨by rfl,rfl⟩) (by assumption) ?_)|(refine wpAnyH_take (i:=14) (v:=?vv14) rfl (by kernel_rfl) (by kernel_rfl) (by kernel_rfl) (fun _ _ _ h=>h) (Or.inl ⟨by rfl,?hy14⟩) (by assumption) ?rest14;case hy14=>(intro w hSw;(try dsimp only at hSw);go_simp;try with_reducible rfl))
           (try simp only [List.getElem_toArray,List.getElem_cons_zero,List.getElem_cons_succ,Act.put,List.setIfInBounds_toArray,List.set_cons_zero,List.set_cons_succ])
           (first|rw [hI]|rw [hI']|skip)
           (refine wpAnyH_take (i:=15) (v:=?vv15) rfl (by kernel_rfl) (by kernel_rfl) (by kernel_rfl) (fun _ _ _ h=>h) (Or.inl ⟨by rfl,?hy15⟩) (by assumption) ?rest15;case hy15=>(intro w hSw;(try dsimp only at hSw);go_simp;try with_reducible rfl))
           (try simp only [List.getElem_toArray,List.getElem_cons_zero,List.getElem_cons_succ,Act.put,List.setIfInBounds_toArray,List.set_cons_zero,List.set_cons_succ])
           (refine wpAnyH_take (i:=16) (v:=?vv16) rfl (by kernel_rfl) (by kernel_rfl) (by kernel_rfl) (fun _ _ _ h=>h) (Or.inl ⟨by rfl,?hy16⟩) (by assumption) ?rest16;case hy16=>(intro w hSw;(try dsimp only at hSw);go_simp;try with_reducible rfl))
           (try simp only [List.getElem_toArray,List.getElem_cons_zero,List.getElem_cons_succ,Act.put,List.setIfInBounds_toArray,List.set_cons_zero,List.set_cons_succ])
           first|(refine wpAnyH_take (i:=17) (v:=undef) rfl (by kernel_rfl) (by kernel_rfl) (by kernel_rfl) (fun _ _ _ h=>h) (Or.inr ⟨by rfl,rfl⟩) (by assumption) ?_)|(refine wpAnyH_take (i:=17) (v:=?vv17) rfl (by kernel_rfl) (by kernel_rfl) (by kernel_rfl) (fun _ _ _ h=>h) (Or.inl ⟨by rfl,?hy17⟩) (by assumption) ?rest17;case hy17=>(intro w hSw;(try dsimp only at hSw);go_simp;try with_reducible rfl))
           (try simp only [List.getElem_toArray,List.getElem_cons_zero,List.getElem_cons_succ,Act.put,List.setIfInBounds_toArray,List.set_cons_zero,List.set_cons_succ])
           first|(refine wpAnyH_take (i:=18) (v:=undef) rfl (by kernel_rfl) (by kernel_rfl) (by kernel_rfl) (fun _ _ _ h=>h) (Or.inr ⟨by rfl,rfl⟩) (by assumption) ?_)|(refine wpAnyH_take (i:=18) (v:=?vv18) rfl (by kernel_rfl) (by kernel_rfl) (by kernel_rfl) (fun _ _ _ h=>h) (Or.inl ⟨by rfl,?hy18⟩) (by assumption) ?rest18;case hy18=>(intro w hSw;(try dsimp only at hSw);go_simp;try with_reducible rfl))
           (try simp only [List.getElem_toArray,List.getElem_cons_zero,List.getElem_cons_succ,Act.put,List.setIfInBounds_toArray,List.set_cons_zero,List.set_cons_succ])
           first|(refine wpAnyH_take (i:=19) (v:=undef) rfl (by kernel_rfl) (by kernel_rfl) (by kernel_rfl) (fun _ _ _ h=>h) (Or.inr ⟨by rfl,rfl⟩) (by assumption) ?_)|(refine wpAnyH_take (i:=19) (v:=?vv19) rfl (by kernel_rfl) (by kernel_rfl) (by kernel_rfl) (fun _ _ _ h=>h) (Or.inl ⟨by rfl,?hy19⟩) (by assumption) ?rest19;case hy19=>(intro w hSw;(try dsimp only at hSw);go_simp;try with_reducible rfl))
           (try simp only [List.getElem_toArray,List.getElem_cons_zero,List.getElem_cons_succ,Act.put,List.setIfInBounds_toArray,List.set_cons_zero,List.set_cons_succ])
           (first|rw [k10]|rw [k10']|skip)
           first|(refine wpAnyH_take (i:=20) (v:=undef) rfl (by kernel_rfl) (by kernel_rfl) (by kernel_rfl) (fun _ _ _ h=>h) (Or.inr ⟨by rfl,rfl⟩) (by assumption) ?_)|(refine wpAnyH_take (i:=20) (v:=?vv20) rfl (by kernel_rfl) (by kernel_rfl) (by kernel_rfl) (fun _ _ _ h=>h) (Or.inl ⟨by rfl,?hy20⟩) (by assumption) ?rest20;case hy20=>(intro w hSw;(try dsimp only at hSw);go_simp;try with_reducible rfl))
           (try simp only [List.getElem_toArray,List.getElem_cons_zero,List.getElem_cons_succ,Act.put,List.setIfInBounds_toArray,List.set_cons_zero,List.set_cons_succ])
           first|(refine wpAnyH_take (i:=21) (v:=undef) rfl (by kernel_rfl) (by kernel_rfl) (by kernel_rfl) (fun _ _ _ h=>h) (Or.inr ⟨by rfl,rfl⟩) (by assumption) ?_)|(refine wpAnyH_take (i:=21) (v:=?vv21) rfl (by kernel_rfl) (by kernel_rfl) (by kernel_rfl) (fun _ _ _ h=>h) (Or.inl ⟨by rfl,?hy21⟩) (by assumption) ?rest21;case hy21=>(intro w hSw;(try dsimp only at hSw);go_simp;try with_reducible rfl))
           (try simp only [List.getElem_toArray,List.getElem_cons_zero,List.getElem_cons_succ,Act.put,List.setIfInBounds_toArray,List.set_cons_zero,List.set_cons_succ])
           first|(refine wpAnyH_take (i:=22) (v:=undef) rfl (by kernel_rfl) (by kernel_rfl) (by kernel_rfl) (fun _ _ _ h=>h) (Or.inr ⟨by rfl,rfl⟩) (by assumption) ?_)|(refine wpAnyH_take (i:=22) (v:=?vv22) rfl (by kernel_rfl) (by kernel_rfl) (by kernel_rfl) (fun _ _ _ h=>h) (Or.inl ⟨by rfl,?hy22⟩) (by assumption) ?rest22;case hy22=>(intro w hSw;(try dsimp only at hSw);go_simp;try with_reducible rfl))
           (try simp only [List.getElem_toArray,List.getElem_cons_zero,List.getElem_cons_succ,Act.put,List.setIfInBounds_toArray,List.set_cons_zero,List.set_cons_succ])
           first|(refine wpAnyH_take (i:=23) (v:=undef) rfl (by kernel_rfl) (by kernel_rfl) (by kernel_rfl) (fun _ _ _ h=>h) (Or.inr ⟨by rfl,rfl⟩) (by assumption) ?_)|(refine wpAnyH_take (i:=23) (v:=?vv23) rfl (by kernel_rfl) (by kernel_rfl) (by kernel_rfl) (fun _ _ _ h=>h) (Or.inl ⟨by rfl,?hy23⟩) (by assumption) ?rest23;case hy23=>(intro w hSw;(try dsimp only at hSw);go_simp;try with_reducible rfl))
           (try simp only [List.getElem_toArray,List.getElem_cons_zero,List.getElem_cons_succ,Act.put,List.setIfInBounds_toArray,List.set_cons_zero,List.set_cons_succ])
           first|(refine wpAnyH_take (i:=24) (v:=undef) rfl (by kernel_rfl) (by kernel_rfl) (by kernel_rfl) (fun _ _ _ h=>h) (Or.inr ⟨by rfl,rfl⟩) (by assumption) ?_)|(refine wpAnyH_take (i:=24) (v:=?vv24) rfl (by kernel_rfl) (by kernel_rfl) (by kernel_rfl) (fun _ _ _ h=>h) (Or.inl ⟨by rfl,?hy24⟩) (by assumption) ?rest24;case hy24=>(intro w hSw;(try dsimp only at hSw);go_simp;try with_reducible rfl))
           (try simp only [List.getElem_toArray,List.getElem_cons_zero,List.getElem_cons_succ,Act.put,List.setIfInBounds_toArray,List.set_cons_zero,List.set_cons_succ])
           first|(refine wpAnyH_take (i:=25) (v:=undef) rfl (by kernel_rfl) (by kernel_rfl) (by kernel_rfl) (fun _ _ _ h=>h) (Or.inr ⟨by rfl,rfl⟩) (by assumption) ?_)|(refine wpAnyH_take (i:=25) (v:=?vv25) rfl (by kernel_rfl) (by kernel_rfl) (by kernel_rfl) (fun _ _ _ h=>h) (Or.inl ⟨by rfl,?hy25⟩) (by assumption) ?rest25;case hy25=>(intro w hSw;(try dsimp only at hSw);go_simp;try with_reducible rfl))
           (try simp only [List.getElem_toArray,List.getElem_cons_zero,List.getElem_cons_succ,Act.put,List.setIfInBounds_toArray,List.set_cons_zero,List.set_cons_succ])
           first|(refine wpAnyH_take (i:=26) (v:=undef) rfl (by kernel_rfl) (by kernel_rfl) (by kernel_rfl) (fun _ _ _ h=>h) (Or.inr ⟨by rfl,rfl⟩) (by assumption) ?_)|(refine wpAnyH_take (i:=26) (v:=?vv26) rfl (by kernel_rfl) (by kernel_rfl) (by kernel_rfl) (fun _ _ _ h=>h) (Or.inl ⟨by rfl,?hy26⟩) (by assumption) ?rest26;case hy26=>(intro w hSw;(try dsimp only at hSw);go_simp;try with_reducible rfl))
           (try simp only [List.getElem_toArray,List.getElem_cons_zero,List.getElem_cons_succ,Act.put,List.setIfInBounds_toArray,List.set_cons_zero,List.set_cons_succ])
           first|(refine wpAnyH_take (i:=27) (v:=undef) rfl (by kernel_rfl) (by kernel_rfl) (by kernel_rfl) (fun _ _ _ h=>h) (Or.inr ⟨by rfl,rfl⟩) (by assumption) ?_)|(refine wpAnyH_take (i:=27) (v:=?vv27) rfl (by kernel_rfl) (by kernel_rfl) (by kernel_rfl) (fun _ _ _ h=>h) (Or.inl ⟨by rfl,?hy27⟩) (by assumption) ?rest27;case hy27=>(intro w hSw;(try dsimp only at hSw);go_simp;try with_reducible rfl))
           (try simp only [List.getElem_toArray,List.getElem_cons_zero,List.getElem_cons_succ,Act.put,List.setIfInBounds_toArray,List.set_cons_zero,List.set_cons_succ])
           first|(refine wpAnyH_take (i:=28) (v:=undef) rfl (by kernel_rfl) (by kernel_rfl) (by kernel_rfl) (fun _ _ _ h=>h) (Or.inr ⟨by rfl,rfl⟩) (by assumption) ?_)|(refine wpAnyH_take (i:=28) (v:=?vv28) rfl (by kernel_rfl) (by kernel_rfl) (by kernel_rfl) (fun _ _ _ h=>h) (Or.inl ⟨by rfl,?hy28⟩) (by assumption) ?rest28;case hy28=>(intro w hSw;(try dsimp only at hSw);go_simp;try with_reducible rfl))
           (try simp only [List.getElem_toArray,List.getElem_cons_zero,List.getElem_cons_succ,Act.put,List.setIfInBounds_toArray,List.set_cons_zero,List.set_cons_succ])
           first|(refine wpAnyH_take (i:=29) (v:=undef) rfl (by kernel_rfl) (by kernel_rfl) (by kernel_rfl) (fun _ _ _ h=>h) (Or.inr ⟨by rfl,rfl⟩) (by assumption) ?_)|(refine wpAnyH_take (i:=29) (v:=?vv29) rfl (by kernel_rfl) (by kernel_rfl) (by kernel_rfl) (fun _ _ _ h=>h) (Or.inl ⟨by rfl,?hy29⟩) (by assumption) ?rest29;case hy29=>(intro w hSw;(try dsimp only at hSw);go_simp;try with_reducible rfl))
           (try simp only [List.getElem_toArray,List.getElem_cons_zero,List.getElem_cons_succ,Act.put,List.setIfInBounds_toArray,List.set_cons_zero,List.set_cons_succ])
           first|(refine wpAnyH_take (i:=30) (v:=undef) rfl (by kernel_rfl) (by kernel_rfl) (by kernel_rfl) (fun _ _ _ h=>h) (Or.inr ⟨by rfl,rfl⟩) (by assumption) ?_)|(refine wpAnyH_take (i:=30) (v:=?vv30) rfl (by kernel_rfl) (by kernel_rfl) (by kernel_rfl) (fun _ _ _ h=>h) (Or.inl ⟨by rfl,?hy30⟩) (by assumption) ?rest30;case hy30=>(intro w hSw;(try dsimp only at hSw);go_simp;try with_reducible rfl))
           (try simp only [List.getElem_toArray,List.getElem_cons_zero,List.getElem_cons_succ,Act.put,List.setIfInBounds_toArray,List.set_cons_zero,List.set_cons_succ])
           (first|rw [q25]|rw [q25']|skip)
           first|(refine wpAnyH_take (i:=31) (v:=undef) rfl (by kernel_rfl) (by kernel_rfl) (by kernel_rfl) (fun _ _ _ h=>h) (Or.inr ⟨by rfl,rfl⟩) (by assumption) ?_)|(refine wpAnyH_take (i:=31) (v:=?vv31) rfl (by kernel_rfl) (by kernel_rfl) (by kernel_rfl) (fun _ _ _ h=>h) (Or.inl ⟨by rfl,?hy31⟩) (by assumption) ?rest31;case hy31=>(intro w hSw;(try dsimp only at hSw);go_simp;try with_reducible rfl))
           (try simp only [List.getElem_toArray,List.getElem_cons_zero,List.getElem_cons_succ,Act.put,List.setIfInBounds_toArray,List.set_cons_zero,List.set_cons_succ])
           first|(refine wpAnyH_take (i:=32) (v:=undef) rfl (by kernel_rfl) (by kernel_rfl) (by kernel_rfl) (fun _ _ _ h=>h) (Or.inr ⟨by rfl,rfl⟩) (by assumption) ?_)|(refine wpAnyH_take (i:=32) (v:=?vv32) rfl (by kernel_rfl) (by kernel_rfl) (by kernel_rfl) (fun _ _ _ h=>h) (Or.inl ⟨by rfl,?hy32⟩) (by assumption) ?rest32;case hy32=>(intro w hSw;(try dsimp only at hSw);go_simp;try with_reducible rfl))
           (try simp only [List.getElem_toArray,List.getElem_cons_zero,List.getElem_cons_succ,Act.put,List.setIfInBounds_toArray,List.set_cons_zero,List.set_cons_succ])
           first|(refine wpAnyH_take (i:=33) (v:=undef) rfl (by kernel_rfl) (by kernel_rfl) (by kernel_rfl) (fun _ _ _ h=>h) (Or.inr ⟨by rfl,rfl⟩) (by assumption) ?_)|(refine wpAnyH_take (i:=33) (v:=?vv33) rfl (by kernel_rfl) (by kernel_rfl) (by kernel_rfl) (fun _ _ _ h=>h) (Or.inl ⟨by rfl,?hy33⟩) (by assumption) ?rest33;case hy33=>(intro w hSw;(try dsimp only at hSw);go_simp;try with_reducible rfl))
           (try simp only [List.getElem_toArray,List.getElem_cons_zero,List.getElem_cons_succ,Act.put,List.setIfInBounds_toArray,List.set_cons_zero,List.set_cons_succ])
           first|(refine wpAnyH_take (i:=34) (v:=undef) rfl (by kernel_rfl) (by kernel_rfl) (by kernel_rfl) (fun _ _ _ h=>h) (Or.inr ⟨by rfl,rfl⟩) (by assumption) ?_)|(refine wpAnyH_take (i:=34) (v:=?vv34) rfl (by kernel_rfl) (by kernel_rfl) (by kernel_rfl) (fun _ _ _ h=>h) (Or.inl ⟨by rfl,?hy34⟩) (by assumption) ?rest34;case hy34=>(intro w hSw;(try dsimp only at hSw);go_simp;try with_reducible rfl))
           (try simp only [List.getElem_toArray,List.getElem_cons_zero,List.getElem_cons_succ,Act.put,List.setIfInBounds_toArray,List.set_cons_zero,List.set_cons_succ])
           first|(refine wpAnyH_take (i:=35) (v:=undef) rfl (by kernel_rfl) (by kernel_rfl) (by kernel_rfl) (fun _ _ _ h=>h) (Or.inr ⟨by rfl,rfl⟩) (by assumption) ?_)|(refine wpAnyH_take (i:=35) (v:=?vv35) rfl (by kernel_rfl) (by kernel_rfl) (by kernel_rfl) (fun _ _ _ h=>h) (Or.inl ⟨by rfl,?hy35⟩) (by assumption) ?rest35;case hy35=>(intro w hSw;(try dsimp only at hSw);go_simp;try with_reducible rfl))
           (try simp only [List.getElem_toArray,List.getElem_cons_zero,List.getElem_cons_succ,Act.put,List.setIfInBounds_toArray,List.set_cons_zero,List.set_cons_succ])
           first|(refine wpAnyH_take (i:=36) (v:=undef) rfl (by kernel_rfl) (by kernel_rfl) (by kernel_rfl) (fun _ _ _ h=>h) (Or.inr ⟨by rfl,rfl⟩) (by assumption) ?_)|(refine wpAnyH_take (i:=36) (v:=?vv36) rfl (by kernel_rfl) (by kernel_rfl) (by kernel_rfl) (fun _ _ _ h=>h) (Or.inl ⟨by rfl,?hy36⟩) (by assumption) ?rest36;case hy36=>(intro w hSw;(try dsimp only at hSw);go_simp;try with_reducible rfl))
           (try simp only [List.getElem_toArray,List.getElem_cons_zero,List.getElem_cons_succ,Act.put,List.setIfInBounds_toArray,List.set_cons_zero,List.set_cons_succ])
           first|(refine wpAnyH_take (i:=37) (v:=undef) rfl (by kernel_rfl) (by kernel_rfl) (by kernel_rfl) (fun _ _ _ h=>h) (Or.inr ⟨by rfl,rfl⟩) (by assumption) ?_)|(refine wpAnyH_take (i:=37) (v:=?vv37) rfl (by kernel_rfl) (by kernel_rfl) (by kernel_rfl) (fun _ _ _ h=>h) (Or.inl ⟨by rfl,?hy37⟩) (by assumption) ?rest37;case hy37=>(intro w hSw;(try dsimp only at hSw);go_simp;try with_reducible rfl))
           (try simp only [List.getElem_toArray,List.getElem_cons_zero,List.getElem_cons_succ,Act.put,List.setIfInBounds_toArray,List.set_cons_zero,List.set_cons_succ])
           first|(refine wpAnyH_take (i:=39) (v:=undef) rfl (by kernel_rfl) (by kernel_rfl) (by kernel_rfl) (fun _ _ _ h=>h) (Or.inr ⟨by rfl,rfl⟩) (by assumption) ?_)|(refine wpAnyH_take (i:=39) (v:=?vv38) rfl (by kernel_rfl) (by kernel_rfl) (by kernel_rfl) (fun _ _ _ h=>h) (Or.inl ⟨by rfl,?hy38⟩) (by assumption) ?rest38;case hy38=>(intro w hSw;(try dsimp only at hSw);go_simp;try with_reducible rfl))
           (try simp only [List.getElem_toArray,List.getElem_cons_zero,List.getElem_cons_succ,Act.put,List.setIfInBounds_toArray,List.set_cons_zero,List.set_cons_succ])
           first
            |(refine wpAnyH_take (i:=38) (v:=undef) rfl (by kernel_rfl) (by kernel_rfl) (by kernel_rfl) (fun _ _ _ h=>h) (Or.inr ⟨by rfl,rfl⟩) (by assumption) ?_;(try simp only [List.getElem_toArray,List.getElem_cons_zero,List.getElem_cons_succ,Act.put,List.setIfInBounds_toArray,List.set_cons_zero,List.set_cons_succ]))
            |(refine wpAnyH_ready (rs:=[38]) (by kernel_rfl) (List.cons_ne_nil _ _) ?_;refine AllReadyH.cons rfl (fun K hK=>?_) AllReadyH.nil;go_simp;go_split_ands;skip;(try go_wp2_with fail);refine hK.out _ _ ?hS39 (fun hHeld2=>?rest39);(case hS39=>(exact KP.out _ (after (by assumption) hb2)));clear hK K;(try simp only [List.getElem_toArray,List.getElem_cons_zero,List.getElem_cons_succ,Act.put,List.setIfInBounds_toArray,List.set_cons_zero,List.set_cons_succ]))
           first|(refine wpAnyH_take (i:=40) (v:=undef) rfl (by kernel_rfl) (by kernel_rfl) (by kernel_rfl) (fun _ _ _ h=>h) (Or.inr ⟨by rfl,rfl⟩) (by assumption) ?_)|(refine wpAnyH_take (i:=40) (v:=?vv40) rfl (by kernel_rfl) (by kernel_rfl) (by kernel_rfl) (fun _ _ _ h=>h) (Or.inl ⟨by rfl,?hy40⟩) (by assumption) ?rest40;case hy40=>(intro w hSw;(try dsimp only at hSw);go_simp;try with_reducible rfl))
           (try simp only [List.getElem_toArray,List.getElem_cons_zero,List.getElem_cons_succ,Act.put,List.setIfInBounds_toArray,List.set_cons_zero,List.set_cons_succ])
           (first|rw [hI2]|rw [hI3]|skip)
           first|(refine wpAnyH_take (i:=41) (v:=undef) rfl (by kernel_rfl) (by kernel_rfl) (by kernel_rfl) (fun _ _ _ h=>h) (Or.inr ⟨by rfl,rfl⟩) (by assumption) ?_)|(refine wpAnyH_take (i:=41) (v:=?vv41) rfl (by kernel_rfl) (by kernel_rfl) (by kernel_rfl) (fun _ _ _ h=>h) (Or.inl ⟨by rfl,?hy41⟩) (by assumption) ?rest41;case hy41=>(intro w hSw;(try dsimp only at hSw);go_simp;try with_reducible rfl))
           (try simp only [List.getElem_toArray,List.getElem_cons_zero,List.getElem_cons_succ,Act.put,List.setIfInBounds_toArray,List.set_cons_zero,List.set_cons_succ])
           (refine wpAnyH_take (i:=42) (v:=?vv42) rfl (by kernel_rfl) (by kernel_rfl) (by kernel_rfl) (fun _ _ _ h=>h) (Or.inl ⟨by rfl,?hy42⟩) (by assumption) ?rest42;case hy42=>(intro w hSw;(try dsimp only at hSw);go_simp;try with_reducible rfl))
           (try simp only [List.getElem_toArray,List.getElem_cons_zero,List.getElem_cons_succ,Act.put,List.setIfInBounds_toArray,List.set_cons_zero,List.set_cons_succ])
           refine wpAnyH_done (by kernel_rfl) ?_ _
           have hBF:=hHeld2.2.2
           have cv:=keep (after BW.out hBF) hvb cv
           have hvb:=Nat.lt_of_lt_of_le hvb (after BW.out hBF).size
           have B9:=Lib.hid (after BR.out (after BW.out hBF))
           clear hHeld2 hBF
           go_wp2_with fail
           go_roundg gk
           case measure=>omega
           case rel=>exact ⟨j+1,by go_num,by omega,by rw [HUN.out],by rw [HSN.out];go_num,by first|exact B9.out|exact ⟨B9.out.os,B9.out.tape,B9.out.output,B9.out.size,B9.out.block⟩⟩
          ·have HSN:Hid ((forS (j+1) s.ss sl).length=b):=Lib.hid (HB0.out (fun h=>by
            rcases HSI.out.2 h with ⟨-,-,q⟩|⟨q,-⟩
            ·exact hit q
            ·rw [HKJ.out,h9] at q;cases q))
           rw [decide_eq_false hit] at hI
           have hI':decide (p=(sl:Int))=false:=by rw [<- hI];rfl
           clear h9 hk0 h25 hit
           go_upto_region 19 with fail
           have YN:Hid (BoxN (wr.alloc (.cells #[.int .i64 y.kind,.int .i64 y.sf,.int .i64 y.st,.slice ks y.kids.length kc,.string y.text,.int .i64 y.B,.string y.N,.int .i64 y.D,.string y.M,.int .i64 y.num,.int .i64 y.wf,.int .i64 y.wt,.slice es y.ends.length ec] 61)) wr.heap.size (Array.toList #[.int .i64 y.kind,.int .i64 y.sf,.int .i64 y.st,.slice ks y.kids.length kc,.string y.text,.int .i64 y.B,.string y.N,.int .i64 y.D,.string y.M,.int .i64 y.num,.int .i64 y.wf,.int .i64 y.wt,.slice es y.ends.length ec])):=Lib.hid (BoxN.new wr #[.int .i64 y.kind,.int .i64 y.sf,.int .i64 y.st,.slice ks y.kids.length kc,.string y.text,.int .i64 y.B,.string y.N,.int .i64 y.D,.string y.M,.int .i64 y.num,.int .i64 y.wf,.int .i64 y.wt,.slice es y.ends.length ec])
           have BW:Hid (Below wr.heap.size wr (wr.alloc (.cells #[.int .i64 y.kind,.int .i64 y.sf,.int .i64 y.st,.slice ks y.kids.length kc,.string y.text,.int .i64 y.B,.string y.N,.int .i64 y.D,.string y.M,.int .i64 y.num,.int .i64 y.wf,.int .i64 y.wt,.slice es y.ends.length ec] 61))):=Lib.hid ((Below.refl _ _).alloc (Nat.le_refl _) _)
           generalize wr.alloc (.cells #[.int .i64 y.kind,.int .i64 y.sf,.int .i64 y.st,.slice ks y.kids.length kc,.string y.text,.int .i64 y.B,.string y.N,.int .i64 y.D,.string y.M,.int .i64 y.num,.int .i64 y.wf,.int .i64 y.wt,.slice es y.ends.length ec] 61)=wn at *
           obtain ⟨nb,hnb⟩:∃ nb,nb=wr.heap.size:=⟨_,rfl⟩
           rw [<- hnb] at YN ⊢
           clear hnb d0 d1 d2 d3 d4 d5 d6 d7 d8 d9 d10 d11 d12
           have KP:Hid (∀ W',Below wn.heap.size wn W'->W'.cell? ⟨nb,0,none⟩=some (.int .i64 y.kind)/\W'.cell? ⟨nb,3,none⟩=some (.slice ks y.kids.length kc)/\Below wn.heap.size wn W'):=Lib.hid (fun W' h=>⟨(YN.out.keep h).cell 0,(YN.out.keep h).cell 3,h⟩)
           have HSQ:=Lib.hid (fun (W:World) (hb:Below wn.heap.size wn W)=>HSJ.out W (after BW.out hb))
           have y0:=YN.out.cell 0
           have y3:=YN.out.cell 3
           have yl:=YN.out.lt
           clear YN HSJ
           go_upto_region 23 with fail
           refine wp_region_held_drew (S:=(fun W':World=>W'.cell? ⟨nb,0,none⟩=some (.int .i64 y.kind)/\W'.cell? ⟨nb,3,none⟩=some (.slice ks y.kids.length kc)/\Below wn.heap.size wn W')) (by kernel_rfl) (KP.out _ (Below.refl _ _).drew) (fun hHeld=>?_)
           (refine wpAnyH_take (i:=0) (v:=?vv43) rfl (by kernel_rfl) (by kernel_rfl) (by kernel_rfl) (fun _ _ _ h=>h) (Or.inl ⟨by rfl,?hy43⟩) (by assumption) ?rest43;case hy43=>(intro w hSw;(try dsimp only at hSw);go_simp;try with_reducible rfl))
           (try simp only [List.getElem_toArray,List.getElem_cons_zero,List.getElem_cons_succ,Act.put,List.setIfInBounds_toArray,List.set_cons_zero,List.set_cons_succ])
           (refine wpAnyH_take (i:=1) (v:=?vv44) rfl (by kernel_rfl) (by kernel_rfl) (by kernel_rfl) (fun _ _ _ h=>h) (Or.inl ⟨by rfl,?hy44⟩) (by assumption) ?rest44;case hy44=>(intro w hSw;(try dsimp only at hSw);go_simp;try with_reducible rfl))
           (try simp only [List.getElem_toArray,List.getElem_cons_zero,List.getElem_cons_succ,Act.put,List.setIfInBounds_toArray,List.set_cons_zero,List.set_cons_succ])
           (refine wpAnyH_take (i:=2) (v:=?vv45) rfl (by kernel_rfl) (by kernel_rfl) (by kernel_rfl) (fun _ _ _ h=>h) (Or.inl ⟨by rfl,?hy45⟩) (by assumption) ?rest45;case hy45=>(intro w hSw;(try dsimp only at hSw);go_simp;try with_reducible rfl))
           (try simp only [List.getElem_toArray,List.getElem_cons_zero,List.getElem_cons_succ,Act.put,List.setIfInBounds_toArray,List.set_cons_zero,List.set_cons_succ])
           (first|rw [k9]|rw [k9']|skip)
           (refine wpAnyH_take (i:=3) (v:=?vv46) rfl (by kernel_rfl) (by kernel_rfl) (by kernel_rfl) (fun _ _ _ h=>h) (Or.inl ⟨by rfl,?hy46⟩) (by assumption) ?rest46;case hy46=>(intro w hSw;(try dsimp only at hSw);go_simp;try with_reducible rfl))
           (try simp only [List.getElem_toArray,List.getElem_cons_zero,List.getElem_cons_succ,Act.put,List.setIfInBounds_toArray,List.set_cons_zero,List.set_cons_succ])
           first|(refine wpAnyH_take (i:=4) (v:=undef) rfl (by kernel_rfl) (by kernel_rfl) (by kernel_rfl) (fun _ _ _ h=>h) (Or.inr ⟨by rfl,rfl⟩) (by assumption) ?_)|(refine wpAnyH_take (i:=4) (v:=?vv47) rfl (by kernel_rfl) (by kernel_rfl) (by kernel_rfl) (fun _ _ _ h=>h) (Or.inl ⟨by rfl,?hy47⟩) (by assumption) ?rest47;case hy47=>(intro w hSw;(try dsimp only at hSw);go_simp;try with_reducible rfl))
           (try simp only [List.getElem_toArray,List.getElem_cons_zero,List.getElem_cons_succ,Act.put,List.setIfInBounds_toArray,List.set_cons_zero,List.set_cons_succ])
           first|(refine wpAnyH_take (i:=5) (v:=undef) rfl (by kernel_rfl) (by kernel_rfl) (by kernel_rfl) (fun _ _ _ h=>h) (Or.inr ⟨by rfl,rfl⟩) (by assumption) ?_)|(refine wpAnyH_take (i:=5) (v:=?vv48) rfl (by kernel_rfl) (by kernel_rfl) (by kernel_rfl) (fun _ _ _ h=>h) (Or.inl ⟨by rfl,?hy48⟩) (by assumption) ?rest48;case hy48=>(intro w hSw;(try dsimp only at hSw);go_simp;try with_reducible rfl))
           (try simp only [List.getElem_toArray,List.getElem_cons_zero,List.getElem_cons_succ,Act.put,List.setIfInBounds_toArray,List.set_cons_zero,List.set_cons_succ])
           first|(refine wpAnyH_take (i:=6) (v:=undef) rfl (by kernel_rfl) (by kernel_rfl) (by kernel_rfl) (fun _ _ _ h=>h) (Or.inr ⟨by rfl,rfl⟩) (by assumption) ?_)|(refine wpAnyH_take (i:=6) (v:=?vv49) rfl (by kernel_rfl) (by kernel_rfl) (by kernel_rfl) (fun _ _ _ h=>h) (Or.inl ⟨by rfl,?hy49⟩) (by assumption) ?rest49;case hy49=>(intro w hSw;(try dsimp only at hSw);go_simp;try with_reducible rfl))
           (try simp only [List.getElem_toArray,List.getElem_cons_zero,List.getElem_cons_succ,Act.put,List.setIfInBounds_toArray,List.set_cons_zero,List.set_cons_succ])
           first|(refine wpAnyH_take (i:=7) (v:=undef) rfl (by kernel_rfl) (by kernel_rfl) (by kernel_rfl) (fun _ _ _ h=>h) (Or.inr ⟨by rfl,rfl⟩) (by assumption) ?_)|(refine wpAnyH_take (i:=7) (v:=?vv50) rfl (by kernel_rfl) (by kernel_rfl) (by kernel_rfl) (fun _ _ _ h=>h) (Or.inl ⟨by rfl,?hy50⟩) (by assumption) ?rest50;case hy50=>(intro w hSw;(try dsimp only at hSw);go_simp;try with_reducible rfl))
           (try simp only [List.getElem_toArray,List.getElem_cons_zero,List.getElem_cons_succ,Act.put,List.setIfInBounds_toArray,List.set_cons_zero,List.set_cons_succ])
           (first|rw [z1]|rw [z2]|rw [z3]|skip)
           (refine wpAnyH_take (i:=8) (v:=?vv51) rfl (by kernel_rfl) (by kernel_rfl) (by kernel_rfl) (fun _ _ _ h=>h) (Or.inl ⟨by rfl,?hy51⟩) (by assumption) ?rest51;case hy51=>(intro w hSw;(try dsimp only at hSw);go_simp;try with_reducible rfl))
           (try simp only [List.getElem_toArray,List.getElem_cons_zero,List.getElem_cons_succ,Act.put,List.setIfInBounds_toArray,List.set_cons_zero,List.set_cons_succ])
           (refine wpAnyH_take (i:=9) (v:=?vv52) rfl (by kernel_rfl) (by kernel_rfl) (by kernel_rfl) (fun _ _ _ h=>h) (Or.inl ⟨by rfl,?hy52⟩) (by assumption) ?rest52;case hy52=>(intro w hSw;(try dsimp only at hSw);go_simp;try with_reducible rfl))
           (try simp only [List.getElem_toArray,List.getElem_cons_zero,List.getElem_cons_succ,Act.put,List.setIfInBounds_toArray,List.set_cons_zero,List.set_cons_succ])
           first|(refine wpAnyH_take (i:=10) (v:=undef) rfl (by kernel_rfl) (by kernel_rfl) (by kernel_rfl) (fun _ _ _ h=>h) (Or.inr ⟨by rfl,rfl⟩) (by assumption) ?_)|(refine wpAnyH_take (i:=10) (v:=?vv53) rfl (by kernel_rfl) (by kernel_rfl) (by kernel_rfl) (fun _ _ _ h=>h) (Or.inl ⟨by rfl,?hy53⟩) (by assumption) ?rest53;case hy53=>(intro w hSw;(try dsimp only at hSw);go_simp;try with_reducible rfl))
           (try simp only [List.getElem_toArray,List.getElem_cons_zero,List.getElem_cons_succ,Act.put,List.setIfInBounds_toArray,List.set_cons_zero,List.set_cons_succ])
           first|(refine wpAnyH_take (i:=11) (v:=undef) rfl (by kernel_rfl) (by kernel_rfl) (by kernel_rfl) (fun _ _ _ h=>h) (Or.inr ⟨by rfl,rfl⟩) (by assumption) ?_)|(refine wpAnyH_take (i:=11) (v:=?vv54) rfl (by kernel_rfl) (by kernel_rfl) (by kernel_rfl) (fun _ _ _ h=>h) (Or.inl ⟨by rfl,?hy54⟩) (by assumption) ?rest54;case hy54=>(intro w hSw;(try dsimp only at hSw);go_simp;try with_reducible rfl))
           (try simp only [List.getElem_toArray,List.getElem_cons_zero,List.getElem_cons_succ,Act.put,List.setIfInBounds_toArray,List.set_cons_zero,List.set_cons_succ])
           first|(refine wpAnyH_take (i:=13) (v:=undef) rfl (by kernel_rfl) (by kernel_rfl) (by kernel_rfl) (fun _ _ _ h=>h) (Or.inr ⟨by rfl,rfl⟩) (by assumption) ?_)|(refine wpAnyH_take (i:=13) (v:=?vv55) rfl (by kernel_rfl) (by kernel_rfl) (by kernel_rfl) (fun _ _ _ h=>h) (Or.inl ⟨by rfl,?hy55⟩) (by assumption) ?rest55;case hy55=>(intro w hSw;(try dsimp only at hSw);go_simp;try with_reducible rfl))
           (try simp only [List.getElem_toArray,List.getElem_cons_zero,List.getElem_cons_succ,Act.put,List.setIfInBounds_toArray,List.set_cons_zero,List.set_cons_succ])
           first
            |(refine wpAnyH_take (i:=12) (v:=undef) rfl (by kernel_rfl) (by kernel_rfl) (by kernel_rfl) (fun _ _ _ h=>h) (Or.inr ⟨by rfl,rfl⟩) (by assumption) ?_;(try simp only [List.getElem_toArray,List.getElem_cons_zero,List.getElem_cons_succ,Act.put,List.setIfInBounds_toArray,List.set_cons_zero,List.set_cons_succ]))
            |(refine wpAnyH_ready (rs:=[12]) (by kernel_rfl) (List.cons_ne_nil _ _) ?_;refine AllReadyH.cons rfl (fun K hK=>?_) AllReadyH.nil;go_simp;go_split_ands;refine (HSQ.out _ (by assumption)).mono ?_;rintro e wz ⟨rfl,hb2⟩;(try go_wp2_with fail);refine hK.out _ _ ?hS56 (fun hHeld2=>?rest56);(case hS56=>(exact KP.out _ (after (by assumption) hb2)));clear hK K;(try simp only [List.getElem_toArray,List.getElem_cons_zero,List.getElem_cons_succ,Act.put,List.setIfInBounds_toArray,List.set_cons_zero,List.set_cons_succ]))
           first|(refine wpAnyH_take (i:=14) (v:=undef) rfl (by kernel_rfl) (by kernel_rfl) (by kernel_rfl) (fun _ _ _ h=>h) (Or.inr ⟨by rfl,rfl⟩) (by assumption) ?_)|(refine wpAnyH_take (i:=14) (v:=?vv57) rfl (by kernel_rfl) (by kernel_rfl) (by kernel_rfl) (fun _ _ _ h=>h) (Or.inl ⟨by rfl,?hy57⟩) (by assumption) ?rest57;case hy57=>(intro w hSw;(try dsimp only at hSw);go_simp;try with_reducible rfl))
           (try simp only [List.getElem_toArray,List.getElem_cons_zero,List.getElem_cons_succ,Act.put,List.setIfInBounds_toArray,List.set_cons_zero,List.set_cons_succ])
           (first|rw [hI]|rw [hI']|skip)
           (refine wpAnyH_take (i:=15) (v:=?vv58) rfl (by kernel_rfl) (by kernel_rfl) (by kernel_rfl) (fun _ _ _ h=>h) (Or.inl ⟨by rfl,?hy58⟩) (by assumption) ?rest58;case hy58=>(intro w hSw;(try dsimp only at hSw);go_simp;try with_reducible rfl))
           (try simp only [List.getElem_toArray,List.getElem_cons_zero,List.getElem_cons_succ,Act.put,List.setIfInBounds_toArray,List.set_cons_zero,List.set_cons_succ])
           (refine wpAnyH_take (i:=16) (v:=?vv59) rfl (by kernel_rfl) (by kernel_rfl) (by kernel_rfl) (fun _ _ _ h=>h) (Or.inl ⟨by rfl,?hy59⟩) (by assumption) ?rest59;case hy59=>(intro w hSw;(try dsimp only at hSw);go_simp;try with_reducible rfl))
           (try simp only [List.getElem_toArray,List.getElem_cons_zero,List.getElem_cons_succ,Act.put,List.setIfInBounds_toArray,List.set_cons_zero,List.set_cons_succ])
           first|(refine wpAnyH_take (i:=17) (v:=undef) rfl (by kernel_rfl) (by kernel_rfl) (by kernel_rfl) (fun _ _ _ h=>h) (Or.inr ⟨by rfl,rfl⟩) (by assumption) ?_)|(refine wpAnyH_take (i:=17) (v:=?vv60) rfl (by kernel_rfl) (by kernel_rfl) (by kernel_rfl) (fun _ _ _ h=>h) (Or.inl ⟨by rfl,?hy60⟩) (by assumption) ?rest60;case hy60=>(intro w hSw;(try dsimp only at hSw);go_simp;try with_reducible rfl))
           (try simp only [List.getElem_toArray,List.getElem_cons_zero,List.getElem_cons_succ,Act.put,List.setIfInBounds_toArray,List.set_cons_zero,List.set_cons_succ])
           first|(refine wpAnyH_take (i:=18) (v:=undef) rfl (by kernel_rfl) (by kernel_rfl) (by kernel_rfl) (fun _ _ _ h=>h) (Or.inr ⟨by rfl,rfl⟩) (by assumption) ?_)|(refine wpAnyH_take (i:=18) (v:=?vv61) rfl (by kernel_rfl) (by kernel_rfl) (by kernel_rfl) (fun _ _ _ h=>h) (Or.inl ⟨by rfl,?hy61⟩) (by assumption) ?rest61;case hy61=>(intro w hSw;(try dsimp only at hSw);go_simp;try with_reducible rfl))
           (try simp only [List.getElem_toArray,List.getElem_cons_zero,List.getElem_cons_succ,Act.put,List.setIfInBounds_toArray,List.set_cons_zero,List.set_cons_succ])
           first|(refine wpAnyH_take (i:=19) (v:=undef) rfl (by kernel_rfl) (by kernel_rfl) (by kernel_rfl) (fun _ _ _ h=>h) (Or.inr ⟨by rfl,rfl⟩) (by assumption) ?_)|(refine wpAnyH_take (i:=19) (v:=?vv62) rfl (by kernel_rfl) (by kernel_rfl) (by kernel_rfl) (fun _ _ _ h=>h) (Or.inl ⟨by rfl,?hy62⟩) (by assumption) ?rest62;case hy62=>(intro w hSw;(try dsimp only at hSw);go_simp;try with_reducible rfl))
           (try simp only [List.getElem_toArray,List.getElem_cons_zero,List.getElem_cons_succ,Act.put,List.setIfInBounds_toArray,List.set_cons_zero,List.set_cons_succ])
           (first|rw [k10]|rw [k10']|skip)
           first|(refine wpAnyH_take (i:=20) (v:=undef) rfl (by kernel_rfl) (by kernel_rfl) (by kernel_rfl) (fun _ _ _ h=>h) (Or.inr ⟨by rfl,rfl⟩) (by assumption) ?_)|(refine wpAnyH_take (i:=20) (v:=?vv63) rfl (by kernel_rfl) (by kernel_rfl) (by kernel_rfl) (fun _ _ _ h=>h) (Or.inl ⟨by rfl,?hy63⟩) (by assumption) ?rest63;case hy63=>(intro w hSw;(try dsimp only at hSw);go_simp;try with_reducible rfl))
           (try simp only [List.getElem_toArray,List.getElem_cons_zero,List.getElem_cons_succ,Act.put,List.setIfInBounds_toArray,List.set_cons_zero,List.set_cons_succ])
           first|(refine wpAnyH_take (i:=21) (v:=undef) rfl (by kernel_rfl) (by kernel_rfl) (by kernel_rfl) (fun _ _ _ h=>h) (Or.inr ⟨by rfl,rfl⟩) (by assumption) ?_)|(refine wpAnyH_take (i:=21) (v:=?vv64) rfl (by kernel_rfl) (by kernel_rfl) (by kernel_rfl) (fun _ _ _ h=>h) (Or.inl ⟨by rfl,?hy64⟩) (by assumption) ?rest64;case hy64=>(intro w hSw;(try dsimp only at hSw);go_simp;try with_reducible rfl))
           (try simp only [List.getElem_toArray,List.getElem_cons_zero,List.getElem_cons_succ,Act.put,List.setIfInBounds_toArray,List.set_cons_zero,List.set_cons_succ])
           first|(refine wpAnyH_take (i:=22) (v:=undef) rfl (by kernel_rfl) (by kernel_rfl) (by kernel_rfl) (fun _ _ _ h=>h) (Or.inr ⟨by rfl,rfl⟩) (by assumption) ?_)|(refine wpAnyH_take (i:=22) (v:=?vv65) rfl (by kernel_rfl) (by kernel_rfl) (by kernel_rfl) (fun _ _ _ h=>h) (Or.inl ⟨by rfl,?hy65⟩) (by assumption) ?rest65;case hy65=>(intro w hSw;(try dsimp only at hSw);go_simp;try with_reducible rfl))
           (try simp only [List.getElem_toArray,List.getElem_cons_zero,List.getElem_cons_succ,Act.put,List.setIfInBounds_toArray,List.set_cons_zero,List.set_cons_succ])
           first|(refine wpAnyH_take (i:=23) (v:=undef) rfl (by kernel_rfl) (by kernel_rfl) (by kernel_rfl) (fun _ _ _ h=>h) (Or.inr ⟨by rfl,rfl⟩) (by assumption) ?_)|(refine wpAnyH_take (i:=23) (v:=?vv66) rfl (by kernel_rfl) (by kernel_rfl) (by kernel_rfl) (fun _ _ _ h=>h) (Or.inl ⟨by rfl,?hy66⟩) (by assumption) ?rest66;case hy66=>(intro w hSw;(try dsimp only at hSw);go_simp;try with_reducible rfl))
           (try simp only [List.getElem_toArray,List.getElem_cons_zero,List.getElem_cons_succ,Act.put,List.setIfInBounds_toArray,List.set_cons_zero,List.set_cons_succ])
           first|(refine wpAnyH_take (i:=24) (v:=undef) rfl (by kernel_rfl) (by kernel_rfl) (by kernel_rfl) (fun _ _ _ h=>h) (Or.inr ⟨by rfl,rfl⟩) (by assumption) ?_)|(refine wpAnyH_take (i:=24) (v:=?vv67) rfl (by kernel_rfl) (by kernel_rfl) (by kernel_rfl) (fun _ _ _ h=>h) (Or.inl ⟨by rfl,?hy67⟩) (by assumption) ?rest67;case hy67=>(intro w hSw;(try dsimp only at hSw);go_simp;try with_reducible rfl))
           (try simp only [List.getElem_toArray,List.getElem_cons_zero,List.getElem_cons_succ,Act.put,List.setIfInBounds_toArray,List.set_cons_zero,List.set_cons_succ])
           first|(refine wpAnyH_take (i:=25) (v:=undef) rfl (by kernel_rfl) (by kernel_rfl) (by kernel_rfl) (fun _ _ _ h=>h) (Or.inr ⟨by rfl,rfl⟩) (by assumption) ?_)|(refine wpAnyH_take (i:=25) (v:=?vv68) rfl (by kernel_rfl) (by kernel_rfl) (by kernel_rfl) (fun _ _ _ h=>h) (Or.inl ⟨by rfl,?hy68⟩) (by assumption) ?rest68;case hy68=>(intro w hSw;(try dsimp only at hSw);go_simp;try with_reducible rfl))
           (try simp only [List.getElem_toArray,List.getElem_cons_zero,List.getElem_cons_succ,Act.put,List.setIfInBounds_toArray,List.set_cons_zero,List.set_cons_succ])
           first|(refine wpAnyH_take (i:=26) (v:=undef) rfl (by kernel_rfl) (by kernel_rfl) (by kernel_rfl) (fun _ _ _ h=>h) (Or.inr ⟨by rfl,rfl⟩) (by assumption) ?_)|(refine wpAnyH_take (i:=26) (v:=?vv69) rfl (by kernel_rfl) (by kernel_rfl) (by kernel_rfl) (fun _ _ _ h=>h) (Or.inl ⟨by rfl,?hy69⟩) (by assumption) ?rest69;case hy69=>(intro w hSw;(try dsimp only at hSw);go_simp;try with_reducible rfl))
           (try simp only [List.getElem_toArray,List.getElem_cons_zero,List.getElem_cons_succ,Act.put,List.setIfInBounds_toArray,List.set_cons_zero,List.set_cons_succ])
           first|(refine wpAnyH_take (i:=27) (v:=undef) rfl (by kernel_rfl) (by kernel_rfl) (by kernel_rfl) (fun _ _ _ h=>h) (Or.inr ⟨by rfl,rfl⟩) (by assumption) ?_)|(refine wpAnyH_take (i:=27) (v:=?vv70) rfl (by kernel_rfl) (by kernel_rfl) (by kernel_rfl) (fun _ _ _ h=>h) (Or.inl ⟨by rfl,?hy70⟩) (by assumption) ?rest70;case hy70=>(intro w hSw;(try dsimp only at hSw);go_simp;try with_reducible rfl))
           (try simp only [List.getElem_toArray,List.getElem_cons_zero,List.getElem_cons_succ,Act.put,List.setIfInBounds_toArray,List.set_cons_zero,List.set_cons_succ])
           first|(refine wpAnyH_take (i:=28) (v:=undef) rfl (by kernel_rfl) (by kernel_rfl) (by kernel_rfl) (fun _ _ _ h=>h) (Or.inr ⟨by rfl,rfl⟩) (by assumption) ?_)|(refine wpAnyH_take (i:=28) (v:=?vv71) rfl (by kernel_rfl) (by kernel_rfl) (by kernel_rfl) (fun _ _ _ h=>h) (Or.inl ⟨by rfl,?hy71⟩) (by assumption) ?rest71;case hy71=>(intro w hSw;(try dsimp only at hSw);go_simp;try with_reducible rfl))
           (try simp only [List.getElem_toArray,List.getElem_cons_zero,List.getElem_cons_succ,Act.put,List.setIfInBounds_toArray,List.set_cons_zero,List.set_cons_succ])
           first|(refine wpAnyH_take (i:=29) (v:=undef) rfl (by kernel_rfl) (by kernel_rfl) (by kernel_rfl) (fun _ _ _ h=>h) (Or.inr ⟨by rfl,rfl⟩) (by assumption) ?_)|(refine wpAnyH_take (i:=29) (v:=?vv72) rfl (by kernel_rfl) (by kernel_rfl) (by kernel_rfl) (fun _ _ _ h=>h) (Or.inl ⟨by rfl,?hy72⟩) (by assumption) ?rest72;case hy72=>(intro w hSw;(try dsimp only at hSw);go_simp;try with_reducible rfl))
           (try simp only [List.getElem_toArray,List.getElem_cons_zero,List.getElem_cons_succ,Act.put,List.setIfInBounds_toArray,List.set_cons_zero,List.set_cons_succ])
           first|(refine wpAnyH_take (i:=30) (v:=undef) rfl (by kernel_rfl) (by kernel_rfl) (by kernel_rfl) (fun _ _ _ h=>h) (Or.inr ⟨by rfl,rfl⟩) (by assumption) ?_)|(refine wpAnyH_take (i:=30) (v:=?vv73) rfl (by kernel_rfl) (by kernel_rfl) (by kernel_rfl) (fun _ _ _ h=>h) (Or.inl ⟨by rfl,?hy73⟩) (by assumption) ?rest73;case hy73=>(intro w hSw;(try dsimp only at hSw);go_simp;try with_reducible rfl))
           (try simp only [List.getElem_toArray,List.getElem_cons_zero,List.getElem_cons_succ,Act.put,List.setIfInBounds_toArray,List.set_cons_zero,List.set_cons_succ])
           (first|rw [q25]|rw [q25']|skip)
           first|(refine wpAnyH_take (i:=31) (v:=undef) rfl (by kernel_rfl) (by kernel_rfl) (by kernel_rfl) (fun _ _ _ h=>h) (Or.inr ⟨by rfl,rfl⟩) (by assumption) ?_)|(refine wpAnyH_take (i:=31) (v:=?vv74) rfl (by kernel_rfl) (by kernel_rfl) (by kernel_rfl) (fun _ _ _ h=>h) (Or.inl ⟨by rfl,?hy74⟩) (by assumption) ?rest74;case hy74=>(intro w hSw;(try dsimp only at hSw);go_simp;try with_reducible rfl))
           (try simp only [List.getElem_toArray,List.getElem_cons_zero,List.getElem_cons_succ,Act.put,List.setIfInBounds_toArray,List.set_cons_zero,List.set_cons_succ])
           first|(refine wpAnyH_take (i:=32) (v:=undef) rfl (by kernel_rfl) (by kernel_rfl) (by kernel_rfl) (fun _ _ _ h=>h) (Or.inr ⟨by rfl,rfl⟩) (by assumption) ?_)|(refine wpAnyH_take (i:=32) (v:=?vv75) rfl (by kernel_rfl) (by kernel_rfl) (by kernel_rfl) (fun _ _ _ h=>h) (Or.inl ⟨by rfl,?hy75⟩) (by assumption) ?rest75;case hy75=>(intro w hSw;(try dsimp only at hSw);go_simp;try with_reducible rfl))
           (try simp only [List.getElem_toArray,List.getElem_cons_zero,List.getElem_cons_succ,Act.put,List.setIfInBounds_toArray,List.set_cons_zero,List.set_cons_succ])
           first|(refine wpAnyH_take (i:=33) (v:=undef) rfl (by kernel_rfl) (by kernel_rfl) (by kernel_rfl) (fun _ _ _ h=>h) (Or.inr ⟨by rfl,rfl⟩) (by assumption) ?_)|(refine wpAnyH_take (i:=33) (v:=?vv76) rfl (by kernel_rfl) (by kernel_rfl) (by kernel_rfl) (fun _ _ _ h=>h) (Or.inl ⟨by rfl,?hy76⟩) (by assumption) ?rest76;case hy76=>(intro w hSw;(try dsimp only at hSw);go_simp;try with_reducible rfl))
           (try simp only [List.getElem_toArray,List.getElem_cons_zero,List.getElem_cons_succ,Act.put,List.setIfInBounds_toArray,List.set_cons_zero,List.set_cons_succ])
           first|(refine wpAnyH_take (i:=34) (v:=undef) rfl (by kernel_rfl) (by kernel_rfl) (by kernel_rfl) (fun _ _ _ h=>h) (Or.inr ⟨by rfl,rfl⟩) (by assumption) ?_)|(refine wpAnyH_take (i:=34) (v:=?vv77) rfl (by kernel_rfl) (by kernel_rfl) (by kernel_rfl) (fun _ _ _ h=>h) (Or.inl ⟨by rfl,?hy77⟩) (by assumption) ?rest77;case hy77=>(intro w hSw;(try dsimp only at hSw);go_simp;try with_reducible rfl))
           (try simp only [List.getElem_toArray,List.getElem_cons_zero,List.getElem_cons_succ,Act.put,List.setIfInBounds_toArray,List.set_cons_zero,List.set_cons_succ])
           first|(refine wpAnyH_take (i:=35) (v:=undef) rfl (by kernel_rfl) (by kernel_rfl) (by kernel_rfl) (fun _ _ _ h=>h) (Or.inr ⟨by rfl,rfl⟩) (by assumption) ?_)|(refine wpAnyH_take (i:=35) (v:=?vv78) rfl (by kernel_rfl) (by kernel_rfl) (by kernel_rfl) (fun _ _ _ h=>h) (Or.inl ⟨by rfl,?hy78⟩) (by assumption) ?rest78;case hy78=>(intro w hSw;(try dsimp only at hSw);go_simp;try with_reducible rfl))
           (try simp only [List.getElem_toArray,List.getElem_cons_zero,List.getElem_cons_succ,Act.put,List.setIfInBounds_toArray,List.set_cons_zero,List.set_cons_succ])
           first|(refine wpAnyH_take (i:=36) (v:=undef) rfl (by kernel_rfl) (by kernel_rfl) (by kernel_rfl) (fun _ _ _ h=>h) (Or.inr ⟨by rfl,rfl⟩) (by assumption) ?_)|(refine wpAnyH_take (i:=36) (v:=?vv79) rfl (by kernel_rfl) (by kernel_rfl) (by kernel_rfl) (fun _ _ _ h=>h) (Or.inl ⟨by rfl,?hy79⟩) (by assumption) ?rest79;case hy79=>(intro w hSw;(try dsimp only at hSw);go_simp;try with_reducible rfl))
           (try simp only [List.getElem_toArray,List.getElem_cons_zero,List.getElem_cons_succ,Act.put,List.setIfInBounds_toArray,List.set_cons_zero,List.set_cons_succ])
           first|(refine wpAnyH_take (i:=37) (v:=undef) rfl (by kernel_rfl) (by kernel_rfl) (by kernel_rfl) (fun _ _ _ h=>h) (Or.inr ⟨by rfl,rfl⟩) (by assumption) ?_)|(refine wpAnyH_take (i:=37) (v:=?vv80) rfl (by kernel_rfl) (by kernel_rfl) (by kernel_rfl) (fun _ _ _ h=>h) (Or.inl ⟨by rfl,?hy80⟩) (by assumption) ?rest80;case hy80=>(intro w hSw;(try dsimp only at hSw);go_simp;try with_reducible rfl))
           (try simp only [List.getElem_toArray,List.getElem_cons_zero,List.getElem_cons_succ,Act.put,List.setIfInBounds_toArray,List.set_cons_zero,List.set_cons_succ])
           first|(refine wpAnyH_take (i:=39) (v:=undef) rfl (by kernel_rfl) (by kernel_rfl) (by kernel_rfl) (fun _ _ _ h=>h) (Or.inr ⟨by rfl,rfl⟩) (by assumption) ?_)|(refine wpAnyH_take (i:=39) (v:=?vv81) rfl (by kernel_rfl) (by kernel_rfl) (by kernel_rfl) (fun _ _ _ h=>h) (Or.inl ⟨by rfl,?hy81⟩) (by assumption) ?rest81;case hy81=>(intro w hSw;(try dsimp only at hSw);go_simp;try with_reducible rfl))
           (try simp only [List.getElem_toArray,List.getElem_cons_zero,List.getElem_cons_succ,Act.put,List.setIfInBounds_toArray,List.set_cons_zero,List.set_cons_succ])
           first
            |(refine wpAnyH_take (i:=38) (v:=undef) rfl (by kernel_rfl) (by kernel_rfl) (by kernel_rfl) (fun _ _ _ h=>h) (Or.inr ⟨by rfl,rfl⟩) (by assumption) ?_;(try simp only [List.getElem_toArray,List.getElem_cons_zero,List.getElem_cons_succ,Act.put,List.setIfInBounds_toArray,List.set_cons_zero,List.set_cons_succ]))
            |(refine wpAnyH_ready (rs:=[38]) (by kernel_rfl) (List.cons_ne_nil _ _) ?_;refine AllReadyH.cons rfl (fun K hK=>?_) AllReadyH.nil;go_simp;go_split_ands;skip;(try go_wp2_with fail);refine hK.out _ _ ?hS82 (fun hHeld2=>?rest82);(case hS82=>(exact KP.out _ (after (by assumption) hb2)));clear hK K;(try simp only [List.getElem_toArray,List.getElem_cons_zero,List.getElem_cons_succ,Act.put,List.setIfInBounds_toArray,List.set_cons_zero,List.set_cons_succ]))
           first|(refine wpAnyH_take (i:=40) (v:=undef) rfl (by kernel_rfl) (by kernel_rfl) (by kernel_rfl) (fun _ _ _ h=>h) (Or.inr ⟨by rfl,rfl⟩) (by assumption) ?_)|(refine wpAnyH_take (i:=40) (v:=?vv83) rfl (by kernel_rfl) (by kernel_rfl) (by kernel_rfl) (fun _ _ _ h=>h) (Or.inl ⟨by rfl,?hy83⟩) (by assumption) ?rest83;case hy83=>(intro w hSw;(try dsimp only at hSw);go_simp;try with_reducible rfl))
           (try simp only [List.getElem_toArray,List.getElem_cons_zero,List.getElem_cons_succ,Act.put,List.setIfInBounds_toArray,List.set_cons_zero,List.set_cons_succ])
           (first|rw [hI2]|rw [hI3]|skip)
           first|(refine wpAnyH_take (i:=41) (v:=undef) rfl (by kernel_rfl) (by kernel_rfl) (by kernel_rfl) (fun _ _ _ h=>h) (Or.inr ⟨by rfl,rfl⟩) (by assumption) ?_)|(refine wpAnyH_take (i:=41) (v:=?vv84) rfl (by kernel_rfl) (by kernel_rfl) (by kernel_rfl) (fun _ _ _ h=>h) (Or.inl ⟨by rfl,?hy84⟩) (by assumption) ?rest84;case hy84=>(intro w hSw;(try dsimp only at hSw);go_simp;try with_reducible rfl))
           (try simp only [List.getElem_toArray,List.getElem_cons_zero,List.getElem_cons_succ,Act.put,List.setIfInBounds_toArray,List.set_cons_zero,List.set_cons_succ])
           (refine wpAnyH_take (i:=42) (v:=?vv85) rfl (by kernel_rfl) (by kernel_rfl) (by kernel_rfl) (fun _ _ _ h=>h) (Or.inl ⟨by rfl,?hy85⟩) (by assumption) ?rest85;case hy85=>(intro w hSw;(try dsimp only at hSw);go_simp;try with_reducible rfl))
           (try simp only [List.getElem_toArray,List.getElem_cons_zero,List.getElem_cons_succ,Act.put,List.setIfInBounds_toArray,List.set_cons_zero,List.set_cons_succ])
           refine wpAnyH_done (by kernel_rfl) ?_ _
           have hBF:=hHeld2.2.2
           have B9:=Lib.hid (after BR.out (after BW.out hBF))
           clear hHeld2 hBF
           go_wp2_with fail
           go_roundg gk
           case measure=>omega
           case rel=>exact ⟨j+1,by go_num,by omega,by rw [HUN.out],by rw [HSN.out],by first|exact B9.out|exact ⟨B9.out.os,B9.out.tape,B9.out.output,B9.out.size,B9.out.block⟩⟩
        ·have k9:(y.kind == 9)=false:=by simp [h9]
         by_cases h10:y.kind=10
         ·have k10:(y.kind == 10)=true:=by simp [h10]
          have k9':decide (y.kind=9)=false:=decide_eq_false h9
          have k10':decide (y.kind=10)=true:=decide_eq_true h10
          obtain ⟨k0,ks0,hkk⟩:=least_ass PP.out HL1.out (by rw [HKJ.out];exact h10)
          have hk0l:=kidsOf_lt PP.out HL1.out (x:=k0) (by rw [hkk];simp)
          have hkk':=hkk
          rw [HKO.out] at hkk
          have hlen:y.kids.length=ks0.length+1:=by
           have:=congrArg List.length hkk
           simpa using this
          have hget:(y.kids[0]'(by omega))=(k0:Int):=by
           have h1:(y.kids.map Int.toNat)[0]? = some k0:=by rw [hkk];rfl
           have h2:=HAH.out (y.kids[0]'(by omega)) (List.getElem_mem _)
           rw [List.getElem?_map,List.getElem?_eq_getElem (by omega)] at h1
           simp only [Option.map_some,Option.some.injEq] at h1
           omega
          obtain ⟨kb,koff,rfl,hkb,hkat⟩:=HKS.out (by omega)
          have ck:=hkat 0 (by omega)
          rw [hget,Nat.add_zero] at ck
          obtain ⟨kv2,ev2,hx2⟩:=HAT.out k0 (by have:=HL1.out;omega)
          have cn:=keep BR.out hg8 hx2.c0
          have hk0j:k0<l.length:=by have:=HL1.out;omega
          have hkn:kndS l k0=l[k0].kind:=kndS_get hk0j
          have HH:Hid ((kidsOf l j).headD 0=k0):=Lib.hid (by rw [hkk'];rfl)
          have T8:=T7.out.keep BR.out
          obtain ⟨t0,-,tl,-⟩:=T8.two
          rw [HNN.out] at t0
          have HSK2:=Lib.hid (fun (W:World) (hb:Below wr.heap.size wr W)=>slot_any (XR.out.step hb) (z:=(k0:Nat)) (by have:=L2.out;unfold In64;omega))
          rw [if_neg (show ¬ ((k0:Nat):Int)<0 by omega),show ((k0:Nat):Int).toNat=k0 by omega] at HSK2
          have hI2:=idx_eq (slotS s k0) sl
          obtain ⟨p2,hp2⟩:∃ p2,idxI (slotS s k0)=p2:=⟨_,rfl⟩
          rw [hp2] at hI2 HSK2
          have m0:(0:Int)<=(k0:Int):=by omega
          have m1:(k0:Int)<(n:Int):=by have:=HNN.out;omega
          have m2:k0<n:=by have:=HNN.out;omega
          have m3:(0:Int)<(y.kids.length:Int):=by omega
          have m4:0<y.kids.length:=by omega
          generalize l[k0].kind=kk at *
          clear hkk hkk' hget hlen hkat hx2 hp2 hk0l hk0j hI HSJ
          by_cases c25:kk=25
          ·have q25:(kk == 25)=true:=by simp [c25]
           have q25':decide (kk=25)=true:=decide_eq_true c25
           by_cases hit:slotS s k0=some sl
           ·have hss:s.ss j=some sl:=HSI.out.1 (.inr ⟨by rw [HKJ.out];exact h10,by rw [HH.out,hkn];exact c25,by rw [HH.out];exact hit⟩)
            have HSN:=Lib.hid (HB1.out hss)
            obtain ⟨hlt,hgt⟩:=HQJ.out hss
            obtain ⟨s0,c0,hv0,hnum⟩:=HW.out
            simp only [Value.slice.injEq] at hv0
            obtain ⟨rfl,-,-⟩:=hv0
            obtain ⟨vb,vo,rfl,hvb,hvc⟩:=hnum (by rw [natI_len,<- HVL.out];omega)
            have cv:=hvc b (by rw [natI_len,<- HVL.out];exact hlt)
            have ev:(natI v)[b]'(by rw [natI_len,<- HVL.out];exact hlt)=(j:Int):=by
             have h2:=(List.getElem?_eq_some_iff.1 hgt).2
             simp [natI,h2]
            rw [ev] at cv
            have cv:=keep BR.out hvb cv
            have hvb:=Nat.lt_of_lt_of_le hvb BR.out.size
            have b0:(0:Int)<=(b:Int):=by omega
            have b1:(b:Int)<(vl:Int):=by omega
            have b2:decide ((b:Int) ≥ (vl:Int))=false:=decide_eq_false (by omega)
            have b3:decide ((vl:Int)<=(b:Int))=false:=decide_eq_false (by omega)
            have b4:decide (vl<=b)=false:=decide_eq_false (by omega)
            have jj:((j:Int) != (j:Int))=false:=by simp
            clear hss hlt hgt hnum hvc ev
            rw [decide_eq_true hit] at hI2
            have hI3:decide (p2=(sl:Int))=true:=by rw [<- hI2];rfl
            clear h9 h10 h25 hit c25 hkn
            go_upto_region 19 with fail
            have YN:Hid (BoxN (wr.alloc (.cells #[.int .i64 y.kind,.int .i64 y.sf,.int .i64 y.st,.slice (some ⟨kb,koff,none⟩) y.kids.length kc,.string y.text,.int .i64 y.B,.string y.N,.int .i64 y.D,.string y.M,.int .i64 y.num,.int .i64 y.wf,.int .i64 y.wt,.slice es y.ends.length ec] 61)) wr.heap.size (Array.toList #[.int .i64 y.kind,.int .i64 y.sf,.int .i64 y.st,.slice (some ⟨kb,koff,none⟩) y.kids.length kc,.string y.text,.int .i64 y.B,.string y.N,.int .i64 y.D,.string y.M,.int .i64 y.num,.int .i64 y.wf,.int .i64 y.wt,.slice es y.ends.length ec])):=Lib.hid (BoxN.new wr #[.int .i64 y.kind,.int .i64 y.sf,.int .i64 y.st,.slice (some ⟨kb,koff,none⟩) y.kids.length kc,.string y.text,.int .i64 y.B,.string y.N,.int .i64 y.D,.string y.M,.int .i64 y.num,.int .i64 y.wf,.int .i64 y.wt,.slice es y.ends.length ec])
            have BW:Hid (Below wr.heap.size wr (wr.alloc (.cells #[.int .i64 y.kind,.int .i64 y.sf,.int .i64 y.st,.slice (some ⟨kb,koff,none⟩) y.kids.length kc,.string y.text,.int .i64 y.B,.string y.N,.int .i64 y.D,.string y.M,.int .i64 y.num,.int .i64 y.wf,.int .i64 y.wt,.slice es y.ends.length ec] 61))):=Lib.hid ((Below.refl _ _).alloc (Nat.le_refl _) _)
            generalize wr.alloc (.cells #[.int .i64 y.kind,.int .i64 y.sf,.int .i64 y.st,.slice (some ⟨kb,koff,none⟩) y.kids.length kc,.string y.text,.int .i64 y.B,.string y.N,.int .i64 y.D,.string y.M,.int .i64 y.num,.int .i64 y.wf,.int .i64 y.wt,.slice es y.ends.length ec] 61)=wn at *
            obtain ⟨nb,hnb⟩:∃ nb,nb=wr.heap.size:=⟨_,rfl⟩
            rw [<- hnb] at YN ⊢
            clear hnb d0 d1 d2 d3 d4 d5 d6 d7 d8 d9 d10 d11 d12
            have KP:Hid (∀ W',Below wn.heap.size wn W'->W'.cell? ⟨nb,0,none⟩=some (.int .i64 y.kind)/\W'.cell? ⟨nb,3,none⟩=some (.slice (some ⟨kb,koff,none⟩) y.kids.length kc)/\W'.cell? ⟨w2.heap.size,0,none⟩=some (.slice (some ⟨g,off,none⟩) n c1)/\W'.cell? ⟨kb,koff,none⟩=some (.int .i64 (k0:Int))/\W'.cell? ⟨g,off+k0*13,none⟩=some (.int .i64 kk)/\Below wn.heap.size wn W'):=Lib.hid (fun W' h=>⟨(YN.out.keep h).cell 0,(YN.out.keep h).cell 3,keep (after BW.out h) tl t0,keep (after BW.out h) hkb ck,keep (after BW.out h) hg cn,h⟩)
            have HSQ:=Lib.hid (fun (W:World) (hb:Below wn.heap.size wn W)=>HSK2.out W (after BW.out hb))
            have y0:=YN.out.cell 0
            have y3:=YN.out.cell 3
            have yl:=YN.out.lt
            clear YN HSK2 t0 ck cn
            go_upto_region 23 with fail
            refine wp_region_held_drew (S:=(fun W':World=>W'.cell? ⟨nb,0,none⟩=some (.int .i64 y.kind)/\W'.cell? ⟨nb,3,none⟩=some (.slice (some ⟨kb,koff,none⟩) y.kids.length kc)/\W'.cell? ⟨w2.heap.size,0,none⟩=some (.slice (some ⟨g,off,none⟩) n c1)/\W'.cell? ⟨kb,koff,none⟩=some (.int .i64 (k0:Int))/\W'.cell? ⟨g,off+k0*13,none⟩=some (.int .i64 kk)/\Below wn.heap.size wn W')) (by kernel_rfl) (KP.out _ (Below.refl _ _).drew) (fun hHeld=>?_)
            (refine wpAnyH_take (i:=0) (v:=?vv86) rfl (by kernel_rfl) (by kernel_rfl) (by kernel_rfl) (fun _ _ _ h=>h) (Or.inl ⟨by rfl,?hy86⟩) (by assumption) ?rest86;case hy86=>(intro w hSw;(try dsimp only at hSw);go_simp;try with_reducible rfl))
            (try simp only [List.getElem_toArray,List.getElem_cons_zero,List.getElem_cons_succ,Act.put,List.setIfInBounds_toArray,List.set_cons_zero,List.set_cons_succ])
            (refine wpAnyH_take (i:=1) (v:=?vv87) rfl (by kernel_rfl) (by kernel_rfl) (by kernel_rfl) (fun _ _ _ h=>h) (Or.inl ⟨by rfl,?hy87⟩) (by assumption) ?rest87;case hy87=>(intro w hSw;(try dsimp only at hSw);go_simp;try with_reducible rfl))
            (try simp only [List.getElem_toArray,List.getElem_cons_zero,List.getElem_cons_succ,Act.put,List.setIfInBounds_toArray,List.set_cons_zero,List.set_cons_succ])
            (refine wpAnyH_take (i:=2) (v:=?vv88) rfl (by kernel_rfl) (by kernel_rfl) (by kernel_rfl) (fun _ _ _ h=>h) (Or.inl ⟨by rfl,?hy88⟩) (by assumption) ?rest88;case hy88=>(intro w hSw;(try dsimp only at hSw);go_simp;try with_reducible rfl))
            (try simp only [List.getElem_toArray,List.getElem_cons_zero,List.getElem_cons_succ,Act.put,List.setIfInBounds_toArray,List.set_cons_zero,List.set_cons_succ])
            (first|rw [k9]|rw [k9']|skip)
            (refine wpAnyH_take (i:=3) (v:=?vv89) rfl (by kernel_rfl) (by kernel_rfl) (by kernel_rfl) (fun _ _ _ h=>h) (Or.inl ⟨by rfl,?hy89⟩) (by assumption) ?rest89;case hy89=>(intro w hSw;(try dsimp only at hSw);go_simp;try with_reducible rfl))
            (try simp only [List.getElem_toArray,List.getElem_cons_zero,List.getElem_cons_succ,Act.put,List.setIfInBounds_toArray,List.set_cons_zero,List.set_cons_succ])
            first|(refine wpAnyH_take (i:=4) (v:=undef) rfl (by kernel_rfl) (by kernel_rfl) (by kernel_rfl) (fun _ _ _ h=>h) (Or.inr ⟨by rfl,rfl⟩) (by assumption) ?_)|(refine wpAnyH_take (i:=4) (v:=?vv90) rfl (by kernel_rfl) (by kernel_rfl) (by kernel_rfl) (fun _ _ _ h=>h) (Or.inl ⟨by rfl,?hy90⟩) (by assumption) ?rest90;case hy90=>(intro w hSw;(try dsimp only at hSw);go_simp;try with_reducible rfl))
            (try simp only [List.getElem_toArray,List.getElem_cons_zero,List.getElem_cons_succ,Act.put,List.setIfInBounds_toArray,List.set_cons_zero,List.set_cons_succ])
            first|(refine wpAnyH_take (i:=5) (v:=undef) rfl (by kernel_rfl) (by kernel_rfl) (by kernel_rfl) (fun _ _ _ h=>h) (Or.inr ⟨by rfl,rfl⟩) (by assumption) ?_)|(refine wpAnyH_take (i:=5) (v:=?vv91) rfl (by kernel_rfl) (by kernel_rfl) (by kernel_rfl) (fun _ _ _ h=>h) (Or.inl ⟨by rfl,?hy91⟩) (by assumption) ?rest91;case hy91=>(intro w hSw;(try dsimp only at hSw);go_simp;try with_reducible rfl))
            (try simp only [List.getElem_toArray,List.getElem_cons_zero,List.getElem_cons_succ,Act.put,List.setIfInBounds_toArray,List.set_cons_zero,List.set_cons_succ])
            first|(refine wpAnyH_take (i:=6) (v:=undef) rfl (by kernel_rfl) (by kernel_rfl) (by kernel_rfl) (fun _ _ _ h=>h) (Or.inr ⟨by rfl,rfl⟩) (by assumption) ?_)|(refine wpAnyH_take (i:=6) (v:=?vv92) rfl (by kernel_rfl) (by kernel_rfl) (by kernel_rfl) (fun _ _ _ h=>h) (Or.inl ⟨by rfl,?hy92⟩) (by assumption) ?rest92;case hy92=>(intro w hSw;(try dsimp only at hSw);go_simp;try with_reducible rfl))
            (try simp only [List.getElem_toArray,List.getElem_cons_zero,List.getElem_cons_succ,Act.put,List.setIfInBounds_toArray,List.set_cons_zero,List.set_cons_succ])
            first|(refine wpAnyH_take (i:=7) (v:=undef) rfl (by kernel_rfl) (by kernel_rfl) (by kernel_rfl) (fun _ _ _ h=>h) (Or.inr ⟨by rfl,rfl⟩) (by assumption) ?_)|(refine wpAnyH_take (i:=7) (v:=?vv93) rfl (by kernel_rfl) (by kernel_rfl) (by kernel_rfl) (fun _ _ _ h=>h) (Or.inl ⟨by rfl,?hy93⟩) (by assumption) ?rest93;case hy93=>(intro w hSw;(try dsimp only at hSw);go_simp;try with_reducible rfl))
            (try simp only [List.getElem_toArray,List.getElem_cons_zero,List.getElem_cons_succ,Act.put,List.setIfInBounds_toArray,List.set_cons_zero,List.set_cons_succ])
            (first|rw [z1]|rw [z2]|rw [z3]|skip)
            (refine wpAnyH_take (i:=8) (v:=?vv94) rfl (by kernel_rfl) (by kernel_rfl) (by kernel_rfl) (fun _ _ _ h=>h) (Or.inl ⟨by rfl,?hy94⟩) (by assumption) ?rest94;case hy94=>(intro w hSw;(try dsimp only at hSw);go_simp;try with_reducible rfl))
            (try simp only [List.getElem_toArray,List.getElem_cons_zero,List.getElem_cons_succ,Act.put,List.setIfInBounds_toArray,List.set_cons_zero,List.set_cons_succ])
            (refine wpAnyH_take (i:=9) (v:=?vv95) rfl (by kernel_rfl) (by kernel_rfl) (by kernel_rfl) (fun _ _ _ h=>h) (Or.inl ⟨by rfl,?hy95⟩) (by assumption) ?rest95;case hy95=>(intro w hSw;(try dsimp only at hSw);go_simp;try with_reducible rfl))
            (try simp only [List.getElem_toArray,List.getElem_cons_zero,List.getElem_cons_succ,Act.put,List.setIfInBounds_toArray,List.set_cons_zero,List.set_cons_succ])
            first|(refine wpAnyH_take (i:=10) (v:=undef) rfl (by kernel_rfl) (by kernel_rfl) (by kernel_rfl) (fun _ _ _ h=>h) (Or.inr ⟨by rfl,rfl⟩) (by assumption) ?_)|(refine wpAnyH_take (i:=10) (v:=?vv96) rfl (by kernel_rfl) (by kernel_rfl) (by kernel_rfl) (fun _ _ _ h=>h) (Or.inl ⟨by rfl,?hy96⟩) (by assumption) ?rest96;case hy96=>(intro w hSw;(try dsimp only at hSw);go_simp;try with_reducible rfl))
            (try simp only [List.getElem_toArray,List.getElem_cons_zero,List.getElem_cons_succ,Act.put,List.setIfInBounds_toArray,List.set_cons_zero,List.set_cons_succ])
            first|(refine wpAnyH_take (i:=11) (v:=undef) rfl (by kernel_rfl) (by kernel_rfl) (by kernel_rfl) (fun _ _ _ h=>h) (Or.inr ⟨by rfl,rfl⟩) (by assumption) ?_)|(refine wpAnyH_take (i:=11) (v:=?vv97) rfl (by kernel_rfl) (by kernel_rfl) (by kernel_rfl) (fun _ _ _ h=>h) (Or.inl ⟨by rfl,?hy97⟩) (by assumption) ?rest97;case hy97=>(intro w hSw;(try dsimp only at hSw);go_simp;try with_reducible rfl))
            (try simp only [List.getElem_toArray,List.getElem_cons_zero,List.getElem_cons_succ,Act.put,List.setIfInBounds_toArray,List.set_cons_zero,List.set_cons_succ])
            first|(refine wpAnyH_take (i:=13) (v:=undef) rfl (by kernel_rfl) (by kernel_rfl) (by kernel_rfl) (fun _ _ _ h=>h) (Or.inr ⟨by rfl,rfl⟩) (by assumption) ?_)|(refine wpAnyH_take (i:=13) (v:=?vv98) rfl (by kernel_rfl) (by kernel_rfl) (by kernel_rfl) (fun _ _ _ h=>h) (Or.inl ⟨by rfl,?hy98⟩) (by assumption) ?rest98;case hy98=>(intro w hSw;(try dsimp only at hSw);go_simp;try with_reducible rfl))
            (try simp only [List.getElem_toArray,List.getElem_cons_zero,List.getElem_cons_succ,Act.put,List.setIfInBounds_toArray,List.set_cons_zero,List.set_cons_succ])
            first
             |(refine wpAnyH_take (i:=12) (v:=undef) rfl (by kernel_rfl) (by kernel_rfl) (by kernel_rfl) (fun _ _ _ h=>h) (Or.inr ⟨by rfl,rfl⟩) (by assumption) ?_;(try simp only [List.getElem_toArray,List.getElem_cons_zero,List.getElem_cons_succ,Act.put,List.setIfInBounds_toArray,List.set_cons_zero,List.set_cons_succ]))
             |(refine wpAnyH_ready (rs:=[12]) (by kernel_rfl) (List.cons_ne_nil _ _) ?_;refine AllReadyH.cons rfl (fun K hK=>?_) AllReadyH.nil;go_simp;go_split_ands;skip;(try go_wp2_with fail);refine hK.out _ _ ?hS99 (fun hHeld2=>?rest99);(case hS99=>(exact KP.out _ (after (by assumption) hb2)));clear hK K;(try simp only [List.getElem_toArray,List.getElem_cons_zero,List.getElem_cons_succ,Act.put,List.setIfInBounds_toArray,List.set_cons_zero,List.set_cons_succ]))
            first|(refine wpAnyH_take (i:=14) (v:=undef) rfl (by kernel_rfl) (by kernel_rfl) (by kernel_rfl) (fun _ _ _ h=>h) (Or.inr ⟨by rfl,rfl⟩) (by assumption) ?_)|(refine wpAnyH_take (i:=14) (v:=?vv100) rfl (by kernel_rfl) (by kernel_rfl) (by kernel_rfl) (fun _ _ _ h=>h) (Or.inl ⟨by rfl,?hy100⟩) (by assumption) ?rest100;case hy100=>(intro w hSw;(try dsimp only at hSw);go_simp;try with_reducible rfl))
            (try simp only [List.getElem_toArray,List.getElem_cons_zero,List.getElem_cons_succ,Act.put,List.setIfInBounds_toArray,List.set_cons_zero,List.set_cons_succ])
            (first|rw [hI]|rw [hI']|skip)
            (refine wpAnyH_take (i:=15) (v:=?vv101) rfl (by kernel_rfl) (by kernel_rfl) (by kernel_rfl) (fun _ _ _ h=>h) (Or.inl ⟨by rfl,?hy101⟩) (by assumption) ?rest101;case hy101=>(intro w hSw;(try dsimp only at hSw);go_simp;try with_reducible rfl))
            (try simp only [List.getElem_toArray,List.getElem_cons_zero,List.getElem_cons_succ,Act.put,List.setIfInBounds_toArray,List.set_cons_zero,List.set_cons_succ])
            (refine wpAnyH_take (i:=16) (v:=?vv102) rfl (by kernel_rfl) (by kernel_rfl) (by kernel_rfl) (fun _ _ _ h=>h) (Or.inl ⟨by rfl,?hy102⟩) (by assumption) ?rest102;case hy102=>(intro w hSw;(try dsimp only at hSw);go_simp;try with_reducible rfl))
            (try simp only [List.getElem_toArray,List.getElem_cons_zero,List.getElem_cons_succ,Act.put,List.setIfInBounds_toArray,List.set_cons_zero,List.set_cons_succ])
            first|(refine wpAnyH_take (i:=17) (v:=undef) rfl (by kernel_rfl) (by kernel_rfl) (by kernel_rfl) (fun _ _ _ h=>h) (Or.inr ⟨by rfl,rfl⟩) (by assumption) ?_)|(refine wpAnyH_take (i:=17) (v:=?vv103) rfl (by kernel_rfl) (by kernel_rfl) (by kernel_rfl) (fun _ _ _ h=>h) (Or.inl ⟨by rfl,?hy103⟩) (by assumption) ?rest103;case hy103=>(intro w hSw;(try dsimp only at hSw);go_simp;try with_reducible rfl))
            (try simp only [List.getElem_toArray,List.getElem_cons_zero,List.getElem_cons_succ,Act.put,List.setIfInBounds_toArray,List.set_cons_zero,List.set_cons_succ])
            first|(refine wpAnyH_take (i:=18) (v:=undef) rfl (by kernel_rfl) (by kernel_rfl) (by kernel_rfl) (fun _ _ _ h=>h) (Or.inr ⟨by rfl,rfl⟩) (by assumption) ?_)|(refine wpAnyH_take (i:=18) (v:=?vv104) rfl (by kernel_rfl) (by kernel_rfl) (by kernel_rfl) (fun _ _ _ h=>h) (Or.inl ⟨by rfl,?hy104⟩) (by assumption) ?rest104;case hy104=>(intro w hSw;(try dsimp only at hSw);go_simp;try with_reducible rfl))
            (try simp only [List.getElem_toArray,List.getElem_cons_zero,List.getElem_cons_succ,Act.put,List.setIfInBounds_toArray,List.set_cons_zero,List.set_cons_succ])
            first|(refine wpAnyH_take (i:=19) (v:=undef) rfl (by kernel_rfl) (by kernel_rfl) (by kernel_rfl) (fun _ _ _ h=>h) (Or.inr ⟨by rfl,rfl⟩) (by assumption) ?_)|(refine wpAnyH_take (i:=19) (v:=?vv105) rfl (by kernel_rfl) (by kernel_rfl) (by kernel_rfl) (fun _ _ _ h=>h) (Or.inl ⟨by rfl,?hy105⟩) (by assumption) ?rest105;case hy105=>(intro w hSw;(try dsimp only at hSw);go_simp;try with_reducible rfl))
            (try simp only [List.getElem_toArray,List.getElem_cons_zero,List.getElem_cons_succ,Act.put,List.setIfInBounds_toArray,List.set_cons_zero,List.set_cons_succ])
            (first|rw [k10]|rw [k10']|skip)
            first|(refine wpAnyH_take (i:=20) (v:=undef) rfl (by kernel_rfl) (by kernel_rfl) (by kernel_rfl) (fun _ _ _ h=>h) (Or.inr ⟨by rfl,rfl⟩) (by assumption) ?_)|(refine wpAnyH_take (i:=20) (v:=?vv106) rfl (by kernel_rfl) (by kernel_rfl) (by kernel_rfl) (fun _ _ _ h=>h) (Or.inl ⟨by rfl,?hy106⟩) (by assumption) ?rest106;case hy106=>(intro w hSw;(try dsimp only at hSw);go_simp;try with_reducible rfl))
            (try simp only [List.getElem_toArray,List.getElem_cons_zero,List.getElem_cons_succ,Act.put,List.setIfInBounds_toArray,List.set_cons_zero,List.set_cons_succ])
            first|(refine wpAnyH_take (i:=21) (v:=undef) rfl (by kernel_rfl) (by kernel_rfl) (by kernel_rfl) (fun _ _ _ h=>h) (Or.inr ⟨by rfl,rfl⟩) (by assumption) ?_)|(refine wpAnyH_take (i:=21) (v:=?vv107) rfl (by kernel_rfl) (by kernel_rfl) (by kernel_rfl) (fun _ _ _ h=>h) (Or.inl ⟨by rfl,?hy107⟩) (by assumption) ?rest107;case hy107=>(intro w hSw;(try dsimp only at hSw);go_simp;try with_reducible rfl))
            (try simp only [List.getElem_toArray,List.getElem_cons_zero,List.getElem_cons_succ,Act.put,List.setIfInBounds_toArray,List.set_cons_zero,List.set_cons_succ])
            first|(refine wpAnyH_take (i:=22) (v:=undef) rfl (by kernel_rfl) (by kernel_rfl) (by kernel_rfl) (fun _ _ _ h=>h) (Or.inr ⟨by rfl,rfl⟩) (by assumption) ?_)|(refine wpAnyH_take (i:=22) (v:=?vv108) rfl (by kernel_rfl) (by kernel_rfl) (by kernel_rfl) (fun _ _ _ h=>h) (Or.inl ⟨by rfl,?hy108⟩) (by assumption) ?rest108;case hy108=>(intro w hSw;(try dsimp only at hSw);go_simp;try with_reducible rfl))
            (try simp only [List.getElem_toArray,List.getElem_cons_zero,List.getElem_cons_succ,Act.put,List.setIfInBounds_toArray,List.set_cons_zero,List.set_cons_succ])
            first|(refine wpAnyH_take (i:=23) (v:=undef) rfl (by kernel_rfl) (by kernel_rfl) (by kernel_rfl) (fun _ _ _ h=>h) (Or.inr ⟨by rfl,rfl⟩) (by assumption) ?_)|(refine wpAnyH_take (i:=23) (v:=?vv109) rfl (by kernel_rfl) (by kernel_rfl) (by kernel_rfl) (fun _ _ _ h=>h) (Or.inl ⟨by rfl,?hy109⟩) (by assumption) ?rest109;case hy109=>(intro w hSw;(try dsimp only at hSw);go_simp;try with_reducible rfl))
            (try simp only [List.getElem_toArray,List.getElem_cons_zero,List.getElem_cons_succ,Act.put,List.setIfInBounds_toArray,List.set_cons_zero,List.set_cons_succ])
            first|(refine wpAnyH_take (i:=24) (v:=undef) rfl (by kernel_rfl) (by kernel_rfl) (by kernel_rfl) (fun _ _ _ h=>h) (Or.inr ⟨by rfl,rfl⟩) (by assumption) ?_)|(refine wpAnyH_take (i:=24) (v:=?vv110) rfl (by kernel_rfl) (by kernel_rfl) (by kernel_rfl) (fun _ _ _ h=>h) (Or.inl ⟨by rfl,?hy110⟩) (by assumption) ?rest110;case hy110=>(intro w hSw;(try dsimp only at hSw);go_simp;try with_reducible rfl))
            (try simp only [List.getElem_toArray,List.getElem_cons_zero,List.getElem_cons_succ,Act.put,List.setIfInBounds_toArray,List.set_cons_zero,List.set_cons_succ])
            first|(refine wpAnyH_take (i:=25) (v:=undef) rfl (by kernel_rfl) (by kernel_rfl) (by kernel_rfl) (fun _ _ _ h=>h) (Or.inr ⟨by rfl,rfl⟩) (by assumption) ?_)|(refine wpAnyH_take (i:=25) (v:=?vv111) rfl (by kernel_rfl) (by kernel_rfl) (by kernel_rfl) (fun _ _ _ h=>h) (Or.inl ⟨by rfl,?hy111⟩) (by assumption) ?rest111;case hy111=>(intro w hSw;(try dsimp only at hSw);go_simp;try with_reducible rfl))
            (try simp only [List.getElem_toArray,List.getElem_cons_zero,List.getElem_cons_succ,Act.put,List.setIfInBounds_toArray,List.set_cons_zero,List.set_cons_succ])
            first|(refine wpAnyH_take (i:=26) (v:=undef) rfl (by kernel_rfl) (by kernel_rfl) (by kernel_rfl) (fun _ _ _ h=>h) (Or.inr ⟨by rfl,rfl⟩) (by assumption) ?_)|(refine wpAnyH_take (i:=26) (v:=?vv112) rfl (by kernel_rfl) (by kernel_rfl) (by kernel_rfl) (fun _ _ _ h=>h) (Or.inl ⟨by rfl,?hy112⟩) (by assumption) ?rest112;case hy112=>(intro w hSw;(try dsimp only at hSw);go_simp;try with_reducible rfl))
            (try simp only [List.getElem_toArray,List.getElem_cons_zero,List.getElem_cons_succ,Act.put,List.setIfInBounds_toArray,List.set_cons_zero,List.set_cons_succ])
            first|(refine wpAnyH_take (i:=27) (v:=undef) rfl (by kernel_rfl) (by kernel_rfl) (by kernel_rfl) (fun _ _ _ h=>h) (Or.inr ⟨by rfl,rfl⟩) (by assumption) ?_)|(refine wpAnyH_take (i:=27) (v:=?vv113) rfl (by kernel_rfl) (by kernel_rfl) (by kernel_rfl) (fun _ _ _ h=>h) (Or.inl ⟨by rfl,?hy113⟩) (by assumption) ?rest113;case hy113=>(intro w hSw;(try dsimp only at hSw);go_simp;try with_reducible rfl))
            (try simp only [List.getElem_toArray,List.getElem_cons_zero,List.getElem_cons_succ,Act.put,List.setIfInBounds_toArray,List.set_cons_zero,List.set_cons_succ])
            first|(refine wpAnyH_take (i:=28) (v:=undef) rfl (by kernel_rfl) (by kernel_rfl) (by kernel_rfl) (fun _ _ _ h=>h) (Or.inr ⟨by rfl,rfl⟩) (by assumption) ?_)|(refine wpAnyH_take (i:=28) (v:=?vv114) rfl (by kernel_rfl) (by kernel_rfl) (by kernel_rfl) (fun _ _ _ h=>h) (Or.inl ⟨by rfl,?hy114⟩) (by assumption) ?rest114;case hy114=>(intro w hSw;(try dsimp only at hSw);go_simp;try with_reducible rfl))
            (try simp only [List.getElem_toArray,List.getElem_cons_zero,List.getElem_cons_succ,Act.put,List.setIfInBounds_toArray,List.set_cons_zero,List.set_cons_succ])
            first|(refine wpAnyH_take (i:=29) (v:=undef) rfl (by kernel_rfl) (by kernel_rfl) (by kernel_rfl) (fun _ _ _ h=>h) (Or.inr ⟨by rfl,rfl⟩) (by assumption) ?_)|(refine wpAnyH_take (i:=29) (v:=?vv115) rfl (by kernel_rfl) (by kernel_rfl) (by kernel_rfl) (fun _ _ _ h=>h) (Or.inl ⟨by rfl,?hy115⟩) (by assumption) ?rest115;case hy115=>(intro w hSw;(try dsimp only at hSw);go_simp;try with_reducible rfl))
            (try simp only [List.getElem_toArray,List.getElem_cons_zero,List.getElem_cons_succ,Act.put,List.setIfInBounds_toArray,List.set_cons_zero,List.set_cons_succ])
            first|(refine wpAnyH_take (i:=30) (v:=undef) rfl (by kernel_rfl) (by kernel_rfl) (by kernel_rfl) (fun _ _ _ h=>h) (Or.inr ⟨by rfl,rfl⟩) (by assumption) ?_)|(refine wpAnyH_take (i:=30) (v:=?vv116) rfl (by kernel_rfl) (by kernel_rfl) (by kernel_rfl) (fun _ _ _ h=>h) (Or.inl ⟨by rfl,?hy116⟩) (by assumption) ?rest116;case hy116=>(intro w hSw;(try dsimp only at hSw);go_simp;try with_reducible rfl))
            (try simp only [List.getElem_toArray,List.getElem_cons_zero,List.getElem_cons_succ,Act.put,List.setIfInBounds_toArray,List.set_cons_zero,List.set_cons_succ])
            (first|rw [q25]|rw [q25']|skip)
            first|(refine wpAnyH_take (i:=31) (v:=undef) rfl (by kernel_rfl) (by kernel_rfl) (by kernel_rfl) (fun _ _ _ h=>h) (Or.inr ⟨by rfl,rfl⟩) (by assumption) ?_)|(refine wpAnyH_take (i:=31) (v:=?vv117) rfl (by kernel_rfl) (by kernel_rfl) (by kernel_rfl) (fun _ _ _ h=>h) (Or.inl ⟨by rfl,?hy117⟩) (by assumption) ?rest117;case hy117=>(intro w hSw;(try dsimp only at hSw);go_simp;try with_reducible rfl))
            (try simp only [List.getElem_toArray,List.getElem_cons_zero,List.getElem_cons_succ,Act.put,List.setIfInBounds_toArray,List.set_cons_zero,List.set_cons_succ])
            first|(refine wpAnyH_take (i:=32) (v:=undef) rfl (by kernel_rfl) (by kernel_rfl) (by kernel_rfl) (fun _ _ _ h=>h) (Or.inr ⟨by rfl,rfl⟩) (by assumption) ?_)|(refine wpAnyH_take (i:=32) (v:=?vv118) rfl (by kernel_rfl) (by kernel_rfl) (by kernel_rfl) (fun _ _ _ h=>h) (Or.inl ⟨by rfl,?hy118⟩) (by assumption) ?rest118;case hy118=>(intro w hSw;(try dsimp only at hSw);go_simp;try with_reducible rfl))
            (try simp only [List.getElem_toArray,List.getElem_cons_zero,List.getElem_cons_succ,Act.put,List.setIfInBounds_toArray,List.set_cons_zero,List.set_cons_succ])
            first|(refine wpAnyH_take (i:=33) (v:=undef) rfl (by kernel_rfl) (by kernel_rfl) (by kernel_rfl) (fun _ _ _ h=>h) (Or.inr ⟨by rfl,rfl⟩) (by assumption) ?_)|(refine wpAnyH_take (i:=33) (v:=?vv119) rfl (by kernel_rfl) (by kernel_rfl) (by kernel_rfl) (fun _ _ _ h=>h) (Or.inl ⟨by rfl,?hy119⟩) (by assumption) ?rest119;case hy119=>(intro w hSw;(try dsimp only at hSw);go_simp;try with_reducible rfl))
            (try simp only [List.getElem_toArray,List.getElem_cons_zero,List.getElem_cons_succ,Act.put,List.setIfInBounds_toArray,List.set_cons_zero,List.set_cons_succ])
            first|(refine wpAnyH_take (i:=34) (v:=undef) rfl (by kernel_rfl) (by kernel_rfl) (by kernel_rfl) (fun _ _ _ h=>h) (Or.inr ⟨by rfl,rfl⟩) (by assumption) ?_)|(refine wpAnyH_take (i:=34) (v:=?vv120) rfl (by kernel_rfl) (by kernel_rfl) (by kernel_rfl) (fun _ _ _ h=>h) (Or.inl ⟨by rfl,?hy120⟩) (by assumption) ?rest120;case hy120=>(intro w hSw;(try dsimp only at hSw);go_simp;try with_reducible rfl))
            (try simp only [List.getElem_toArray,List.getElem_cons_zero,List.getElem_cons_succ,Act.put,List.setIfInBounds_toArray,List.set_cons_zero,List.set_cons_succ])
            first|(refine wpAnyH_take (i:=35) (v:=undef) rfl (by kernel_rfl) (by kernel_rfl) (by kernel_rfl) (fun _ _ _ h=>h) (Or.inr ⟨by rfl,rfl⟩) (by assumption) ?_)|(refine wpAnyH_take (i:=35) (v:=?vv121) rfl (by kernel_rfl) (by kernel_rfl) (by kernel_rfl) (fun _ _ _ h=>h) (Or.inl ⟨by rfl,?hy121⟩) (by assumption) ?rest121;case hy121=>(intro w hSw;(try dsimp only at hSw);go_simp;try with_reducible rfl))
            (try simp only [List.getElem_toArray,List.getElem_cons_zero,List.getElem_cons_succ,Act.put,List.setIfInBounds_toArray,List.set_cons_zero,List.set_cons_succ])
            first|(refine wpAnyH_take (i:=36) (v:=undef) rfl (by kernel_rfl) (by kernel_rfl) (by kernel_rfl) (fun _ _ _ h=>h) (Or.inr ⟨by rfl,rfl⟩) (by assumption) ?_)|(refine wpAnyH_take (i:=36) (v:=?vv122) rfl (by kernel_rfl) (by kernel_rfl) (by kernel_rfl) (fun _ _ _ h=>h) (Or.inl ⟨by rfl,?hy122⟩) (by assumption) ?rest122;case hy122=>(intro w hSw;(try dsimp only at hSw);go_simp;try with_reducible rfl))
            (try simp only [List.getElem_toArray,List.getElem_cons_zero,List.getElem_cons_succ,Act.put,List.setIfInBounds_toArray,List.set_cons_zero,List.set_cons_succ])
            first|(refine wpAnyH_take (i:=37) (v:=undef) rfl (by kernel_rfl) (by kernel_rfl) (by kernel_rfl) (fun _ _ _ h=>h) (Or.inr ⟨by rfl,rfl⟩) (by assumption) ?_)|(refine wpAnyH_take (i:=37) (v:=?vv123) rfl (by kernel_rfl) (by kernel_rfl) (by kernel_rfl) (fun _ _ _ h=>h) (Or.inl ⟨by rfl,?hy123⟩) (by assumption) ?rest123;case hy123=>(intro w hSw;(try dsimp only at hSw);go_simp;try with_reducible rfl))
            (try simp only [List.getElem_toArray,List.getElem_cons_zero,List.getElem_cons_succ,Act.put,List.setIfInBounds_toArray,List.set_cons_zero,List.set_cons_succ])
            first|(refine wpAnyH_take (i:=39) (v:=undef) rfl (by kernel_rfl) (by kernel_rfl) (by kernel_rfl) (fun _ _ _ h=>h) (Or.inr ⟨by rfl,rfl⟩) (by assumption) ?_)|(refine wpAnyH_take (i:=39) (v:=?vv124) rfl (by kernel_rfl) (by kernel_rfl) (by kernel_rfl) (fun _ _ _ h=>h) (Or.inl ⟨by rfl,?hy124⟩) (by assumption) ?rest124;case hy124=>(intro w hSw;(try dsimp only at hSw);go_simp;try with_reducible rfl))
            (try simp only [List.getElem_toArray,List.getElem_cons_zero,List.getElem_cons_succ,Act.put,List.setIfInBounds_toArray,List.set_cons_zero,List.set_cons_succ])
            first
             |(refine wpAnyH_take (i:=38) (v:=undef) rfl (by kernel_rfl) (by kernel_rfl) (by kernel_rfl) (fun _ _ _ h=>h) (Or.inr ⟨by rfl,rfl⟩) (by assumption) ?_;(try simp only [List.getElem_toArray,List.getElem_cons_zero,List.getElem_cons_succ,Act.put,List.setIfInBounds_toArray,List.set_cons_zero,List.set_cons_succ]))
             |(refine wpAnyH_ready (rs:=[38]) (by kernel_rfl) (List.cons_ne_nil _ _) ?_;refine AllReadyH.cons rfl (fun K hK=>?_) AllReadyH.nil;go_simp;go_split_ands;refine (HSQ.out _ (by assumption)).mono ?_;rintro e wz ⟨rfl,hb2⟩;(try go_wp2_with fail);refine hK.out _ _ ?hS125 (fun hHeld2=>?rest125);(case hS125=>(exact KP.out _ (after (by assumption) hb2)));clear hK K;(try simp only [List.getElem_toArray,List.getElem_cons_zero,List.getElem_cons_succ,Act.put,List.setIfInBounds_toArray,List.set_cons_zero,List.set_cons_succ]))
            first|(refine wpAnyH_take (i:=40) (v:=undef) rfl (by kernel_rfl) (by kernel_rfl) (by kernel_rfl) (fun _ _ _ h=>h) (Or.inr ⟨by rfl,rfl⟩) (by assumption) ?_)|(refine wpAnyH_take (i:=40) (v:=?vv126) rfl (by kernel_rfl) (by kernel_rfl) (by kernel_rfl) (fun _ _ _ h=>h) (Or.inl ⟨by rfl,?hy126⟩) (by assumption) ?rest126;case hy126=>(intro w hSw;(try dsimp only at hSw);go_simp;try with_reducible rfl))
            (try simp only [List.getElem_toArray,List.getElem_cons_zero,List.getElem_cons_succ,Act.put,List.setIfInBounds_toArray,List.set_cons_zero,List.set_cons_succ])
            (first|rw [hI2]|rw [hI3]|skip)
            first|(refine wpAnyH_take (i:=41) (v:=undef) rfl (by kernel_rfl) (by kernel_rfl) (by kernel_rfl) (fun _ _ _ h=>h) (Or.inr ⟨by rfl,rfl⟩) (by assumption) ?_)|(refine wpAnyH_take (i:=41) (v:=?vv127) rfl (by kernel_rfl) (by kernel_rfl) (by kernel_rfl) (fun _ _ _ h=>h) (Or.inl ⟨by rfl,?hy127⟩) (by assumption) ?rest127;case hy127=>(intro w hSw;(try dsimp only at hSw);go_simp;try with_reducible rfl))
            (try simp only [List.getElem_toArray,List.getElem_cons_zero,List.getElem_cons_succ,Act.put,List.setIfInBounds_toArray,List.set_cons_zero,List.set_cons_succ])
            (refine wpAnyH_take (i:=42) (v:=?vv128) rfl (by kernel_rfl) (by kernel_rfl) (by kernel_rfl) (fun _ _ _ h=>h) (Or.inl ⟨by rfl,?hy128⟩) (by assumption) ?rest128;case hy128=>(intro w hSw;(try dsimp only at hSw);go_simp;try with_reducible rfl))
            (try simp only [List.getElem_toArray,List.getElem_cons_zero,List.getElem_cons_succ,Act.put,List.setIfInBounds_toArray,List.set_cons_zero,List.set_cons_succ])
            refine wpAnyH_done (by kernel_rfl) ?_ _
            have hBF:=hHeld2.2.2.2.2.2
            have cv:=keep (after BW.out hBF) hvb cv
            have hvb:=Nat.lt_of_lt_of_le hvb (after BW.out hBF).size
            have B9:=Lib.hid (after BR.out (after BW.out hBF))
            clear hHeld2 hBF
            go_wp2_with fail
            go_roundg gk
            case measure=>omega
            case rel=>exact ⟨j+1,by go_num,by omega,by rw [HUN.out],by rw [HSN.out];go_num,by first|exact B9.out|exact ⟨B9.out.os,B9.out.tape,B9.out.output,B9.out.size,B9.out.block⟩⟩
           ·have HSN:Hid ((forS (j+1) s.ss sl).length=b):=Lib.hid (HB0.out (fun h=>by
             rcases HSI.out.2 h with ⟨q,-⟩|⟨-,-,q⟩
             ·rw [HKJ.out] at q;exact h9 q
             ·rw [HH.out] at q;exact hit q))
            rw [decide_eq_false hit] at hI2
            have hI3:decide (p2=(sl:Int))=false:=by rw [<- hI2];rfl
            clear h9 h10 h25 hit c25 hkn
            go_upto_region 19 with fail
            have YN:Hid (BoxN (wr.alloc (.cells #[.int .i64 y.kind,.int .i64 y.sf,.int .i64 y.st,.slice (some ⟨kb,koff,none⟩) y.kids.length kc,.string y.text,.int .i64 y.B,.string y.N,.int .i64 y.D,.string y.M,.int .i64 y.num,.int .i64 y.wf,.int .i64 y.wt,.slice es y.ends.length ec] 61)) wr.heap.size (Array.toList #[.int .i64 y.kind,.int .i64 y.sf,.int .i64 y.st,.slice (some ⟨kb,koff,none⟩) y.kids.length kc,.string y.text,.int .i64 y.B,.string y.N,.int .i64 y.D,.string y.M,.int .i64 y.num,.int .i64 y.wf,.int .i64 y.wt,.slice es y.ends.length ec])):=Lib.hid (BoxN.new wr #[.int .i64 y.kind,.int .i64 y.sf,.int .i64 y.st,.slice (some ⟨kb,koff,none⟩) y.kids.length kc,.string y.text,.int .i64 y.B,.string y.N,.int .i64 y.D,.string y.M,.int .i64 y.num,.int .i64 y.wf,.int .i64 y.wt,.slice es y.ends.length ec])
            have BW:Hid (Below wr.heap.size wr (wr.alloc (.cells #[.int .i64 y.kind,.int .i64 y.sf,.int .i64 y.st,.slice (some ⟨kb,koff,none⟩) y.kids.length kc,.string y.text,.int .i64 y.B,.string y.N,.int .i64 y.D,.string y.M,.int .i64 y.num,.int .i64 y.wf,.int .i64 y.wt,.slice es y.ends.length ec] 61))):=Lib.hid ((Below.refl _ _).alloc (Nat.le_refl _) _)
            generalize wr.alloc (.cells #[.int .i64 y.kind,.int .i64 y.sf,.int .i64 y.st,.slice (some ⟨kb,koff,none⟩) y.kids.length kc,.string y.text,.int .i64 y.B,.string y.N,.int .i64 y.D,.string y.M,.int .i64 y.num,.int .i64 y.wf,.int .i64 y.wt,.slice es y.ends.length ec] 61)=wn at *
            obtain ⟨nb,hnb⟩:∃ nb,nb=wr.heap.size:=⟨_,rfl⟩
            rw [<- hnb] at YN ⊢
            clear hnb d0 d1 d2 d3 d4 d5 d6 d7 d8 d9 d10 d11 d12
            have KP:Hid (∀ W',Below wn.heap.size wn W'->W'.cell? ⟨nb,0,none⟩=some (.int .i64 y.kind)/\W'.cell? ⟨nb,3,none⟩=some (.slice (some ⟨kb,koff,none⟩) y.kids.length kc)/\W'.cell? ⟨w2.heap.size,0,none⟩=some (.slice (some ⟨g,off,none⟩) n c1)/\W'.cell? ⟨kb,koff,none⟩=some (.int .i64 (k0:Int))/\W'.cell? ⟨g,off+k0*13,none⟩=some (.int .i64 kk)/\Below wn.heap.size wn W'):=Lib.hid (fun W' h=>⟨(YN.out.keep h).cell 0,(YN.out.keep h).cell 3,keep (after BW.out h) tl t0,keep (after BW.out h) hkb ck,keep (after BW.out h) hg cn,h⟩)
            have HSQ:=Lib.hid (fun (W:World) (hb:Below wn.heap.size wn W)=>HSK2.out W (after BW.out hb))
            have y0:=YN.out.cell 0
            have y3:=YN.out.cell 3
            have yl:=YN.out.lt
            clear YN HSK2 t0 ck cn
            go_upto_region 23 with fail
            refine wp_region_held_drew (S:=(fun W':World=>W'.cell? ⟨nb,0,none⟩=some (.int .i64 y.kind)/\W'.cell? ⟨nb,3,none⟩=some (.slice (some ⟨kb,koff,none⟩) y.kids.length kc)/\W'.cell? ⟨w2.heap.size,0,none⟩=some (.slice (some ⟨g,off,none⟩) n c1)/\W'.cell? ⟨kb,koff,none⟩=some (.int .i64 (k0:Int))/\W'.cell? ⟨g,off+k0*13,none⟩=some (.int .i64 kk)/\Below wn.heap.size wn W')) (by kernel_rfl) (KP.out _ (Below.refl _ _).drew) (fun hHeld=>?_)
            (refine wpAnyH_take (i:=0) (v:=?vv129) rfl (by kernel_rfl) (by kernel_rfl) (by kernel_rfl) (fun _ _ _ h=>h) (Or.inl ⟨by rfl,?hy129⟩) (by assumption) ?rest129;case hy129=>(intro w hSw;(try dsimp only at hSw);go_simp;try with_reducible rfl))
            (try simp only [List.getElem_toArray,List.getElem_cons_zero,List.getElem_cons_succ,Act.put,List.setIfInBounds_toArray,List.set_cons_zero,List.set_cons_succ])
            (refine wpAnyH_take (i:=1) (v:=?vv130) rfl (by kernel_rfl) (by kernel_rfl) (by kernel_rfl) (fun _ _ _ h=>h) (Or.inl ⟨by rfl,?hy130⟩) (by assumption) ?rest130;case hy130=>(intro w hSw;(try dsimp only at hSw);go_simp;try with_reducible rfl))
            (try simp only [List.getElem_toArray,List.getElem_cons_zero,List.getElem_cons_succ,Act.put,List.setIfInBounds_toArray,List.set_cons_zero,List.set_cons_succ])
            (refine wpAnyH_take (i:=2) (v:=?vv131) rfl (by kernel_rfl) (by kernel_rfl) (by kernel_rfl) (fun _ _ _ h=>h) (Or.inl ⟨by rfl,?hy131⟩) (by assumption) ?rest131;case hy131=>(intro w hSw;(try dsimp only at hSw);go_simp;try with_reducible rfl))
            (try simp only [List.getElem_toArray,List.getElem_cons_zero,List.getElem_cons_succ,Act.put,List.setIfInBounds_toArray,List.set_cons_zero,List.set_cons_succ])
            (first|rw [k9]|rw [k9']|skip)
            (refine wpAnyH_take (i:=3) (v:=?vv132) rfl (by kernel_rfl) (by kernel_rfl) (by kernel_rfl) (fun _ _ _ h=>h) (Or.inl ⟨by rfl,?hy132⟩) (by assumption) ?rest132;case hy132=>(intro w hSw;(try dsimp only at hSw);go_simp;try with_reducible rfl))
            (try simp only [List.getElem_toArray,List.getElem_cons_zero,List.getElem_cons_succ,Act.put,List.setIfInBounds_toArray,List.set_cons_zero,List.set_cons_succ])
            first|(refine wpAnyH_take (i:=4) (v:=undef) rfl (by kernel_rfl) (by kernel_rfl) (by kernel_rfl) (fun _ _ _ h=>h) (Or.inr ⟨by rfl,rfl⟩) (by assumption) ?_)|(refine wpAnyH_take (i:=4) (v:=?vv133) rfl (by kernel_rfl) (by kernel_rfl) (by kernel_rfl) (fun _ _ _ h=>h) (Or.inl ⟨by rfl,?hy133⟩) (by assumption) ?rest133;case hy133=>(intro w hSw;(try dsimp only at hSw);go_simp;try with_reducible rfl))
            (try simp only [List.getElem_toArray,List.getElem_cons_zero,List.getElem_cons_succ,Act.put,List.setIfInBounds_toArray,List.set_cons_zero,List.set_cons_succ])
            first|(refine wpAnyH_take (i:=5) (v:=undef) rfl (by kernel_rfl) (by kernel_rfl) (by kernel_rfl) (fun _ _ _ h=>h) (Or.inr ⟨by rfl,rfl⟩) (by assumption) ?_)|(refine wpAnyH_take (i:=5) (v:=?vv134) rfl (by kernel_rfl) (by kernel_rfl) (by kernel_rfl) (fun _ _ _ h=>h) (Or.inl ⟨by rfl,?hy134⟩) (by assumption) ?rest134;case hy134=>(intro w hSw;(try dsimp only at hSw);go_simp;try with_reducible rfl))
            (try simp only [List.getElem_toArray,List.getElem_cons_zero,List.getElem_cons_succ,Act.put,List.setIfInBounds_toArray,List.set_cons_zero,List.set_cons_succ])
            first|(refine wpAnyH_take (i:=6) (v:=undef) rfl (by kernel_rfl) (by kernel_rfl) (by kernel_rfl) (fun _ _ _ h=>h) (Or.inr ⟨by rfl,rfl⟩) (by assumption) ?_)|(refine wpAnyH_take (i:=6) (v:=?vv135) rfl (by kernel_rfl) (by kernel_rfl) (by kernel_rfl) (fun _ _ _ h=>h) (Or.inl ⟨by rfl,?hy135⟩) (by assumption) ?rest135;case hy135=>(intro w hSw;(try dsimp only at hSw);go_simp;try with_reducible rfl))
            (try simp only [List.getElem_toArray,List.getElem_cons_zero,List.getElem_cons_succ,Act.put,List.setIfInBounds_toArray,List.set_cons_zero,List.set_cons_succ])
            first|(refine wpAnyH_take (i:=7) (v:=undef) rfl (by kernel_rfl) (by kernel_rfl) (by kernel_rfl) (fun _ _ _ h=>h) (Or.inr ⟨by rfl,rfl⟩) (by assumption) ?_)|(refine wpAnyH_take (i:=7) (v:=?vv136) rfl (by kernel_rfl) (by kernel_rfl) (by kernel_rfl) (fun _ _ _ h=>h) (Or.inl ⟨by rfl,?hy136⟩) (by assumption) ?rest136;case hy136=>(intro w hSw;(try dsimp only at hSw);go_simp;try with_reducible rfl))
            (try simp only [List.getElem_toArray,List.getElem_cons_zero,List.getElem_cons_succ,Act.put,List.setIfInBounds_toArray,List.set_cons_zero,List.set_cons_succ])
            (first|rw [z1]|rw [z2]|rw [z3]|skip)
            (refine wpAnyH_take (i:=8) (v:=?vv137) rfl (by kernel_rfl) (by kernel_rfl) (by kernel_rfl) (fun _ _ _ h=>h) (Or.inl ⟨by rfl,?hy137⟩) (by assumption) ?rest137;case hy137=>(intro w hSw;(try dsimp only at hSw);go_simp;try with_reducible rfl))
            (try simp only [List.getElem_toArray,List.getElem_cons_zero,List.getElem_cons_succ,Act.put,List.setIfInBounds_toArray,List.set_cons_zero,List.set_cons_succ])
            (refine wpAnyH_take (i:=9) (v:=?vv138) rfl (by kernel_rfl) (by kernel_rfl) (by kernel_rfl) (fun _ _ _ h=>h) (Or.inl ⟨by rfl,?hy138⟩) (by assumption) ?rest138;case hy138=>(intro w hSw;(try dsimp only at hSw);go_simp;try with_reducible rfl))
            (try simp only [List.getElem_toArray,List.getElem_cons_zero,List.getElem_cons_succ,Act.put,List.setIfInBounds_toArray,List.set_cons_zero,List.set_cons_succ])
            first|(refine wpAnyH_take (i:=10) (v:=undef) rfl (by kernel_rfl) (by kernel_rfl) (by kernel_rfl) (fun _ _ _ h=>h) (Or.inr ⟨by rfl,rfl⟩) (by assumption) ?_)|(refine wpAnyH_take (i:=10) (v:=?vv139) rfl (by kernel_rfl) (by kernel_rfl) (by kernel_rfl) (fun _ _ _ h=>h) (Or.inl ⟨by rfl,?hy139⟩) (by assumption) ?rest139;case hy139=>(intro w hSw;(try dsimp only at hSw);go_simp;try with_reducible rfl))
            (try simp only [List.getElem_toArray,List.getElem_cons_zero,List.getElem_cons_succ,Act.put,List.setIfInBounds_toArray,List.set_cons_zero,List.set_cons_succ])
            first|(refine wpAnyH_take (i:=11) (v:=undef) rfl (by kernel_rfl) (by kernel_rfl) (by kernel_rfl) (fun _ _ _ h=>h) (Or.inr ⟨by rfl,rfl⟩) (by assumption) ?_)|(refine wpAnyH_take (i:=11) (v:=?vv140) rfl (by kernel_rfl) (by kernel_rfl) (by kernel_rfl) (fun _ _ _ h=>h) (Or.inl ⟨by rfl,?hy140⟩) (by assumption) ?rest140;case hy140=>(intro w hSw;(try dsimp only at hSw);go_simp;try with_reducible rfl))
            (try simp only [List.getElem_toArray,List.getElem_cons_zero,List.getElem_cons_succ,Act.put,List.setIfInBounds_toArray,List.set_cons_zero,List.set_cons_succ])
            first|(refine wpAnyH_take (i:=13) (v:=undef) rfl (by kernel_rfl) (by kernel_rfl) (by kernel_rfl) (fun _ _ _ h=>h) (Or.inr ⟨by rfl,rfl⟩) (by assumption) ?_)|(refine wpAnyH_take (i:=13) (v:=?vv141) rfl (by kernel_rfl) (by kernel_rfl) (by kernel_rfl) (fun _ _ _ h=>h) (Or.inl ⟨by rfl,?hy141⟩) (by assumption) ?rest141;case hy141=>(intro w hSw;(try dsimp only at hSw);go_simp;try with_reducible rfl))
            (try simp only [List.getElem_toArray,List.getElem_cons_zero,List.getElem_cons_succ,Act.put,List.setIfInBounds_toArray,List.set_cons_zero,List.set_cons_succ])
            first
             |(refine wpAnyH_take (i:=12) (v:=undef) rfl (by kernel_rfl) (by kernel_rfl) (by kernel_rfl) (fun _ _ _ h=>h) (Or.inr ⟨by rfl,rfl⟩) (by assumption) ?_;(try simp only [List.getElem_toArray,List.getElem_cons_zero,List.getElem_cons_succ,Act.put,List.setIfInBounds_toArray,List.set_cons_zero,List.set_cons_succ]))
             |(refine wpAnyH_ready (rs:=[12]) (by kernel_rfl) (List.cons_ne_nil _ _) ?_;refine AllReadyH.cons rfl (fun K hK=>?_) AllReadyH.nil;go_simp;go_split_ands;skip;(try go_wp2_with fail);refine hK.out _ _ ?hS142 (fun hHeld2=>?rest142);(case hS142=>(exact KP.out _ (after (by assumption) hb2)));clear hK K;(try simp only [List.getElem_toArray,List.getElem_cons_zero,List.getElem_cons_succ,Act.put,List.setIfInBounds_toArray,List.set_cons_zero,List.set_cons_succ]))
            first|(refine wpAnyH_take (i:=14) (v:=undef) rfl (by kernel_rfl) (by kernel_rfl) (by kernel_rfl) (fun _ _ _ h=>h) (Or.inr ⟨by rfl,rfl⟩) (by assumption) ?_)|(refine wpAnyH_take (i:=14) (v:=?vv143) rfl (by kernel_rfl) (by kernel_rfl) (by kernel_rfl) (fun _ _ _ h=>h) (Or.inl ⟨by rfl,?hy143⟩) (by assumption) ?rest143;case hy143=>(intro w hSw;(try dsimp only at hSw);go_simp;try with_reducible rfl))
            (try simp only [List.getElem_toArray,List.getElem_cons_zero,List.getElem_cons_succ,Act.put,List.setIfInBounds_toArray,List.set_cons_zero,List.set_cons_succ])
            (first|rw [hI]|rw [hI']|skip)
            (refine wpAnyH_take (i:=15) (v:=?vv144) rfl (by kernel_rfl) (by kernel_rfl) (by kernel_rfl) (fun _ _ _ h=>h) (Or.inl ⟨by rfl,?hy144⟩) (by assumption) ?rest144;case hy144=>(intro w hSw;(try dsimp only at hSw);go_simp;try with_reducible rfl))
            (try simp only [List.getElem_toArray,List.getElem_cons_zero,List.getElem_cons_succ,Act.put,List.setIfInBounds_toArray,List.set_cons_zero,List.set_cons_succ])
            (refine wpAnyH_take (i:=16) (v:=?vv145) rfl (by kernel_rfl) (by kernel_rfl) (by kernel_rfl) (fun _ _ _ h=>h) (Or.inl ⟨by rfl,?hy145⟩) (by assumption) ?rest145;case hy145=>(intro w hSw;(try dsimp only at hSw);go_simp;try with_reducible rfl))
            (try simp only [List.getElem_toArray,List.getElem_cons_zero,List.getElem_cons_succ,Act.put,List.setIfInBounds_toArray,List.set_cons_zero,List.set_cons_succ])
            first|(refine wpAnyH_take (i:=17) (v:=undef) rfl (by kernel_rfl) (by kernel_rfl) (by kernel_rfl) (fun _ _ _ h=>h) (Or.inr ⟨by rfl,rfl⟩) (by assumption) ?_)|(refine wpAnyH_take (i:=17) (v:=?vv146) rfl (by kernel_rfl) (by kernel_rfl) (by kernel_rfl) (fun _ _ _ h=>h) (Or.inl ⟨by rfl,?hy146⟩) (by assumption) ?rest146;case hy146=>(intro w hSw;(try dsimp only at hSw);go_simp;try with_reducible rfl))
            (try simp only [List.getElem_toArray,List.getElem_cons_zero,List.getElem_cons_succ,Act.put,List.setIfInBounds_toArray,List.set_cons_zero,List.set_cons_succ])
            first|(refine wpAnyH_take (i:=18) (v:=undef) rfl (by kernel_rfl) (by kernel_rfl) (by kernel_rfl) (fun _ _ _ h=>h) (Or.inr ⟨by rfl,rfl⟩) (by assumption) ?_)|(refine wpAnyH_take (i:=18) (v:=?vv147) rfl (by kernel_rfl) (by kernel_rfl) (by kernel_rfl) (fun _ _ _ h=>h) (Or.inl ⟨by rfl,?hy147⟩) (by assumption) ?rest147;case hy147=>(intro w hSw;(try dsimp only at hSw);go_simp;try with_reducible rfl))
            (try simp only [List.getElem_toArray,List.getElem_cons_zero,List.getElem_cons_succ,Act.put,List.setIfInBounds_toArray,List.set_cons_zero,List.set_cons_succ])
            first|(refine wpAnyH_take (i:=19) (v:=undef) rfl (by kernel_rfl) (by kernel_rfl) (by kernel_rfl) (fun _ _ _ h=>h) (Or.inr ⟨by rfl,rfl⟩) (by assumption) ?_)|(refine wpAnyH_take (i:=19) (v:=?vv148) rfl (by kernel_rfl) (by kernel_rfl) (by kernel_rfl) (fun _ _ _ h=>h) (Or.inl ⟨by rfl,?hy148⟩) (by assumption) ?rest148;case hy148=>(intro w hSw;(try dsimp only at hSw);go_simp;try with_reducible rfl))
            (try simp only [List.getElem_toArray,List.getElem_cons_zero,List.getElem_cons_succ,Act.put,List.setIfInBounds_toArray,List.set_cons_zero,List.set_cons_succ])
            (first|rw [k10]|rw [k10']|skip)
            first|(refine wpAnyH_take (i:=20) (v:=undef) rfl (by kernel_rfl) (by kernel_rfl) (by kernel_rfl) (fun _ _ _ h=>h) (Or.inr ⟨by rfl,rfl⟩) (by assumption) ?_)|(refine wpAnyH_take (i:=20) (v:=?vv149) rfl (by kernel_rfl) (by kernel_rfl) (by kernel_rfl) (fun _ _ _ h=>h) (Or.inl ⟨by rfl,?hy149⟩) (by assumption) ?rest149;case hy149=>(intro w hSw;(try dsimp only at hSw);go_simp;try with_reducible rfl))
            (try simp only [List.getElem_toArray,List.getElem_cons_zero,List.getElem_cons_succ,Act.put,List.setIfInBounds_toArray,List.set_cons_zero,List.set_cons_succ])
            first|(refine wpAnyH_take (i:=21) (v:=undef) rfl (by kernel_rfl) (by kernel_rfl) (by kernel_rfl) (fun _ _ _ h=>h) (Or.inr ⟨by rfl,rfl⟩) (by assumption) ?_)|(refine wpAnyH_take (i:=21) (v:=?vv150) rfl (by kernel_rfl) (by kernel_rfl) (by kernel_rfl) (fun _ _ _ h=>h) (Or.inl ⟨by rfl,?hy150⟩) (by assumption) ?rest150;case hy150=>(intro w hSw;(try dsimp only at hSw);go_simp;try with_reducible rfl))
            (try simp only [List.getElem_toArray,List.getElem_cons_zero,List.getElem_cons_succ,Act.put,List.setIfInBounds_toArray,List.set_cons_zero,List.set_cons_succ])
            first|(refine wpAnyH_take (i:=22) (v:=undef) rfl (by kernel_rfl) (by kernel_rfl) (by kernel_rfl) (fun _ _ _ h=>h) (Or.inr ⟨by rfl,rfl⟩) (by assumption) ?_)|(refine wpAnyH_take (i:=22) (v:=?vv151) rfl (by kernel_rfl) (by kernel_rfl) (by kernel_rfl) (fun _ _ _ h=>h) (Or.inl ⟨by rfl,?hy151⟩) (by assumption) ?rest151;case hy151=>(intro w hSw;(try dsimp only at hSw);go_simp;try with_reducible rfl))
            (try simp only [List.getElem_toArray,List.getElem_cons_zero,List.getElem_cons_succ,Act.put,List.setIfInBounds_toArray,List.set_cons_zero,List.set_cons_succ])
            first|(refine wpAnyH_take (i:=23) (v:=undef) rfl (by kernel_rfl) (by kernel_rfl) (by kernel_rfl) (fun _ _ _ h=>h) (Or.inr ⟨by rfl,rfl⟩) (by assumption) ?_)|(refine wpAnyH_take (i:=23) (v:=?vv152) rfl (by kernel_rfl) (by kernel_rfl) (by kernel_rfl) (fun _ _ _ h=>h) (Or.inl ⟨by rfl,?hy152⟩) (by assumption) ?rest152;case hy152=>(intro w hSw;(try dsimp only at hSw);go_simp;try with_reducible rfl))
            (try simp only [List.getElem_toArray,List.getElem_cons_zero,List.getElem_cons_succ,Act.put,List.setIfInBounds_toArray,List.set_cons_zero,List.set_cons_succ])
            first|(refine wpAnyH_take (i:=24) (v:=undef) rfl (by kernel_rfl) (by kernel_rfl) (by kernel_rfl) (fun _ _ _ h=>h) (Or.inr ⟨by rfl,rfl⟩) (by assumption) ?_)|(refine wpAnyH_take (i:=24) (v:=?vv153) rfl (by kernel_rfl) (by kernel_rfl) (by kernel_rfl) (fun _ _ _ h=>h) (Or.inl ⟨by rfl,?hy153⟩) (by assumption) ?rest153;case hy153=>(intro w hSw;(try dsimp only at hSw);go_simp;try with_reducible rfl))
            (try simp only [List.getElem_toArray,List.getElem_cons_zero,List.getElem_cons_succ,Act.put,List.setIfInBounds_toArray,List.set_cons_zero,List.set_cons_succ])
            first|(refine wpAnyH_take (i:=25) (v:=undef) rfl (by kernel_rfl) (by kernel_rfl) (by kernel_rfl) (fun _ _ _ h=>h) (Or.inr ⟨by rfl,rfl⟩) (by assumption) ?_)|(refine wpAnyH_take (i:=25) (v:=?vv154) rfl (by kernel_rfl) (by kernel_rfl) (by kernel_rfl) (fun _ _ _ h=>h) (Or.inl ⟨by rfl,?hy154⟩) (by assumption) ?rest154;case hy154=>(intro w hSw;(try dsimp only at hSw);go_simp;try with_reducible rfl))
            (try simp only [List.getElem_toArray,List.getElem_cons_zero,List.getElem_cons_succ,Act.put,List.setIfInBounds_toArray,List.set_cons_zero,List.set_cons_succ])
            first|(refine wpAnyH_take (i:=26) (v:=undef) rfl (by kernel_rfl) (by kernel_rfl) (by kernel_rfl) (fun _ _ _ h=>h) (Or.inr ⟨by rfl,rfl⟩) (by assumption) ?_)|(refine wpAnyH_take (i:=26) (v:=?vv155) rfl (by kernel_rfl) (by kernel_rfl) (by kernel_rfl) (fun _ _ _ h=>h) (Or.inl ⟨by rfl,?hy155⟩) (by assumption) ?rest155;case hy155=>(intro w hSw;(try dsimp only at hSw);go_simp;try with_reducible rfl))
            (try simp only [List.getElem_toArray,List.getElem_cons_zero,List.getElem_cons_succ,Act.put,List.setIfInBounds_toArray,List.set_cons_zero,List.set_cons_succ])
            first|(refine wpAnyH_take (i:=27) (v:=undef) rfl (by kernel_rfl) (by kernel_rfl) (by kernel_rfl) (fun _ _ _ h=>h) (Or.inr ⟨by rfl,rfl⟩) (by assumption) ?_)|(refine wpAnyH_take (i:=27) (v:=?vv156) rfl (by kernel_rfl) (by kernel_rfl) (by kernel_rfl) (fun _ _ _ h=>h) (Or.inl ⟨by rfl,?hy156⟩) (by assumption) ?rest156;case hy156=>(intro w hSw;(try dsimp only at hSw);go_simp;try with_reducible rfl))
            (try simp only [List.getElem_toArray,List.getElem_cons_zero,List.getElem_cons_succ,Act.put,List.setIfInBounds_toArray,List.set_cons_zero,List.set_cons_succ])
            first|(refine wpAnyH_take (i:=28) (v:=undef) rfl (by kernel_rfl) (by kernel_rfl) (by kernel_rfl) (fun _ _ _ h=>h) (Or.inr ⟨by rfl,rfl⟩) (by assumption) ?_)|(refine wpAnyH_take (i:=28) (v:=?vv157) rfl (by kernel_rfl) (by kernel_rfl) (by kernel_rfl) (fun _ _ _ h=>h) (Or.inl ⟨by rfl,?hy157⟩) (by assumption) ?rest157;case hy157=>(intro w hSw;(try dsimp only at hSw);go_simp;try with_reducible rfl))
            (try simp only [List.getElem_toArray,List.getElem_cons_zero,List.getElem_cons_succ,Act.put,List.setIfInBounds_toArray,List.set_cons_zero,List.set_cons_succ])
            first|(refine wpAnyH_take (i:=29) (v:=undef) rfl (by kernel_rfl) (by kernel_rfl) (by kernel_rfl) (fun _ _ _ h=>h) (Or.inr ⟨by rfl,rfl⟩) (by assumption) ?_)|(refine wpAnyH_take (i:=29) (v:=?vv158) rfl (by kernel_rfl) (by kernel_rfl) (by kernel_rfl) (fun _ _ _ h=>h) (Or.inl ⟨by rfl,?hy158⟩) (by assumption) ?rest158;case hy158=>(intro w hSw;(try dsimp only at hSw);go_simp;try with_reducible rfl))
            (try simp only [List.getElem_toArray,List.getElem_cons_zero,List.getElem_cons_succ,Act.put,List.setIfInBounds_toArray,List.set_cons_zero,List.set_cons_succ])
            first|(refine wpAnyH_take (i:=30) (v:=undef) rfl (by kernel_rfl) (by kernel_rfl) (by kernel_rfl) (fun _ _ _ h=>h) (Or.inr ⟨by rfl,rfl⟩) (by assumption) ?_)|(refine wpAnyH_take (i:=30) (v:=?vv159) rfl (by kernel_rfl) (by kernel_rfl) (by kernel_rfl) (fun _ _ _ h=>h) (Or.inl ⟨by rfl,?hy159⟩) (by assumption) ?rest159;case hy159=>(intro w hSw;(try dsimp only at hSw);go_simp;try with_reducible rfl))
            (try simp only [List.getElem_toArray,List.getElem_cons_zero,List.getElem_cons_succ,Act.put,List.setIfInBounds_toArray,List.set_cons_zero,List.set_cons_succ])
            (first|rw [q25]|rw [q25']|skip)
            first|(refine wpAnyH_take (i:=31) (v:=undef) rfl (by kernel_rfl) (by kernel_rfl) (by kernel_rfl) (fun _ _ _ h=>h) (Or.inr ⟨by rfl,rfl⟩) (by assumption) ?_)|(refine wpAnyH_take (i:=31) (v:=?vv160) rfl (by kernel_rfl) (by kernel_rfl) (by kernel_rfl) (fun _ _ _ h=>h) (Or.inl ⟨by rfl,?hy160⟩) (by assumption) ?rest160;case hy160=>(intro w hSw;(try dsimp only at hSw);go_simp;try with_reducible rfl))
            (try simp only [List.getElem_toArray,List.getElem_cons_zero,List.getElem_cons_succ,Act.put,List.setIfInBounds_toArray,List.set_cons_zero,List.set_cons_succ])
            first|(refine wpAnyH_take (i:=32) (v:=undef) rfl (by kernel_rfl) (by kernel_rfl) (by kernel_rfl) (fun _ _ _ h=>h) (Or.inr ⟨by rfl,rfl⟩) (by assumption) ?_)|(refine wpAnyH_take (i:=32) (v:=?vv161) rfl (by kernel_rfl) (by kernel_rfl) (by kernel_rfl) (fun _ _ _ h=>h) (Or.inl ⟨by rfl,?hy161⟩) (by assumption) ?rest161;case hy161=>(intro w hSw;(try dsimp only at hSw);go_simp;try with_reducible rfl))
            (try simp only [List.getElem_toArray,List.getElem_cons_zero,List.getElem_cons_succ,Act.put,List.setIfInBounds_toArray,List.set_cons_zero,List.set_cons_succ])
            first|(refine wpAnyH_take (i:=33) (v:=undef) rfl (by kernel_rfl) (by kernel_rfl) (by kernel_rfl) (fun _ _ _ h=>h) (Or.inr ⟨by rfl,rfl⟩) (by assumption) ?_)|(refine wpAnyH_take (i:=33) (v:=?vv162) rfl (by kernel_rfl) (by kernel_rfl) (by kernel_rfl) (fun _ _ _ h=>h) (Or.inl ⟨by rfl,?hy162⟩) (by assumption) ?rest162;case hy162=>(intro w hSw;(try dsimp only at hSw);go_simp;try with_reducible rfl))
            (try simp only [List.getElem_toArray,List.getElem_cons_zero,List.getElem_cons_succ,Act.put,List.setIfInBounds_toArray,List.set_cons_zero,List.set_cons_succ])
            first|(refine wpAnyH_take (i:=34) (v:=undef) rfl (by kernel_rfl) (by kernel_rfl) (by kernel_rfl) (fun _ _ _ h=>h) (Or.inr ⟨by rfl,rfl⟩) (by assumption) ?_)|(refine wpAnyH_take (i:=34) (v:=?vv163) rfl (by kernel_rfl) (by kernel_rfl) (by kernel_rfl) (fun _ _ _ h=>h) (Or.inl ⟨by rfl,?hy163⟩) (by assumption) ?rest163;case hy163=>(intro w hSw;(try dsimp only at hSw);go_simp;try with_reducible rfl))
            (try simp only [List.getElem_toArray,List.getElem_cons_zero,List.getElem_cons_succ,Act.put,List.setIfInBounds_toArray,List.set_cons_zero,List.set_cons_succ])
            first|(refine wpAnyH_take (i:=35) (v:=undef) rfl (by kernel_rfl) (by kernel_rfl) (by kernel_rfl) (fun _ _ _ h=>h) (Or.inr ⟨by rfl,rfl⟩) (by assumption) ?_)|(refine wpAnyH_take (i:=35) (v:=?vv164) rfl (by kernel_rfl) (by kernel_rfl) (by kernel_rfl) (fun _ _ _ h=>h) (Or.inl ⟨by rfl,?hy164⟩) (by assumption) ?rest164;case hy164=>(intro w hSw;(try dsimp only at hSw);go_simp;try with_reducible rfl))
            (try simp only [List.getElem_toArray,List.getElem_cons_zero,List.getElem_cons_succ,Act.put,List.setIfInBounds_toArray,List.set_cons_zero,List.set_cons_succ])
            first|(refine wpAnyH_take (i:=36) (v:=undef) rfl (by kernel_rfl) (by kernel_rfl) (by kernel_rfl) (fun _ _ _ h=>h) (Or.inr ⟨by rfl,rfl⟩) (by assumption) ?_)|(refine wpAnyH_take (i:=36) (v:=?vv165) rfl (by kernel_rfl) (by kernel_rfl) (by kernel_rfl) (fun _ _ _ h=>h) (Or.inl ⟨by rfl,?hy165⟩) (by assumption) ?rest165;case hy165=>(intro w hSw;(try dsimp only at hSw);go_simp;try with_reducible rfl))
            (try simp only [List.getElem_toArray,List.getElem_cons_zero,List.getElem_cons_succ,Act.put,List.setIfInBounds_toArray,List.set_cons_zero,List.set_cons_succ])
            first|(refine wpAnyH_take (i:=37) (v:=undef) rfl (by kernel_rfl) (by kernel_rfl) (by kernel_rfl) (fun _ _ _ h=>h) (Or.inr ⟨by rfl,rfl⟩) (by assumption) ?_)|(refine wpAnyH_take (i:=37) (v:=?vv166) rfl (by kernel_rfl) (by kernel_rfl) (by kernel_rfl) (fun _ _ _ h=>h) (Or.inl ⟨by rfl,?hy166⟩) (by assumption) ?rest166;case hy166=>(intro w hSw;(try dsimp only at hSw);go_simp;try with_reducible rfl))
            (try simp only [List.getElem_toArray,List.getElem_cons_zero,List.getElem_cons_succ,Act.put,List.setIfInBounds_toArray,List.set_cons_zero,List.set_cons_succ])
            first|(refine wpAnyH_take (i:=39) (v:=undef) rfl (by kernel_rfl) (by kernel_rfl) (by kernel_rfl) (fun _ _ _ h=>h) (Or.inr ⟨by rfl,rfl⟩) (by assumption) ?_)|(refine wpAnyH_take (i:=39) (v:=?vv167) rfl (by kernel_rfl) (by kernel_rfl) (by kernel_rfl) (fun _ _ _ h=>h) (Or.inl ⟨by rfl,?hy167⟩) (by assumption) ?rest167;case hy167=>(intro w hSw;(try dsimp only at hSw);go_simp;try with_reducible rfl))
            (try simp only [List.getElem_toArray,List.getElem_cons_zero,List.getElem_cons_succ,Act.put,List.setIfInBounds_toArray,List.set_cons_zero,List.set_cons_succ])
            first
             |(refine wpAnyH_take (i:=38) (v:=undef) rfl (by kernel_rfl) (by kernel_rfl) (by kernel_rfl) (fun _ _ _ h=>h) (Or.inr ⟨by rfl,rfl⟩) (by assumption) ?_;(try simp only [List.getElem_toArray,List.getElem_cons_zero,List.getElem_cons_succ,Act.put,List.setIfInBounds_toArray,List.set_cons_zero,List.set_cons_succ]))
             |(refine wpAnyH_ready (rs:=[38]) (by kernel_rfl) (List.cons_ne_nil _ _) ?_;refine AllReadyH.cons rfl (fun K hK=>?_) AllReadyH.nil;go_simp;go_split_ands;refine (HSQ.out _ (by assumption)).mono ?_;rintro e wz ⟨rfl,hb2⟩;(try go_wp2_with fail);refine hK.out _ _ ?hS168 (fun hHeld2=>?rest168);(case hS168=>(exact KP.out _ (after (by assumption) hb2)));clear hK K;(try simp only [List.getElem_toArray,List.getElem_cons_zero,List.getElem_cons_succ,Act.put,List.setIfInBounds_toArray,List.set_cons_zero,List.set_cons_succ]))
            first|(refine wpAnyH_take (i:=40) (v:=undef) rfl (by kernel_rfl) (by kernel_rfl) (by kernel_rfl) (fun _ _ _ h=>h) (Or.inr ⟨by rfl,rfl⟩) (by assumption) ?_)|(refine wpAnyH_take (i:=40) (v:=?vv169) rfl (by kernel_rfl) (by kernel_rfl) (by kernel_rfl) (fun _ _ _ h=>h) (Or.inl ⟨by rfl,?hy169⟩) (by assumption) ?rest169;case hy169=>(intro w hSw;(try dsimp only at hSw);go_simp;try with_reducible rfl))
            (try simp only [List.getElem_toArray,List.getElem_cons_zero,List.getElem_cons_succ,Act.put,List.setIfInBounds_toArray,List.set_cons_zero,List.set_cons_succ])
            (first|rw [hI2]|rw [hI3]|skip)
            first|(refine wpAnyH_take (i:=41) (v:=undef) rfl (by kernel_rfl) (by kernel_rfl) (by kernel_rfl) (fun _ _ _ h=>h) (Or.inr ⟨by rfl,rfl⟩) (by assumption) ?_)|(refine wpAnyH_take (i:=41) (v:=?vv170) rfl (by kernel_rfl) (by kernel_rfl) (by kernel_rfl) (fun _ _ _ h=>h) (Or.inl ⟨by rfl,?hy170⟩) (by assumption) ?rest170;case hy170=>(intro w hSw;(try dsimp only at hSw);go_simp;try with_reducible rfl))
            (try simp only [List.getElem_toArray,List.getElem_cons_zero,List.getElem_cons_succ,Act.put,List.setIfInBounds_toArray,List.set_cons_zero,List.set_cons_succ])
            (refine wpAnyH_take (i:=42) (v:=?vv171) rfl (by kernel_rfl) (by kernel_rfl) (by kernel_rfl) (fun _ _ _ h=>h) (Or.inl ⟨by rfl,?hy171⟩) (by assumption) ?rest171;case hy171=>(intro w hSw;(try dsimp only at hSw);go_simp;try with_reducible rfl))
            (try simp only [List.getElem_toArray,List.getElem_cons_zero,List.getElem_cons_succ,Act.put,List.setIfInBounds_toArray,List.set_cons_zero,List.set_cons_succ])
            refine wpAnyH_done (by kernel_rfl) ?_ _
            have hBF:=hHeld2.2.2.2.2.2
            have B9:=Lib.hid (after BR.out (after BW.out hBF))
            clear hHeld2 hBF
            go_wp2_with fail
            go_roundg gk
            case measure=>omega
            case rel=>exact ⟨j+1,by go_num,by omega,by rw [HUN.out],by rw [HSN.out],by first|exact B9.out|exact ⟨B9.out.os,B9.out.tape,B9.out.output,B9.out.size,B9.out.block⟩⟩
          ·have q25:(kk == 25)=false:=by simp [c25]
           have q25':decide (kk=25)=false:=decide_eq_false c25
           have HSN:Hid ((forS (j+1) s.ss sl).length=b):=Lib.hid (HB0.out (fun h=>by
            rcases HSI.out.2 h with ⟨q,-⟩|⟨-,q,-⟩
            ·rw [HKJ.out] at q;exact h9 q
            ·rw [HH.out,hkn] at q;exact c25 q))
           clear h9 h10 h25 c25 hkn hI2 HSK2
           go_upto_region 19 with fail
           have YN:Hid (BoxN (wr.alloc (.cells #[.int .i64 y.kind,.int .i64 y.sf,.int .i64 y.st,.slice (some ⟨kb,koff,none⟩) y.kids.length kc,.string y.text,.int .i64 y.B,.string y.N,.int .i64 y.D,.string y.M,.int .i64 y.num,.int .i64 y.wf,.int .i64 y.wt,.slice es y.ends.length ec] 61)) wr.heap.size (Array.toList #[.int .i64 y.kind,.int .i64 y.sf,.int .i64 y.st,.slice (some ⟨kb,koff,none⟩) y.kids.length kc,.string y.text,.int .i64 y.B,.string y.N,.int .i64 y.D,.string y.M,.int .i64 y.num,.int .i64 y.wf,.int .i64 y.wt,.slice es y.ends.length ec])):=Lib.hid (BoxN.new wr #[.int .i64 y.kind,.int .i64 y.sf,.int .i64 y.st,.slice (some ⟨kb,koff,none⟩) y.kids.length kc,.string y.text,.int .i64 y.B,.string y.N,.int .i64 y.D,.string y.M,.int .i64 y.num,.int .i64 y.wf,.int .i64 y.wt,.slice es y.ends.length ec])
           have BW:Hid (Below wr.heap.size wr (wr.alloc (.cells #[.int .i64 y.kind,.int .i64 y.sf,.int .i64 y.st,.slice (some ⟨kb,koff,none⟩) y.kids.length kc,.string y.text,.int .i64 y.B,.string y.N,.int .i64 y.D,.string y.M,.int .i64 y.num,.int .i64 y.wf,.int .i64 y.wt,.slice es y.ends.length ec] 61))):=Lib.hid ((Below.refl _ _).alloc (Nat.le_refl _) _)
           generalize wr.alloc (.cells #[.int .i64 y.kind,.int .i64 y.sf,.int .i64 y.st,.slice (some ⟨kb,koff,none⟩) y.kids.length kc,.string y.text,.int .i64 y.B,.string y.N,.int .i64 y.D,.string y.M,.int .i64 y.num,.int .i64 y.wf,.int .i64 y.wt,.slice es y.ends.length ec] 61)=wn at *
           obtain ⟨nb,hnb⟩:∃ nb,nb=wr.heap.size:=⟨_,rfl⟩
           rw [<- hnb] at YN ⊢
           clear hnb d0 d1 d2 d3 d4 d5 d6 d7 d8 d9 d10 d11 d12
           have y0:=YN.out.cell 0
           have y3:=YN.out.cell 3
           have yl:=YN.out.lt
           have t0:=keep BW.out tl t0
           have ck:=keep BW.out hkb ck
           have cn:=keep BW.out hg cn
           have B9:=Lib.hid (after BR.out BW.out)
           clear YN BW
           go_upto_region 23 with fail
           go_quiet (fail)
           go_wp2_with fail
           go_roundg gk
           case measure=>omega
           case rel=>exact ⟨j+1,by go_num,by omega,by rw [HUN.out],by rw [HSN.out],by first|exact B9.out|exact ⟨B9.out.os,B9.out.tape,B9.out.output,B9.out.size,B9.out.block⟩⟩
         ·have k10:(y.kind == 10)=false:=by simp [h10]
          have HSN:Hid ((forS (j+1) s.ss sl).length=b):=Lib.hid (HB0.out (fun h=>by
           rcases HSI.out.2 h with ⟨q,-⟩|⟨q,-⟩<;>rw [HKJ.out] at q
           ·exact h9 q
           ·exact h10 q))
          clear h9 h10 h25
          go_upto_region 19 with fail
          have YN:Hid (BoxN (wr.alloc (.cells #[.int .i64 y.kind,.int .i64 y.sf,.int .i64 y.st,.slice ks y.kids.length kc,.string y.text,.int .i64 y.B,.string y.N,.int .i64 y.D,.string y.M,.int .i64 y.num,.int .i64 y.wf,.int .i64 y.wt,.slice es y.ends.length ec] 61)) wr.heap.size (Array.toList #[.int .i64 y.kind,.int .i64 y.sf,.int .i64 y.st,.slice ks y.kids.length kc,.string y.text,.int .i64 y.B,.string y.N,.int .i64 y.D,.string y.M,.int .i64 y.num,.int .i64 y.wf,.int .i64 y.wt,.slice es y.ends.length ec])):=Lib.hid (BoxN.new wr #[.int .i64 y.kind,.int .i64 y.sf,.int .i64 y.st,.slice ks y.kids.length kc,.string y.text,.int .i64 y.B,.string y.N,.int .i64 y.D,.string y.M,.int .i64 y.num,.int .i64 y.wf,.int .i64 y.wt,.slice es y.ends.length ec])
          have BW:Hid (Below wr.heap.size wr (wr.alloc (.cells #[.int .i64 y.kind,.int .i64 y.sf,.int .i64 y.st,.slice ks y.kids.length kc,.string y.text,.int .i64 y.B,.string y.N,.int .i64 y.D,.string y.M,.int .i64 y.num,.int .i64 y.wf,.int .i64 y.wt,.slice es y.ends.length ec] 61))):=Lib.hid ((Below.refl _ _).alloc (Nat.le_refl _) _)
          generalize wr.alloc (.cells #[.int .i64 y.kind,.int .i64 y.sf,.int .i64 y.st,.slice ks y.kids.length kc,.string y.text,.int .i64 y.B,.string y.N,.int .i64 y.D,.string y.M,.int .i64 y.num,.int .i64 y.wf,.int .i64 y.wt,.slice es y.ends.length ec] 61)=wn at *
          obtain ⟨nb,hnb⟩:∃ nb,nb=wr.heap.size:=⟨_,rfl⟩
          rw [<- hnb] at YN ⊢
          clear hnb d0 d1 d2 d3 d4 d5 d6 d7 d8 d9 d10 d11 d12
          have y0:=YN.out.cell 0
          have y3:=YN.out.cell 3
          have yl:=YN.out.lt
          have B9:=Lib.hid (after BR.out BW.out)
          clear YN BW
          go_upto_region 23 with fail
          go_quiet (fail)
          go_wp2_with fail
          go_roundg gk
          case measure=>omega
          case rel=>exact ⟨j+1,by go_num,by omega,by rw [HUN.out],by rw [HSN.out],by first|exact B9.out|exact ⟨B9.out.os,B9.out.tape,B9.out.output,B9.out.size,B9.out.block⟩⟩
  ·obtain ⟨rfl,rfl⟩:=hno hc
   have HME:=Lib.hid (fun (w3:World)=>method_any [] (.slice none 0 0) 0 k w3 ⟨none,0,rfl,fun h=>absurd h (by simp)⟩ (by simp) HK.out)
   have e:methS [] k = -1:=by unfold methS;rw [if_pos (.inl rfl)]
   rw [e] at HME
   have r1:((c:Int) == 0)=false:=by simp [hc]
   have r2:((c:Int) != 0)=true:=by simp [hc]
   clear hyes hno hc hb2 e
   go_wp2_with fail
   refine (HME.out _).mono ?_
   rintro e w3 ⟨rfl,hb3⟩
   obtain ⟨hbA,hT3,hF3⟩:=new_two hb3
   have BB:=Lib.hid (after B2.out hbA)
   obtain ⟨f0,f1,fl,ff⟩:=hF3.two
   clear hb3 hbA hT3 hF3 HME
   go_wp2_with fail
   go_ret
   exact ⟨rfl,by first|exact BB.out|exact BB.out.alloc (by have:=BB.out.size;omega) _⟩
end Go.Proofs.YtfehpdliobapfaaGreatDoor.S
