/- For any text and any number,ScopeFinds returns true and leaves its arguments as they were. -/
import Derived.Test.YtfehpdliobapfaaGreatDoorFPaMC
import Derived.Test.YtfehpdliobapfaaGreatDoorFNumD
set_option maxRecDepth 100000
set_option maxHeartbeats 4000000
set_option linter.unusedVariables false
set_option linter.unusedSimpArgs false
namespace Go.Proofs.YtfehpdliobapfaaGreatDoor
open Go Go.RowKit
section
variable {C:PC} {dd d0 bB b:Nat} {tv wv:Value} {s s0 t:PS} {v v0 v1:RV} {w w0 w1 w':World} {kn kr:Nat} {cr:List Value} {n m:Nd} {ev u:Value} {l:List Int}
theorem since_any (h:Rd C dd bB b tv wv s v w) (h0:0<s.next) (f:Int):Calls Tryz.prog 155 #[.pointer (some ⟨b,0,none⟩),.int .i64 f] w fun e w'=>e = .returned (.agg #[.int .i64 f,.int .i64 (endS C s:Nat)])/\Below w.heap.size w w':=by
 obtain ⟨g,n,cap,i,c0,c2,hl,hg,t2,hn,hlong,-⟩:=end_facts h h0
 exact since_raw f c0 c2 hl hg t2 hn hlong
theorem null_typ (ho:nullP C n s ≠ .out):typeB n=true:=by
 cases hq:typeB n
 ·exact (ho ((null_eq (C:=C) (n:=n) (s:=s)).trans (look_go.trans (if_pos_go hq)))).elim
 ·rfl
theorem null_nd (hk0:n.kids=[]) (R0:Rd C d0 bB b tv wv s0 v0 w0) (F:Fr bB b v0 w0 v w) (hne:kr≠kn) (hbr:Box w0 b v w kr cr) (hbx:Box w0 b v w kn (ndV n ev)) (hk:Own w0 b v w ev n.ends) (h:Rd C dd bB b tv wv s v w) (ho:nullP C n s ≠ .out) :
  Calls Tryz.prog 242 #[.pointer (some ⟨b,0,none⟩),.pointer (some ⟨kn,0,none⟩)] w (RQB C dd bB b tv wv v0 w0 kn kr cr (nullP C n s)):=by
 have h1:=(type_facts (null_typ ho)).1
 obtain ⟨d,hd⟩:∃ d:Nat,n.D=d:=⟨n.D.toNat,by omega⟩
 obtain ⟨kind,sf,st,kids,text,B,N,D,M,num,wf,wt,ends⟩:=n
 simp only at hk0 hd
 subst hk0 hd
 exact nullable_any R0 F kind sf st text B N d M num wf wt ends ev hne hbr hbx hk h ho
theorem null_post (h:nullP C n s = .ok m t):m.kids=n.kids/\m.D=n.D/\0<t.next:=by
 have h2:=(null_eq (C:=C) (n:=n) (s:=s)).symm.trans h
 rw [look_go] at h2
 by_cases h3:typeB n=false
 ·rw [if_pos_go h3] at h2;cases h2
 ·rw [if_neg_go h3] at h2
  by_cases h4:freeB n=false
  ·rw [if_pos_go h4] at h2;cases h2
  ·rw [if_neg_go h4] at h2
   cases hw:wantP C (⟨#[63]⟩:ByteArray) s with
   | ok a t'=>rw [bnd_ok hw] at h2;cases h2;exact ⟨rfl,rfl,want_next hw⟩
   | bad c x=>rw [bnd_bad hw] at h2;cases h2
   | out=>rw [bnd_out hw] at h2;cases h2
theorem arr_post (h:arrayP C n s = .ok m t):m.kids=n.kids/\m.D=n.D+1/\0<t.next:=by
 have h2:=(array_eq (C:=C) (n:=n) (s:=s)).symm.trans h
 rw [look_go] at h2
 cases hw:wantP C (⟨#[91]⟩:ByteArray) s with
 | bad c x=>rw [bnd_bad hw] at h2;cases h2
 | out=>rw [bnd_out hw] at h2;cases h2
 | ok a t' =>
  rw [bnd_ok hw] at h2
  cases hw2:wantP C (⟨#[93]⟩:ByteArray) t' with
  | bad c x=>rw [bnd_bad hw2] at h2;cases h2
  | out=>rw [bnd_out hw2] at h2;cases h2
  | ok a t2 =>
   rw [bnd_ok hw2] at h2
   cases h3:typeB n
   ·rw [if_pos_go h3] at h2;cases h2
   ·rw [if_neg_go (fun e=>by rw [h3] at e;cases e)] at h2
    by_cases h4:n.D=4
    ·rw [if_pos_go h4] at h2;cases h2
    ·rw [if_neg_go h4,look_go] at h2;cases h2;exact ⟨rfl,rfl,want_next hw2⟩
theorem arr_nd (hk0:n.kids=[]) (hD:0<=n.D) (R0:Rd C d0 bB b tv wv s0 v0 w0) (F:Fr bB b v0 w0 v w) (hne:kr≠kn) (hbr:Box w0 b v w kr cr) (hbx:Box w0 b v w kn (ndV n ev)) (hk:Own w0 b v w ev n.ends) (h:Rd C dd bB b tv wv s v w) (ho:arrayP C n s ≠ .out) :
  Calls Tryz.prog 243 #[.pointer (some ⟨b,0,none⟩),.pointer (some ⟨kn,0,none⟩)] w (RQB C dd bB b tv wv v0 w0 kn kr cr (arrayP C n s)):=by
 obtain ⟨d,hd⟩:∃ d:Nat,n.D=d:=⟨n.D.toNat,by omega⟩
 obtain ⟨kind,sf,st,kids,text,B,N,D,M,num,wf,wt,ends⟩:=n
 simp only at hk0 hd
 subst hk0 hd
 exact array_any R0 F kind sf st text B N d M num wf wt ends ev hne hbr hbx hk h ho
theorem base_post {b0:Nat} (h:baseP C b0 s = .ok n t):n.D=0/\0<t.next:=by
 unfold baseP at h
 by_cases h5:b0=5
 ·rw [bnd_if_pos h5] at h
  cases hw:nameP C s with
  | ok a t'=>rw [bnd_ok hw] at h;cases h;exact ⟨rfl,name_next hw⟩
  | bad c x=>rw [bnd_bad hw] at h;cases h
  | out=>rw [bnd_out hw] at h;cases h
 ·rw [bnd_if_neg h5,bnd_assoc] at h
  cases hw:readP C s with
  | ok a t'=>rw [bnd_ok hw] at h;cases h;exact ⟨rfl,read_next hw⟩
  | bad c x=>rw [bnd_bad hw] at h;cases h
  | out=>rw [bnd_out hw] at h;cases h
theorem box_sets2 (R0:Rd C d0 bB b tv wv s0 v0 w0):∀ (vs:List Value) (o:Nat) {w:World} {cs:List Value},Rd C dd bB b tv wv s v w->Fr bB b v0 w0 v w->Box w0 b v w kr cs->Own w0 b v w u l ->
  Rd C dd bB b tv wv s v (w.setCells kr o vs)/\Fr bB b v0 w0 v (w.setCells kr o vs)/\Own w0 b v (w.setCells kr o vs) u l
 | [],o,w,cs,R,F,h,K=>⟨R,F,K⟩
 | x :: vs,o,w,cs,R,F,h,K=>by
  obtain ⟨R1,F1,B1⟩:=box_set R0 R F h o x
  exact box_sets2 R0 vs (o+1) R1 F1 B1 (K.set h o x)
end
end Go.Proofs.YtfehpdliobapfaaGreatDoor
namespace Go.Proofs.YtfehpdliobapfaaGreatDoor
open Go Go.RowKit
section
variable {C:PC} {dd bB b:Nat} {tv wv:Value} {s:PS} {v v1:RV} {w w1:World}
theorem inner_any (h:Rd C dd bB b tv wv s v w) (hK:CK C) (anew:Bool) (ho:innerP C anew s ≠ .out):Calls Tryz.prog 221 #[.pointer (some ⟨b,0,none⟩),.bool anew] w (RQ C dd bB b tv wv v w (repNd w b) (innerP C anew s)):=by
 have HR0:=Lib.hid h
 have R0:=Lib.hid h
 have F0:=Lib.hid (Fr.refl bB b v w)
 have HO:=Lib.hid ho
 have E0:=Lib.hid (congrFun (innerP.eq_1 C anew) s)
 clear h ho
 go_enter Tryz.func221,Tryz.ntmps221
 have hal:Below w.heap.size w (w.alloc (.cells #[.int .i64 0,.int .i64 0,.int .i64 0,.slice none 0 0,.string ⟨#[]⟩,.int .i64 0,.string ⟨#[]⟩,.int .i64 0,.string ⟨#[]⟩,.int .i64 0,.int .i64 0,.int .i64 0,.slice none 0 0] 61)):=(Below.refl _ _).alloc (Nat.le_refl _) _
 have B1:=Lib.hid (box_new R0.out F0.out #[.int .i64 0,.int .i64 0,.int .i64 0,.slice none 0 0,.string ⟨#[]⟩,.int .i64 0,.string ⟨#[]⟩,.int .i64 0,.string ⟨#[]⟩,.int .i64 0,.int .i64 0,.int .i64 0,.slice none 0 0])
 have R1:=Lib.hid (R0.out.step hal)
 have F1:=Lib.hid (F0.out.below hal R0.out.hB)
 clear hal R0 F0
 go_wp2_with fail
 refine (from_any' R1.out).mono ?_
 rintro e w2 ⟨rfl,hb⟩
 have R2:=Lib.hid (R1.out.step hb)
 have F2:=Lib.hid (F1.out.below hb R1.out.hB)
 have B3:=Lib.hid (B1.out.step (Fr.of_below hb R1.out.hB))
 clear B1
 clear hb R1 F1
 have E4:=Lib.hid (E0.out.trans look_go)
 clear E0
 go_wp2_with fail
 refine (kind_any R2.out).mono ?_
 rintro e w5 ⟨rfl,hb⟩
 have R5:=Lib.hid (R2.out.step hb)
 have F5:=Lib.hid (F2.out.below hb R2.out.hB)
 have B6:=Lib.hid (B3.out.step (Fr.of_below hb R2.out.hB))
 clear B3
 clear hb R2 F2
 have E7:=Lib.hid (E4.out.trans look_go)
 clear E4
 go_wp2_with fail
 refine (tbase_any R5.out hK _ (fun e=>HO.out (E7.out.trans (bnd_out e)))).mono ?_
 rintro e w8 (⟨x8,t8,v8,u8,hm,rfl,hrep,rd,fr⟩|⟨c,x,hm,rfl,hb⟩)
 rotate_left
 ·go_wp2_with fail
  exact ⟨rfl,rq_bad (E7.out.trans (bnd_bad hm)) (F5.out.bel.trans hb)⟩
 have E8:=Lib.hid (E7.out.trans (bnd_ok hm))
 have R8:=Lib.hid rd
 have F8:=Lib.hid (F5.out.trans fr)
 have B9:=Lib.hid (B6.out.step fr)
 clear B6
 obtain ⟨hnD,hnx⟩:=base_post hm
 have HND:=Lib.hid hnD
 clear hnD
 obtain ⟨ev,hu,hk0,ow⟩:=hrep
 subst hu
 obtain ⟨us0,uc0,hev⟩:=owns_shape ow.1
 subst hev
 have KE:=Lib.hid (Own.mono ow F5.out.bel.size)
 clear ow
 clear hm rd fr E7 R5 F5
 have hne:w.heap.size≠w8.heap.size:=by have:=B9.out.mine.lt;omega
 have hal:Below w8.heap.size w8 (w8.alloc (.cells #[.int .i64 x8.kind,.int .i64 x8.sf,.int .i64 x8.st,.slice none 0 0,.string x8.text,.int .i64 x8.B,.string x8.N,.int .i64 x8.D,.string x8.M,.int .i64 x8.num,.int .i64 x8.wf,.int .i64 x8.wt,.slice us0 x8.ends.length uc0] 61)):=(Below.refl _ _).alloc (Nat.le_refl _) _
 have B10:=Lib.hid (box_new R8.out F8.out #[.int .i64 x8.kind,.int .i64 x8.sf,.int .i64 x8.st,.slice none 0 0,.string x8.text,.int .i64 x8.B,.string x8.N,.int .i64 x8.D,.string x8.M,.int .i64 x8.num,.int .i64 x8.wf,.int .i64 x8.wt,.slice us0 x8.ends.length uc0])
 have K11:=Lib.hid (KE.out.step (Fr.of_below hal R8.out.hB))
 clear KE
 have B12:=Lib.hid (B9.out.step (Fr.of_below hal R8.out.hB))
 clear B9
 have R10:=Lib.hid (R8.out.step hal)
 have F10:=Lib.hid (F8.out.below hal R8.out.hB)
 clear hal R8 F8
 go_wp2_with fail
 go_loopg [] C.toks.length (fun k wr=>∃ (n:Nd) (t:PS) (vv:RV) (ev:Value),n.kids=[]/\0<=n.D/\0<t.next/\innerP C anew s=innerL C anew (fromS C s) k n t/\Rd C dd bB b tv wv t vv wr/\Fr bB b v w vv wr/\Box w b vv wr w8.heap.size (ndV n ev)/\Own w b vv wr ev n.ends/\Box w b vv wr w.heap.size [.int .i64 0,.int .i64 0,.int .i64 0,.slice none 0 0,.string ⟨#[]⟩,.int .i64 0,.string ⟨#[]⟩,.int .i64 0,.string ⟨#[]⟩,.int .i64 0,.int .i64 0,.int .i64 0,.slice none 0 0])
 case atStart=>exact ⟨x8,_,_,.slice us0 x8.ends.length uc0,hk0,by rw [HND.out];omega,hnx,E8.out,R10.out,F10.out,B10.out,K11.out,B12.out⟩
 case round =>
  clear E8 R10 F10 B10 K11 B12 hnx HND hk0
  obtain ⟨n,t,vv,ev,hk0,hD,hnx,he,hr,hf,hbn,hk,hbr⟩:=hrel
  cases gk with
  | zero=>exact (HO.out (he.trans rfl)).elim
  | succ gk =>
   obtain ⟨us1,uc1,hev⟩:=owns_shape hk.1
   subst hev
   have E0:=Lib.hid ((he.trans (congrFun (innerL.eq_2 C anew (fromS C s) n gk) t)).trans look_go)
   have R0:=Lib.hid hr
   have F0:=Lib.hid hf
   have BN0:=Lib.hid hbn
   have K0:=Lib.hid hk
   have BR0:=Lib.hid hbr
   clear he hr hf hbn hk hbr
   go_wp2_with fail
   refine (sees_any R0.out (⟨#[63]⟩:ByteArray)).mono ?_
   rintro e w13 ⟨rfl,hb⟩
   have R13:=Lib.hid (R0.out.step hb)
   have F13:=Lib.hid (F0.out.below hb R0.out.hB)
   have K14:=Lib.hid (K0.out.step (Fr.of_below hb R0.out.hB))
   clear K0
   have B15:=Lib.hid (BN0.out.step (Fr.of_below hb R0.out.hB))
   clear BN0
   have B16:=Lib.hid (BR0.out.step (Fr.of_below hb R0.out.hB))
   clear BR0
   clear hb R0 F0
   cases hs1:sees C (⟨#[63]⟩:ByteArray) t
   ·have hw1:¬ wordS C 0 t=(⟨#[63]⟩:ByteArray):=of_decide_eq_false hs1
    have E17:=Lib.hid (E0.out.trans (if_neg_go hw1))
    clear E0
    clear hw1
    go_wp2_with fail
    refine (sees_any R13.out (⟨#[91]⟩:ByteArray)).mono ?_
    rintro e w18 ⟨rfl,hb⟩
    have R18:=Lib.hid (R13.out.step hb)
    have F18:=Lib.hid (F13.out.below hb R13.out.hB)
    have K19:=Lib.hid (K14.out.step (Fr.of_below hb R13.out.hB))
    clear K14
    have B20:=Lib.hid (B15.out.step (Fr.of_below hb R13.out.hB))
    clear B15
    have B21:=Lib.hid (B16.out.step (Fr.of_below hb R13.out.hB))
    clear B16
    clear hb R13 F13
    cases hs2:sees C (⟨#[91]⟩:ByteArray) t
    ·have hw2:¬ wordS C 0 t=(⟨#[91]⟩:ByteArray):=of_decide_eq_false hs2
     have E22:=Lib.hid (E17.out.trans (if_neg_go (fun e=>hw2 e.1)))
     clear E17
     clear hw2 hs1 hs2
     go_wp2_with fail
     refine (since_any R18.out hnx _).mono ?_
     rintro e w23 ⟨rfl,hb⟩
     have R23:=Lib.hid (R18.out.step hb)
     have F23:=Lib.hid (F18.out.below hb R18.out.hB)
     have K24:=Lib.hid (K19.out.step (Fr.of_below hb R18.out.hB))
     clear K19
     have B25:=Lib.hid (B20.out.step (Fr.of_below hb R18.out.hB))
     clear B20
     have B26:=Lib.hid (B21.out.step (Fr.of_below hb R18.out.hB))
     clear B21
     clear hb R18 F18
     have BRL:=Lib.hid B26.out
     obtain ⟨⟨a0,a1,a2,a3,a4,a5,a6,a7,a8,a9,a10,a11,a12⟩,al,af⟩:=(show BoxN w23 (w8.heap.size) [.int .i64 n.kind,.int .i64 n.sf,.int .i64 n.st,.slice none 0 0,.string n.text,.int .i64 n.B,.string n.N,.int .i64 n.D,.string n.M,.int .i64 n.num,.int .i64 n.wf,.int .i64 n.wt,.slice us1 n.ends.length uc1] from B25.out.box).all
     obtain ⟨rd,fr,bx⟩:=box_set HR0.out R23.out F23.out B25.out 10 (.int .i64 (fromS C s:Nat))
     have K28:=Lib.hid (K24.out.set B25.out 10 (.int .i64 (fromS C s:Nat)))
     clear K24
     have R27:=Lib.hid rd
     have F27:=Lib.hid fr
     have B27:=Lib.hid bx
     clear rd fr bx R23 F23 B25
     have B29:=Lib.hid (B26.out.other (kn:=w8.heap.size) (by omega) 10 (.int .i64 (fromS C s:Nat)))
     clear B26
     obtain ⟨rd,fr,bx⟩:=box_set HR0.out R27.out F27.out B27.out 11 (.int .i64 (endS C t:Nat))
     have K31:=Lib.hid (K28.out.set B27.out 11 (.int .i64 (endS C t:Nat)))
     clear K28
     have R30:=Lib.hid rd
     have F30:=Lib.hid fr
     have B30:=Lib.hid bx
     clear rd fr bx R27 F27 B27
     have B32:=Lib.hid (B29.out.other (kn:=w8.heap.size) (by omega) 11 (.int .i64 (endS C t:Nat)))
     clear B29
     have FIN:=Lib.hid (box_sets2 HR0.out [.int .i64 n.kind,.int .i64 n.sf,.int .i64 n.st,.slice none 0 0,.string n.text,.int .i64 n.B,.string n.N,.int .i64 n.D,.string n.M,.int .i64 n.num,.int .i64 (fromS C s:Nat),.int .i64 (endS C t:Nat),.slice us1 n.ends.length uc1] 0 R30.out F30.out B32.out K31.out)
     obtain ⟨⟨r0,r1,r2,r3,r4,r5,r6,r7,r8,r9,r10,r11,r12⟩,rl,rf⟩:=(show BoxN w23 (w.heap.size) [.int .i64 0,.int .i64 0,.int .i64 0,.slice none 0 0,.string ⟨#[]⟩,.int .i64 0,.string ⟨#[]⟩,.int .i64 0,.string ⟨#[]⟩,.int .i64 0,.int .i64 0,.int .i64 0,.slice none 0 0] from BRL.out.box).all
     go_wp2_with fail
     clear a0 a1 a2 a3 a4 a5 a6 a7 a8 a9 a10 a11 a12 al af
     refine bodyPost_ret (v:=.agg #[.int .i64 n.kind,.int .i64 n.sf,.int .i64 n.st,.slice none 0 0,.string n.text,.int .i64 n.B,.string n.N,.int .i64 n.D,.string n.M,.int .i64 n.num,.int .i64 (fromS C s:Nat),.int .i64 (endS C t:Nat),.slice us1 n.ends.length uc1]) (by simp [results,Tryz.results221,go_sem,r0,r1,r2,r3,r4,r5,r6,r7,r8,r9,r10,r11,r12,rl]) rfl ?_
     exact rq_ok ((E22.out.trans look_go).trans ret_go) ⟨_,rfl,hk0,FIN.out.2.2⟩ FIN.out.1 FIN.out.2.1
    ·have hw2:wordS C 0 t=(⟨#[91]⟩:ByteArray):=of_decide_eq_true hs2
     cases anew
     ·have E33:=Lib.hid (E17.out.trans (if_pos_go ⟨hw2,fun e=>by cases e.1⟩))
      clear E17
      clear hw2
      clear hs1 hs2
      go_wp2_with fail
      refine ((arr_nd hk0 hD HR0.out F18.out hne B21.out B20.out K19.out R18.out (fun e=>HO.out (E33.out.trans (bnd_out e))))).mono ?_
      rintro e w34 (⟨x34,t34,v34,ev34,hm,rfl,rd,fr,bx,ow,br⟩|⟨c,x,hm,rfl,hb⟩)
      rotate_left
      ·go_wp2_with fail
       exact ⟨rfl,rq_bad (E33.out.trans (bnd_bad hm)) hb⟩
      obtain ⟨hk1,hD1,hnx1⟩:=arr_post hm
      rw [hk0] at hk1
      have HD1:=Lib.hid hD1
      have HK1:=Lib.hid hk1
      clear hD1 hk1
      have E34:=Lib.hid (E33.out.trans (bnd_ok hm))
      have R34:=Lib.hid rd
      have F34:=Lib.hid fr
      have B34:=Lib.hid bx
      have BR34:=Lib.hid br
      have K34:=Lib.hid ow
      clear hm rd fr bx ow br E33 R18 F18 B20 B21 K19
      go_wp2_with fail
      go_roundg gk
      case measure=>omega
      case rel=>exact ⟨x34,_,_,ev34,HK1.out,by rw [HD1.out];omega,hnx1,E34.out,R34.out,F34.out,B34.out,K34.out,BR34.out⟩
     ·go_wp2_with fail
      refine (word_any R18.out 1 (by omega)).mono ?_
      rintro e w35 ⟨rfl,hb⟩
      have R35:=Lib.hid (R18.out.step hb)
      have F35:=Lib.hid (F18.out.below hb R18.out.hB)
      have K36:=Lib.hid (K19.out.step (Fr.of_below hb R18.out.hB))
      clear K19
      have B37:=Lib.hid (B20.out.step (Fr.of_below hb R18.out.hB))
      clear B20
      have B38:=Lib.hid (B21.out.step (Fr.of_below hb R18.out.hB))
      clear B21
      clear hb R18 F18
      by_cases hs39:(wordS C 1 t)=(⟨#[93]⟩:ByteArray)
      ·have n39:((wordS C 1 t).toList == [93])=true:=str_yes hs39
       have m39:((wordS C 1 t).toList != [93])=false:=str_nyes hs39
       have E40:=Lib.hid (E17.out.trans (if_pos_go ⟨hw2,fun e=>e.2 hs39⟩))
       clear E17
       clear hw2 hs39
       clear hs1 hs2
       go_wp2_with fail
       refine ((arr_nd hk0 hD HR0.out F35.out hne B38.out B37.out K36.out R35.out (fun e=>HO.out (E40.out.trans (bnd_out e))))).mono ?_
       rintro e w41 (⟨x41,t41,v41,ev41,hm,rfl,rd,fr,bx,ow,br⟩|⟨c,x,hm,rfl,hb⟩)
       rotate_left
       ·go_wp2_with fail
        exact ⟨rfl,rq_bad (E40.out.trans (bnd_bad hm)) hb⟩
       obtain ⟨hk1,hD1,hnx1⟩:=arr_post hm
       rw [hk0] at hk1
       have HD1:=Lib.hid hD1
       have HK1:=Lib.hid hk1
       clear hD1 hk1
       have E41:=Lib.hid (E40.out.trans (bnd_ok hm))
       have R41:=Lib.hid rd
       have F41:=Lib.hid fr
       have B41:=Lib.hid bx
       have BR41:=Lib.hid br
       have K41:=Lib.hid ow
       clear hm rd fr bx ow br E40 R35 F35 B37 B38 K36
       go_wp2_with fail
       go_roundg gk
       case measure=>omega
       case rel=>exact ⟨x41,_,_,ev41,HK1.out,by rw [HD1.out];omega,hnx1,E41.out,R41.out,F41.out,B41.out,K41.out,BR41.out⟩
      ·have n39:((wordS C 1 t).toList == [93])=false:=str_no hs39
       have m39:((wordS C 1 t).toList != [93])=true:=str_nno hs39
       have E42:=Lib.hid (E17.out.trans (if_neg_go (fun e=>e.2 ⟨by trivial,hs39⟩)))
       clear E17
       clear hw2 hs1 hs2
       go_wp2_with fail
       refine (since_any R35.out hnx _).mono ?_
       rintro e w43 ⟨rfl,hb⟩
       have R43:=Lib.hid (R35.out.step hb)
       have F43:=Lib.hid (F35.out.below hb R35.out.hB)
       have K44:=Lib.hid (K36.out.step (Fr.of_below hb R35.out.hB))
       clear K36
       have B45:=Lib.hid (B37.out.step (Fr.of_below hb R35.out.hB))
       clear B37
       have B46:=Lib.hid (B38.out.step (Fr.of_below hb R35.out.hB))
       clear B38
       clear hb R35 F35
       have BRL:=Lib.hid B46.out
       obtain ⟨⟨a0,a1,a2,a3,a4,a5,a6,a7,a8,a9,a10,a11,a12⟩,al,af⟩:=(show BoxN w43 (w8.heap.size) [.int .i64 n.kind,.int .i64 n.sf,.int .i64 n.st,.slice none 0 0,.string n.text,.int .i64 n.B,.string n.N,.int .i64 n.D,.string n.M,.int .i64 n.num,.int .i64 n.wf,.int .i64 n.wt,.slice us1 n.ends.length uc1] from B45.out.box).all
       obtain ⟨rd,fr,bx⟩:=box_set HR0.out R43.out F43.out B45.out 10 (.int .i64 (fromS C s:Nat))
       have K48:=Lib.hid (K44.out.set B45.out 10 (.int .i64 (fromS C s:Nat)))
       clear K44
       have R47:=Lib.hid rd
       have F47:=Lib.hid fr
       have B47:=Lib.hid bx
       clear rd fr bx R43 F43 B45
       have B49:=Lib.hid (B46.out.other (kn:=w8.heap.size) (by omega) 10 (.int .i64 (fromS C s:Nat)))
       clear B46
       obtain ⟨rd,fr,bx⟩:=box_set HR0.out R47.out F47.out B47.out 11 (.int .i64 (endS C t:Nat))
       have K51:=Lib.hid (K48.out.set B47.out 11 (.int .i64 (endS C t:Nat)))
       clear K48
       have R50:=Lib.hid rd
       have F50:=Lib.hid fr
       have B50:=Lib.hid bx
       clear rd fr bx R47 F47 B47
       have B52:=Lib.hid (B49.out.other (kn:=w8.heap.size) (by omega) 11 (.int .i64 (endS C t:Nat)))
       clear B49
       have FIN:=Lib.hid (box_sets2 HR0.out [.int .i64 n.kind,.int .i64 n.sf,.int .i64 n.st,.slice none 0 0,.string n.text,.int .i64 n.B,.string n.N,.int .i64 n.D,.string n.M,.int .i64 n.num,.int .i64 (fromS C s:Nat),.int .i64 (endS C t:Nat),.slice us1 n.ends.length uc1] 0 R50.out F50.out B52.out K51.out)
       obtain ⟨⟨r0,r1,r2,r3,r4,r5,r6,r7,r8,r9,r10,r11,r12⟩,rl,rf⟩:=(show BoxN w43 (w.heap.size) [.int .i64 0,.int .i64 0,.int .i64 0,.slice none 0 0,.string ⟨#[]⟩,.int .i64 0,.string ⟨#[]⟩,.int .i64 0,.string ⟨#[]⟩,.int .i64 0,.int .i64 0,.int .i64 0,.slice none 0 0] from BRL.out.box).all
       go_wp2_with fail
       clear a0 a1 a2 a3 a4 a5 a6 a7 a8 a9 a10 a11 a12 al af
       refine bodyPost_ret (v:=.agg #[.int .i64 n.kind,.int .i64 n.sf,.int .i64 n.st,.slice none 0 0,.string n.text,.int .i64 n.B,.string n.N,.int .i64 n.D,.string n.M,.int .i64 n.num,.int .i64 (fromS C s:Nat),.int .i64 (endS C t:Nat),.slice us1 n.ends.length uc1]) (by simp [results,Tryz.results221,go_sem,r0,r1,r2,r3,r4,r5,r6,r7,r8,r9,r10,r11,r12,rl]) rfl ?_
       exact rq_ok ((E42.out.trans look_go).trans ret_go) ⟨_,rfl,hk0,FIN.out.2.2⟩ FIN.out.1 FIN.out.2.1
   ·have hw1:wordS C 0 t=(⟨#[63]⟩:ByteArray):=of_decide_eq_true hs1
    have E53:=Lib.hid (E0.out.trans (if_pos_go hw1))
    clear E0
    clear hw1 hs1
    go_wp2_with fail
    refine ((null_nd hk0 HR0.out F13.out hne B16.out B15.out K14.out R13.out (fun e=>HO.out (E53.out.trans (bnd_out e))))).mono ?_
    rintro e w54 (⟨x54,t54,v54,ev54,hm,rfl,rd,fr,bx,ow,br⟩|⟨c,x,hm,rfl,hb⟩)
    rotate_left
    ·go_wp2_with fail
     exact ⟨rfl,rq_bad (E53.out.trans (bnd_bad hm)) hb⟩
    obtain ⟨hk1,hD1,hnx1⟩:=null_post hm
    rw [hk0] at hk1
    have HD1:=Lib.hid hD1
    have HK1:=Lib.hid hk1
    clear hD1 hk1
    have E54:=Lib.hid (E53.out.trans (bnd_ok hm))
    have R54:=Lib.hid rd
    have F54:=Lib.hid fr
    have B54:=Lib.hid bx
    have BR54:=Lib.hid br
    have K54:=Lib.hid ow
    clear hm rd fr bx ow br E53 R13 F13 B15 B16 K14
    go_wp2_with fail
    go_roundg gk
    case measure=>omega
    case rel=>exact ⟨x54,_,_,ev54,HK1.out,by rw [HD1.out];omega,hnx1,E54.out,R54.out,F54.out,B54.out,K54.out,BR54.out⟩
end
end Go.Proofs.YtfehpdliobapfaaGreatDoor
namespace Go.Proofs.YtfehpdliobapfaaGreatDoor
open Go Go.RowKit
section
variable {C:PC} {dd bB b:Nat} {tv wv:Value} {s:PS} {v v1:RV} {w w1:World}
theorem typed_any (h:Rd C dd bB b tv wv s v w) (hK:CK C) (ho:typedP C s ≠ .out):Calls Tryz.prog 208 #[.pointer (some ⟨b,0,none⟩)] w (RQ C dd bB b tv wv v w (repNd w b) (typedP C s)):=by
 have HR0:=Lib.hid h
 have R0:=Lib.hid h
 have F0:=Lib.hid (Fr.refl bB b v w)
 have HO:=Lib.hid ho
 have E0:=Lib.hid (congrFun (typedP.eq_1 C) s)
 clear h ho
 go_enter Tryz.func208,Tryz.ntmps208
 have hal:Below w.heap.size w (w.alloc (.cells #[.int .i64 0,.int .i64 0,.int .i64 0,.slice none 0 0,.string ⟨#[]⟩,.int .i64 0,.string ⟨#[]⟩,.int .i64 0,.string ⟨#[]⟩,.int .i64 0,.int .i64 0,.int .i64 0,.slice none 0 0] 61)):=(Below.refl _ _).alloc (Nat.le_refl _) _
 have B1:=Lib.hid (box_new R0.out F0.out #[.int .i64 0,.int .i64 0,.int .i64 0,.slice none 0 0,.string ⟨#[]⟩,.int .i64 0,.string ⟨#[]⟩,.int .i64 0,.string ⟨#[]⟩,.int .i64 0,.int .i64 0,.int .i64 0,.slice none 0 0])
 have R1:=Lib.hid (R0.out.step hal)
 have F1:=Lib.hid (F0.out.below hal R0.out.hB)
 clear hal R0 F0
 go_wp2_with fail
 refine (from_any' R1.out).mono ?_
 rintro e w2 ⟨rfl,hb⟩
 have R2:=Lib.hid (R1.out.step hb)
 have F2:=Lib.hid (F1.out.below hb R1.out.hB)
 have B3:=Lib.hid (B1.out.step (Fr.of_below hb R1.out.hB))
 clear B1
 clear hb R1 F1
 have E4:=Lib.hid (E0.out.trans look_go)
 clear E0
 go_wp2_with fail
 refine (take_any R2.out _ (fun e=>HO.out (E4.out.trans (bnd_out e)))).mono ?_
 rintro e w5 (⟨x5,t5,v5,u5,hm,rfl,hrep,rd,fr⟩|⟨c,x,hm,rfl,hb⟩)
 rotate_left
 ·go_wp2_with fail
  exact ⟨rfl,rq_bad (E4.out.trans (bnd_bad hm)) (F2.out.bel.trans hb)⟩
 obtain rfl:u5 = .bool x5:=hrep
 have E5:=Lib.hid (E4.out.trans (bnd_ok hm))
 have R5:=Lib.hid rd
 have F5:=Lib.hid (F2.out.trans fr)
 have B6:=Lib.hid (B3.out.step fr)
 clear B3
 clear hm rd fr E4 R2 F2
 cases x5
 ·have E7:=Lib.hid (E5.out.trans (if_neg_go (by decide)))
  clear E5
  go_wp2_with fail
  refine (inner_any R5.out hK false (fun e=>HO.out (E7.out.trans e))).mono ?_
  rintro e w8 (⟨x8,t8,v8,u8,hm,rfl,hrep,rd,fr⟩|⟨c,x,hm,rfl,hb⟩)
  rotate_left
  ·go_wp2_with fail
   exact ⟨rfl,rq_bad (E7.out.trans hm) (F5.out.bel.trans hb)⟩
  have E8:=Lib.hid (E7.out.trans hm)
  have R8:=Lib.hid rd
  have F8:=Lib.hid (F5.out.trans fr)
  have B9:=Lib.hid (B6.out.step fr)
  clear B6
  obtain ⟨kd,sf,st,ks,tx,Bb,Nn,Dd,Mm,nm,wf,wt,es⟩:=x8
  obtain ⟨ev,hu,hk0,ow⟩:=hrep
  simp only at hu hk0 ow
  subst hk0
  obtain ⟨us0,uc0,hev⟩:=owns_shape ow.1
  subst hev
  subst hu
  have KE:=Lib.hid (Own.mono ow F5.out.bel.size)
  clear ow
  clear hm rd fr E7 R5 F5
  have BRL:=Lib.hid B9.out
  have FIN:=Lib.hid (box_sets2 HR0.out [.int .i64 kd,.int .i64 sf,.int .i64 st,.slice none 0 0,.string tx,.int .i64 Bb,.string Nn,.int .i64 Dd,.string Mm,.int .i64 nm,.int .i64 wf,.int .i64 wt,.slice us0 es.length uc0] 0 R8.out F8.out B9.out KE.out)
  obtain ⟨⟨r0,r1,r2,r3,r4,r5,r6,r7,r8,r9,r10,r11,r12⟩,rl,rf⟩:=(show BoxN w8 (w.heap.size) [.int .i64 0,.int .i64 0,.int .i64 0,.slice none 0 0,.string ⟨#[]⟩,.int .i64 0,.string ⟨#[]⟩,.int .i64 0,.string ⟨#[]⟩,.int .i64 0,.int .i64 0,.int .i64 0,.slice none 0 0] from BRL.out.box).all
  go_wp2_with fail
  refine bodyPost_ret (v:=.agg #[.int .i64 kd,.int .i64 sf,.int .i64 st,.slice none 0 0,.string tx,.int .i64 Bb,.string Nn,.int .i64 Dd,.string Mm,.int .i64 nm,.int .i64 wf,.int .i64 wt,.slice us0 es.length uc0]) (by simp [results,Tryz.results208,go_sem,r0,r1,r2,r3,r4,r5,r6,r7,r8,r9,r10,r11,r12,rl]) rfl ?_
  exact rq_ok (E8.out) ⟨_,rfl,rfl,FIN.out.2.2⟩ FIN.out.1 FIN.out.2.1
 ·have E10:=Lib.hid (E5.out.trans (if_pos_go rfl))
  clear E5
  go_wp2_with fail
  refine (want_any R5.out _ (fun e=>HO.out (E10.out.trans (bnd_out e)))).mono ?_
  rintro e w11 (⟨x11,t11,v11,u11,hm,rfl,hrep,rd,fr⟩|⟨c,x,hm,rfl,hb⟩)
  rotate_left
  ·go_wp2_with fail
   exact ⟨rfl,rq_bad (E10.out.trans (bnd_bad hm)) (F5.out.bel.trans hb)⟩
  obtain rfl:u11 = .tuple #[]:=hrep
  have E11:=Lib.hid (E10.out.trans (bnd_ok hm))
  have R11:=Lib.hid rd
  have F11:=Lib.hid (F5.out.trans fr)
  have B12:=Lib.hid (B6.out.step fr)
  clear B6
  clear hm rd fr E10 R5 F5
  go_wp2_with fail
  refine (inner_any R11.out hK false (fun e=>HO.out (E11.out.trans (bnd_out e)))).mono ?_
  rintro e w13 (⟨x13,t13,v13,u13,hm,rfl,hrep,rd,fr⟩|⟨c,x,hm,rfl,hb⟩)
  rotate_left
  ·go_wp2_with fail
   exact ⟨rfl,rq_bad (E11.out.trans (bnd_bad hm)) (F11.out.bel.trans hb)⟩
  have E13:=Lib.hid (E11.out.trans (bnd_ok hm))
  have R13:=Lib.hid rd
  have F13:=Lib.hid (F11.out.trans fr)
  have B14:=Lib.hid (B12.out.step fr)
  clear B12
  obtain ⟨kd,sf,st,ks,tx,Bb,Nn,Dd,Mm,nm,wf,wt,es⟩:=x13
  obtain ⟨ev,hu,hk0,ow⟩:=hrep
  simp only at hu hk0 ow
  subst hk0
  obtain ⟨us0,uc0,hev⟩:=owns_shape ow.1
  subst hev
  subst hu
  have KE:=Lib.hid (Own.mono ow F11.out.bel.size)
  clear ow
  clear hm rd fr E11 R11 F11
  have hne:w.heap.size≠w13.heap.size:=by have:=B14.out.mine.lt;omega
  have hal:Below w13.heap.size w13 (w13.alloc (.cells #[.int .i64 kd,.int .i64 sf,.int .i64 st,.slice none 0 0,.string tx,.int .i64 Bb,.string Nn,.int .i64 Dd,.string Mm,.int .i64 nm,.int .i64 wf,.int .i64 wt,.slice us0 es.length uc0] 61)):=(Below.refl _ _).alloc (Nat.le_refl _) _
  have B15:=Lib.hid (box_new R13.out F13.out #[.int .i64 kd,.int .i64 sf,.int .i64 st,.slice none 0 0,.string tx,.int .i64 Bb,.string Nn,.int .i64 Dd,.string Mm,.int .i64 nm,.int .i64 wf,.int .i64 wt,.slice us0 es.length uc0])
  have K16:=Lib.hid (KE.out.step (Fr.of_below hal R13.out.hB))
  clear KE
  have B17:=Lib.hid (B14.out.step (Fr.of_below hal R13.out.hB))
  clear B14
  have R15:=Lib.hid (R13.out.step hal)
  have F15:=Lib.hid (F13.out.below hal R13.out.hB)
  clear hal R13 F13
  go_wp2_with fail
  refine (want_any R15.out _ (fun e=>HO.out (E13.out.trans (bnd_out e)))).mono ?_
  rintro e w18 (⟨x18,t18,v18,u18,hm,rfl,hrep,rd,fr⟩|⟨c,x,hm,rfl,hb⟩)
  rotate_left
  ·go_wp2_with fail
   exact ⟨rfl,rq_bad (E13.out.trans (bnd_bad hm)) (F15.out.bel.trans hb)⟩
  obtain rfl:u18 = .tuple #[]:=hrep
  have E18:=Lib.hid (E13.out.trans (bnd_ok hm))
  have R18:=Lib.hid rd
  have F18:=Lib.hid (F15.out.trans fr)
  have K19:=Lib.hid (K16.out.step fr)
  clear K16
  have B20:=Lib.hid (B17.out.step fr)
  clear B17
  have B21:=Lib.hid (B15.out.step fr)
  clear B15
  have hnx:0<t18.next:=want_next hm
  clear hm rd fr E13 R15 F15
  have hty:typeB ⟨kd,sf,st,[],tx,Bb,Nn,Dd,Mm,nm,wf,wt,es⟩=true:=by
   cases hq:typeB ⟨kd,sf,st,[],tx,Bb,Nn,Dd,Mm,nm,wf,wt,es⟩
   ·exact (HO.out (E18.out.trans (if_pos_go hq))).elim
   ·rfl
  have htf:=type_facts hty
  simp only at htf
  have E22:=Lib.hid (E18.out.trans (if_neg_go (fun e=>by rw [hty] at e;cases e)))
  clear E18
  clear hty
  obtain ⟨d,rfl⟩:∃ d:Nat,Dd=d:=⟨Dd.toNat,by omega⟩
  have hM:Mm.size=d+1:=by omega
  have hd4:d<=4:=by omega
  clear htf
  have hfr:=free_of (n:=⟨kd,sf,st,[],tx,Bb,Nn,(d:Int),Mm,nm,wf,wt,es⟩) (d:=d) rfl
  simp only at hfr
  obtain ⟨⟨a0,a1,a2,a3,a4,a5,a6,a7,a8,a9,a10,a11,a12⟩,al,af⟩:=(show BoxN w18 (w13.heap.size) [.int .i64 kd,.int .i64 sf,.int .i64 st,.slice none 0 0,.string tx,.int .i64 Bb,.string Nn,.int .i64 (d:Int),.string Mm,.int .i64 nm,.int .i64 wf,.int .i64 wt,.slice us0 es.length uc0] from B21.out.box).all
  go_wp2_with fail
  clear a0 a1 a2 a3 a4 a5 a6 a7 a8 a9 a10 a11 a12 al af
  refine (free_any Bb Nn d Mm _ hM hd4).mono ?_
  rintro e w23 ⟨rfl,hb⟩
  have R23:=Lib.hid (R18.out.step hb)
  have F23:=Lib.hid (F18.out.below hb R18.out.hB)
  have K24:=Lib.hid (K19.out.step (Fr.of_below hb R18.out.hB))
  clear K19
  have B25:=Lib.hid (B20.out.step (Fr.of_below hb R18.out.hB))
  clear B20
  have B26:=Lib.hid (B21.out.step (Fr.of_below hb R18.out.hB))
  clear B21
  clear hb R18 F18
  cases hc:freeT Bb Mm d
  ·have E27:=Lib.hid (E22.out.trans (if_pos_go (hfr.trans hc)))
   clear E22
   go_wp2_with fail
   refine (fail_any 5 _ _).mono ?_
   rintro e w28 ⟨rfl,rfl⟩
   go_wp2_with fail
   exact ⟨rfl,rq_bad (E27.out.trans thr_go) F23.out.bel⟩
  ·have E29:=Lib.hid (E22.out.trans (if_neg_go (fun e=>by rw [hfr,hc] at e;cases e)))
   clear E22
   obtain ⟨⟨a0,a1,a2,a3,a4,a5,a6,a7,a8,a9,a10,a11,a12⟩,al,af⟩:=(show BoxN w23 (w13.heap.size) [.int .i64 kd,.int .i64 sf,.int .i64 st,.slice none 0 0,.string tx,.int .i64 Bb,.string Nn,.int .i64 (d:Int),.string Mm,.int .i64 nm,.int .i64 wf,.int .i64 wt,.slice us0 es.length uc0] from B26.out.box).all
   go_wp2_with fail
   clear a0 a1 a2 a3 a4 a5 a6 a7 a8 a9 a10 a11 a12 al af
   refine (marked_any' Bb Nn d Mm ⟨#[111]⟩ _ hM hd4 rfl).mono ?_
   rintro e w30 ⟨rfl,hb⟩
   have R30:=Lib.hid (R23.out.step hb)
   have F30:=Lib.hid (F23.out.below hb R23.out.hB)
   have K31:=Lib.hid (K24.out.step (Fr.of_below hb R23.out.hB))
   clear K24
   have B32:=Lib.hid (B25.out.step (Fr.of_below hb R23.out.hB))
   clear B25
   have B33:=Lib.hid (B26.out.step (Fr.of_below hb R23.out.hB))
   clear B26
   clear hb R23 F23
   obtain ⟨⟨a0,a1,a2,a3,a4,a5,a6,a7,a8,a9,a10,a11,a12⟩,al,af⟩:=(show BoxN w30 (w13.heap.size) [.int .i64 kd,.int .i64 sf,.int .i64 st,.slice none 0 0,.string tx,.int .i64 Bb,.string Nn,.int .i64 (d:Int),.string Mm,.int .i64 nm,.int .i64 wf,.int .i64 wt,.slice us0 es.length uc0] from B33.out.box).all
   obtain ⟨rd,fr,bx⟩:=box_set HR0.out R30.out F30.out B33.out 5 (.int .i64 Bb)
   have K35:=Lib.hid (K31.out.set B33.out 5 (.int .i64 Bb))
   clear K31
   have R34:=Lib.hid rd
   have F34:=Lib.hid fr
   have B34:=Lib.hid bx
   clear rd fr bx R30 F30 B33
   have B36:=Lib.hid (B32.out.other (kn:=w13.heap.size) (by omega) 5 (.int .i64 Bb))
   clear B32
   obtain ⟨rd,fr,bx⟩:=box_set HR0.out R34.out F34.out B34.out 6 (.string Nn)
   have K38:=Lib.hid (K35.out.set B34.out 6 (.string Nn))
   clear K35
   have R37:=Lib.hid rd
   have F37:=Lib.hid fr
   have B37:=Lib.hid bx
   clear rd fr bx R34 F34 B34
   have B39:=Lib.hid (B36.out.other (kn:=w13.heap.size) (by omega) 6 (.string Nn))
   clear B36
   obtain ⟨rd,fr,bx⟩:=box_set HR0.out R37.out F37.out B37.out 7 (.int .i64 (d:Int))
   have K41:=Lib.hid (K38.out.set B37.out 7 (.int .i64 (d:Int)))
   clear K38
   have R40:=Lib.hid rd
   have F40:=Lib.hid fr
   have B40:=Lib.hid bx
   clear rd fr bx R37 F37 B37
   have B42:=Lib.hid (B39.out.other (kn:=w13.heap.size) (by omega) 7 (.int .i64 (d:Int)))
   clear B39
   obtain ⟨rd,fr,bx⟩:=box_set HR0.out R40.out F40.out B40.out 8 (.string (Mm.extract 0 d ++ ⟨#[111]⟩))
   have K44:=Lib.hid (K41.out.set B40.out 8 (.string (Mm.extract 0 d ++ ⟨#[111]⟩)))
   clear K41
   have R43:=Lib.hid rd
   have F43:=Lib.hid fr
   have B43:=Lib.hid bx
   clear rd fr bx R40 F40 B40
   have B45:=Lib.hid (B42.out.other (kn:=w13.heap.size) (by omega) 8 (.string (Mm.extract 0 d ++ ⟨#[111]⟩)))
   clear B42
   go_wp2_with fail
   clear a0 a1 a2 a3 a4 a5 a6 a7 a8 a9 a10 a11 a12 al af
   refine (since_any R43.out hnx _).mono ?_
   rintro e w46 ⟨rfl,hb⟩
   have R46:=Lib.hid (R43.out.step hb)
   have F46:=Lib.hid (F43.out.below hb R43.out.hB)
   have K47:=Lib.hid (K44.out.step (Fr.of_below hb R43.out.hB))
   clear K44
   have B48:=Lib.hid (B45.out.step (Fr.of_below hb R43.out.hB))
   clear B45
   have B49:=Lib.hid (B43.out.step (Fr.of_below hb R43.out.hB))
   clear B43
   clear hb R43 F43
   have E50:=Lib.hid (E29.out.trans look_go)
   clear E29
   have hne2:w.heap.size≠w13.heap.size:=hne
   have BRL:=Lib.hid B48.out
   obtain ⟨⟨a0,a1,a2,a3,a4,a5,a6,a7,a8,a9,a10,a11,a12⟩,al,af⟩:=(show BoxN w46 (w13.heap.size) [.int .i64 kd,.int .i64 sf,.int .i64 st,.slice none 0 0,.string tx,.int .i64 Bb,.string Nn,.int .i64 (d:Int),.string (Mm.extract 0 d ++ ⟨#[111]⟩),.int .i64 nm,.int .i64 wf,.int .i64 wt,.slice us0 es.length uc0] from B49.out.box).all
   obtain ⟨rd,fr,bx⟩:=box_set HR0.out R46.out F46.out B49.out 10 (.int .i64 (fromS C s:Nat))
   have K52:=Lib.hid (K47.out.set B49.out 10 (.int .i64 (fromS C s:Nat)))
   clear K47
   have R51:=Lib.hid rd
   have F51:=Lib.hid fr
   have B51:=Lib.hid bx
   clear rd fr bx R46 F46 B49
   have B53:=Lib.hid (B48.out.other (kn:=w13.heap.size) (by omega) 10 (.int .i64 (fromS C s:Nat)))
   clear B48
   obtain ⟨rd,fr,bx⟩:=box_set HR0.out R51.out F51.out B51.out 11 (.int .i64 (endS C t18:Nat))
   have K55:=Lib.hid (K52.out.set B51.out 11 (.int .i64 (endS C t18:Nat)))
   clear K52
   have R54:=Lib.hid rd
   have F54:=Lib.hid fr
   have B54:=Lib.hid bx
   clear rd fr bx R51 F51 B51
   have B56:=Lib.hid (B53.out.other (kn:=w13.heap.size) (by omega) 11 (.int .i64 (endS C t18:Nat)))
   clear B53
   have FIN:=Lib.hid (box_sets2 HR0.out [.int .i64 kd,.int .i64 sf,.int .i64 st,.slice none 0 0,.string tx,.int .i64 Bb,.string Nn,.int .i64 (d:Int),.string (Mm.extract 0 d ++ ⟨#[111]⟩),.int .i64 nm,.int .i64 (fromS C s:Nat),.int .i64 (endS C t18:Nat),.slice us0 es.length uc0] 0 R54.out F54.out B56.out K55.out)
   obtain ⟨⟨r0,r1,r2,r3,r4,r5,r6,r7,r8,r9,r10,r11,r12⟩,rl,rf⟩:=(show BoxN w46 (w.heap.size) [.int .i64 0,.int .i64 0,.int .i64 0,.slice none 0 0,.string ⟨#[]⟩,.int .i64 0,.string ⟨#[]⟩,.int .i64 0,.string ⟨#[]⟩,.int .i64 0,.int .i64 0,.int .i64 0,.slice none 0 0] from BRL.out.box).all
   go_wp2_with fail
   clear a0 a1 a2 a3 a4 a5 a6 a7 a8 a9 a10 a11 a12 al af
   refine bodyPost_ret (v:=.agg #[.int .i64 kd,.int .i64 sf,.int .i64 st,.slice none 0 0,.string tx,.int .i64 Bb,.string Nn,.int .i64 (d:Int),.string (Mm.extract 0 d ++ ⟨#[111]⟩),.int .i64 nm,.int .i64 (fromS C s:Nat),.int .i64 (endS C t18:Nat),.slice us0 es.length uc0]) (by simp [results,Tryz.results208,go_sem,r0,r1,r2,r3,r4,r5,r6,r7,r8,r9,r10,r11,r12,rl]) rfl ?_
   exact rq_ok (E50.out.trans ret_go) ⟨_,rfl,rfl,FIN.out.2.2⟩ FIN.out.1 FIN.out.2.1
theorem answer_any (h:Rd C dd bB b tv wv s v w) (hK:CK C) (ho:answerP C s ≠ .out):Calls Tryz.prog 186 #[.pointer (some ⟨b,0,none⟩)] w (RQ C dd bB b tv wv v w (repNd w b) (answerP C s)):=by
 have HR0:=Lib.hid h
 have R0:=Lib.hid h
 have F0:=Lib.hid (Fr.refl bB b v w)
 have HO:=Lib.hid ho
 have E0:=Lib.hid (congrFun (answerP.eq_1 C) s)
 clear h ho
 go_enter Tryz.func186,Tryz.ntmps186
 have hal:Below w.heap.size w (w.alloc (.cells #[.int .i64 0,.int .i64 0,.int .i64 0,.slice none 0 0,.string ⟨#[]⟩,.int .i64 0,.string ⟨#[]⟩,.int .i64 0,.string ⟨#[]⟩,.int .i64 0,.int .i64 0,.int .i64 0,.slice none 0 0] 61)):=(Below.refl _ _).alloc (Nat.le_refl _) _
 have B57:=Lib.hid (box_new R0.out F0.out #[.int .i64 0,.int .i64 0,.int .i64 0,.slice none 0 0,.string ⟨#[]⟩,.int .i64 0,.string ⟨#[]⟩,.int .i64 0,.string ⟨#[]⟩,.int .i64 0,.int .i64 0,.int .i64 0,.slice none 0 0])
 have R57:=Lib.hid (R0.out.step hal)
 have F57:=Lib.hid (F0.out.below hal R0.out.hB)
 clear hal R0 F0
 go_wp2_with fail
 refine (sees_any R57.out _).mono ?_
 rintro e w58 ⟨rfl,hb⟩
 have R58:=Lib.hid (R57.out.step hb)
 have F58:=Lib.hid (F57.out.below hb R57.out.hB)
 have B59:=Lib.hid (B57.out.step (Fr.of_below hb R57.out.hB))
 clear B57
 clear hb R57 F57
 have E60:=Lib.hid (E0.out.trans look_go)
 clear E0
 cases hc61:sees C (⟨#[118,111,105,100]⟩:ByteArray) s
 ·have E62:=Lib.hid (E60.out.trans (if_neg_go (fun e=>by rw [hc61] at e;cases e)))
  clear E60
  go_wp2_with fail
  refine (typed_any R58.out hK (fun e=>HO.out (E62.out.trans e))).mono ?_
  rintro e w63 (⟨x63,t63,v63,u63,hm,rfl,hrep,rd,fr⟩|⟨c,x,hm,rfl,hb⟩)
  rotate_left
  ·go_wp2_with fail
   exact ⟨rfl,rq_bad (E62.out.trans hm) (F58.out.bel.trans hb)⟩
  have E63:=Lib.hid (E62.out.trans hm)
  have R63:=Lib.hid rd
  have F63:=Lib.hid (F58.out.trans fr)
  have B64:=Lib.hid (B59.out.step fr)
  clear B59
  obtain ⟨kd,sf,st,ks,tx,Bb,Nn,Dd,Mm,nm,wf,wt,es⟩:=x63
  obtain ⟨ev,hu,hk0,ow⟩:=hrep
  simp only at hu hk0 ow
  subst hk0
  obtain ⟨us0,uc0,hev⟩:=owns_shape ow.1
  subst hev
  subst hu
  have KE:=Lib.hid (Own.mono ow F58.out.bel.size)
  clear ow
  clear hm rd fr E62 R58 F58
  have BRL:=Lib.hid B64.out
  have FIN:=Lib.hid (box_sets2 HR0.out [.int .i64 kd,.int .i64 sf,.int .i64 st,.slice none 0 0,.string tx,.int .i64 Bb,.string Nn,.int .i64 Dd,.string Mm,.int .i64 nm,.int .i64 wf,.int .i64 wt,.slice us0 es.length uc0] 0 R63.out F63.out B64.out KE.out)
  obtain ⟨⟨r0,r1,r2,r3,r4,r5,r6,r7,r8,r9,r10,r11,r12⟩,rl,rf⟩:=(show BoxN w63 (w.heap.size) [.int .i64 0,.int .i64 0,.int .i64 0,.slice none 0 0,.string ⟨#[]⟩,.int .i64 0,.string ⟨#[]⟩,.int .i64 0,.string ⟨#[]⟩,.int .i64 0,.int .i64 0,.int .i64 0,.slice none 0 0] from BRL.out.box).all
  go_wp2_with fail
  refine bodyPost_ret (v:=.agg #[.int .i64 kd,.int .i64 sf,.int .i64 st,.slice none 0 0,.string tx,.int .i64 Bb,.string Nn,.int .i64 Dd,.string Mm,.int .i64 nm,.int .i64 wf,.int .i64 wt,.slice us0 es.length uc0]) (by simp [results,Tryz.results186,go_sem,r0,r1,r2,r3,r4,r5,r6,r7,r8,r9,r10,r11,r12,rl]) rfl ?_
  exact rq_ok (E63.out) ⟨_,rfl,rfl,FIN.out.2.2⟩ FIN.out.1 FIN.out.2.1
 ·have E65:=Lib.hid (E60.out.trans (if_pos_go hc61))
  clear E60
  go_wp2_with fail
  refine (from_any' R58.out).mono ?_
  rintro e w66 ⟨rfl,hb⟩
  have R66:=Lib.hid (R58.out.step hb)
  have F66:=Lib.hid (F58.out.below hb R58.out.hB)
  have B67:=Lib.hid (B59.out.step (Fr.of_below hb R58.out.hB))
  clear B59
  clear hb R58 F58
  have E68:=Lib.hid (E65.out.trans look_go)
  clear E65
  go_wp2_with fail
  refine (tbase_any R66.out hK 6 (fun e=>HO.out (E68.out.trans (bnd_out e)))).mono ?_
  rintro e w69 (⟨x69,t69,v69,u69,hm,rfl,hrep,rd,fr⟩|⟨c,x,hm,rfl,hb⟩)
  rotate_left
  ·go_wp2_with fail
   exact ⟨rfl,rq_bad (E68.out.trans (bnd_bad hm)) (F66.out.bel.trans hb)⟩
  have E69:=Lib.hid (E68.out.trans (bnd_ok hm))
  have R69:=Lib.hid rd
  have F69:=Lib.hid (F66.out.trans fr)
  have B70:=Lib.hid (B67.out.step fr)
  clear B67
  have hnx:0<t69.next:=(base_post hm).2
  obtain ⟨kd,sf,st,ks,tx,Bb,Nn,Dd,Mm,nm,wf,wt,es⟩:=x69
  obtain ⟨ev,hu,hk0,ow⟩:=hrep
  simp only at hu hk0 ow
  subst hk0
  obtain ⟨us0,uc0,hev⟩:=owns_shape ow.1
  subst hev
  subst hu
  have KE:=Lib.hid (Own.mono ow F66.out.bel.size)
  clear ow
  clear hm rd fr E68 R66 F66
  have hne:w.heap.size≠w69.heap.size:=by have:=B70.out.mine.lt;omega
  have hal:Below w69.heap.size w69 (w69.alloc (.cells #[.int .i64 kd,.int .i64 sf,.int .i64 st,.slice none 0 0,.string tx,.int .i64 Bb,.string Nn,.int .i64 Dd,.string Mm,.int .i64 nm,.int .i64 wf,.int .i64 wt,.slice us0 es.length uc0] 61)):=(Below.refl _ _).alloc (Nat.le_refl _) _
  have B71:=Lib.hid (box_new R69.out F69.out #[.int .i64 kd,.int .i64 sf,.int .i64 st,.slice none 0 0,.string tx,.int .i64 Bb,.string Nn,.int .i64 Dd,.string Mm,.int .i64 nm,.int .i64 wf,.int .i64 wt,.slice us0 es.length uc0])
  have K72:=Lib.hid (KE.out.step (Fr.of_below hal R69.out.hB))
  clear KE
  have B73:=Lib.hid (B70.out.step (Fr.of_below hal R69.out.hB))
  clear B70
  have R71:=Lib.hid (R69.out.step hal)
  have F71:=Lib.hid (F69.out.below hal R69.out.hB)
  clear hal R69 F69
  go_wp2_with fail
  refine (since_any R71.out hnx _).mono ?_
  rintro e w74 ⟨rfl,hb⟩
  have R74:=Lib.hid (R71.out.step hb)
  have F74:=Lib.hid (F71.out.below hb R71.out.hB)
  have K75:=Lib.hid (K72.out.step (Fr.of_below hb R71.out.hB))
  clear K72
  have B76:=Lib.hid (B73.out.step (Fr.of_below hb R71.out.hB))
  clear B73
  have B77:=Lib.hid (B71.out.step (Fr.of_below hb R71.out.hB))
  clear B71
  clear hb R71 F71
  have E78:=Lib.hid (E69.out.trans look_go)
  clear E69
  have BRL:=Lib.hid B76.out
  obtain ⟨⟨a0,a1,a2,a3,a4,a5,a6,a7,a8,a9,a10,a11,a12⟩,al,af⟩:=(show BoxN w74 (w69.heap.size) [.int .i64 kd,.int .i64 sf,.int .i64 st,.slice none 0 0,.string tx,.int .i64 Bb,.string Nn,.int .i64 Dd,.string Mm,.int .i64 nm,.int .i64 wf,.int .i64 wt,.slice us0 es.length uc0] from B77.out.box).all
  obtain ⟨rd,fr,bx⟩:=box_set HR0.out R74.out F74.out B77.out 10 (.int .i64 (fromS C s:Nat))
  have K80:=Lib.hid (K75.out.set B77.out 10 (.int .i64 (fromS C s:Nat)))
  clear K75
  have R79:=Lib.hid rd
  have F79:=Lib.hid fr
  have B79:=Lib.hid bx
  clear rd fr bx R74 F74 B77
  have B81:=Lib.hid (B76.out.other (kn:=w69.heap.size) (by omega) 10 (.int .i64 (fromS C s:Nat)))
  clear B76
  obtain ⟨rd,fr,bx⟩:=box_set HR0.out R79.out F79.out B79.out 11 (.int .i64 (endS C t69:Nat))
  have K83:=Lib.hid (K80.out.set B79.out 11 (.int .i64 (endS C t69:Nat)))
  clear K80
  have R82:=Lib.hid rd
  have F82:=Lib.hid fr
  have B82:=Lib.hid bx
  clear rd fr bx R79 F79 B79
  have B84:=Lib.hid (B81.out.other (kn:=w69.heap.size) (by omega) 11 (.int .i64 (endS C t69:Nat)))
  clear B81
  have FIN:=Lib.hid (box_sets2 HR0.out [.int .i64 kd,.int .i64 sf,.int .i64 st,.slice none 0 0,.string tx,.int .i64 Bb,.string Nn,.int .i64 Dd,.string Mm,.int .i64 nm,.int .i64 (fromS C s:Nat),.int .i64 (endS C t69:Nat),.slice us0 es.length uc0] 0 R82.out F82.out B84.out K83.out)
  obtain ⟨⟨r0,r1,r2,r3,r4,r5,r6,r7,r8,r9,r10,r11,r12⟩,rl,rf⟩:=(show BoxN w74 (w.heap.size) [.int .i64 0,.int .i64 0,.int .i64 0,.slice none 0 0,.string ⟨#[]⟩,.int .i64 0,.string ⟨#[]⟩,.int .i64 0,.string ⟨#[]⟩,.int .i64 0,.int .i64 0,.int .i64 0,.slice none 0 0] from BRL.out.box).all
  go_wp2_with fail
  clear a0 a1 a2 a3 a4 a5 a6 a7 a8 a9 a10 a11 a12 al af
  refine bodyPost_ret (v:=.agg #[.int .i64 kd,.int .i64 sf,.int .i64 st,.slice none 0 0,.string tx,.int .i64 Bb,.string Nn,.int .i64 Dd,.string Mm,.int .i64 nm,.int .i64 (fromS C s:Nat),.int .i64 (endS C t69:Nat),.slice us0 es.length uc0]) (by simp [results,Tryz.results186,go_sem,r0,r1,r2,r3,r4,r5,r6,r7,r8,r9,r10,r11,r12,rl]) rfl ?_
  exact rq_ok (E78.out.trans ret_go) ⟨_,rfl,rfl,FIN.out.2.2⟩ FIN.out.1 FIN.out.2.1
end
end Go.Proofs.YtfehpdliobapfaaGreatDoor
namespace Go.Proofs.YtfehpdliobapfaaGreatDoor
open Go Go.RowKit
section
variable {C:PC} {dd d0 bB b:Nat} {tv wv:Value} {s s0:PS} {v v0 v1:RV} {w w0 w1 w':World} {u:Value} {l:List Int} {k:Nat} {cs:List Value}
theorem own_into2 (R0:Rd C d0 bB b tv wv s0 v0 w0) (R:Rd C dd bB b tv wv s v w) (F:Fr bB b v0 w0 v w) (h:Box w0 b v w k cs) (K:Own w0 b v w u l) (c:Value) (x:Int) :
  Rd C dd bB b tv wv s v (((w.setCell ⟨k,0,none⟩ c).setCell ⟨k,3,none⟩ (.slice (some ⟨w.heap.size,0,none⟩) 1 1)).alloc (.cells #[.int .i64 x] 3))/\Fr bB b v0 w0 v (((w.setCell ⟨k,0,none⟩ c).setCell ⟨k,3,none⟩ (.slice (some ⟨w.heap.size,0,none⟩) 1 1)).alloc (.cells #[.int .i64 x] 3)) /\
  Box w0 b v (((w.setCell ⟨k,0,none⟩ c).setCell ⟨k,3,none⟩ (.slice (some ⟨w.heap.size,0,none⟩) 1 1)).alloc (.cells #[.int .i64 x] 3)) k ((cs.set 0 c).set 3 (.slice (some ⟨w.heap.size,0,none⟩) 1 1))/\Own w0 b v (((w.setCell ⟨k,0,none⟩ c).setCell ⟨k,3,none⟩ (.slice (some ⟨w.heap.size,0,none⟩) 1 1)).alloc (.cells #[.int .i64 x] 3)) (.slice (some ⟨w.heap.size,0,none⟩) 1 1) [x] /\
  Own w0 b v (((w.setCell ⟨k,0,none⟩ c).setCell ⟨k,3,none⟩ (.slice (some ⟨w.heap.size,0,none⟩) 1 1)).alloc (.cells #[.int .i64 x] 3)) u l:=by
 obtain ⟨R1,F1,B1⟩:=box_set R0 R F h 0 c
 have K1:=K.set h 0 c
 have hs:(w.setCell ⟨k,0,none⟩ c).heap.size=w.heap.size:=by simp
 have K2:=K1.set B1 3 (.slice (some ⟨w.heap.size,0,none⟩) 1 1)
 obtain ⟨R2,F2,B2,Q2⟩:=own_into R0 R1 F1 B1 3 x
 obtain ⟨R3,F3,B3⟩:=box_set R0 R1 F1 B1 3 (.slice (some ⟨w.heap.size,0,none⟩) 1 1)
 rw [hs] at R2 F2 B2 Q2
 exact ⟨R2,F2,B2,Q2,K2.step (Fr.of_below ((Below.refl _ _).alloc (Nat.le_refl _) _) R3.hB)⟩
theorem own_into1 (R0:Rd C d0 bB b tv wv s0 v0 w0) (R:Rd C dd bB b tv wv s v w) (F:Fr bB b v0 w0 v w) (h:Box w0 b v w k cs) (K:Own w0 b v w u l) (j:Nat) (x:Int) :
  Own w0 b v ((w.setCell ⟨k,j,none⟩ (.slice (some ⟨w.heap.size,0,none⟩) 1 1)).alloc (.cells #[.int .i64 x] 3)) u l:=by
 obtain ⟨R1,F1,B1⟩:=box_set R0 R F h j (.slice (some ⟨w.heap.size,0,none⟩) 1 1)
 exact (K.set h j _).step (Fr.of_below ((Below.refl _ _).alloc (Nat.le_refl _) _) R1.hB)
end
end Go.Proofs.YtfehpdliobapfaaGreatDoor
namespace Go.Proofs.YtfehpdliobapfaaGreatDoor
open Go Go.RowKit
section
variable {C:PC} {dd bB b:Nat} {tv wv:Value} {s:PS} {v v1:RV} {w w1:World}
theorem param_any (h:Rd C dd bB b tv wv s v w) (hK:CK C) (ho:paramP C s ≠ .out):Calls Tryz.prog 206 #[.pointer (some ⟨b,0,none⟩)] w (RQ C dd bB b tv wv v w repN (paramP C s)):=by
 have HR0:=Lib.hid h
 have R0:=Lib.hid h
 have F0:=Lib.hid (Fr.refl bB b v w)
 have HO:=Lib.hid ho
 have E0:=Lib.hid (congrFun (paramP.eq_1 C) s)
 clear h ho
 go_enter Tryz.func206,Tryz.ntmps206
 go_wp2_with fail
 refine (from_any' R0.out).mono ?_
 rintro e w85 ⟨rfl,hb⟩
 have R85:=Lib.hid (R0.out.step hb)
 have F85:=Lib.hid (F0.out.below hb R0.out.hB)
 clear hb R0 F0
 have E86:=Lib.hid (E0.out.trans look_go)
 clear E0
 go_wp2_with fail
 refine (typed_any R85.out hK (fun e=>HO.out (E86.out.trans (bnd_out e)))).mono ?_
 rintro e w87 (⟨x87,t87,v87,u87,hm,rfl,hrep,rd,fr⟩|⟨c,x,hm,rfl,hb⟩)
 rotate_left
 ·go_wp2_with fail
  exact ⟨rfl,rq_bad (E86.out.trans (bnd_bad hm)) (F85.out.bel.trans hb)⟩
 have E87:=Lib.hid (E86.out.trans (bnd_ok hm))
 have R87:=Lib.hid rd
 have F87:=Lib.hid (F85.out.trans fr)
 obtain ⟨kd,sf,st,ks,tx,Bb,Nn,Dd,Mm,nm,wf,wt,es⟩:=x87
 obtain ⟨ev,hu,hk0,ow⟩:=hrep
 simp only at hu hk0 ow
 subst hk0
 obtain ⟨us0,uc0,hev⟩:=owns_shape ow.1
 subst hev
 subst hu
 have KE:=Lib.hid (Own.mono ow F85.out.bel.size)
 clear ow
 clear hm rd fr E86 R85 F85
 have hal:Below w87.heap.size w87 (w87.alloc (.cells #[.int .i64 kd,.int .i64 sf,.int .i64 st,.slice none 0 0,.string tx,.int .i64 Bb,.string Nn,.int .i64 Dd,.string Mm,.int .i64 nm,.int .i64 wf,.int .i64 wt,.slice us0 es.length uc0] 61)):=(Below.refl _ _).alloc (Nat.le_refl _) _
 have B88:=Lib.hid (box_new R87.out F87.out #[.int .i64 kd,.int .i64 sf,.int .i64 st,.slice none 0 0,.string tx,.int .i64 Bb,.string Nn,.int .i64 Dd,.string Mm,.int .i64 nm,.int .i64 wf,.int .i64 wt,.slice us0 es.length uc0])
 have K89:=Lib.hid (KE.out.step (Fr.of_below hal R87.out.hB))
 clear KE
 have R88:=Lib.hid (R87.out.step hal)
 have F88:=Lib.hid (F87.out.below hal R87.out.hB)
 clear hal R87 F87
 go_wp2_with fail
 refine (name_any R88.out hK (fun e=>HO.out (E87.out.trans (bnd_out e)))).mono ?_
 rintro e w90 (⟨x90,t90,v90,u90,hm,rfl,hrep,rd,fr⟩|⟨c,x,hm,rfl,hb⟩)
 rotate_left
 ·go_wp2_with fail
  exact ⟨rfl,rq_bad (E87.out.trans (bnd_bad hm)) (F88.out.bel.trans hb)⟩
 obtain rfl:u90 = .string x90:=hrep
 have E90:=Lib.hid (E87.out.trans (bnd_ok hm))
 have R90:=Lib.hid rd
 have F90:=Lib.hid (F88.out.trans fr)
 have K91:=Lib.hid (K89.out.step fr)
 clear K89
 have B92:=Lib.hid (B88.out.step fr)
 clear B88
 clear hm rd fr E87 R88 F88
 obtain ⟨⟨a0,a1,a2,a3,a4,a5,a6,a7,a8,a9,a10,a11,a12⟩,al,af⟩:=(show BoxN w90 (w87.heap.size) [.int .i64 kd,.int .i64 sf,.int .i64 st,.slice none 0 0,.string tx,.int .i64 Bb,.string Nn,.int .i64 Dd,.string Mm,.int .i64 nm,.int .i64 wf,.int .i64 wt,.slice us0 es.length uc0] from B92.out.box).all
 obtain ⟨rd,fr,bx⟩:=box_set HR0.out R90.out F90.out B92.out 0 (.int .i64 7)
 have K94:=Lib.hid (K91.out.set B92.out 0 (.int .i64 7))
 clear K91
 have R93:=Lib.hid rd
 have F93:=Lib.hid fr
 have B93:=Lib.hid bx
 clear rd fr bx R90 F90 B92
 obtain ⟨rd,fr,bx⟩:=box_set HR0.out R93.out F93.out B93.out 4 (.string x90)
 have K96:=Lib.hid (K94.out.set B93.out 4 (.string x90))
 clear K94
 have R95:=Lib.hid rd
 have F95:=Lib.hid fr
 have B95:=Lib.hid bx
 clear rd fr bx R93 F93 B93
 go_wp2_with fail
 clear a0 a1 a2 a3 a4 a5 a6 a7 a8 a9 a10 a11 a12 al af
 refine (make_any 7 sf st [] x90 Bb Nn Dd Mm nm wf wt es _ _ (fromS C s) R95.out (fun e=>HO.out (E90.out.trans e)) (lst_none _ _ _) K96.out.lst).mono ?_
 rintro e w97 (⟨x97,t97,v97,u97,hm,rfl,hrep,rd,fr⟩|⟨c,x,hm,rfl,hb⟩)
 rotate_left
 ·go_wp2_with fail
  exact ⟨rfl,rq_bad (E90.out.trans hm) (F95.out.bel.trans hb)⟩
 obtain rfl:u97 = .int .i64 (x97:Nat):=hrep
 have E97:=Lib.hid (E90.out.trans hm)
 have R97:=Lib.hid rd
 have F97:=Lib.hid (F95.out.trans fr)
 have K98:=Lib.hid (K96.out.step fr)
 clear K96
 have B99:=Lib.hid (B95.out.step fr)
 clear B95
 clear hm rd fr E90 R95 F95
 go_wp2_with fail
 go_ret
 exact rq_ok E97.out rfl R97.out F97.out
theorem decl_any (h:Rd C dd bB b tv wv s v w) {value:PM Nat} (HV:Does C dd bB b tv wv 249 value) (hK:CK C) (ho:declP C value s ≠ .out):Calls Tryz.prog 239 #[.pointer (some ⟨b,0,none⟩)] w (RQ C dd bB b tv wv v w repN (declP C value s)):=by
 have HR0:=Lib.hid h
 have R0:=Lib.hid h
 have F0:=Lib.hid (Fr.refl bB b v w)
 have HO:=Lib.hid ho
 have E0:=Lib.hid (congrFun (declP.eq_1 C value) s)
 clear h ho
 go_enter Tryz.func239,Tryz.ntmps239
 go_wp2_with fail
 refine (from_any' R0.out).mono ?_
 rintro e w100 ⟨rfl,hb⟩
 have R100:=Lib.hid (R0.out.step hb)
 have F100:=Lib.hid (F0.out.below hb R0.out.hB)
 clear hb R0 F0
 have E101:=Lib.hid (E0.out.trans look_go)
 clear E0
 go_wp2_with fail
 refine (typed_any R100.out hK (fun e=>HO.out (E101.out.trans (bnd_out e)))).mono ?_
 rintro e w102 (⟨x102,t102,v102,u102,hm,rfl,hrep,rd,fr⟩|⟨c,x,hm,rfl,hb⟩)
 rotate_left
 ·go_wp2_with fail
  exact ⟨rfl,rq_bad (E101.out.trans (bnd_bad hm)) (F100.out.bel.trans hb)⟩
 have E102:=Lib.hid (E101.out.trans (bnd_ok hm))
 have R102:=Lib.hid rd
 have F102:=Lib.hid (F100.out.trans fr)
 obtain ⟨kd,sf,st,ks,tx,Bb,Nn,Dd,Mm,nm,wf,wt,es⟩:=x102
 obtain ⟨ev,hu,hk0,ow⟩:=hrep
 simp only at hu hk0 ow
 subst hk0
 obtain ⟨us0,uc0,hev⟩:=owns_shape ow.1
 subst hev
 subst hu
 have KE:=Lib.hid (Own.mono ow F100.out.bel.size)
 clear ow
 clear hm rd fr E101 R100 F100
 have hal:Below w102.heap.size w102 (w102.alloc (.cells #[.int .i64 kd,.int .i64 sf,.int .i64 st,.slice none 0 0,.string tx,.int .i64 Bb,.string Nn,.int .i64 Dd,.string Mm,.int .i64 nm,.int .i64 wf,.int .i64 wt,.slice us0 es.length uc0] 61)):=(Below.refl _ _).alloc (Nat.le_refl _) _
 have B103:=Lib.hid (box_new R102.out F102.out #[.int .i64 kd,.int .i64 sf,.int .i64 st,.slice none 0 0,.string tx,.int .i64 Bb,.string Nn,.int .i64 Dd,.string Mm,.int .i64 nm,.int .i64 wf,.int .i64 wt,.slice us0 es.length uc0])
 have K104:=Lib.hid (KE.out.step (Fr.of_below hal R102.out.hB))
 clear KE
 have R103:=Lib.hid (R102.out.step hal)
 have F103:=Lib.hid (F102.out.below hal R102.out.hB)
 clear hal R102 F102
 go_wp2_with fail
 refine (name_any R103.out hK (fun e=>HO.out (E102.out.trans (bnd_out e)))).mono ?_
 rintro e w105 (⟨x105,t105,v105,u105,hm,rfl,hrep,rd,fr⟩|⟨c,x,hm,rfl,hb⟩)
 rotate_left
 ·go_wp2_with fail
  exact ⟨rfl,rq_bad (E102.out.trans (bnd_bad hm)) (F103.out.bel.trans hb)⟩
 obtain rfl:u105 = .string x105:=hrep
 have E105:=Lib.hid (E102.out.trans (bnd_ok hm))
 have R105:=Lib.hid rd
 have F105:=Lib.hid (F103.out.trans fr)
 have K106:=Lib.hid (K104.out.step fr)
 clear K104
 have B107:=Lib.hid (B103.out.step fr)
 clear B103
 clear hm rd fr E102 R103 F103
 obtain ⟨⟨a0,a1,a2,a3,a4,a5,a6,a7,a8,a9,a10,a11,a12⟩,al,af⟩:=(show BoxN w105 (w102.heap.size) [.int .i64 kd,.int .i64 sf,.int .i64 st,.slice none 0 0,.string tx,.int .i64 Bb,.string Nn,.int .i64 Dd,.string Mm,.int .i64 nm,.int .i64 wf,.int .i64 wt,.slice us0 es.length uc0] from B107.out.box).all
 obtain ⟨rd,fr,bx⟩:=box_set HR0.out R105.out F105.out B107.out 0 (.int .i64 9)
 have K109:=Lib.hid (K106.out.set B107.out 0 (.int .i64 9))
 clear K106
 have R108:=Lib.hid rd
 have F108:=Lib.hid fr
 have B108:=Lib.hid bx
 clear rd fr bx R105 F105 B107
 obtain ⟨rd,fr,bx⟩:=box_set HR0.out R108.out F108.out B108.out 4 (.string x105)
 have K111:=Lib.hid (K109.out.set B108.out 4 (.string x105))
 clear K109
 have R110:=Lib.hid rd
 have F110:=Lib.hid fr
 have B110:=Lib.hid bx
 clear rd fr bx R108 F108 B108
 go_wp2_with fail
 clear a0 a1 a2 a3 a4 a5 a6 a7 a8 a9 a10 a11 a12 al af
 refine (take_any R110.out _ (fun e=>HO.out (E105.out.trans (bnd_out e)))).mono ?_
 rintro e w112 (⟨x112,t112,v112,u112,hm,rfl,hrep,rd,fr⟩|⟨c,x,hm,rfl,hb⟩)
 rotate_left
 ·go_wp2_with fail
  exact ⟨rfl,rq_bad (E105.out.trans (bnd_bad hm)) (F110.out.bel.trans hb)⟩
 obtain rfl:u112 = .bool x112:=hrep
 have E112:=Lib.hid (E105.out.trans (bnd_ok hm))
 have R112:=Lib.hid rd
 have F112:=Lib.hid (F110.out.trans fr)
 have K113:=Lib.hid (K111.out.step fr)
 clear K111
 have B114:=Lib.hid (B110.out.step fr)
 clear B110
 clear hm rd fr E105 R110 F110
 cases x112
 ·have E115:=Lib.hid (E112.out.trans (if_neg_go (by decide)))
  clear E112
  go_wp2_with fail
  refine (want_any R112.out _ (fun e=>HO.out (E115.out.trans (bnd_out e)))).mono ?_
  rintro e w116 (⟨x116,t116,v116,u116,hm,rfl,hrep,rd,fr⟩|⟨c,x,hm,rfl,hb⟩)
  rotate_left
  ·go_wp2_with fail
   exact ⟨rfl,rq_bad (E115.out.trans (bnd_bad hm)) (F112.out.bel.trans hb)⟩
  obtain rfl:u116 = .tuple #[]:=hrep
  have E116:=Lib.hid (E115.out.trans (bnd_ok hm))
  have R116:=Lib.hid rd
  have F116:=Lib.hid (F112.out.trans fr)
  have K117:=Lib.hid (K113.out.step fr)
  clear K113
  have B118:=Lib.hid (B114.out.step fr)
  clear B114
  clear hm rd fr E115 R112 F112
  obtain ⟨⟨a0,a1,a2,a3,a4,a5,a6,a7,a8,a9,a10,a11,a12⟩,al,af⟩:=(show BoxN w116 (w102.heap.size) [.int .i64 9,.int .i64 sf,.int .i64 st,.slice none 0 0,.string x105,.int .i64 Bb,.string Nn,.int .i64 Dd,.string Mm,.int .i64 nm,.int .i64 wf,.int .i64 wt,.slice us0 es.length uc0] from B118.out.box).all
  go_wp2_with fail
  clear a0 a1 a2 a3 a4 a5 a6 a7 a8 a9 a10 a11 a12 al af
  refine (make_any 9 sf st [] x105 Bb Nn Dd Mm nm wf wt es _ _ (fromS C s) R116.out (fun e=>HO.out (E116.out.trans e)) (lst_none _ _ _) K117.out.lst).mono ?_
  rintro e w119 (⟨x119,t119,v119,u119,hm,rfl,hrep,rd,fr⟩|⟨c,x,hm,rfl,hb⟩)
  rotate_left
  ·go_wp2_with fail
   exact ⟨rfl,rq_bad (E116.out.trans hm) (F116.out.bel.trans hb)⟩
  obtain rfl:u119 = .int .i64 (x119:Nat):=hrep
  have E119:=Lib.hid (E116.out.trans hm)
  have R119:=Lib.hid rd
  have F119:=Lib.hid (F116.out.trans fr)
  have K120:=Lib.hid (K117.out.step fr)
  clear K117
  have B121:=Lib.hid (B118.out.step fr)
  clear B118
  clear hm rd fr E116 R116 F116
  go_wp2_with fail
  go_ret
  exact rq_ok E119.out rfl R119.out F119.out
 ·have E122:=Lib.hid (E112.out.trans (if_pos_go rfl))
  clear E112
  go_wp2_with fail
  refine (HV _ _ _ R112.out (fun e=>HO.out (E122.out.trans (bnd_out e)))).mono ?_
  rintro e w123 (⟨x123,t123,v123,u123,hm,rfl,hrep,rd,fr⟩|⟨c,x,hm,rfl,hb⟩)
  rotate_left
  ·go_wp2_with fail
   exact ⟨rfl,rq_bad (E122.out.trans (bnd_bad hm)) (F112.out.bel.trans hb)⟩
  obtain rfl:u123 = .int .i64 (x123:Nat):=hrep
  have E123:=Lib.hid (E122.out.trans (bnd_ok hm))
  have R123:=Lib.hid rd
  have F123:=Lib.hid (F112.out.trans fr)
  have K124:=Lib.hid (K113.out.step fr)
  clear K113
  have B125:=Lib.hid (B114.out.step fr)
  clear B114
  clear hm rd fr E122 R112 F112
  obtain ⟨⟨a0,a1,a2,a3,a4,a5,a6,a7,a8,a9,a10,a11,a12⟩,al,af⟩:=(show BoxN w123 (w102.heap.size) [.int .i64 9,.int .i64 sf,.int .i64 st,.slice none 0 0,.string x105,.int .i64 Bb,.string Nn,.int .i64 Dd,.string Mm,.int .i64 nm,.int .i64 wf,.int .i64 wt,.slice us0 es.length uc0] from B125.out.box).all
  have K127:=Lib.hid (own_into1 HR0.out R123.out F123.out B125.out K124.out 3 (x123:Int))
  clear K124
  obtain ⟨rd,fr,bx,ow⟩:=own_into HR0.out R123.out F123.out B125.out 3 (x123:Int)
  have R126:=Lib.hid rd
  have F126:=Lib.hid fr
  have B126:=Lib.hid bx
  have K126:=Lib.hid ow
  clear rd fr bx ow R123 F123 B125
  go_wp2_with fail
  clear a0 a1 a2 a3 a4 a5 a6 a7 a8 a9 a10 a11 a12 al af
  refine (want_any R126.out _ (fun e=>HO.out (E123.out.trans (bnd_out e)))).mono ?_
  rintro e w128 (⟨x128,t128,v128,u128,hm,rfl,hrep,rd,fr⟩|⟨c,x,hm,rfl,hb⟩)
  rotate_left
  ·go_wp2_with fail
   exact ⟨rfl,rq_bad (E123.out.trans (bnd_bad hm)) (F126.out.bel.trans hb)⟩
  obtain rfl:u128 = .tuple #[]:=hrep
  have E128:=Lib.hid (E123.out.trans (bnd_ok hm))
  have R128:=Lib.hid rd
  have F128:=Lib.hid (F126.out.trans fr)
  have K129:=Lib.hid (K127.out.step fr)
  clear K127
  have K130:=Lib.hid (K126.out.step fr)
  clear K126
  have B131:=Lib.hid (B126.out.step fr)
  clear B126
  clear hm rd fr E123 R126 F126
  obtain ⟨⟨a0,a1,a2,a3,a4,a5,a6,a7,a8,a9,a10,a11,a12⟩,al,af⟩:=(show BoxN w128 (w102.heap.size) [.int .i64 9,.int .i64 sf,.int .i64 st,.slice (some ⟨w123.heap.size,0,none⟩) 1 1,.string x105,.int .i64 Bb,.string Nn,.int .i64 Dd,.string Mm,.int .i64 nm,.int .i64 wf,.int .i64 wt,.slice us0 es.length uc0] from B131.out.box).all
  go_wp2_with fail
  clear a0 a1 a2 a3 a4 a5 a6 a7 a8 a9 a10 a11 a12 al af
  refine (make_any 9 sf st [(x123:Int)] x105 Bb Nn Dd Mm nm wf wt es _ _ (fromS C s) R128.out (fun e=>HO.out (E128.out.trans e)) K130.out.lst K129.out.lst).mono ?_
  rintro e w132 (⟨x132,t132,v132,u132,hm,rfl,hrep,rd,fr⟩|⟨c,x,hm,rfl,hb⟩)
  rotate_left
  ·go_wp2_with fail
   exact ⟨rfl,rq_bad (E128.out.trans hm) (F128.out.bel.trans hb)⟩
  obtain rfl:u132 = .int .i64 (x132:Nat):=hrep
  have E132:=Lib.hid (E128.out.trans hm)
  have R132:=Lib.hid rd
  have F132:=Lib.hid (F128.out.trans fr)
  have K133:=Lib.hid (K129.out.step fr)
  clear K129
  have K134:=Lib.hid (K130.out.step fr)
  clear K130
  have B135:=Lib.hid (B131.out.step fr)
  clear B131
  clear hm rd fr E128 R128 F128
  go_wp2_with fail
  go_ret
  exact rq_ok E132.out rfl R132.out F132.out
theorem cast_any (h:Rd C dd bB b tv wv s v w) {value:PM Nat} (HV:Does C dd bB b tv wv 249 value) (hK:CK C) (ho:castP C value s ≠ .out):Calls Tryz.prog 268 #[.pointer (some ⟨b,0,none⟩)] w (RQ C dd bB b tv wv v w repN (castP C value s)):=by
 have HR0:=Lib.hid h
 have R0:=Lib.hid h
 have F0:=Lib.hid (Fr.refl bB b v w)
 have HO:=Lib.hid ho
 have E0:=Lib.hid (congrFun (castP.eq_1 C value) s)
 clear h ho
 go_enter Tryz.func268,Tryz.ntmps268
 go_wp2_with fail
 refine (from_any' R0.out).mono ?_
 rintro e w136 ⟨rfl,hb⟩
 have R136:=Lib.hid (R0.out.step hb)
 have F136:=Lib.hid (F0.out.below hb R0.out.hB)
 clear hb R0 F0
 have E137:=Lib.hid (E0.out.trans look_go)
 clear E0
 go_wp2_with fail
 refine (want_any R136.out _ (fun e=>HO.out (E137.out.trans (bnd_out e)))).mono ?_
 rintro e w138 (⟨x138,t138,v138,u138,hm,rfl,hrep,rd,fr⟩|⟨c,x,hm,rfl,hb⟩)
 rotate_left
 ·go_wp2_with fail
  exact ⟨rfl,rq_bad (E137.out.trans (bnd_bad hm)) (F136.out.bel.trans hb)⟩
 obtain rfl:u138 = .tuple #[]:=hrep
 have E138:=Lib.hid (E137.out.trans (bnd_ok hm))
 have R138:=Lib.hid rd
 have F138:=Lib.hid (F136.out.trans fr)
 clear hm rd fr E137 R136 F136
 go_wp2_with fail
 refine (want_any R138.out _ (fun e=>HO.out (E138.out.trans (bnd_out e)))).mono ?_
 rintro e w139 (⟨x139,t139,v139,u139,hm,rfl,hrep,rd,fr⟩|⟨c,x,hm,rfl,hb⟩)
 rotate_left
 ·go_wp2_with fail
  exact ⟨rfl,rq_bad (E138.out.trans (bnd_bad hm)) (F138.out.bel.trans hb)⟩
 obtain rfl:u139 = .tuple #[]:=hrep
 have E139:=Lib.hid (E138.out.trans (bnd_ok hm))
 have R139:=Lib.hid rd
 have F139:=Lib.hid (F138.out.trans fr)
 clear hm rd fr E138 R138 F138
 go_wp2_with fail
 refine (typed_any R139.out hK (fun e=>HO.out (E139.out.trans (bnd_out e)))).mono ?_
 rintro e w140 (⟨x140,t140,v140,u140,hm,rfl,hrep,rd,fr⟩|⟨c,x,hm,rfl,hb⟩)
 rotate_left
 ·go_wp2_with fail
  exact ⟨rfl,rq_bad (E139.out.trans (bnd_bad hm)) (F139.out.bel.trans hb)⟩
 have E140:=Lib.hid (E139.out.trans (bnd_ok hm))
 have R140:=Lib.hid rd
 have F140:=Lib.hid (F139.out.trans fr)
 obtain ⟨kd,sf,st,ks,tx,Bb,Nn,Dd,Mm,nm,wf,wt,es⟩:=x140
 obtain ⟨ev,hu,hk0,ow⟩:=hrep
 simp only at hu hk0 ow
 subst hk0
 obtain ⟨us0,uc0,hev⟩:=owns_shape ow.1
 subst hev
 subst hu
 have KE:=Lib.hid (Own.mono ow F139.out.bel.size)
 clear ow
 clear hm rd fr E139 R139 F139
 have hal:Below w140.heap.size w140 (w140.alloc (.cells #[.int .i64 kd,.int .i64 sf,.int .i64 st,.slice none 0 0,.string tx,.int .i64 Bb,.string Nn,.int .i64 Dd,.string Mm,.int .i64 nm,.int .i64 wf,.int .i64 wt,.slice us0 es.length uc0] 61)):=(Below.refl _ _).alloc (Nat.le_refl _) _
 have B141:=Lib.hid (box_new R140.out F140.out #[.int .i64 kd,.int .i64 sf,.int .i64 st,.slice none 0 0,.string tx,.int .i64 Bb,.string Nn,.int .i64 Dd,.string Mm,.int .i64 nm,.int .i64 wf,.int .i64 wt,.slice us0 es.length uc0])
 have K142:=Lib.hid (KE.out.step (Fr.of_below hal R140.out.hB))
 clear KE
 have R141:=Lib.hid (R140.out.step hal)
 have F141:=Lib.hid (F140.out.below hal R140.out.hB)
 clear hal R140 F140
 go_wp2_with fail
 refine (want_any R141.out _ (fun e=>HO.out (E140.out.trans (bnd_out e)))).mono ?_
 rintro e w143 (⟨x143,t143,v143,u143,hm,rfl,hrep,rd,fr⟩|⟨c,x,hm,rfl,hb⟩)
 rotate_left
 ·go_wp2_with fail
  exact ⟨rfl,rq_bad (E140.out.trans (bnd_bad hm)) (F141.out.bel.trans hb)⟩
 obtain rfl:u143 = .tuple #[]:=hrep
 have E143:=Lib.hid (E140.out.trans (bnd_ok hm))
 have R143:=Lib.hid rd
 have F143:=Lib.hid (F141.out.trans fr)
 have K144:=Lib.hid (K142.out.step fr)
 clear K142
 have B145:=Lib.hid (B141.out.step fr)
 clear B141
 clear hm rd fr E140 R141 F141
 go_wp2_with fail
 refine (within_any R143.out HV (fun e=>HO.out (E143.out.trans (bnd_out e)))).mono ?_
 rintro e w146 (⟨x146,t146,v146,u146,hm,rfl,hrep,rd,fr⟩|⟨c,x,hm,rfl,hb⟩)
 rotate_left
 ·go_wp2_with fail
  exact ⟨rfl,rq_bad (E143.out.trans (bnd_bad hm)) (F143.out.bel.trans hb)⟩
 obtain rfl:u146 = .int .i64 (x146:Nat):=hrep
 have E146:=Lib.hid (E143.out.trans (bnd_ok hm))
 have R146:=Lib.hid rd
 have F146:=Lib.hid (F143.out.trans fr)
 have K147:=Lib.hid (K144.out.step fr)
 clear K144
 have B148:=Lib.hid (B145.out.step fr)
 clear B145
 clear hm rd fr E143 R143 F143
 obtain ⟨⟨a0,a1,a2,a3,a4,a5,a6,a7,a8,a9,a10,a11,a12⟩,al,af⟩:=(show BoxN w146 (w140.heap.size) [.int .i64 kd,.int .i64 sf,.int .i64 st,.slice none 0 0,.string tx,.int .i64 Bb,.string Nn,.int .i64 Dd,.string Mm,.int .i64 nm,.int .i64 wf,.int .i64 wt,.slice us0 es.length uc0] from B148.out.box).all
 obtain ⟨rd,fr,bx,ow,kp⟩:=own_into2 HR0.out R146.out F146.out B148.out K147.out (.int .i64 35) (x146:Int)
 have R149:=Lib.hid rd
 have F149:=Lib.hid fr
 have B149:=Lib.hid bx
 have Q149:=Lib.hid ow
 have K149:=Lib.hid kp
 clear rd fr bx ow kp R146 F146 B148 K147
 go_wp2_with fail
 clear a0 a1 a2 a3 a4 a5 a6 a7 a8 a9 a10 a11 a12 al af
 refine (make_any 35 sf st [(x146:Int)] tx Bb Nn Dd Mm nm wf wt es _ _ (fromS C s) R149.out (fun e=>HO.out (E146.out.trans e)) Q149.out.lst K149.out.lst).mono ?_
 rintro e w150 (⟨x150,t150,v150,u150,hm,rfl,hrep,rd,fr⟩|⟨c,x,hm,rfl,hb⟩)
 rotate_left
 ·go_wp2_with fail
  exact ⟨rfl,rq_bad (E146.out.trans hm) (F149.out.bel.trans hb)⟩
 obtain rfl:u150 = .int .i64 (x150:Nat):=hrep
 have E150:=Lib.hid (E146.out.trans hm)
 have R150:=Lib.hid rd
 have F150:=Lib.hid (F149.out.trans fr)
 have K151:=Lib.hid (K149.out.step fr)
 clear K149
 have K152:=Lib.hid (Q149.out.step fr)
 clear Q149
 have B153:=Lib.hid (B149.out.step fr)
 clear B149
 clear hm rd fr E146 R149 F149
 go_wp2_with fail
 go_ret
 exact rq_ok E150.out rfl R150.out F150.out
end
end Go.Proofs.YtfehpdliobapfaaGreatDoor
namespace Go.Proofs.YtfehpdliobapfaaGreatDoor
open Go Go.RowKit
section
variable {C:PC} {dd bB b:Nat} {tv wv:Value} {s:PS} {v v1:RV} {w w1:World}
theorem declares_any (hK:CK C) (h:Rd C dd bB b tv wv s v w):Calls Tryz.prog 238 #[.pointer (some ⟨b,0,none⟩)] w fun e w'=>e = .returned (.bool (declares C s))/\Below w.heap.size w w':=by
 have HW:=Lib.hid (fun (k:Nat) (hk:k<=2) (w2:World) (hb:Below w.heap.size w w2)=>word_any (h.step hb) k hk)
 have HN:=Lib.hid (fun (k:Nat) (w2:World)=>L.name_any (wordS C k s) w2 (by have:=hK.size (s.next+k);unfold wordS;unfold maxLen;omega))
 have HD:=Lib.hid (show declares C s=_ from declares.eq_1 C s)
 have hc0:=hK.name (wordS C 0 s)
 have hc1:=hK.name (wordS C 1 s)
 rw [hc0,hc1] at HD
 have HW0:=Lib.hid (HW.out 0 (by omega))
 have HW1:=Lib.hid (HW.out 1 (by omega))
 have HW2:=Lib.hid (HW.out 2 (by omega))
 have HN0:=Lib.hid (HN.out 0)
 have HN1:=Lib.hid (HN.out 1)
 clear h hc0 hc1 HW HN
 generalize wordS C 0 s=y0 at *
 generalize wordS C 1 s=y1 at *
 generalize wordS C 2 s=y2 at *
 by_cases h0:y0=(⟨#[105,110,116]⟩:ByteArray)
 ·have n0:(y0.toList == [105,110,116])=true:=str_yes h0
  have E:Hid (declares C s=true):=Lib.hid (by rw [HD.out];simp [h0]<;>(rw [<- h8];exact a1))
  clear HD h0
  go_enter Tryz.func238,Tryz.ntmps238
  go_wp2_with fail
  refine (HW0.out _ (Below.refl _ _)).mono ?_
  rintro e w1 ⟨rfl,hb⟩
  have B1:=Lib.hid hb
  clear hb
  go_wp2_with fail
  refine (HW1.out _ B1.out).mono ?_
  rintro e w2 ⟨rfl,hb⟩
  have B2:=Lib.hid (after B1.out hb)
  clear hb B1
  go_wp2_with fail
  go_ret
  exact ⟨by rw [E.out]<;>rfl,B2.out⟩
 have n0:(y0.toList == [105,110,116])=false:=str_no h0
 by_cases h1:y0=(⟨#[98,111,111,108]⟩:ByteArray)
 ·have n1:(y0.toList == [98,111,111,108])=true:=str_yes h1
  have E:Hid (declares C s=true):=Lib.hid (by rw [HD.out];simp [h0,h1]<;>(rw [<- h8];exact a1))
  clear HD h0 h1
  go_enter Tryz.func238,Tryz.ntmps238
  go_wp2_with fail
  refine (HW0.out _ (Below.refl _ _)).mono ?_
  rintro e w1 ⟨rfl,hb⟩
  have B1:=Lib.hid hb
  clear hb
  go_wp2_with fail
  refine (HW1.out _ B1.out).mono ?_
  rintro e w2 ⟨rfl,hb⟩
  have B2:=Lib.hid (after B1.out hb)
  clear hb B1
  go_wp2_with fail
  go_ret
  exact ⟨by rw [E.out]<;>rfl,B2.out⟩
 have n1:(y0.toList == [98,111,111,108])=false:=str_no h1
 by_cases h2:y0=(⟨#[100,111,117,98,108,101]⟩:ByteArray)
 ·have n2:(y0.toList == [100,111,117,98,108,101])=true:=str_yes h2
  have E:Hid (declares C s=true):=Lib.hid (by rw [HD.out];simp [h0,h1,h2]<;>(rw [<- h8];exact a1))
  clear HD h0 h1 h2
  go_enter Tryz.func238,Tryz.ntmps238
  go_wp2_with fail
  refine (HW0.out _ (Below.refl _ _)).mono ?_
  rintro e w1 ⟨rfl,hb⟩
  have B1:=Lib.hid hb
  clear hb
  go_wp2_with fail
  refine (HW1.out _ B1.out).mono ?_
  rintro e w2 ⟨rfl,hb⟩
  have B2:=Lib.hid (after B1.out hb)
  clear hb B1
  go_wp2_with fail
  go_ret
  exact ⟨by rw [E.out]<;>rfl,B2.out⟩
 have n2:(y0.toList == [100,111,117,98,108,101])=false:=str_no h2
 by_cases h3:y0=(⟨#[115,116,114]⟩:ByteArray)
 ·have n3:(y0.toList == [115,116,114])=true:=str_yes h3
  have E:Hid (declares C s=true):=Lib.hid (by rw [HD.out];simp [h0,h1,h2,h3]<;>(rw [<- h8];exact a1))
  clear HD h0 h1 h2 h3
  go_enter Tryz.func238,Tryz.ntmps238
  go_wp2_with fail
  refine (HW0.out _ (Below.refl _ _)).mono ?_
  rintro e w1 ⟨rfl,hb⟩
  have B1:=Lib.hid hb
  clear hb
  go_wp2_with fail
  refine (HW1.out _ B1.out).mono ?_
  rintro e w2 ⟨rfl,hb⟩
  have B2:=Lib.hid (after B1.out hb)
  clear hb B1
  go_wp2_with fail
  go_ret
  exact ⟨by rw [E.out]<;>rfl,B2.out⟩
 have n3:(y0.toList == [115,116,114])=false:=str_no h3
 by_cases h4:y0=(⟨#[79,112,116,105,111,110]⟩:ByteArray)
 ·have n4:(y0.toList == [79,112,116,105,111,110])=true:=str_yes h4
  have E:Hid (declares C s=true):=Lib.hid (by rw [HD.out];simp [h0,h1,h2,h3,h4]<;>(rw [<- h8];exact a1))
  clear HD h0 h1 h2 h3 h4
  go_enter Tryz.func238,Tryz.ntmps238
  go_wp2_with fail
  refine (HW0.out _ (Below.refl _ _)).mono ?_
  rintro e w1 ⟨rfl,hb⟩
  have B1:=Lib.hid hb
  clear hb
  go_wp2_with fail
  refine (HW1.out _ B1.out).mono ?_
  rintro e w2 ⟨rfl,hb⟩
  have B2:=Lib.hid (after B1.out hb)
  clear hb B1
  go_wp2_with fail
  go_ret
  exact ⟨by rw [E.out]<;>rfl,B2.out⟩
 have n4:(y0.toList == [79,112,116,105,111,110])=false:=str_no h4
 cases a0:L.nameS y0
 ·have E:Hid (declares C s=false):=Lib.hid (by rw [HD.out];simp [h0,h1,h2,h3,h4,a0]<;>(rw [<- h8];exact a1))
  clear HD h0 h1 h2 h3 h4
  go_enter Tryz.func238,Tryz.ntmps238
  go_wp2_with fail
  refine (HW0.out _ (Below.refl _ _)).mono ?_
  rintro e w1 ⟨rfl,hb⟩
  have B1:=Lib.hid hb
  clear hb
  go_wp2_with fail
  refine (HW1.out _ B1.out).mono ?_
  rintro e w2 ⟨rfl,hb⟩
  have B2:=Lib.hid (after B1.out hb)
  clear hb B1
  go_wp2_with fail
  refine (HN0.out _).mono ?_
  rintro e w3 ⟨rfl,rfl⟩
  go_wp2_with fail
  go_ret
  exact ⟨by rw [E.out]<;>rfl,B2.out⟩
 ·cases a1:L.nameS y1
  ·by_cases h7:y1=(⟨#[63]⟩:ByteArray)
   ·have n7:(y1.toList == [63])=true:=str_yes h7
    have E:Hid (declares C s=true):=Lib.hid (by rw [HD.out];simp [h0,h1,h2,h3,h4,a0,a1,h7]<;>(rw [<- h8];exact a1))
    clear HD h0 h1 h2 h3 h4 h7
    go_enter Tryz.func238,Tryz.ntmps238
    go_wp2_with fail
    refine (HW0.out _ (Below.refl _ _)).mono ?_
    rintro e w1 ⟨rfl,hb⟩
    have B1:=Lib.hid hb
    clear hb
    go_wp2_with fail
    refine (HW1.out _ B1.out).mono ?_
    rintro e w2 ⟨rfl,hb⟩
    have B2:=Lib.hid (after B1.out hb)
    clear hb B1
    go_wp2_with fail
    refine (HN0.out _).mono ?_
    rintro e w3 ⟨rfl,rfl⟩
    go_wp2_with fail
    refine (HN1.out _).mono ?_
    rintro e w4 ⟨rfl,rfl⟩
    go_wp2_with fail
    go_ret
    exact ⟨by rw [E.out]<;>rfl,B2.out⟩
   have n7:(y1.toList == [63])=false:=str_no h7
   by_cases h8:y1=(⟨#[91]⟩:ByteArray)
   ·have n8:(y1.toList == [91])=true:=str_yes h8
    by_cases h9:y2=(⟨#[93]⟩:ByteArray)
    ·have n9:(y2.toList == [93])=true:=str_yes h9
     have E:Hid (declares C s=true):=Lib.hid (by rw [HD.out];simp [h0,h1,h2,h3,h4,a0,a1,h7,h8,h9]<;>(rw [<- h8];exact a1))
     clear HD h0 h1 h2 h3 h4 h7 h8 h9
     go_enter Tryz.func238,Tryz.ntmps238
     go_wp2_with fail
     refine (HW0.out _ (Below.refl _ _)).mono ?_
     rintro e w1 ⟨rfl,hb⟩
     have B1:=Lib.hid hb
     clear hb
     go_wp2_with fail
     refine (HW1.out _ B1.out).mono ?_
     rintro e w2 ⟨rfl,hb⟩
     have B2:=Lib.hid (after B1.out hb)
     clear hb B1
     go_wp2_with fail
     refine (HN0.out _).mono ?_
     rintro e w3 ⟨rfl,rfl⟩
     go_wp2_with fail
     refine (HN1.out _).mono ?_
     rintro e w4 ⟨rfl,rfl⟩
     go_wp2_with fail
     refine (HW2.out _ B2.out).mono ?_
     rintro e w5 ⟨rfl,hb⟩
     have B5:=Lib.hid (after B2.out hb)
     clear hb
     go_wp2_with fail
     go_ret
     exact ⟨by rw [E.out]<;>rfl,B5.out⟩
    ·have n9:(y2.toList == [93])=false:=str_no h9
     have E:Hid (declares C s=false):=Lib.hid (by rw [HD.out];simp [h0,h1,h2,h3,h4,a0,a1,h7,h8,h9]<;>(rw [<- h8];exact a1))
     clear HD h0 h1 h2 h3 h4 h7 h8 h9
     go_enter Tryz.func238,Tryz.ntmps238
     go_wp2_with fail
     refine (HW0.out _ (Below.refl _ _)).mono ?_
     rintro e w1 ⟨rfl,hb⟩
     have B1:=Lib.hid hb
     clear hb
     go_wp2_with fail
     refine (HW1.out _ B1.out).mono ?_
     rintro e w2 ⟨rfl,hb⟩
     have B2:=Lib.hid (after B1.out hb)
     clear hb B1
     go_wp2_with fail
     refine (HN0.out _).mono ?_
     rintro e w3 ⟨rfl,rfl⟩
     go_wp2_with fail
     refine (HN1.out _).mono ?_
     rintro e w4 ⟨rfl,rfl⟩
     go_wp2_with fail
     refine (HW2.out _ B2.out).mono ?_
     rintro e w5 ⟨rfl,hb⟩
     have B5:=Lib.hid (after B2.out hb)
     clear hb
     go_wp2_with fail
     go_ret
     exact ⟨by rw [E.out]<;>rfl,B5.out⟩
   ·have n8:(y1.toList == [91])=false:=str_no h8
    have E:Hid (declares C s=false):=Lib.hid (by rw [HD.out];simp [h0,h1,h2,h3,h4,a0,a1,h7,h8]<;>(rw [<- h8];exact a1))
    clear HD h0 h1 h2 h3 h4 h7 h8
    go_enter Tryz.func238,Tryz.ntmps238
    go_wp2_with fail
    refine (HW0.out _ (Below.refl _ _)).mono ?_
    rintro e w1 ⟨rfl,hb⟩
    have B1:=Lib.hid hb
    clear hb
    go_wp2_with fail
    refine (HW1.out _ B1.out).mono ?_
    rintro e w2 ⟨rfl,hb⟩
    have B2:=Lib.hid (after B1.out hb)
    clear hb B1
    go_wp2_with fail
    refine (HN0.out _).mono ?_
    rintro e w3 ⟨rfl,rfl⟩
    go_wp2_with fail
    refine (HN1.out _).mono ?_
    rintro e w4 ⟨rfl,rfl⟩
    go_wp2_with fail
    go_ret
    exact ⟨by rw [E.out]<;>rfl,B2.out⟩
  ·have E:Hid (declares C s=true):=Lib.hid (by rw [HD.out];simp [h0,h1,h2,h3,h4,a0,a1]<;>(rw [<- h8];exact a1))
   clear HD h0 h1 h2 h3 h4
   go_enter Tryz.func238,Tryz.ntmps238
   go_wp2_with fail
   refine (HW0.out _ (Below.refl _ _)).mono ?_
   rintro e w1 ⟨rfl,hb⟩
   have B1:=Lib.hid hb
   clear hb
   go_wp2_with fail
   refine (HW1.out _ B1.out).mono ?_
   rintro e w2 ⟨rfl,hb⟩
   have B2:=Lib.hid (after B1.out hb)
   clear hb B1
   go_wp2_with fail
   refine (HN0.out _).mono ?_
   rintro e w3 ⟨rfl,rfl⟩
   go_wp2_with fail
   refine (HN1.out _).mono ?_
   rintro e w4 ⟨rfl,rfl⟩
   go_wp2_with fail
   go_ret
   exact ⟨by rw [E.out]<;>rfl,B2.out⟩
end
end Go.Proofs.YtfehpdliobapfaaGreatDoor
namespace Go.Proofs.YtfehpdliobapfaaGreatDoor
open Go Go.RowKit
section
variable {C:PC} {dd bB b:Nat} {tv wv:Value} {s:PS} {v v1:RV} {w w1:World}
theorem alone_any (B:Int) (N:ByteArray) (D:Int) (M:ByteArray) (w:World):Calls Tryz.prog 273 #[.agg #[.int .i64 B,.string N,.int .i64 D,.string M]] w fun e w'=>e = .returned (.bool (decide (B=5) && decide (M=⟨#[32]⟩)))/\Below w.heap.size w w':=by
 by_cases hB:B=5
 ·have p1:(B == 5)=true:=by simp [hB]
  by_cases hM:M=(⟨#[32]⟩:ByteArray)
  ·have n1:(M.toList == [32])=true:=str_yes hM
   have E:Hid ((decide (B=5) && decide (M=⟨#[32]⟩))=true):=Lib.hid (by rw [decide_eq_true hB,decide_eq_true hM];rfl)
   clear hB hM
   go_enter Tryz.func273,Tryz.ntmps273
   go_wp2_with fail
   go_ret
   exact ⟨by rw [E.out]<;>rfl,by repeat (first|exact Below.refl _ _|apply Below.setCell _ (by first|omega|(simp<;>omega))|apply Below.alloc _ (by first|omega|(simp<;>omega)))⟩
  ·have n1:(M.toList == [32])=false:=str_no hM
   have E:Hid ((decide (B=5) && decide (M=⟨#[32]⟩))=false):=Lib.hid (by rw [decide_eq_false hM,Bool.and_false])
   clear hB hM
   go_enter Tryz.func273,Tryz.ntmps273
   go_wp2_with fail
   go_ret
   exact ⟨by rw [E.out]<;>rfl,by repeat (first|exact Below.refl _ _|apply Below.setCell _ (by first|omega|(simp<;>omega))|apply Below.alloc _ (by first|omega|(simp<;>omega)))⟩
 ·have p1:(B == 5)=false:=by simp [hB]
  have E:Hid ((decide (B=5) && decide (M=⟨#[32]⟩))=false):=Lib.hid (by rw [decide_eq_false hB];rfl)
  clear hB
  go_enter Tryz.func273,Tryz.ntmps273
  go_wp2_with fail
  go_ret
  exact ⟨by rw [E.out]<;>rfl,by repeat (first|exact Below.refl _ _|apply Below.setCell _ (by first|omega|(simp<;>omega))|apply Below.alloc _ (by first|omega|(simp<;>omega)))⟩
theorem anew_any (h:Rd C dd bB b tv wv s v w) {value:PM Nat} (HV:Does C dd bB b tv wv 249 value) (hK:CK C) (ho:anewP C value s ≠ .out):Calls Tryz.prog 269 #[.pointer (some ⟨b,0,none⟩)] w (RQ C dd bB b tv wv v w repN (anewP C value s)):=by
 have hmf:∀ (fn:Fn) (first cap:Array Value) (w:World),(Instr.makeFunc fn first cap).run Tryz.prog w = .ok (.func fn first cap) w:=fun _ _ _ _=>rfl
 have HR0:=Lib.hid h
 have R0:=Lib.hid h
 have F0:=Lib.hid (Fr.refl bB b v w)
 have HO:=Lib.hid ho
 have E0:=Lib.hid (congrFun (anewP.eq_1 C value) s)
 clear h ho
 go_enter Tryz.func269,Tryz.ntmps269
 go_wp2_with fail
 refine (from_any' R0.out).mono ?_
 rintro e w85 ⟨rfl,hb⟩
 have R85:=Lib.hid (R0.out.step hb)
 have F85:=Lib.hid (F0.out.below hb R0.out.hB)
 clear hb R0 F0
 have E86:=Lib.hid (E0.out.trans look_go)
 clear E0
 go_wp2_with fail
 refine (want_any R85.out _ (fun e=>HO.out (E86.out.trans (bnd_out e)))).mono ?_
 rintro e w87 (⟨x87,t87,v87,u87,hm,rfl,hrep,rd,fr⟩|⟨c,x,hm,rfl,hb⟩)
 rotate_left
 ·go_wp2_with fail
  exact ⟨rfl,rq_bad (E86.out.trans (bnd_bad hm)) (F85.out.bel.trans hb)⟩
 obtain rfl:u87 = .tuple #[]:=hrep
 have E87:=Lib.hid (E86.out.trans (bnd_ok hm))
 have R87:=Lib.hid rd
 have F87:=Lib.hid (F85.out.trans fr)
 clear hm rd fr E86 R85 F85
 go_wp2_with fail
 refine (inner_any R87.out hK true (fun e=>HO.out (E87.out.trans (bnd_out e)))).mono ?_
 rintro e w88 (⟨x88,t88,v88,u88,hm,rfl,hrep,rd,fr⟩|⟨c,x,hm,rfl,hb⟩)
 rotate_left
 ·go_wp2_with fail
  exact ⟨rfl,rq_bad (E87.out.trans (bnd_bad hm)) (F87.out.bel.trans hb)⟩
 have E88:=Lib.hid (E87.out.trans (bnd_ok hm))
 have R88:=Lib.hid rd
 have F88:=Lib.hid (F87.out.trans fr)
 obtain ⟨kd,sf,st,ks,tx,Bb,Nn,Dd,Mm,nm,wf,wt,es⟩:=x88
 obtain ⟨ev,hu,hk0,ow⟩:=hrep
 simp only at hu hk0 ow
 subst hk0
 obtain ⟨us0,uc0,hev⟩:=owns_shape ow.1
 subst hev
 subst hu
 have KE:=Lib.hid (Own.mono ow F87.out.bel.size)
 clear ow
 clear hm rd fr E87 R87 F87
 have hal:Below w88.heap.size w88 (w88.alloc (.cells #[.int .i64 kd,.int .i64 sf,.int .i64 st,.slice none 0 0,.string tx,.int .i64 Bb,.string Nn,.int .i64 Dd,.string Mm,.int .i64 nm,.int .i64 wf,.int .i64 wt,.slice us0 es.length uc0] 61)):=(Below.refl _ _).alloc (Nat.le_refl _) _
 have B89:=Lib.hid (box_new R88.out F88.out #[.int .i64 kd,.int .i64 sf,.int .i64 st,.slice none 0 0,.string tx,.int .i64 Bb,.string Nn,.int .i64 Dd,.string Mm,.int .i64 nm,.int .i64 wf,.int .i64 wt,.slice us0 es.length uc0])
 have K90:=Lib.hid (KE.out.step (Fr.of_below hal R88.out.hB))
 clear KE
 have R89:=Lib.hid (R88.out.step hal)
 have F89:=Lib.hid (F88.out.below hal R88.out.hB)
 clear hal R88 F88
 go_wp2_with fail
 refine (take_any R89.out _ (fun e=>HO.out (E88.out.trans (bnd_out e)))).mono ?_
 rintro e w91 (⟨x91,t91,v91,u91,hm,rfl,hrep,rd,fr⟩|⟨c,x,hm,rfl,hb⟩)
 rotate_left
 ·go_wp2_with fail
  exact ⟨rfl,rq_bad (E88.out.trans (bnd_bad hm)) (F89.out.bel.trans hb)⟩
 obtain rfl:u91 = .bool x91:=hrep
 have E91:=Lib.hid (E88.out.trans (bnd_ok hm))
 have R91:=Lib.hid rd
 have F91:=Lib.hid (F89.out.trans fr)
 have K92:=Lib.hid (K90.out.step fr)
 clear K90
 have B93:=Lib.hid (B89.out.step fr)
 clear B89
 clear hm rd fr E88 R89 F89
 cases x91
 ·have E94:=Lib.hid (E91.out.trans (if_neg_go (by decide)))
  clear E91
  go_wp2_with fail
  refine (sees_any R91.out _).mono ?_
  rintro e w95 ⟨rfl,hb⟩
  have R95:=Lib.hid (R91.out.step hb)
  have F95:=Lib.hid (F91.out.below hb R91.out.hB)
  have K96:=Lib.hid (K92.out.step (Fr.of_below hb R91.out.hB))
  clear K92
  have B97:=Lib.hid (B93.out.step (Fr.of_below hb R91.out.hB))
  clear B93
  clear hb R91 F91
  have E98:=Lib.hid (E94.out.trans look_go)
  clear E94
  cases hc99:sees C (⟨#[40]⟩:ByteArray) t91
  ·have E100:=Lib.hid (E98.out.trans (if_neg_go (fun e=>by rw [hc99] at e;cases e.1)))
   clear E98
   clear hc99
   go_wp2_with fail
   refine (listV_any R95.out HV (fun e=>HO.out (E100.out.trans (bnd_out e)))).mono ?_
   rintro e w101 (⟨x101,t101,v101,u101,hm,rfl,hrep,rd,fr⟩|⟨c,x,hm,rfl,hb⟩)
   rotate_left
   ·go_wp2_with fail
    exact ⟨rfl,rq_bad (E100.out.trans (bnd_bad hm)) (F95.out.bel.trans hb)⟩
   have K101:=Lib.hid (Own.mono hrep F95.out.bel.size)
   have E101:=Lib.hid (E100.out.trans (bnd_ok hm))
   have R101:=Lib.hid rd
   have F101:=Lib.hid (F95.out.trans fr)
   have K102:=Lib.hid (K96.out.step fr)
   clear K96
   have B103:=Lib.hid (B97.out.step fr)
   clear B97
   clear hm rd fr E100 R95 F95
   clear hrep
   obtain ⟨us101,uc101,hu⟩:=owns_shape K101.out.1
   rw [List.length_map] at hu
   subst hu
   obtain ⟨⟨a0,a1,a2,a3,a4,a5,a6,a7,a8,a9,a10,a11,a12⟩,al,af⟩:=(show BoxN w101 (w88.heap.size) [.int .i64 kd,.int .i64 sf,.int .i64 st,.slice none 0 0,.string tx,.int .i64 Bb,.string Nn,.int .i64 Dd,.string Mm,.int .i64 nm,.int .i64 wf,.int .i64 wt,.slice us0 es.length uc0] from B103.out.box).all
   obtain ⟨rd,fr,bx⟩:=box_set HR0.out R101.out F101.out B103.out 0 (.int .i64 30)
   have K105:=Lib.hid (K102.out.set B103.out 0 (.int .i64 30))
   clear K102
   have K106:=Lib.hid (K101.out.set B103.out 0 (.int .i64 30))
   clear K101
   have R104:=Lib.hid rd
   have F104:=Lib.hid fr
   have B104:=Lib.hid bx
   clear rd fr bx R101 F101 B103
   obtain ⟨rd,fr,bx⟩:=box_set HR0.out R104.out F104.out B104.out 3 (.slice us101 x101.length uc101)
   have K108:=Lib.hid (K105.out.set B104.out 3 (.slice us101 x101.length uc101))
   clear K105
   have K109:=Lib.hid (K106.out.set B104.out 3 (.slice us101 x101.length uc101))
   clear K106
   have R107:=Lib.hid rd
   have F107:=Lib.hid fr
   have B107:=Lib.hid bx
   clear rd fr bx R104 F104 B104
   go_wp2_with fail
   clear a0 a1 a2 a3 a4 a5 a6 a7 a8 a9 a10 a11 a12 al af
   refine (make_any 30 sf st (x101.map Int.ofNat) tx Bb Nn Dd Mm nm wf wt es _ _ (fromS C s) R107.out (fun e=>HO.out (E101.out.trans e)) K109.out.lst K108.out.lst).mono ?_
   rintro e w110 (⟨x110,t110,v110,u110,hm,rfl,hrep,rd,fr⟩|⟨c,x,hm,rfl,hb⟩)
   rotate_left
   ·go_wp2_with fail
    exact ⟨rfl,rq_bad (E101.out.trans hm) (F107.out.bel.trans hb)⟩
   obtain rfl:u110 = .int .i64 (x110:Nat):=hrep
   have E110:=Lib.hid (E101.out.trans hm)
   have R110:=Lib.hid rd
   have F110:=Lib.hid (F107.out.trans fr)
   have K111:=Lib.hid (K108.out.step fr)
   clear K108
   have K112:=Lib.hid (K109.out.step fr)
   clear K109
   have B113:=Lib.hid (B107.out.step fr)
   clear B107
   clear hm rd fr E101 R107 F107
   go_wp2_with fail
   go_ret
   exact rq_ok E110.out rfl R110.out F110.out
  ·obtain ⟨⟨a0,a1,a2,a3,a4,a5,a6,a7,a8,a9,a10,a11,a12⟩,al,af⟩:=(show BoxN w95 (w88.heap.size) [.int .i64 kd,.int .i64 sf,.int .i64 st,.slice none 0 0,.string tx,.int .i64 Bb,.string Nn,.int .i64 Dd,.string Mm,.int .i64 nm,.int .i64 wf,.int .i64 wt,.slice us0 es.length uc0] from B97.out.box).all
   go_wp2_with fail
   clear a0 a1 a2 a3 a4 a5 a6 a7 a8 a9 a10 a11 a12 al af
   refine (alone_any Bb Nn Dd Mm _).mono ?_
   rintro e w114 ⟨rfl,hb⟩
   have R114:=Lib.hid (R95.out.step hb)
   have F114:=Lib.hid (F95.out.below hb R95.out.hB)
   have K115:=Lib.hid (K96.out.step (Fr.of_below hb R95.out.hB))
   clear K96
   have B116:=Lib.hid (B97.out.step (Fr.of_below hb R95.out.hB))
   clear B97
   clear hb R95 F95
   cases ha:(decide (Bb=5) && decide (Mm=⟨#[32]⟩))
   ·have E117:=Lib.hid (E98.out.trans (if_pos_go ⟨hc99,ha⟩))
    clear E98
    clear hc99 ha
    obtain ⟨⟨a0,a1,a2,a3,a4,a5,a6,a7,a8,a9,a10,a11,a12⟩,al,af⟩:=(show BoxN w114 (w88.heap.size) [.int .i64 kd,.int .i64 sf,.int .i64 st,.slice none 0 0,.string tx,.int .i64 Bb,.string Nn,.int .i64 Dd,.string Mm,.int .i64 nm,.int .i64 wf,.int .i64 wt,.slice us0 es.length uc0] from B116.out.box).all
    go_wp2_with fail
    clear a0 a1 a2 a3 a4 a5 a6 a7 a8 a9 a10 a11 a12 al af
    refine (fail_any 5 _ _).mono ?_
    rintro e w118 ⟨rfl,rfl⟩
    go_wp2_with fail
    exact ⟨rfl,rq_bad (E117.out.trans thr_go) F114.out.bel⟩
   ·have E119:=Lib.hid (E98.out.trans (if_neg_go (fun e=>by have e2:=ha.symm.trans e.2;cases e2)))
    clear E98
    clear hc99 ha
    go_wp2_with fail
    refine (listV_any R114.out HV (fun e=>HO.out (E119.out.trans (bnd_out e)))).mono ?_
    rintro e w120 (⟨x120,t120,v120,u120,hm,rfl,hrep,rd,fr⟩|⟨c,x,hm,rfl,hb⟩)
    rotate_left
    ·go_wp2_with fail
     exact ⟨rfl,rq_bad (E119.out.trans (bnd_bad hm)) (F114.out.bel.trans hb)⟩
    have K120:=Lib.hid (Own.mono hrep F114.out.bel.size)
    have E120:=Lib.hid (E119.out.trans (bnd_ok hm))
    have R120:=Lib.hid rd
    have F120:=Lib.hid (F114.out.trans fr)
    have K121:=Lib.hid (K115.out.step fr)
    clear K115
    have B122:=Lib.hid (B116.out.step fr)
    clear B116
    clear hm rd fr E119 R114 F114
    clear hrep
    obtain ⟨us120,uc120,hu⟩:=owns_shape K120.out.1
    rw [List.length_map] at hu
    subst hu
    obtain ⟨⟨a0,a1,a2,a3,a4,a5,a6,a7,a8,a9,a10,a11,a12⟩,al,af⟩:=(show BoxN w120 (w88.heap.size) [.int .i64 kd,.int .i64 sf,.int .i64 st,.slice none 0 0,.string tx,.int .i64 Bb,.string Nn,.int .i64 Dd,.string Mm,.int .i64 nm,.int .i64 wf,.int .i64 wt,.slice us0 es.length uc0] from B122.out.box).all
    obtain ⟨rd,fr,bx⟩:=box_set HR0.out R120.out F120.out B122.out 0 (.int .i64 30)
    have K124:=Lib.hid (K121.out.set B122.out 0 (.int .i64 30))
    clear K121
    have K125:=Lib.hid (K120.out.set B122.out 0 (.int .i64 30))
    clear K120
    have R123:=Lib.hid rd
    have F123:=Lib.hid fr
    have B123:=Lib.hid bx
    clear rd fr bx R120 F120 B122
    obtain ⟨rd,fr,bx⟩:=box_set HR0.out R123.out F123.out B123.out 3 (.slice us120 x120.length uc120)
    have K127:=Lib.hid (K124.out.set B123.out 3 (.slice us120 x120.length uc120))
    clear K124
    have K128:=Lib.hid (K125.out.set B123.out 3 (.slice us120 x120.length uc120))
    clear K125
    have R126:=Lib.hid rd
    have F126:=Lib.hid fr
    have B126:=Lib.hid bx
    clear rd fr bx R123 F123 B123
    go_wp2_with fail
    clear a0 a1 a2 a3 a4 a5 a6 a7 a8 a9 a10 a11 a12 al af
    refine (make_any 30 sf st (x120.map Int.ofNat) tx Bb Nn Dd Mm nm wf wt es _ _ (fromS C s) R126.out (fun e=>HO.out (E120.out.trans e)) K128.out.lst K127.out.lst).mono ?_
    rintro e w129 (⟨x129,t129,v129,u129,hm,rfl,hrep,rd,fr⟩|⟨c,x,hm,rfl,hb⟩)
    rotate_left
    ·go_wp2_with fail
     exact ⟨rfl,rq_bad (E120.out.trans hm) (F126.out.bel.trans hb)⟩
    obtain rfl:u129 = .int .i64 (x129:Nat):=hrep
    have E129:=Lib.hid (E120.out.trans hm)
    have R129:=Lib.hid rd
    have F129:=Lib.hid (F126.out.trans fr)
    have K130:=Lib.hid (K127.out.step fr)
    clear K127
    have K131:=Lib.hid (K128.out.step fr)
    clear K128
    have B132:=Lib.hid (B126.out.step fr)
    clear B126
    clear hm rd fr E120 R126 F126
    go_wp2_with fail
    go_ret
    exact rq_ok E129.out rfl R129.out F129.out
 ·have E133:=Lib.hid (E91.out.trans (if_pos_go rfl))
  clear E91
  go_wp2_with fail
  refine (HV _ _ _ R91.out (fun e=>HO.out (E133.out.trans (bnd_out e)))).mono ?_
  rintro e w134 (⟨x134,t134,v134,u134,hm,rfl,hrep,rd,fr⟩|⟨c,x,hm,rfl,hb⟩)
  rotate_left
  ·go_wp2_with fail
   exact ⟨rfl,rq_bad (E133.out.trans (bnd_bad hm)) (F91.out.bel.trans hb)⟩
  obtain rfl:u134 = .int .i64 (x134:Nat):=hrep
  have E134:=Lib.hid (E133.out.trans (bnd_ok hm))
  have R134:=Lib.hid rd
  have F134:=Lib.hid (F91.out.trans fr)
  have K135:=Lib.hid (K92.out.step fr)
  clear K92
  have B136:=Lib.hid (B93.out.step fr)
  clear B93
  clear hm rd fr E133 R91 F91
  obtain ⟨⟨a0,a1,a2,a3,a4,a5,a6,a7,a8,a9,a10,a11,a12⟩,al,af⟩:=(show BoxN w134 (w88.heap.size) [.int .i64 kd,.int .i64 sf,.int .i64 st,.slice none 0 0,.string tx,.int .i64 Bb,.string Nn,.int .i64 Dd,.string Mm,.int .i64 nm,.int .i64 wf,.int .i64 wt,.slice us0 es.length uc0] from B136.out.box).all
  obtain ⟨rd,fr,bx,ow,kp⟩:=own_into2 HR0.out R134.out F134.out B136.out K135.out (.int .i64 31) (x134:Int)
  have R137:=Lib.hid rd
  have F137:=Lib.hid fr
  have B137:=Lib.hid bx
  have Q137:=Lib.hid ow
  have K137:=Lib.hid kp
  clear rd fr bx ow kp R134 F134 B136 K135
  go_wp2_with fail
  clear a0 a1 a2 a3 a4 a5 a6 a7 a8 a9 a10 a11 a12 al af
  refine (want_any R137.out _ (fun e=>HO.out (E134.out.trans (bnd_out e)))).mono ?_
  rintro e w138 (⟨x138,t138,v138,u138,hm,rfl,hrep,rd,fr⟩|⟨c,x,hm,rfl,hb⟩)
  rotate_left
  ·go_wp2_with fail
   exact ⟨rfl,rq_bad (E134.out.trans (bnd_bad hm)) (F137.out.bel.trans hb)⟩
  obtain rfl:u138 = .tuple #[]:=hrep
  have E138:=Lib.hid (E134.out.trans (bnd_ok hm))
  have R138:=Lib.hid rd
  have F138:=Lib.hid (F137.out.trans fr)
  have K139:=Lib.hid (K137.out.step fr)
  clear K137
  have K140:=Lib.hid (Q137.out.step fr)
  clear Q137
  have B141:=Lib.hid (B137.out.step fr)
  clear B137
  clear hm rd fr E134 R137 F137
  obtain ⟨⟨a0,a1,a2,a3,a4,a5,a6,a7,a8,a9,a10,a11,a12⟩,al,af⟩:=(show BoxN w138 (w88.heap.size) [.int .i64 31,.int .i64 sf,.int .i64 st,.slice (some ⟨w134.heap.size,0,none⟩) 1 1,.string tx,.int .i64 Bb,.string Nn,.int .i64 Dd,.string Mm,.int .i64 nm,.int .i64 wf,.int .i64 wt,.slice us0 es.length uc0] from B141.out.box).all
  go_wp2_with fail
  clear a0 a1 a2 a3 a4 a5 a6 a7 a8 a9 a10 a11 a12 al af
  refine (make_any 31 sf st [(x134:Int)] tx Bb Nn Dd Mm nm wf wt es _ _ (fromS C s) R138.out (fun e=>HO.out (E138.out.trans e)) K140.out.lst K139.out.lst).mono ?_
  rintro e w142 (⟨x142,t142,v142,u142,hm,rfl,hrep,rd,fr⟩|⟨c,x,hm,rfl,hb⟩)
  rotate_left
  ·go_wp2_with fail
   exact ⟨rfl,rq_bad (E138.out.trans hm) (F138.out.bel.trans hb)⟩
  obtain rfl:u142 = .int .i64 (x142:Nat):=hrep
  have E142:=Lib.hid (E138.out.trans hm)
  have R142:=Lib.hid rd
  have F142:=Lib.hid (F138.out.trans fr)
  have K143:=Lib.hid (K139.out.step fr)
  clear K139
  have K144:=Lib.hid (K140.out.step fr)
  clear K140
  have B145:=Lib.hid (B141.out.step fr)
  clear B141
  clear hm rd fr E138 R138 F138
  go_wp2_with fail
  go_ret
  exact rq_ok E142.out rfl R142.out F142.out
end
end Go.Proofs.YtfehpdliobapfaaGreatDoor
namespace Go.Proofs.YtfehpdliobapfaaGreatDoor
open Go Go.RowKit
section
variable {C:PC} {dd bB b:Nat} {tv wv:Value} {s:PS} {v v1:RV} {w w1:World}
theorem listPm_any (h:Rd C dd bB b tv wv s v w) {value:PM Nat} (HV:Does C dd bB b tv wv 206 value) (ho:listP C value s ≠ .out):Calls Tryz.prog 205 #[.pointer (some ⟨b,0,none⟩),.func (.func 206) #[.pointer (some ⟨b,0,none⟩)] #[]] w (RQ C dd bB b tv wv v w (repL w b) (listP C value s)):=by
 have HR0:=Lib.hid h
 have R0:=Lib.hid h
 have F0:=Lib.hid (Fr.refl bB b v w)
 have HO:=Lib.hid ho
 have E0:=Lib.hid (congrFun (listP.eq_1 C value) s)
 clear h ho
 go_enter Tryz.func205,Tryz.ntmps205
 go_wp2_with fail
 refine (want_any R0.out _ (fun e=>HO.out (E0.out.trans (bnd_out e)))).mono ?_
 rintro e w68 (⟨x68,t68,v68,u68,hm,rfl,hrep,rd,fr⟩|⟨c,x,hm,rfl,hb⟩)
 rotate_left
 ·go_wp2_with fail
  exact ⟨rfl,rq_bad (E0.out.trans (bnd_bad hm)) (F0.out.bel.trans hb)⟩
 obtain rfl:u68 = .tuple #[]:=hrep
 have E68:=Lib.hid (E0.out.trans (bnd_ok hm))
 have R68:=Lib.hid rd
 have F68:=Lib.hid (F0.out.trans fr)
 clear hm rd fr E0 R0 F0
 go_wp2_with fail
 refine (take_any R68.out _ (fun e=>HO.out (E68.out.trans (bnd_out e)))).mono ?_
 rintro e w69 (⟨x69,t69,v69,u69,hm,rfl,hrep,rd,fr⟩|⟨c,x,hm,rfl,hb⟩)
 rotate_left
 ·go_wp2_with fail
  exact ⟨rfl,rq_bad (E68.out.trans (bnd_bad hm)) (F68.out.bel.trans hb)⟩
 obtain rfl:u69 = .bool x69:=hrep
 have E69:=Lib.hid (E68.out.trans (bnd_ok hm))
 have R69:=Lib.hid rd
 have F69:=Lib.hid (F68.out.trans fr)
 clear hm rd fr E68 R68 F68
 cases x69
 ·have E70:=Lib.hid (E69.out.trans (if_neg_go (by decide)))
  clear E69
  go_wp2_with fail
  refine (HV _ _ _ R69.out (fun e=>HO.out (E70.out.trans (bnd_out e)))).mono ?_
  rintro e w71 (⟨x71,t71,v71,u71,hm,rfl,hrep,rd,fr⟩|⟨c,x,hm,rfl,hb⟩)
  rotate_left
  ·go_wp2_with fail
   exact ⟨rfl,rq_bad (E70.out.trans (bnd_bad hm)) (F69.out.bel.trans hb)⟩
  obtain rfl:u71 = .int .i64 (x71:Nat):=hrep
  have E71:=Lib.hid (E70.out.trans (bnd_ok hm))
  have R71:=Lib.hid rd
  have F71:=Lib.hid (F69.out.trans fr)
  clear hm rd fr E70 R69 F69
  have hal:Below w71.heap.size w71 (w71.alloc (.cells #[.int .i64 (x71:Int)] 3)):=(Below.refl _ _).alloc (Nat.le_refl _) _
  have K72:=Lib.hid (own_one HR0.out R71.out F71.out (x71:Int))
  have R72:=Lib.hid (R71.out.step hal)
  have F72:=Lib.hid (F71.out.below hal R71.out.hB)
  clear hal R71 F71
  go_wp2_with fail
  go_loopg [5] C.toks.length (fun k u wr=>∃ (ls:List Nat) (t:PS) (vv:RV),ls.length<=90001/\Own w b vv wr u (ls.map Int.ofNat)/\listP C value s=bnd (manyP C value k ls) (fun l=>bnd (wantP C (⟨#[41]⟩:ByteArray)) fun _=>ret l) t/\Rd C dd bB b tv wv t vv wr/\Fr bB b v w vv wr)
  case atStart=>exact ⟨[x71],_,_,by simp,K72.out,E71.out,R72.out,F72.out⟩
  case round =>
   clear E71 R72 F72 K72
   obtain ⟨ls,t,vv,hll,hk,he,hr,hf⟩:=hrel
   cases gk with
   | zero=>exact (HO.out (he.trans rfl)).elim
   | succ gk =>
    have he2:bnd (manyP C value (gk+1) ls) (fun l=>bnd (wantP C (⟨#[41]⟩:ByteArray)) fun _=>ret l) t=bnd (bnd (capP ls) fun _=>bnd (takeP C (⟨#[44]⟩:ByteArray)) fun b=>if b=true then bnd (moreP ls.length) fun _=>bnd value fun a=>manyP C value gk (ls ++ [a]) else ret ls) (fun l=>bnd (wantP C (⟨#[41]⟩:ByteArray)) fun _=>ret l) t:=rfl
    have E0:=Lib.hid ((he.trans he2).trans bnd_assoc)
    have R0:=Lib.hid hr
    have F0:=Lib.hid hf
    obtain ⟨us,uc,hu⟩:=owns_shape hk.1
    rw [List.length_map] at hu
    have K0:=Lib.hid hk
    clear he he2 hr hf hk
    subst hu
    have hcap:ls.length<=90000:=cap_le (fun e=>HO.out (E0.out.trans (bnd_out e)))
    have E73:=Lib.hid (E0.out.trans (bnd_ok (cap_ok hcap)))
    clear E0
    have E74:=Lib.hid (E73.out.trans bnd_assoc)
    clear E73
    go_wp2_with fail
    refine (take_any R0.out _ (fun e=>HO.out (E74.out.trans (bnd_out e)))).mono ?_
    rintro e w75 (⟨x75,t75,v75,u75,hm,rfl,hrep,rd,fr⟩|⟨c,x,hm,rfl,hb⟩)
    rotate_left
    ·go_wp2_with fail
     exact ⟨rfl,rq_bad (E74.out.trans (bnd_bad hm)) (F0.out.bel.trans hb)⟩
    obtain rfl:u75 = .bool x75:=hrep
    have E75:=Lib.hid (E74.out.trans (bnd_ok hm))
    have R75:=Lib.hid rd
    have F75:=Lib.hid (F0.out.trans fr)
    have K76:=Lib.hid (K0.out.step fr)
    clear K0
    clear hm rd fr E74 R0 F0
    cases x75
    ·have E77:=Lib.hid (E75.out.trans (bnd_if_neg (by decide)))
     clear E75
     have E78:=Lib.hid (E77.out.trans (bnd_ok ret_go))
     clear E77
     go_wp2_with fail
     refine (want_any R75.out _ (fun e=>HO.out (E78.out.trans (bnd_out e)))).mono ?_
     rintro e w79 (⟨x79,t79,v79,u79,hm,rfl,hrep,rd,fr⟩|⟨c,x,hm,rfl,hb⟩)
     rotate_left
     ·go_wp2_with fail
      exact ⟨rfl,rq_bad (E78.out.trans (bnd_bad hm)) (F75.out.bel.trans hb)⟩
     obtain rfl:u79 = .tuple #[]:=hrep
     have E79:=Lib.hid (E78.out.trans (bnd_ok hm))
     have R79:=Lib.hid rd
     have F79:=Lib.hid (F75.out.trans fr)
     have K80:=Lib.hid (K76.out.step fr)
     clear K76
     clear hm rd fr E78 R75 F75
     go_wp2_with fail
     go_ret
     exact rq_ok (E79.out.trans ret_go) K80.out R79.out F79.out
    ·have E81:=Lib.hid (E75.out.trans (bnd_if_pos rfl))
     clear E75
     have E82:=Lib.hid (E81.out.trans bnd_assoc)
     clear E81
     go_wp2_with fail
     refine (more_any _ R75.out).mono ?_
     rintro e w83 (⟨x83,t83,v83,u83,hm,rfl,hrep,rd,fr⟩|⟨c,x,hm,rfl,hb⟩)
     rotate_left
     ·go_wp2_with fail
      exact ⟨rfl,rq_bad (E82.out.trans (bnd_bad hm)) (F75.out.bel.trans hb)⟩
     obtain rfl:u83 = .tuple #[]:=hrep
     have E83:=Lib.hid (E82.out.trans (bnd_ok hm))
     have R83:=Lib.hid rd
     have F83:=Lib.hid (F75.out.trans fr)
     have K84:=Lib.hid (K76.out.step fr)
     clear K76
     clear hm rd fr E82 R75 F75
     have E85:=Lib.hid (E83.out.trans bnd_assoc)
     clear E83
     go_wp2_with fail
     refine (HV _ _ _ R83.out (fun e=>HO.out (E85.out.trans (bnd_out e)))).mono ?_
     rintro e w86 (⟨x86,t86,v86,u86,hm,rfl,hrep,rd,fr⟩|⟨c,x,hm,rfl,hb⟩)
     rotate_left
     ·go_wp2_with fail
      exact ⟨rfl,rq_bad (E85.out.trans (bnd_bad hm)) (F83.out.bel.trans hb)⟩
     obtain rfl:u86 = .int .i64 (x86:Nat):=hrep
     have E86:=Lib.hid (E85.out.trans (bnd_ok hm))
     have R86:=Lib.hid rd
     have F86:=Lib.hid (F83.out.trans fr)
     have K87:=Lib.hid (K84.out.step fr)
     clear K84
     clear hm rd fr E85 R83 F83
     obtain ⟨u88,W88,hap,ow,rd,fr⟩:=own_append HR0.out R86.out F86.out K87.out (x86:Int) (by rw [List.length_map];omega)
     obtain ⟨us88,uc88,hu⟩:=owns_shape ow.1
     simp at hu
     subst hu
     have HAP:=Lib.hid hap
     clear hap
     go_wp2_with (at_builtin;first|refine wpList_append_run rfl _ _ 57 rfl (.slice us ls.length uc) (.slice (some ⟨w86.heap.size,0,none⟩) 1 1) _ W88 rfl rfl HAP.out ?_)
     have R88:=Lib.hid rd
     have F88:=Lib.hid fr
     have K88:=Lib.hid (own_snoc ow)
     clear rd fr ow R86 F86 K87
     go_roundg gk
     case measure=>omega
     case rel=>exact ⟨ls ++ [x86],_,_,by simp;omega,K88.out,E86.out,R88.out,F88.out⟩
 ·have E89:=Lib.hid (E69.out.trans (if_pos_go rfl))
  clear E69
  go_wp2_with fail
  go_ret
  exact rq_ok (E89.out.trans ret_go) (own_nil _ _ _ _) R69.out F69.out
end
end Go.Proofs.YtfehpdliobapfaaGreatDoor
namespace Go.Proofs.YtfehpdliobapfaaGreatDoor
open Go Go.RowKit
section
variable {C:PC} {dd bB b:Nat} {tv wv:Value} {s:PS} {v v1:RV} {w w1:World}
structure CKn (C:PC):Prop where
 flt:∀ x,x.size<=65536->C.flt x=(wrap64 ((L.fltR x).1:Nat),(L.fltR x).2.toNat)/\0<=(L.fltR x).2
 unq:∀ x,x.size<=65536->C.unq x=(L.strN (L.unqF x).2,(L.unqF x).1)
theorem read_word {x:ByteArray} {t:PS} (h:readP C s = .ok x t):x=C.word s.next:=by
 rw [read_eq] at h
 split at h
 ·split at h
  ·cases h;rfl
  ·cases h
 ·cases h
theorem below_drewN {B:Nat} {w:World} (n:Nat):Below B w (w.drewN n):=⟨rfl,rfl,rfl,Nat.le_refl _,fun _ _=>rfl⟩
theorem literal_any (h:Rd C dd bB b tv wv s v w) (hK:CK C) (hn:CKn C) (hk4:kindS C s=2\/kindS C s=3\/kindS C s=4) (ho:literalP C s ≠ .out):Calls Tryz.prog 264 #[.pointer (some ⟨b,0,none⟩)] w (RQ C dd bB b tv wv v w repN (literalP C s)):=by
 have hf0:=field_tok0
 have HR0:=Lib.hid h
 have R0:=Lib.hid h
 have F0:=Lib.hid (Fr.refl bB b v w)
 have HO:=Lib.hid ho
 have E0:=Lib.hid (congrFun (literalP.eq_1 C) s)
 clear h ho
 go_enter Tryz.func264,Tryz.ntmps264
 go_wp2_with fail
 refine (from_any' R0.out).mono ?_
 rintro e w1 ⟨rfl,hb⟩
 have R1:=Lib.hid (R0.out.step hb)
 have F1:=Lib.hid (F0.out.below hb R0.out.hB)
 clear hb R0 F0
 have E2:=Lib.hid (E0.out.trans look_go)
 clear E0
 go_wp2_with fail
 refine (token_any R1.out).mono ?_
 rintro e w3 ⟨rfl,hb⟩
 have R3:=Lib.hid (R1.out.step hb)
 have F3:=Lib.hid (F1.out.below hb R1.out.hB)
 clear hb R1 F1
 have E4:=Lib.hid (E2.out.trans look_go)
 clear E2
 go_wp2_with fail
 refine (read_any R3.out (fun e=>HO.out (E4.out.trans (bnd_out e)))).mono ?_
 rintro e w5 (⟨x5,t5,v5,u5,hm,rfl,hrep,rd,fr⟩|⟨c,x,hm,rfl,hb⟩)
 rotate_left
 ·go_wp2_with fail
  exact ⟨rfl,rq_bad (E4.out.trans (bnd_bad hm)) (F3.out.bel.trans hb)⟩
 obtain rfl:u5 = .string x5:=hrep
 have E5:=Lib.hid (E4.out.trans (bnd_ok hm))
 have R5:=Lib.hid rd
 have F5:=Lib.hid (F3.out.trans fr)
 have hxz:x5.size<=65536:=by rw [read_word hm];exact hK.size _
 clear hm rd fr E4 R3 F3
 by_cases hk2:kindS C s=2
 ·have p2:((kindS C s:Int) == 2)=true:=by simp;omega
  obtain ⟨hci,hc0⟩:=hK.int x5 hxz
  have hli:litN C (kindS C s) x5=({ nd 19 ⟨#[]⟩ [] with num:=(L.intR x5).1 },(L.intR x5).2.toNat):=by unfold litN;rw [if_pos hk2,hci]
  have E6:=E5.out
  rw [hli] at E6
  have E6h:=Lib.hid E6
  clear E6 E5
  clear hli hci hk2
  go_wp2_with fail
  refine (L.int_any x5 _ (by omega)).mono ?_
  rintro e w7 ⟨rfl,rfl⟩
  have hal:Below w5.heap.size w5 (w5.alloc (.cells #[.int .i64 19,.int .i64 0,.int .i64 0,.slice none 0 0,.string ⟨#[]⟩,.int .i64 0,.string ⟨#[]⟩,.int .i64 0,.string ⟨#[]⟩,.int .i64 (L.intR x5).1,.int .i64 0,.int .i64 0,.slice none 0 0] 61)):=(Below.refl _ _).alloc (Nat.le_refl _) _
  have B8:=Lib.hid (box_new R5.out F5.out #[.int .i64 19,.int .i64 0,.int .i64 0,.slice none 0 0,.string ⟨#[]⟩,.int .i64 0,.string ⟨#[]⟩,.int .i64 0,.string ⟨#[]⟩,.int .i64 (L.intR x5).1,.int .i64 0,.int .i64 0,.slice none 0 0])
  have R8:=Lib.hid (R5.out.step hal)
  have F8:=Lib.hid (F5.out.below hal R5.out.hB)
  clear hal R5 F5
  obtain ⟨⟨a0,a1,a2,a3,a4,a5,a6,a7,a8,a9,a10,a11,a12⟩,al,af⟩:=(show BoxN (w5.alloc (.cells #[.int .i64 19,.int .i64 0,.int .i64 0,.slice none 0 0,.string ⟨#[]⟩,.int .i64 0,.string ⟨#[]⟩,.int .i64 0,.string ⟨#[]⟩,.int .i64 (L.intR x5).1,.int .i64 0,.int .i64 0,.slice none 0 0] 61)) (w5.heap.size) [.int .i64 19,.int .i64 0,.int .i64 0,.slice none 0 0,.string ⟨#[]⟩,.int .i64 0,.string ⟨#[]⟩,.int .i64 0,.string ⟨#[]⟩,.int .i64 (L.intR x5).1,.int .i64 0,.int .i64 0,.slice none 0 0] from B8.out.box).all
  go_wp2_with fail
  clear a0 a1 a2 a3 a4 a5 a6 a7 a8 a9 a10 a11 a12 al af
  refine (make_any 19 0 0 [] ⟨#[]⟩ 0 ⟨#[]⟩ 0 ⟨#[]⟩ (L.intR x5).1 0 0 [] _ _ (fromS C s) R8.out (fun e=>HO.out (E6h.out.trans (bnd_out e))) (lst_none _ _ _) (lst_none _ _ _)).mono ?_
  rintro e w9 (⟨x9,t9,v9,u9,hm,rfl,hrep,rd,fr⟩|⟨c,x,hm,rfl,hb⟩)
  rotate_left
  ·go_wp2_with fail
   exact ⟨rfl,rq_bad (E6h.out.trans (bnd_bad hm)) (F8.out.bel.trans hb)⟩
  obtain rfl:u9 = .int .i64 (x9:Nat):=hrep
  have E9:=Lib.hid (E6h.out.trans (bnd_ok hm))
  have R9:=Lib.hid rd
  have F9:=Lib.hid (F8.out.trans fr)
  have B10:=Lib.hid (B8.out.step fr)
  clear B8
  clear hm rd fr E6h R8 F8
  generalize L.intR x5=li at *
  by_cases he:li.2.toNat=0
  ·have p9:(li.2 != 0)=false:=by simp;omega
   have E11:=Lib.hid (E9.out.trans (if_pos_go he))
   clear E9
   clear he
   go_wp2_with fail
   go_ret
   exact rq_ok (E11.out.trans ret_go) rfl R9.out F9.out
  ·have p9:(li.2 != 0)=true:=by simp;omega
   have E12:=Lib.hid (E9.out.trans (if_neg_go he))
   clear E9
   clear he
   go_wp2_with fail
   obtain ⟨en,hen⟩:∃ en:Nat,li.2=en:=⟨li.2.toNat,by omega⟩
   rw [hen]
   refine (fail_any en _ _).mono ?_
   rintro e w13 ⟨rfl,rfl⟩
   go_wp2_with fail
   exact ⟨rfl,rq_bad ((E12.out.trans thr_go).trans (by congr 1;omega)) F9.out.bel⟩
 ·have p2:((kindS C s:Int) == 2)=false:=by simp;omega
  by_cases hk3:kindS C s=3
  ·have p3:((kindS C s:Int) == 3)=true:=by simp;omega
   obtain ⟨hcf,hf0⟩:=hn.flt x5 hxz
   have hli:litN C (kindS C s) x5=({ nd 20 x5 [] with num:=wrap64 ((L.fltR x5).1:Nat) },(L.fltR x5).2.toNat):=by unfold litN;rw [if_neg hk2,if_pos hk3,hcf]
   have E14:=E5.out
   rw [hli] at E14
   have E14h:=Lib.hid E14
   clear E14 E5
   clear hli hcf hk2 hk3 hk4
   have HFL:=Lib.hid (fun (w2:World)=>(L.float_any x5 w2 (by omega)).mono (fun e w' h=>(⟨h.1,by obtain ⟨n,hw⟩:=h.2;rw [hw];exact below_drewN n⟩:e = .returned (.tuple #[.int .u64 ((L.fltR x5).1:Nat),.int .i64 (L.fltR x5).2])/\Below w2.heap.size w2 w')))
   have hal:Below w5.heap.size w5 (w5.alloc (.cells #[.int .i64 20,.int .i64 0,.int .i64 0,.slice none 0 0,.string x5,.int .i64 0,.string ⟨#[]⟩,.int .i64 0,.string ⟨#[]⟩,.int .i64 0,.int .i64 0,.int .i64 0,.slice none 0 0] 61)):=(Below.refl _ _).alloc (Nat.le_refl _) _
   have B15:=Lib.hid (box_new R5.out F5.out #[.int .i64 20,.int .i64 0,.int .i64 0,.slice none 0 0,.string x5,.int .i64 0,.string ⟨#[]⟩,.int .i64 0,.string ⟨#[]⟩,.int .i64 0,.int .i64 0,.int .i64 0,.slice none 0 0])
   have R15:=Lib.hid (R5.out.step hal)
   have F15:=Lib.hid (F5.out.below hal R5.out.hB)
   clear hal R5 F5
   go_wp2_with fail
   refine (HFL.out _).mono ?_
   rintro e w16 ⟨rfl,hb⟩
   have R16:=Lib.hid (R15.out.step hb)
   have F16:=Lib.hid (F15.out.below hb R15.out.hB)
   have B17:=Lib.hid (B15.out.step (Fr.of_below hb R15.out.hB))
   clear B15
   clear hb R15 F15
   obtain ⟨⟨a0,a1,a2,a3,a4,a5,a6,a7,a8,a9,a10,a11,a12⟩,al,af⟩:=(show BoxN w16 (w5.heap.size) [.int .i64 20,.int .i64 0,.int .i64 0,.slice none 0 0,.string x5,.int .i64 0,.string ⟨#[]⟩,.int .i64 0,.string ⟨#[]⟩,.int .i64 0,.int .i64 0,.int .i64 0,.slice none 0 0] from B17.out.box).all
   obtain ⟨rd,fr,bx⟩:=box_set HR0.out R16.out F16.out B17.out 9 (.int .i64 (wrap64 ((L.fltR x5).1:Nat)))
   have R18:=Lib.hid rd
   have F18:=Lib.hid fr
   have B18:=Lib.hid bx
   clear rd fr bx R16 F16 B17
   go_wp2_with fail
   clear a0 a1 a2 a3 a4 a5 a6 a7 a8 a9 a10 a11 a12 al af
   refine (make_any 20 0 0 [] x5 0 ⟨#[]⟩ 0 ⟨#[]⟩ (wrap64 ((L.fltR x5).1:Nat)) 0 0 [] _ _ (fromS C s) R18.out (fun e=>HO.out (E14h.out.trans (bnd_out e))) (lst_none _ _ _) (lst_none _ _ _)).mono ?_
   rintro e w19 (⟨x19,t19,v19,u19,hm,rfl,hrep,rd,fr⟩|⟨c,x,hm,rfl,hb⟩)
   rotate_left
   ·go_wp2_with fail
    exact ⟨rfl,rq_bad (E14h.out.trans (bnd_bad hm)) (F18.out.bel.trans hb)⟩
   obtain rfl:u19 = .int .i64 (x19:Nat):=hrep
   have E19:=Lib.hid (E14h.out.trans (bnd_ok hm))
   have R19:=Lib.hid rd
   have F19:=Lib.hid (F18.out.trans fr)
   have B20:=Lib.hid (B18.out.step fr)
   clear B18
   clear hm rd fr E14h R18 F18
   generalize L.fltR x5=li at *
   by_cases he:li.2.toNat=0
   ·have p9:(li.2 != 0)=false:=by simp;omega
    have E21:=Lib.hid (E19.out.trans (if_pos_go he))
    clear E19
    clear he
    go_wp2_with fail
    go_ret
    exact rq_ok (E21.out.trans ret_go) rfl R19.out F19.out
   ·have p9:(li.2 != 0)=true:=by simp;omega
    have E22:=Lib.hid (E19.out.trans (if_neg_go he))
    clear E19
    clear he
    go_wp2_with fail
    obtain ⟨en,hen⟩:∃ en:Nat,li.2=en:=⟨li.2.toNat,by omega⟩
    rw [hen]
    refine (fail_any en _ _).mono ?_
    rintro e w23 ⟨rfl,rfl⟩
    go_wp2_with fail
    exact ⟨rfl,rq_bad ((E22.out.trans thr_go).trans (by congr 1;omega)) F19.out.bel⟩
  ·have p3:((kindS C s:Int) == 3)=false:=by simp;omega
   have p4:((kindS C s:Int) == 4)=true:=by have:=hk4;simp;omega
   have hcu:=hn.unq x5 hxz
   have hli:litN C (kindS C s) x5=(nd 22 (L.strN (L.unqF x5).2) [],(L.unqF x5).1):=by unfold litN;rw [if_neg hk2,if_neg hk3,hcu]
   have E24:=E5.out
   rw [hli] at E24
   have E24h:=Lib.hid E24
   clear E24 E5
   clear hli hcu hk2 hk3 hk4
   have hal:Below w5.heap.size w5 (w5.alloc (.cells #[.int .i64 22,.int .i64 0,.int .i64 0,.slice none 0 0,.string ⟨#[]⟩,.int .i64 0,.string ⟨#[]⟩,.int .i64 0,.string ⟨#[]⟩,.int .i64 0,.int .i64 0,.int .i64 0,.slice none 0 0] 61)):=(Below.refl _ _).alloc (Nat.le_refl _) _
   have B25:=Lib.hid (box_new R5.out F5.out #[.int .i64 22,.int .i64 0,.int .i64 0,.slice none 0 0,.string ⟨#[]⟩,.int .i64 0,.string ⟨#[]⟩,.int .i64 0,.string ⟨#[]⟩,.int .i64 0,.int .i64 0,.int .i64 0,.slice none 0 0])
   have R25:=Lib.hid (R5.out.step hal)
   have F25:=Lib.hid (F5.out.below hal R5.out.hB)
   clear hal R5 F5
   go_wp2_with fail
   refine (L.unquote_any x5 _ hxz).mono ?_
   rintro e w26 ⟨rfl,hb⟩
   have R26:=Lib.hid (R25.out.step hb)
   have F26:=Lib.hid (F25.out.below hb R25.out.hB)
   have B27:=Lib.hid (B25.out.step (Fr.of_below hb R25.out.hB))
   clear B25
   clear hb R25 F25
   obtain ⟨⟨a0,a1,a2,a3,a4,a5,a6,a7,a8,a9,a10,a11,a12⟩,al,af⟩:=(show BoxN w26 (w5.heap.size) [.int .i64 22,.int .i64 0,.int .i64 0,.slice none 0 0,.string ⟨#[]⟩,.int .i64 0,.string ⟨#[]⟩,.int .i64 0,.string ⟨#[]⟩,.int .i64 0,.int .i64 0,.int .i64 0,.slice none 0 0] from B27.out.box).all
   obtain ⟨rd,fr,bx⟩:=box_set HR0.out R26.out F26.out B27.out 4 (.string (L.strN (L.unqF x5).2))
   have R28:=Lib.hid rd
   have F28:=Lib.hid fr
   have B28:=Lib.hid bx
   clear rd fr bx R26 F26 B27
   go_wp2_with fail
   clear a0 a1 a2 a3 a4 a5 a6 a7 a8 a9 a10 a11 a12 al af
   refine (make_any 22 0 0 [] (L.strN (L.unqF x5).2) 0 ⟨#[]⟩ 0 ⟨#[]⟩ 0 0 0 [] _ _ (fromS C s) R28.out (fun e=>HO.out (E24h.out.trans (bnd_out e))) (lst_none _ _ _) (lst_none _ _ _)).mono ?_
   rintro e w29 (⟨x29,t29,v29,u29,hm,rfl,hrep,rd,fr⟩|⟨c,x,hm,rfl,hb⟩)
   rotate_left
   ·go_wp2_with fail
    exact ⟨rfl,rq_bad (E24h.out.trans (bnd_bad hm)) (F28.out.bel.trans hb)⟩
   obtain rfl:u29 = .int .i64 (x29:Nat):=hrep
   have E29:=Lib.hid (E24h.out.trans (bnd_ok hm))
   have R29:=Lib.hid rd
   have F29:=Lib.hid (F28.out.trans fr)
   have B30:=Lib.hid (B28.out.step fr)
   clear B28
   clear hm rd fr E24h R28 F28
   generalize L.unqF x5=li at *
   by_cases he:li.1=0
   ·have p9:((li.1:Int) != 0)=false:=by simp;omega
    have E31:=Lib.hid (E29.out.trans (if_pos_go he))
    clear E29
    clear he
    go_wp2_with fail
    go_ret
    exact rq_ok (E31.out.trans ret_go) rfl R29.out F29.out
   ·have p9:((li.1:Int) != 0)=true:=by simp;omega
    have E32:=Lib.hid (E29.out.trans (if_neg_go he))
    clear E29
    clear he
    go_wp2_with fail
    obtain ⟨en,hen⟩:∃ en:Nat,(li.1:Int)=en:=⟨li.1,by omega⟩
    rw [hen]
    refine (fail_any en _ _).mono ?_
    rintro e w33 ⟨rfl,rfl⟩
    go_wp2_with fail
    exact ⟨rfl,rq_bad ((E32.out.trans thr_go).trans (by congr 1;omega)) F29.out.bel⟩
end
end Go.Proofs.YtfehpdliobapfaaGreatDoor
