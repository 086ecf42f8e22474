/- For any text and any number,ScopeFinds returns true and leaves its arguments as they were. -/
import Derived.Test.YtfehpdliobapfaaGreatDoorFScMR
import Derived.Test.YtfehpdliobapfaaGreatDoorFScMT
import Derived.Test.YtfehpdliobapfaaGreatDoorFPaNH
import Derived.OpenShut
set_option maxRecDepth 100000
set_option maxHeartbeats 16000000
set_option linter.unusedVariables false
set_option linter.unusedSimpArgs false
namespace Go.Proofs.YtfehpdliobapfaaGreatDoor.S
theorem kids_in {l:List Nd} {a p:Nat} (h:a ∈ kidsOf l p):p<l.length:=by
 apply Classical.byContradiction
 intro hq
 unfold kidsOf at h
 rw [List.getElem?_eq_none (by omega)] at h
 cases h
def parS (l:List Nd) (a:Nat):Option Nat:=(List.range l.length).find? fun p=>decide (a ∈ kidsOf l p)
theorem parS_iff {l:List Nd} (hn:(allKids l).Nodup) {a p:Nat}:parS l a=some p ↔ a ∈ kidsOf l p:=by
 unfold parS
 constructor
 ·intro h
  have:=List.find?_some h
  simpa using this
 ·intro h
  cases hq:(List.range l.length).find? (fun p=>decide (a ∈ kidsOf l p)) with
  | none =>
   have:=List.find?_eq_none.1 hq p (List.mem_range.2 (kids_in h))
   simp at this
   exact absurd h this
  | some q =>
   have:=List.find?_some hq
   simp at this
   rw [one_parent l hn q p a this h]
def meanB (l:List Nd) (m x d:Nat):Bool:=decide (txtS l d=txtS l x) && (match parS l d with|some p=>decide (x ∈ walkS l p)|none=>false) && decide ((postS l m).idxOf d<(postS l m).idxOf x)
def meansS (l:List Nd) (m x:Nat):Option Nat:=(locL l (postS l m)).find? (meanB l m x)
section
variable {l:List Nd} {root:Int} {m:Nat}
theorem only_method (P:ProgOk l root) (H:KindsIn l) (hm:m<l.length) (hk:kndS l m=5\/kndS l m=6) {d p:Nat} (hd:d ∈ walkS l m) (hdm:kndS l d≠5/\kndS l d≠6) (hp:d ∈ kidsOf l p) (hkp:kndS l p=5\/kndS l p=6):p=m:=by
 have up:∀ x,x ∈ walkS l m->x≠m->∀ q,x ∈ kidsOf l q->q ∈ walkS l m:=fun x hx hne q hq=>by
  rcases walk_parent P m hm x hx with e|⟨r,hr,hxr⟩
  ·exact absurd e hne
  ·rw [one_parent l P.once q r x hq hxr];exact hr
 have some_up:∀ x,x ∈ walkS l m->x≠m->∃ q ∈ walkS l m,x ∈ kidsOf l q:=fun x hx hne=>by
  rcases walk_parent P m hm x hx with e|⟨r,hr,hxr⟩
  ·exact absurd e hne
  ·exact ⟨r,hr,hxr⟩
 have h1:=up d hd (fun e=>by rw [e] at hdm;omega) p hp
 apply Classical.byContradiction
 intro hne
 obtain ⟨q,hq,hpq⟩:=some_up p h1 hne
 have kq:kndS l q=2:=(H q p hpq).2.2.2.1 (by omega)
 obtain ⟨r,hr,hqr⟩:=some_up q hq (fun e=>by rw [e] at kq;omega)
 have kr:kndS l r=1:=(H r q hqr).2.2.1 kq
 obtain ⟨t,ht,hrt⟩:=some_up r hr (fun e=>by rw [e] at kr;omega)
 exact (H t r hrt).2.2.2.2 kr
theorem loc_kind {d:Nat} (h:locB l d=true):kndS l d=7\/kndS l d=9:=by unfold locB at h;simpa using h
theorem around (P:ProgOk l root) (H:KindsIn l) (hm:m<l.length) (hk:kndS l m=5\/kndS l m=6) {d:Nat} (hd:d ∈ locL l (postS l m)):∃ p,parS l d=some p/\p<l.length/\(kndS l p=8\/p=m):=by
 obtain ⟨h1,h2⟩:=List.mem_filter.1 hd
 have hw:=(post_perm P m hm).mem_iff.1 h1
 have hl:=loc_kind h2
 rcases walk_parent P m hm d hw with e|⟨p,hp,hdp⟩
 ·rw [e] at hl;omega
 ·refine ⟨p,(parS_iff P.once).2 hdp,kids_in hdp,?_⟩
  rcases hl with h7|h9
  ·exact .inr (only_method P H hm hk hw (by omega) hdp ((H p d hdp).2.1 h7))
  ·exact .inl ((H p d hdp).1 h9)
theorem idx_lt {V B:List Nat} {x d:Nat} (hn:(V ++ x :: B).Nodup):(V ++ x :: B).idxOf d<(V ++ x :: B).idxOf x ↔ d ∈ V:=by
 have hx:x ∉ V:=fun h=>by
  rw [List.nodup_append] at hn
  exact hn.2.2 x h x (by simp) rfl
 have e:(V ++ x :: B).idxOf x=V.length:=by rw [List.idxOf_append,if_neg hx];simp
 rw [e]
 constructor
 ·intro h
  apply Classical.byContradiction
  intro hd
  rw [List.idxOf_append,if_neg hd] at h
  omega
 ·intro h
  rw [List.idxOf_append,if_pos h]
  exact List.idxOf_lt_length_of_mem h
theorem mean_iff (P:ProgOk l root) (H:KindsIn l) (hm:m<l.length) (hk:kndS l m=5\/kndS l m=6) {V B:List Nat} {x d:Nat} (e:postS l m=V ++ x :: B):(d ∈ locL l (postS l m)/\meanB l m x d=true) ↔ Means l V x d:=by
 have hn:=(post_perm P m hm).nodup_iff.2 (walk_once P m hm)
 have hxo:x ∈ postS l m:=by rw [e];simp
 have hxw:=(post_perm P m hm).mem_iff.1 hxo
 have hi:(postS l m).idxOf d<(postS l m).idxOf x ↔ d ∈ V:=by rw [e] at hn ⊢;exact idx_lt hn
 unfold meanB Means
 constructor
 ·rintro ⟨h1,h2⟩
  simp only [Bool.and_eq_true,decide_eq_true_eq] at h2
  obtain ⟨⟨q1,q2⟩,q3⟩:=h2
  refine ⟨hi.1 q3,(List.mem_filter.1 h1).2,q1,.inr ?_⟩
  cases hp:parS l d with
  | none=>rw [hp] at q2;cases q2
  | some p =>
   rw [hp] at q2
   exact ⟨p,(parS_iff P.once).1 hp,by simpa using q2⟩
 ·rintro ⟨h1,h2,h3,h4⟩
  have hd:d ∈ locL l (postS l m):=List.mem_filter.2 ⟨by rw [e];exact List.mem_append_left _ h1,h2⟩
  refine ⟨hd,?_⟩
  simp only [Bool.and_eq_true,decide_eq_true_eq]
  refine ⟨⟨h3,?_⟩,hi.2 h1⟩
  rcases h4 with h7|⟨p,q1,q2⟩
  ·obtain ⟨p,p1,p2,p3⟩:=around P H hm hk hd
   have hdp:=(parS_iff P.once).1 p1
   have:p=m:=only_method P H hm hk ((post_perm P m hm).mem_iff.1 (List.mem_filter.1 hd).1) (by omega) hdp ((H p d hdp).2.1 h7)
   rw [p1,this]
   simpa using hxw
  ·rw [(parS_iff P.once).2 q1]
   simpa using q2
theorem means_iff (P:ProgOk l root) (H:KindsIn l) (hm:m<l.length) (hk:kndS l m=5\/kndS l m=6) {V B:List Nat} {x:Nat} (e:postS l m=V ++ x :: B):meansS l m x=none ↔ ¬ ∃ d,Means l V x d:=by
 unfold meansS
 rw [List.find?_eq_none]
 constructor
 ·rintro h ⟨d,hd⟩
  obtain ⟨h1,h2⟩:=(mean_iff P H hm hk e).2 hd
  exact h d h1 h2
 ·intro h d hd hq
  exact h ⟨d,(mean_iff P H hm hk e).1 ⟨hd,hq⟩⟩
theorem means_us (P:ProgOk l root) (H:KindsIn l) (hm:m<l.length) (hk:kndS l m=5\/kndS l m=6) {s:Sc} (hlc:s.lc=locL l (postS l m)) (hn:(s.lc.map (txtS l)).Nodup) (hu:UsOk l (postS l m) s) {x:Nat} (hx:x ∈ postS l m) (h25:kndS l x=25):∃ k d,s.us x=some k/\s.lc[k]? = some d/\meansS l m x=some d:=by
 obtain ⟨V,B,e⟩:=List.append_of_mem hx
 obtain ⟨d,k,h1,h2,h3⟩:=hu V x B e h25
 refine ⟨k,d,h2,h3,?_⟩
 cases hq:meansS l m x with
 | none=>exact absurd ⟨d,h1⟩ ((means_iff P H hm hk e).1 hq)
 | some d' =>
  have hd':d' ∈ locL l (postS l m):=List.mem_of_find?_eq_some hq
  have hb:=List.find?_some hq
  have ht:txtS l d'=txtS l x:=by
   unfold meanB at hb
   simp only [Bool.and_eq_true,decide_eq_true_eq] at hb
   exact hb.1.1
  rw [<- hlc] at hd'
  obtain ⟨j,hj,e2⟩:=List.getElem_of_mem hd'
  have:j=k:=names_one hn (by rw [List.getElem?_eq_getElem hj,e2]) h3 (by rw [ht,h1.2.2.1])
  subst this
  rw [List.getElem?_eq_getElem hj,e2] at h3
  exact h3
theorem fold_step {V B:List Nat} {x:Nat}:foldE l V (x :: B)=(match stepE l V x with|some e=>some e|none=>foldE l (V ++ [x]) B):=rfl
end
end Go.Proofs.YtfehpdliobapfaaGreatDoor.S
namespace Go.Proofs.YtfehpdliobapfaaGreatDoor.S
open Go Go.RowKit
theorem bel_dn {B:Nat} {a w:World} (h:Below B a w) (n:Nat):Below B a (w.drewN n):=h.trans ⟨rfl,rfl,rfl,Nat.le_refl _,fun _ _=>rfl⟩
theorem idxOf_at {L:List Nat} {x j:Nat} (hj:j<L.length) (h:L[j]=x) (hno:∀ i (hi:i<L.length),i<j->L[i]≠x):L.idxOf x=j:=by
 unfold List.idxOf
 rw [List.findIdx_eq hj]
 exact ⟨by simp [h],fun i hi=>by simpa using hno i (by omega) hi⟩
theorem natI_at {L:List Nat} {j:Nat} (h:j<L.length):(natI L)[j]'(by rw [natI_len];exact h)=((L[j]:Nat):Int):=by simp [natI]
theorem place_any (L:List Nat) (v:Value) (w:World) (h:NumsV w v (natI L)) (hl:L.length<=16384) (x:Nat) (hx:x ∈ L) :
  Calls Tryz.prog 99 #[v,.int .i64 (x:Int)] w fun e w'=>e = .returned (.int .i64 (L.idxOf x:Nat))/\w'=w:=by
 obtain ⟨src,cap,rfl,hn⟩:=h
 have HN:=Lib.hid hn
 have HX:=Lib.hid hx
 rw [natI_len]
 obtain ⟨n,hln⟩:∃ n,n=L.length:=⟨_,rfl⟩
 have HL:=Lib.hid hln
 rw [<- hln] at hl ⊢
 clear hn hln hx
 go_enter Tryz.func99,Tryz.ntmps99
 go_wp2_with fail
 go_loopg [5] n (fun gk iv wr=>∃ j:Nat,iv = .int .i64 (j:Int)/\j+gk=n/\wr=w/\∀ i (hi:i<L.length),i<j->L[i]≠x)
 case atStart=>exact ⟨0,rfl,by omega,rfl,fun i hi h=>absurd h (by omega)⟩
 case round =>
  obtain ⟨j,rfl,hj,rfl,hno⟩:=hrel
  have HO:=Lib.hid hno
  clear hno
  cases gk with
  | zero =>
   exfalso
   obtain ⟨i,hi,hk⟩:=List.getElem_of_mem HX.out
   exact HO.out i hi (by have:=HL.out;omega) hk
  | succ gk =>
   have hlt:j<n:=by omega
   have hjl:j<L.length:=by have:=HL.out;omega
   obtain ⟨b,off,rfl,hb,hrow⟩:=HN.out (by rw [natI_len];omega)
   have c0:=hrow j (by rw [natI_len];exact hjl)
   rw [natI_at hjl] at c0
   have HQ:Hid (L[j]≠x->∀ i (hi:i<L.length),i<j+1->L[i]≠x):=Lib.hid (fun h i hi hij=>by
    by_cases q:i<j
    ·exact HO.out i hi q
    ·have:i=j:=by omega
     subst this;exact h)
   have HI:Hid (L[j]=x->L.idxOf x=j):=Lib.hid (fun h=>idxOf_at hjl h HO.out)
   clear hrow
   generalize L[j]=k at *
   by_cases hz:k=x
   ·have q:((k:Int) == (x:Int))=true:=by simp [hz]
    have q1:decide ((k:Int)=(x:Int))=true:=decide_eq_true (by omega)
    have HZ:=Lib.hid (HI.out hz)
    clear hz
    go_wp2_with fail
    go_ret
    exact ⟨by rw [HZ.out];rfl,rfl⟩
   ·have q:((k:Int) == (x:Int))=false:=by simp;omega
    have q1:decide ((k:Int)=(x:Int))=false:=decide_eq_false (by omega)
    have HZ:=Lib.hid hz
    clear hz
    go_wp2_with fail
    go_roundg gk
    case measure=>omega
    case rel=>exact ⟨j+1,by go_num,by omega,rfl,HQ.out HZ.out⟩
theorem within_any {l:List Nd} {rt:Int} (P:ProgOk l rt) (nv:Value) (root:Int) (x a:Nat) (hx:x<1099511627776) (ha:a<l.length) (w:World) (hn:NdsV w nv l) :
  Calls Tryz.prog 52 #[.agg #[nv,.int .i64 root],.int .i64 (x:Int),.int .i64 (a:Int)] w fun e w'=>e = .returned (.bool (decide (x ∈ walkS l a)))/\Below w.heap.size w w':=by
 have HW:=Lib.hid (fun (w2:World) (hb:Below w.heap.size w w2)=>rwalk_any P nv root a ha w2 (hn.step hb))
 have HLE:Hid ((walkS l a).length<=16384):=Lib.hid (by
  have h1:(walkS l a).length<=l.length:=nodup_len l.length _ (walk_once P a ha) (fun x hx=>by have:=walk_le P a ha x hx;omega)
  have:=P.long;omega)
 obtain ⟨src,cap,rfl,-⟩:=id hn
 clear hn
 go_enter Tryz.func52,Tryz.ntmps52
 go_wp2_with fail
 refine (HW.out _ (by repeat (first|exact Below.refl _ _|apply Below.setCell _ (by first|omega|(simp<;>omega))|apply Below.alloc _ (by first|omega|(simp<;>omega))))).mono ?_
 rintro e w2 ⟨v,rfl,hb,ho⟩
 obtain ⟨hbA,hT2⟩:=new_box hb
 have B2:=Lib.hid hbA
 obtain ⟨s2,c2,rfl,hnum⟩:=own_nums (l:=natI (walkS l a)) (by rw [natI_len];exact ho)
 have HN:=Lib.hid hnum
 clear hb ho hbA hT2 hnum HW
 rw [natI_len]
 obtain ⟨L,hL⟩:∃ L,L=walkS l a:=⟨_,rfl⟩
 have HLW:=Lib.hid hL
 rw [<- hL] at HN HLE ⊢
 clear hL
 obtain ⟨n,hln⟩:∃ n,n=L.length:=⟨_,rfl⟩
 have HL:=Lib.hid hln
 have hl:=HLE.out
 rw [<- hln] at hl ⊢
 clear hln
 go_wp2_with fail
 go_loopg [8] n (fun gk iv wr=>∃ j:Nat,iv = .int .i64 (j:Int)/\j+gk=n/\wr=w2/\∀ i (hi:i<L.length),i<j->L[i]≠x)
 case atStart=>exact ⟨0,rfl,by omega,rfl,fun i hi h=>absurd h (by omega)⟩
 case round =>
  obtain ⟨j,rfl,hj,rfl,hno⟩:=hrel
  have HO:=Lib.hid hno
  clear hno
  cases gk with
  | zero =>
   have d1:decide ((j:Int)<(n:Int))=false:=decide_eq_false (by omega)
   have d2:¬ (j:Int)<(n:Int):=by omega
   have d3:decide (j<n)=false:=decide_eq_false (by omega)
   have d4:¬ j<n:=by omega
   have HF:Hid (x ∉ L):=Lib.hid (fun hm=>by
    obtain ⟨i,hi,hk⟩:=List.getElem_of_mem hm
    exact HO.out i hi (by have:=HL.out;omega) hk)
   go_wp2_with fail
   go_ret
   exact ⟨by rw [<- HLW.out,decide_eq_false HF.out];rfl,B2.out⟩
  | succ gk =>
   have hlt:j<n:=by omega
   have hjl:j<L.length:=by have:=HL.out;omega
   obtain ⟨b,off,rfl,hb,hrow⟩:=HN.out (by rw [natI_len];omega)
   have c0:=hrow j (by rw [natI_len];exact hjl)
   rw [natI_at hjl] at c0
   have HQ:Hid (L[j]≠x->∀ i (hi:i<L.length),i<j+1->L[i]≠x):=Lib.hid (fun h i hi hij=>by
    by_cases q:i<j
    ·exact HO.out i hi q
    ·have:i=j:=by omega
     subst this;exact h)
   have HM:Hid (L[j] ∈ L):=Lib.hid (List.getElem_mem hjl)
   clear hrow
   generalize L[j]=k at *
   by_cases hz:k=x
   ·have q:((k:Int) == (x:Int))=true:=by simp [hz]
    have q1:decide ((k:Int)=(x:Int))=true:=decide_eq_true (by omega)
    have HZ:Hid (x ∈ L):=Lib.hid (by rw [<- hz];exact HM.out)
    clear hz
    go_wp2_with fail
    go_ret
    exact ⟨by rw [<- HLW.out,decide_eq_true HZ.out];rfl,B2.out⟩
   ·have q:((k:Int) == (x:Int))=false:=by simp;omega
    have q1:decide ((k:Int)=(x:Int))=false:=decide_eq_false (by omega)
    have HZ:=Lib.hid hz
    clear hz
    go_wp2_with fail
    go_roundg gk
    case measure=>omega
    case rel=>exact ⟨j+1,by go_num,by omega,rfl,HQ.out HZ.out⟩
theorem par_none {l:List Nd} {a:Nat} (h:∀ p,p<l.length->a ∉ kidsOf l p):parS l a=none:=by
 unfold parS
 rw [List.find?_eq_none]
 intro p hp
 simpa using h p (List.mem_range.1 hp)
theorem rparent_any {l:List Nd} {rt:Int} (P:ProgOk l rt) (nv:Value) (root:Int) (a:Nat) (ha:a<l.length) (w:World) (hn:NdsV w nv l) :
  Calls Tryz.prog 98 #[.agg #[nv,.int .i64 root],.int .i64 (a:Int)] w fun e w'=>e = .returned (.int .i64 (idxI (parS l a)))/\Below w.heap.size w w':=by
 have HHIT:Hid (∀ p,a ∈ kidsOf l p->parS l a=some p):=Lib.hid (fun p hp=>(parS_iff P.once).2 hp)
 have HNO:Hid ((∀ p,p<l.length->a ∉ kidsOf l p)->parS l a=none):=Lib.hid par_none
 have HB:Hid (∀ p,p<l.length->p<a+1->a ∉ kidsOf l p):=Lib.hid (fun p hp h1 h2=>by have:=kidsOf_lt P hp h2;omega)
 have HPP:=Lib.hid P
 obtain ⟨src,cap,rfl,hrow⟩:=hn
 obtain ⟨b,off,rfl,hb,hrow⟩:=hrow (by omega)
 have HROW:=Lib.hid hrow
 have D0:=Lib.hid (DS.new w (.slice (some ⟨b,off,none⟩) l.length cap) root)
 have hal:=P.long
 obtain ⟨n,hnn⟩:∃ n,l.length=n:=⟨_,rfl⟩
 have HNN:=Lib.hid hnn
 rw [hnn] at D0 ha hal ⊢
 clear hrow hnn P
 go_enter Tryz.func98,Tryz.ntmps98
 go_wp2_with fail
 obtain ⟨W1,hW1⟩:∃ W1,W1=w.alloc (.cells #[.slice (some ⟨b,off,none⟩) n cap,.int .i64 root] 25):=⟨_,rfl⟩
 rw [<- hW1] at D0 ⊢
 clear hW1
 go_loopg [5] (n+1) (fun gk iv wr=>∃ j:Nat,iv = .int .i64 (j:Int)/\a+1<=j/\j<=n/\n+1<=j+gk/\wr=W1/\∀ p,p<l.length->p<j->a ∉ kidsOf l p)
 case atStart=>exact ⟨a+1,by go_num,by omega,by omega,by omega,rfl,HB.out⟩
 case round =>
  obtain ⟨j,rfl,hja,hjn,hj,rfl,hno⟩:=hrel
  have HO:=Lib.hid hno
  obtain ⟨t0,t1,tl,tf⟩:=D0.out.box.two
  clear hno
  by_cases hlt:j<n
  ·obtain ⟨gko,rfl⟩:∃ g,gk=g+1:=⟨gk-1,by omega⟩
   have hjl:j<l.length:=by have:=HNN.out;omega
   obtain ⟨kv,ev,hx⟩:=HROW.out j hjl
   have c3:=keep D0.out.bel hb hx.c3
   obtain ⟨ks,kc,rfl,hks⟩:=hx.kids
   have HKS:=Lib.hid hks
   have HKO:=Lib.hid (kidsOf_get l j hjl)
   have HKA:=Lib.hid (HPP.out.ahead j hjl)
   clear hx hks
   generalize l[j].kids=kids at *
   obtain ⟨m,hm⟩:∃ m,kids.length=m:=⟨_,rfl⟩
   have HM:=Lib.hid hm
   rw [hm] at c3
   have hmb:m<=16384:=by
    have h1:(kidsOf l j).length<=j:=nodup_len j _ (kids_nodup l HPP.out.once j) (fun x hx=>kidsOf_lt HPP.out hjl hx)
    rw [HKO.out,List.length_map] at h1
    omega
   clear hm
   go_wp2_with fail
   go_loopg [6] m (fun gk kv wz=>∃ q:Nat,kv = .int .i64 (q:Int)/\q+gk=m/\wz=wr/\∀ i (hi:i<kids.length),i<q->kids[i]≠(a:Int))
   case atStart=>exact ⟨0,rfl,by omega,rfl,fun i hi h=>absurd h (by omega)⟩
   case round =>
    obtain ⟨q,rfl,hq,rfl,hqn⟩:=hrel
    have HQN:=Lib.hid hqn
    clear hqn
    cases gk with
    | zero =>
     have d1:decide ((q:Int)<(m:Int))=false:=decide_eq_false (by omega)
     have d2:¬ (q:Int)<(m:Int):=by omega
     have d3:decide (q<m)=false:=decide_eq_false (by omega)
     have d4:¬ q<m:=by omega
     have HN2:Hid (∀ p,p<l.length->p<j+1->a ∉ kidsOf l p):=Lib.hid (fun p hp hp2 hk=>by
      by_cases h:p<j
      ·exact HO.out p hp h hk
      ·have:p=j:=by omega
       subst this
       rw [HKO.out] at hk
       obtain ⟨z,hz,hz2⟩:=List.mem_map.1 hk
       obtain ⟨i,hi,hiz⟩:=List.getElem_of_mem hz
       have:=(HKA.out z hz).1
       exact HQN.out i hi (by have:=HM.out;omega) (by rw [hiz];omega))
     go_wp2_with fail
     go_roundg gko
     case measure=>omega
     case rel=>exact ⟨j+1,by go_num,by omega,by omega,by omega,rfl,HN2.out⟩
    | succ gk =>
     have hqm:q<m:=by omega
     have hql:q<kids.length:=by have:=HM.out;omega
     obtain ⟨kb,ko,rfl,hkb,hkrow⟩:=HKS.out (by omega)
     have ck:=keep D0.out.bel hkb (hkrow q hql)
     have HMEM:Hid (kids[q] ∈ kids):=Lib.hid (List.getElem_mem hql)
     have HQ2:Hid (kids[q]≠(a:Int)->∀ i (hi:i<kids.length),i<q+1->kids[i]≠(a:Int)):=Lib.hid (fun h i hi hij=>by
      by_cases h2:i<q
      ·exact HQN.out i hi h2
      ·have:i=q:=by omega
       subst this;exact h)
     clear hkrow
     generalize kids[q]=kk at *
     by_cases hz:kk=(a:Int)
     ·have e1:(kk == (a:Int))=true:=by simp [hz]
      have e2:decide (kk=(a:Int))=true:=decide_eq_true hz
      have HZ:Hid (parS l a=some j):=Lib.hid (HHIT.out j (by rw [HKO.out];exact List.mem_map.2 ⟨kk,HMEM.out,by omega⟩))
      clear hz
      go_wp2_with fail
      go_ret
      exact ⟨by rw [HZ.out];rfl,D0.out.bel⟩
     ·have e1:(kk == (a:Int))=false:=by simp [hz]
      have e2:decide (kk=(a:Int))=false:=decide_eq_false hz
      have HZ:=Lib.hid hz
      clear hz
      go_wp2_with fail
      go_roundg gk
      case measure=>omega
      case rel=>exact ⟨q+1,by go_num,by omega,rfl,HQ2.out HZ.out⟩
  ·have d1:decide ((j:Int)<(n:Int))=false:=decide_eq_false (by omega)
   have d2:¬ (j:Int)<(n:Int):=by omega
   have d3:decide (j<n)=false:=decide_eq_false (by omega)
   have HZ:Hid (parS l a=none):=Lib.hid (HNO.out (fun p hp=>HO.out p hp (by have:=HNN.out;omega)))
   go_wp2_with fail
   go_ret
   exact ⟨by rw [HZ.out];rfl,D0.out.bel⟩
theorem locL_take {l:List Nd} {O:List Nat} {j:Nat} (hj:j<O.length):locL l (O.take (j+1))=if locB l O[j]=true then locL l (O.take j) ++ [O[j]] else locL l (O.take j):=by
 rw [List.take_succ_eq_append_getElem hj,locL_one]
theorem locL_len (l:List Nd) (O:List Nat):(locL l O).length<=O.length:=List.length_filter_le _ _
theorem rlocals_any {l:List Nd} {rt:Int} (P:ProgOk l rt) (nv:Value) (root:Int) (a:Nat) (ha:a<l.length) (w:World) (hn:NdsV w nv l) :
  Calls Tryz.prog 47 #[.agg #[nv,.int .i64 root],.int .i64 (a:Int)] w fun e w'=>∃ v,e = .returned v/\Below w.heap.size w w'/\w'.ownsRow w.heap.size 3 1 v (locL l (postS l a)).length (numC (natI (locL l (postS l a)))):=by
 have HW:=Lib.hid (fun (w2:World) (hb:Below w.heap.size w w2)=>rafter_any P nv root a ha w2 (hn.step hb))
 have HLE:Hid ((postS l a).length<=16384):=Lib.hid (by
  have h1:(postS l a).length<=l.length:=nodup_len l.length _ ((post_perm P a ha).nodup_iff.2 (walk_once P a ha)) (fun x hx=>by have:=walk_le P a ha x ((post_perm P a ha).mem_iff.1 hx);omega)
  have:=P.long;omega)
 have HLT:Hid (∀ x ∈ postS l a,x<l.length):=Lib.hid (fun x hx=>by have:=walk_le P a ha x ((post_perm P a ha).mem_iff.1 hx);omega)
 have HNV:=Lib.hid hn
 obtain ⟨src,cap,rfl,hrow⟩:=id hn
 obtain ⟨nb,off,rfl,hnb,hrow⟩:=hrow (by omega)
 have HROW:=Lib.hid hrow
 obtain ⟨n,hnn⟩:∃ n,l.length=n:=⟨_,rfl⟩
 have HNN:=Lib.hid hnn
 have hal:=P.long
 rw [hnn] at HW hal ⊢
 clear hn hrow hnn P
 go_enter Tryz.func47,Tryz.ntmps47
 go_wp2_with fail
 refine (HW.out _ (by repeat (first|exact Below.refl _ _|apply Below.setCell _ (by first|omega|(simp<;>omega))|apply Below.alloc _ (by first|omega|(simp<;>omega))))).mono ?_
 rintro e w2 ⟨v,rfl,hb,ho⟩
 obtain ⟨hbA,hT2⟩:=new_box hb
 have B2:=Lib.hid hbA
 have T2:=Lib.hid hT2
 obtain ⟨s2,c2,rfl,hnum⟩:=own_nums (l:=natI (postS l a)) (by rw [natI_len];exact ho)
 have HN:=Lib.hid hnum
 clear hb ho hbA hT2 hnum HW
 rw [natI_len]
 obtain ⟨O,hO⟩:∃ O,O=postS l a:=⟨_,rfl⟩
 have HOQ:=Lib.hid hO
 rw [<- hO] at HN HLE HLT ⊢
 clear hO
 obtain ⟨m,hm⟩:∃ m,m=O.length:=⟨_,rfl⟩
 have HM:=Lib.hid hm
 have hl:=HLE.out
 rw [<- hm] at hl ⊢
 clear hm
 go_wp2_with fail
 go_loopg [5,7] m (fun gk lv iv wr=>∃ j:Nat,iv = .int .i64 (j:Int)/\j+gk=m/\wr.ownsRow w2.heap.size 3 1 lv (locL l (O.take j)).length (numC (natI (locL l (O.take j))))/\Below w2.heap.size w2 wr)
 case atStart=>exact ⟨0,rfl,by omega,World.ownsRow_nil _ _ _ _,Below.refl _ _⟩
 case round =>
  obtain ⟨j,rfl,hj,hown,hbel⟩:=hrel
  rename World=>wr
  have OW:=Lib.hid hown
  have BR:=Lib.hid hbel
  obtain ⟨lg,lc,rfl⟩:=own_any_shape hown
  clear hown
  cases gk with
  | zero =>
   have d1:decide ((j:Int)<(m:Int))=false:=decide_eq_false (by omega)
   have d2:¬ (j:Int)<(m:Int):=by omega
   have d3:decide (j<m)=false:=decide_eq_false (by omega)
   have d4:¬ j<m:=by omega
   have e:O.take j=O:=List.take_of_length_le (by have:=HM.out;omega)
   have O2:=Lib.hid (show wr.ownsRow w2.heap.size 3 1 (.slice lg (locL l O).length lc) (locL l O).length (numC (natI (locL l O))) by have:=OW.out;rw [e] at this;exact this)
   rw [e]
   clear hbel e
   go_wp2_with fail
   go_ret
   refine ⟨_,rfl,after B2.out BR.out,?_⟩
   rw [<- HOQ.out]
   exact row_down O2.out B2.out.size
  | succ gk =>
   have hjm:j<m:=by omega
   have hjl:j<O.length:=by have:=HM.out;omega
   obtain ⟨ob,oo,rfl,hob,horow⟩:=HN.out (by rw [natI_len];omega)
   have co:=horow j (by rw [natI_len];exact hjl)
   rw [natI_at hjl] at co
   have co:=keep hbel hob co
   have HST:=Lib.hid (locL_take (l:=l) hjl)
   have hxl:=HLT.out _ (List.getElem_mem hjl)
   clear horow
   generalize O[j]=x at *
   obtain ⟨kv,ev,hx⟩:=HROW.out x hxl
   have cn:=keep hbel (Nat.lt_of_lt_of_le hnb B2.out.size) (keep B2.out hnb hx.c0)
   obtain ⟨t0,t1,tl,tf⟩:=(T2.out.keep hbel).two
   have hq:locB l x=decide (l[x].kind=7\/l[x].kind=9):=by unfold locB;rw [kndS_get hxl]
   have HQ:=Lib.hid hq
   have hob:=Nat.lt_of_lt_of_le hob hbel.size
   have hxn:x<n:=by have:=HNN.out;omega
   clear hx hq
   generalize l[x].kind=kk at *
   by_cases h7:kk=7\/kk=9
   ·rw [HQ.out,if_pos (decide_eq_true h7)] at HST
    by_cases h77:kk=7
    ·have e1:(kk == 7)=true:=by simp [h77]
     have e3:decide (kk=7)=true:=decide_eq_true h77
     clear h77
     clear h7 hbel
     go_wp2_with fail
     go_upto_region 6 with fail
     go_quiet (fail)
     have co5:(wr.drewN nq).cell? ⟨ob,oo+j,none⟩=some (.int .i64 (x:Nat)):=co
     have O5:=Lib.hid (ownsRow_step OW.out (show Below wr.heap.size wr (wr.drewN nq) from bel_dn (Below.refl _ _) nq))
     have B5:=Lib.hid (show Below w2.heap.size w2 (wr.drewN nq) from bel_dn BR.out nq)
     have hob5:ob<(wr.drewN nq).heap.size:=hob
     clear co hob t0 t1 tl tf cn
     generalize wr.drewN nq=W5 at *
     obtain ⟨v',w7,hap,hrow7,hb7⟩:=rowi_push (a:=x) O5.out B5.out.size (by have:=locL_len l (O.take j);rw [List.length_take] at this;omega)
     have HAP:=Lib.hid hap
     rw [<- HST] at hrow7
     have RN:=Lib.hid hrow7
     have BN:=Lib.hid (show Below w2.heap.size w2 w7 from B5.out.trans hb7)
     clear hap hrow7 hb7 O5
     go_wp2_with (at_builtin;refine Lib.wpList_append_run _ rfl _ _ _ _ rfl _ _ rfl rfl _ _ HAP.out ?_)
     go_roundg gk
     case measure=>omega
     case rel=>exact ⟨j+1,by go_num,by omega,RN.out,BN.out⟩
    ·have h9:kk=9:=by omega
     have e1:(kk == 7)=false:=by simp [h77]
     have e2:(kk == 9)=true:=by simp [h9]
     have e3:decide (kk=7)=false:=decide_eq_false h77
     have e4:decide (kk=9)=true:=decide_eq_true h9
     clear h77 h9
     clear h7 hbel
     go_wp2_with fail
     go_upto_region 6 with fail
     go_quiet (fail)
     have co5:(wr.drewN nq).cell? ⟨ob,oo+j,none⟩=some (.int .i64 (x:Nat)):=co
     have O5:=Lib.hid (ownsRow_step OW.out (show Below wr.heap.size wr (wr.drewN nq) from bel_dn (Below.refl _ _) nq))
     have B5:=Lib.hid (show Below w2.heap.size w2 (wr.drewN nq) from bel_dn BR.out nq)
     have hob5:ob<(wr.drewN nq).heap.size:=hob
     clear co hob t0 t1 tl tf cn
     generalize wr.drewN nq=W5 at *
     obtain ⟨v',w7,hap,hrow7,hb7⟩:=rowi_push (a:=x) O5.out B5.out.size (by have:=locL_len l (O.take j);rw [List.length_take] at this;omega)
     have HAP:=Lib.hid hap
     rw [<- HST] at hrow7
     have RN:=Lib.hid hrow7
     have BN:=Lib.hid (show Below w2.heap.size w2 w7 from B5.out.trans hb7)
     clear hap hrow7 hb7 O5
     go_wp2_with (at_builtin;refine Lib.wpList_append_run _ rfl _ _ _ _ rfl _ _ rfl rfl _ _ HAP.out ?_)
     go_roundg gk
     case measure=>omega
     case rel=>exact ⟨j+1,by go_num,by omega,RN.out,BN.out⟩
   ·rw [HQ.out,decide_eq_false h7,if_neg (by decide)] at HST
    have e1:(kk == 7)=false:=by simp;omega
    have e2:(kk == 9)=false:=by simp;omega
    have e3:decide (kk=7)=false:=decide_eq_false (by omega)
    have e4:decide (kk=9)=false:=decide_eq_false (by omega)
    clear h7 hbel
    go_wp2_with fail
    go_upto_region 6 with fail
    go_quiet (fail)
    have O5:=Lib.hid (ownsRow_step OW.out (show Below wr.heap.size wr (wr.drewN nq) from bel_dn (Below.refl _ _) nq))
    have B5:=Lib.hid (show Below w2.heap.size w2 (wr.drewN nq) from bel_dn BR.out nq)
    go_wp2_with fail
    go_roundg gk
    case measure=>omega
    case rel=>exact ⟨j+1,by go_num,by omega,by rw [HST];exact O5.out,B5.out⟩
theorem find_at {p:Nat->Bool} {L:List Nat} {j:Nat} (hj:j<L.length) (h:p L[j]=true) (hno:∀ i (hi:i<L.length),i<j->p L[i]=false):L.find? p=some L[j]:=by
 rw [List.find?_eq_some_iff_getElem]
 exact ⟨h,j,hj,rfl,fun i hi=>by simp [hno i (by omega) hi]⟩
theorem find_no {p:Nat->Bool} {L:List Nat} (hno:∀ i (hi:i<L.length),p L[i]=false):L.find? p=none:=by
 rw [List.find?_eq_none]
 intro d hd
 obtain ⟨i,hi,rfl⟩:=List.getElem_of_mem hd
 simp [hno i hi]
theorem rmeans_any {l:List Nd} {rt:Int} (P:ProgOk l rt) (H:KindsIn l) (nv:Value) (root:Int) (m x:Nat) (hm:m<l.length) (hk:kndS l m=5\/kndS l m=6) (hx:x ∈ postS l m) (w:World) (hn:NdsV w nv l) :
  Calls Tryz.prog 53 #[.agg #[nv,.int .i64 root],.int .i64 (m:Int),.int .i64 (x:Int)] w fun e w'=>e = .returned (.int .i64 (idxI (meansS l m x)))/\Below w.heap.size w w':=by
 have HNV:=Lib.hid hn
 have HLO:=Lib.hid (fun (w2:World) (hb:Below w.heap.size w w2)=>rlocals_any P nv root m hm w2 (hn.step hb))
 have HAF:=Lib.hid (fun (w2:World) (hb:Below w.heap.size w w2)=>rafter_any P nv root m hm w2 (hn.step hb))
 have HPA:=Lib.hid (fun (d:Nat) (hd:d<l.length) (w2:World) (hb:Below w.heap.size w w2)=>rparent_any P nv root d hd w2 (hn.step hb))
 have HWI:=Lib.hid (fun (p:Nat) (hp:p<l.length) (w2:World) (hb:Below w.heap.size w w2)=>within_any P nv root x p (by have:=P.long;have:=walk_le P m hm x ((post_perm P m hm).mem_iff.1 hx);omega) hp w2 (hn.step hb))
 have HLE:Hid ((postS l m).length<=16384):=Lib.hid (by
  have h1:(postS l m).length<=l.length:=nodup_len l.length _ ((post_perm P m hm).nodup_iff.2 (walk_once P m hm)) (fun x hx=>by have:=walk_le P m hm x ((post_perm P m hm).mem_iff.1 hx);omega)
  have:=P.long;omega)
 have HLT:Hid (∀ d ∈ postS l m,d<l.length):=Lib.hid (fun d hd=>by have:=walk_le P m hm d ((post_perm P m hm).mem_iff.1 hd);omega)
 have HAR:Hid (∀ d ∈ locL l (postS l m),∃ p,parS l d=some p/\p<l.length/\(kndS l p=8\/p=m)):=Lib.hid (fun d hd=>around P H hm hk hd)
 have HIN:Hid (∀ d ∈ locL l (postS l m),d ∈ postS l m):=Lib.hid (fun d hd=>(List.mem_filter.1 hd).1)
 have HX:=Lib.hid hx
 have HMS:Hid (meansS l m x=(locL l (postS l m)).find? (meanB l m x)):=Lib.hid rfl
 have HMB:Hid (∀ d p,parS l d=some p->meanB l m x d=(decide (txtS l d=txtS l x) && decide (x ∈ walkS l p) && decide ((postS l m).idxOf d<(postS l m).idxOf x))):=Lib.hid (fun d p hp=>by unfold meanB;rw [hp])
 have HMT:Hid (∀ d,txtS l d≠txtS l x->meanB l m x d=false):=Lib.hid (fun d hd=>by unfold meanB;rw [decide_eq_false hd];rfl)
 have hxl:=HLT.out x hx
 obtain ⟨src,cap,rfl,hrow⟩:=id hn
 obtain ⟨nb,off,rfl,hnb,hrow⟩:=hrow (by omega)
 have HROW:=Lib.hid hrow
 obtain ⟨xkv,xev,hxn⟩:=hrow x hxl
 have X4:Hid (w.cell? ⟨nb,off+x*13+4,none⟩=some (.string (txtS l x))):=Lib.hid (by rw [txtS_get hxl];exact hxn.c4)
 have hal:=P.long
 obtain ⟨n,hnn⟩:∃ n,l.length=n:=⟨_,rfl⟩
 have HNN:=Lib.hid hnn
 rw [hnn] at HLO HAF HPA HWI hal hm hxl ⊢
 clear hn hrow hnn P H hxn hx
 go_enter Tryz.func53,Tryz.ntmps53
 go_wp2_with fail
 refine (HLO.out _ (by repeat (first|exact Below.refl _ _|apply Below.setCell _ (by first|omega|(simp<;>omega))|apply Below.alloc _ (by first|omega|(simp<;>omega))))).mono ?_
 rintro e w2 ⟨v,rfl,hb,ho⟩
 obtain ⟨hbA,hT2⟩:=new_box hb
 have B2:=Lib.hid hbA
 have T2:=Lib.hid hT2
 obtain ⟨s2,c2,rfl,hnum⟩:=own_nums (l:=natI (locL l (postS l m))) (by rw [natI_len];exact ho)
 have NL:=Lib.hid hnum
 obtain ⟨t0,t1,tl,tf⟩:=hT2.two
 clear hb ho hbA hT2 hnum HLO
 go_wp2_with fail
 refine (HAF.out _ B2.out).mono ?_
 rintro e w3 ⟨v3,rfl,hb3,ho3⟩
 have B3:=Lib.hid (after B2.out hb3)
 have T3:=Lib.hid (T2.out.keep hb3)
 have NL3:=Lib.hid (NL.out.step hb3)
 obtain ⟨s3,c3,rfl,hnum3⟩:=own_nums (l:=natI (postS l m)) (by rw [natI_len];exact ho3)
 have NO:=Lib.hid (show NumsV w3 (.slice s3 (natI (postS l m)).length c3) (natI (postS l m)) from ⟨s3,c3,rfl,hnum3⟩)
 clear hb3 ho3 hnum3 HAF B2 T2 NL t0 t1 tl tf
 rw [natI_len] at NO
 rw [natI_len,natI_len]
 have hLL:=locL_len l (postS l m)
 generalize locL l (postS l m)=D at *
 generalize postS l m=O at *
 obtain ⟨k,hkk⟩:∃ k,k=D.length:=⟨_,rfl⟩
 have HK:=Lib.hid hkk
 have hkl:k<=16384:=by have:=HLE.out;omega
 obtain ⟨on,hon⟩:∃ on,on=O.length:=⟨_,rfl⟩
 have HON:=Lib.hid hon
 rw [<- hkk,<- hon] at ⊢
 rw [<- hon] at NO
 clear hkk hon hLL
 go_wp2_with fail
 go_loopg [9] k (fun gk iv wr=>∃ j:Nat,iv = .int .i64 (j:Int)/\j+gk=k/\Below w3.heap.size w3 wr/\∀ i (hi:i<D.length),i<j->meanB l m x D[i]=false)
 case atStart=>exact ⟨0,rfl,by omega,Below.refl _ _,fun i hi h=>absurd h (by omega)⟩
 case round =>
  obtain ⟨j,rfl,hj,hbel,hno⟩:=hrel
  rename World=>wr
  have HO:=Lib.hid hno
  have BR:=Lib.hid hbel
  clear hno
  cases gk with
  | zero =>
   have d1:decide ((j:Int)<(k:Int))=false:=decide_eq_false (by omega)
   have d2:¬ (j:Int)<(k:Int):=by omega
   have d3:decide (j<k)=false:=decide_eq_false (by omega)
   have d4:¬ j<k:=by omega
   have HF:Hid (meansS l m x=none):=Lib.hid (by rw [HMS.out];exact find_no (fun i hi=>HO.out i hi (by have:=HK.out;omega)))
   clear hbel
   go_wp2_with fail
   go_ret
   exact ⟨by rw [HF.out];rfl,after B3.out BR.out⟩
  | succ gk =>
   have hjk:j<k:=by omega
   have hjl:j<D.length:=by have:=HK.out;omega
   obtain ⟨ob,oo,rfl,hob,horow⟩:=NL3.out (by rw [natI_len];omega)
   have co:=horow j (by rw [natI_len];exact hjl)
   rw [natI_at hjl] at co
   have co0:=co
   have hob0:=hob
   have co:=keep hbel hob co
   have hob:=Nat.lt_of_lt_of_le hob hbel.size
   have HQ:Hid (meanB l m x D[j]=false->∀ i (hi:i<D.length),i<j+1->meanB l m x D[i]=false):=Lib.hid (fun h i hi hij=>by
    by_cases q:i<j
    ·exact HO.out i hi q
    ·have:i=j:=by omega
     subst this;exact h)
   have HIT:Hid (meanB l m x D[j]=true->meansS l m x=some D[j]):=Lib.hid (fun h=>by rw [HMS.out];exact find_at hjl h HO.out)
   have hdO:=HIN.out _ (List.getElem_mem hjl)
   obtain ⟨p,hp1,hp2,hp3⟩:=HAR.out _ (List.getElem_mem hjl)
   clear horow
   generalize D[j]=d at *
   have hdl:=HLT.out d hdO
   obtain ⟨dkv,dev,hdn⟩:=HROW.out d hdl
   have hd4:w.cell? ⟨nb,off+d*13+4,none⟩=some (.string (txtS l d)):=by rw [txtS_get hdl];exact hdn.c4
   obtain ⟨pkv,pev,hpn⟩:=HROW.out p hp2
   have hp0:w.cell? ⟨nb,off+p*13,none⟩=some (.int .i64 (kndS l p)):=by rw [kndS_get hp2];exact hpn.c0
   have BA:=Lib.hid (after B3.out hbel)
   have cd:=keep BA.out hnb hd4
   have cx:=keep BA.out hnb X4.out
   have P0:=Lib.hid hp0
   obtain ⟨t0,t1,tl,tf⟩:=(T3.out.keep hbel).two
   have hnb2:=Nat.lt_of_lt_of_le hnb BA.out.size
   have hdn2:d<n:=by have:=HNN.out;omega
   have hpn2:p<n:=by have:=HNN.out;omega
   have HP3:=Lib.hid hp3
   have HMP:=Lib.hid (HMB.out d p hp1)
   have HP1:=Lib.hid hp1
   have HDO:=Lib.hid hdO
   clear hdn hpn hp0 hd4 hp3 hp1 hdO
   by_cases ht:txtS l d=txtS l x
   ·have HMP2:Hid (meanB l m x d=(decide (x ∈ walkS l p) && decide (O.idxOf d<O.idxOf x))):=Lib.hid (by rw [HMP.out,decide_eq_true ht,Bool.true_and])
    have e1:((txtS l d).toList != (txtS l x).toList)=false:=by unfold bne;rw [pl_eq,decide_eq_true ht];rfl
    have e2:((txtS l d).toList == (txtS l x).toList)=true:=by rw [pl_eq,decide_eq_true ht]
    have HPD:Hid (∀ w2:World,Below w.heap.size w w2->Calls Tryz.prog 98 #[.agg #[.slice (some ⟨nb,off,none⟩) n cap,.int .i64 root],.int .i64 (d:Int)] w2 fun e w'=>e = .returned (.int .i64 (p:Int))/\Below w2.heap.size w2 w'):=Lib.hid (fun w2 hb=>by have:=HPA.out d hdn2 w2 hb;rw [HP1.out] at this;exact this)
    have HALL:Hid (∀ w2:World,Below w3.heap.size w3 w2->w2.cell? ⟨w.heap.size,0,none⟩=some (.slice (some ⟨nb,off,none⟩) n cap)/\w2.cell? ⟨w.heap.size,1,none⟩=some (.int .i64 root)/\w2.cell? ⟨ob,oo+j,none⟩=some (.int .i64 (d:Int))/\Below w3.heap.size w3 w2):=Lib.hid (fun w2 h=>⟨(T3.out.keep h).cell 0,(T3.out.keep h).cell 1,keep h hob0 co0,h⟩)
    clear HMP HMT
    generalize txtS l d=td at *
    generalize txtS l x=tx at *
    clear ht hbel
    go_wp2_with fail
    go_upto_region 6 with fail
    go_quiet (fail)
    have B5:=Lib.hid (show Below w3.heap.size w3 (wr.drewN nq) from bel_dn BR.out nq)
    clear co cd cx t0 t1 tl tf hob hnb2 BA
    generalize wr.drewN nq=W5 at *
    go_wp2_with fail
    obtain ⟨q0,q1,q2,-⟩:=HALL.out _ B5.out
    clear q0 q1 q2
    go_region_held3 (fun w'=>w'.cell? ⟨w.heap.size,0,none⟩=some (.slice (some ⟨nb,off,none⟩) n cap)/\w'.cell? ⟨w.heap.size,1,none⟩=some (.int .i64 root)/\w'.cell? ⟨ob,oo+j,none⟩=some (.int .i64 (d:Int))/\Below w3.heap.size w3 w') (first|exact HALL.out _ B5.out|exact HALL.out _ (bel_dn B5.out _)|exact HALL.out _ (after (by assumption) hb6)) (first|(go_at_call 98;go_split_ands;refine (HPD.out _ (after B3.out (by assumption))).mono ?_;rintro e w6 ⟨rfl,hb6⟩))
    all_goals go_split_ands
    all_goals go_wp2_with fail
    go_loopw [10] (fun a wz=>a = .int .i64 (p:Int)/\Below w3.heap.size w3 wz) (fun _ _=>0)
    case atStart=>exact ⟨rfl,by assumption⟩
    case round =>
     obtain ⟨rfl,hb7⟩:=hrel
     rename World=>wz
     have B7:=Lib.hid hb7
     obtain ⟨t0,t1,co,-⟩:=HALL.out _ hb7
     have cp:=keep (after B3.out hb7) hnb P0.out
     have tl:=(T3.out.keep hb7).lt
     have hnb3:=Nat.lt_of_lt_of_le hnb (after B3.out hb7).size
     have hob3:=Nat.lt_of_lt_of_le hob0 hb7.size
     have z1:decide ((p:Int) ≥ 0)=true:=decide_eq_true (by omega)
     have z2:decide ((0:Int)<=(p:Int))=true:=decide_eq_true (by omega)
     have HP4:=Lib.hid HP3.out
     generalize kndS l p=kp at *
     by_cases k8:kp=8
     ·have k1:(kp != 8)=false:=by simp [k8]
      have k2:(kp == 8)=true:=by simp [k8]
      clear hb7 k8
      go_wp2_with fail
      refine (HWI.out p hpn2 _ (after B3.out B7.out)).mono ?_
      rintro e w8 ⟨rfl,hb8⟩
      have B8:=Lib.hid (after B7.out hb8)
      have co:=keep hb8 hob3 co
      have hob4:=Nat.lt_of_lt_of_le hob3 hb8.size
      clear t0 t1 tl cp hnb3 hob3 hb8
      by_cases hw:x ∈ walkS l p
      ·have HWT:=Lib.hid hw
       rw [decide_eq_true hw]
       clear hw
       go_wp2_with fail
       refine (place_any O _ w8 (NO.out.step B8.out) HLE.out d HDO.out).mono ?_
       rintro e w9 ⟨rfl,rfl⟩
       go_wp2_with fail
       refine (place_any O _ _ (NO.out.step B8.out) HLE.out x HX.out).mono ?_
       rintro e w10 ⟨rfl,rfl⟩
       by_cases hi:O.idxOf d<O.idxOf x
       ·have HZ:=Lib.hid (HIT.out (by rw [HMP2.out,decide_eq_true HWT.out,decide_eq_true hi];rfl))
        have i1:decide (((O.idxOf d:Nat):Int)<((O.idxOf x:Nat):Int))=true:=decide_eq_true (by omega)
        have i2:decide (O.idxOf d<O.idxOf x)=true:=decide_eq_true hi
        generalize O.idxOf d=id at *
        generalize O.idxOf x=ix at *
        clear hi
        go_wp2_with fail
        go_ret
        exact ⟨by rw [HZ.out];rfl,after B3.out B8.out⟩
       ·have HNB:Hid (meanB l m x d=false):=Lib.hid (by rw [HMP2.out,decide_eq_false hi,Bool.and_false])
        have i1:decide (((O.idxOf d:Nat):Int)<((O.idxOf x:Nat):Int))=false:=decide_eq_false (by omega)
        have i2:decide (O.idxOf d<O.idxOf x)=false:=decide_eq_false hi
        have BZ:=B8
        generalize O.idxOf d=id at *
        generalize O.idxOf x=ix at *
        clear hi
        go_wp2_with fail
        go_roundg gk
        case measure=>omega
        case rel=>exact ⟨j+1,by go_num,by omega,by first|exact BZ.out|exact bel_dn BZ.out _,HQ.out HNB.out⟩
      ·have HNB:Hid (meanB l m x d=false):=Lib.hid (by rw [HMP2.out,decide_eq_false hw];rfl)
       have BZ:=B8
       rw [decide_eq_false hw]
       clear hw
       go_wp2_with fail
       go_roundg gk
       case measure=>omega
       case rel=>exact ⟨j+1,by go_num,by omega,by first|exact BZ.out|exact bel_dn BZ.out _,HQ.out HNB.out⟩
     ·have hpm:p=m:=by rcases HP4.out with h|h;exact absurd h k8;exact h
      have k1:(kp != 8)=true:=by simp [k8]
      have k2:(kp == 8)=false:=by simp [k8]
      have k3:((p:Int) != (m:Int))=false:=by simp [hpm]
      have k4:((p:Int) == (m:Int))=true:=by simp [hpm]
      clear hb7 k8 hpm
      go_wp2_with fail
      refine (HWI.out p hpn2 _ (after B3.out B7.out)).mono ?_
      rintro e w8 ⟨rfl,hb8⟩
      have B8:=Lib.hid (after B7.out hb8)
      have co:=keep hb8 hob3 co
      have hob4:=Nat.lt_of_lt_of_le hob3 hb8.size
      clear t0 t1 tl cp hnb3 hob3 hb8
      by_cases hw:x ∈ walkS l p
      ·have HWT:=Lib.hid hw
       rw [decide_eq_true hw]
       clear hw
       go_wp2_with fail
       refine (place_any O _ w8 (NO.out.step B8.out) HLE.out d HDO.out).mono ?_
       rintro e w9 ⟨rfl,rfl⟩
       go_wp2_with fail
       refine (place_any O _ _ (NO.out.step B8.out) HLE.out x HX.out).mono ?_
       rintro e w10 ⟨rfl,rfl⟩
       by_cases hi:O.idxOf d<O.idxOf x
       ·have HZ:=Lib.hid (HIT.out (by rw [HMP2.out,decide_eq_true HWT.out,decide_eq_true hi];rfl))
        have i1:decide (((O.idxOf d:Nat):Int)<((O.idxOf x:Nat):Int))=true:=decide_eq_true (by omega)
        have i2:decide (O.idxOf d<O.idxOf x)=true:=decide_eq_true hi
        generalize O.idxOf d=id at *
        generalize O.idxOf x=ix at *
        clear hi
        go_wp2_with fail
        go_ret
        exact ⟨by rw [HZ.out];rfl,after B3.out B8.out⟩
       ·have HNB:Hid (meanB l m x d=false):=Lib.hid (by rw [HMP2.out,decide_eq_false hi,Bool.and_false])
        have i1:decide (((O.idxOf d:Nat):Int)<((O.idxOf x:Nat):Int))=false:=decide_eq_false (by omega)
        have i2:decide (O.idxOf d<O.idxOf x)=false:=decide_eq_false hi
        have BZ:=B8
        generalize O.idxOf d=id at *
        generalize O.idxOf x=ix at *
        clear hi
        go_wp2_with fail
        go_roundg gk
        case measure=>omega
        case rel=>exact ⟨j+1,by go_num,by omega,by first|exact BZ.out|exact bel_dn BZ.out _,HQ.out HNB.out⟩
      ·have HNB:Hid (meanB l m x d=false):=Lib.hid (by rw [HMP2.out,decide_eq_false hw];rfl)
       have BZ:=B8
       rw [decide_eq_false hw]
       clear hw
       go_wp2_with fail
       go_roundg gk
       case measure=>omega
       case rel=>exact ⟨j+1,by go_num,by omega,by first|exact BZ.out|exact bel_dn BZ.out _,HQ.out HNB.out⟩
   ·have HNB:=Lib.hid (HMT.out d ht)
    have e1:((txtS l d).toList != (txtS l x).toList)=true:=by unfold bne;rw [pl_eq,decide_eq_false ht];rfl
    have e2:((txtS l d).toList == (txtS l x).toList)=false:=by rw [pl_eq,decide_eq_false ht]
    have BZ:=Lib.hid hbel
    generalize txtS l d=td at *
    generalize txtS l x=tx at *
    clear ht hbel
    go_wp2_with fail
    go_upto_region 6 with fail
    go_quiet (fail)
    go_wp2_with fail
    go_roundg gk
    case measure=>omega
    case rel=>exact ⟨j+1,by go_num,by omega,by first|exact BZ.out|exact bel_dn BZ.out _,HQ.out HNB.out⟩
structure StepD (l:List Nd) (m j x:Nat) (r:Option (Int × Int)) (T:Prop):Prop where
 s3:kndS l x=25->meansS l m x=none->r=some (3,sfrS l x)
 s0:kndS l x=25->meansS l m x≠none->r=none
 sz:kndS l x≠25->locB l x=false->r=none
 s4:locB l x=true->T->r=some (4,sfrS l x)
 s2:locB l x=true->¬ T->64<=(locL l ((postS l m).take j)).length->r=some (2,sfrS l x)
 sn:locB l x=true->¬ T->¬ 64<=(locL l ((postS l m).take j)).length->r=none
def Twice (l:List Nd) (O:List Nat) (x j:Nat):Prop:=∃ i,∃ hi:i<O.length,i<j/\locB l O[i]=true/\txtS l O[i]=txtS l x
theorem step_doc {l:List Nd} {rt:Int} {m:Nat} (P:ProgOk l rt) (H:KindsIn l) (hm:m<l.length) (hk:kndS l m=5\/kndS l m=6) {j:Nat} (hj:j<(postS l m).length) :
  StepD l m j (postS l m)[j] (stepE l ((postS l m).take j) (postS l m)[j]) (Twice l (postS l m) (postS l m)[j] j):=by
 have e:postS l m=(postS l m).take j ++ (postS l m)[j] :: (postS l m).drop (j+1):=by rw [<- List.drop_eq_getElem_cons hj,List.take_append_drop]
 have h1:=means_iff P H hm hk e
 have h2:(∃ d ∈ locL l ((postS l m).take j),txtS l d=txtS l (postS l m)[j]) ↔ Twice l (postS l m) (postS l m)[j] j:=by
  constructor
  ·rintro ⟨d,hd,ht⟩
   obtain ⟨q1,q2⟩:=List.mem_filter.1 hd
   obtain ⟨i,hi,rfl⟩:=List.getElem_of_mem q1
   rw [List.length_take] at hi
   rw [List.getElem_take] at q2 ht
   exact ⟨i,by omega,by omega,q2,ht⟩
  ·rintro ⟨i,hi,hij,hb,ht⟩
   refine ⟨(postS l m)[i],List.mem_filter.2 ⟨?_,hb⟩,ht⟩
   rw [List.mem_take_iff_getElem]
   exact ⟨i,by omega,rfl⟩
 generalize (postS l m)[j]=x at *
 have hb25:locB l x=true->kndS l x≠25:=fun h=>by have:=loc_kind h;omega
 have hl25:kndS l x=25->¬ locB l x=true:=fun h q=>hb25 q h
 refine ⟨fun a b=>?_,fun a b=>?_,fun a b=>?_,fun a b=>?_,fun a b c=>?_,fun a b c=>?_⟩<;>unfold stepE
 ·rw [if_pos ⟨a,h1.1 b⟩]
 ·rw [if_neg (fun q=>b (h1.2 q.2)),if_neg (hl25 a)]
 ·rw [if_neg (fun q=>a q.1),if_neg (by rw [b];decide)]
 ·rw [if_neg (fun q=>hb25 a q.1),if_pos a,if_pos (h2.2 b)]
 ·rw [if_neg (fun q=>hb25 a q.1),if_pos a,if_neg (fun q=>b (h2.1 q)),if_pos c]
 ·rw [if_neg (fun q=>hb25 a q.1),if_pos a,if_neg (fun q=>b (h2.1 q)),if_neg c]
theorem fold_drop {l:List Nd} {O:List Nat} {j:Nat} (hj:j<O.length):foldE l (O.take j) (O.drop j)=(match stepE l (O.take j) O[j] with|some e=>some e|none=>foldE l (O.take (j+1)) (O.drop (j+1))):=by
 rw [List.drop_eq_getElem_cons hj,fold_step,List.take_succ_eq_append_getElem hj]
 all_goals (cases stepE l (O.take j) O[j]<;>rfl)
def RcPost (l:List Nd) (m:Nat) (w:World) (e:Ending) (w':World):Prop:=Below w.heap.size w w'/\∃ c z:Int,e = .returned (.tuple #[.int .i64 c,.int .i64 z])/\(foldE l [] (postS l m)=some (c,z)\/(foldE l [] (postS l m)=none/\c=0/\z=0))
theorem rcheck_any {l:List Nd} {rt:Int} (P:ProgOk l rt) (H:KindsIn l) (nv:Value) (root:Int) (m:Nat) (hm:m<l.length) (hk:kndS l m=5\/kndS l m=6) (w:World) (hn:NdsV w nv l) :
  Calls Tryz.prog 46 #[.agg #[nv,.int .i64 root],.int .i64 (m:Int)] w (RcPost l m w):=by
 have HAF:=Lib.hid (fun (w2:World) (hb:Below w.heap.size w w2)=>rafter_any P nv root m hm w2 (hn.step hb))
 have HME:=Lib.hid (fun (x:Nat) (hx:x ∈ postS l m) (w2:World) (hb:Below w.heap.size w w2)=>rmeans_any P H nv root m x hm hk hx w2 (hn.step hb))
 have HLE:Hid ((postS l m).length<=16384):=Lib.hid (by
  have h1:(postS l m).length<=l.length:=nodup_len l.length _ ((post_perm P m hm).nodup_iff.2 (walk_once P m hm)) (fun x hx=>by have:=walk_le P m hm x ((post_perm P m hm).mem_iff.1 hx);omega)
  have:=P.long;omega)
 have HLT:Hid (∀ d ∈ postS l m,d<l.length):=Lib.hid (fun d hd=>by have:=walk_le P m hm d ((post_perm P m hm).mem_iff.1 hd);omega)
 have HST:=Lib.hid (fun (j:Nat) (hj:j<(postS l m).length)=>step_doc P H hm hk hj)
 have HFD:=Lib.hid (fun (j:Nat) (hj:j<(postS l m).length)=>fold_drop (l:=l) hj)
 have hal:=P.long
 obtain ⟨src,cap,rfl,hrow⟩:=id hn
 obtain ⟨nb,off,rfl,hnb,hrow⟩:=hrow (by omega)
 have HROW:=Lib.hid hrow
 obtain ⟨n,hnn⟩:∃ n,l.length=n:=⟨_,rfl⟩
 have HNN:=Lib.hid hnn
 rw [hnn] at HAF HME hal hm ⊢
 clear hn hrow hnn P H hk
 go_enter Tryz.func46,Tryz.ntmps46
 go_wp2_with fail
 refine (HAF.out _ (by repeat (first|exact Below.refl _ _|apply Below.setCell _ (by first|omega|(simp<;>omega))|apply Below.alloc _ (by first|omega|(simp<;>omega))))).mono ?_
 rintro e w2 ⟨v,rfl,hb,ho⟩
 obtain ⟨hbA,hT2⟩:=new_box hb
 have B2:=Lib.hid hbA
 have T2:=Lib.hid hT2
 obtain ⟨s2,c2,rfl,hnum⟩:=own_nums (l:=natI (postS l m)) (by rw [natI_len];exact ho)
 have NO:=Lib.hid hnum
 clear hb ho hbA hT2 hnum HAF
 unfold RcPost
 rw [natI_len]
 obtain ⟨O,hO⟩:∃ O,O=postS l m:=⟨_,rfl⟩
 have HOQ:=Lib.hid hO
 rw [<- hO] at NO HLE HLT HFD HME ⊢
 have HST2:Hid (∀ (j:Nat) (hj:j<O.length),StepD l m j O[j] (stepE l (O.take j) O[j]) (Twice l O O[j] j)):=Lib.hid (by subst hO;exact HST.out)
 clear hO HST
 obtain ⟨k,hkk⟩:∃ k,k=O.length:=⟨_,rfl⟩
 have HK:=Lib.hid hkk
 have hkl:k<=16384:=by have:=HLE.out;omega
 rw [<- hkk]
 clear hkk
 go_wp2_with fail
 go_loopg [7,8] k (fun gk sv iv wr=>∃ j:Nat,iv = .int .i64 (j:Int)/\sv = .int .i64 ((locL l (O.take j)).length:Nat)/\j+gk=k/\foldE l [] O=foldE l (O.take j) (O.drop j)/\Below w2.heap.size w2 wr)
 case atStart=>exact ⟨0,rfl,rfl,by omega,rfl,Below.refl _ _⟩
 case round =>
  obtain ⟨j,rfl,rfl,hj,hfo,hbel⟩:=hrel
  rename World=>wr
  have HFO:=Lib.hid hfo
  have BR:=Lib.hid hbel
  clear hfo
  cases gk with
  | zero =>
   have d1:decide ((j:Int)<(k:Int))=false:=decide_eq_false (by omega)
   have d2:¬ (j:Int)<(k:Int):=by omega
   have d3:decide (j<k)=false:=decide_eq_false (by omega)
   have d4:¬ j<k:=by omega
   have HE:Hid (foldE l [] O=none):=Lib.hid (by rw [HFO.out,List.drop_of_length_le (by have:=HK.out;omega)];rfl)
   clear hbel
   go_wp2_with fail
   refine bodyPost_ret (v:=.tuple #[.int .i64 0,.int .i64 0]) (by simp [results,Tryz.results46,go_sem]) rfl ?_
   exact ⟨after B2.out BR.out,0,0,rfl,.inr ⟨by rw [<- HOQ.out];exact HE.out,rfl,rfl⟩⟩
  | succ gko =>
   have hjk:j<k:=by omega
   have hjl:j<O.length:=by have:=HK.out;omega
   obtain ⟨ob,oo,rfl,hob,horow⟩:=NO.out (by rw [natI_len];omega)
   have HOR:=Lib.hid (fun (q:Nat) (hq:q<O.length)=>by
    have:=horow q (by rw [natI_len];exact hq)
    rw [natI_at hq] at this
    exact this)
   have co0:=HOR.out j hjl
   have HSJ:=Lib.hid (HST2.out j hjl)
   have HFJ:=Lib.hid (HFD.out j hjl)
   have HTK:=Lib.hid (locL_take (l:=l) hjl)
   have HXO:Hid (O[j] ∈ O):=Lib.hid (List.getElem_mem hjl)
   clear horow
   generalize hx:O[j]=x at *
   have HXX:=Lib.hid hx
   clear hx
   have hxl:=HLT.out x HXO.out
   obtain ⟨kv,ev,hnd⟩:=HROW.out x hxl
   have HKD:=Lib.hid (kndS_get hxl)
   have HTD:=Lib.hid (txtS_get hxl)
   have HSD:=Lib.hid (sfrS_get hxl)
   have hxn:x<n:=by have:=HNN.out;omega
   have HND:=Lib.hid hnd
   have BA:=Lib.hid (after B2.out hbel)
   have hnd2:=hnd.step hnb BA.out
   obtain ⟨ks,kc,rfl,hks⟩:=hnd2.kids
   obtain ⟨es,ec,rfl,hes⟩:=hnd2.ends
   obtain ⟨-,-,d0,d1,d2,d3,d4,d5,d6,d7,d8,d9,d10,d11,d12⟩:=hnd2
   obtain ⟨t0,t1,tl,tf⟩:=(T2.out.keep hbel).two
   have co:=keep hbel hob co0
   have hnb2:=Nat.lt_of_lt_of_le hnb BA.out.size
   have hob2:=Nat.lt_of_lt_of_le hob hbel.size
   have HSEEN0:Hid ((locL l (O.take j)).length<=16384):=Lib.hid (by have:=locL_len l (O.take j);rw [List.length_take] at this;omega)
   clear hnd hks hes
   generalize l[x]=y at *
   go_wp2_with fail
   go_upto_region 6 with fail
   go_region
   clear d0 d1 d2 d3 d4 d5 d6 d7 d8 d9 d10 d11 d12 t0 t1 tl tf co hnb2 hob2
   have YN:Hid (BoxN (wr.alloc (.cells #[.int .i64 y.kind,.int .i64 y.sf,.int .i64 y.st,.slice ks y.kids.length kc,.string y.text,.int .i64 y.B,.string y.N,.int .i64 y.D,.string y.M,.int .i64 y.num,.int .i64 y.wf,.int .i64 y.wt,.slice es y.ends.length ec] 61)).drew wr.heap.size (Array.toList #[.int .i64 y.kind,.int .i64 y.sf,.int .i64 y.st,.slice ks y.kids.length kc,.string y.text,.int .i64 y.B,.string y.N,.int .i64 y.D,.string y.M,.int .i64 y.num,.int .i64 y.wf,.int .i64 y.wt,.slice es y.ends.length ec])):=Lib.hid ((BoxN.new wr #[.int .i64 y.kind,.int .i64 y.sf,.int .i64 y.st,.slice ks y.kids.length kc,.string y.text,.int .i64 y.B,.string y.N,.int .i64 y.D,.string y.M,.int .i64 y.num,.int .i64 y.wf,.int .i64 y.wt,.slice es y.ends.length ec]).keep (bel_dn (Below.refl _ _) 1))
   have BW:Hid (Below wr.heap.size wr (wr.alloc (.cells #[.int .i64 y.kind,.int .i64 y.sf,.int .i64 y.st,.slice ks y.kids.length kc,.string y.text,.int .i64 y.B,.string y.N,.int .i64 y.D,.string y.M,.int .i64 y.num,.int .i64 y.wf,.int .i64 y.wt,.slice es y.ends.length ec] 61)).drew):=Lib.hid (((Below.refl _ _).alloc (Nat.le_refl _) _).drew)
   generalize (wr.alloc (.cells #[.int .i64 y.kind,.int .i64 y.sf,.int .i64 y.st,.slice ks y.kids.length kc,.string y.text,.int .i64 y.B,.string y.N,.int .i64 y.D,.string y.M,.int .i64 y.num,.int .i64 y.wf,.int .i64 y.wt,.slice es y.ends.length ec] 61)).drew=wn at *
   obtain ⟨yb,hyb⟩:∃ yb,yb=wr.heap.size:=⟨_,rfl⟩
   rw [<- hyb] at YN ⊢
   clear hyb
   have BN:=Lib.hid (after BR.out BW.out)
   have HS64:Hid (64<=(locL l (O.take j)).length ↔ 64<=(locL l ((postS l m).take j)).length):=Lib.hid (by rw [<- HOQ.out])
   obtain ⟨sn,hsn⟩:∃ sn,sn=(locL l (O.take j)).length:=⟨_,rfl⟩
   rw [<- hsn] at HSEEN0 HS64 ⊢
   have HSNQ:Hid ((locL l (O.take j)).length=sn):=Lib.hid hsn.symm
   have HSN:=HSEEN0
   clear hsn HSEEN0
   have y0:=YN.out.cell 0
   have y1:=YN.out.cell 1
   have y4:=YN.out.cell 4
   have yl:=YN.out.lt
   have HZB:Hid (locB l x=decide (y.kind=7\/y.kind=9)):=Lib.hid (by unfold locB;rw [HKD.out])
   by_cases h25:y.kind=25
   ·have k25:(y.kind == 25)=true:=by simp [h25]
    have k7:(y.kind != 7)=true:=by simp [h25]
    have k9:(y.kind != 9)=true:=by simp [h25]
    have HK25:Hid (kndS l x=25):=Lib.hid (by rw [HKD.out];exact h25)
    have HLB:Hid (locB l x=false):=Lib.hid (by rw [HZB.out];exact decide_eq_false (by omega))
    have HALL:Hid (∀ W:World,Below wn.heap.size wn W->W.cell? ⟨w.heap.size,0,none⟩=some (.slice (some ⟨nb,off,none⟩) n cap)/\W.cell? ⟨w.heap.size,1,none⟩=some (.int .i64 root)/\W.cell? ⟨ob,oo+j,none⟩=some (.int .i64 (x:Int))/\W.cell? ⟨yb,0,none⟩=some (.int .i64 y.kind)/\Below wn.heap.size wn W):=Lib.hid (fun W h=>⟨(T2.out.keep (after BN.out h)).cell 0,(T2.out.keep (after BN.out h)).cell 1,keep (after BN.out h) hob co0,(YN.out.keep h).cell 0,h⟩)
    have HMX:=Lib.hid (HME.out x HXO.out)
    by_cases hms:meansS l m x=none
    ·rw [hms,show idxI none=(-1:Int) from rfl] at HMX
     have HE:Hid (foldE l [] O=some (3,sfrS l x)):=Lib.hid (by have:=HSJ.out.s3 HK25.out hms;exact (by rw [HFO.out,HFJ.out,this]))
     have HE2:=HE.out
     rw [HSD.out] at HE2
     have HE3:=Lib.hid HE2
     clear HE2
     clear h25 hms y0 y1 y4 yl hbel
     go_wp2_with fail
     go_upto_region 7 with fail
     go_region_held3 (fun w'=>w'.cell? ⟨w.heap.size,0,none⟩=some (.slice (some ⟨nb,off,none⟩) n cap)/\w'.cell? ⟨w.heap.size,1,none⟩=some (.int .i64 root)/\w'.cell? ⟨ob,oo+j,none⟩=some (.int .i64 (x:Int))/\w'.cell? ⟨yb,0,none⟩=some (.int .i64 y.kind)/\Below wn.heap.size wn w') (first|exact HALL.out _ (Below.refl _ _)|exact HALL.out _ (bel_dn (Below.refl _ _) _)|exact HALL.out _ (after (by assumption) hb2)) (first|(go_at_call 53;go_split_ands;refine (HMX.out _ (after B2.out (after BN.out (by assumption)))).mono ?_;rintro e w11 ⟨rfl,hb2⟩;have B11:=Lib.hid (after (show Below wn.heap.size wn _ from by assumption) hb2)))
     all_goals go_split_ands
     have y0:=(YN.out.keep B11.out).cell 0
     have y1:=(YN.out.keep B11.out).cell 1
     have yl:=(YN.out.keep B11.out).lt
     have BZ:=Lib.hid (after BN.out B11.out)
     go_wp2_with fail
     go_quiet (fail)
     go_wp2_with fail
     refine bodyPost_ret (v:=.tuple #[.int .i64 3,.int .i64 y.sf]) (by simp [results,Tryz.results46,go_sem]) rfl ?_
     exact ⟨after B2.out (by first|exact BZ.out|exact bel_dn BZ.out _),3,y.sf,rfl,.inl (by rw [<- HOQ.out];exact HE3.out)⟩
    ·obtain ⟨d,hd⟩:∃ d,meansS l m x=some d:=by
      cases h:meansS l m x with
      | none=>exact absurd h hms
      | some d=>exact ⟨d,rfl⟩
     rw [hd,show idxI (some d)=(d:Int) from rfl] at HMX
     have HS0:=Lib.hid (HSJ.out.s0 HK25.out hms)
     have HFN:Hid (foldE l [] O=foldE l (O.take (j+1)) (O.drop (j+1))):=Lib.hid (by rw [HFO.out,HFJ.out,HS0.out])
     have HSEEN:Hid ((locL l (O.take (j+1))).length=sn):=Lib.hid (by rw [HTK.out,if_neg (by rw [HLB.out];decide)];exact HSNQ.out)
     have dd:decide ((d:Int)<0)=false:=decide_eq_false (by omega)
     clear h25 hms hd y0 y1 y4 yl hbel
     go_wp2_with fail
     go_upto_region 7 with fail
     go_region_held3 (fun w'=>w'.cell? ⟨w.heap.size,0,none⟩=some (.slice (some ⟨nb,off,none⟩) n cap)/\w'.cell? ⟨w.heap.size,1,none⟩=some (.int .i64 root)/\w'.cell? ⟨ob,oo+j,none⟩=some (.int .i64 (x:Int))/\w'.cell? ⟨yb,0,none⟩=some (.int .i64 y.kind)/\Below wn.heap.size wn w') (first|exact HALL.out _ (Below.refl _ _)|exact HALL.out _ (bel_dn (Below.refl _ _) _)|exact HALL.out _ (after (by assumption) hb2)) (first|(go_at_call 53;go_split_ands;refine (HMX.out _ (after B2.out (after BN.out (by assumption)))).mono ?_;rintro e w11 ⟨rfl,hb2⟩;have B11:=Lib.hid (after (show Below wn.heap.size wn _ from by assumption) hb2)))
     all_goals go_split_ands
     have y0:=(YN.out.keep B11.out).cell 0
     have yl:=(YN.out.keep B11.out).lt
     have BZ:=Lib.hid (after BN.out B11.out)
     go_wp2_with fail
     go_roundg gko
     case measure=>omega
     case rel=>exact ⟨j+1,by go_num,(by rw [HSEEN.out]<;>go_num),by omega,HFN.out,by first|exact BZ.out|exact bel_dn BZ.out _⟩
   ·have k25:(y.kind == 25)=false:=by simp [h25]
    have HN25:Hid (kndS l x≠25):=Lib.hid (by rw [HKD.out];exact h25)
    by_cases h7:y.kind=7\/y.kind=9
    ·have HLB:Hid (locB l x=true):=Lib.hid (by rw [HZB.out];exact decide_eq_true h7)
     have hy:y.kind=7\/y.kind=9:=h7
     clear h25 h7 hbel
     go_wp2_with fail
     go_upto_region 7 with fail
     go_quiet (fail)
     go_upto_region 9 with fail
     have hWD:Hid (Below wn.heap.size wn (wn.drewN nq)):=Lib.hid (bel_dn (Below.refl _ _) nq)
     have y0:(wn.drewN nq).cell? ⟨yb,0,none⟩=some (.int .i64 y.kind):=y0
     generalize wn.drewN nq=wq at *
     go_cut [52] from 45 to 52 (fun s52 wz=>s52 = .bool false/\wz=wq)
     case first =>
      by_cases h77:y.kind=7
      ·have k7:(y.kind != 7)=false:=by simp [h77]
       clear hy h77
       go_wp2_with fail
       go_meet
       exact ⟨rfl,rfl⟩
      ·have k7:(y.kind != 7)=true:=by simp [h77]
       have k9:(y.kind != 9)=false:=by simp;omega
       clear hy h77
       go_wp2_with fail
       go_meet
       exact ⟨rfl,rfl⟩
     case rest =>
      obtain ⟨rfl,hw⟩:=hcut
      replace hw:=hw.symm
      subst hw
      clear hy
      go_wp2_with fail
      clear y0 y1 y4 yl
      go_loopg [10] j (fun gk kv wz=>∃ q:Nat,kv = .int .i64 (q:Int)/\q+gk=j/\Below wn.heap.size wn wz/\∀ i (hi:i<O.length),i<q->¬ (locB l O[i]=true/\txtS l O[i]=txtS l x))
      case atStart=>exact ⟨0,rfl,by omega,hWD.out,fun i hi h=>absurd h (by omega)⟩
      case round =>
       obtain ⟨q,rfl,hq,hbq,hqn⟩:=hrel
       rename World=>wz
       have BQ:=Lib.hid hbq
       have HQN:=Lib.hid hqn
       have BZ:=Lib.hid (after BN.out hbq)
       have y0:=(YN.out.keep hbq).cell 0
       have y1:=(YN.out.keep hbq).cell 1
       have y4:=(YN.out.keep hbq).cell 4
       have yl:=(YN.out.keep hbq).lt
       clear hqn hbq
       cases gk with
       | zero =>
        have d1:decide ((q:Int)<(j:Int))=false:=decide_eq_false (by omega)
        have d2:¬ (q:Int)<(j:Int):=by omega
        have d3:decide (q<j)=false:=decide_eq_false (by omega)
        have d4:¬ q<j:=by omega
        have HNT:Hid (¬ Twice l O x j):=Lib.hid (fun ⟨i,hi,hij,hb,ht⟩=>HQN.out i hi (by omega) ⟨hb,ht⟩)
        by_cases h64:64<=sn
        ·have HE:Hid (foldE l [] O=some (2,sfrS l x)):=Lib.hid (by have:=HSJ.out.s2 HLB.out HNT.out (HS64.out.1 h64);exact (by rw [HFO.out,HFJ.out,this]))
         have HE2:=HE.out
         rw [HSD.out] at HE2
         have HE3:=Lib.hid HE2
         clear HE2
         have z1:decide ((sn:Int)+1 > 64)=true:=decide_eq_true (by omega)
         have z2:decide ((64:Int)<(sn:Int)+1)=true:=decide_eq_true (by omega)
         have z3:decide (64<sn+1)=true:=decide_eq_true (by omega)
         have z4:sn+1<=16385:=by have:=HSN.out;omega
         clear h64
         go_wp2_with fail
         go_quiet (fail)
         go_wp2_with fail
         refine bodyPost_ret (v:=.tuple #[.int .i64 2,.int .i64 y.sf]) (by simp [results,Tryz.results46,go_sem]) rfl ?_
         exact ⟨after B2.out (by first|exact BZ.out|exact bel_dn BZ.out _),2,y.sf,rfl,.inl (by rw [<- HOQ.out];exact HE3.out)⟩
        ·have HS0:=Lib.hid (HSJ.out.sn HLB.out HNT.out (fun h=>h64 (HS64.out.2 h)))
         have HFN:Hid (foldE l [] O=foldE l (O.take (j+1)) (O.drop (j+1))):=Lib.hid (by rw [HFO.out,HFJ.out,HS0.out])
         have HSEEN:Hid ((locL l (O.take (j+1))).length=sn+1):=Lib.hid (by rw [HTK.out,if_pos HLB.out,List.length_append,HSNQ.out];rfl)
         have z1:decide ((sn:Int)+1 > 64)=false:=decide_eq_false (by omega)
         have z2:decide ((64:Int)<(sn:Int)+1)=false:=decide_eq_false (by omega)
         have z3:decide (64<sn+1)=false:=decide_eq_false (by omega)
         have z4:sn+1<=16385:=by omega
         clear h64
         go_wp2_with fail
         go_roundg gko
         case measure=>omega
         case rel=>exact ⟨j+1,by go_num,(by rw [HSEEN.out]<;>go_num),by omega,HFN.out,by first|exact BZ.out|exact bel_dn BZ.out _⟩
       | succ gk =>
        have hqj:q<j:=by omega
        have hql:q<O.length:=by omega
        have cq0:=HOR.out q hql
        have HZO:Hid (O[q] ∈ O):=Lib.hid (List.getElem_mem hql)
        have HQ2:Hid (¬ (locB l O[q]=true/\txtS l O[q]=txtS l x)->∀ i (hi:i<O.length),i<q+1->¬ (locB l O[i]=true/\txtS l O[i]=txtS l x)):=Lib.hid (fun h i hi hij=>by
         by_cases h2:i<q
         ·exact HQN.out i hi h2
         ·have:i=q:=by omega
          subst this;exact h)
        have HTW:Hid ((locB l O[q]=true/\txtS l O[q]=txtS l x)->Twice l O x j):=Lib.hid (fun h=>⟨q,hql,hqj,h.1,h.2⟩)
        generalize hu:O[q]=u at *
        have hul:=HLT.out u HZO.out
        obtain ⟨zkv,zev,hzd⟩:=HROW.out u hul
        have HKU:=Lib.hid (kndS_get hul)
        have HTU:=Lib.hid (txtS_get hul)
        have hun:u<n:=by have:=HNN.out;omega
        have BB:=Lib.hid (after B2.out BZ.out)
        have hzd:=hzd.step hnb BB.out
        obtain ⟨zs,zc,rfl,-⟩:=hzd.kids
        obtain ⟨fs,fc,rfl,-⟩:=hzd.ends
        obtain ⟨-,-,d0,d1,d2,d3,d4,d5,d6,d7,d8,d9,d10,d11,d12⟩:=hzd
        obtain ⟨t0,t1,tl,tf⟩:=(T2.out.keep BZ.out).two
        have co:=keep BZ.out hob cq0
        have hnb2:=Nat.lt_of_lt_of_le hnb BB.out.size
        have hob2:=Nat.lt_of_lt_of_le hob BZ.out.size
        clear hu cq0
        generalize l[u]=z at *
        clear y0 y1 y4 yl
        go_wp2_with fail
        go_upto_region 13 with fail
        go_region
        clear d0 d1 d2 d3 d4 d5 d6 d7 d8 d9 d10 d11 d12 t0 t1 tl tf co hnb2 hob2
        have ZN:Hid (BoxN (wz.alloc (.cells #[.int .i64 z.kind,.int .i64 z.sf,.int .i64 z.st,.slice zs z.kids.length zc,.string z.text,.int .i64 z.B,.string z.N,.int .i64 z.D,.string z.M,.int .i64 z.num,.int .i64 z.wf,.int .i64 z.wt,.slice fs z.ends.length fc] 61)).drew wz.heap.size (Array.toList #[.int .i64 z.kind,.int .i64 z.sf,.int .i64 z.st,.slice zs z.kids.length zc,.string z.text,.int .i64 z.B,.string z.N,.int .i64 z.D,.string z.M,.int .i64 z.num,.int .i64 z.wf,.int .i64 z.wt,.slice fs z.ends.length fc])):=Lib.hid ((BoxN.new wz #[.int .i64 z.kind,.int .i64 z.sf,.int .i64 z.st,.slice zs z.kids.length zc,.string z.text,.int .i64 z.B,.string z.N,.int .i64 z.D,.string z.M,.int .i64 z.num,.int .i64 z.wf,.int .i64 z.wt,.slice fs z.ends.length fc]).keep (bel_dn (Below.refl _ _) 1))
        have BV:Hid (Below wz.heap.size wz (wz.alloc (.cells #[.int .i64 z.kind,.int .i64 z.sf,.int .i64 z.st,.slice zs z.kids.length zc,.string z.text,.int .i64 z.B,.string z.N,.int .i64 z.D,.string z.M,.int .i64 z.num,.int .i64 z.wf,.int .i64 z.wt,.slice fs z.ends.length fc] 61)).drew):=Lib.hid (((Below.refl _ _).alloc (Nat.le_refl _) _).drew)
        generalize (wz.alloc (.cells #[.int .i64 z.kind,.int .i64 z.sf,.int .i64 z.st,.slice zs z.kids.length zc,.string z.text,.int .i64 z.B,.string z.N,.int .i64 z.D,.string z.M,.int .i64 z.num,.int .i64 z.wf,.int .i64 z.wt,.slice fs z.ends.length fc] 61)).drew=wv at *
        obtain ⟨zb,hzb⟩:∃ zb,zb=wz.heap.size:=⟨_,rfl⟩
        rw [<- hzb] at ZN ⊢
        clear hzb
        have BQ2:=Lib.hid (after BQ.out BV.out)
        have BZ:=Lib.hid (after BN.out BQ2.out)
        have y0:=(YN.out.keep BQ2.out).cell 0
        have y1:=(YN.out.keep BQ2.out).cell 1
        have y4:=(YN.out.keep BQ2.out).cell 4
        have yl:=(YN.out.keep BQ2.out).lt
        have n0:=ZN.out.cell 0
        have n4:=ZN.out.cell 4
        have nl:=ZN.out.lt
        have HZB:Hid (locB l u=decide (z.kind=7\/z.kind=9)):=Lib.hid (by unfold locB;rw [HKU.out])
        clear BV
        obtain ⟨qb,hqb⟩:∃ qb,qb=(decide (z.kind=7\/z.kind=9) && decide (z.text=y.text)):=⟨_,rfl⟩
        have HQB:=Lib.hid hqb
        go_upto_region 14 with fail
        go_cut [80] from 66 to 80 (fun s80 wx=>s80 = .bool qb/\wx=wv)
        case first =>
         by_cases hz:z.kind=7\/z.kind=9
         ·have x1:(z.text.toList == y.text.toList)=qb:=by rw [hqb,pl_eq,decide_eq_true hz,Bool.true_and]
          by_cases h7:z.kind=7
          ·have x2:(z.kind == 7)=true:=by simp [h7]
           clear hz hqb h7
           go_wp2_with fail
           go_meet
           exact ⟨rfl,rfl⟩
          ·have x2:(z.kind == 7)=false:=by simp [h7]
           have x3:(z.kind == 9)=true:=by simp;omega
           clear hz hqb h7
           go_wp2_with fail
           go_meet
           exact ⟨rfl,rfl⟩
         ·have x1:qb=false:=by rw [hqb,decide_eq_false hz];rfl
          have x2:(z.kind == 7)=false:=by simp;omega
          have x3:(z.kind == 9)=false:=by simp;omega
          clear hz hqb
          subst x1
          go_wp2_with fail
          go_meet
          exact ⟨rfl,rfl⟩
        case rest =>
         obtain ⟨rfl,hw⟩:=hcut
         replace hw:=hw.symm
         subst hw
         clear hqb
         cases qb with
         | true =>
          have hq:=HQB.out.symm
          simp only [Bool.and_eq_true,decide_eq_true_eq] at hq
          have HE:Hid (foldE l [] O=some (4,sfrS l x)):=Lib.hid (by have:=HSJ.out.s4 HLB.out (HTW.out ⟨by rw [HZB.out];exact decide_eq_true hq.1,by rw [HTU.out,HTD.out];exact hq.2⟩);exact (by rw [HFO.out,HFJ.out,this]))
          have HE2:=HE.out
          rw [HSD.out] at HE2
          have HE3:=Lib.hid HE2
          clear HE2
          clear hq
          go_wp2_with fail
          go_quiet (fail)
          go_wp2_with fail
          refine bodyPost_ret (v:=.tuple #[.int .i64 4,.int .i64 y.sf]) (by simp [results,Tryz.results46,go_sem]) rfl ?_
          exact ⟨after B2.out (by first|exact BZ.out|exact bel_dn BZ.out _),4,y.sf,rfl,.inl (by rw [<- HOQ.out];exact HE3.out)⟩
         | false =>
          have HN2:=Lib.hid (HQ2.out (fun h=>by
           have h1:=h.1
           rw [HZB.out] at h1
           have h2:=h.2
           rw [HTU.out,HTD.out] at h2
           have:=HQB.out
           rw [h1,decide_eq_true h2] at this
           cases this))
          go_wp2_with fail
          go_roundg gk
          case measure=>omega
          case rel=>exact ⟨q+1,by go_num,by omega,by first|exact BQ2.out|exact bel_dn BQ2.out _,HN2.out⟩
    ·have k7:(y.kind != 7)=true:=by simp;omega
     have k9:(y.kind != 9)=true:=by simp;omega
     have HLB:Hid (locB l x=false):=Lib.hid (by rw [HZB.out];exact decide_eq_false h7)
     have HS0:=Lib.hid (HSJ.out.sz HN25.out HLB.out)
     have HFN:Hid (foldE l [] O=foldE l (O.take (j+1)) (O.drop (j+1))):=Lib.hid (by rw [HFO.out,HFJ.out,HS0.out])
     have HSEEN:Hid ((locL l (O.take (j+1))).length=sn):=Lib.hid (by rw [HTK.out,if_neg (by rw [HLB.out];decide)];exact HSNQ.out)
     have BZ:=BN
     clear h25 h7 hbel
     go_wp2_with fail
     go_upto_region 7 with fail
     go_quiet (fail)
     go_wp2_with fail
     go_roundg gko
     case measure=>omega
     case rel=>exact ⟨j+1,by go_num,(by rw [HSEEN.out]<;>go_num),by omega,HFN.out,by first|exact BZ.out|exact bel_dn BZ.out _⟩
theorem read_facts {x:ByteArray} (h:(parsedX x).2.1=0) (hl:(parsedX x).1.length<=16384):checkE (parsedX x).1 (((parsedX x).1.length:Int)-1)=0/\KindsIn (parsedX x).1:=by
 have hx:codeX x=0:=by
  by_cases hc:codeX x=0
  ·exact hc
  ·rw [parsed_lex hc] at h;exact h
 cases hp:parseP (pcOf x) with
 | bad c z=>rw [parsed_bad hx hp] at h;exact absurd h (parse_code hp)
 | out=>exact absurd hp (parse_ends (pc_cw hx))
 | ok t =>
  rename_i t'
  have e:=parsed_ok hx hp
  rw [e] at hl ⊢
  obtain ⟨h1,-,u,j,h2,-,h3⟩:=G.parse_right (G.pc_sz hx) hp hl
  refine ⟨h1,fun p x hx=>?_⟩
  have hx:x ∈ kidsOf t'.made p:=hx
  show G.inK (kndS t'.made p) (kndS t'.made x)
  rw [h3] at hx ⊢
  exact G.read_in h2 p x hx
theorem meth_kind {l:List Nd} {k:Int} {m:Nat} (h:methS l k=(m:Int)):m<l.length/\(kndS l m=5\/kndS l m=6):=by
 unfold methS at h
 by_cases h0:allS l l.length=[]\/k<0
 ·rw [if_pos h0] at h;omega
 ·rw [if_neg h0] at h
  have hz:(allS l l.length).length≠0:=fun e=>h0 (.inl (List.eq_nil_of_length_eq_zero e))
  have hlt:=Nat.mod_lt k.toNat (Nat.pos_of_ne_zero hz)
  have hm:(allS l l.length).getD (k.toNat % (allS l l.length).length) 0 ∈ allS l l.length:=by
   rw [List.getD_eq_getElem?_getD,List.getElem?_eq_getElem hlt]
   exact List.getElem_mem hlt
  have e:(allS l l.length).getD (k.toNat % (allS l l.length).length) 0=m:=by omega
  rw [e] at hm
  obtain ⟨q1,q2⟩:=List.mem_filter.1 hm
  refine ⟨List.mem_range.1 q1,?_⟩
  simp only [Bool.or_eq_true,decide_eq_true_eq] at q2
  exact q2.symm
theorem of_fold {l:List Nd} {m:Nat} (P:ProgOk l ((l.length:Int)-1)) (H:KindsIn l) (hc:checkE l ((l.length:Int)-1)=0) (hm:m<l.length) (hk:kndS l m=5\/kndS l m=6) :
  match ofS l ((l.length:Int)-1) (m:Int) with
  | .error e=>foldE l [] (postS l m)=some e
  | .ok s=>foldE l [] (postS l m)=none/\s.lc=locL l (postS l m)/\(s.lc.map (txtS l)).Nodup/\UsOk l (postS l m) s:=by
 rw [ofS_walk hc (by rintro (q|q|q);omega;omega;exact hk.elim (fun h=>q.2 h) (fun h=>q.1 h))]
 exact scope_fold P H.housed hm hk _
theorem find_lc {l:List Nd} {s:Sc} (hn:(s.lc.map (txtS l)).Nodup) {j d:Nat} (h:s.lc[j]? = some d):findS l s.lc (txtS l d)=some j:=by
 cases hf:findS l s.lc (txtS l d) with
 | none=>exact absurd rfl (findS_none hf d (List.mem_of_getElem? h))
 | some q =>
  obtain ⟨hq,ht⟩:=findS_some hf
  rw [names_one hn (List.getElem?_eq_getElem hq) h ht]
theorem loc_ne (t:ByteArray) (B:Int) (N:ByteArray) (D:Int) (M:ByteArray) (z:Int) (q:Bool) (w:World) :
  Sem.run Tryz.prog (binOp BinOp.neq 88 (.agg #[.string t,.int .i64 B,.string N,.int .i64 D,.string M,.int .i64 z,.bool q]) (.agg #[.string t,.int .i64 B,.string N,.int .i64 D,.string M,.int .i64 z,.bool q])) w = .ok (.bool false) w:=by
 go_simp
 try simp
theorem findsw_any (x:ByteArray) (hm:x.size<=maxLen) (k:Int) (wk:(Lit.int .i64 k).wf=true) (w:World) (hT:ShTab w) :
  Calls Tryz.prog 9 #[.string x,.int .i64 k] w fun e w'=>e = .returned (.bool true)/\Below w.heap.size w w':=by
 have HT:=Lib.hid hT
 have HM:=Lib.hid hm
 have HK:Hid (In64 k):=Lib.hid (show -9223372036854775808<=k/\k<=9223372036854775807 from bounds_i64 wk)
 have HRF:=Lib.hid (@read_facts x)
 clear wk
 by_cases hbig:1200<x.size
 ·have q1:decide ((x.size:Int) > 1200)=true:=decide_eq_true (by omega)
  have q2:decide ((1200:Int)<(x.size:Int))=true:=decide_eq_true (by omega)
  go_enter Tryz.func9,Tryz.ntmps9
  go_wp2_with fail
  refine (means_any w hT).mono ?_
  rintro e w1 ⟨rfl,hb1⟩
  have BB:=Lib.hid hb1
  clear hb1
  go_wp2_with fail
  go_ret
  exact ⟨rfl,by first|exact BB.out|exact BB.out.alloc (by have:=BB.out.size;omega) _⟩
 ·have q1:decide ((x.size:Int) > 1200)=false:=decide_eq_false (by omega)
  have q2:decide ((1200:Int)<(x.size:Int))=false:=decide_eq_false (by omega)
  have q3:x.size<=1200:=by omega
  go_enter Tryz.func9,Tryz.ntmps9
  go_wp2_with fail
  refine (means_any w hT).mono ?_
  rintro e w1 ⟨rfl,hb1⟩
  have B1:=Lib.hid hb1
  clear hb1 hT
  go_wp2_with fail
  refine (parse_any x w1 HM.out).mono ?_
  rintro e w2 ⟨hb2,v,root,rfl,hyes,hno⟩
  have B2:=Lib.hid (after B1.out hb2)
  clear hbig q1 q2 q3
  generalize parsedX x=R at *
  obtain ⟨l,c,z⟩:=R
  dsimp only at hyes hno HRF ⊢
  by_cases hc:c=0
  ·subst hc
   obtain ⟨rfl,hn,h0,hl,hgood⟩:=hyes rfl
   have N2:=Lib.hid hn
   have L2:=Lib.hid hl
   have HG:Hid (∀ y ∈ l,NdFit y):=Lib.hid (fun y hy=>good_fit (hgood y hy))
   obtain ⟨s1,c1,rfl,-⟩:=id hn.nds
   obtain ⟨P,H⟩:=HRF.out rfl (by omega)
   have PP:=Lib.hid (check_ok _ _ P)
   have HCK:=Lib.hid P
   have HH:=Lib.hid H
   clear hyes hno hn h0 hl hgood hb2 HRF P H
   have HME:=Lib.hid (fun (w3:World) (hb:Below w2.heap.size w2 w3)=>method_any l (.slice s1 l.length c1) ((l.length:Int)-1) k w3 (N2.out.nds.step hb) (by have:=L2.out;omega) HK.out)
   go_wp2_with fail
   refine (HME.out _ (by repeat (first|exact Below.refl _ _|apply Below.setCell _ (by first|omega|(simp<;>omega))|apply Below.alloc _ (by first|omega|(simp<;>omega))))).mono ?_
   rintro e w3 ⟨rfl,hb3⟩
   obtain ⟨hbA,hT3,hF3⟩:=new_two hb3
   have B3:=Lib.hid (after B2.out hbA)
   have T3:=Lib.hid hT3
   have F3:=Lib.hid hF3
   have N3:=Lib.hid (N2.out.nds.step hbA)
   have HO:=Lib.hid (of_any l (.slice s1 l.length c1) ((l.length:Int)-1) (methS l k) w3 (HT.out.step B3.out) (N2.out.nds.step hbA) (by have:=L2.out;omega) HG.out)
   have HMK:=Lib.hid (fun (m:Nat) (h:methS l k=(m:Int))=>meth_kind h)
   clear hb3 hbA hT3 hF3 HME N2
   obtain ⟨f0,f1,fl,ff⟩:=F3.out.two
   obtain ⟨t0,t1,tl,tf⟩:=T3.out.two
   generalize methS l k=m at *
   by_cases hneg:m<0
   ·have n1:decide (m<0)=true:=decide_eq_true hneg
    have BB:=B3
    clear hneg HO
    go_wp2_with fail
    go_ret
    exact ⟨rfl,by first|exact BB.out|exact BB.out.alloc (by have:=BB.out.size;omega) _⟩
   obtain ⟨m,rfl⟩:∃ q:Nat,m=q:=⟨m.toNat,by omega⟩
   have n1:decide ((m:Int)<0)=false:=decide_eq_false hneg
   obtain ⟨n,hnn⟩:∃ n,l.length=n:=⟨_,rfl⟩
   have HNN:=Lib.hid hnn
   obtain ⟨hml,hmk⟩:=HMK.out m rfl
   have HMK2:=Lib.hid hmk
   have HML:=Lib.hid hml
   rw [hnn] at HO t0 t1 hml ⊢
   clear hneg HMK hmk
   by_cases h400:400<n
   ·have n2:decide ((n:Int) > 400)=true:=decide_eq_true (by omega)
    have n3:decide ((400:Int)<(n:Int))=true:=decide_eq_true (by omega)
    have BB:=B3
    clear h400 HO hnn
    go_wp2_with fail
    go_ret
    exact ⟨rfl,by first|exact BB.out|exact BB.out.alloc (by have:=BB.out.size;omega) _⟩
   have n2:decide ((n:Int) > 400)=false:=decide_eq_false (by omega)
   have n3:decide ((400:Int)<(n:Int))=false:=decide_eq_false (by omega)
   have HFe:Hid (∀ e,ofS l ((l.length:Int)-1) (m:Int) = .error e->foldE l [] (postS l m)=some e):=Lib.hid (fun e h=>by have:=of_fold PP.out HH.out HCK.out HML.out HMK2.out;rw [h] at this;exact this)
   have HFk:Hid (∀ s,ofS l ((l.length:Int)-1) (m:Int) = .ok s->foldE l [] (postS l m)=none/\s.lc=locL l (postS l m)/\(s.lc.map (txtS l)).Nodup/\UsOk l (postS l m) s):=Lib.hid (fun s h=>by have:=of_fold PP.out HH.out HCK.out HML.out HMK2.out;rw [h] at this;exact this)
   rw [hnn] at HFe HFk
   clear hnn
   go_wp2_with fail
   refine HO.out.mono ?_
   rintro e w4 ⟨hb4,hor⟩
   have B4:=Lib.hid (after B3.out hb4)
   have T4:=Lib.hid (T3.out.keep hb4)
   have N4:=Lib.hid (N3.out.step hb4)
   have HCH:=Lib.hid (fun (w5:World) (hb:Below w4.heap.size w4 w5)=>rcheck_any PP.out HH.out (.slice s1 l.length c1) ((l.length:Int)-1) m HML.out HMK2.out w5 (N4.out.step hb))
   rw [HNN.out] at HCH
   clear HO f0 f1 fl ff t0 t1 tl tf hb4 F3 T3 N3 B3
   obtain ⟨t0,t1,tl,tf⟩:=T4.out.two
   rcases hor with ⟨k4,z4,hr,rfl,hk0⟩|⟨s,S,hr,rfl,hX⟩
   ·have HFE:=Lib.hid (HFe.out _ hr)
    have z1:(k4 != 0)=true:=by simp [hk0]
    have z2:(k4 == 0)=false:=by simp [hk0]
    clear hr HFe HFk hk0
    rw [HNN.out] at t0 t1
    go_wp2_with fail
    refine (HCH.out _ (by repeat (first|exact Below.refl _ _|apply Below.setCell _ (by first|omega|(simp<;>omega))|apply Below.alloc _ (by first|omega|(simp<;>omega))))).mono ?_
    rintro e w5 ⟨hb5,c5,z5,rfl,hcz⟩
    obtain ⟨hbA,hF5⟩:=new_box hb5
    obtain ⟨rfl,rfl⟩:c5=k4/\z5=z4:=by
     rcases hcz with h|⟨h,-,-⟩
     ·have e:=HFE.out.symm.trans h
      simp only [Option.some.injEq,Prod.mk.injEq] at e
      exact ⟨e.1.symm,e.2.symm⟩
     ·have e:=HFE.out.symm.trans h
      cases e
    have BB:=Lib.hid (after B4.out hbA)
    obtain ⟨f0,f1,fl,ff⟩:=hF5.two
    clear hb5 hcz hbA hF5 t0 t1 tl tf
    go_wp2_with fail
    go_ret
    exact ⟨rfl,by first|exact BB.out|exact BB.out.alloc (by have:=BB.out.size;omega) _⟩
   ·obtain ⟨fe,flc,fnm,fus⟩:=HFk.out _ hr
    have HFE:=Lib.hid (show foldE l [] (postS l m)=none from fe)
    obtain ⟨-,K,-⟩:=scope_ok (show scopeS l ((n:Int)-1) (m:Int) (inBlockS l ((m:Int)).toNat) = .ok s from hr)
    have em:((m:Int)).toNat=m:=by omega
    rw [em] at K
    have HSL:Hid (∀ j d,s.lc[j]? = some d->slotS s d=some j/\findS l s.lc (txtS l d)=some j):=Lib.hid (fun j d h=>⟨(K.inn.slot_decl2 (by have:=(K.inn.lcV d (List.mem_of_getElem? h)).2;omega) j).2 h,find_lc fnm h⟩)
    have HSV:Hid (∀ i,kndS l i=25->i ∉ walkS l m->slotS s i=none):=Lib.hid (fun i h25 hi=>by
     rw [K.inn.slot_var2 h25]
     cases hu:s.us i with
     | none=>rfl
     | some q=>exact absurd ((post_perm PP.out m HML.out).mem_iff.1 (K.inn.usV i q hu).1) hi)
    have HSW:Hid (∀ i,kndS l i=25->i ∈ walkS l m->∃ q d,slotS s i=some q/\s.lc[q]? = some d/\meansS l m i=some d):=Lib.hid (fun i h25 hi=>by
     rw [K.inn.slot_var2 h25]
     exact means_us PP.out HH.out HML.out HMK2.out flc fnm fus ((post_perm PP.out m HML.out).mem_iff.2 hi) h25)
    have HIN:Hid (∀ a ∈ s.lc,a<l.length):=Lib.hid (fun a h=>K.lt PP.out (K.inn.lcV a h).1)
    have HLC:=Lib.hid flc
    have HFW:=Lib.hid (hX.few)
    clear HFe HFk fe flc fnm fus K em hr
    rw [HNN.out] at t0 t1
    go_wp2_with fail
    have X4:=Lib.hid (hX.step ((Below.refl _ _).alloc (Nat.le_refl _) (.cells #[.int .i64 0,.int .i64 0] 28)))
    refine (HCH.out _ (by repeat (first|exact Below.refl _ _|apply Below.setCell _ (by first|omega|(simp<;>omega))|apply Below.alloc _ (by first|omega|(simp<;>omega))))).mono ?_
    rintro e w5 ⟨hb5,c5,z5,rfl,hcz⟩
    have X5:=Lib.hid (X4.out.step hb5)
    obtain ⟨hbA,hF5⟩:=new_box hb5
    obtain ⟨rfl,rfl⟩:c5=0/\z5=0:=by
     rcases hcz with h|⟨-,h1,h2⟩
     ·have e:=HFE.out.symm.trans h
      cases e
     ·exact ⟨h1,h2⟩
    have B5:=Lib.hid (after B4.out hbA)
    have T5:=Lib.hid (T4.out.keep hbA)
    have N5:=Lib.hid (N4.out.step hbA)
    obtain ⟨f0,f1,fl,ff⟩:=hF5.two
    clear hb5 hcz hbA hF5 t0 t1 tl tf hX X4 T4 N4 B4 HCH
    obtain ⟨t0,t1,tl,tf⟩:=T5.out.two
    have HLO:=Lib.hid (rlocals_any PP.out (.slice s1 l.length c1) ((l.length:Int)-1) m HML.out w5 N5.out)
    rw [<- HLC.out,HNN.out] at HLO
    rw [HNN.out] at t0 t1
    go_wp2_with fail
    refine HLO.out.mono ?_
    rintro e w6 ⟨v6,rfl,hb6,ho6⟩
    have X6:=Lib.hid (X5.out.step hb6)
    obtain ⟨ws,wc,rfl,hwn⟩:=own_nums (l:=natI s.lc) (by rw [natI_len];exact ho6)
    have HW6:=Lib.hid (show NumsV w6 (.slice ws (natI s.lc).length wc) (natI s.lc) from ⟨ws,wc,rfl,hwn⟩)
    have HB6:=Lib.hid hb6
    clear hb6 ho6 hwn HLO X5
    go_wp2_with fail
    refine (locals_any X6.out HIN.out HG.out).mono ?_
    rintro e w7 ⟨v,rfl,hrow,hb7⟩
    have LV:=Lib.hid (LocV.of_row hrow)
    obtain ⟨lg,lcap,rfl⟩:=own_any_shape hrow
    have X7:=Lib.hid (X6.out.step hb7)
    have W7:=Lib.hid (HW6.out.step hb7)
    have B7:=Lib.hid (after B5.out (after HB6.out hb7))
    have T7:=Lib.hid ((T5.out.keep HB6.out).keep hb7)
    have N7:=Lib.hid ((N5.out.step HB6.out).step hb7)
    clear hrow hb7 X6 HW6 B5 T5 N5 HB6 t0 t1 tl tf f0 f1 fl ff
    rw [natI_len] at W7 ⊢
    obtain ⟨kk,hkk⟩:∃ kk,kk=s.lc.length:=⟨_,rfl⟩
    have HKK:=Lib.hid hkk
    have hk64:kk<=64:=by have:=HFW.out;omega
    rw [<- hkk] at W7 ⊢
    have HSC:=Lib.hid (sclen_any X7.out)
    rw [<- hkk] at HSC
    clear hkk
    obtain ⟨t0,t1,tl,tf⟩:=T7.out.two
    rw [HNN.out] at t0 t1
    go_wp2_with fail
    refine HSC.out.mono ?_
    rintro e w8 ⟨rfl,rfl⟩
    clear HSC t0 t1 tl tf
    go_wp2_with fail
    go_loopg [90] kk (fun gk iv wr=>∃ j:Nat,iv = .int .i64 (j:Int)/\j+gk=kk/\Below w8.heap.size w8 wr)
    case atStart=>exact ⟨0,rfl,by omega,Below.refl _ _⟩
    case round =>
     obtain ⟨j,rfl,hjk,hbel⟩:=hrel
     rename World=>wr
     have BR:=Lib.hid hbel
     cases gk with
     | zero =>
      have d1:decide ((j:Int)<(kk:Int))=false:=decide_eq_false (by omega)
      have d2:¬ (j:Int)<(kk:Int):=by omega
      have d3:decide (j<kk)=false:=decide_eq_false (by omega)
      have d4:¬ j<kk:=by omega
      obtain ⟨t0,t1,tl,tf⟩:=(T7.out.keep hbel).two
      rw [HNN.out] at t0 t1
      clear hbel
      go_wp2_with fail
      clear t0 t1 tl tf
      have NLE:n<=400:=by omega
      go_loopg [143] n (fun gk iv wz=>∃ i:Nat,iv = .int .i64 (i:Int)/\i+gk=n/\Below w8.heap.size w8 wz)
      case atStart=>exact ⟨0,rfl,by omega,BR.out⟩
      case round =>
       obtain ⟨i,rfl,hik,hbel⟩:=hrel
       rename World=>wz
       have BZ:=Lib.hid hbel
       cases gk with
       | zero =>
        have d1:decide ((i:Int)<(n:Int))=false:=decide_eq_false (by omega)
        have d2:¬ (i:Int)<(n:Int):=by omega
        have d3:decide (i<n)=false:=decide_eq_false (by omega)
        have d4:¬ i<n:=by omega
        clear hbel
        go_wp2_with fail
        go_ret
        exact ⟨rfl,after B7.out BZ.out⟩
       | succ gk =>
        have hin:i<n:=by omega
        have hil:i<l.length:=by have:=HNN.out;omega
        obtain ⟨ns',nc',hnv',hnin⟩:=N7.out
        simp only [Value.slice.injEq] at hnv'
        obtain ⟨rfl,-,-⟩:=hnv'
        obtain ⟨nb,off,rfl,hnb,hat⟩:=hnin (by omega)
        obtain ⟨kv,ev,hx⟩:=hat i hil
        have hx:=hx.step hnb hbel
        have hnb2:=Nat.lt_of_lt_of_le hnb hbel.size
        obtain ⟨ks,kc,rfl,hks⟩:=hx.kids
        obtain ⟨es,ec,rfl,hes⟩:=hx.ends
        obtain ⟨-,-,d0,d1,d2,d3,d4,d5,d6,d7,d8,d9,d10,d11,d12⟩:=hx
        have HKI:=Lib.hid (kndS_get hil)
        have HSJ:=Lib.hid (fun (W:World) (hb:Below w8.heap.size w8 W)=>slot_any (X7.out.step hb) (z:=(i:Nat)) (by unfold In64;omega))
        rw [if_neg (show ¬ ((i:Nat):Int)<0 by omega),show ((i:Nat):Int).toNat=i by omega] at HSJ
        have HWI:=Lib.hid (fun (W:World) (hb:Below w8.heap.size w8 W)=>within_any PP.out (.slice (some ⟨nb,off,none⟩) l.length c1) ((l.length:Int)-1) i m (by omega) HML.out W (N7.out.step hb))
        have HRM:=Lib.hid (fun (hi:i ∈ postS l m) (W:World) (hb:Below w8.heap.size w8 W)=>rmeans_any PP.out HH.out (.slice (some ⟨nb,off,none⟩) l.length c1) ((l.length:Int)-1) m i HML.out HMK2.out hi W (N7.out.step hb))
        have HPM:=Lib.hid (fun (h:i ∈ walkS l m)=>(post_perm PP.out m HML.out).mem_iff.2 h)
        have HSVI:=Lib.hid (HSV.out i)
        have HSWI:=Lib.hid (HSW.out i)
        rw [HNN.out] at HWI HRM
        have e1:decide ((i:Int)<(n:Int))=true:=decide_eq_true (by omega)
        have e2:(i:Int)<(n:Int):=by omega
        have e3:decide (i<n)=true:=decide_eq_true (by omega)
        have T8:=T7.out
        rw [HNN.out] at T8
        have HT8:=Lib.hid T8
        clear hat hnin hks hes T8
        generalize l[i]=y at *
        by_cases h25:y.kind=25
        ·have k25:(y.kind != 25)=false:=by simp [h25]
         have k26:(y.kind == 25)=true:=by simp [h25]
         have HK25:Hid (kndS l i=25):=Lib.hid (by rw [HKI.out];exact h25)
         clear h25
         go_wp2_with fail
         have BW:Hid (Below wz.heap.size wz (wz.alloc (.cells #[.int .i64 y.kind,.int .i64 y.sf,.int .i64 y.st,.slice ks y.kids.length kc,.string y.text,.int .i64 y.B,.string y.N,.int .i64 y.D,.string y.M,.int .i64 y.num,.int .i64 y.wf,.int .i64 y.wt,.slice es y.ends.length ec] 61))):=Lib.hid ((Below.refl _ _).alloc (Nat.le_refl _) _)
         have BN:=Lib.hid (after BZ.out BW.out)
         generalize wz.alloc (.cells #[.int .i64 y.kind,.int .i64 y.sf,.int .i64 y.st,.slice ks y.kids.length kc,.string y.text,.int .i64 y.B,.string y.N,.int .i64 y.D,.string y.M,.int .i64 y.num,.int .i64 y.wf,.int .i64 y.wt,.slice es y.ends.length ec] 61)=wn at *
         clear d0 d1 d2 d3 d4 d5 d6 d7 d8 d9 d10 d11 d12 hbel BW
         refine (HSJ.out _ BN.out).mono ?_
         rintro e w9 ⟨rfl,hb9⟩
         have B9:=Lib.hid (after BN.out hb9)
         obtain ⟨t0,t1,tl,tf⟩:=(HT8.out.keep B9.out).two
         clear hb9
         go_wp2_with fail
         refine (HWI.out _ B9.out).mono ?_
         rintro e w10 ⟨rfl,hb10⟩
         have B10:=Lib.hid (after B9.out hb10)
         clear hb10 t0 t1 tl tf
         by_cases hw:i ∈ walkS l m
         ·obtain ⟨q,d,hq1,hq2,hq3⟩:=HSWI.out HK25.out hw
          have hql:=(List.getElem?_eq_some_iff.1 hq2).1
          have HRM2:=Lib.hid (HRM.out (HPM.out hw))
          rw [hq3,show idxI (some d)=(d:Int) from rfl] at HRM2
          rw [hq1,show idxI (some q)=(q:Int) from rfl,decide_eq_true hw]
          obtain ⟨ws',wc',hw',hwin⟩:=W7.out
          simp only [Value.slice.injEq] at hw'
          obtain ⟨rfl,-,-⟩:=hw'
          obtain ⟨ob,oo,rfl,hob,horow⟩:=hwin (by rw [natI_len];omega)
          have co0:=horow q (by rw [natI_len];exact hql)
          rw [natI_at hql,(List.getElem?_eq_some_iff.1 hq2).2] at co0
          have hqk:q<kk:=by have:=HKK.out;omega
          have HALL:Hid (∀ W:World,Below w8.heap.size w8 W->W.cell? ⟨w2.heap.size,0,none⟩=some (.slice (some ⟨nb,off,none⟩) n c1)/\W.cell? ⟨w2.heap.size,1,none⟩=some (.int .i64 ((n:Int)-1))/\W.cell? ⟨ob,oo+q,none⟩=some (.int .i64 (d:Int))/\Below w8.heap.size w8 W):=Lib.hid (fun W h=>⟨(HT8.out.keep h).cell 0,(HT8.out.keep h).cell 1,keep h hob co0,h⟩)
          have z0:decide ((q:Int)<0)=false:=decide_eq_false (by omega)
          have dd:((d:Int) != (d:Int))=false:=by simp
          clear hw hq1 hq2 hq3 horow hwin co0 HRM HPM HSWI HSVI
          go_wp2_with fail
          go_upto_region 32 with fail
          go_region_held3 (fun w'=>w'.cell? ⟨w2.heap.size,0,none⟩=some (.slice (some ⟨nb,off,none⟩) n c1)/\w'.cell? ⟨w2.heap.size,1,none⟩=some (.int .i64 ((n:Int)-1))/\w'.cell? ⟨ob,oo+q,none⟩=some (.int .i64 (d:Int))/\Below w8.heap.size w8 w') (first|exact HALL.out _ B10.out|exact HALL.out _ B10.out.drew|exact HALL.out _ (after (by assumption) hb2)) (first|(go_at_call 53;go_split_ands;refine (HRM2.out _ (by assumption)).mono ?_;rintro e w11 ⟨rfl,hb2⟩))
          all_goals go_split_ands
          all_goals go_wp2_with fail
          go_roundg gk
          case measure=>omega
          case rel=>exact ⟨i+1,by go_num,by omega,by assumption⟩
         ·rw [HSVI.out HK25.out hw,show idxI none=(-1:Int) from rfl,decide_eq_false hw]
          clear hw HRM HPM HSWI HSVI
          go_wp2_with fail
          go_roundg gk
          case measure=>omega
          case rel=>exact ⟨i+1,by go_num,by omega,B10.out⟩
        ·have k25:(y.kind != 25)=true:=by simp [h25]
         have k26:(y.kind == 25)=false:=by simp [h25]
         have BN:=Lib.hid (after BZ.out (show Below wz.heap.size wz (wz.alloc (.cells #[.int .i64 y.kind,.int .i64 y.sf,.int .i64 y.st,.slice ks y.kids.length kc,.string y.text,.int .i64 y.B,.string y.N,.int .i64 y.D,.string y.M,.int .i64 y.num,.int .i64 y.wf,.int .i64 y.wt,.slice es y.ends.length ec] 61)) from (Below.refl _ _).alloc (Nat.le_refl _) _))
         clear h25 hbel
         go_wp2_with fail
         go_roundg gk
         case measure=>omega
         case rel=>exact ⟨i+1,by go_num,by omega,BN.out⟩
     | succ gk =>
      have hjn:j<kk:=by omega
      have hjl:j<s.lc.length:=by have:=HKK.out;omega
      have hsome:s.lc[j]? = some s.lc[j]:=List.getElem?_eq_getElem hjl
      obtain ⟨hs1,hs2⟩:=HSL.out j _ hsome
      have hdl:=HIN.out _ (List.getElem_mem hjl)
      obtain ⟨src',cap',hv',hin⟩:=LV.out
      simp only [Value.slice.injEq] at hv'
      obtain ⟨rfl,-,-⟩:=hv'
      obtain ⟨g,goff,rfl,hgl,hgc⟩:=hin j hjl
      obtain ⟨ws',wc',hw',hwin⟩:=W7.out
      simp only [Value.slice.injEq] at hw'
      obtain ⟨rfl,-,-⟩:=hw'
      obtain ⟨ob,oo,rfl,hob,horow⟩:=hwin (by rw [natI_len];omega)
      have co0:=horow j (by rw [natI_len];exact hjl)
      rw [natI_at hjl] at co0
      clear hwin horow hin hsome
      generalize s.lc[j]=d at *
      obtain ⟨ns',nc',hnv',hnin⟩:=N7.out
      simp only [Value.slice.injEq] at hnv'
      obtain ⟨rfl,-,-⟩:=hnv'
      obtain ⟨nb,off,rfl,hnb,hat⟩:=hnin (by omega)
      obtain ⟨kv,ev,hx⟩:=hat d hdl
      have HSJ:=Lib.hid (fun (W:World) (hb:Below w8.heap.size w8 W)=>slot_any (X7.out.step hb) (z:=(d:Nat)) (by have:=L2.out;unfold In64;omega))
      rw [if_neg (show ¬ ((d:Nat):Int)<0 by omega),show ((d:Nat):Int).toNat=d by omega,hs1,show idxI (some j)=(j:Int) from rfl] at HSJ
      have HFJ:=Lib.hid (fun (W:World) (hb:Below w8.heap.size w8 W)=>scfind_any (X7.out.step hb) (txtS l d))
      rw [hs2,show idxI (some j)=(j:Int) from rfl] at HFJ
      have g0:=hgc 0 (by omega)
      have g1:=hgc 1 (by omega)
      have g2:=hgc 2 (by omega)
      have g3:=hgc 3 (by omega)
      have g4:=hgc 4 (by omega)
      have g5:=hgc 5 (by omega)
      have g6:=hgc 6 (by omega)
      rw [locC_get hdl] at g0 g1 g2 g3 g4 g5 g6
      simp only [List.getElem?_cons_zero,List.getElem?_cons_succ,Nat.add_zero] at g0 g1 g2 g3 g4 g5 g6
      rw [txtS_get hdl] at HFJ
      obtain ⟨-,-,e0,-,-,-,e4,e5,e6,e7,e8,-,-,-,-⟩:=hx
      have hdn:d<n:=by have:=HNN.out;omega
      have T8:=T7.out
      rw [HNN.out] at T8
      have HALL:Hid (∀ W:World,Below w8.heap.size w8 W->W.cell? ⟨w2.heap.size,0,none⟩=some (.slice (some ⟨nb,off,none⟩) n c1)/\W.cell? ⟨nb,off+d*13,none⟩=some (.int .i64 l[d].kind)/\W.cell? ⟨nb,off+d*13+4,none⟩=some (.string l[d].text)/\W.cell? ⟨nb,off+d*13+5,none⟩=some (.int .i64 l[d].B)/\W.cell? ⟨nb,off+d*13+6,none⟩=some (.string l[d].N)/\W.cell? ⟨nb,off+d*13+7,none⟩=some (.int .i64 l[d].D)/\W.cell? ⟨nb,off+d*13+8,none⟩=some (.string l[d].M)/\W.cell? ⟨g,goff+j*7,none⟩=some (.string l[d].text)/\W.cell? ⟨g,goff+j*7+1,none⟩=some (.int .i64 l[d].B)/\W.cell? ⟨g,goff+j*7+2,none⟩=some (.string l[d].N)/\W.cell? ⟨g,goff+j*7+3,none⟩=some (.int .i64 l[d].D)/\W.cell? ⟨g,goff+j*7+4,none⟩=some (.string l[d].M)/\W.cell? ⟨g,goff+j*7+5,none⟩=some (.int .i64 (d:Nat))/\W.cell? ⟨g,goff+j*7+6,none⟩=some (.bool (decide (l[d].kind=7)))/\Below w8.heap.size w8 W):=Lib.hid (fun W h=>⟨(T8.keep h).cell 0,keep h hnb e0,keep h hnb e4,keep h hnb e5,keep h hnb e6,keep h hnb e7,keep h hnb e8,keep h hgl g0,keep h hgl g1,keep h hgl g2,keep h hgl g3,keep h hgl g4,keep h hgl g5,keep h hgl g6,h⟩)
      have co:=keep hbel hob co0
      have hNE:=fun (W:World)=>loc_ne l[d].text l[d].B l[d].N l[d].D l[d].M (d:Nat) (decide (l[d].kind=7)) W
      have jj:((j:Int) != (j:Int))=false:=by simp
      obtain ⟨qk,hqk⟩:∃ qk,qk=decide (l[d].kind=7):=⟨_,rfl⟩
      have hqk2:(l[d].kind == 7)=qk:=by rw [hqk];rfl
      rw [<- hqk] at HALL hNE
      clear e0 e4 e5 e6 e7 e8 g0 g1 g2 g3 g4 g5 g6 hgc hat hs1 hs2 hqk
      generalize l[d]=y at *
      go_wp2_with fail
      go_upto_region 21 with fail
      clear co
      go_region_held3 (fun w'=>w'.cell? ⟨w2.heap.size,0,none⟩=some (.slice (some ⟨nb,off,none⟩) n c1)/\w'.cell? ⟨nb,off+d*13,none⟩=some (.int .i64 y.kind)/\w'.cell? ⟨nb,off+d*13+4,none⟩=some (.string y.text)/\w'.cell? ⟨nb,off+d*13+5,none⟩=some (.int .i64 y.B)/\w'.cell? ⟨nb,off+d*13+6,none⟩=some (.string y.N)/\w'.cell? ⟨nb,off+d*13+7,none⟩=some (.int .i64 y.D)/\w'.cell? ⟨nb,off+d*13+8,none⟩=some (.string y.M)/\w'.cell? ⟨g,goff+j*7,none⟩=some (.string y.text)/\w'.cell? ⟨g,goff+j*7+1,none⟩=some (.int .i64 y.B)/\w'.cell? ⟨g,goff+j*7+2,none⟩=some (.string y.N)/\w'.cell? ⟨g,goff+j*7+3,none⟩=some (.int .i64 y.D)/\w'.cell? ⟨g,goff+j*7+4,none⟩=some (.string y.M)/\w'.cell? ⟨g,goff+j*7+5,none⟩=some (.int .i64 (d:Nat))/\w'.cell? ⟨g,goff+j*7+6,none⟩=some (.bool qk)/\Below w8.heap.size w8 w') (first|exact HALL.out _ BR.out|exact HALL.out _ BR.out.drew|exact HALL.out _ (after (by assumption) hb2)) (first|(go_at_call 50;go_split_ands;refine (HSJ.out _ (by assumption)).mono ?_;rintro e w9 ⟨rfl,hb2⟩)|(go_at_call 51;go_split_ands;refine (HFJ.out _ (by assumption)).mono ?_;rintro e w10 ⟨rfl,hb2⟩))
      all_goals go_split_ands
      all_goals go_wp2_with fail
      go_roundg gk
      case measure=>omega
      case rel=>exact ⟨j+1,by go_num,by omega,by assumption⟩
  ·obtain ⟨rfl,rfl⟩:=hno hc
   have HME:=Lib.hid (fun (w3:World)=>method_any [] (.slice none 0 0) 0 k w3 ⟨none,0,rfl,fun h=>absurd h (by simp)⟩ (by simp) HK.out)
   have e:methS [] k = -1:=by unfold methS;rw [if_pos (.inl rfl)]
   rw [e] at HME
   have r1:((c:Int) == 0)=false:=by simp [hc]
   have r2:((c:Int) != 0)=true:=by simp [hc]
   clear hyes hno hc hb2 e
   go_wp2_with fail
   refine (HME.out _).mono ?_
   rintro e w3 ⟨rfl,hb3⟩
   obtain ⟨hbA,hT3,hF3⟩:=new_two hb3
   have BB:=Lib.hid (after B2.out hbA)
   obtain ⟨f0,f1,fl,ff⟩:=hF3.two
   clear hb3 hbA hT3 hF3 HME
   go_wp2_with fail
   go_ret
   exact ⟨rfl,by first|exact BB.out|exact BB.out.alloc (by have:=BB.out.size;omega) _⟩
end Go.Proofs.YtfehpdliobapfaaGreatDoor.S
