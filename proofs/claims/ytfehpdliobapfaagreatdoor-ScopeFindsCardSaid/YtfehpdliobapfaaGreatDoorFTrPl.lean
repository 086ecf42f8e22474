/- For any text and any number,ScopeFinds returns true and leaves its arguments as they were. -/
import Derived.Test.YtfehpdliobapfaaGreatDoorFTyFacts
set_option linter.unusedVariables false
set_option linter.unusedSimpArgs false
namespace Go.Proofs.YtfehpdliobapfaaGreatDoor
structure Nd where
 kind:Int
 sf:Int
 st:Int
 kids:List Int
 text:ByteArray
 B:Int
 N:ByteArray
 D:Int
 M:ByteArray
 num:Int
 wf:Int
 wt:Int
 ends:List Int
structure Shp where
 least:Nat
 most:Option Nat
 text:Bool
 typ:Bool
def shapeL:List Shp:=[
 ⟨0,some 0,false,false⟩,
 ⟨0,none,false,false⟩,⟨0,none,true,false⟩,⟨0,some 0,true,false⟩,⟨0,some 0,true,true⟩,⟨1,none,false,false⟩,⟨1,none,true,true⟩,⟨0,some 0,true,true⟩,
 ⟨0,none,false,false⟩,⟨0,some 1,true,true⟩,⟨2,some 2,false,false⟩,⟨2,some 3,false,false⟩,⟨2,some 2,false,false⟩,⟨0,some 0,false,false⟩,⟨0,some 0,false,false⟩,
 ⟨0,some 1,false,false⟩,⟨1,some 1,false,false⟩,⟨0,none,false,false⟩,⟨1,some 1,false,false⟩,
 ⟨0,some 0,false,false⟩,⟨0,some 0,true,false⟩,⟨0,some 0,false,false⟩,⟨0,some 0,true,false⟩,⟨0,some 0,false,false⟩,⟨0,some 0,false,false⟩,⟨0,some 0,true,false⟩,
 ⟨1,some 1,true,false⟩,⟨2,some 2,false,false⟩,⟨1,some 1,false,false⟩,⟨1,none,true,false⟩,⟨0,none,false,true⟩,⟨1,some 1,false,true⟩,⟨1,some 1,false,false⟩,⟨1,some 1,false,false⟩,
 ⟨2,some 2,true,false⟩,⟨1,some 1,false,true⟩,⟨1,some 1,false,false⟩,⟨1,some 1,false,false⟩,⟨0,some 0,false,false⟩,⟨1,some 1,false,false⟩,⟨1,some 1,false,false⟩,⟨1,some 1,false,false⟩,
 ⟨0,some 0,false,false⟩,⟨1,some 1,false,false⟩,⟨1,some 1,false,false⟩,⟨1,some 1,false,false⟩]
def shp (k:Int):Shp:=shapeL.getD k.toNat ⟨0,some 0,false,false⟩
def knownB (k:Int):Bool:=decide (0<k/\k<46)
def overB (s:Shp) (n:Nat):Bool:=match s.most with|none=>false|some m=>decide (m<n)
def zeroT (x:Nd):Bool:=decide (x.B=0/\x.N.size=0/\x.D=0/\x.M.size=0)
def shapedE (x:Nd):Int :=
 if knownB x.kind=false then 3
 else if decide (x.kids.length<(shp x.kind).least) || overB (shp x.kind) x.kids.length then 131
 else if (decide (x.text.size≠0) && !(shp x.kind).text) || (!zeroT x && !(shp x.kind).typ) || ((shp x.kind).typ && !rightB x.B x.N x.D x.M) then 5
 else 0
def takeE (i:Nat):List Int->List Nat->Int × List Nat
 | [],u=>(0,u)
 | k :: ks,u=>if k<0\/(i:Int)<=k then (7,u) else if k.toNat ∈ u then (4,u) else takeE i ks (k.toNat :: u)
def checkL:List Nd->Nat->List Nat->Int × List Nat
 | [],i,u=>(0,u)
 | x :: xs,i,u=>if shapedE x≠0 then (shapedE x,u) else if (takeE i x.kids u).1≠0 then takeE i x.kids u else checkL xs (i+1) (takeE i x.kids u).2
def checkE (l:List Nd) (root:Int):Int :=
 if 16384<l.length then 2
 else if l.length=0\/root≠(l.length:Int)-1\/(l.getLast?.map Nd.kind)≠some 1 then 5
 else if (checkL l 0 []).1≠0 then (checkL l 0 []).1
 else if ∀ j,j<l.length-1->j ∈ (checkL l 0 []).2 then 0 else 3
theorem take_ok (i:Nat):∀ (ks:List Int) (u:List Nat),(takeE i ks u).1=0->u.Nodup ->
  (takeE i ks u).2=(ks.map Int.toNat).reverse ++ u/\(∀ k ∈ ks,0<=k/\k<i)/\((ks.map Int.toNat).reverse ++ u).Nodup:=by
 intro ks
 induction ks with
 | nil=>intro u h hu;exact ⟨rfl,(fun k hk=>by cases hk),by simpa using hu⟩
 | cons k ks ih =>
  intro u h hu
  unfold takeE at h ⊢
  by_cases h1:k<0\/(i:Int)<=k
  ·rw [if_pos h1] at h;simp at h
  ·rw [if_neg h1] at h ⊢
   by_cases h2:k.toNat ∈ u
   ·rw [if_pos h2] at h;simp at h
   ·rw [if_neg h2] at h ⊢
    obtain ⟨a,b,c⟩:=ih (k.toNat :: u) h (List.nodup_cons.2 ⟨h2,hu⟩)
    refine ⟨by rw [a];simp,?_,by simpa using c⟩
    intro x hx
    rcases List.mem_cons.1 hx with rfl|hx
    ·omega
    ·exact b x hx
def allKids (l:List Nd):List Nat:=l.flatMap fun x=>x.kids.map Int.toNat
theorem checkL_ok:∀ (l:List Nd) (i:Nat) (u:List Nat),(checkL l i u).1=0->u.Nodup ->
  (∀ x ∈ (checkL l i u).2,x ∈ allKids l\/x ∈ u)/\(∀ x,x ∈ allKids l\/x ∈ u->x ∈ (checkL l i u).2) /\
  (∀ j (h:j<l.length),shapedE l[j]=0/\∀ k ∈ l[j].kids,0<=k/\k<(i+j:Nat))/\(allKids l).Nodup/\(∀ x ∈ allKids l,x ∉ u):=by
 intro l
 induction l with
 | nil=>intro i u h hu;exact ⟨fun x hx=>.inr hx,fun x hx=>hx.elim (fun h=>by simp [allKids] at h) id,fun j hj=>absurd hj (by simp),by simp [allKids],fun x hx=>by simp [allKids] at hx⟩
 | cons y l ih =>
  intro i u h hu
  unfold checkL at h ⊢
  by_cases h1:shapedE y≠0
  ·rw [if_pos h1] at h;exact absurd h h1
  ·rw [if_neg h1] at h ⊢
   by_cases h2:(takeE i y.kids u).1≠0
   ·rw [if_pos h2] at h;exact absurd h h2
   ·rw [if_neg h2] at h ⊢
    obtain ⟨a,b,c⟩:=take_ok i y.kids u (Classical.not_not.1 h2) hu
    rw [a] at h ⊢
    obtain ⟨g1,g2,g3,g4,g5⟩:=ih (i+1) _ h c
    have e:allKids (y :: l)=y.kids.map Int.toNat ++ allKids l:=by simp [allKids]
    rw [List.nodup_append] at c
    obtain ⟨c1,c2,c3⟩:=c
    refine ⟨?_,?_,?_,?_,?_⟩
    ·intro x hx
     rcases g1 x hx with hx|hx
     ·exact .inl (by rw [e];exact List.mem_append_right _ hx)
     ·rcases List.mem_append.1 hx with hx|hx
      ·exact .inl (by rw [e];exact List.mem_append_left _ (List.mem_reverse.1 hx))
      ·exact .inr hx
    ·intro x hx
     apply g2
     rcases hx with hx|hx
     ·rw [e] at hx
      rcases List.mem_append.1 hx with hx|hx
      ·exact .inr (List.mem_append_left _ (List.mem_reverse.2 hx))
      ·exact .inl hx
     ·exact .inr (List.mem_append_right _ hx)
    ·intro j hj
     match j,hj with
     | 0,hj=>exact ⟨Classical.not_not.1 h1,fun k hk=>by have:=b k hk;simpa using this⟩
     | j+1,hj =>
      obtain ⟨q1,q2⟩:=g3 j (by simpa using hj)
      refine ⟨q1,fun k hk=>?_⟩
      have:=q2 k hk
      omega
    ·rw [e,List.nodup_append]
     refine ⟨(List.reverse_perm _).nodup_iff.1 c1,g4,?_⟩
     intro x hx z hz hxz
     subst hxz
     exact g5 x hz (List.mem_append_left _ (List.mem_reverse.2 hx))
    ·intro x hx hxu
     rw [e] at hx
     rcases List.mem_append.1 hx with hx|hx
     ·exact c3 x (List.mem_reverse.2 hx) x hxu rfl
     ·exact g5 x hx (List.mem_append_right _ hxu)
structure ProgOk (l:List Nd) (root:Int):Prop where
 long:l.length<=16384
 some_:0<l.length
 root_:root=(l.length:Int)-1
 shaped:∀ j (h:j<l.length),shapedE l[j]=0
 ahead:∀ j (h:j<l.length),∀ k ∈ l[j].kids,0<=k/\k<(j:Nat)
 once:(allKids l).Nodup
 each:∀ j,j<l.length-1->j ∈ allKids l
theorem check_ok (l:List Nd) (root:Int) (h:checkE l root=0):ProgOk l root:=by
 unfold checkE at h
 by_cases h1:16384<l.length
 ·rw [if_pos h1] at h;simp at h
 ·rw [if_neg h1] at h
  by_cases h2:l.length=0\/root≠(l.length:Int)-1\/(l.getLast?.map Nd.kind)≠some 1
  ·rw [if_pos h2] at h;simp at h
  ·rw [if_neg h2] at h
   by_cases h3:(checkL l 0 []).1≠0
   ·rw [if_pos h3] at h;exact absurd h h3
   ·rw [if_neg h3] at h
    by_cases h4:∀ j,j<l.length-1->j ∈ (checkL l 0 []).2
    ·obtain ⟨g1,g2,g3,g4,g5⟩:=checkL_ok l 0 [] (Classical.not_not.1 h3) List.nodup_nil
     refine ⟨by omega,by omega,?_,fun j hj=>(g3 j hj).1,fun j hj k hk=>by have:=(g3 j hj).2 k hk;simpa using this,g4,fun j hj=>?_⟩
     ·apply Classical.byContradiction;intro hr;exact h2 (.inr (.inl hr))
     ·rcases g1 j (h4 j hj) with hx|hx
      ·exact hx
      ·cases hx
    ·rw [if_neg h4] at h;simp at h
theorem flat_congr {f g:Nat->List Nat}:∀ (ks:List Nat),(∀ k ∈ ks,f k=g k)->ks.flatMap f=ks.flatMap g:=by
 intro ks
 induction ks with
 | nil=>intro _;rfl
 | cons k ks ih=>intro h;rw [List.flatMap_cons,List.flatMap_cons,h k List.mem_cons_self,ih (fun x hx=>h x (List.mem_cons_of_mem _ hx))]
def kidsOf (l:List Nd) (a:Nat):List Nat:=((l[a]?.map Nd.kids).getD []).map Int.toNat
theorem kidsOf_get (l:List Nd) (a:Nat) (h:a<l.length):kidsOf l a=l[a].kids.map Int.toNat:=by
 unfold kidsOf;rw [List.getElem?_eq_getElem h];rfl
theorem kidsOf_lt {l:List Nd} {root:Int} (P:ProgOk l root) {a x:Nat} (ha:a<l.length) (hx:x ∈ kidsOf l a):x<a:=by
 rw [kidsOf_get l a ha] at hx
 obtain ⟨k,hk,rfl⟩:=List.mem_map.1 hx
 have:=P.ahead a ha k hk
 omega
def walkF (l:List Nd):Nat->Nat->List Nat
 | 0,_=>[]
 | f+1,a=>a :: (kidsOf l a).flatMap (walkF l f)
def walkS (l:List Nd) (a:Nat):List Nat:=walkF l (a+1) a
theorem walk_fuel {l:List Nd} {root:Int} (P:ProgOk l root):∀ (a:Nat),a<l.length->∀ f,a+1<=f->walkF l f a=walkS l a:=by
 intro a
 induction a using Nat.strongRecOn with
 | _ a ih =>
  intro ha f hf
  obtain ⟨g,rfl⟩:∃ g,f=g+1:=⟨f-1,by omega⟩
  unfold walkS
  show a :: (kidsOf l a).flatMap (walkF l g)=a :: (kidsOf l a).flatMap (walkF l a)
  congr 1
  apply flat_congr
  intro k hk
  have hk':=kidsOf_lt P ha hk
  rw [ih k hk' (by omega) g (by omega),ih k hk' (by omega) a (by omega)]
theorem walk_eq {l:List Nd} {root:Int} (P:ProgOk l root) {a:Nat} (ha:a<l.length):walkS l a=a :: (kidsOf l a).flatMap (walkS l):=by
 show a :: (kidsOf l a).flatMap (walkF l a)=_
 congr 1
 apply flat_congr
 intro k hk
 have hk':=kidsOf_lt P ha hk
 exact walk_fuel P k (by omega) a (by omega)
theorem walk_le {l:List Nd} {root:Int} (P:ProgOk l root):∀ (a:Nat),a<l.length->∀ x ∈ walkS l a,x<=a:=by
 intro a
 induction a using Nat.strongRecOn with
 | _ a ih =>
  intro ha x hx
  rw [walk_eq P ha] at hx
  rcases List.mem_cons.1 hx with rfl|hx
  ·exact Nat.le_refl _
  ·obtain ⟨k,hk,hxk⟩:=List.mem_flatMap.1 hx
   have hk':=kidsOf_lt P ha hk
   have:=ih k hk' (by omega) x hxk
   omega
theorem walk_self {l:List Nd} {root:Int} (P:ProgOk l root) {a:Nat} (ha:a<l.length):a ∈ walkS l a:=by
 rw [walk_eq P ha];exact List.mem_cons_self
theorem walk_parent {l:List Nd} {root:Int} (P:ProgOk l root):∀ (a:Nat),a<l.length->∀ x ∈ walkS l a,x=a\/∃ p ∈ walkS l a,x ∈ kidsOf l p:=by
 intro a
 induction a using Nat.strongRecOn with
 | _ a ih =>
  intro ha x hx
  rw [walk_eq P ha] at hx
  rcases List.mem_cons.1 hx with rfl|hx
  ·exact .inl rfl
  ·obtain ⟨k,hk,hxk⟩:=List.mem_flatMap.1 hx
   have hk':=kidsOf_lt P ha hk
   right
   rcases ih k hk' (by omega) x hxk with rfl|⟨p,hp,hxp⟩
   ·exact ⟨a,walk_self P ha,hk⟩
   ·refine ⟨p,?_,hxp⟩
    rw [walk_eq P ha]
    exact List.mem_cons_of_mem _ (List.mem_flatMap.2 ⟨k,hk,hp⟩)
theorem walk_kid {l:List Nd} {root:Int} (P:ProgOk l root):∀ (a:Nat),a<l.length->∀ p ∈ walkS l a,∀ x ∈ kidsOf l p,x ∈ walkS l a:=by
 intro a
 induction a using Nat.strongRecOn with
 | _ a ih =>
  intro ha p hp x hx
  rw [walk_eq P ha] at hp ⊢
  rcases List.mem_cons.1 hp with rfl|hp
  ·exact List.mem_cons_of_mem _ (List.mem_flatMap.2 ⟨x,hx,walk_self P (by have:=kidsOf_lt P ha hx;omega)⟩)
  ·obtain ⟨k,hk,hpk⟩:=List.mem_flatMap.1 hp
   have hk':=kidsOf_lt P ha hk
   exact List.mem_cons_of_mem _ (List.mem_flatMap.2 ⟨k,hk,ih k hk' (by omega) p hpk x hx⟩)
theorem allKids_mem (l:List Nd):∀ (q x:Nat),x ∈ kidsOf l q->x ∈ allKids l:=by
 intro q x hx
 by_cases hq:q<l.length
 ·rw [kidsOf_get l q hq] at hx
  exact List.mem_flatMap.2 ⟨l[q],List.getElem_mem hq,hx⟩
 ·unfold kidsOf at hx
  rw [List.getElem?_eq_none (by omega)] at hx
  cases hx
theorem one_parent:∀ (l:List Nd),(allKids l).Nodup->∀ (p q x:Nat),x ∈ kidsOf l p->x ∈ kidsOf l q->p=q:=by
 intro l
 induction l with
 | nil=>intro _ p q x hp;simp [kidsOf] at hp
 | cons y l ih =>
  intro hn p q x hp hq
  have e:allKids (y :: l)=y.kids.map Int.toNat ++ allKids l:=by simp [allKids]
  rw [e,List.nodup_append] at hn
  obtain ⟨h1,h2,h3⟩:=hn
  have k0:kidsOf (y :: l) 0=y.kids.map Int.toNat:=rfl
  have ks:∀ j,kidsOf (y :: l) (j+1)=kidsOf l j:=fun j=>rfl
  match p,q with
  | 0,0=>rfl
  | 0,q+1 =>
   rw [k0] at hp
   rw [ks] at hq
   exact absurd rfl (h3 x hp x (allKids_mem l q x hq))
  | p+1,0 =>
   rw [k0] at hq
   rw [ks] at hp
   exact absurd rfl (h3 x hq x (allKids_mem l p x hp))
  | p+1,q+1 =>
   rw [ks] at hp hq
   rw [ih h2 p q x hp hq]
theorem kids_nodup:∀ (l:List Nd),(allKids l).Nodup->∀ p,(kidsOf l p).Nodup:=by
 intro l
 induction l with
 | nil=>intro _ p;simp [kidsOf]
 | cons y l ih =>
  intro hn p
  have e:allKids (y :: l)=y.kids.map Int.toNat ++ allKids l:=by simp [allKids]
  rw [e,List.nodup_append] at hn
  match p with
  | 0=>exact hn.1
  | p+1=>exact ih hn.2.1 p
theorem walk_apart {l:List Nd} {root:Int} (P:ProgOk l root) {a k k':Nat} (ha:a<l.length) (hk:k ∈ kidsOf l a) (hk':k' ∈ kidsOf l a) (hne:k≠k') :
  ∀ (m x:Nat),l.length-x<=m->x ∈ walkS l k->x ∈ walkS l k'->False:=by
 have b:=kidsOf_lt P ha hk
 have b':=kidsOf_lt P ha hk'
 intro m
 induction m with
 | zero =>
  intro x hm hx _
  have:=walk_le P k (by omega) x hx
  omega
 | succ m ih =>
  intro x hm hx hx'
  have hxk:=walk_le P k (by omega) x hx
  rcases walk_parent P k (by omega) x hx with rfl|⟨p,hp,hxp⟩
  ·rcases walk_parent P k' (by omega) x hx' with rfl|⟨q,hq,hxq⟩
   ·exact hne rfl
   ·obtain rfl:=one_parent l P.once a q x hk hxq
    have:=walk_le P k' (by omega) a hq
    omega
  ·have hpk:=walk_le P k (by omega) p hp
   rcases walk_parent P k' (by omega) x hx' with rfl|⟨q,hq,hxq⟩
   ·obtain rfl:=one_parent l P.once a p x hk' hxp
    omega
   ·obtain rfl:=one_parent l P.once p q x hxp hxq
    have:=kidsOf_lt P (by omega) hxp
    exact ih p (by omega) hp hq
theorem nodup_flat {f:Nat->List Nat}:∀ (ks:List Nat),ks.Nodup->(∀ k ∈ ks,(f k).Nodup)->(∀ k ∈ ks,∀ k' ∈ ks,k≠k'->∀ x ∈ f k,x ∉ f k')->(ks.flatMap f).Nodup:=by
 intro ks
 induction ks with
 | nil=>intro _ _ _;simp
 | cons k ks ih =>
  intro hn h1 h2
  rw [List.flatMap_cons,List.nodup_append]
  rw [List.nodup_cons] at hn
  refine ⟨h1 k List.mem_cons_self,ih hn.2 (fun x hx=>h1 x (List.mem_cons_of_mem _ hx)) (fun x hx y hy=>h2 x (List.mem_cons_of_mem _ hx) y (List.mem_cons_of_mem _ hy)),?_⟩
  intro x hx z hz hxz
  subst hxz
  obtain ⟨k',hk',hxk'⟩:=List.mem_flatMap.1 hz
  exact h2 k List.mem_cons_self k' (List.mem_cons_of_mem _ hk') (fun e=>hn.1 (e ▸ hk')) x hx hxk'
theorem walk_once {l:List Nd} {root:Int} (P:ProgOk l root):∀ (a:Nat),a<l.length->(walkS l a).Nodup:=by
 intro a
 induction a using Nat.strongRecOn with
 | _ a ih =>
  intro ha
  rw [walk_eq P ha,List.nodup_cons]
  refine ⟨?_,?_⟩
  ·intro h
   obtain ⟨k,hk,hxk⟩:=List.mem_flatMap.1 h
   have hk':=kidsOf_lt P ha hk
   have:=walk_le P k (by omega) a hxk
   omega
  ·refine nodup_flat _ (kids_nodup l P.once a) (fun k hk=>?_) (fun k hk k' hk' hne x hx hx'=>?_)
   ·have hk':=kidsOf_lt P ha hk
    exact ih k hk' (by omega)
   ·exact walk_apart P ha hk hk' hne (l.length-x) x (Nat.le_refl _) hx hx'
theorem nodup_len:∀ (n:Nat) (L:List Nat),L.Nodup->(∀ x ∈ L,x<n)->L.length<=n:=by
 intro n
 induction n with
 | zero =>
  intro L _ h
  match L with
  | []=>exact Nat.le_refl _
  | x :: _=>exact absurd (h x List.mem_cons_self) (by omega)
 | succ n ih =>
  intro L hn h
  by_cases hm:n ∈ L
  ·have h1:=ih (L.erase n) (hn.erase n) (fun x hx=>by
    have h2:=h x (List.mem_of_mem_erase hx)
    have h3:x≠n:=fun e=>by subst e;exact (hn.mem_erase_iff.1 hx).1 rfl
    omega)
   rw [List.length_erase_of_mem hm] at h1
   omega
  ·have:=ih L hn (fun x hx=>by
    have h2:=h x hx
    have h3:x≠n:=fun e=>hm (e ▸ hx)
    omega)
   omega
def nameL:List ByteArray:=[⟨#[]⟩,
 ⟨#[112,114,111,103,114,97,109]⟩,⟨#[99,108,97,115,115]⟩,⟨#[101,120,116,101,110,100,115]⟩,⟨#[102,105,101,108,100]⟩,⟨#[105,110,105,116]⟩,⟨#[109,101,116,104,111,100]⟩,⟨#[112,97,114,97,109]⟩,⟨#[98,108,111,99,107]⟩,⟨#[100,101,99,108]⟩,⟨#[97,115,115,105,103,110]⟩,⟨#[105,102]⟩,⟨#[119,104,105,108,101]⟩,⟨#[98,114,101,97,107]⟩,⟨#[99,111,110,116,105,110,117,101]⟩,⟨#[114,101,116,117,114,110]⟩,⟨#[112,114,105,110,116]⟩,⟨#[115,117,112,101,114]⟩,⟨#[101,120,112,114]⟩,
 ⟨#[105,110,116]⟩,⟨#[100,111,117,98,108,101]⟩,⟨#[98,111,111,108]⟩,⟨#[115,116,114]⟩,⟨#[110,117,108,108]⟩,⟨#[116,104,105,115]⟩,⟨#[118,97,114]⟩,⟨#[103,101,116]⟩,⟨#[105,110,100,101,120]⟩,⟨#[108,101,110,103,116,104]⟩,⟨#[99,97,108,108]⟩,⟨#[110,101,119]⟩,⟨#[97,114,114,97,121]⟩,⟨#[110,101,103]⟩,⟨#[110,111,116]⟩,⟨#[98,105,110,97,114,121]⟩,⟨#[99,97,115,116]⟩,⟨#[116,111,105,110,116]⟩,⟨#[116,111,100,111,117,98,108,101]⟩,⟨#[105,110,112,117,116]⟩,⟨#[97,115,107]⟩,
 ⟨#[103,117,97,114,100]⟩,⟨#[115,111,109,101]⟩,⟨#[110,111,110,101]⟩,⟨#[105,115,115,111,109,101]⟩,⟨#[105,115,110,111,110,101]⟩,⟨#[118,97,108]⟩]
def nameS (k:Int):ByteArray:=if knownB k=true then nameL.getD k.toNat ⟨#[]⟩ else ⟨#[]⟩
def joinS (l:List ByteArray):ByteArray:=l.foldl (· ++ ·) ⟨#[]⟩
end Go.Proofs.YtfehpdliobapfaaGreatDoor
