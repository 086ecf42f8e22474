/- For any text and any number,ScopeFinds returns true and leaves its arguments as they were. -/
import Derived.Test.YtfehpdliobapfaaGreatDoorFTrPl
set_option linter.unusedVariables false
set_option linter.unusedSimpArgs false
namespace Go.Proofs.YtfehpdliobapfaaGreatDoor.S
def kndS (l:List Nd) (a:Nat):Int:=(l[a]?.map Nd.kind).getD 0
def txtS (l:List Nd) (a:Nat):ByteArray:=(l[a]?.map Nd.text).getD ⟨#[]⟩
def sfrS (l:List Nd) (a:Nat):Int:=(l[a]?.map Nd.sf).getD 0
theorem kndS_get {l:List Nd} {a:Nat} (h:a<l.length):kndS l a=l[a].kind:=by unfold kndS;rw [List.getElem?_eq_getElem h];rfl
theorem txtS_get {l:List Nd} {a:Nat} (h:a<l.length):txtS l a=l[a].text:=by unfold txtS;rw [List.getElem?_eq_getElem h];rfl
theorem sfrS_get {l:List Nd} {a:Nat} (h:a<l.length):sfrS l a=l[a].sf:=by unfold sfrS;rw [List.getElem?_eq_getElem h];rfl
structure Sc where
 lc:List Nat
 us:Nat->Option Nat
 ss:Nat->Option Nat
 op:List Nat
abbrev ScR:=Except (Int × Int) Sc
def putN (f:Nat->Option Nat) (a k:Nat):Nat->Option Nat:=fun x=>if x=a then some k else f x
theorem putN_same (f:Nat->Option Nat) (a k:Nat):putN f a k a=some k:=by unfold putN;rw [if_pos rfl]
theorem putN_other (f:Nat->Option Nat) (a k:Nat) {x:Nat} (h:x≠a):putN f a k x=f x:=by unfold putN;rw [if_neg h]
def findS (l:List Nd) (lc:List Nat) (name:ByteArray):Option Nat:=lc.findIdx? fun a=>decide (txtS l a=name)
theorem findS_some {l:List Nd} {lc:List Nat} {name:ByteArray} {k:Nat} (h:findS l lc name=some k):∃ hk:k<lc.length,txtS l lc[k]=name:=by
 unfold findS at h
 rw [List.findIdx?_eq_some_iff_getElem] at h
 obtain ⟨hk,h1,_⟩:=h
 exact ⟨hk,by simpa using h1⟩
theorem findS_none {l:List Nd} {lc:List Nat} {name:ByteArray} (h:findS l lc name=none):∀ a ∈ lc,txtS l a≠name:=by
 unfold findS at h
 rw [List.findIdx?_eq_none_iff] at h
 intro a ha
 simpa using h a ha
def declG (l:List Nd) (h:Bool) (a:Nat) (s:Sc):ScR :=
 match findS l s.lc (txtS l a) with
 | some _=>.error (4,sfrS l a)
 | none=>if s.lc.length=64 then .error (2,sfrS l a)
  else .ok ⟨s.lc ++ [a],s.us,if kidsOf l a=[] then s.ss else putN s.ss a s.lc.length,if h=true/\kndS l a≠7 then s.op ++ [s.lc.length] else s.op⟩
def meanG (l:List Nd) (a:Nat) (s:Sc):ScR :=
 match findS l s.lc (txtS l a) with
 | none=>.error (3,sfrS l a)
 | some k=>if kndS l (s.lc.getD k 0)=7\/k ∈ s.op then .ok { s with us:=putN s.us a k } else .error (3,sfrS l a)
def assG (l:List Nd) (a:Nat) (s:Sc):Sc :=
 match s.us ((kidsOf l a).headD 0) with
 | none=>s
 | some k=>{ s with ss:=putN s.ss a k }
def thenG (r:ScR) (g:Sc->ScR):ScR:=match r with
 | .error e=>.error e
 | .ok s=>g s
def kidsG (F:Nat->Sc->ScR):List Nat->Sc->ScR
 | [],s=>.ok s
 | k :: ks,s=>thenG (F k s) (kidsG F ks)
def selfG (l:List Nd) (h:Bool) (a n:Nat) (s:Sc):ScR :=
 if kndS l a=8 then .ok { s with op:=s.op.take n }
 else if kndS l a=7\/kndS l a=9 then declG l h a s
 else if kndS l a=25 then meanG l a s
 else if kndS l a=10 then .ok (assG l a s)
 else .ok s
def scF (l:List Nd):Nat->Bool->Nat->Sc->ScR
 | 0,_,_,s=>.ok s
 | f+1,h,a,s=>thenG (kidsG (scF l f (h || decide (kndS l a=8))) (kidsOf l a) s) (selfG l h a s.op.length)
def scS (l:List Nd) (h:Bool) (a:Nat) (s:Sc):ScR:=scF l (a+1) h a s
theorem kidsG_congr {F G:Nat->Sc->ScR}:∀ (ks:List Nat) (s:Sc),(∀ k ∈ ks,∀ s,F k s=G k s)->kidsG F ks s=kidsG G ks s
 | [],s,_=>rfl
 | k :: ks,s,h=>by
  show thenG (F k s) (kidsG F ks)=thenG (G k s) (kidsG G ks)
  rw [h k List.mem_cons_self s]
  cases G k s with
  | error e=>rfl
  | ok s'=>exact kidsG_congr ks s' (fun x hx=>h x (List.mem_cons_of_mem _ hx))
theorem sc_fuel {l:List Nd} {root:Int} (P:ProgOk l root):∀ (a:Nat),a<l.length->∀ f,a+1<=f->∀ h s,scF l f h a s=scS l h a s:=by
 intro a
 induction a using Nat.strongRecOn with
 | _ a ih =>
  intro ha f hf h s
  obtain ⟨g,rfl⟩:∃ g,f=g+1:=⟨f-1,by omega⟩
  have e:∀ t,kidsG (scF l g t) (kidsOf l a) s=kidsG (scF l a t) (kidsOf l a) s:=fun t=>kidsG_congr _ _ fun k hk s'=>by
   have hk':=kidsOf_lt P ha hk
   rw [ih k hk' (by omega) g (by omega),ih k hk' (by omega) a (by omega)]
  unfold scS
  show thenG (kidsG (scF l g _) (kidsOf l a) s) _=thenG (kidsG (scF l a _) (kidsOf l a) s) _
  rw [e]
theorem sc_eq {l:List Nd} {root:Int} (P:ProgOk l root) {a:Nat} (ha:a<l.length) (h:Bool) (s:Sc) :
  scS l h a s=thenG (kidsG (scS l (h || decide (kndS l a=8))) (kidsOf l a) s) (selfG l h a s.op.length):=by
 have e:kidsG (scF l a (h || decide (kndS l a=8))) (kidsOf l a) s=kidsG (scS l (h || decide (kndS l a=8))) (kidsOf l a) s:=kidsG_congr _ _ fun k hk s'=>by
  have hk':=kidsOf_lt P ha hk
  exact sc_fuel P k (by omega) a (by omega) _ _
 rw [<- e]
 rfl
theorem self_op {l:List Nd} {h:Bool} {a n:Nat} {s s':Sc} (e:selfG l h a n s = .ok s') (hn:n<=s.op.length):s'.op.take n=s.op.take n/\n<=s'.op.length:=by
 unfold selfG at e
 by_cases h8:kndS l a=8
 ·rw [if_pos h8] at e;cases e
  refine ⟨by show (s.op.take n).take n=_;rw [List.take_take,Nat.min_self],?_⟩
  show n<=(s.op.take n).length
  rw [List.length_take];omega
 ·rw [if_neg h8] at e
  by_cases h7:kndS l a=7\/kndS l a=9
  ·rw [if_pos h7] at e
   unfold declG at e
   split at e
   ·cases e
   ·by_cases h64:s.lc.length=64
    ·rw [if_pos h64] at e;cases e
    ·rw [if_neg h64] at e;cases e
     show ((if _ then s.op ++ [_] else s.op):List Nat).take n=_/\n<=((if _ then s.op ++ [_] else s.op):List Nat).length
     split
     ·exact ⟨List.take_append_of_le_length hn,by simp;omega⟩
     ·exact ⟨rfl,hn⟩
  ·rw [if_neg h7] at e
   by_cases h25:kndS l a=25
   ·rw [if_pos h25] at e
    unfold meanG at e
    split at e
    ·cases e
    ·split at e
     ·cases e;exact ⟨rfl,hn⟩
     ·cases e
   ·rw [if_neg h25] at e
    by_cases h10:kndS l a=10
    ·rw [if_pos h10] at e;cases e
     unfold assG
     split
     ·exact ⟨rfl,hn⟩
     ·exact ⟨rfl,hn⟩
    ·rw [if_neg h10] at e;cases e;exact ⟨rfl,hn⟩
theorem kids_op {F:Nat->Sc->ScR}:∀ (ks:List Nat) (s s':Sc),(∀ k ∈ ks,∀ s s',F k s = .ok s'->s'.op.take s.op.length=s.op/\s.op.length<=s'.op.length)->kidsG F ks s = .ok s'->s'.op.take s.op.length=s.op/\s.op.length<=s'.op.length
 | [],s,s',_,e=>by cases e;exact ⟨by simp,Nat.le_refl _⟩
 | k :: ks,s,s',h,e=>by
  have e':thenG (F k s) (kidsG F ks)=Except.ok s':=e
  cases hk:F k s with
  | error q=>rw [hk] at e';cases e'
  | ok s1 =>
   rw [hk] at e'
   obtain ⟨a1,a2⟩:=h k List.mem_cons_self s s1 hk
   obtain ⟨b1,b2⟩:=kids_op ks s1 s' (fun x hx=>h x (List.mem_cons_of_mem _ hx)) e'
   refine ⟨?_,by omega⟩
   have:(s'.op.take s1.op.length).take s.op.length=s1.op.take s.op.length:=by rw [b1]
   rw [List.take_take,Nat.min_eq_left a2,a1] at this
   exact this
theorem sc_op {l:List Nd} {root:Int} (P:ProgOk l root):∀ (a:Nat),a<l.length->∀ h s s',scS l h a s = .ok s'->s'.op.take s.op.length=s.op/\s.op.length<=s'.op.length:=by
 intro a
 induction a using Nat.strongRecOn with
 | _ a ih =>
  intro ha h s s' e
  rw [sc_eq P ha] at e
  cases hk:kidsG (scS l (h || decide (kndS l a=8))) (kidsOf l a) s with
  | error q=>rw [hk] at e;cases e
  | ok s1 =>
   rw [hk] at e
   obtain ⟨a1,a2⟩:=kids_op _ s s1 (fun k hkk s s'=>by
    have hk':=kidsOf_lt P ha hkk
    exact ih k hk' (by omega) _ s s') hk
   obtain ⟨b1,b2⟩:=self_op e a2
   exact ⟨by rw [b1,a1],b2⟩
structure ScI (l:List Nd) (V:List Nat) (s:Sc):Prop where
 lcV:∀ a ∈ s.lc,a ∈ V/\(kndS l a=7\/kndS l a=9)
 once:s.lc.Nodup
 few:s.lc.length<=64
 names:(s.lc.map (txtS l)).Nodup
 usV:∀ x k,s.us x=some k->x ∈ V/\kndS l x=25/\k<s.lc.length
 ssV:∀ x k,s.ss x=some k->x ∈ V/\((kidsOf l x≠[]/\s.lc[k]? = some x)\/(kndS l x=10/\s.us ((kidsOf l x).headD 0)=some k))
 decl:∀ x k,s.lc[k]? = some x->kidsOf l x≠[]->s.ss x=some k
 ass:∀ x ∈ V,kndS l x=10->(kidsOf l x).headD 0 ∈ V/\∀ k,s.us ((kidsOf l x).headD 0)=some k->s.ss x=some k
 allV:∀ x ∈ V,kndS l x=25->∃ k,s.us x=some k/\txtS l (s.lc.getD k 0)=txtS l x
 allD:∀ x ∈ V,kndS l x=7\/kndS l x=9->x ∈ s.lc
 opn:∀ k ∈ s.op,k<s.lc.length
theorem ScI.start (l:List Nd):ScI l [] ⟨[],fun _=>none,fun _=>none,[]⟩ :=
 ⟨fun a ha=>(by cases ha),List.nodup_nil,Nat.zero_le _,List.nodup_nil,fun x k h=>(by cases h),fun x k h=>(by cases h),fun x k h=>(by simp at h),fun x h=>(by cases h),fun x h=>(by cases h),fun x h=>(by cases h),fun k h=>(by cases h)⟩
theorem ScI.self {l:List Nd} {h:Bool} {V:List Nat} {a n:Nat} {s s':Sc} (I:ScI l V s) (e:selfG l h a n s = .ok s') (hV:a ∉ V) (hk:kndS l a=10->(kidsOf l a).headD 0 ∈ V):ScI l (V ++ [a]) s':=by
 have hmem:∀ x,x ∈ V->x ∈ V ++ [a]:=fun x hx=>List.mem_append_left _ hx
 have split:∀ x,x ∈ V ++ [a]->x ∈ V\/x=a:=fun x hx=>by
  rcases List.mem_append.1 hx with hx|hx
  ·exact .inl hx
  ·exact .inr (List.mem_singleton.1 hx)
 have keep:∀ (o:List Nat),(kndS l a≠7/\kndS l a≠9/\kndS l a≠25/\kndS l a≠10)->(∀ k ∈ o,k<s.lc.length)->ScI l (V ++ [a]) { s with op:=o }:=by
  intro o ⟨k7,k9,k25,k10⟩ ho
  refine ⟨fun x hx=>⟨hmem x (I.lcV x hx).1,(I.lcV x hx).2⟩,I.once,I.few,I.names,fun x k hu=>⟨hmem x (I.usV x k hu).1,(I.usV x k hu).2⟩,fun x k hs=>⟨hmem x (I.ssV x k hs).1,(I.ssV x k hs).2⟩,I.decl,?_,?_,?_,ho⟩
  ·intro x hx hx10
   rcases split x hx with hx|rfl
   ·exact ⟨hmem _ (I.ass x hx hx10).1,(I.ass x hx hx10).2⟩
   ·exact absurd hx10 k10
  ·intro x hx hx25
   rcases split x hx with hx|rfl
   ·exact I.allV x hx hx25
   ·exact absurd hx25 k25
  ·intro x hx hxd
   rcases split x hx with hx|rfl
   ·exact I.allD x hx hxd
   ·exact absurd hxd (by omega)
 unfold selfG at e
 by_cases h8:kndS l a=8
 ·rw [if_pos h8] at e;cases e
  exact keep _ (by omega) (fun k hk=>I.opn k (List.mem_of_mem_take hk))
 rw [if_neg h8] at e
 by_cases h7:kndS l a=7\/kndS l a=9
 ·rw [if_pos h7] at e
  unfold declG at e
  split at e
  ·cases e
  rename_i hf
  by_cases h64:s.lc.length=64
  ·rw [if_pos h64] at e;cases e
  rw [if_neg h64] at e;cases e
  have hfew:=I.few
  have hnl:a ∉ s.lc:=fun hx=>hV (I.lcV a hx).1
  have getK:∀ (k x:Nat),(s.lc ++ [a])[k]? = some x->(s.lc[k]? = some x)\/(k=s.lc.length/\x=a):=by
   intro k x hx
   by_cases hlt:k<s.lc.length
   ·rw [List.getElem?_append_left hlt] at hx;exact .inl hx
   ·rw [List.getElem?_append_right (by omega)] at hx
    by_cases h0:k-s.lc.length=0
    ·rw [h0] at hx
     simp at hx
     exact .inr ⟨by omega,hx.symm⟩
    ·rw [List.getElem?_eq_none (by simp;omega)] at hx;cases hx
  have getL:∀ (k x:Nat),s.lc[k]? = some x->(s.lc ++ [a])[k]? = some x:=fun k x hx=>by
   rw [List.getElem?_append_left (List.getElem?_eq_some_iff.1 hx).1];exact hx
  have ssn:∀ x,x ∈ V->(if kidsOf l a=[] then s.ss else putN s.ss a s.lc.length) x=s.ss x:=fun x hx=>by
   split
   ·rfl
   ·exact putN_other _ _ _ (fun e=>hV (e ▸ hx))
  have ssa:kidsOf l a≠[]->(if kidsOf l a=[] then s.ss else putN s.ss a s.lc.length) a=some s.lc.length:=fun hx=>by rw [if_neg hx,putN_same]
  refine ⟨?_,?_,?_,?_,?_,?_,?_,?_,?_,?_,?_⟩
  ·intro x hx
   rcases List.mem_append.1 hx with hx|hx
   ·exact ⟨hmem x (I.lcV x hx).1,(I.lcV x hx).2⟩
   ·rw [List.mem_singleton.1 hx];exact ⟨by simp,h7⟩
  ·show (s.lc ++ [a]).Nodup
   rw [List.nodup_append]
   exact ⟨I.once,by simp,fun x hx y hy hxy=>hnl (by rw [List.mem_singleton.1 hy] at hxy;exact hxy ▸ hx)⟩
  ·show (s.lc ++ [a]).length<=64
   simp;omega
  ·show ((s.lc ++ [a]).map (txtS l)).Nodup
   rw [List.map_append,List.nodup_append]
   refine ⟨I.names,by simp,fun x hx y hy hxy=>?_⟩
   obtain ⟨b,hb,rfl⟩:=List.mem_map.1 hx
   simp at hy
   exact findS_none hf b hb (by rw [hxy,hy])
  ·intro x k hu
   obtain ⟨q1,q2,q3⟩:=I.usV x k hu
   exact ⟨hmem x q1,q2,by show k<(s.lc ++ [a]).length;simp;omega⟩
  ·intro x k hs
   show x ∈ V ++ [a]/\((kidsOf l x≠[]/\(s.lc ++ [a])[k]? = some x)\/(kndS l x=10/\s.us ((kidsOf l x).headD 0)=some k))
   by_cases hxa:x=a
   ·subst hxa
    by_cases hkx:kidsOf l x=[]
    ·have:s.ss x=some k:=by simpa [hkx] using hs
     exact absurd (I.ssV x k this).1 hV
    ·have e1:some s.lc.length=some k:=by rw [<- ssa hkx];exact hs
     cases e1
     exact ⟨by simp,.inl ⟨hkx,by simp⟩⟩
   ·have:s.ss x=some k:=by
     have e2:(if kidsOf l a=[] then s.ss else putN s.ss a s.lc.length) x=s.ss x:=by
      split
      ·rfl
      ·exact putN_other _ _ _ hxa
     rw [<- e2];exact hs
    obtain ⟨q1,q2⟩:=I.ssV x k this
    exact ⟨hmem x q1,q2.imp (fun h=>⟨h.1,getL _ _ h.2⟩) id⟩
  ·intro x k hx hkx
   rcases getK k x hx with hx|⟨rfl,rfl⟩
   ·exact (ssn x (I.lcV x (List.mem_of_getElem? hx)).1).trans (I.decl x k hx hkx)
   ·exact ssa hkx
  ·intro x hx hx10
   rcases split x hx with hx|rfl
   ·exact ⟨hmem _ (I.ass x hx hx10).1,fun k hk=>(ssn x hx).trans ((I.ass x hx hx10).2 k hk)⟩
   ·omega
  ·intro x hx hx25
   rcases split x hx with hx|rfl
   ·obtain ⟨k,q1,q2⟩:=I.allV x hx hx25
    refine ⟨k,q1,?_⟩
    show txtS l ((s.lc ++ [a]).getD k 0)=_
    have hkl:=(I.usV x k q1).2.2
    rw [List.getD_eq_getElem?_getD,List.getElem?_append_left hkl,<- List.getD_eq_getElem?_getD]
    exact q2
   ·omega
  ·intro x hx hxd
   rcases split x hx with hx|rfl
   ·exact List.mem_append_left _ (I.allD x hx hxd)
   ·exact List.mem_append_right _ (by simp)
  ·intro k hk
   show k<(s.lc ++ [a]).length
   have hk':k ∈ (if h=true/\kndS l a≠7 then s.op ++ [s.lc.length] else s.op):=hk
   split at hk'
   ·rcases List.mem_append.1 hk' with hk'|hk'
    ·have:=I.opn k hk';simp;omega
    ·rw [List.mem_singleton.1 hk'];simp
   ·have:=I.opn k hk';simp;omega
 rw [if_neg h7] at e
 by_cases h25:kndS l a=25
 ·rw [if_pos h25] at e
  unfold meanG at e
  split at e
  ·cases e
  rename_i k0 hf
  split at e
  ·cases e
   obtain ⟨hk0,ht0⟩:=findS_some hf
   have us_o:∀ x,x≠a->putN s.us a k0 x=s.us x:=fun x hx=>putN_other _ _ _ hx
   have nV:∀ x,x ∈ V->x≠a:=fun x hx e=>hV (e ▸ hx)
   refine ⟨fun x hx=>⟨hmem x (I.lcV x hx).1,(I.lcV x hx).2⟩,I.once,I.few,I.names,?_,?_,I.decl,?_,?_,?_,I.opn⟩
   ·intro x k hu
    by_cases hxa:x=a
    ·subst hxa
     have:some k0=some k:=by rw [<- putN_same s.us x k0];exact hu
     cases this
     exact ⟨by simp,h25,hk0⟩
    ·have:s.us x=some k:=by rw [<- us_o x hxa];exact hu
     exact ⟨hmem x (I.usV x k this).1,(I.usV x k this).2⟩
   ·intro x k hs
    obtain ⟨q1,q2⟩:=I.ssV x k hs
    refine ⟨hmem x q1,q2.imp id (fun h=>⟨h.1,?_⟩)⟩
    show putN s.us a k0 _=_
    rw [us_o _ (nV _ (I.ass x q1 h.1).1)];exact h.2
   ·intro x hx hx10
    rcases split x hx with hx|rfl
    ·refine ⟨hmem _ (I.ass x hx hx10).1,fun k hk=>(I.ass x hx hx10).2 k ?_⟩
     rw [<- us_o _ (nV _ (I.ass x hx hx10).1)];exact hk
    ·omega
   ·intro x hx hx25
    rcases split x hx with hx|rfl
    ·obtain ⟨k,q1,q2⟩:=I.allV x hx hx25
     exact ⟨k,(us_o x (nV x hx)).trans q1,q2⟩
    ·refine ⟨k0,putN_same _ _ _,?_⟩
     show txtS l (s.lc.getD k0 0)=_
     rw [List.getD_eq_getElem?_getD,List.getElem?_eq_getElem hk0];exact ht0
   ·intro x hx hxd
    rcases split x hx with hx|rfl
    ·exact I.allD x hx hxd
    ·omega
  ·cases e
 rw [if_neg h25] at e
 by_cases h10:kndS l a=10
 ·rw [if_pos h10] at e;cases e
  have hk1:=hk h10
  unfold assG
  split
  ·rename_i hu
   refine ⟨fun x hx=>⟨hmem x (I.lcV x hx).1,(I.lcV x hx).2⟩,I.once,I.few,I.names,fun x k hu=>⟨hmem x (I.usV x k hu).1,(I.usV x k hu).2⟩,fun x k hs=>⟨hmem x (I.ssV x k hs).1,(I.ssV x k hs).2⟩,I.decl,?_,?_,?_,I.opn⟩
   ·intro x hx hx10
    rcases split x hx with hx|rfl
    ·exact ⟨hmem _ (I.ass x hx hx10).1,(I.ass x hx hx10).2⟩
    ·exact ⟨hmem _ hk1,fun k hk=>by rw [hu] at hk;cases hk⟩
   ·intro x hx hx25
    rcases split x hx with hx|rfl
    ·exact I.allV x hx hx25
    ·omega
   ·intro x hx hxd
    rcases split x hx with hx|rfl
    ·exact I.allD x hx hxd
    ·omega
  ·rename_i k0 hu
   have ss_o:∀ x,x≠a->putN s.ss a k0 x=s.ss x:=fun x hx=>putN_other _ _ _ hx
   have nV:∀ x,x ∈ V->x≠a:=fun x hx e=>hV (e ▸ hx)
   refine ⟨fun x hx=>⟨hmem x (I.lcV x hx).1,(I.lcV x hx).2⟩,I.once,I.few,I.names,fun x k hu=>⟨hmem x (I.usV x k hu).1,(I.usV x k hu).2⟩,?_,?_,?_,?_,?_,I.opn⟩
   ·intro x k hs
    by_cases hxa:x=a
    ·subst hxa
     have:some k0=some k:=by rw [<- putN_same s.ss x k0];exact hs
     cases this
     exact ⟨by simp,.inr ⟨h10,hu⟩⟩
    ·have:s.ss x=some k:=by rw [<- ss_o x hxa];exact hs
     exact ⟨hmem x (I.ssV x k this).1,(I.ssV x k this).2⟩
   ·intro x k hx hkx
    exact (ss_o x (nV x (I.lcV x (List.mem_of_getElem? hx)).1)).trans (I.decl x k hx hkx)
   ·intro x hx hx10
    rcases split x hx with hx|rfl
    ·exact ⟨hmem _ (I.ass x hx hx10).1,fun k hk=>(ss_o x (nV x hx)).trans ((I.ass x hx hx10).2 k hk)⟩
    ·refine ⟨hmem _ hk1,fun k hk=>?_⟩
     have:some k0=some k:=by rw [<- hu];exact hk
     cases this
     exact putN_same _ _ _
   ·intro x hx hx25
    rcases split x hx with hx|rfl
    ·exact I.allV x hx hx25
    ·omega
   ·intro x hx hxd
    rcases split x hx with hx|rfl
    ·exact I.allD x hx hxd
    ·omega
 rw [if_neg h10] at e;cases e
 exact keep _ (by omega) I.opn
def postF (l:List Nd):Nat->Nat->List Nat
 | 0,_=>[]
 | f+1,a=>(kidsOf l a).flatMap (postF l f) ++ [a]
def postS (l:List Nd) (a:Nat):List Nat:=postF l (a+1) a
theorem post_fuel {l:List Nd} {root:Int} (P:ProgOk l root):∀ (a:Nat),a<l.length->∀ f,a+1<=f->postF l f a=postS l a:=by
 intro a
 induction a using Nat.strongRecOn with
 | _ a ih =>
  intro ha f hf
  obtain ⟨g,rfl⟩:∃ g,f=g+1:=⟨f-1,by omega⟩
  unfold postS
  show (kidsOf l a).flatMap (postF l g) ++ [a]=(kidsOf l a).flatMap (postF l a) ++ [a]
  congr 1
  apply flat_congr
  intro k hk
  have hk':=kidsOf_lt P ha hk
  rw [ih k hk' (by omega) g (by omega),ih k hk' (by omega) a (by omega)]
theorem post_eq {l:List Nd} {root:Int} (P:ProgOk l root) {a:Nat} (ha:a<l.length):postS l a=(kidsOf l a).flatMap (postS l) ++ [a]:=by
 show (kidsOf l a).flatMap (postF l a) ++ [a]=_
 congr 1
 apply flat_congr
 intro k hk
 have hk':=kidsOf_lt P ha hk
 exact post_fuel P k (by omega) a (by omega)
theorem perm_flat {f g:Nat->List Nat}:∀ (ks:List Nat),(∀ k ∈ ks,(f k).Perm (g k))->(ks.flatMap f).Perm (ks.flatMap g):=by
 intro ks
 induction ks with
 | nil=>intro _;exact List.Perm.refl _
 | cons k ks ih =>
  intro h
  rw [List.flatMap_cons,List.flatMap_cons]
  exact (h k List.mem_cons_self).append (ih (fun x hx=>h x (List.mem_cons_of_mem _ hx)))
theorem post_perm {l:List Nd} {root:Int} (P:ProgOk l root):∀ (a:Nat),a<l.length->(postS l a).Perm (walkS l a):=by
 intro a
 induction a using Nat.strongRecOn with
 | _ a ih =>
  intro ha
  rw [post_eq P ha,walk_eq P ha]
  refine (List.perm_append_comm).trans ?_
  refine List.Perm.cons a (perm_flat _ (fun k hk=>?_))
  have hk':=kidsOf_lt P ha hk
  exact ih k hk' (by omega)
theorem post_self {l:List Nd} {root:Int} (P:ProgOk l root) {a:Nat} (ha:a<l.length):a ∈ postS l a:=by rw [post_eq P ha];simp
theorem kids_inv {l:List Nd} {F:Nat->Sc->ScR}:∀ (ks:List Nat) (V:List Nat) (s s':Sc),(V ++ ks.flatMap (postS l)).Nodup ->
  (∀ k ∈ ks,∀ V s s',ScI l V s->(V ++ postS l k).Nodup->F k s = .ok s'->ScI l (V ++ postS l k) s')->ScI l V s->kidsG F ks s = .ok s'->ScI l (V ++ ks.flatMap (postS l)) s'
 | [],V,s,s',_,_,I,e=>by cases e;simpa using I
 | k :: ks,V,s,s',hn,h,I,e=>by
  have e':thenG (F k s) (kidsG F ks)=Except.ok s':=e
  cases hk:F k s with
  | error q=>rw [hk] at e';cases e'
  | ok s1 =>
   rw [hk] at e'
   rw [List.flatMap_cons,<- List.append_assoc] at hn ⊢
   have I1:=h k List.mem_cons_self V s s1 I (hn.sublist (List.sublist_append_left _ _)) hk
   exact kids_inv ks _ s1 s' hn (fun x hx=>h x (List.mem_cons_of_mem _ hx)) I1 e'
theorem least_ass {l:List Nd} {root:Int} (P:ProgOk l root) {a:Nat} (ha:a<l.length) (h:kndS l a=10):∃ k ks,kidsOf l a=k :: ks:=by
 have hs:=P.shaped a ha
 rw [kndS_get ha] at h
 unfold shapedE at hs
 rw [h] at hs
 by_cases h2:decide (l[a].kids.length<(shp 10).least) || overB (shp 10) l[a].kids.length
 ·rw [if_neg (by decide),if_pos h2] at hs;cases hs
 ·have:2<=l[a].kids.length:=by
   simp [shp,shapeL] at h2
   omega
  rw [kidsOf_get l a ha]
  cases hk:l[a].kids with
  | nil=>rw [hk] at this;simp at this
  | cons k ks=>exact ⟨_,_,rfl⟩
theorem sc_inv {l:List Nd} {root:Int} (P:ProgOk l root):∀ (a:Nat),a<l.length->∀ h V s s',ScI l V s->(V ++ postS l a).Nodup->scS l h a s = .ok s'->ScI l (V ++ postS l a) s':=by
 intro a
 induction a using Nat.strongRecOn with
 | _ a ih =>
  intro ha h V s s' I hn e
  rw [sc_eq P ha] at e
  rw [post_eq P ha,<- List.append_assoc] at hn ⊢
  cases hk:kidsG (scS l (h || decide (kndS l a=8))) (kidsOf l a) s with
  | error q=>rw [hk] at e;cases e
  | ok s1 =>
   rw [hk] at e
   have I1:=kids_inv (kidsOf l a) V s s1 (hn.sublist (List.sublist_append_left _ _)) (fun k hkk V s s'=>by
    have hk':=kidsOf_lt P ha hkk
    exact ih k hk' (by omega) _ V s s') I hk
   refine I1.self e ?_ ?_
   ·intro hx
    rw [List.nodup_append] at hn
    exact hn.2.2 a hx a (by simp) rfl
   ·intro h10
    obtain ⟨k,ks,hkk⟩:=least_ass P ha h10
    have hk':=kidsOf_lt P ha (x:=k) (by rw [hkk];simp)
    rw [hkk]
    exact List.mem_append_right _ (List.mem_flatMap.2 ⟨k,by simp,post_self P (by omega)⟩)
def slotS (s:Sc) (i:Nat):Option Nat:=match s.us i with
 | some k=>some k
 | none=>s.lc.findIdx? fun a=>decide (a=i)
structure ScOk (l:List Nd) (m:Nat) (s:Sc):Prop where
 inn:ScI l (postS l m) s
 m_lt:m<l.length
 kind:kndS l m=5\/kndS l m=6
section
variable {l:List Nd} {root:Int} {m:Nat} {s:Sc}
theorem ScOk.lt (P:ProgOk l root) (K:ScOk l m s) {x:Nat} (h:x ∈ postS l m):x<l.length:=by
 have:=walk_le P m K.m_lt x ((post_perm P m K.m_lt).mem_iff.1 h)
 have:=K.m_lt
 omega
def forS (n:Nat) (f:Nat->Option Nat) (k:Nat):List Nat:=(List.range n).filter fun x=>decide (f x=some k)
theorem forS_mem {n:Nat} {f:Nat->Option Nat} {k x:Nat}:x ∈ forS n f k ↔ x<n/\f x=some k:=by
 unfold forS
 rw [List.mem_filter,List.mem_range]
 simp
end
def scopeS (l:List Nd) (root:Int) (node:Int) (held:Bool):ScR :=
 if checkE l root≠0 then .error (checkE l root,0)
 else if node<0\/(l.length:Int)<=node\/(kndS l node.toNat≠6/\kndS l node.toNat≠5) then .error (132,0)
 else scS l held node.toNat ⟨[],fun _=>none,fun _=>none,[]⟩
theorem scope_ok {l:List Nd} {root node:Int} {held:Bool} {s:Sc} (h:scopeS l root node held = .ok s):ProgOk l root/\ScOk l node.toNat s/\0<=node:=by
 unfold scopeS at h
 by_cases h1:checkE l root≠0
 ·rw [if_pos h1] at h;cases h
 rw [if_neg h1] at h
 by_cases h2:node<0\/(l.length:Int)<=node\/(kndS l node.toNat≠6/\kndS l node.toNat≠5)
 ·rw [if_pos h2] at h;cases h
 rw [if_neg h2] at h
 have P:=check_ok l root (Classical.not_not.1 h1)
 have hlt:node.toNat<l.length:=by omega
 have hn:([] ++ postS l node.toNat).Nodup:=by
  rw [List.nil_append]
  exact (post_perm P _ hlt).nodup_iff.2 (walk_once P _ hlt)
 have:=sc_inv P node.toNat hlt held [] _ s (ScI.start l) hn h
 rw [List.nil_append] at this
 refine ⟨P,⟨this,hlt,?_⟩,by omega⟩
 rcases Classical.em (kndS l node.toNat=6) with h6|h6
 ·exact .inr h6
 ·rcases Classical.em (kndS l node.toNat=5) with h5|h5
  ·exact .inl h5
  ·exact absurd (.inr (.inr ⟨h6,h5⟩)) h2
end Go.Proofs.YtfehpdliobapfaaGreatDoor.S
