/- For any text and any number,ScopeFinds returns true and leaves its arguments as they were. -/
import Derived.Test.YtfehpdliobapfaaGreatDoorFScMD
import Derived.Laws.AppendOwnNone
set_option maxRecDepth 100000
set_option maxHeartbeats 4000000
set_option linter.unusedVariables false
set_option linter.unusedSimpArgs false
namespace Go.Proofs.YtfehpdliobapfaaGreatDoor.S
open Go Go.RowKit
structure DS (w0:World) (g:Nat) (nv:Value) (root:Int) (w:World):Prop where
 bel:Below w0.heap.size w0 w
 box:Bx 25 w g [nv,.int .i64 root]
 at_:w0.heap.size<=g
theorem DS.keep {w0 w w1:World} {g:Nat} {nv:Value} {root:Int} (h:DS w0 g nv root w) (hb:Below w.heap.size w w1):DS w0 g nv root w1:=⟨after h.bel hb,h.box.keep hb,h.at_⟩
theorem DS.new (w0:World) (nv:Value) (root:Int):DS w0 w0.heap.size nv root (w0.alloc (.cells #[nv,.int .i64 root] 25)) :=
 ⟨(Below.refl _ _).alloc (Nat.le_refl _) _,Bx.new 25 w0 _,Nat.le_refl _⟩
theorem DS.kid {w0 w:World} {g:Nat} {nv:Value} {root:Int} (h:DS w0 g nv root w) {b o kb ko:Nat} {kv u:Value} (hb:b<w0.heap.size) (c3:w0.cell? ⟨b,o,none⟩=some kv) (hk:kb<w0.heap.size) (ck:w0.cell? ⟨kb,ko,none⟩=some u) :
  w.cell? ⟨g,0,none⟩=some nv/\w.cell? ⟨g,1,none⟩=some (.int .i64 root)/\w.cell? ⟨b,o,none⟩=some kv/\w.cell? ⟨kb,ko,none⟩=some u/\DS w0 g nv root w :=
 ⟨h.box.two.1,h.box.two.2.1,(h.bel.cell (p:=⟨b,o,none⟩) hb).trans c3,(h.bel.cell (p:=⟨kb,ko,none⟩) hk).trans ck,h⟩
def KidsV (w:World) (v:Value) (l:List Int):Prop:=∃ src cap,v = .slice src l.length cap/\NumsIn w src l/\(src=none->cap=0)
theorem append_nums (ty:TypeId) (w:World) (base n:Nat) (v:Value) (xs:List Value) (hown:w.ownsRow base 3 1 v n xs) (sv:Value) (l:List Int) (hs:KidsV w sv l) (hn:n+l.length<=1099511627776) (hb:base<=w.heap.size) :
  ∃ v' w',(Builtin.append_ #[57,57] ty #[v,sv]).run Tryz.prog w = .ok v' w'/\w'.ownsRow base 3 1 v' (n+l.length) (xs ++ numC l)/\w.grownBy w' v.ownBlock:=by
 obtain ⟨i0,hi,hz0,hz1,hz2⟩:=info_parts infoInt
 obtain ⟨src,cap,rfl,hr,hc⟩:=hs
 cases src with
 | none =>
  have h0:l.length=0:=by
   by_cases h:l.length=0
   ·exact h
   ·obtain ⟨b,off,h1,-⟩:=hr (by omega)
    cases h1
  have hl:=List.eq_nil_of_length_eq_zero h0
  subst hl
  rw [hc rfl]
  exact ⟨v,w,run_append_owned_none (P:=Tryz.prog) (w:=w) base 57 ty 3 i0 1 Tryz.underlying57 hi v n xs hown,by simpa [numC] using hown,rfl,rfl,rfl,Nat.le_refl _,fun _ _ _=>rfl⟩
 | some a =>
  obtain ⟨v',w',h1,h2,h3,-⟩:=run_append_own (P:=Tryz.prog) w base 57 ty 3 i0 (.int .i64 0) 1 8 Tryz.underlying57 hi hz0 hz1 hz2 rfl (by decide) v n xs hown a l.length cap (numC l) (by simp [numC])
   (fun j u hj=>by
    obtain ⟨hj1,hj2⟩:=List.getElem?_eq_some_iff.1 hj
    have hj3:j<l.length:=by simpa [numC] using hj1
    obtain ⟨b,off,h1,h2,h3⟩:=hr (by omega)
    cases h1
    rw [add_at,h3 j hj3,<- hj2]
    simp [numC])
   (fun u hu=>by
    obtain ⟨x,-,rfl⟩:=List.mem_map.1 hu
    rfl) (by unfold maxLen;omega) (by omega) hb
  exact ⟨v',w',h1,h2,h3⟩
theorem step_append_nums {ops:Array Oper} {o:Oper} {a:Act} {w:World} {K:Act->World->Prop} {Q:Exit->Act->World->Prop} {E:Prop}
  (hg:o.guard=none) (s x:Operand) (hop:o.op=Op.call { callee:=Callee.builtin Builtin.append,args:=#[s,x],argTypes:=#[57,57] })
  (base n:Nat) (v:Value) (xs:List Value) (hs:a.eval s=v) (hown:w.ownsRow base 3 1 v n xs) (sv:Value) (l:List Int) (hx:a.eval x=sv) (hk:KidsV w sv l) (hn:n+l.length<=1099511627776) (hb:base<=w.heap.size)
  (hK:∀ v' w',w'.ownsRow base 3 1 v' (n+l.length) (xs ++ numC l)->w.grownBy w' v.ownBlock->K (a.put o.dst v') w') :
  if Region.wanted o (yielded ops a.tmps)=true then Oper.wp Tryz.prog o a w K Q else E:=by
 have hw:Region.wanted o (yielded ops a.tmps)=true:=by simp [Region.wanted,hg]
 rw [if_pos hw]
 obtain ⟨v',w',hrun,r1,r2⟩:=append_nums o.type w base n v xs hown sv l hk hn hb
 unfold Oper.wp
 simp [execOp,hop,resolve,invoke,builtin,hs,hx,hrun,Result.andThen]
 exact hK v' w' r1 r2
theorem wpList_append_run {P:Program} {w:World} {ops:Array Oper} {rest:List Oper} {o:Oper} {a:Act} {Q:Exit->Act->World->Prop} (hgd:o.guard=none) (s x:Operand) (t:TypeId)
  (ho:o.op = .call { callee:=.builtin .append,args:=#[s,x],argTypes:=#[t,t] }) (v sv v':Value) (w':World) (hs:a.eval s=v) (hx:a.eval x=sv) (hrun:(Builtin.append_ #[t,t] o.type #[v,sv]).run P w = .ok v' w')
  (h:wpList P ops Q rest (a.put o.dst v') w'):wpList P ops Q (o :: rest) a w:=by
 refine wpList_plain hgd fun K hK=>?_
 unfold Oper.wp
 simp [execOp,ho,resolve,invoke,builtin,hs,hx,hrun,Result.andThen]
 exact hK _ _ h
theorem row_down {w:World} {B B':Nat} {e:TypeId} {s:Nat} {v:Value} {n:Nat} {xs:List Value} (h:w.ownsRow B e s v n xs) (hb:B'<=B):w.ownsRow B' e s v n xs:=by
 obtain ⟨h1,h2⟩:=h
 refine ⟨h1,?_⟩
 rcases h2 with h2|⟨g,cap,cur,hv,hg,r⟩
 ·exact .inl h2
 ·exact .inr ⟨g,cap,cur,hv,Nat.le_trans hb hg,r⟩
theorem new_box {w w1:World} {T:TypeId} {cs:Array Value} (h:Below (w.alloc (.cells cs T)).heap.size (w.alloc (.cells cs T)) w1):Below w.heap.size w w1/\Bx T w1 w.heap.size cs.toList:=by
 have h1:Below w.heap.size w (w.alloc (.cells cs T)):=(Below.refl _ _).alloc (Nat.le_refl _) _
 exact ⟨after h1 h,(Bx.new T w cs).keep h⟩
theorem own_one (W:World) (a:Int) {B:Nat} (hB:B<=W.heap.size):(W.alloc (.cells #[.int .i64 a] 3)).ownsRow B 3 1 (.slice (some ⟨W.heap.size,0,none⟩) 1 1) 1 [.int .i64 a] :=
 ⟨rfl,.inr ⟨W.heap.size,1,#[.int .i64 a],rfl,hB,heap_alloc_new W _,Nat.le_refl _,by unfold maxLen;decide,rfl,rfl⟩⟩
theorem owns_kids {w:World} {B n:Nat} {v:Value} {l:List Int} (h:w.ownsRow B 3 1 v n (numC l)) (hn:n=l.length) (h0:0<n):KidsV w v l:=by
 subst hn
 rcases h.2 with ⟨rfl,h1⟩|⟨g,cap,cur,rfl,hB,hg,hnc,hcm,hcs,htake⟩
 ·omega
 ·refine ⟨_,cap,rfl,(fun _=>⟨g,0,rfl,lt_block hg,fun i hi=>?_⟩),fun h=>by cases h⟩
  have:=h.cells (g:=g) rfl i (.int .i64 l[i]) (by simp [numC])
  rwa [add_at] at this
structure RW (w0:World) (g:Nat) (nv:Value) (root:Int) (L:List Nat) (v:Value) (w:World):Prop where
 ds:DS w0 g nv root w
 own:w.ownsRow w0.heap.size 3 1 v L.length (numC (natI L))
theorem RW.keep {w0 w w1:World} {g:Nat} {nv v:Value} {root:Int} {L:List Nat} (h:RW w0 g nv root L v w) (hb:Below w.heap.size w w1):RW w0 g nv root L v w1:=⟨h.ds.keep hb,ownsRow_step h.own hb⟩
theorem numC_appS (a b:List Nat):numC (natI (a ++ b))=numC (natI a) ++ numC (natI b):=by simp [numC,natI]
theorem RW.more {w0 w w1:World} {g:Nat} {nv v v':Value} {root:Int} {L K:List Nat} (h:RW w0 g nv root L v w) (ho:w1.ownsRow w0.heap.size 3 1 v' (L.length+(natI K).length) (numC (natI L) ++ numC (natI K))) (hg:w.grownBy w1 v.ownBlock):RW w0 g nv root (L ++ K) v' w1:=by
 have hv:v.ownBlock≠some g:=by
  rcases h.own.2 with ⟨rfl,-⟩|⟨k,cap,cur,rfl,hB,hk,-⟩
  ·simp [Value.ownBlock]
  ·intro e
   simp [Value.ownBlock] at e
   subst e
   have:=h.ds.box
   unfold Bx at this
   rw [this] at hk
   simp at hk
 refine ⟨⟨?_,?_,h.ds.at_⟩,?_⟩
 ·exact Below.grown h.ds.bel hg h.ds.bel.size (fun k hk=>(h.own.lt k hk).1)
 ·have:=h.ds.box
  unfold Bx at this ⊢
  rw [hg.block g (lt_block this) (fun e=>hv e.symm)];exact this
 ·rw [List.length_append,numC_appS]
  have e:(natI K).length=K.length:=by simp [natI]
  rw [e] at ho
  exact ho
theorem rwalk_any {l:List Nd} {rt:Int} (P:ProgOk l rt) (nv:Value) (root:Int):∀ (a:Nat),a<l.length->∀ w:World,NdsV w nv l ->
    Calls Tryz.prog 72 #[.agg #[nv,.int .i64 root],.int .i64 (a:Nat)] w fun e w'=>∃ v,e = .returned v/\Below w.heap.size w w'/\w'.ownsRow w.heap.size 3 1 v (walkS l a).length (numC (natI (walkS l a))):=by
  intro a
  induction a using Nat.strongRecOn with
  | _ a ih =>
    intro ha w hn
    have HN:=Lib.hid hn
    obtain ⟨src,cap,rfl,hrow⟩:=hn
    obtain ⟨b,off,rfl,hb,hrow⟩:=hrow (by omega)
    obtain ⟨kv,ev,hnd⟩:=hrow a ha
    have c3:=hnd.c3
    obtain ⟨ks,kc,hkv,hks⟩:=hnd.kids
    subst hkv
    have HWE:=Lib.hid (walk_eq P ha)
    have HLE:Hid (∀ t,(a :: ((kidsOf l a).take t).flatMap (walkS l)).length<=16384):=Lib.hid (fun t=>by
      have h1:(walkS l a).length<=l.length:=nodup_len l.length _ (walk_once P a ha) (fun x hx=>by have:=walk_le P a ha x hx;omega)
      have h2:=P.long
      rw [walk_eq P ha] at h1
      have h3:(kidsOf l a).flatMap (walkS l)=((kidsOf l a).take t).flatMap (walkS l) ++ ((kidsOf l a).drop t).flatMap (walkS l):=by rw [<- List.flatMap_append,List.take_append_drop]
      rw [h3] at h1
      simp only [List.length_cons,List.length_append] at h1 ⊢
      omega)
    have HKO:=Lib.hid (kidsOf_get l a ha)
    have hkb:l[a].kids.length=(kidsOf l a).length:=by rw [HKO.out];simp
    have HKS:=Lib.hid hks
    have HKA:=Lib.hid (P.ahead a ha)
    have HIH:Hid (∀ q,q<a->∀ w2,DS w w.heap.size (.slice (some ⟨b,off,none⟩) l.length cap) root w2->Calls Tryz.prog 72 #[.agg #[.slice (some ⟨b,off,none⟩) l.length cap,.int .i64 root],.int .i64 (q:Nat)] w2 fun e w'=>∃ v,e = .returned v/\Below w2.heap.size w2 w'/\w'.ownsRow w2.heap.size 3 1 v (walkS l q).length (numC (natI (walkS l q)))):=Lib.hid (fun q hq w2 h2=>ih q hq (by omega) w2 (HN.out.step h2.bel))
    have HP:=Lib.hid P
    have hal:=P.long
    have hmb:(kidsOf l a).length<=16384:=Nat.le_trans (nodup_len a _ (kids_nodup l P.once a) (fun x hx=>kidsOf_lt P ha hx)) (by omega)
    obtain ⟨n,hnn⟩:∃ n,l.length=n:=⟨_,rfl⟩
    have HNN:=Lib.hid hnn
    rw [hnn] at ha hal HIH ⊢
    generalize l[a].kids=kids at *
    obtain ⟨m,hm⟩:∃ m,kids.length=m:=⟨_,rfl⟩
    have HM:=Lib.hid hm
    rw [hm] at c3 hkb
    rw [<- hkb] at hmb
    have HKL:=Lib.hid hkb
    have C3:=Lib.hid c3
    have D0:=Lib.hid (DS.new w (.slice (some ⟨b,off,none⟩) n cap) root)
    obtain ⟨W0,hW0⟩:∃ W0,W0=w.alloc (.cells #[.slice (some ⟨b,off,none⟩) n cap,.int .i64 root] 25):=⟨_,rfl⟩
    rw [<- hW0] at D0
    have R0:Hid (RW w w.heap.size (.slice (some ⟨b,off,none⟩) n cap) root [a] (.slice (some ⟨w.heap.size+1,0,none⟩) 1 1) (W0.alloc (.cells #[.int .i64 (a:Nat)] 3))):=Lib.hid (by
      have hs:W0.heap.size=w.heap.size+1:=by rw [hW0];simp
      rw [<- hs]
      exact ⟨D0.out.keep ((Below.refl _ _).alloc (Nat.le_refl _) _),own_one W0 _ D0.out.bel.size⟩)
    have HW0:=Lib.hid hW0
    clear hnd hks hrow ih hkb hm hW0 c3 hnn
    go_enter Tryz.func72,Tryz.ntmps72
    go_wp2_with fail
    try rw [<- HW0.out]
    clear HW0 D0
    go_loopw [5,6] (fun u i wr=>∃ (k:Nat) (v:Value),k<=m/\i = .int .i64 k/\u=v/\RW w w.heap.size (.slice (some ⟨b,off,none⟩) n cap) root (a :: ((kidsOf l a).take k).flatMap (walkS l)) v wr) (fun _ i _=>m-(intOf i).toNat)
    case atStart=>exact ⟨0,_,Nat.zero_le _,rfl,rfl,by simpa using R0.out⟩
    case round =>
      clear R0
      obtain ⟨k,v,hk,rfl,rfl,hd⟩:=hrel
      have HD:=Lib.hid hd
      obtain ⟨a0,a1,al,af⟩:=hd.ds.box.two
      have c3:=keep hd.ds.bel hb C3.out
      clear hd
      by_cases hlt:k<m
      · have hkl:k<kids.length:=by have:=HM.out;omega
        obtain ⟨kb,ko,rfl,hkb,hkrow⟩:=HKS.out (by omega)
        have ck:=keep HD.out.ds.bel hkb (hkrow k hkl)
        have hq:=HKA.out kids[k] (List.getElem_mem hkl)
        have HST:Hid (a :: ((kidsOf l a).take (k+1)).flatMap (walkS l)=(a :: ((kidsOf l a).take k).flatMap (walkS l)) ++ walkS l kids[k].toNat):=Lib.hid (by
          rw [List.take_succ_eq_append_getElem (by have:=HKL.out;omega),List.flatMap_append]
          simp [HKO.out])
        have hkx:kids[k]=kids[k]:=rfl
        clear hkx
        have HCK:=Lib.hid (hkrow k hkl)
        clear hkrow
        generalize kids[k]=q0 at *
        obtain ⟨q,rfl⟩:∃ q:Nat,q0=q:=⟨q0.toNat,by omega⟩
        have hqa:q<a:=by omega
        have HC:=Lib.hid (HIH.out q hqa)
        have HPOS:Hid (0<(walkS l q).length):=Lib.hid (by rw [walk_eq HP.out (by have:=HNN.out;omega)];simp)
        have hst:=HST.out
        simp only [Int.toNat_natCast] at hst
        have hb2:=HLE.out (k+1)
        rw [hst] at hb2
        have HB2:=Lib.hid hb2
        have HSU:=Lib.hid hst
        clear hst hb2 HST
        clear hq HIH
        go_wp2_with fail
        clear a0 a1 al af c3 ck
        have HALL:=Lib.hid (fun (w2:World) (h:DS w w.heap.size (.slice (some ⟨b,off,none⟩) n cap) root w2)=>h.kid hb C3.out hkb HCK.out)
        obtain ⟨a0,a1,c3,ck,-⟩:=HALL.out _ HD.out.ds
        go_region_law (first
          | (refine step_append_nums rfl _ _ rfl w.heap.size _ u5 _ (by simp [Act.eval]) HW.out.own rv _ (by simp [Act.eval]) HKV.out (by have:=HB2.out;rw [List.length_append] at this;rw [natI_len];omega) HW.out.ds.bel.size ?_
             intro v' w5 hown' hgrow
             have HF:=Lib.hid (HW.out.more hown' hgrow)
             clear hown' hgrow)
          | (go_simp
             go_at_call 72
             refine (HC.out _ (HD.out.ds.keep ((Below.refl _ _).drew))).mono ?_
             rintro e W4 ⟨rv,rfl,hb4,ho4⟩
             have HKV:=Lib.hid (owns_kids (l:=natI (walkS l q)) (by simpa [natI_len] using ho4) rfl (by rw [natI_len];exact HPOS.out))
             have HW:=Lib.hid (HD.out.keep ((Below.refl _ _).drew) |>.keep hb4)
             clear hb4 ho4))
        all_goals
          have HF2:=HF.out
          rw [<- HSU.out] at HF2
          have HF3:=Lib.hid HF2
          clear a0 a1 c3 ck HALL HW HKV HF HF2
          go_wp2_with fail
          go_roundw
          case rel=>exact ⟨k+1,_,by omega,by go_num,rfl,HF3.out⟩
          case measure=>simp [intOf];omega
      · have hkm:m=k:=by omega
        subst hkm
        have HEQ:Hid (a :: ((kidsOf l a).take m).flatMap (walkS l)=walkS l a):=Lib.hid (by rw [HWE.out,HKL.out,List.take_length])
        rw [HEQ.out] at HD
        clear hlt hk
        go_wp2_with fail
        go_ret
        exact ⟨_,rfl,HD.out.ds.bel,HD.out.own⟩
theorem rafter_any {l:List Nd} {rt:Int} (P:ProgOk l rt) (nv:Value) (root:Int):∀ (a:Nat),a<l.length->∀ w:World,NdsV w nv l ->
    Calls Tryz.prog 93 #[.agg #[nv,.int .i64 root],.int .i64 (a:Nat)] w fun e w'=>∃ v,e = .returned v/\Below w.heap.size w w'/\w'.ownsRow w.heap.size 3 1 v (postS l a).length (numC (natI (postS l a))):=by
  intro a
  induction a using Nat.strongRecOn with
  | _ a ih =>
    intro ha w hn
    have HN:=Lib.hid hn
    obtain ⟨src,cap,rfl,hrow⟩:=hn
    obtain ⟨b,off,rfl,hb,hrow⟩:=hrow (by omega)
    obtain ⟨kv,ev,hnd⟩:=hrow a ha
    have c3:=hnd.c3
    obtain ⟨ks,kc,hkv,hks⟩:=hnd.kids
    subst hkv
    have HWE:=Lib.hid (post_eq P ha)
    have HLE:Hid (∀ t,(((kidsOf l a).take t).flatMap (postS l)).length+1<=16384):=Lib.hid (fun t=>by
      have h1:(postS l a).length<=l.length:=nodup_len l.length _ ((post_perm P a ha).nodup_iff.2 (walk_once P a ha)) (fun x hx=>by have:=walk_le P a ha x ((post_perm P a ha).mem_iff.1 hx);omega)
      have h2:=P.long
      rw [post_eq P ha] at h1
      have h3:(kidsOf l a).flatMap (postS l)=((kidsOf l a).take t).flatMap (postS l) ++ ((kidsOf l a).drop t).flatMap (postS l):=by rw [<- List.flatMap_append,List.take_append_drop]
      rw [h3] at h1
      simp only [List.length_cons,List.length_append,List.length_nil] at h1 ⊢
      omega)
    have HKO:=Lib.hid (kidsOf_get l a ha)
    have hkb:l[a].kids.length=(kidsOf l a).length:=by rw [HKO.out];simp
    have HKS:=Lib.hid hks
    have HKA:=Lib.hid (P.ahead a ha)
    have HIH:Hid (∀ q,q<a->∀ w2,DS w w.heap.size (.slice (some ⟨b,off,none⟩) l.length cap) root w2->Calls Tryz.prog 93 #[.agg #[.slice (some ⟨b,off,none⟩) l.length cap,.int .i64 root],.int .i64 (q:Nat)] w2 fun e w'=>∃ v,e = .returned v/\Below w2.heap.size w2 w'/\w'.ownsRow w2.heap.size 3 1 v (postS l q).length (numC (natI (postS l q)))):=Lib.hid (fun q hq w2 h2=>ih q hq (by omega) w2 (HN.out.step h2.bel))
    have HP:=Lib.hid P
    have hal:=P.long
    have hmb:(kidsOf l a).length<=16384:=Nat.le_trans (nodup_len a _ (kids_nodup l P.once a) (fun x hx=>kidsOf_lt P ha hx)) (by omega)
    obtain ⟨n,hnn⟩:∃ n,l.length=n:=⟨_,rfl⟩
    have HNN:=Lib.hid hnn
    rw [hnn] at ha hal HIH ⊢
    generalize l[a].kids=kids at *
    obtain ⟨m,hm⟩:∃ m,kids.length=m:=⟨_,rfl⟩
    have HM:=Lib.hid hm
    rw [hm] at c3 hkb
    rw [<- hkb] at hmb
    have HKL:=Lib.hid hkb
    have C3:=Lib.hid c3
    have D0:=Lib.hid (DS.new w (.slice (some ⟨b,off,none⟩) n cap) root)
    obtain ⟨W0,hW0⟩:∃ W0,W0=w.alloc (.cells #[.slice (some ⟨b,off,none⟩) n cap,.int .i64 root] 25):=⟨_,rfl⟩
    rw [<- hW0] at D0
    have R0:Hid (RW w w.heap.size (.slice (some ⟨b,off,none⟩) n cap) root [] (.slice none 0 0) W0):=Lib.hid ⟨D0.out,World.ownsRow_nil _ _ _ _⟩
    have HW0:=Lib.hid hW0
    clear hnd hks hrow ih hkb hm hW0 c3 hnn
    go_enter Tryz.func93,Tryz.ntmps93
    go_wp2_with fail
    try rw [<- HW0.out]
    clear HW0 D0
    go_loopw [5,6] (fun u i wr=>∃ (k:Nat) (v:Value),k<=m/\i = .int .i64 k/\u=v/\RW w w.heap.size (.slice (some ⟨b,off,none⟩) n cap) root (((kidsOf l a).take k).flatMap (postS l)) v wr) (fun _ i _=>m-(intOf i).toNat)
    case atStart=>exact ⟨0,_,Nat.zero_le _,rfl,rfl,by simpa using R0.out⟩
    case round =>
      clear R0
      obtain ⟨k,v,hk,rfl,rfl,hd⟩:=hrel
      have HD:=Lib.hid hd
      obtain ⟨a0,a1,al,af⟩:=hd.ds.box.two
      have c3:=keep hd.ds.bel hb C3.out
      clear hd
      by_cases hlt:k<m
      · have hkl:k<kids.length:=by have:=HM.out;omega
        obtain ⟨kb,ko,rfl,hkb,hkrow⟩:=HKS.out (by omega)
        have ck:=keep HD.out.ds.bel hkb (hkrow k hkl)
        have hq:=HKA.out kids[k] (List.getElem_mem hkl)
        have HST:Hid (((kidsOf l a).take (k+1)).flatMap (postS l)=((kidsOf l a).take k).flatMap (postS l) ++ postS l kids[k].toNat):=Lib.hid (by
          rw [List.take_succ_eq_append_getElem (by have:=HKL.out;omega),List.flatMap_append]
          simp [HKO.out])
        have hkx:kids[k]=kids[k]:=rfl
        clear hkx
        have HCK:=Lib.hid (hkrow k hkl)
        clear hkrow
        generalize kids[k]=q0 at *
        obtain ⟨q,rfl⟩:∃ q:Nat,q0=q:=⟨q0.toNat,by omega⟩
        have hqa:q<a:=by omega
        have HC:=Lib.hid (HIH.out q hqa)
        have HPOS:Hid (0<(postS l q).length):=Lib.hid (by rw [post_eq HP.out (by have:=HNN.out;omega)];simp)
        have hst:=HST.out
        simp only [Int.toNat_natCast] at hst
        have hb2:=HLE.out (k+1)
        rw [hst] at hb2
        have HB2:=Lib.hid hb2
        have HSU:=Lib.hid hst
        clear hst hb2 HST
        clear hq HIH
        go_wp2_with fail
        clear a0 a1 al af c3 ck
        have HALL:=Lib.hid (fun (w2:World) (h:DS w w.heap.size (.slice (some ⟨b,off,none⟩) n cap) root w2)=>h.kid hb C3.out hkb HCK.out)
        obtain ⟨a0,a1,c3,ck,-⟩:=HALL.out _ HD.out.ds
        go_region_law (first
          | (refine step_append_nums rfl _ _ rfl w.heap.size _ u5 _ (by simp [Act.eval]) HW.out.own rv _ (by simp [Act.eval]) HKV.out (by have:=HB2.out;rw [List.length_append] at this;rw [natI_len];omega) HW.out.ds.bel.size ?_
             intro v' w5 hown' hgrow
             have HF:=Lib.hid (HW.out.more hown' hgrow)
             clear hown' hgrow)
          | (go_simp
             go_at_call 93
             refine (HC.out _ (HD.out.ds.keep ((Below.refl _ _).drew))).mono ?_
             rintro e W4 ⟨rv,rfl,hb4,ho4⟩
             have HKV:=Lib.hid (owns_kids (l:=natI (postS l q)) (by simpa [natI_len] using ho4) rfl (by rw [natI_len];exact HPOS.out))
             have HW:=Lib.hid (HD.out.keep ((Below.refl _ _).drew) |>.keep hb4)
             clear hb4 ho4))
        all_goals
          have HF2:=HF.out
          rw [<- HSU.out] at HF2
          have HF3:=Lib.hid HF2
          clear a0 a1 c3 ck HALL HW HKV HF HF2
          go_wp2_with fail
          go_roundw
          case rel=>exact ⟨k+1,_,by omega,by go_num,rfl,HF3.out⟩
          case measure=>simp [intOf];omega
      · have hkm:m=k:=by omega
        subst hkm
        have HEQ:Hid (((kidsOf l a).take m).flatMap (postS l) ++ [a]=postS l a):=Lib.hid (by rw [HWE.out,HKL.out,List.take_length])
        have hb2:=HLE.out m
        obtain ⟨v',w7,hap,hrow7,hb7⟩:=rowi_push (a:=a) HD.out.own HD.out.ds.bel.size (by omega)
        rw [HEQ.out] at hrow7
        have HAP:=Lib.hid hap
        have RN:=Lib.hid hrow7
        have BN:=Lib.hid (HD.out.ds.bel.trans hb7)
        clear hap hrow7 hb7 hlt hk hb2
        go_wp2_with (at_builtin;refine Lib.wpList_append_run _ rfl _ _ _ _ rfl _ _ rfl rfl _ _ HAP.out ?_)
        go_ret
        exact ⟨_,rfl,BN.out,RN.out⟩
end Go.Proofs.YtfehpdliobapfaaGreatDoor.S
