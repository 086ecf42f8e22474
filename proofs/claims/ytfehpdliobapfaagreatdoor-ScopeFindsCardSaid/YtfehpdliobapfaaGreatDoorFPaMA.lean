/- For any text and any number,ScopeFinds returns true and leaves its arguments as they were. -/
import Derived.Test.YtfehpdliobapfaaGreatDoorFTrC
import Derived.Test.YtfehpdliobapfaaGreatDoorFPaPl
import Derived.Test.YtfehpdliobapfaaGreatDoorFLexNm
import Derived.Test.YtfehpdliobapfaaGreatDoorFNumB
import Derived.RegionTactic
import Derived.OrdersHeld
import Derived.Deep.RegionHeld3
import Derived.Deep.LoopGhost
set_option maxRecDepth 100000
set_option maxHeartbeats 4000000
set_option linter.unusedVariables false
set_option linter.unusedSimpArgs false
namespace Go.Proofs.YtfehpdliobapfaaGreatDoor
open Go Go.RowKit
theorem append_where {P:Program} {w:World} (base:Nat) (t ty e:TypeId) (i:TypeInfo) (z:Value) (size bytes:Nat) (h1:P.underlying t=some (.slice e)) (h2:P.info? e=some i) (h3:i.zero=some z) (h4:i.size=size) (h5:i.bytes=bytes)
  (v:Value) (n:Nat) (xs:List Value) (hown:w.ownsRow base e size v n xs)
  (ad:Addr) (m c:Nat) (news:List Value) (hm:0<m) (hn:news.length=m*size) (hc:∀ j u,news[j]? = some u->w.cell? (ad.add j)=some u) (h1c:∀ u ∈ news,u.oneCell'=true)
  (b1:n+m<=maxLen) (b2:(n+m)*bytes<=140737488355328) {v':Value} {w':World} (hrun:(Builtin.append_ #[t,t] ty #[v,.slice (some ad) m c]).run P w = .ok v' w'):∀ k,v'.ownBlock=some k->v.ownBlock=some k\/w.heap.size<=k:=by
 subst h4 h5
 have hs:n+m<=9223372036854775807:=by simp only [maxLen] at b1;omega
 have fin:∀ {u:Value} {w2:World},(Builtin.append_ #[t,t] ty #[v,.slice (some ad) m c]).run P w = .ok u w2->(∀ k,u.ownBlock=some k->v.ownBlock=some k\/w.heap.size<=k)->∀ k,v'.ownBlock=some k->v.ownBlock=some k\/w.heap.size<=k:=fun hr h=>by
  rw [hrun] at hr
  simp only [Result.ok.injEq] at hr
  rw [hr.1];exact h
 rcases hown.2 with ⟨rfl,rfl⟩|⟨g,cap,cur,rfl,hbg,hg,hnc,hcm,hcs,htake⟩
 ·exact fin (run_append_nil (P:=P) w t ty e i z h1 h2 h3 ad m c news hn hc hm (by omega) (by rw [Nat.zero_add] at b2;omega)) (fun k hk=>by simp [Value.ownBlock] at hk;omega)
 ·by_cases hroom:n+m<=cap
  ·have hfit:n*i.size+news.length<=cur.size:=by rw [hn,hcs,<- Nat.add_mul];exact Nat.mul_le_mul_right _ hroom
   exact fin (run_append_room (P:=P) w t ty e i h1 h2 g n cap cur hg ad m c news hn hc h1c hroom hfit) (fun k hk=>.inl hk)
  ·have holds:∀ j u,xs[j]? = some u->w.cell? ((⟨g,0,none⟩:Addr).add j)=some u:=hown.cells (g:=g) rfl
   exact fin (run_append_grow (P:=P) w t ty e i z h1 h2 h3 ⟨g,0,none⟩ n cap xs hown.1 holds ad m c news hn hc (by omega) (by omega) (growslice_fits (by omega) b2)) (fun k hk=>by simp [Value.ownBlock] at hk;omega)
theorem step_append_w {P:Program} {ops:Array Oper} {o:Oper} {a:Act} {w:World} {K:Act->World->Prop} {Q:Exit->Act->World->Prop} {E:Prop}
  (hg:o.guard=none) (s x:Operand) (t:TypeId) (hop:o.op=Op.call { callee:=Callee.builtin Builtin.append,args:=#[s,x],argTypes:=#[t,t] })
  (base:Nat) (e:TypeId) (i:TypeInfo) (z:Value) (size bytes:Nat) (h1:P.underlying t=some (.slice e)) (h2:P.info? e=some i) (h3:i.zero=some z) (h4:i.size=size) (h5:i.bytes=bytes) (h6:z.cells.size=size) (h7:0<size)
  (v:Value) (n:Nat) (xs:List Value) (hs:a.eval s=v) (hown:w.ownsRow base e size v n xs)
  (ad:Addr) (m c:Nat) (news:List Value) (hx:a.eval x = .slice (some ad) m c) (hm:0<m) (hn:news.length=m*size) (hc:∀ j u,news[j]? = some u->w.cell? (ad.add j)=some u) (h1c:∀ u ∈ news,u.oneCell'=true)
  (b1:n+m<=maxLen) (b2:(n+m)*bytes<=140737488355328) (hb:base<=w.heap.size)
  (hK:∀ v' w',w'.ownsRow base e size v' (n+m) (xs ++ news)->w.grownBy w' v.ownBlock->(∀ k,v'.ownBlock=some k->v.ownBlock=some k\/w.heap.size<=k)->K (a.put o.dst v') w') :
  if Region.wanted o (yielded ops a.tmps)=true then Oper.wp P o a w K Q else E:=by
 have hw:Region.wanted o (yielded ops a.tmps)=true:=by simp [Region.wanted,hg]
 rw [if_pos hw]
 obtain ⟨v',w',hrun,r1,r2,_⟩:=run_append_own (P:=P) w base t o.type e i z size bytes h1 h2 h3 h4 h5 h6 h7 v n xs hown ad m c news hn hc h1c b1 b2 hb
 have hwh:=append_where (P:=P) base t o.type e i z size bytes h1 h2 h3 h4 h5 v n xs hown ad m c news hm hn hc h1c b1 b2 hrun
 unfold Oper.wp
 simp [execOp,hop,resolve,invoke,builtin,hs,hx,hrun,Result.andThen]
 exact hK v' w' r1 r2 hwh
structure BdR (P:List Value) (w:World) (B b:Nat) (L:List NdR) (v:Value):Prop where
 base:B<=b
 box:Bx 107 w b (P ++ [v])
 own:w.ownsRow B 61 13 v L.length (flatN L)
 new_:RowNew w B L
section
variable {P:List Value} {w w':World} {B b:Nat} {L:List NdR} {v:Value}
theorem bx_last (hP:P.length=6) (h:Bx 107 w b (P ++ [v])):w.cell? ⟨b,6,none⟩=some v:=by
 rw [h.cell,List.getElem?_append_right (by omega),hP];rfl
theorem BdR.c6 (h:BdR P w B b L v) (hP:P.length=6):w.cell? ⟨b,6,none⟩=some v:=bx_last hP h.box
theorem BdR.shape (h:BdR P w B b L v):∃ s c,v = .slice s L.length c:=by
 rcases h.own.2 with ⟨hv,h0⟩|⟨g,cap,cur,hv,_⟩
 ·exact ⟨none,0,by rw [hv,h0]⟩
 ·exact ⟨_,cap,hv⟩
theorem BdR.notInt (h:BdR P w B b L v):∀ c,w.heap[b]? ≠ some (.cells c 3 (0,0)):=fun c hc=>by
 have:=h.box
 unfold Bx at this
 rw [this] at hc
 simp at hc
theorem BdR.row_ne (h:BdR P w B b L v):v.ownBlock≠some b:=by
 rcases h.own.2 with ⟨rfl,_⟩|⟨g,cap,cur,rfl,_,hg,_⟩
 ·simp [Value.ownBlock]
 ·intro e
  simp [Value.ownBlock] at e
  subst e
  have:=h.box
  unfold Bx at this
  rw [this] at hg
  simp at hg
theorem BdR.step (h:BdR P w B b L v) (hb:Below w.heap.size w w'):BdR P w' B b L v :=
 ⟨h.base,h.box.keep hb,ownsRow_step h.own hb,h.new_.step hb⟩
theorem BdR.grow2 {v':Value} {y:NdR} {o':Obj} (h:BdR P w B b L v) (hP:P.length=6) (hB:B<=w.heap.size) (hy:NewNums w B y.2.1 y.1.kids/\NewNums w B y.2.2 y.1.ends)
  (hown:w'.ownsRow B 61 13 v' (L.length+1) (flatN L ++ ndC y)) (hg:(w.alloc o').grownBy w' v.ownBlock) :
  BdR P (w'.setCell ⟨b,6,none⟩ v') B b (L ++ [y]) v'/\Below B w (w'.setCell ⟨b,6,none⟩ v')/\KeptN w (w'.setCell ⟨b,6,none⟩ v') b/\Bx 107 w' b (P ++ [v])/\(∀ k,k<w.heap.size->k≠b->some k≠v.ownBlock->(w'.setCell ⟨b,6,none⟩ v').heap[k]? = w.heap[k]?):=by
 have hrow:=h.row_ne
 have hbl:=h.box.lt
 have hbx:Bx 107 w' b (P ++ [v]):=by
  have:=h.box
  unfold Bx at *
  rw [hg.block b (by simp;omega) (fun e=>hrow e.symm),Below.heap_alloc w _ b hbl];exact this
 have hkeep:KeptN w (w'.setCell ⟨b,6,none⟩ v') b:=fun k c U fz hk hU hkb=>by
  rw [heap_setCell_other _ _ k v' (by simpa using hkb)]
  have hkl:=lt_block hk
  rw [hg.block k (by simp;omega) (fun e=>?_),Below.heap_alloc w _ k hkl]
  rcases h.own.2 with ⟨rfl,_⟩|⟨g,cap,cur,rfl,_,hg2,_⟩
  ·simp [Value.ownBlock] at e
  ·simp [Value.ownBlock] at e
   subst e
   rw [hg2] at hk
   simp at hk
   exact hU hk.2.1.symm
 refine ⟨⟨h.base,?_,?_,?_⟩,?_,hkeep,hbx,fun k hk hkb hkr=>?_⟩
 ·have:=hbx.set 6 v'
  rw [show (P ++ [v]).set 6 v'=P ++ [v'] by rw [<- hP];simp] at this
  exact this
 ·obtain ⟨q1,q2⟩:=hown
  rw [flatN_app,List.length_append]
  refine ⟨by simpa [flatN] using q1,?_⟩
  rcases q2 with ⟨_,q⟩|⟨g,cap,cur,hv,hBg,hg2,q⟩
  ·omega
  ·refine .inr ⟨g,cap,cur,hv,hBg,?_,by simpa [flatN] using q⟩
   rw [heap_setCell_other _ _ g v' (fun e=>?_)]
   ·exact hg2
   ·simp at e
    subst e
    unfold Bx at hbx
    rw [hbx] at hg2
    simp at hg2
 ·intro z hz
  have hni:=h.notInt
  rcases List.mem_append.1 hz with hz|hz
  ·exact ⟨hkeep.nums (h.new_ z hz).1 hni,hkeep.nums (h.new_ z hz).2 hni⟩
  ·rw [List.mem_singleton] at hz
   subst hz
   exact ⟨hkeep.nums hy.1 hni,hkeep.nums hy.2 hni⟩
 ·have h1:Below B w w':=Below.grown ((Below.refl B w).alloc hB o') hg (by simp;omega) (fun j hj=>(h.own.lt j hj).1)
  exact h1.setCell (p:=⟨b,6,none⟩) h.base v'
 ·rw [heap_setCell_other _ _ k v' (by simpa using hkb),hg.block k (by simp;omega) hkr,Below.heap_alloc w _ k hk]
end
def AddPostR (P:List Value) (w:World) (B b:Nat) (L:List NdR) (v:Value) (x:Nd) (e:Ending) (w':World):Prop :=
 e = .returned (.tuple #[.int .i64 (L.length:Nat),.bool true])/\Below B w w'/\(∃ y v',y.1=x/\BdR P w' B b (L ++ [y]) v'/\(∀ k,v'.ownBlock=some k->v.ownBlock=some k\/w.heap.size<=k)/\NewNums w' w.heap.size y.2.1 x.kids/\NewNums w' w.heap.size y.2.2 x.ends)/\KeptN w w' b/\(∀ k,k<w.heap.size->k≠b->some k≠v.ownBlock->w'.heap[k]? = w.heap[k]?)
theorem addR_any (P:List Value) (hP:P.length=6) (bB b:Nat) (L:List NdR) (v:Value) (kind sf st:Int) (kids:List Int) (text:ByteArray) (B:Int) (N:ByteArray) (D:Int) (M:ByteArray) (num wf wt:Int) (ends:List Int) (kv ev:Value) (w:World)
    (hb:BdR P w bB b L v) (hB:bB<=w.heap.size) (hL:L.length<16384) (hk:NumsV w kv kids) (he:NumsV w ev ends) (lk:kids.length<=17592186044416) (le:ends.length<=17592186044416) (st1:text.size<=281474976710656) (sn:N.size<=281474976710656) (sm:M.size<=281474976710656) :
    Calls Tryz.prog 114 #[.pointer (some ⟨b,6,none⟩),.agg #[.int .i64 kind,.int .i64 sf,.int .i64 st,kv,.string text,.int .i64 B,.string N,.int .i64 D,.string M,.int .i64 num,.int .i64 wf,.int .i64 wt,ev]] w (AddPostR P w bB b L v ⟨kind,sf,st,kids,text,B,N,D,M,num,wf,wt,ends⟩):=by
  obtain ⟨ks,kc,rfl,hks⟩:=hk
  obtain ⟨es,ec,rfl,hes⟩:=he
  have HC:=Lib.hid (fun (w2:World) (hb:Below w.heap.size w w2)=>nclone_any kind sf st kids text B N D M num wf wt ends (.slice ks kids.length kc) (.slice es ends.length ec) w2 ⟨ks,kc,rfl,hks.step hb⟩ ⟨es,ec,rfl,hes.step hb⟩ lk le st1 sn sm)
  clear hks hes lk le st1 sn sm
  obtain ⟨vs,vc,rfl⟩:=hb.shape
  obtain ⟨j0,hj,jz0,jz1,jz2⟩:=info_parts infoNode
  have HB:=Lib.hid hb
  have c0:=hb.c6 hP
  have hbl:=hb.box.lt
  clear hb
  generalize hn:L.length=n at *
  have HNL:=Lib.hid hn
  clear hn
  have i1:((n:Int) == 16384)=false:=by simp;omega
  go_enter Tryz.func114,Tryz.ntmps114
  go_wp2_with fail
  have hB3:Below w.heap.size w (w.alloc (.cells #[.int .i64 kind,.int .i64 sf,.int .i64 st,.slice ks kids.length kc,.string text,.int .i64 B,.string N,.int .i64 D,.string M,.int .i64 num,.int .i64 wf,.int .i64 wt,.slice es ends.length ec] 61)):=(Below.refl _ _).alloc (Nat.le_refl _) _
  obtain ⟨W3,hW3⟩:∃ W3,W3=w.alloc (.cells #[.int .i64 kind,.int .i64 sf,.int .i64 st,.slice ks kids.length kc,.string text,.int .i64 B,.string N,.int .i64 D,.string M,.int .i64 num,.int .i64 wf,.int .i64 wt,.slice es ends.length ec] 61):=⟨_,rfl⟩
  have X3:Hid (BoxN W3 w.heap.size [.int .i64 kind,.int .i64 sf,.int .i64 st,.slice ks kids.length kc,.string text,.int .i64 B,.string N,.int .i64 D,.string M,.int .i64 num,.int .i64 wf,.int .i64 wt,.slice es ends.length ec]):=Lib.hid (by rw [hW3];exact BoxN.new w #[.int .i64 kind,.int .i64 sf,.int .i64 st,.slice ks kids.length kc,.string text,.int .i64 B,.string N,.int .i64 D,.string M,.int .i64 num,.int .i64 wf,.int .i64 wt,.slice es ends.length ec])
  have HB3:Hid (Below w.heap.size w W3):=Lib.hid (by rw [hW3];exact hB3)
  rw [<- hW3]
  clear hW3 hB3
  have BD3:=Lib.hid (HB.out.step HB3.out)
  obtain ⟨⟨a0,a1,a2,a3,a4,a5,a6,a7,a8,a9,a10,a11,a12⟩,al,af⟩:=X3.out.all
  have d0:=BD3.out.c6 hP
  have df:=BD3.out.box.frozen 6
  clear c0 hbl
  have N1:Hid (L.length+1<=maxLen):=Lib.hid (by have:=HNL.out;unfold maxLen;omega)
  have N2:Hid ((L.length+1)*160<=140737488355328):=Lib.hid (by have:=HNL.out;omega)
  have RW:Hid (∀ (s1:Option Addr) (c1:Nat) (s2:Option Addr) (c2:Nat) (W4:World),∀ j u,([.int .i64 kind,.int .i64 sf,.int .i64 st,.slice s1 kids.length c1,.string text,.int .i64 B,.string N,.int .i64 D,.string M,.int .i64 num,.int .i64 wf,.int .i64 wt,.slice s2 ends.length c2]:List Value)[j]? = some u->(W4.alloc (.cells #[.int .i64 kind,.int .i64 sf,.int .i64 st,.slice s1 kids.length c1,.string text,.int .i64 B,.string N,.int .i64 D,.string M,.int .i64 num,.int .i64 wf,.int .i64 wt,.slice s2 ends.length c2] 61)).cell? ((⟨W4.heap.size,0,none⟩:Addr).add j)=some u):=Lib.hid (by
    intro s1 c1 s2 c2 W4 j u hj
    rw [add_at,Nat.zero_add,(BoxN.new W4 #[.int .i64 kind,.int .i64 sf,.int .i64 st,.slice s1 kids.length c1,.string text,.int .i64 B,.string N,.int .i64 D,.string M,.int .i64 num,.int .i64 wf,.int .i64 wt,.slice s2 ends.length c2]).cell];exact hj)
  have R1:Hid (∀ (s1:Option Addr) (c1:Nat) (s2:Option Addr) (c2:Nat),∀ u ∈ ([.int .i64 kind,.int .i64 sf,.int .i64 st,.slice s1 kids.length c1,.string text,.int .i64 B,.string N,.int .i64 D,.string M,.int .i64 num,.int .i64 wf,.int .i64 wt,.slice s2 ends.length c2]:List Value),u.oneCell'=true):=Lib.hid (by
    intro s1 c1 s2 c2 u hu
    simp only [List.mem_cons,List.not_mem_nil,or_false] at hu
    rcases hu with rfl|rfl|rfl|rfl|rfl|rfl|rfl|rfl|rfl|rfl|rfl|rfl|rfl<;>rfl)
  go_region_law (first
    | (refine step_append_w rfl (.tmp 16) (.tmp 19) 23 rfl bB 61 j0 _ 13 160 Tryz.underlying23 hj jz0 jz1 jz2 rfl (by decide) (.slice vs n vc) L.length (flatN L) (by simp [Act.eval]) (HW.out.own.alloc _) ⟨W4.heap.size,0,none⟩ 1 1 ([.int .i64 kind,.int .i64 sf,.int .i64 st,.slice s1 kids.length c1,.string text,.int .i64 B,.string N,.int .i64 D,.string M,.int .i64 num,.int .i64 wf,.int .i64 wt,.slice s2 ends.length c2]) (by simp [Act.eval]) (by decide) rfl (RW.out _ _ _ _ W4) (R1.out _ _ _ _) N1.out N2.out (HB4.out _) ?_
       intro v' w5 hown' hgrow howb
       obtain ⟨g,gc,rfl⟩:=own_shape hown'
       have HG:=Lib.hid (HW.out.grow2 (y:=(⟨kind,sf,st,kids,text,B,N,D,M,num,wf,wt,ends⟩,.slice s1 kids.length c1,.slice s2 ends.length c2)) hP HBW.out ⟨M1.out,M2.out⟩ hown' hgrow)
       have e0:=bx_last hP HG.out.2.2.2.1
       have ef:=HG.out.2.2.2.1.frozen 6
       have HOB:Hid (∀ k,(Value.slice (some ⟨g,0,none⟩) (L.length+1) gc).ownBlock=some k->(Value.slice vs n vc).ownBlock=some k\/w.heap.size<=k):=Lib.hid (fun k hk=>(howb k hk).imp id (fun h=>by have:=H4.out.size;simp at h;omega))
       clear hown' hgrow howb)
    | (go_simp
       go_at_call 153
       refine (HC.out _ (HB3.out.drew)).mono ?_
       rintro e W4 ⟨s1,c1,s2,c2,rfl,h34,n1,n2⟩
       have HW:Hid (BdR P W4 bB b L (.slice vs n vc)):=Lib.hid ((HB.out.step HB3.out.drew).step h34)
       have HB4:Hid (∀ o:Obj,bB<=(W4.alloc o).heap.size):=Lib.hid (fun o=>by have:=h34.size;have:=HB3.out.size;simp at *;omega)
       have HBW:Hid (bB<=W4.heap.size):=Lib.hid (by have:=h34.size;have:=HB3.out.size;simp at *;omega)
       have H4:=Lib.hid (after HB3.out.drew h34)
       have M1:=Lib.hid (n1.mono (B':=bB) (by have:=HB3.out.size;simp at *;omega))
       have M2:=Lib.hid (n2.mono (B':=bB) (by have:=HB3.out.size;simp at *;omega))
       have M3:=Lib.hid (n1.mono (B':=w.heap.size) (by have:=HB3.out.size;simp at *;omega))
       have M4:=Lib.hid (n2.mono (B':=w.heap.size) (by have:=HB3.out.size;simp at *;omega))
       have g0:=HW.out.c6 hP
       have gl:=HW.out.box.lt
       clear h34 n1 n2))
  all_goals
    have HZ:=Lib.hid (KeptN.trans (KeptN.of_below b H4.out) HG.out.2.2.1)
    have HZ2:=Lib.hid ((H4.out.mono hB).trans HG.out.2.1)
    have HZ3:=Lib.hid HG.out.1
    have HZ5:=Lib.hid (HG.out.2.2.1.nums M3.out (HW.out.notInt))
    have HZ6:=Lib.hid (HG.out.2.2.1.nums M4.out (HW.out.notInt))
    have HZ4:Hid (∀ k,k<w.heap.size->k≠b->some k≠(Value.slice vs n vc).ownBlock->(w5.setCell ⟨b,6,none⟩ _).heap[k]? = w.heap[k]?):=Lib.hid (fun k hk h1 h2=>(HG.out.2.2.2.2 k (Nat.lt_of_lt_of_le hk H4.out.size) h1 h2).trans (H4.out.block k hk))
    clear HG HW HB4 H4 M1 M2 M3 M4 HC HB3 BD3 X3 HB N1 N2 RW R1
    generalize hln:L.length=ln at *
    have hl2:ln<16384:=by have:=HNL.out;omega
    have HLN:=Lib.hid hln
    clear hln
    go_wp2_with fail
    go_ret2
    exact ⟨by rw [HLN.out];rfl,HZ2.out,⟨_,_,rfl,HZ3.out,HOB.out,HZ5.out,HZ6.out⟩,HZ.out,HZ4.out⟩
end Go.Proofs.YtfehpdliobapfaaGreatDoor
namespace Go.Proofs.YtfehpdliobapfaaGreatDoor
open Go Go.RowKit
structure RV where
 v:Value
 L:List NdR
def RV.cl (r:RV) (k:Nat):Prop:=∃ y ∈ r.L,y.2.1.ownBlock=some k\/y.2.2.ownBlock=some k
structure Fr (B b:Nat) (v:RV) (w:World) (v':RV) (w':World):Prop where
 bel:Below B w w'
 kept:∀ k,k<w.heap.size->k≠b->v.v.ownBlock≠some k->w'.heap[k]? = w.heap[k]?
 own:∀ k,v'.v.ownBlock=some k->v.v.ownBlock=some k\/w.heap.size<=k
 lists:∀ k,v'.cl k->v.cl k\/w.heap.size<=k
structure Mine (b:Nat) (v:RV) (w:World) (k:Nat):Prop where
 lt:k<w.heap.size
 ne:k≠b
 row:v.v.ownBlock≠some k
 cl:¬ v.cl k
section
variable {B b:Nat} {v v1 v2:RV} {w w1 w2:World}
theorem Fr.refl (B b:Nat) (v:RV) (w:World):Fr B b v w v w:=⟨Below.refl _ _,fun _ _ _ _=>rfl,fun _ h=>.inl h,fun _ h=>.inl h⟩
theorem Fr.trans (h:Fr B b v w v1 w1) (g:Fr B b v1 w1 v2 w2):Fr B b v w v2 w2 :=
 ⟨h.bel.trans g.bel,fun k h1 h2 h3=>(g.kept k (Nat.lt_of_lt_of_le h1 h.bel.size) h2 (fun e=>by
   rcases h.own k e with e'|e'
   ·exact h3 e'
   ·omega)).trans (h.kept k h1 h2 h3),fun k hk=>by
   rcases g.own k hk with e|e
   ·exact h.own k e
   ·have:=h.bel.size;exact .inr (by omega),fun k hk=>by
   rcases g.lists k hk with e|e
   ·exact h.lists k e
   ·have:=h.bel.size;exact .inr (by omega)⟩
theorem Fr.below (h:Fr B b v w v1 w1) (g:Below w1.heap.size w1 w2) (hB:B<=w1.heap.size):Fr B b v w v1 w2 :=
 h.trans ⟨g.mono hB,fun k h1 _ _=>g.block k h1,fun _ hk=>.inl hk,fun _ hk=>.inl hk⟩
theorem Fr.of_below (g:Below w.heap.size w w1) (hB:B<=w.heap.size):Fr B b v w v w1:=(Fr.refl B b v w).below g hB
theorem Mine.step {k:Nat} (h:Mine b v w k) (g:Fr B b v w v1 w1):Mine b v1 w1 k/\w1.heap[k]? = w.heap[k]? :=
 ⟨⟨Nat.lt_of_lt_of_le h.lt g.bel.size,h.ne,fun e=>by
  rcases g.own k e with e'|e'
  ·exact h.row e'
  ·have:=h.lt;omega,fun e=>by
  rcases g.lists k e with e'|e'
  ·exact h.cl e'
  ·have:=h.lt;omega⟩,g.kept k h.lt h.ne h.row⟩
theorem Mine.cell {k:Nat} (h:Mine b v w k) (g:Fr B b v w v1 w1) (o:Nat):w1.cell? ⟨k,o,none⟩=w.cell? ⟨k,o,none⟩:=by
 apply World.cell?_of_block;exact (h.step g).2
theorem Mine.boxN {k:Nat} {cs:List Value} (h:Mine b v w k) (g:Fr B b v w v1 w1) (hx:BoxN w k cs):BoxN w1 k cs:=by
 unfold BoxN at *;rw [(h.step g).2];exact hx
end
def WdAt (w:World) (g:Nat) (l:List ByteArray):Prop:=∀ i (h:i<l.length),w.cell? ⟨g,i,none⟩=some (.string l[i])
def rdC (tv wv:Value) (s:PS):List Value:=[tv,wv,.int .i64 (s.next:Nat),.int .i64 (s.deep:Nat),.int .i64 (s.over:Nat),.int .i64 (s.made.length:Nat)]
structure Rd (C:PC) (dd B b:Nat) (tv wv:Value) (s:PS) (v:RV) (w:World):Prop where
 bd:v.L.map (·.1)=s.made/\BdR (rdC tv wv s) w B b v.L v.v
 hB:B<=w.heap.size
 toks:∃ g cap,tv = .slice (some ⟨g,0,none⟩) C.toks.length cap/\Mine b v w g/\L.TokAt w g 0 C.toks
 words:∃ g cap,wv = .slice (some ⟨g,0,none⟩) C.toks.length cap/\Mine b v w g/\WdAt w g C.ws
 len:C.ws.length=C.toks.length
 long:C.toks.length<=90000
 next:s.next<C.toks.length
 nodes:s.made.length<=8192
 deep:s.deep<=dd
 over:s.over<=1000000
 cap:dd<=1000000
 good:∀ x ∈ s.made,goodN x=true
section
variable {C:PC} {dd B b:Nat} {tv wv:Value} {s:PS} {v v1:RV} {w w1:World}
theorem Rd.box (h:Rd C dd B b tv wv s v w):Bx 107 w b (rdC tv wv s ++ [v.v]):=h.bd.2.box
theorem Rd.lt (h:Rd C dd B b tv wv s v w):b<w.heap.size:=h.box.lt
theorem Rd.base (h:Rd C dd B b tv wv s v w):B<=b:=h.bd.2.base
theorem Rd.step (h:Rd C dd B b tv wv s v w) (g:Below w.heap.size w w1):Rd C dd B b tv wv s v w1:=by
 have hf:Fr B b v w v w1:=Fr.of_below g h.hB
 obtain ⟨h1,h2⟩:=h.bd
 obtain ⟨gt,ct,e1,m1,t1⟩:=h.toks
 obtain ⟨gw,cw,e2,m2,t2⟩:=h.words
 exact ⟨⟨h1,h2.step g⟩,Nat.le_trans h.hB g.size,⟨gt,ct,e1,(m1.step hf).1,fun i hi=>by have:=t1 i hi;rw [m1.cell hf,m1.cell hf,m1.cell hf];exact this⟩,⟨gw,cw,e2,(m2.step hf).1,fun i hi=>by rw [m2.cell hf];exact t2 i hi⟩,h.len,h.long,h.next,h.nodes,h.deep,h.over,h.cap,h.good⟩
theorem Rd.cells (h:Rd C dd B b tv wv s v w):w.cell? ⟨b,0,none⟩=some tv/\w.cell? ⟨b,1,none⟩=some wv/\w.cell? ⟨b,2,none⟩=some (.int .i64 (s.next:Nat))/\w.cell? ⟨b,3,none⟩=some (.int .i64 (s.deep:Nat))/\w.cell? ⟨b,4,none⟩=some (.int .i64 (s.over:Nat))/\w.cell? ⟨b,5,none⟩=some (.int .i64 (s.made.length:Nat))/\w.cell? ⟨b,6,none⟩=some v.v/\b<w.heap.size/\∀ j,w.frozen? ⟨b,j,none⟩=false :=
 ⟨h.box.cell 0,h.box.cell 1,h.box.cell 2,h.box.cell 3,h.box.cell 4,h.box.cell 5,h.box.cell 6,h.lt,fun j=>h.box.frozen j⟩
theorem Rd.tok (h:Rd C dd B b tv wv s v w) (i:Nat) (hi:i<C.toks.length):∃ g cap,tv = .slice (some ⟨g,0,none⟩) C.toks.length cap/\g<w.heap.size/\w.cell? ⟨g,i*3,none⟩=some (.int .i64 ((C.tok i).1:Nat))/\w.cell? ⟨g,i*3+1,none⟩=some (.int .i64 ((C.tok i).2.1:Nat))/\w.cell? ⟨g,i*3+2,none⟩=some (.int .i64 ((C.tok i).2.2:Nat)):=by
 obtain ⟨g,cap,e,m,t⟩:=h.toks
 have:=t i hi
 have e2:C.tok i=C.toks[i]:=by unfold PC.tok;rw [List.getD_eq_getElem?_getD,List.getElem?_eq_getElem hi];rfl
 rw [e2]
 simp only [Nat.zero_add] at this
 exact ⟨g,cap,e,m.lt,this⟩
theorem Rd.wd (h:Rd C dd B b tv wv s v w) (i:Nat) (hi:i<C.toks.length):∃ g cap,wv = .slice (some ⟨g,0,none⟩) C.toks.length cap/\g<w.heap.size/\w.cell? ⟨g,i,none⟩=some (.string (C.word i)):=by
 obtain ⟨g,cap,e,m,t⟩:=h.words
 have hi':i<C.ws.length:=by rw [h.len];exact hi
 have e2:C.word i=C.ws[i]:=by unfold PC.word;rw [List.getD_eq_getElem?_getD,List.getElem?_eq_getElem hi'];rfl
 rw [e2]
 exact ⟨g,cap,e,m.lt,t i hi'⟩
theorem Rd.wslice (h:Rd C dd B b tv wv s v w):∃ g cap,wv = .slice (some ⟨g,0,none⟩) C.toks.length cap:=by
 obtain ⟨g,cap,e,m,t⟩:=h.words
 exact ⟨g,cap,e⟩
theorem Rd.at_ (h:Rd C dd B b tv wv s v w) {d2:Nat} (hd:s.deep<=d2) (hc:d2<=1000000):Rd C d2 B b tv wv s v w:=⟨h.bd,h.hB,h.toks,h.words,h.len,h.long,h.next,h.nodes,hd,h.over,hc,h.good⟩
theorem Rd.set (h:Rd C dd B b tv wv s v w) (j:Nat) (x:Value) (t:PS) (hj:j<6) (e:(rdC tv wv s).set j x=rdC tv wv t) (hm:t.made=s.made) (hn:t.next<C.toks.length) (hd:t.deep<=dd) (ho:t.over<=1000000) :
  Rd C dd B b tv wv t v (w.setCell ⟨b,j,none⟩ x)/\Fr B b v w v (w.setCell ⟨b,j,none⟩ x):=by
 have hf:Fr B b v w v (w.setCell ⟨b,j,none⟩ x):=⟨(Below.refl B w).setCell (p:=⟨b,j,none⟩) h.base x,fun k _ h2 _=>heap_setCell_other w _ k x (by simpa using h2),fun _ hk=>.inl hk,fun _ hk=>.inl hk⟩
 obtain ⟨h1,h2⟩:=h.bd
 obtain ⟨gt,ct,e1,m1,t1⟩:=h.toks
 obtain ⟨gw,cw,e2,m2,t2⟩:=h.words
 refine ⟨⟨⟨by rw [hm];exact h1,⟨h2.base,?_,?_,?_⟩⟩,by have:=hf.bel.size;have:=h.hB;omega,⟨gt,ct,e1,(m1.step hf).1,fun i hi=>by have:=t1 i hi;rw [m1.cell hf,m1.cell hf,m1.cell hf];exact this⟩,⟨gw,cw,e2,(m2.step hf).1,fun i hi=>by rw [m2.cell hf];exact t2 i hi⟩,h.len,h.long,hn,by rw [hm];exact h.nodes,hd,ho,h.cap,by rw [hm];exact h.good⟩,hf⟩
 ·have:=h2.box.set j x
  rw [List.set_append_left _ _ (by show j<6;exact hj),e] at this
  exact this
 ·obtain ⟨q1,q2⟩:=h2.own
  refine ⟨q1,?_⟩
  rcases q2 with q|⟨g,cap,cur,hv,hBg,hg2,q⟩
  ·exact .inl q
  ·refine .inr ⟨g,cap,cur,hv,hBg,?_,q⟩
   rw [heap_setCell_other _ _ g x (fun e=>?_)]
   ·exact hg2
   ·simp at e
    subst e
    have hb:=h2.box
    unfold Bx at hb
    rw [hb] at hg2
    simp at hg2
 ·intro z hz
  have hni:=h2.notInt
  have hk:KeptN w (w.setCell ⟨b,j,none⟩ x) b:=fun k c U fz hk hU hkb=>heap_setCell_other w _ k x (by simpa using hkb)
  exact ⟨hk.nums (h2.new_ z hz).1 hni,hk.nums (h2.new_ z hz).2 hni⟩
end
def repN (n:Nat) (_:RV) (w:World) (u:Value):Prop:=u = .int .i64 (n:Nat)
def repT (x:ByteArray) (_:RV) (w:World) (u:Value):Prop:=u = .string x
def repU (_:Unit) (_:RV) (w:World) (u:Value):Prop:=u = .tuple #[]
def repB (x:Bool) (_:RV) (w:World) (u:Value):Prop:=u = .bool x
section
variable {α β : Type} {m:PM α} {k : α -> PM β} {s t:PS}
theorem bnd_ok {a : α} (h:m s = .ok a t):bnd m k s=k a t:=by unfold bnd;rw [h]
theorem bnd_bad {c:Nat} {x:Int} (h:m s = .bad c x):bnd m k s = .bad c x:=by unfold bnd;rw [h]
theorem bnd_out (h:m s = .out):bnd m k s = .out:=by unfold bnd;rw [h]
end
end Go.Proofs.YtfehpdliobapfaaGreatDoor
namespace Go.Proofs.YtfehpdliobapfaaGreatDoor
open Go Go.RowKit
theorem pl_eq (a b:ByteArray):(a.toList == b.toList)=decide (a=b):=by
 rw [Bool.eq_iff_iff,beq_iff_eq,decide_eq_true_iff,ByteArray.toList_eq,ByteArray.toList_eq]
 constructor
 ·intro h
  apply ByteArray.ext
  exact Array.toList_inj.1 h
 ·intro h;rw [h]
theorem field_tok (w:World) (x y z:Int):Sem.run Tryz.prog (Instr.field 109 (.agg #[.int .i64 x,.int .i64 y,.int .i64 z]) 1) w=Result.ok (.agg #[.int .i64 y,.int .i64 z]) w:=by
 kernel_rfl
theorem field_span (w:World) (y z:Int):Sem.run Tryz.prog (Instr.field 59 (.agg #[.int .i64 y,.int .i64 z]) 0) w=Result.ok (.int .i64 y) w:=by
 kernel_rfl
theorem fail_any (c:Nat) (t:Int) (w:World):Calls Tryz.prog 154 #[.int .i64 (c:Nat),.int .i64 t] w fun e w'=>e = .panicked [{ v:=.iface 102 (.agg #[.int .i64 (c:Nat),.int .i64 t]),recovered:=false }]/\w=w':=by
 go_enter Tryz.func154,Tryz.ntmps154
 go_wp2_with fail
 exact ⟨rfl,rfl,rfl⟩
section
variable {C:PC} {dd B b:Nat} {tv wv:Value} {s:PS} {v v1:RV} {w w1:World}
theorem token_any (h:Rd C dd B b tv wv s v w):Calls Tryz.prog 111 #[.pointer (some ⟨b,0,none⟩)] w fun e w'=>e = .returned (.agg #[.int .i64 (kindS C s:Nat),.int .i64 (fromS C s:Nat),.int .i64 ((C.tok s.next).2.2:Nat)])/\Below w.heap.size w w':=by
 obtain ⟨c0,c1,c2,-,-,-,-,hl,-⟩:=h.cells
 obtain ⟨g,cap,rfl,hg,t0,t1,t2⟩:=h.tok s.next h.next
 have hn:=h.next
 have hlong:=h.long
 clear h c1
 unfold kindS fromS
 generalize C.tok s.next=q at *
 obtain ⟨q0,q1,q2⟩:=q
 simp only at t0 t1 t2 ⊢
 generalize C.toks.length=n at *
 generalize s.next=i at *
 have i0:(0:Int)<=(i:Int):=by omega
 have i1:(i:Int)<(n:Int):=by omega
 go_enter Tryz.func111,Tryz.ntmps111
 go_wp2_with fail
 go_region
 go_wp2_with fail
 refine bodyPost_ret (v:=.agg #[.int .i64 (q0:Nat),.int .i64 (q1:Nat),.int .i64 (q2:Nat)]) (by simp [results,Tryz.results111,go_sem]) rfl ?_
 exact ⟨rfl,by repeat (first|exact Below.refl _ _|refine below_drewN ?_ _|apply Below.setCell _ (by first|omega|(simp<;>omega))|apply Below.alloc _ (by first|omega|(simp<;>omega)))⟩
theorem from_any' (h:Rd C dd B b tv wv s v w):Calls Tryz.prog 110 #[.pointer (some ⟨b,0,none⟩)] w fun e w'=>e = .returned (.int .i64 (fromS C s:Nat))/\Below w.heap.size w w':=by
 have HT:=Lib.hid (token_any h)
 have hf1:=field_tok
 have hf2:=field_span
 generalize kindS C s=q0 at *
 generalize fromS C s=q1 at *
 generalize (C.tok s.next).2.2=q2 at *
 go_enter Tryz.func110,Tryz.ntmps110
 go_wp2_with fail
 refine HT.out.mono ?_
 rintro e w1 ⟨rfl,hb⟩
 have HB:=Lib.hid hb
 go_wp2_with fail
 go_ret
 exact ⟨rfl,HB.out⟩
theorem end_raw {b g n cap i:Nat} {q2:Nat} {w:World} (c0:w.cell? ⟨b,0,none⟩=some (.slice (some ⟨g,0,none⟩) n cap)) (c2:w.cell? ⟨b,2,none⟩=some (.int .i64 ((i:Int)+1))) (hl:b<w.heap.size) (hg:g<w.heap.size)
  (t2:w.cell? ⟨g,i*3+2,none⟩=some (.int .i64 (q2:Nat))) (hn:i+1<n) (hlong:n<=90000):Calls Tryz.prog 188 #[.pointer (some ⟨b,0,none⟩)] w fun e w'=>e = .returned (.int .i64 (q2:Nat))/\Below w.heap.size w w':=by
 have i0:(0:Int)<=(i:Int):=by omega
 have i1:(i:Int)<(n:Int):=by omega
 have i2:(i:Int)+1-1=(i:Int):=by omega
 have i3:IntKind.i64.wrap ((i:Int)+1-1)=(i:Int):=by rw [i2];exact IntWalk.i64_in _ ⟨by omega,by omega⟩
 go_enter Tryz.func188,Tryz.ntmps188
 go_wp2_with fail
 go_quiet (fail)
 go_wp2_with fail
 go_ret
 exact ⟨rfl,by repeat (first|exact Below.refl _ _|refine below_drewN ?_ _|apply Below.setCell _ (by first|omega|(simp<;>omega))|apply Below.alloc _ (by first|omega|(simp<;>omega)))⟩
theorem end_facts (h:Rd C dd B b tv wv s v w) (h0:0<s.next):∃ g n cap i:Nat,w.cell? ⟨b,0,none⟩=some (.slice (some ⟨g,0,none⟩) n cap)/\w.cell? ⟨b,2,none⟩=some (.int .i64 ((i:Int)+1))/\b<w.heap.size/\g<w.heap.size/\w.cell? ⟨g,i*3+2,none⟩=some (.int .i64 (endS C s:Nat))/\i+1<n/\n<=90000/\(g≠b/\v.v.ownBlock≠some g):=by
 obtain ⟨c0,c1,c2,-,-,-,-,hl,-⟩:=h.cells
 have hn:=h.next
 obtain ⟨i,hi⟩:∃ i,s.next=i+1:=⟨s.next-1,by omega⟩
 obtain ⟨g,cap,e1,m1,t1⟩:=h.toks
 have hi2:i<C.toks.length:=by omega
 have t2:=(t1 i hi2).2.2
 have e2:C.tok i=C.toks[i]:=by unfold PC.tok;rw [List.getD_eq_getElem?_getD,List.getElem?_eq_getElem hi2];rfl
 simp only [Nat.zero_add] at t2
 subst e1
 refine ⟨g,C.toks.length,cap,i,c0,?_,hl,m1.lt,?_,by omega,h.long,m1.ne,m1.row⟩
 ·rw [c2,hi];rfl
 ·unfold endS
  rw [hi,Nat.add_sub_cancel,e2];exact t2
theorem end_any (h:Rd C dd B b tv wv s v w) (h0:0<s.next):Calls Tryz.prog 188 #[.pointer (some ⟨b,0,none⟩)] w fun e w'=>e = .returned (.int .i64 (endS C s:Nat))/\Below w.heap.size w w':=by
 obtain ⟨g,n,cap,i,c0,c2,hl,hg,t2,hn,hlong,-⟩:=end_facts h h0
 exact end_raw c0 c2 hl hg t2 hn hlong
theorem since_raw {b g n cap i:Nat} {q2:Nat} {w:World} (f:Int) (c0:w.cell? ⟨b,0,none⟩=some (.slice (some ⟨g,0,none⟩) n cap)) (c2:w.cell? ⟨b,2,none⟩=some (.int .i64 ((i:Int)+1))) (hl:b<w.heap.size) (hg:g<w.heap.size)
  (t2:w.cell? ⟨g,i*3+2,none⟩=some (.int .i64 (q2:Nat))) (hn:i+1<n) (hlong:n<=90000):Calls Tryz.prog 155 #[.pointer (some ⟨b,0,none⟩),.int .i64 f] w fun e w'=>e = .returned (.agg #[.int .i64 f,.int .i64 (q2:Nat)])/\Below w.heap.size w w':=by
 have HE:=Lib.hid (fun (w2:World) (hb:Below w.heap.size w w2)=>end_raw (b:=b) (w:=w2) (keep hb hl c0) (keep hb hl c2) (Nat.lt_of_lt_of_le hl hb.size) (Nat.lt_of_lt_of_le hg hb.size) (keep hb hg t2) hn hlong)
 clear c0 c2 t2 hn hlong
 go_enter Tryz.func155,Tryz.ntmps155
 go_wp2_with fail
 refine (HE.out _ (by repeat (first|exact Below.refl _ _|apply Below.setCell _ (by first|omega|(simp<;>omega))|apply Below.alloc _ (by first|omega|(simp<;>omega))))).mono ?_
 rintro e w2 ⟨rfl,hb⟩
 have HB:=Lib.hid (after ((Below.refl w.heap.size w).alloc (Nat.le_refl _) _) hb)
 have X:=Lib.hid ((Bx.new 59 w #[.int .i64 0,.int .i64 0]).keep hb)
 obtain ⟨a0,a1,al,af⟩:=X.out.two
 have S:=Lib.hid ((X.out.set 0 (.int .i64 f)).set 1 (.int .i64 (q2:Nat)))
 obtain ⟨s0,s1,sl,sf⟩:=S.out.two
 clear hb
 go_wp2_with fail
 refine bodyPost_ret (v:=.agg #[.int .i64 f,.int .i64 (q2:Nat)]) (by simp [results,Tryz.results155,go_sem,s0,s1]) rfl ?_
 exact ⟨rfl,(HB.out.setCell (p:=⟨w.heap.size,0,none⟩) (Nat.le_refl _) _).setCell (p:=⟨w.heap.size,1,none⟩) (Nat.le_refl _) _⟩
theorem word_any (h:Rd C dd B b tv wv s v w) (k:Nat) (hk:k<=2):Calls Tryz.prog 183 #[.pointer (some ⟨b,0,none⟩),.int .i64 (k:Nat)] w fun e w'=>e = .returned (.string (wordS C k s))/\Below w.heap.size w w':=by
 obtain ⟨c0,c1,c2,-,-,-,-,hl,-⟩:=h.cells
 have hn:=h.next
 have hlong:=h.long
 obtain ⟨g0,cap0,hwv⟩:=h.wslice
 subst hwv
 have i3:IntKind.i64.wrap ((s.next:Int)+(k:Int))=(s.next:Int)+(k:Int):=IntWalk.i64_in _ ⟨by omega,by omega⟩
 have i4:((s.next:Int)+(k:Int)).toNat=s.next+k:=by omega
 by_cases hin:s.next+k<C.toks.length
 ·obtain ⟨g,cap,he,hg,t0⟩:=h.wd (s.next+k) hin
  obtain ⟨rfl,rfl⟩:g0=g/\cap0=cap:=by simpa using he
  unfold wordS
  clear h he c0
  generalize C.word (s.next+k)=x at *
  generalize C.toks.length=n at *
  generalize s.next=i at *
  have i0:(0:Int)<=(i:Int)+(k:Int):=by omega
  have i1:(i:Int)+(k:Int)<(n:Int):=by omega
  have i6:decide ((n:Int)<=(i:Int)+(k:Int))=false:=decide_eq_false (by omega)
  go_enter Tryz.func183,Tryz.ntmps183
  go_wp2_with fail
  go_quiet (fail)
  go_wp2_with fail
  go_quiet (fail)
  go_wp2_with fail
  go_ret
  exact ⟨rfl,by repeat (first|exact Below.refl _ _|refine below_drewN ?_ _|apply Below.setCell _ (by first|omega|(simp<;>omega))|apply Below.alloc _ (by first|omega|(simp<;>omega)))⟩
 ·have hw:wordS C k s=⟨#[]⟩:=by
   unfold wordS PC.word
   rw [List.getD_eq_getElem?_getD,List.getElem?_eq_none (by have:=h.len;omega)];rfl
  rw [hw]
  clear h hw c0
  generalize C.toks.length=n at *
  generalize s.next=i at *
  have i6:decide ((n:Int)<=(i:Int)+(k:Int))=true:=decide_eq_true (by omega)
  go_enter Tryz.func183,Tryz.ntmps183
  go_wp2_with fail
  go_quiet (fail)
  go_wp2_with fail
  go_ret
  exact ⟨rfl,by repeat (first|exact Below.refl _ _|refine below_drewN ?_ _|apply Below.setCell _ (by first|omega|(simp<;>omega))|apply Below.alloc _ (by first|omega|(simp<;>omega)))⟩
theorem sees_any (h:Rd C dd B b tv wv s v w) (x:ByteArray):Calls Tryz.prog 149 #[.pointer (some ⟨b,0,none⟩),.string x] w fun e w'=>e = .returned (.bool (sees C x s))/\Below w.heap.size w w':=by
 have HW:=Lib.hid (word_any h 0 (by omega))
 have HE:=Lib.hid (pl_eq (wordS C 0 s) x)
 unfold sees
 generalize wordS C 0 s=y at *
 go_enter Tryz.func149,Tryz.ntmps149
 go_wp2_with fail
 refine HW.out.mono ?_
 rintro e w1 ⟨rfl,hb⟩
 have HB:=Lib.hid hb
 go_wp2_with fail
 go_ret
 exact ⟨by rw [<- HE.out];rfl,HB.out⟩
end
end Go.Proofs.YtfehpdliobapfaaGreatDoor
namespace Go.Proofs.YtfehpdliobapfaaGreatDoor
open Go Go.RowKit
def RQ {α : Type} (C:PC) (dd B b:Nat) (tv wv:Value) (v:RV) (w:World) (rep : α -> RV->World->Value->Prop) (r:PR α) (e:Ending) (w':World):Prop :=
 (∃ a t v' u,r = .ok a t/\e = .returned u/\rep a v' w' u/\Rd C dd B b tv wv t v' w'/\Fr B b v w v' w') \/
 (∃ c t,r = .bad c t/\e = .panicked [{ v:=.iface 102 (.agg #[.int .i64 (c:Nat),.int .i64 t]),recovered:=false }]/\Below B w w')
section
variable {α β : Type} {m n:PM α} {k : α -> PM β} {s t:PS}
theorem look_go {γ : Type} {f:PS -> γ} {k : γ -> PM β}:look f k s=k (f s) s:=rfl
theorem ret_go {a : α}:ret a s = .ok a s:=rfl
theorem thr_go {c:Nat} {x:Int}:(thr c x:PM α) s = .bad c x:=rfl
theorem if_pos_go {c:Prop} [Decidable c] (h:c):(if c then m else n) s=m s:=by rw [if_pos h]
theorem if_neg_go {c:Prop} [Decidable c] (h:¬ c):(if c then m else n) s=n s:=by rw [if_neg h]
end
section
variable {C:PC} {dd B b:Nat} {tv wv:Value} {s:PS} {v v1:RV} {w w1:World}
theorem rq_ok {α : Type} {rep : α -> RV->World->Value->Prop} {r:PR α} {a : α} {t:PS} {u:Value} (e:r = .ok a t) (hr:rep a v1 w1 u) (hd:Rd C dd B b tv wv t v1 w1) (hf:Fr B b v w v1 w1):RQ C dd B b tv wv v w rep r (.returned u) w1:=.inl ⟨a,t,v1,u,e,rfl,hr,hd,hf⟩
theorem rq_bad {α : Type} {rep : α -> RV->World->Value->Prop} {r:PR α} {c:Nat} {t:Int} (e:r = .bad c t) (hb:Below B w w1):RQ C dd B b tv wv v w rep r (.panicked [{ v:=.iface 102 (.agg #[.int .i64 (c:Nat),.int .i64 t]),recovered:=false }]) w1:=.inr ⟨c,t,e,rfl,hb⟩
theorem Rd.below (h:Rd C dd B b tv wv s v w) (hb:Below w.heap.size w w1):Below B w w1:=hb.mono h.hB
theorem read_eq:readP C s=if s.next+1<C.toks.length then if s.over=0 then .ok (C.word s.next) { s with next:=s.next+1 } else .bad s.over (fromS C s) else .out:=rfl
theorem read_any (h:Rd C dd B b tv wv s v w) (ho:readP C s ≠ .out):Calls Tryz.prog 184 #[.pointer (some ⟨b,0,none⟩)] w (RQ C dd B b tv wv v w repT (readP C s)):=by
 obtain ⟨c0,c1,c2,c3,c4,c5,c6,hl,hfz⟩:=h.cells
 have H:=Lib.hid h
 have hn1:s.next+1<C.toks.length:=by
  rw [read_eq] at ho
  by_cases h1:s.next+1<C.toks.length
  ·exact h1
  ·rw [if_neg h1] at ho;exact absurd rfl ho
 have hlong:=h.long
 have hov:=h.over
 have i3:IntKind.i64.wrap ((s.next:Int)+1)=(s.next:Int)+1:=IntWalk.i64_in _ ⟨by omega,by omega⟩
 by_cases h0:s.over=0
 ·have E:Hid (readP C s = .ok (C.word s.next) { s with next:=s.next+1 }):=Lib.hid (by rw [read_eq,if_pos hn1,if_pos h0])
  have S:=Lib.hid (h.set 2 (.int .i64 ((s.next:Int)+1)) { s with next:=s.next+1 } (by omega) rfl rfl hn1 h.deep h.over)
  obtain ⟨W2,hW2⟩:∃ W2,W2=w.setCell ⟨b,2,none⟩ (.int .i64 ((s.next:Int)+1)):=⟨_,rfl⟩
  rw [<- hW2] at S
  have HW2:=Lib.hid hW2
  obtain ⟨d0,d1,d2,-,-,-,-,dl,-⟩:=S.out.1.cells
  obtain ⟨g,cap,hwv,hg,t0⟩:=S.out.1.wd s.next h.next
  subst hwv
  rw [h0] at c4
  have d2':W2.cell? ⟨b,2,none⟩=some (.int .i64 ((s.next:Int)+1)):=d2
  clear h ho hov h0 c0 c1 c3 c5 c6 d0 d2 hW2
  generalize C.word s.next=x at *
  generalize hnn:C.toks.length=n at *
  generalize hii:s.next=i at *
  clear hnn hii
  have i0:(0:Int)<=(i:Int):=by omega
  have i1:(i:Int)<(n:Int):=by omega
  have i2:(i:Int)+1-1=(i:Int):=by omega
  have i4:IntKind.i64.wrap ((i:Int)+1-1)=(i:Int):=by rw [i2];exact IntWalk.i64_in _ ⟨by omega,by omega⟩
  go_enter Tryz.func184,Tryz.ntmps184
  go_wp2_with fail
  rw [<- HW2.out]
  go_quiet (fail)
  go_wp2_with fail
  go_ret
  refine rq_ok (v1:=v) E.out rfl ?_ ?_
  ·exact S.out.1.step (by repeat (first|exact Below.refl _ _|refine below_drewN ?_ _|apply Below.setCell _ (by first|omega|(simp<;>omega))|apply Below.alloc _ (by first|omega|(simp<;>omega))))
  ·exact S.out.2.below (by repeat (first|exact Below.refl _ _|refine below_drewN ?_ _|apply Below.setCell _ (by first|omega|(simp<;>omega))|apply Below.alloc _ (by first|omega|(simp<;>omega)))) S.out.1.hB
 ·have E:Hid (readP C s = .bad s.over (fromS C s)):=Lib.hid (by rw [read_eq,if_pos hn1,if_neg h0])
  have z0:((s.over:Int) != 0)=true:=by simp;omega
  have HF:=Lib.hid (fun (w2:World) (hb:Below w.heap.size w w2)=>from_any' (h.step hb))
  clear h ho hov h0 c0 c1 c2 c3 c5 c6
  generalize hff:fromS C s=f at *
  generalize hoo:s.over=o at *
  clear hff hoo
  go_enter Tryz.func184,Tryz.ntmps184
  go_wp2_with fail
  refine wp_region_held_drew (S:=(fun w'=>w'.cell? ⟨b,4,none⟩=some (.int .i64 (o:Nat))/\Below w.heap.size w w')) (by kernel_rfl) (⟨by simpa using c4,(Below.refl _ _).drew⟩) (fun hHeld=>?_)
  (refine wpAnyH_take (i:=0) (v:=?vv0) rfl (by kernel_rfl) (by kernel_rfl) (by kernel_rfl) (fun _ _ _ h=>h) (Or.inl ⟨by rfl,?hy0⟩) (by assumption) ?rest0;case hy0=>(intro w hSw;(try dsimp only at hSw);go_simp;try with_reducible rfl))
  (try simp only [List.getElem_toArray,List.getElem_cons_zero,List.getElem_cons_succ,Act.put,List.setIfInBounds_toArray,List.set_cons_zero,List.set_cons_succ])
  (refine wpAnyH_take (i:=1) (v:=?vv1) rfl (by kernel_rfl) (by kernel_rfl) (by kernel_rfl) (fun _ _ _ h=>h) (Or.inl ⟨by rfl,?hy1⟩) (by assumption) ?rest1;case hy1=>(intro w hSw;(try dsimp only at hSw);go_simp;try with_reducible rfl))
  (try simp only [List.getElem_toArray,List.getElem_cons_zero,List.getElem_cons_succ,Act.put,List.setIfInBounds_toArray,List.set_cons_zero,List.set_cons_succ])
  (refine wpAnyH_take (i:=2) (v:=?vv2) rfl (by kernel_rfl) (by kernel_rfl) (by kernel_rfl) (fun _ _ _ h=>h) (Or.inl ⟨by rfl,?hy2⟩) (by assumption) ?rest2;case hy2=>(intro w hSw;(try dsimp only at hSw);go_simp;try with_reducible rfl))
  (try simp only [List.getElem_toArray,List.getElem_cons_zero,List.getElem_cons_succ,Act.put,List.setIfInBounds_toArray,List.set_cons_zero,List.set_cons_succ])
  (refine wpAnyH_take (i:=3) (v:=?vv3) rfl (by kernel_rfl) (by kernel_rfl) (by kernel_rfl) (fun _ _ _ h=>h) (Or.inl ⟨by rfl,?hy3⟩) (by assumption) ?rest3;case hy3=>(intro w hSw;(try dsimp only at hSw);go_simp;try with_reducible rfl))
  (try simp only [List.getElem_toArray,List.getElem_cons_zero,List.getElem_cons_succ,Act.put,List.setIfInBounds_toArray,List.set_cons_zero,List.set_cons_succ])
  (refine wpAnyH_take (i:=4) (v:=?vv4) rfl (by kernel_rfl) (by kernel_rfl) (by kernel_rfl) (fun _ _ _ h=>h) (Or.inl ⟨by rfl,?hy4⟩) (by assumption) ?rest4;case hy4=>(intro w hSw;(try dsimp only at hSw);go_simp;try with_reducible rfl))
  (try simp only [List.getElem_toArray,List.getElem_cons_zero,List.getElem_cons_succ,Act.put,List.setIfInBounds_toArray,List.set_cons_zero,List.set_cons_succ])
  (refine wpAnyH_ready (rs:=[5]) (by kernel_rfl) (List.cons_ne_nil _ _) ?_;refine AllReadyH.cons rfl (fun K hK=>?_) AllReadyH.nil;go_simp;go_split_ands;(go_at_call 110;go_split_ands;refine (HF.out _ (by assumption)).mono ?_;rintro e w2 ⟨rfl,hb2⟩);(try go_wp2_with fail);refine hK.out _ _ ?hS5 (fun hHeld2=>?rest5);(case hS5=>(exact ⟨(keep hb2 (Nat.lt_of_lt_of_le hl (show Below w.heap.size w _ from by assumption).size) (by assumption)),after (by assumption) hb2⟩));clear hK K;(try simp only [List.getElem_toArray,List.getElem_cons_zero,List.getElem_cons_succ,Act.put,List.setIfInBounds_toArray,List.set_cons_zero,List.set_cons_succ]))
  (refine wpAnyH_ready (rs:=[6]) (by kernel_rfl) (List.cons_ne_nil _ _) ?_;refine AllReadyH.cons rfl (fun K hK=>?_) AllReadyH.nil;go_simp;go_split_ands;go_at_call 154;refine (fail_any _ _ _).mono ?_;rintro e w2 ⟨rfl,rfl⟩)
  go_wp2_with fail
  exact ⟨rfl,rq_bad E.out (H.out.below (by assumption))⟩
end
end Go.Proofs.YtfehpdliobapfaaGreatDoor
namespace Go.Proofs.YtfehpdliobapfaaGreatDoor
open Go Go.RowKit
section
variable {C:PC} {P:List Value} {dd B b:Nat} {tv wv:Value} {s t:PS} {v v1:RV} {w w1:World} {L:List NdR}
theorem BdR.set {v:Value} (h:BdR P w B b L v) (hP:P.length=6) (j:Nat) (hj:j<6) (x:Value):BdR (P.set j x) (w.setCell ⟨b,j,none⟩ x) B b L v:=by
 refine ⟨h.base,?_,?_,?_⟩
 ·have:=h.box.set j x
  rw [List.set_append_left _ _ (by omega)] at this
  exact this
 ·obtain ⟨q1,q2⟩:=h.own
  refine ⟨q1,?_⟩
  rcases q2 with q|⟨g,cap,cur,hv,hBg,hg2,q⟩
  ·exact .inl q
  ·refine .inr ⟨g,cap,cur,hv,hBg,?_,q⟩
   rw [heap_setCell_other _ _ g x (fun e=>?_)]
   ·exact hg2
   ·simp at e
    subst e
    have hb:=h.box
    unfold Bx at hb
    rw [hb] at hg2
    simp at hg2
 ·intro z hz
  have hni:=h.notInt
  have hk:KeptN w (w.setCell ⟨b,j,none⟩ x) b:=fun k c U fz hk hU hkb=>heap_setCell_other w _ k x (by simpa using hkb)
  exact ⟨hk.nums (h.new_ z hz).1 hni,hk.nums (h.new_ z hz).2 hni⟩
theorem Rd.turn (h:Rd C dd B b tv wv s v w) (hf:Fr B b v w v1 w1) (hbd:v1.L.map (·.1)=t.made/\BdR (rdC tv wv t) w1 B b v1.L v1.v) (hn:t.next<C.toks.length) (hm:t.made.length<=8192) (hd:t.deep<=dd) (ho:t.over<=1000000) (hgo:∀ x ∈ t.made,goodN x=true):Rd C dd B b tv wv t v1 w1:=by
 obtain ⟨gt,ct,e1,m1,t1⟩:=h.toks
 obtain ⟨gw,cw,e2,m2,t2⟩:=h.words
 exact ⟨hbd,Nat.le_trans h.hB hf.bel.size,⟨gt,ct,e1,(m1.step hf).1,fun i hi=>by have:=t1 i hi;rw [m1.cell hf,m1.cell hf,m1.cell hf];exact this⟩,⟨gw,cw,e2,(m2.step hf).1,fun i hi=>by rw [m2.cell hf];exact t2 i hi⟩,h.len,h.long,hn,hm,hd,ho,h.cap,hgo⟩
def Lst (b:Nat) (v:RV) (w:World) (u:Value) (l:List Int):Prop:=NumsV w u l/\∀ k,u.ownBlock=some k->Mine b v w k
theorem Lst.step {u:Value} {l:List Int} (h:Lst b v w u l) (g:Fr B b v w v1 w1):Lst b v1 w1 u l:=by
 obtain ⟨⟨src,cap,hu,hs⟩,hm⟩:=h
 refine ⟨⟨src,cap,hu,fun h0=>?_⟩,fun k hk=>((hm k hk).step g).1⟩
 obtain ⟨c,off,e,hc,hn⟩:=hs h0
 have M:=hm c (by rw [hu,e];rfl)
 exact ⟨c,off,e,(M.step g).1.lt,fun i hi=>by rw [M.cell g];exact hn i hi⟩
theorem lst_none (b:Nat) (v:RV) (w:World):Lst b v w (.slice none 0 0) []:=⟨⟨none,0,rfl,fun h=>absurd h (by simp)⟩,fun k hk=>by simp [Value.ownBlock] at hk⟩
theorem newnums_lt {w:World} {B:Nat} {u:Value} {l:List Int} (h:NewNums w B u l):∀ k,u.ownBlock=some k->B<=k/\k<w.heap.size:=by
 intro k hk
 rcases h with ⟨rfl,rfl⟩|⟨h0,g,rfl,hB,hg⟩
 ·simp [Value.ownBlock] at hk
 ·simp [Value.ownBlock] at hk
  subst hk;exact ⟨hB,lt_block hg⟩
theorem make_eq {x:Nd} {f:Nat}:makeP C x f s=if s.next=0\/goodN x=false then .out else if s.made.length=8192 then .bad 2 f else .ok s.made.length { s with made:=s.made ++ [{ x with sf:=f,st:=endS C s }] }:=rfl
end
section
variable {C:PC} {dd bB b:Nat} {tv wv:Value} {s:PS} {v v1:RV} {w w1:World}
theorem make_any (kind sf st:Int) (kids:List Int) (text:ByteArray) (B:Int) (N:ByteArray) (D:Int) (M:ByteArray) (num wf wt:Int) (ends:List Int) (kv ev:Value) (f:Nat)
    (h:Rd C dd bB b tv wv s v w) (ho:makeP C ⟨kind,sf,st,kids,text,B,N,D,M,num,wf,wt,ends⟩ f s ≠ .out) (hk:Lst b v w kv kids) (he:Lst b v w ev ends) :
    Calls Tryz.prog 115 #[.pointer (some ⟨b,0,none⟩),.agg #[.int .i64 kind,.int .i64 sf,.int .i64 st,kv,.string text,.int .i64 B,.string N,.int .i64 D,.string M,.int .i64 num,.int .i64 wf,.int .i64 wt,ev],.int .i64 (f:Nat)] w (RQ C dd bB b tv wv v w repN (makeP C ⟨kind,sf,st,kids,text,B,N,D,M,num,wf,wt,ends⟩ f s)):=by
  have hg:s.next≠0/\goodN ⟨kind,sf,st,kids,text,B,N,D,M,num,wf,wt,ends⟩=true:=by
    rw [make_eq] at ho
    by_cases h1:s.next=0\/goodN ⟨kind,sf,st,kids,text,B,N,D,M,num,wf,wt,ends⟩=false
    · rw [if_pos h1] at ho;exact absurd rfl ho
    · exact ⟨fun e=>h1 (.inl e),by cases hq:goodN ⟨kind,sf,st,kids,text,B,N,D,M,num,wf,wt,ends⟩<;>simp_all⟩
  obtain ⟨hg0,hg1⟩:=hg
  have hgn:¬ (s.next=0\/goodN ⟨kind,sf,st,kids,text,B,N,D,M,num,wf,wt,ends⟩=false):=by rw [hg1];simp [hg0]
  have hgood:kids.length<=100000/\text.size<=65536/\N.size<=65536/\M.size<=5/\ends.length<=5:=by unfold goodN at hg1;exact of_decide_eq_true hg1
  obtain ⟨c0,c1,c2,c3,c4,c5,c6,hl,hfz⟩:=h.cells
  have H:=Lib.hid h
  have hnodes:=h.nodes
  by_cases h8:s.made.length=8192
  · have E:Hid (makeP C ⟨kind,sf,st,kids,text,B,N,D,M,num,wf,wt,ends⟩ f s = .bad 2 f):=Lib.hid (by rw [make_eq,if_neg hgn,if_pos h8])
    rw [h8] at c5
    have hb:Below w.heap.size w (w.alloc (.cells #[.int .i64 kind,.int .i64 sf,.int .i64 st,kv,.string text,.int .i64 B,.string N,.int .i64 D,.string M,.int .i64 num,.int .i64 wf,.int .i64 wt,ev] 61)):=(Below.refl _ _).alloc (Nat.le_refl _) _
    have HB:=Lib.hid (H.out.below hb)
    clear hb h ho hk he hg0 hg1 hgn hgood c0 c1 c2 c3 c4 c6 h8
    go_enter Tryz.func115,Tryz.ntmps115
    go_wp2_with fail
    refine (fail_any 2 _ _).mono ?_
    rintro e w2 ⟨rfl,rfl⟩
    go_wp2_with fail
    exact ⟨rfl,rq_bad E.out HB.out⟩
  · have E:Hid (makeP C ⟨kind,sf,st,kids,text,B,N,D,M,num,wf,wt,ends⟩ f s = .ok s.made.length { s with made:=s.made ++ [⟨kind,f,endS C s,kids,text,B,N,D,M,num,wf,wt,ends⟩] }):=Lib.hid (by rw [make_eq,if_neg hgn,if_neg h8])
    obtain ⟨hLm,hbd⟩:=h.bd
    have hLl:v.L.length=s.made.length:=by rw [<- hLm,List.length_map]
    have BS:=hbd.set rfl 5 (by omega) (.int .i64 ((s.made.length:Int)+1))
    obtain ⟨wS,hwS⟩:∃ wS,wS=w.setCell ⟨b,5,none⟩ (.int .i64 ((s.made.length:Int)+1)):=⟨_,rfl⟩
    obtain ⟨W2,hW2⟩:∃ W2,W2=(w.setCell ⟨b,5,none⟩ (.int .i64 ((s.made.length:Int)+1))).alloc (.cells #[.int .i64 kind,.int .i64 sf,.int .i64 st,kv,.string text,.int .i64 B,.string N,.int .i64 D,.string M,.int .i64 num,.int .i64 wf,.int .i64 wt,ev] 61):=⟨_,rfl⟩
    have hSz:wS.heap.size=w.heap.size:=by rw [hwS];simp
    have hkS:∀ k,k<w.heap.size->k≠b->wS.heap[k]? = w.heap[k]?:=fun k _ hkb=>by rw [hwS];exact heap_setCell_other w _ k _ (by simpa using hkb)
    have hbS:Below bB w wS:=by rw [hwS];exact (Below.refl _ _).setCell (p:=⟨b,5,none⟩) hbd.base _
    rw [<- hwS] at BS
    have hsw:Below w.heap.size wS W2:=by rw [hW2,<- hwS,<- hSz];exact (Below.refl _ _).alloc (Nat.le_refl _) _
    have X2:BoxN W2 w.heap.size [.int .i64 kind,.int .i64 sf,.int .i64 st,kv,.string text,.int .i64 B,.string N,.int .i64 D,.string M,.int .i64 num,.int .i64 wf,.int .i64 wt,ev]:=by rw [hW2,<- hwS,<- hSz];exact BoxN.new wS #[.int .i64 kind,.int .i64 sf,.int .i64 st,kv,.string text,.int .i64 B,.string N,.int .i64 D,.string M,.int .i64 num,.int .i64 wf,.int .i64 wt,ev]
    have B2:=BS.step (w':=W2) (by rw [hSz];exact hsw)
    obtain ⟨g,n,cap,i,f0,f2,-,fg,ft,fn,flong,fne,frow⟩:=end_facts h (by omega)
    have fg2:g<W2.heap.size:=by have:=hsw.size;omega
    have ft2:W2.cell? ⟨g,i*3+2,none⟩=some (.int .i64 (endS C s:Nat)):=by
      rw [World.cell?_of_block (show W2.heap[g]? = w.heap[g]? from by rw [hsw.block g (by omega),hkS g fg fne])];exact ft
    have htv:tv = .slice (some ⟨g,0,none⟩) n cap:=by rw [c0] at f0;exact Option.some.inj f0
    have hni:((s.next:Nat):Int)=(i:Int)+1:=by rw [c2] at f2;simpa using f2
    have g0:W2.cell? ⟨b,0,none⟩=some (.slice (some ⟨g,0,none⟩) n cap):=by rw [<- htv];exact B2.box.cell 0
    have g2:W2.cell? ⟨b,2,none⟩=some (.int .i64 ((i:Int)+1)):=by rw [<- hni];exact B2.box.cell 2
    have gl:=B2.box.lt
    have HSI:=Lib.hid (since_raw (f:Int) g0 g2 gl fg2 ft2 fn flong)
    have i3:IntKind.i64.wrap ((s.made.length:Int)+1)=(s.made.length:Int)+1:=IntWalk.i64_in _ ⟨by omega,by omega⟩
    have h8':((s.made.length:Int) == 8192)=false:=by simp;omega
    have HW2:=Lib.hid hW2
    have BSH:=Lib.hid BS
    have BD2:=Lib.hid B2
    have X2h:=Lib.hid X2
    have HSW:=Lib.hid hsw
    have HBS:=Lib.hid hbS
    have HKS:=Lib.hid hkS
    have HSZ:=Lib.hid hSz
    have HLM:=Lib.hid hLm
    have HLL:=Lib.hid hLl
    have HKV:=Lib.hid hk
    have HEV:=Lib.hid he
    have HGD:=Lib.hid hgood
    have HG1:=Lib.hid hg1
    have HNI:=Lib.hid hni
    clear h ho hk he hg0 hg1 hgn hgood c0 c1 c2 c3 c4 c6 h8 hLm hLl hbd BS hsw hwS hW2 hSz hkS hbS X2 B2 f0 f2 fg ft fn flong fne frow fg2 ft2 htv hni g0 g2 gl
    have hmk:s.made.length<=8192:=hnodes
    generalize hff:s.made.length=ml at *
    have HFF:=Lib.hid hff
    clear hff
    generalize hqq:endS C s=q2 at *
    clear hqq
    obtain ⟨kb,hkb⟩:∃ kb,kb=w.heap.size:=⟨_,rfl⟩
    have HKB:=Lib.hid hkb
    clear hkb
    go_enter Tryz.func115,Tryz.ntmps115
    go_wp2_with fail
    rw [<- HW2.out]
    refine HSI.out.mono ?_
    rintro e w3 ⟨rfl,hb3⟩
    have BD3:=Lib.hid (BD2.out.step hb3)
    have X3:=Lib.hid (X2h.out.keep hb3)
    have HS3:Hid (Below w.heap.size wS w3):=Lib.hid (HSW.out.trans (hb3.mono (by have:=HSW.out.size;have:=HSZ.out;omega)))
    obtain ⟨⟨a0,a1,a2,a3,a4,a5,a6,a7,a8,a9,a10,a11,a12⟩,al,af⟩:=X3.out.all
    have X4:Hid (BoxN ((w3.setCell ⟨w.heap.size,1,none⟩ (.int .i64 (f:Nat))).setCell ⟨w.heap.size,2,none⟩ (.int .i64 (q2:Nat))) w.heap.size [.int .i64 kind,.int .i64 (f:Nat),.int .i64 (q2:Nat),kv,.string text,.int .i64 B,.string N,.int .i64 D,.string M,.int .i64 num,.int .i64 wf,.int .i64 wt,ev]):=Lib.hid ((X3.out.set 1 (.int .i64 (f:Nat))).set 2 (.int .i64 (q2:Nat)))
    obtain ⟨W4,hW4⟩:∃ W4,W4=(w3.setCell ⟨w.heap.size,1,none⟩ (.int .i64 (f:Nat))).setCell ⟨w.heap.size,2,none⟩ (.int .i64 (q2:Nat)):=⟨_,rfl⟩
    have HS4:Hid (Below w.heap.size wS W4):=Lib.hid (by rw [hW4];exact (HS3.out.setCell (p:=⟨w.heap.size,1,none⟩) (Nat.le_refl _) _).setCell (p:=⟨w.heap.size,2,none⟩) (Nat.le_refl _) _)
    rw [<- hW4] at X4
    have HW4:=Lib.hid hW4
    have BD4:Hid (BdR ((rdC tv wv s).set 5 (.int .i64 ((ml:Int)+1))) W4 bB b v.L v.v):=Lib.hid (BSH.out.step (by rw [HSZ.out];exact HS4.out))
    have HB4:Hid (bB<=W4.heap.size):=Lib.hid (by have:=H.out.hB;have:=HS4.out.size;have:=HSZ.out;omega)
    have HBW:Hid (w.heap.size<=W4.heap.size):=Lib.hid (by have:=HS4.out.size;have:=HSZ.out;omega)
    have HF4:Hid (Fr bB b v w v W4):=Lib.hid ⟨HBS.out.trans (HS4.out.mono H.out.hB),fun k h1 h2 _=>(HS4.out.block k h1).trans (HKS.out k h1 h2),fun _ hk=>.inl hk,fun _ hk=>.inl hk⟩
    have HKV4:Hid (NumsV W4 kv kids):=Lib.hid (HKV.out.step HF4.out).1
    have HEV4:Hid (NumsV W4 ev ends):=Lib.hid (HEV.out.step HF4.out).1
    have HADD:=Lib.hid (fun (w':World) (hb:Below W4.heap.size W4 w')=>addR_any ((rdC tv wv s).set 5 (.int .i64 ((ml:Int)+1))) rfl bB b v.L v.v kind (f:Nat) (q2:Nat) kids text B N D M num wf wt ends kv ev w' (BD4.out.step hb) (by have:=HB4.out;have:=hb.size;omega) (by have:=HLL.out;omega) (HKV4.out.step hb) (HEV4.out.step hb) (by have:=HGD.out;omega) (by have:=HGD.out;omega) (by have:=HGD.out;omega) (by have:=HGD.out;omega) (by have:=HGD.out;omega))
    clear hb3 hW4
    go_wp2_with fail
    rw [<- HW4.out]
    clear a0 a1 a2 a3 a4 a5 a6 a7 a8 a9 a10 a11 a12 al af
    obtain ⟨⟨a0,a1,a2,a3,a4,a5,a6,a7,a8,a9,a10,a11,a12⟩,al,af⟩:=X4.out.all
    go_region_with (go_at_call 114;refine (HADD.out _ (Below.refl _ _).drew).mono ?_;rintro e w5 ⟨rfl,hb5,⟨y,v5,hy,hbd5,hown5,hnk5,hne5⟩,-,hk5⟩)
    all_goals go_wp2_with fail
    all_goals go_ret
    all_goals have hfr:Fr bB b v w ⟨v5,v.L ++ [y]⟩ w5:=HF4.out.trans ⟨(Below.refl bB W4).drew.trans hb5,fun k h1 h2 h3=>hk5 k h1 h2 (fun e=>h3 e.symm),hown5,fun k hk=>by
      obtain ⟨z,hz,e⟩:=hk
      rcases List.mem_append.1 hz with hz|hz
      · exact .inl ⟨z,hz,e⟩
      · rw [List.mem_singleton] at hz
        subst hz
        rcases e with e|e
        · exact .inr (newnums_lt hnk5 k e).1
        · exact .inr (newnums_lt hne5 k e).1⟩
    all_goals refine rq_ok (v1:=⟨v5,v.L ++ [y]⟩) E.out (by unfold repN;rw [<- HLL.out];rfl) ?_ hfr
    all_goals refine H.out.turn hfr ⟨?_,?_⟩ H.out.next ?_ H.out.deep H.out.over (fun x hx=>(List.mem_append.1 hx).elim (H.out.good x) (fun e=>by rw [List.mem_singleton] at e;subst e;exact HG1.out))
    all_goals first
      | (show (v.L ++ [y]).map (·.1)=_;rw [List.map_append,HLM.out];simp [hy])
      | (have e:(rdC tv wv s).set 5 (.int .i64 ((ml:Int)+1))=rdC tv wv { s with made:=s.made ++ [⟨kind,(f:Nat),(q2:Nat),kids,text,B,N,D,M,num,wf,wt,ends⟩] }:=by
          unfold rdC
          simp only [List.set_cons_succ,List.set_cons_zero,List.length_append,List.length_singleton,HFF.out]
          rfl
         rw [<- e];exact hbd5)
      | (simp only [List.length_append,List.length_singleton,HFF.out];have:=h8';simp at this;omega)
end
end Go.Proofs.YtfehpdliobapfaaGreatDoor
namespace Go.Proofs.YtfehpdliobapfaaGreatDoor
open Go Go.RowKit
section
variable {C:PC} {dd bB b:Nat} {tv wv:Value} {s:PS} {v v1:RV} {w w1:World}
structure CK (C:PC):Prop where
 name:∀ x,C.name x=L.nameS x
 int:∀ x,x.size<=65536->C.int x=((L.intR x).1,(L.intR x).2.toNat)/\0<=(L.intR x).2
 size:∀ i,(C.word i).size<=65536
theorem deep_eq:enterP s = .ok () { s with deep:=s.deep+1,over:=if s.deep=60 then 6 else s.over }:=rfl
theorem leave_eq:leaveP s=if s.deep=0 then .out else .ok () { s with deep:=s.deep-1 }:=rfl
theorem more_eq {n:Nat}:moreP n s = .ok () { s with over:=if n=64 then 2 else s.over }:=rfl
theorem more_any (n:Nat) (h:Rd C dd bB b tv wv s v w):Calls Tryz.prog 112 #[.pointer (some ⟨b,0,none⟩),.int .i64 (n:Nat)] w (RQ C dd bB b tv wv v w repU (moreP n s)):=by
 obtain ⟨c0,c1,c2,c3,c4,c5,c6,hl,hfz⟩:=h.cells
 have H:=Lib.hid h
 by_cases h0:n=64
 ·have S:=Lib.hid (h.set 4 (.int .i64 2) { s with over:=2 } (by omega) rfl rfl h.next h.deep (by show 2<=1000000;omega))
  have E:Hid (moreP n s = .ok () { s with over:=2 }):=Lib.hid (by rw [more_eq,if_pos h0])
  subst h0
  clear h
  go_enter Tryz.func112,Tryz.ntmps112
  go_wp2_with fail
  first|go_end0|refine bodyPost_ret (results_none rfl _ _ _) rfl ?_
  all_goals exact rq_ok E.out rfl S.out.1 S.out.2
 ·have E:Hid (moreP n s = .ok () s):=Lib.hid (by rw [more_eq,if_neg h0])
  have z0:((n:Int) == 64)=false:=by simp;omega
  have F0:=Lib.hid (Fr.refl bB b v w)
  clear h h0
  go_enter Tryz.func112,Tryz.ntmps112
  go_wp2_with fail
  first|go_end0|refine bodyPost_ret (results_none rfl _ _ _) rfl ?_
  all_goals exact rq_ok E.out rfl H.out F0.out
theorem leave_any (hc:dd<=1000000) (h:Rd C (dd+1) bB b tv wv s v w) (ho:leaveP s ≠ .out):Calls Tryz.prog 220 #[.pointer (some ⟨b,0,none⟩)] w (RQ C dd bB b tv wv v w repU (leaveP s)):=by
 obtain ⟨c0,c1,c2,c3,c4,c5,c6,hl,hfz⟩:=h.cells
 have h0:s.deep≠0:=fun e=>ho (by rw [leave_eq,if_pos e])
 have hd:=h.deep
 have hdc:=h.cap
 have E:Hid (leaveP s = .ok () { s with deep:=s.deep-1 }):=Lib.hid (by rw [leave_eq,if_neg h0])
 have e1:((s.deep-1:Nat):Int)=(s.deep:Int)-1:=by omega
 have S:=h.set 3 (.int .i64 ((s.deep:Int)-1)) { s with deep:=s.deep-1 } (by omega) (by rw [<- e1];rfl) rfl h.next (by show s.deep-1<=_;omega) h.over
 have HS:Hid (Rd C dd bB b tv wv { s with deep:=s.deep-1 } v (w.setCell ⟨b,3,none⟩ (.int .i64 ((s.deep:Int)-1)))/\Fr bB b v w v (w.setCell ⟨b,3,none⟩ (.int .i64 ((s.deep:Int)-1)))):=Lib.hid ⟨S.1.at_ (by show s.deep-1<=dd;omega) hc,S.2⟩
 have i3:IntKind.i64.wrap ((s.deep:Int)-1)=(s.deep:Int)-1:=IntWalk.i64_in _ ⟨by omega,by omega⟩
 clear h ho S e1
 go_enter Tryz.func220,Tryz.ntmps220
 go_wp2_with fail
 first|go_end0|refine bodyPost_ret (results_none rfl _ _ _) rfl ?_
 all_goals exact rq_ok E.out rfl HS.out.1 HS.out.2
theorem enter_any (hd9:dd+1<=1000000) (h:Rd C dd bB b tv wv s v w):Calls Tryz.prog 218 #[.pointer (some ⟨b,0,none⟩)] w (RQ C (dd+1) bB b tv wv v w repU (enterP s)):=by
 obtain ⟨c0,c1,c2,c3,c4,c5,c6,hl,hfz⟩:=h.cells
 have hd:=h.deep
 have i3:IntKind.i64.wrap ((s.deep:Int)+1)=(s.deep:Int)+1:=IntWalk.i64_in _ ⟨by omega,by omega⟩
 have hu:=h.at_ (d2:=dd+1) (by omega) hd9
 by_cases h0:s.deep=60
 ·have E:Hid (enterP s = .ok () { s with deep:=s.deep+1,over:=6 }):=Lib.hid (by rw [deep_eq,if_pos h0])
  have S1:=hu.set 4 (.int .i64 6) { s with over:=6 } (by omega) rfl rfl h.next (by show s.deep<=_;omega) (by show 6<=1000000;omega)
  have S2:=S1.1.set 3 (.int .i64 ((s.deep:Int)+1)) { s with deep:=s.deep+1,over:=6 } (by omega) rfl rfl h.next (by show s.deep+1<=_;omega) (by show 6<=1000000;omega)
  have HS:Hid (_/\_):=Lib.hid ⟨S2.1,S1.2.trans S2.2⟩
  have z0:((s.deep:Int) == 60)=true:=by simp;omega
  clear h h0 S1 S2 hu
  generalize hdd:s.deep=d at *
  clear hdd
  go_enter Tryz.func218,Tryz.ntmps218
  go_wp2_with fail
  first|go_end0|refine bodyPost_ret (results_none rfl _ _ _) rfl ?_
  all_goals exact rq_ok E.out rfl HS.out.1 HS.out.2
 ·have E:Hid (enterP s = .ok () { s with deep:=s.deep+1 }):=Lib.hid (by rw [deep_eq,if_neg h0])
  have S2:=hu.set 3 (.int .i64 ((s.deep:Int)+1)) { s with deep:=s.deep+1 } (by omega) rfl rfl h.next (by show s.deep+1<=_;omega) h.over
  have HS:=Lib.hid S2
  have z0:((s.deep:Int) == 60)=false:=by simp;omega
  clear h h0 S2 hu
  generalize hdd:s.deep=d at *
  clear hdd
  go_enter Tryz.func218,Tryz.ntmps218
  go_wp2_with fail
  first|go_end0|refine bodyPost_ret (results_none rfl _ _ _) rfl ?_
  all_goals exact rq_ok E.out rfl HS.out.1 HS.out.2
theorem take_any (h:Rd C dd bB b tv wv s v w) (x:ByteArray) (ho:takeP C x s ≠ .out):Calls Tryz.prog 151 #[.pointer (some ⟨b,0,none⟩),.string x] w (RQ C dd bB b tv wv v w repB (takeP C x s)):=by
 have HR0:=Lib.hid h
 have R0:=Lib.hid h
 have F0:=Lib.hid (Fr.refl bB b v w)
 have HO:=Lib.hid ho
 have E0:=Lib.hid (congrFun (takeP.eq_1 C x) s)
 clear h ho
 go_enter Tryz.func151,Tryz.ntmps151
 go_wp2_with fail
 refine (sees_any R0.out x).mono ?_
 rintro e w1 ⟨rfl,hb⟩
 have R1:=Lib.hid (R0.out.step hb)
 have F1:=Lib.hid (F0.out.below hb R0.out.hB)
 clear hb R0 F0
 have E2:=Lib.hid (E0.out.trans look_go)
 clear E0
 cases hc3:sees C x s
 ·have E4:=Lib.hid (E2.out.trans (if_neg_go (fun e=>by rw [hc3] at e;cases e)))
  clear E2
  go_wp2_with fail
  go_ret
  exact rq_ok (E4.out.trans ret_go) rfl R1.out F1.out
 ·have E5:=Lib.hid (E2.out.trans (if_pos_go hc3))
  clear E2
  go_wp2_with fail
  refine (read_any R1.out (fun e=>HO.out (E5.out.trans (bnd_out e)))).mono ?_
  rintro e w6 (⟨x6,t6,v6,u6,hm,rfl,hrep,rd,fr⟩|⟨c,x,hm,rfl,hb⟩)
  rotate_left
  ·go_wp2_with fail
   exact ⟨rfl,rq_bad (E5.out.trans (bnd_bad hm)) (F1.out.bel.trans hb)⟩
  obtain rfl:u6 = .string x6:=hrep
  have E6:=Lib.hid (E5.out.trans (bnd_ok hm))
  have R6:=Lib.hid rd
  have F6:=Lib.hid (F1.out.trans fr)
  clear hm rd fr E5 R1 F1
  go_wp2_with fail
  go_ret
  exact rq_ok (E6.out.trans ret_go) rfl R6.out F6.out
theorem want_any (h:Rd C dd bB b tv wv s v w) (x:ByteArray) (ho:wantP C x s ≠ .out):Calls Tryz.prog 147 #[.pointer (some ⟨b,0,none⟩),.string x] w (RQ C dd bB b tv wv v w repU (wantP C x s)):=by
 have HR0:=Lib.hid h
 have R0:=Lib.hid h
 have F0:=Lib.hid (Fr.refl bB b v w)
 have HO:=Lib.hid ho
 have E0:=Lib.hid (congrFun (wantP.eq_1 C x) s)
 clear h ho
 go_enter Tryz.func147,Tryz.ntmps147
 go_wp2_with fail
 refine (take_any R0.out x (fun e=>HO.out (E0.out.trans (bnd_out e)))).mono ?_
 rintro e w7 (⟨x7,t7,v7,u7,hm,rfl,hrep,rd,fr⟩|⟨c,x,hm,rfl,hb⟩)
 rotate_left
 ·go_wp2_with fail
  exact ⟨rfl,rq_bad (E0.out.trans (bnd_bad hm)) (F0.out.bel.trans hb)⟩
 obtain rfl:u7 = .bool x7:=hrep
 have E7:=Lib.hid (E0.out.trans (bnd_ok hm))
 have R7:=Lib.hid rd
 have F7:=Lib.hid (F0.out.trans fr)
 clear hm rd fr E0 R0 F0
 cases x7
 ·have E8:=Lib.hid (E7.out.trans (if_neg_go (by decide)))
  clear E7
  go_wp2_with fail
  refine (from_any' R7.out).mono ?_
  rintro e w9 ⟨rfl,hb⟩
  have R9:=Lib.hid (R7.out.step hb)
  have F9:=Lib.hid (F7.out.below hb R7.out.hB)
  clear hb R7 F7
  have E10:=Lib.hid (E8.out.trans look_go)
  clear E8
  go_wp2_with fail
  refine (fail_any 80 _ _).mono ?_
  rintro e w11 ⟨rfl,rfl⟩
  go_wp2_with fail
  exact ⟨rfl,rq_bad (E10.out.trans thr_go) F9.out.bel⟩
 ·have E12:=Lib.hid (E7.out.trans (if_pos_go rfl))
  clear E7
  go_wp2_with fail
  first|go_end0|refine bodyPost_ret (results_none rfl _ _ _) rfl ?_
  exact rq_ok (E12.out.trans ret_go) rfl R7.out F7.out
theorem name_any (h:Rd C dd bB b tv wv s v w) (hK:CK C) (ho:nameP C s ≠ .out):Calls Tryz.prog 148 #[.pointer (some ⟨b,0,none⟩)] w (RQ C dd bB b tv wv v w repT (nameP C s)):=by
 have HR0:=Lib.hid h
 have R0:=Lib.hid h
 have F0:=Lib.hid (Fr.refl bB b v w)
 have HO:=Lib.hid ho
 have E0:=Lib.hid (congrFun (nameP.eq_1 C) s)
 clear h ho
 go_enter Tryz.func148,Tryz.ntmps148
 go_wp2_with fail
 refine (word_any R0.out 0 (by omega)).mono ?_
 rintro e w13 ⟨rfl,hb⟩
 have R13:=Lib.hid (R0.out.step hb)
 have F13:=Lib.hid (F0.out.below hb R0.out.hB)
 clear hb R0 F0
 have E14:=Lib.hid (E0.out.trans look_go)
 clear E0
 go_wp2_with fail
 refine (L.name_any _ _ (by have:=hK.size (s.next+0);unfold wordS;unfold maxLen;omega)).mono ?_
 rintro e w15 ⟨rfl,rfl⟩
 rw [<- hK.name]
 cases hc16:C.name (wordS C 0 s)
 ·have E17:=Lib.hid (E14.out.trans (if_neg_go (fun e=>by rw [hc16] at e;cases e)))
  clear E14
  go_wp2_with fail
  refine (from_any' R13.out).mono ?_
  rintro e w18 ⟨rfl,hb⟩
  have R18:=Lib.hid (R13.out.step hb)
  have F18:=Lib.hid (F13.out.below hb R13.out.hB)
  clear hb R13 F13
  have E19:=Lib.hid (E17.out.trans look_go)
  clear E17
  go_wp2_with fail
  refine (fail_any 80 _ _).mono ?_
  rintro e w20 ⟨rfl,rfl⟩
  go_wp2_with fail
  exact ⟨rfl,rq_bad (E19.out.trans thr_go) F18.out.bel⟩
 ·have E21:=Lib.hid (E14.out.trans (if_pos_go hc16))
  clear E14
  go_wp2_with fail
  refine (read_any R13.out (fun e=>HO.out (E21.out.trans e))).mono ?_
  rintro e w22 (⟨x22,t22,v22,u22,hm,rfl,hrep,rd,fr⟩|⟨c,x,hm,rfl,hb⟩)
  rotate_left
  ·go_wp2_with fail
   exact ⟨rfl,rq_bad (E21.out.trans hm) (F13.out.bel.trans hb)⟩
  obtain rfl:u22 = .string x22:=hrep
  have E22:=Lib.hid (E21.out.trans hm)
  have R22:=Lib.hid rd
  have F22:=Lib.hid (F13.out.trans fr)
  clear hm rd fr E21 R13 F13
  go_wp2_with fail
  go_ret
  exact rq_ok E22.out rfl R22.out F22.out
end
end Go.Proofs.YtfehpdliobapfaaGreatDoor
namespace Go.Proofs.YtfehpdliobapfaaGreatDoor
open Go Go.RowKit
section
variable {C:PC} {dd bB b:Nat} {tv wv:Value} {s:PS} {v v1:RV} {w w1:World}
theorem Rd.own_lt (h:Rd C dd bB b tv wv s v w):∀ k,v.v.ownBlock=some k->k<w.heap.size:=fun k hk=>by
 obtain ⟨-,hbd⟩:=h.bd
 rcases hbd.own.2 with ⟨e,_⟩|⟨g,cap,cur,e,_,hg,_⟩
 ·rw [e] at hk;simp [Value.ownBlock] at hk
 ·rw [e] at hk
  simp [Value.ownBlock] at hk
  subst hk;exact lt_block hg
theorem Rd.cl_lt (h:Rd C dd bB b tv wv s v w):∀ k,v.cl k->k<w.heap.size:=fun k hk=>by
 obtain ⟨y,hy,e⟩:=hk
 have:=h.bd.2.new_ y hy
 rcases e with e|e
 ·exact (newnums_lt this.1 k e).2
 ·exact (newnums_lt this.2 k e).2
theorem lst_new (h:Rd C dd bB b tv wv s v w) (l:List Int):Lst b v (w.alloc (.cells (l.map fun x=>Value.int .i64 x).toArray 3)) (.slice (some ⟨w.heap.size,0,none⟩) l.length l.length) l:=by
 have X:=Bx.new 3 w (l.map fun x=>Value.int .i64 x).toArray
 refine ⟨⟨_,_,rfl,fun _=>⟨w.heap.size,0,rfl,X.lt,fun i hi=>?_⟩⟩,fun k hk=>?_⟩
 ·rw [Nat.zero_add,X.cell];simp [hi]
 ·simp [Value.ownBlock] at hk
  subst hk
  exact ⟨X.lt,fun e=>by have:=h.lt;omega,fun e=>by have:=h.own_lt _ e;omega,fun e=>by have:=h.cl_lt _ e;omega⟩
theorem lst_one (h:Rd C dd bB b tv wv s v w) (x:Int):Lst b v (w.alloc (.cells #[.int .i64 x] 3)) (.slice (some ⟨w.heap.size,0,none⟩) 1 1) [x]:=lst_new h [x]
theorem lst_two (h:Rd C dd bB b tv wv s v w) (x y:Int):Lst b v (w.alloc (.cells #[.int .i64 x,.int .i64 y] 3)) (.slice (some ⟨w.heap.size,0,none⟩) 2 2) [x,y]:=lst_new h [x,y]
theorem tl_lit (x:ByteArray) (l:List UInt8):(x.toList == l)=decide (x=⟨l.toArray⟩):=by
 rw [Bool.eq_iff_iff,beq_iff_eq,decide_eq_true_iff,ByteArray.toList_eq]
 constructor
 ·intro h;apply ByteArray.ext;rw [<- h]
 ·intro h;rw [h]
theorem str_yes {x:ByteArray} {l:List UInt8} (h:x=⟨l.toArray⟩):(x.toList == l)=true:=by rw [tl_lit];exact decide_eq_true h
theorem str_no {x:ByteArray} {l:List UInt8} (h:¬ x=⟨l.toArray⟩):(x.toList == l)=false:=by rw [tl_lit];exact decide_eq_false h
theorem str_nyes {x:ByteArray} {l:List UInt8} (h:x=⟨l.toArray⟩):(x.toList != l)=false:=by unfold bne;rw [str_yes h];rfl
theorem str_nno {x:ByteArray} {l:List UInt8} (h:¬ x=⟨l.toArray⟩):(x.toList != l)=true:=by unfold bne;rw [str_no h];rfl
def Does (C:PC) (dd bB b:Nat) (tv wv:Value) (f:FuncId) (m:PM Nat):Prop:=∀ (s:PS) (v:RV) (w:World),Rd C dd bB b tv wv s v w->m s ≠ .out->Calls Tryz.prog f #[.pointer (some ⟨b,0,none⟩)] w (RQ C dd bB b tv wv v w repN (m s))
def DoesJ (C:PC) (dd bB b:Nat) (tv wv:Value) (c:Int) (m:PM Nat):Prop:=∀ (s:PS) (v:RV) (w:World),Rd C dd bB b tv wv s v w->m s ≠ .out->Calls Tryz.prog 254 #[.pointer (some ⟨b,0,none⟩),.int .i64 c] w (RQ C dd bB b tv wv v w repN (m s))
theorem within_any (h:Rd C dd bB b tv wv s v w) {value:PM Nat} (HV:Does C dd bB b tv wv 249 value) (ho:withinP C value s ≠ .out):Calls Tryz.prog 248 #[.pointer (some ⟨b,0,none⟩)] w (RQ C dd bB b tv wv v w repN (withinP C value s)):=by
 have HR0:=Lib.hid h
 have R0:=Lib.hid h
 have F0:=Lib.hid (Fr.refl bB b v w)
 have HO:=Lib.hid ho
 have E0:=Lib.hid (congrFun (withinP.eq_1 C value) s)
 clear h ho
 go_enter Tryz.func248,Tryz.ntmps248
 go_wp2_with fail
 refine (want_any R0.out _ (fun e=>HO.out (E0.out.trans (bnd_out e)))).mono ?_
 rintro e w1 (⟨x1,t1,v1,u1,hm,rfl,hrep,rd,fr⟩|⟨c,x,hm,rfl,hb⟩)
 rotate_left
 ·go_wp2_with fail
  exact ⟨rfl,rq_bad (E0.out.trans (bnd_bad hm)) (F0.out.bel.trans hb)⟩
 obtain rfl:u1 = .tuple #[]:=hrep
 have E1:=Lib.hid (E0.out.trans (bnd_ok hm))
 have R1:=Lib.hid rd
 have F1:=Lib.hid (F0.out.trans fr)
 clear hm rd fr E0 R0 F0
 go_wp2_with fail
 refine (HV _ _ _ R1.out (fun e=>HO.out (E1.out.trans (bnd_out e)))).mono ?_
 rintro e w2 (⟨x2,t2,v2,u2,hm,rfl,hrep,rd,fr⟩|⟨c,x,hm,rfl,hb⟩)
 rotate_left
 ·go_wp2_with fail
  exact ⟨rfl,rq_bad (E1.out.trans (bnd_bad hm)) (F1.out.bel.trans hb)⟩
 obtain rfl:u2 = .int .i64 (x2:Nat):=hrep
 have E2:=Lib.hid (E1.out.trans (bnd_ok hm))
 have R2:=Lib.hid rd
 have F2:=Lib.hid (F1.out.trans fr)
 clear hm rd fr E1 R1 F1
 go_wp2_with fail
 refine (want_any R2.out _ (fun e=>HO.out (E2.out.trans (bnd_out e)))).mono ?_
 rintro e w3 (⟨x3,t3,v3,u3,hm,rfl,hrep,rd,fr⟩|⟨c,x,hm,rfl,hb⟩)
 rotate_left
 ·go_wp2_with fail
  exact ⟨rfl,rq_bad (E2.out.trans (bnd_bad hm)) (F2.out.bel.trans hb)⟩
 obtain rfl:u3 = .tuple #[]:=hrep
 have E3:=Lib.hid (E2.out.trans (bnd_ok hm))
 have R3:=Lib.hid rd
 have F3:=Lib.hid (F2.out.trans fr)
 clear hm rd fr E2 R2 F2
 go_wp2_with fail
 go_ret
 exact rq_ok (E3.out.trans ret_go) rfl R3.out F3.out
theorem join_any (h:Rd C dd bB b tv wv s v w) {part:PM Nat} (c:Int) (hc:0<=c/\c<=6) (HJ:DoesJ C dd bB b tv wv (c+1) part) (first f:Nat) (ho:joinP C part first f s ≠ .out):Calls Tryz.prog 260 #[.pointer (some ⟨b,0,none⟩),.int .i64 (first:Nat),.int .i64 c,.int .i64 (f:Nat)] w (RQ C dd bB b tv wv v w repN (joinP C part first f s)):=by
 have i3:IntKind.i64.wrap (c+1)=c+1:=IntWalk.i64_in _ ⟨by omega,by omega⟩
 have HR0:=Lib.hid h
 have R0:=Lib.hid h
 have F0:=Lib.hid (Fr.refl bB b v w)
 have HO:=Lib.hid ho
 have E0:=Lib.hid (congrFun (joinP.eq_1 C part first f) s)
 clear h ho
 go_enter Tryz.func260,Tryz.ntmps260
 go_wp2_with fail
 refine (read_any R0.out (fun e=>HO.out (E0.out.trans (bnd_out e)))).mono ?_
 rintro e w4 (⟨x4,t4,v4,u4,hm,rfl,hrep,rd,fr⟩|⟨c,x,hm,rfl,hb⟩)
 rotate_left
 ·go_wp2_with fail
  exact ⟨rfl,rq_bad (E0.out.trans (bnd_bad hm)) (F0.out.bel.trans hb)⟩
 obtain rfl:u4 = .string x4:=hrep
 have E4:=Lib.hid (E0.out.trans (bnd_ok hm))
 have R4:=Lib.hid rd
 have F4:=Lib.hid (F0.out.trans fr)
 clear hm rd fr E0 R0 F0
 by_cases hs5:x4=(⟨#[105,115]⟩:ByteArray)
 ·have n5:(x4.toList == [105,115])=true:=str_yes hs5
  have m5:(x4.toList != [105,115])=false:=str_nyes hs5
  have E6:=Lib.hid (E4.out.trans (if_neg_go (fun e=>e hs5)))
  clear E4
  go_wp2_with fail
  refine (take_any R4.out _ (fun e=>HO.out (E6.out.trans (bnd_out e)))).mono ?_
  rintro e w7 (⟨x7,t7,v7,u7,hm,rfl,hrep,rd,fr⟩|⟨c,x,hm,rfl,hb⟩)
  rotate_left
  ·go_wp2_with fail
   exact ⟨rfl,rq_bad (E6.out.trans (bnd_bad hm)) (F4.out.bel.trans hb)⟩
  obtain rfl:u7 = .bool x7:=hrep
  have E7:=Lib.hid (E6.out.trans (bnd_ok hm))
  have R7:=Lib.hid rd
  have F7:=Lib.hid (F4.out.trans fr)
  clear hm rd fr E6 R4 F4
  cases x7
  ·have E8:=Lib.hid (E7.out.trans (if_neg_go (by decide)))
   clear E7
   go_wp2_with fail
   refine (want_any R7.out _ (fun e=>HO.out (E8.out.trans (bnd_out e)))).mono ?_
   rintro e w9 (⟨x9,t9,v9,u9,hm,rfl,hrep,rd,fr⟩|⟨c,x,hm,rfl,hb⟩)
   rotate_left
   ·go_wp2_with fail
    exact ⟨rfl,rq_bad (E8.out.trans (bnd_bad hm)) (F7.out.bel.trans hb)⟩
   obtain rfl:u9 = .tuple #[]:=hrep
   have E9:=Lib.hid (E8.out.trans (bnd_ok hm))
   have R9:=Lib.hid rd
   have F9:=Lib.hid (F7.out.trans fr)
   clear hm rd fr E8 R7 F7
   have hal:Below w9.heap.size w9 (w9.alloc (.cells #[.int .i64 (first:Int)] 3)):=(Below.refl _ _).alloc (Nat.le_refl _) _
   have K10:=Lib.hid (lst_one R9.out (first:Int))
   have R10:=Lib.hid (R9.out.step hal)
   have F10:=Lib.hid (F9.out.below hal R9.out.hB)
   clear hal R9 F9
   go_wp2_with fail
   refine (make_any 44 0 0 [(first:Int)] ⟨#[]⟩ 0 ⟨#[]⟩ 0 ⟨#[]⟩ 0 0 0 [] _ _ f R10.out (fun e=>HO.out (E9.out.trans e)) K10.out (lst_none _ _ _)).mono ?_
   rintro e w11 (⟨x11,t11,v11,u11,hm,rfl,hrep,rd,fr⟩|⟨c,x,hm,rfl,hb⟩)
   rotate_left
   ·go_wp2_with fail
    exact ⟨rfl,rq_bad (E9.out.trans hm) (F10.out.bel.trans hb)⟩
   obtain rfl:u11 = .int .i64 (x11:Nat):=hrep
   have E11:=Lib.hid (E9.out.trans hm)
   have R11:=Lib.hid rd
   have F11:=Lib.hid (F10.out.trans fr)
   have K12:=Lib.hid (K10.out.step fr)
   clear K10
   clear hm rd fr E9 R10 F10
   go_wp2_with fail
   go_ret
   exact rq_ok E11.out rfl R11.out F11.out
  ·have E13:=Lib.hid (E7.out.trans (if_pos_go rfl))
   clear E7
   have hal:Below w7.heap.size w7 (w7.alloc (.cells #[.int .i64 (first:Int)] 3)):=(Below.refl _ _).alloc (Nat.le_refl _) _
   have K14:=Lib.hid (lst_one R7.out (first:Int))
   have R14:=Lib.hid (R7.out.step hal)
   have F14:=Lib.hid (F7.out.below hal R7.out.hB)
   clear hal R7 F7
   go_wp2_with fail
   refine (make_any 43 0 0 [(first:Int)] ⟨#[]⟩ 0 ⟨#[]⟩ 0 ⟨#[]⟩ 0 0 0 [] _ _ f R14.out (fun e=>HO.out (E13.out.trans e)) K14.out (lst_none _ _ _)).mono ?_
   rintro e w15 (⟨x15,t15,v15,u15,hm,rfl,hrep,rd,fr⟩|⟨c,x,hm,rfl,hb⟩)
   rotate_left
   ·go_wp2_with fail
    exact ⟨rfl,rq_bad (E13.out.trans hm) (F14.out.bel.trans hb)⟩
   obtain rfl:u15 = .int .i64 (x15:Nat):=hrep
   have E15:=Lib.hid (E13.out.trans hm)
   have R15:=Lib.hid rd
   have F15:=Lib.hid (F14.out.trans fr)
   have K16:=Lib.hid (K14.out.step fr)
   clear K14
   clear hm rd fr E13 R14 F14
   go_wp2_with fail
   go_ret
   exact rq_ok E15.out rfl R15.out F15.out
 ·have n5:(x4.toList == [105,115])=false:=str_no hs5
  have m5:(x4.toList != [105,115])=true:=str_nno hs5
  have E17:=Lib.hid (E4.out.trans (if_pos_go hs5))
  clear E4
  go_wp2_with fail
  refine (HJ _ _ _ R4.out (fun e=>HO.out (E17.out.trans (bnd_out e)))).mono ?_
  rintro e w18 (⟨x18,t18,v18,u18,hm,rfl,hrep,rd,fr⟩|⟨c,x,hm,rfl,hb⟩)
  rotate_left
  ·go_wp2_with fail
   exact ⟨rfl,rq_bad (E17.out.trans (bnd_bad hm)) (F4.out.bel.trans hb)⟩
  obtain rfl:u18 = .int .i64 (x18:Nat):=hrep
  have E18:=Lib.hid (E17.out.trans (bnd_ok hm))
  have R18:=Lib.hid rd
  have F18:=Lib.hid (F4.out.trans fr)
  clear hm rd fr E17 R4 F4
  have hal:Below w18.heap.size w18 (w18.alloc (.cells #[.int .i64 (first:Int),.int .i64 (x18:Int)] 3)):=(Below.refl _ _).alloc (Nat.le_refl _) _
  have K19:=Lib.hid (lst_two R18.out (first:Int) (x18:Int))
  have R19:=Lib.hid (R18.out.step hal)
  have F19:=Lib.hid (F18.out.below hal R18.out.hB)
  clear hal R18 F18
  go_wp2_with fail
  refine (make_any 34 0 0 [(first:Int),(x18:Int)] x4 0 ⟨#[]⟩ 0 ⟨#[]⟩ 0 0 0 [] _ _ f R19.out (fun e=>HO.out (E18.out.trans e)) K19.out (lst_none _ _ _)).mono ?_
  rintro e w20 (⟨x20,t20,v20,u20,hm,rfl,hrep,rd,fr⟩|⟨c,x,hm,rfl,hb⟩)
  rotate_left
  ·go_wp2_with fail
   exact ⟨rfl,rq_bad (E18.out.trans hm) (F19.out.bel.trans hb)⟩
  obtain rfl:u20 = .int .i64 (x20:Nat):=hrep
  have E20:=Lib.hid (E18.out.trans hm)
  have R20:=Lib.hid rd
  have F20:=Lib.hid (F19.out.trans fr)
  have K21:=Lib.hid (K19.out.step fr)
  clear K19
  clear hm rd fr E18 R19 F19
  go_wp2_with fail
  go_ret
  exact rq_ok E20.out rfl R20.out F20.out
theorem short_any (h:Rd C dd bB b tv wv s v w) (k:Int) (ho:shortP C k s ≠ .out):Calls Tryz.prog 234 #[.pointer (some ⟨b,0,none⟩),.int .i64 k] w (RQ C dd bB b tv wv v w repN (shortP C k s)):=by
 have HR0:=Lib.hid h
 have R0:=Lib.hid h
 have F0:=Lib.hid (Fr.refl bB b v w)
 have HO:=Lib.hid ho
 have E0:=Lib.hid (congrFun (shortP.eq_1 C k) s)
 clear h ho
 go_enter Tryz.func234,Tryz.ntmps234
 go_wp2_with fail
 refine (from_any' R0.out).mono ?_
 rintro e w22 ⟨rfl,hb⟩
 have R22:=Lib.hid (R0.out.step hb)
 have F22:=Lib.hid (F0.out.below hb R0.out.hB)
 clear hb R0 F0
 have E23:=Lib.hid (E0.out.trans look_go)
 clear E0
 go_wp2_with fail
 refine (read_any R22.out (fun e=>HO.out (E23.out.trans (bnd_out e)))).mono ?_
 rintro e w24 (⟨x24,t24,v24,u24,hm,rfl,hrep,rd,fr⟩|⟨c,x,hm,rfl,hb⟩)
 rotate_left
 ·go_wp2_with fail
  exact ⟨rfl,rq_bad (E23.out.trans (bnd_bad hm)) (F22.out.bel.trans hb)⟩
 obtain rfl:u24 = .string x24:=hrep
 have E24:=Lib.hid (E23.out.trans (bnd_ok hm))
 have R24:=Lib.hid rd
 have F24:=Lib.hid (F22.out.trans fr)
 clear hm rd fr E23 R22 F22
 go_wp2_with fail
 refine (want_any R24.out _ (fun e=>HO.out (E24.out.trans (bnd_out e)))).mono ?_
 rintro e w25 (⟨x25,t25,v25,u25,hm,rfl,hrep,rd,fr⟩|⟨c,x,hm,rfl,hb⟩)
 rotate_left
 ·go_wp2_with fail
  exact ⟨rfl,rq_bad (E24.out.trans (bnd_bad hm)) (F24.out.bel.trans hb)⟩
 obtain rfl:u25 = .tuple #[]:=hrep
 have E25:=Lib.hid (E24.out.trans (bnd_ok hm))
 have R25:=Lib.hid rd
 have F25:=Lib.hid (F24.out.trans fr)
 clear hm rd fr E24 R24 F24
 go_wp2_with fail
 refine (make_any k 0 0 [] ⟨#[]⟩ 0 ⟨#[]⟩ 0 ⟨#[]⟩ 0 0 0 [] _ _ (fromS C s) R25.out (fun e=>HO.out (E25.out.trans e)) (lst_none _ _ _) (lst_none _ _ _)).mono ?_
 rintro e w26 (⟨x26,t26,v26,u26,hm,rfl,hrep,rd,fr⟩|⟨c,x,hm,rfl,hb⟩)
 rotate_left
 ·go_wp2_with fail
  exact ⟨rfl,rq_bad (E25.out.trans hm) (F25.out.bel.trans hb)⟩
 obtain rfl:u26 = .int .i64 (x26:Nat):=hrep
 have E26:=Lib.hid (E25.out.trans hm)
 have R26:=Lib.hid rd
 have F26:=Lib.hid (F25.out.trans fr)
 clear hm rd fr E25 R25 F25
 go_wp2_with fail
 go_ret
 exact rq_ok E26.out rfl R26.out F26.out
theorem loop_any (h:Rd C dd bB b tv wv s v w) {value:PM Nat} (HV:Does C dd bB b tv wv 249 value) {block:PM Nat} (HB:Does C dd bB b tv wv 207 block) (ho:loopP C value block s ≠ .out):Calls Tryz.prog 233 #[.pointer (some ⟨b,0,none⟩)] w (RQ C dd bB b tv wv v w repN (loopP C value block s)):=by
 have HR0:=Lib.hid h
 have R0:=Lib.hid h
 have F0:=Lib.hid (Fr.refl bB b v w)
 have HO:=Lib.hid ho
 have E0:=Lib.hid (congrFun (loopP.eq_1 C value block) s)
 clear h ho
 go_enter Tryz.func233,Tryz.ntmps233
 go_wp2_with fail
 refine (from_any' R0.out).mono ?_
 rintro e w27 ⟨rfl,hb⟩
 have R27:=Lib.hid (R0.out.step hb)
 have F27:=Lib.hid (F0.out.below hb R0.out.hB)
 clear hb R0 F0
 have E28:=Lib.hid (E0.out.trans look_go)
 clear E0
 go_wp2_with fail
 refine (want_any R27.out _ (fun e=>HO.out (E28.out.trans (bnd_out e)))).mono ?_
 rintro e w29 (⟨x29,t29,v29,u29,hm,rfl,hrep,rd,fr⟩|⟨c,x,hm,rfl,hb⟩)
 rotate_left
 ·go_wp2_with fail
  exact ⟨rfl,rq_bad (E28.out.trans (bnd_bad hm)) (F27.out.bel.trans hb)⟩
 obtain rfl:u29 = .tuple #[]:=hrep
 have E29:=Lib.hid (E28.out.trans (bnd_ok hm))
 have R29:=Lib.hid rd
 have F29:=Lib.hid (F27.out.trans fr)
 clear hm rd fr E28 R27 F27
 go_wp2_with fail
 refine (within_any R29.out HV (fun e=>HO.out (E29.out.trans (bnd_out e)))).mono ?_
 rintro e w30 (⟨x30,t30,v30,u30,hm,rfl,hrep,rd,fr⟩|⟨c,x,hm,rfl,hb⟩)
 rotate_left
 ·go_wp2_with fail
  exact ⟨rfl,rq_bad (E29.out.trans (bnd_bad hm)) (F29.out.bel.trans hb)⟩
 obtain rfl:u30 = .int .i64 (x30:Nat):=hrep
 have E30:=Lib.hid (E29.out.trans (bnd_ok hm))
 have R30:=Lib.hid rd
 have F30:=Lib.hid (F29.out.trans fr)
 clear hm rd fr E29 R29 F29
 go_wp2_with fail
 refine (HB _ _ _ R30.out (fun e=>HO.out (E30.out.trans (bnd_out e)))).mono ?_
 rintro e w31 (⟨x31,t31,v31,u31,hm,rfl,hrep,rd,fr⟩|⟨c,x,hm,rfl,hb⟩)
 rotate_left
 ·go_wp2_with fail
  exact ⟨rfl,rq_bad (E30.out.trans (bnd_bad hm)) (F30.out.bel.trans hb)⟩
 obtain rfl:u31 = .int .i64 (x31:Nat):=hrep
 have E31:=Lib.hid (E30.out.trans (bnd_ok hm))
 have R31:=Lib.hid rd
 have F31:=Lib.hid (F30.out.trans fr)
 clear hm rd fr E30 R30 F30
 have hal:Below w31.heap.size w31 (w31.alloc (.cells #[.int .i64 (x30:Int),.int .i64 (x31:Int)] 3)):=(Below.refl _ _).alloc (Nat.le_refl _) _
 have K32:=Lib.hid (lst_two R31.out (x30:Int) (x31:Int))
 have R32:=Lib.hid (R31.out.step hal)
 have F32:=Lib.hid (F31.out.below hal R31.out.hB)
 clear hal R31 F31
 go_wp2_with fail
 refine (make_any 12 0 0 [(x30:Int),(x31:Int)] ⟨#[]⟩ 0 ⟨#[]⟩ 0 ⟨#[]⟩ 0 0 0 [] _ _ (fromS C s) R32.out (fun e=>HO.out (E31.out.trans e)) K32.out (lst_none _ _ _)).mono ?_
 rintro e w33 (⟨x33,t33,v33,u33,hm,rfl,hrep,rd,fr⟩|⟨c,x,hm,rfl,hb⟩)
 rotate_left
 ·go_wp2_with fail
  exact ⟨rfl,rq_bad (E31.out.trans hm) (F32.out.bel.trans hb)⟩
 obtain rfl:u33 = .int .i64 (x33:Nat):=hrep
 have E33:=Lib.hid (E31.out.trans hm)
 have R33:=Lib.hid rd
 have F33:=Lib.hid (F32.out.trans fr)
 have K34:=Lib.hid (K32.out.step fr)
 clear K32
 clear hm rd fr E31 R32 F32
 go_wp2_with fail
 go_ret
 exact rq_ok E33.out rfl R33.out F33.out
theorem print_any (h:Rd C dd bB b tv wv s v w) {value:PM Nat} (HV:Does C dd bB b tv wv 249 value) (ho:printP C value s ≠ .out):Calls Tryz.prog 236 #[.pointer (some ⟨b,0,none⟩)] w (RQ C dd bB b tv wv v w repN (printP C value s)):=by
 have HR0:=Lib.hid h
 have R0:=Lib.hid h
 have F0:=Lib.hid (Fr.refl bB b v w)
 have HO:=Lib.hid ho
 have E0:=Lib.hid (congrFun (printP.eq_1 C value) s)
 clear h ho
 go_enter Tryz.func236,Tryz.ntmps236
 go_wp2_with fail
 refine (from_any' R0.out).mono ?_
 rintro e w35 ⟨rfl,hb⟩
 have R35:=Lib.hid (R0.out.step hb)
 have F35:=Lib.hid (F0.out.below hb R0.out.hB)
 clear hb R0 F0
 have E36:=Lib.hid (E0.out.trans look_go)
 clear E0
 go_wp2_with fail
 refine (want_any R35.out _ (fun e=>HO.out (E36.out.trans (bnd_out e)))).mono ?_
 rintro e w37 (⟨x37,t37,v37,u37,hm,rfl,hrep,rd,fr⟩|⟨c,x,hm,rfl,hb⟩)
 rotate_left
 ·go_wp2_with fail
  exact ⟨rfl,rq_bad (E36.out.trans (bnd_bad hm)) (F35.out.bel.trans hb)⟩
 obtain rfl:u37 = .tuple #[]:=hrep
 have E37:=Lib.hid (E36.out.trans (bnd_ok hm))
 have R37:=Lib.hid rd
 have F37:=Lib.hid (F35.out.trans fr)
 clear hm rd fr E36 R35 F35
 go_wp2_with fail
 refine (within_any R37.out HV (fun e=>HO.out (E37.out.trans (bnd_out e)))).mono ?_
 rintro e w38 (⟨x38,t38,v38,u38,hm,rfl,hrep,rd,fr⟩|⟨c,x,hm,rfl,hb⟩)
 rotate_left
 ·go_wp2_with fail
  exact ⟨rfl,rq_bad (E37.out.trans (bnd_bad hm)) (F37.out.bel.trans hb)⟩
 obtain rfl:u38 = .int .i64 (x38:Nat):=hrep
 have E38:=Lib.hid (E37.out.trans (bnd_ok hm))
 have R38:=Lib.hid rd
 have F38:=Lib.hid (F37.out.trans fr)
 clear hm rd fr E37 R37 F37
 have hal:Below w38.heap.size w38 (w38.alloc (.cells #[.int .i64 (x38:Int)] 3)):=(Below.refl _ _).alloc (Nat.le_refl _) _
 have K39:=Lib.hid (lst_one R38.out (x38:Int))
 have R39:=Lib.hid (R38.out.step hal)
 have F39:=Lib.hid (F38.out.below hal R38.out.hB)
 clear hal R38 F38
 go_wp2_with fail
 refine (want_any R39.out _ (fun e=>HO.out (E38.out.trans (bnd_out e)))).mono ?_
 rintro e w40 (⟨x40,t40,v40,u40,hm,rfl,hrep,rd,fr⟩|⟨c,x,hm,rfl,hb⟩)
 rotate_left
 ·go_wp2_with fail
  exact ⟨rfl,rq_bad (E38.out.trans (bnd_bad hm)) (F39.out.bel.trans hb)⟩
 obtain rfl:u40 = .tuple #[]:=hrep
 have E40:=Lib.hid (E38.out.trans (bnd_ok hm))
 have R40:=Lib.hid rd
 have F40:=Lib.hid (F39.out.trans fr)
 have K41:=Lib.hid (K39.out.step fr)
 clear K39
 clear hm rd fr E38 R39 F39
 go_wp2_with fail
 refine (make_any 16 0 0 [(x38:Int)] ⟨#[]⟩ 0 ⟨#[]⟩ 0 ⟨#[]⟩ 0 0 0 [] _ _ (fromS C s) R40.out (fun e=>HO.out (E40.out.trans e)) K41.out (lst_none _ _ _)).mono ?_
 rintro e w42 (⟨x42,t42,v42,u42,hm,rfl,hrep,rd,fr⟩|⟨c,x,hm,rfl,hb⟩)
 rotate_left
 ·go_wp2_with fail
  exact ⟨rfl,rq_bad (E40.out.trans hm) (F40.out.bel.trans hb)⟩
 obtain rfl:u42 = .int .i64 (x42:Nat):=hrep
 have E42:=Lib.hid (E40.out.trans hm)
 have R42:=Lib.hid rd
 have F42:=Lib.hid (F40.out.trans fr)
 have K43:=Lib.hid (K41.out.step fr)
 clear K41
 clear hm rd fr E40 R40 F40
 go_wp2_with fail
 go_ret
 exact rq_ok E42.out rfl R42.out F42.out
theorem input_any (h:Rd C dd bB b tv wv s v w) (ho:inputP C s ≠ .out):Calls Tryz.prog 267 #[.pointer (some ⟨b,0,none⟩)] w (RQ C dd bB b tv wv v w repN (inputP C s)):=by
 have HR0:=Lib.hid h
 have R0:=Lib.hid h
 have F0:=Lib.hid (Fr.refl bB b v w)
 have HO:=Lib.hid ho
 have E0:=Lib.hid (congrFun (inputP.eq_1 C) s)
 clear h ho
 go_enter Tryz.func267,Tryz.ntmps267
 go_wp2_with fail
 refine (from_any' R0.out).mono ?_
 rintro e w44 ⟨rfl,hb⟩
 have R44:=Lib.hid (R0.out.step hb)
 have F44:=Lib.hid (F0.out.below hb R0.out.hB)
 clear hb R0 F0
 have E45:=Lib.hid (E0.out.trans look_go)
 clear E0
 go_wp2_with fail
 refine (want_any R44.out _ (fun e=>HO.out (E45.out.trans (bnd_out e)))).mono ?_
 rintro e w46 (⟨x46,t46,v46,u46,hm,rfl,hrep,rd,fr⟩|⟨c,x,hm,rfl,hb⟩)
 rotate_left
 ·go_wp2_with fail
  exact ⟨rfl,rq_bad (E45.out.trans (bnd_bad hm)) (F44.out.bel.trans hb)⟩
 obtain rfl:u46 = .tuple #[]:=hrep
 have E46:=Lib.hid (E45.out.trans (bnd_ok hm))
 have R46:=Lib.hid rd
 have F46:=Lib.hid (F44.out.trans fr)
 clear hm rd fr E45 R44 F44
 go_wp2_with fail
 refine (want_any R46.out _ (fun e=>HO.out (E46.out.trans (bnd_out e)))).mono ?_
 rintro e w47 (⟨x47,t47,v47,u47,hm,rfl,hrep,rd,fr⟩|⟨c,x,hm,rfl,hb⟩)
 rotate_left
 ·go_wp2_with fail
  exact ⟨rfl,rq_bad (E46.out.trans (bnd_bad hm)) (F46.out.bel.trans hb)⟩
 obtain rfl:u47 = .tuple #[]:=hrep
 have E47:=Lib.hid (E46.out.trans (bnd_ok hm))
 have R47:=Lib.hid rd
 have F47:=Lib.hid (F46.out.trans fr)
 clear hm rd fr E46 R46 F46
 go_wp2_with fail
 refine (want_any R47.out _ (fun e=>HO.out (E47.out.trans (bnd_out e)))).mono ?_
 rintro e w48 (⟨x48,t48,v48,u48,hm,rfl,hrep,rd,fr⟩|⟨c,x,hm,rfl,hb⟩)
 rotate_left
 ·go_wp2_with fail
  exact ⟨rfl,rq_bad (E47.out.trans (bnd_bad hm)) (F47.out.bel.trans hb)⟩
 obtain rfl:u48 = .tuple #[]:=hrep
 have E48:=Lib.hid (E47.out.trans (bnd_ok hm))
 have R48:=Lib.hid rd
 have F48:=Lib.hid (F47.out.trans fr)
 clear hm rd fr E47 R47 F47
 go_wp2_with fail
 refine (make_any 38 0 0 [] ⟨#[]⟩ 0 ⟨#[]⟩ 0 ⟨#[]⟩ 0 0 0 [] _ _ (fromS C s) R48.out (fun e=>HO.out (E48.out.trans e)) (lst_none _ _ _) (lst_none _ _ _)).mono ?_
 rintro e w49 (⟨x49,t49,v49,u49,hm,rfl,hrep,rd,fr⟩|⟨c,x,hm,rfl,hb⟩)
 rotate_left
 ·go_wp2_with fail
  exact ⟨rfl,rq_bad (E48.out.trans hm) (F48.out.bel.trans hb)⟩
 obtain rfl:u49 = .int .i64 (x49:Nat):=hrep
 have E49:=Lib.hid (E48.out.trans hm)
 have R49:=Lib.hid rd
 have F49:=Lib.hid (F48.out.trans fr)
 clear hm rd fr E48 R48 F48
 go_wp2_with fail
 go_ret
 exact rq_ok E49.out rfl R49.out F49.out
theorem ancestor_any (h:Rd C dd bB b tv wv s v w) (hK:CK C) (ho:ancestorP C s ≠ .out):Calls Tryz.prog 150 #[.pointer (some ⟨b,0,none⟩)] w (RQ C dd bB b tv wv v w repN (ancestorP C s)):=by
 have HR0:=Lib.hid h
 have R0:=Lib.hid h
 have F0:=Lib.hid (Fr.refl bB b v w)
 have HO:=Lib.hid ho
 have E0:=Lib.hid (congrFun (ancestorP.eq_1 C) s)
 clear h ho
 go_enter Tryz.func150,Tryz.ntmps150
 go_wp2_with fail
 refine (from_any' R0.out).mono ?_
 rintro e w50 ⟨rfl,hb⟩
 have R50:=Lib.hid (R0.out.step hb)
 have F50:=Lib.hid (F0.out.below hb R0.out.hB)
 clear hb R0 F0
 have E51:=Lib.hid (E0.out.trans look_go)
 clear E0
 go_wp2_with fail
 refine (want_any R50.out _ (fun e=>HO.out (E51.out.trans (bnd_out e)))).mono ?_
 rintro e w52 (⟨x52,t52,v52,u52,hm,rfl,hrep,rd,fr⟩|⟨c,x,hm,rfl,hb⟩)
 rotate_left
 ·go_wp2_with fail
  exact ⟨rfl,rq_bad (E51.out.trans (bnd_bad hm)) (F50.out.bel.trans hb)⟩
 obtain rfl:u52 = .tuple #[]:=hrep
 have E52:=Lib.hid (E51.out.trans (bnd_ok hm))
 have R52:=Lib.hid rd
 have F52:=Lib.hid (F50.out.trans fr)
 clear hm rd fr E51 R50 F50
 go_wp2_with fail
 refine (name_any R52.out hK (fun e=>HO.out (E52.out.trans (bnd_out e)))).mono ?_
 rintro e w53 (⟨x53,t53,v53,u53,hm,rfl,hrep,rd,fr⟩|⟨c,x,hm,rfl,hb⟩)
 rotate_left
 ·go_wp2_with fail
  exact ⟨rfl,rq_bad (E52.out.trans (bnd_bad hm)) (F52.out.bel.trans hb)⟩
 obtain rfl:u53 = .string x53:=hrep
 have E53:=Lib.hid (E52.out.trans (bnd_ok hm))
 have R53:=Lib.hid rd
 have F53:=Lib.hid (F52.out.trans fr)
 clear hm rd fr E52 R52 F52
 go_wp2_with fail
 refine (make_any 3 0 0 [] x53 0 ⟨#[]⟩ 0 ⟨#[]⟩ 0 0 0 [] _ _ (fromS C s) R53.out (fun e=>HO.out (E53.out.trans e)) (lst_none _ _ _) (lst_none _ _ _)).mono ?_
 rintro e w54 (⟨x54,t54,v54,u54,hm,rfl,hrep,rd,fr⟩|⟨c,x,hm,rfl,hb⟩)
 rotate_left
 ·go_wp2_with fail
  exact ⟨rfl,rq_bad (E53.out.trans hm) (F53.out.bel.trans hb)⟩
 obtain rfl:u54 = .int .i64 (x54:Nat):=hrep
 have E54:=Lib.hid (E53.out.trans hm)
 have R54:=Lib.hid rd
 have F54:=Lib.hid (F53.out.trans fr)
 clear hm rd fr E53 R53 F53
 go_wp2_with fail
 go_ret
 exact rq_ok E54.out rfl R54.out F54.out
end
end Go.Proofs.YtfehpdliobapfaaGreatDoor
namespace Go.Proofs.YtfehpdliobapfaaGreatDoor
open Go Go.RowKit
theorem BdR.row {P:List Value} {w:World} {B b:Nat} {L:List NdR} {v:Value} (h:BdR P w B b L v):∃ src c,v = .slice src L.length c/\RowOk w L/\RowAt w src L:=by
 rcases h.own.2 with ⟨hv,h0⟩|⟨g,cap,cur,hv,hBg,hg,hnc,hcm,hcs,htake⟩
 ·exact ⟨none,0,by rw [hv,h0],h.new_.ok,fun h1=>by omega⟩
 ·refine ⟨_,cap,hv,h.new_.ok,fun _=>⟨g,0,rfl,lt_block hg,fun m u hm=>?_⟩⟩
  have:=h.own.cells (g:=g) (by rw [hv];rfl) m u hm
  rwa [add_at] at this
theorem BdR.nds {P:List Value} {w:World} {B b:Nat} {L:List NdR} {v:Value} (h:BdR P w B b L v):NdsV w v (L.map (·.1)):=by
 obtain ⟨src,c,rfl,h1,h2⟩:=h.row
 exact rows_nds h1 h2
theorem atR_any (P:List Value) (hP:P.length=6) (bB b:Nat) (L:List NdR) (v:Value) (i:Nat) (w:World) (hb:BdR P w bB b L v) (hi:i<L.length) (hf:NdFit L[i].1) (hL:L.length<=16384) :
  Calls Tryz.prog 250 #[.pointer (some ⟨b,6,none⟩),.int .i64 (i:Nat)] w (AtPost w L[i].1):=by
 obtain ⟨src,vc,rfl,ho,hr⟩:=hb.row
 obtain ⟨g,off,rfl,hg,hcell⟩:=row_cells hr hi
 have HO1:=Lib.hid (ho L[i] (List.getElem_mem hi))
 have c0:=hb.c6 hP
 have hbl:=hb.box.lt
 have HL:=Lib.hid hL
 generalize L[i]=y at *
 obtain ⟨⟨kind,sf,st,kids,text,B,N,D,M,num,wf,wt,ends⟩,kv,ev⟩:=y
 obtain ⟨⟨ks,kc,hkv,hks⟩,⟨es,ec,hev,hes⟩⟩:=HO1.out
 simp only at hkv hev
 subst hkv hev
 obtain ⟨e0,e1,e2,e3,e4,e5,e6,e7,e8,e9,e10,e11,e12⟩:=cells13 hcell
 have HC:=Lib.hid (fun (w2:World) (hb:Below w.heap.size w w2)=>nclone_any kind sf st kids text B N D M num wf wt ends (.slice ks kids.length kc) (.slice es ends.length ec) w2 ⟨ks,kc,rfl,hks.step hb⟩ ⟨es,ec,rfl,hes.step hb⟩ hf.kids hf.ends hf.text hf.N hf.M)
 clear ho hr HO1 hks hes hcell hf hb hL
 generalize L.length=n at *
 have i1:decide ((i:Int)<0)=false:=decide_eq_false (by omega)
 have i2:decide ((n:Int)<=(i:Int))=false:=decide_eq_false (by omega)
 have hnb:n<=16384:=HL.out
 go_enter Tryz.func250,Tryz.ntmps250
 go_wp2_with fail
 refine (HC.out _ (by repeat (first|exact Below.refl _ _|apply Below.setCell _ (by first|omega|(simp<;>omega))|apply Below.alloc _ (by first|omega|(simp<;>omega))))).mono ?_
 rintro e w5 ⟨s1,c1,s2,c2,rfl,h5,n1,n2⟩
 have hba:Below w.heap.size w (w.alloc (.cells #[.int .i64 0,.int .i64 0,.int .i64 0,.slice none 0 0,.string ⟨#[]⟩,.int .i64 0,.string ⟨#[]⟩,.int .i64 0,.string ⟨#[]⟩,.int .i64 0,.int .i64 0,.int .i64 0,.slice none 0 0] 61)):=(Below.refl _ _).alloc (Nat.le_refl _) _
 have H5:=Lib.hid (after hba h5)
 have R5:=Lib.hid ((BoxN.new w #[.int .i64 0,.int .i64 0,.int .i64 0,.slice none 0 0,.string ⟨#[]⟩,.int .i64 0,.string ⟨#[]⟩,.int .i64 0,.string ⟨#[]⟩,.int .i64 0,.int .i64 0,.int .i64 0,.slice none 0 0]).keep h5)
 have N1:=Lib.hid (n1.mono (B':=w.heap.size) (by simp))
 have N2:=Lib.hid (n2.mono (B':=w.heap.size) (by simp))
 clear e0 e1 e2 e3 e4 e5 e6 e7 e8 e9 e10 e11 e12 hba h5 n1 n2 HC
 obtain ⟨⟨r0,r1,r2,r3,r4,r5,r6,r7,r8,r9,r10,r11,r12⟩,rl,rf⟩:=R5.out.all
 go_wp2_with fail
 refine bodyPost_ret (v:=.agg #[.int .i64 kind,.int .i64 sf,.int .i64 st,.slice s1 kids.length c1,.string text,.int .i64 B,.string N,.int .i64 D,.string M,.int .i64 num,.int .i64 wf,.int .i64 wt,.slice s2 ends.length c2]) (by simp [results,Tryz.results250,go_sem,r0,r1,r2,r3,r4,r5,r6,r7,r8,r9,r10,r11,r12]) rfl ?_
 exact ⟨s1,c1,s2,c2,rfl,H5.out.trans (fill_below w.heap.size (Nat.le_refl _) [.int .i64 kind,.int .i64 sf,.int .i64 st,.slice s1 kids.length c1,.string text,.int .i64 B,.string N,.int .i64 D,.string M,.int .i64 num,.int .i64 wf,.int .i64 wt,.slice s2 ends.length c2] 0 _),N1.out.sets' R5.out [.int .i64 kind,.int .i64 sf,.int .i64 st,.slice s1 kids.length c1,.string text,.int .i64 B,.string N,.int .i64 D,.string M,.int .i64 num,.int .i64 wf,.int .i64 wt,.slice s2 ends.length c2] 0,N2.out.sets' R5.out [.int .i64 kind,.int .i64 sf,.int .i64 st,.slice s1 kids.length c1,.string text,.int .i64 B,.string N,.int .i64 D,.string M,.int .i64 num,.int .i64 wf,.int .i64 wt,.slice s2 ends.length c2] 0⟩
theorem btreeR_any (P:List Value) (hP:P.length=6) (bB b:Nat) (L:List NdR) (v:Value) (w:World) (hb:BdR P w bB b L v) (hL:L.length<=16384) (h0:0<L.length) (hf:∀ x ∈ L.map (·.1),NdFit x) :
    Calls Tryz.prog 61 #[.pointer (some ⟨b,6,none⟩)] w (TreePost w (L.map (·.1)) ((L.length:Int)-1)):=by
  have HV:=Lib.hid hb.nds
  obtain ⟨vs,vc,rfl⟩:=hb.shape
  have HC:=Lib.hid (fun (w2:World) (hb:Below w.heap.size w w2)=>copy_any (L.map (·.1)) (.slice vs L.length vc) ((L.length:Int)-1) w2 (HV.out.step hb) (by rw [List.length_map];omega) hf)
  have HB:=Lib.hid hb
  have hbl:=hb.box.lt
  have hml:(L.map (·.1)).length=L.length:=by simp
  have HML:=Lib.hid hml
  clear hb hf hml HV
  generalize hn:L.length=n at *
  have mx:max ((n:Int)-1) 0=(n:Int)-1:=by omega
  have wr1:IntKind.i64.wrap ((n:Int)-1)=(n:Int)-1:=IntWalk.i64_in _ ⟨by omega,by omega⟩
  obtain ⟨W3,hW3⟩:∃ W3,W3=w.alloc (.cells #[.slice none 0 0,.int .i64 0] 25):=⟨_,rfl⟩
  have HB3:Hid (Below w.heap.size w W3):=Lib.hid (by rw [hW3];exact (Below.refl _ _).alloc (Nat.le_refl _) _)
  have X3:Hid (Bx 25 W3 w.heap.size [.slice none 0 0,.int .i64 0]):=Lib.hid (by rw [hW3];exact Bx.new 25 w _)
  have HW3:=Lib.hid hW3
  have c0:=bx_last hP (HB.out.box.keep HB3.out)
  have HNL:=Lib.hid hn
  clear hW3 hn
  go_enter Tryz.func61,Tryz.ntmps61
  go_wp2_with fail
  rw [<- HW3.out]
  go_region_law (first
    | (go_simp
       go_at_call 116
       refine (HC.out _ (HB3.out.drew)).mono ?_
       rintro e W4 ⟨s1,c1,rfl,h34,n1⟩
       rw [HML.out] at n1
       have H4:=Lib.hid (after HB3.out.drew h34)
       have R4:=Lib.hid ((show Bx 25 W3.drew w.heap.size _ from X3.out).keep h34)
       have N4:=Lib.hid (n1.mono (B':=w.heap.size) (by have:=HB3.out.size;simpa using this))
       obtain ⟨r0,r1,rl,rf⟩:=R4.out.two
       clear h34 n1))
  all_goals
    clear c0
    go_wp2_with fail
    refine bodyPost_ret (v:=.agg #[.slice s1 L.length c1,.int .i64 ((n:Int)-1)]) (by simp [results,Tryz.results61,go_sem,r0,r1]) rfl ?_
    exact ⟨s1,c1,by rw [HML.out,HNL.out],(H4.out.setCell (Nat.le_refl _) _).setCell (Nat.le_refl _) _,by rw [HML.out,HNL.out];exact N4.out.sets2 R4.out⟩
end Go.Proofs.YtfehpdliobapfaaGreatDoor
