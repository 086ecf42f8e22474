/- For any text and any number,ScopeFinds returns true and leaves its arguments as they were. -/
import Derived.Test.YtfehpdliobapfaaGreatDoorFTrMB
import Derived.Deep.RegionLaw
import Derived.Deep.Onto
set_option linter.unusedVariables false
set_option linter.unusedSimpArgs false
namespace Go.Proofs.YtfehpdliobapfaaGreatDoor
open Go Go.RowKit
structure ClInv (w w1 wr:World) (g:Nat) (L K:List NdR) (k:Nat):Prop where
 bel:Below (w.heap.size+2) w1 wr
 row:BoxN wr g (flatN (K ++ L.drop k))
 len:K.length=k
 same:K.map (·.1)=(L.take k).map (·.1)
 new_:RowNew wr w.heap.size K
theorem NewNums.setB {T:TypeId} {w:World} {B b o:Nat} {v u:Value} {l:List Int} {cs:List Value} (h:NewNums w B v l) (hb:Bx T w b cs) (hT:T≠3):NewNums (w.setCell ⟨b,o,none⟩ u) B v l :=
 h.kept fun g cur hg _=>heap_setCell_other w _ g u (fun e=>by
  simp at e
  subst e
  unfold Bx at hb
  rw [hb] at hg
  simp at hg
  exact hT hg.2)
theorem BoxN.setB {T:TypeId} {w:World} {g b o:Nat} {u:Value} {ds cs:List Value} (h:BoxN w g ds) (hb:Bx T w b cs) (hT:T≠61):BoxN (w.setCell ⟨b,o,none⟩ u) g ds :=
 h.other (fun e=>by
  subst e
  unfold Bx at hb
  unfold BoxN at h
  rw [hb] at h
  simp at h
  exact hT h.2) o u
theorem RowNew.setB {T:TypeId} {w:World} {B b o:Nat} {u:Value} {L:List NdR} {cs:List Value} (h:RowNew w B L) (hb:Bx T w b cs) (hT:T≠3):RowNew (w.setCell ⟨b,o,none⟩ u) B L :=
 fun y hy=>⟨(h y hy).1.setB hb hT,(h y hy).2.setB hb hT⟩
theorem NewNds.setB {T:TypeId} {w:World} {B b o:Nat} {v u:Value} {l:List Nd} {cs:List Value} (h:NewNds w B v l) (hb:Bx T w b cs) (hT:T≠3) (hT2:T≠61):NewNds (w.setCell ⟨b,o,none⟩ u) B v l:=by
 rcases h with h|⟨h0,g,L,h1,h2,h3,h4,h5⟩
 ·exact .inl h
 ·exact .inr ⟨h0,g,L,h1,h2,h3,h4.setB hb hT2,h5.setB hb hT⟩
theorem NewNds.set2 {w:World} {B b:Nat} {v u u':Value} {l:List Nd} {cs:List Value} (h:NewNds w B v l) (hb:Bx 25 w b cs):NewNds ((w.setCell ⟨b,0,none⟩ u).setCell ⟨b,1,none⟩ u') B v l :=
 (h.setB hb (by decide) (by decide)).setB (hb.set 0 u) (by decide) (by decide)
set_option maxRecDepth 100000 in
set_option maxHeartbeats 4000000 in
theorem copy_any (l:List Nd) (nv:Value) (root:Int) (w:World) (hn:NdsV w nv l) (hl:l.length<=1099511627776) (hf:∀ x ∈ l,NdFit x) :
  Calls Tryz.prog 116 #[.agg #[nv,.int .i64 root]] w fun e w'=>∃ s c,e = .returned (.agg #[.slice s l.length c,.int .i64 root])/\Below w.heap.size w w'/\NewNds w' w.heap.size (.slice s l.length c) l:=by
 obtain ⟨L,src,cap,rfl,rfl,ho,hr⟩:=hn.rows
 have HL:=Lib.hid (fun (w2:World) (hb:Below w.heap.size w w2)=>listN_any src cap L w2 (by simpa using hl) (ho.step hb) (hr.step hb))
 have HO:=Lib.hid ho
 have HF:=Lib.hid hf
 have hLb:L.length<=1099511627776:=by simpa using hl
 clear hn hl hf ho hr
 go_enter Tryz.func116,Tryz.ntmps116
 go_wp2_with fail
 refine (HL.out _ (by repeat (first|exact Below.refl _ _|apply Below.setCell _ (by first|omega|(simp<;>omega))|apply Below.alloc _ (by first|omega|(simp<;>omega))))).mono ?_
 rintro e w1 ⟨h01,hq⟩
 obtain ⟨hb1,x1,r1⟩:=new_two h01
 have hsz:=h01.size
 simp only [World.size_alloc] at hsz
 have B1:=Lib.hid hb1
 have X1:=Lib.hid x1
 have R1:=Lib.hid r1
 clear HL hb1 x1 r1 h01
 rcases hq with ⟨hL,rfl⟩|⟨hL,rfl,hrow⟩
 ·subst hL
  clear HO HF
  go_wp2_with fail
  go_loopw [11] (fun i wr=>i = .int .i64 0/\wr=w1) (fun _ _=>0)
  case atStart=>exact ⟨rfl,rfl⟩
  case round =>
   obtain ⟨rfl,rfl⟩:=hrel
   obtain ⟨a0,a1,al,af⟩:=X1.out.two
   obtain ⟨r0,r1,rl,rf⟩:=R1.out.two
   go_wp2_with fail
   refine bodyPost_ret (v:=.agg #[.slice none 0 0,.int .i64 root]) (by simp [results,Tryz.results116,go_sem,r0,r1]) rfl ?_
   exact ⟨none,0,rfl,(B1.out.setCell (Nat.le_succ _) _).setCell (Nat.le_succ _) _,.inl ⟨rfl,rfl⟩⟩
 ·simp only [World.size_alloc] at hrow
  have HROW:=Lib.hid hrow
  have HPOS:=Lib.hid hL
  obtain ⟨n,hn⟩:∃ n,n=L.length:=⟨_,rfl⟩
  have HN:=Lib.hid hn
  simp only [World.size_alloc]
  rw [<- hn]
  rw [<- hn] at hLb
  have hml:(L.map (·.1)).length=n:=by simp [hn]
  have HML:=Lib.hid hml
  clear hrow hL hn hml
  go_wp2_with fail
  go_loopw [11] (fun i wr=>∃ (k:Nat) (K:List NdR),k<=n/\i = .int .i64 k/\ClInv w w1 wr (w.heap.size+1+1) L K k) (fun i _=>n-(intOf i).toNat)
  case atStart=>exact ⟨0,[],Nat.zero_le _,rfl,Below.refl _ _,by simpa using HROW.out,rfl,rfl,fun y hy=>by cases hy⟩
  case round =>
   obtain ⟨k,K,hk,rfl,hinv⟩:=hrel
   have HI:=Lib.hid hinv
   clear hinv
   by_cases hlt:k<n
   ·have hkl:k<L.length:=by rw [<- HN.out];exact hlt
    have HY:=Lib.hid (List.getElem_mem hkl)
    have HD:Hid (L.drop k=L[k] :: L.drop (k+1)):=Lib.hid (List.drop_eq_getElem_cons hkl)
    have HTK:Hid ((L.take (k+1)).map (·.1)=(L.take k).map (·.1) ++ [L[k].1]):=Lib.hid (by rw [List.take_succ_eq_append_getElem hkl,List.map_append];rfl)
    have HO1:=Lib.hid (HO.out _ HY.out)
    have HF1:=Lib.hid (HF.out _ (List.mem_map.2 ⟨_,HY.out,rfl⟩))
    generalize L[k]=y at *
    obtain ⟨⟨kind,sf,st,kids,text,B,N,D,M,num,wf,wt,ends⟩,kv,ev⟩:=y
    obtain ⟨⟨ks,kc,hkv,hks⟩,⟨es,ec,hev,hes⟩⟩:=HO1.out
    simp only at hkv hev
    subst hkv hev
    have HC:=Lib.hid (fun (w2:World) (hb:Below w.heap.size w w2)=>nclone_any kind sf st kids text B N D M num wf wt ends (.slice ks kids.length kc) (.slice es ends.length ec) w2 ⟨ks,kc,rfl,hks.step hb⟩ ⟨es,ec,rfl,hes.step hb⟩ HF1.out.kids HF1.out.ends HF1.out.text HF1.out.N HF1.out.M)
    have B2:=Lib.hid (B1.out.trans (HI.out.bel.mono (by omega)))
    have HR:Hid (BoxN wr (w.heap.size+1+1) (flatN K ++ ([.int .i64 kind,.int .i64 sf,.int .i64 st,.slice ks kids.length kc,.string text,.int .i64 B,.string N,.int .i64 D,.string M,.int .i64 num,.int .i64 wf,.int .i64 wt,.slice es ends.length ec]) ++ flatN (L.drop (k+1)))):=Lib.hid (by
     have:=HI.out.row
     rw [HD.out,flatN_app] at this
     unfold flatN at this ⊢
     rw [List.flatMap_cons,<- List.append_assoc] at this
     exact this)
    have HA:Hid ((flatN K).length=k*13):=Lib.hid (by rw [flatN_len,HI.out.len])
    obtain ⟨⟨e0,e1,e2,e3,e4,e5,e6,e7,e8,e9,e10,e11,e12⟩,hglt,hgf⟩:=part_cells HR.out HA.out
    clear hks hes hkl hgf
    go_wp2_with fail
    refine (HC.out _ (B2.out.alloc B2.out.size _)).mono ?_
    rintro e w5 ⟨s1,c1,s2,c2,rfl,h5,n1,n2⟩
    have hba:Below wr.heap.size wr (wr.alloc (.cells (#[.int .i64 kind,.int .i64 sf,.int .i64 st,.slice ks kids.length kc,.string text,.int .i64 B,.string N,.int .i64 D,.string M,.int .i64 num,.int .i64 wf,.int .i64 wt,.slice es ends.length ec]) 61)):=(Below.refl _ _).alloc (Nat.le_refl _) _
    have H5:=Lib.hid (after hba h5)
    have R5:=Lib.hid (HR.out.keep H5.out)
    have N1:=Lib.hid (n1.mono (B':=w.heap.size) (by have:=B2.out.size;simp;omega))
    have N2:=Lib.hid (n2.mono (B':=w.heap.size) (by have:=B2.out.size;simp;omega))
    clear e0 e1 e2 e3 e4 e5 e6 e7 e8 e9 e10 e11 e12 hglt hba h5 n1 n2 HC
    obtain ⟨⟨e0,e1,e2,e3,e4,e5,e6,e7,e8,e9,e10,e11,e12⟩,hglt,hgf⟩:=part_cells R5.out HA.out
    go_wp2_with fail
    have HZ:Hid (ClInv w w1 (w5.setCells (w.heap.size+1+1) (k*13) ([.int .i64 kind,.int .i64 sf,.int .i64 st,.slice s1 kids.length c1,.string text,.int .i64 B,.string N,.int .i64 D,.string M,.int .i64 num,.int .i64 wf,.int .i64 wt,.slice s2 ends.length c2])) (w.heap.size+1+1) L (K ++ [(⟨kind,sf,st,kids,text,B,N,D,M,num,wf,wt,ends⟩,.slice s1 kids.length c1,.slice s2 ends.length c2)]) (k+1)):=Lib.hid (by
     refine ⟨?_,?_,by rw [List.length_append,HI.out.len];rfl,by rw [List.map_append,HI.out.same,HTK.out];rfl,?_⟩
     ·exact (HI.out.bel.trans (H5.out.mono (by have:=HI.out.bel.size;omega))).trans (fill_below _ (Nat.le_refl _) _ _ _)
     ·have:=R5.out.part ([.int .i64 kind,.int .i64 sf,.int .i64 st,.slice s1 kids.length c1,.string text,.int .i64 B,.string N,.int .i64 D,.string M,.int .i64 num,.int .i64 wf,.int .i64 wt,.slice s2 ends.length c2]) rfl
      rw [HA.out] at this
      rw [flatN_app,flatN_app]
      exact this
     ·intro y hy
      have key:∀ {v:Value} {l:List Int},NewNums w5 w.heap.size v l->NewNums (w5.setCells (w.heap.size+1+1) (k*13) ([.int .i64 kind,.int .i64 sf,.int .i64 st,.slice s1 kids.length c1,.string text,.int .i64 B,.string N,.int .i64 D,.string M,.int .i64 num,.int .i64 wf,.int .i64 wt,.slice s2 ends.length c2])) w.heap.size v l:=fun h=>h.sets' R5.out _ _
      rcases List.mem_append.1 hy with hy|hy
      ·have:=HI.out.new_.step H5.out y hy
       exact ⟨key this.1,key this.2⟩
      ·rw [List.mem_singleton] at hy
       subst hy
       exact ⟨key N1.out,key N2.out⟩)
    go_roundw
    case rel=>exact ⟨k+1,_,by omega,by go_num,HZ.out⟩
    case measure=>simp [intOf];omega
   ·have hk':k=n:=by omega
    subst hk'
    have HF2:Hid (NewNds wr w.heap.size (.slice (some ⟨w.heap.size+1+1,0,none⟩) k k) (L.map (·.1))):=Lib.hid (by
     have h1:=HI.out.row
     have h2:=HI.out.same
     rw [HN.out,List.drop_length,List.append_nil] at h1
     rw [HN.out,List.take_length] at h2
     refine .inr ⟨by rw [List.length_map];exact HPOS.out,w.heap.size+1+1,K,by rw [HML.out],by omega,h2,h1,HI.out.new_⟩)
    have BW:=Lib.hid (B1.out.trans (HI.out.bel.mono (by omega)))
    obtain ⟨a0,a1,al,af⟩:=(X1.out.keepB HI.out.bel (by omega)).two
    obtain ⟨r0,r1,rl,rf⟩:=(R1.out.keepB HI.out.bel (by omega)).two
    have R2:=Lib.hid (R1.out.keepB HI.out.bel (by omega))
    go_wp2_with fail
    refine bodyPost_ret (v:=.agg #[.slice (some ⟨w.heap.size+1+1,0,none⟩) k k,.int .i64 root]) (by simp [results,Tryz.results116,go_sem,r0,r1]) rfl ?_
    exact ⟨_,_,by rw [HML.out],(BW.out.setCell (Nat.le_succ _) _).setCell (Nat.le_succ _) _,by
     rw [HML.out];exact HF2.out.set2 R2.out⟩
theorem step_append_n {P:Program} {ops:Array Oper} {o:Oper} {a:Act} {w:World} {K:Act->World->Prop} {Q:Exit->Act->World->Prop} {E:Prop}
  (hg:o.guard=none) (s x:Operand) (t:TypeId) (hop:o.op=Op.call { callee:=Callee.builtin Builtin.append,args:=#[s,x],argTypes:=#[t,t] })
  (base:Nat) (e:TypeId) (i:TypeInfo) (z:Value) (size bytes:Nat) (h1:P.underlying t=some (.slice e)) (h2:P.info? e=some i) (h3:i.zero=some z) (h4:i.size=size) (h5:i.bytes=bytes) (h6:z.cells.size=size) (h7:0<size)
  (v:Value) (n:Nat) (xs:List Value) (hs:a.eval s=v) (hown:w.ownsRow base e size v n xs)
  (ad:Addr) (m c:Nat) (news:List Value) (hx:a.eval x = .slice (some ad) m c) (hn:news.length=m*size) (hc:∀ j u,news[j]? = some u->w.cell? (ad.add j)=some u) (h1c:∀ u ∈ news,u.oneCell'=true)
  (b1:n+m<=maxLen) (b2:(n+m)*bytes<=140737488355328) (hb:base<=w.heap.size)
  (hK:∀ v' w',w'.ownsRow base e size v' (n+m) (xs ++ news)->w.grownBy w' v.ownBlock->K (a.put o.dst v') w') :
  if Region.wanted o (yielded ops a.tmps)=true then Oper.wp P o a w K Q else E:=by
 have hw:Region.wanted o (yielded ops a.tmps)=true:=by simp [Region.wanted,hg]
 rw [if_pos hw]
 obtain ⟨v',w',hrun,r1,r2,_⟩:=run_append_own (P:=P) w base t o.type e i z size bytes h1 h2 h3 h4 h5 h6 h7 v n xs hown ad m c news hn hc h1c b1 b2 hb
 unfold Oper.wp
 simp [execOp,hop,resolve,invoke,builtin,hs,hx,hrun,Result.andThen]
 exact hK v' w' r1 r2
def KeptN (w w':World) (b:Nat):Prop:=∀ k c U fz,w.heap[k]? = some (.cells c U fz)->U≠61->k≠b->w'.heap[k]? = w.heap[k]?
theorem KeptN.nums {w w':World} {b B:Nat} {v:Value} {l:List Int} (h:KeptN w w' b) (hn:NewNums w B v l) (hb:∀ c,w.heap[b]? ≠ some (.cells c 3 (0,0))):NewNums w' B v l :=
 hn.kept fun g cur hg _=>h g cur 3 (0,0) hg (by decide) (fun e=>by subst e;exact hb _ hg)
theorem KeptN.trans {w w1 w2:World} {b:Nat} (h:KeptN w w1 b) (h2:KeptN w1 w2 b):KeptN w w2 b:=fun k c U fz hk hU hb=>by
 have e1:=h k c U fz hk hU hb
 exact (h2 k c U fz (by rw [e1];exact hk) hU hb).trans e1
theorem KeptN.of_below {w w':World} (b:Nat) (h:Below w.heap.size w w'):KeptN w w' b:=fun k c U fz hk hU hb=>h.block k (lt_block hk)
theorem ownsRow_step {w w':World} {B:Nat} {e:TypeId} {s:Nat} {v:Value} {n:Nat} {xs:List Value} (h:w.ownsRow B e s v n xs) (hb:Below w.heap.size w w'):w'.ownsRow B e s v n xs :=
 h.kept (row:=none) ⟨hb.os,hb.tape,hb.output,hb.size,fun k hk _=>hb.block k hk⟩ (by cases v.ownBlock<;>simp)
theorem own_shape {w:World} {B n:Nat} {e:TypeId} {s:Nat} {v:Value} {xs:List Value} (h:w.ownsRow B e s v (n+1) xs):∃ g c,v = .slice (some ⟨g,0,none⟩) (n+1) c:=by
 rcases h.2 with ⟨_,q⟩|⟨g,cap,cur,hv,_⟩
 ·omega
 ·exact ⟨g,cap,hv⟩
theorem row_cells {w:World} {src:Option Addr} {L:List NdR} {i:Nat} (h:RowAt w src L) (hi:i<L.length):∃ b off,src=some ⟨b,off,none⟩/\b<w.heap.size/\∀ j,j<13->w.cell? ⟨b,off+i*13+j,none⟩=(ndC L[i])[j]?:=by
 obtain ⟨b,off,h1,h2,h3⟩:=h (by omega)
 refine ⟨b,off,h1,h2,fun j hj=>?_⟩
 have e:=flatN_at L i hi j hj
 have hl:j<(ndC L[i]).length:=hj
 rw [List.getElem?_eq_getElem hl] at e ⊢
 rw [show off+i*13+j=off+(i*13+j) by omega]
 exact h3 _ _ e
theorem cells13 {w:World} {b o:Nat} {v0 v1 v2 v3 v4 v5 v6 v7 v8 v9 v10 v11 v12:Value} (h:∀ j,j<13->w.cell? ⟨b,o+j,none⟩=[v0,v1,v2,v3,v4,v5,v6,v7,v8,v9,v10,v11,v12][j]?) :
  w.cell? ⟨b,o,none⟩=some v0/\w.cell? ⟨b,o+1,none⟩=some v1/\w.cell? ⟨b,o+2,none⟩=some v2/\w.cell? ⟨b,o+3,none⟩=some v3/\w.cell? ⟨b,o+4,none⟩=some v4/\w.cell? ⟨b,o+5,none⟩=some v5/\w.cell? ⟨b,o+6,none⟩=some v6/\w.cell? ⟨b,o+7,none⟩=some v7/\w.cell? ⟨b,o+8,none⟩=some v8/\w.cell? ⟨b,o+9,none⟩=some v9/\w.cell? ⟨b,o+10,none⟩=some v10/\w.cell? ⟨b,o+11,none⟩=some v11/\w.cell? ⟨b,o+12,none⟩=some v12 :=
 ⟨h 0 (by omega),h 1 (by omega),h 2 (by omega),h 3 (by omega),h 4 (by omega),h 5 (by omega),h 6 (by omega),h 7 (by omega),h 8 (by omega),h 9 (by omega),h 10 (by omega),h 11 (by omega),h 12 (by omega)⟩
def AtPost (w:World) (x:Nd) (e:Ending) (w':World):Prop:=∃ s1 c1 s2 c2,e = .returned (.agg #[.int .i64 x.kind,.int .i64 x.sf,.int .i64 x.st,.slice s1 x.kids.length c1,.string x.text,.int .i64 x.B,.string x.N,.int .i64 x.D,.string x.M,.int .i64 x.num,.int .i64 x.wf,.int .i64 x.wt,.slice s2 x.ends.length c2]) /\
 Below w.heap.size w w'/\NewNums w' w.heap.size (.slice s1 x.kids.length c1) x.kids/\NewNums w' w.heap.size (.slice s2 x.ends.length c2) x.ends
def TreePost (w:World) (l:List Nd) (root:Int) (e:Ending) (w':World):Prop:=∃ s c,e = .returned (.agg #[.slice s l.length c,.int .i64 root])/\Below w.heap.size w w'/\NewNds w' w.heap.size (.slice s l.length c) l
theorem NewNds.sets2 {w:World} {B b:Nat} {v u u':Value} {l:List Nd} {cs:List Value} (h:NewNds w B v l) (hb:Bx 25 w b cs):NewNds ((w.setCell ⟨b,0,none⟩ u).setCell ⟨b,1,none⟩ u') B v l:=h.set2 hb
end Go.Proofs.YtfehpdliobapfaaGreatDoor
