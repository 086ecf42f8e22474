/- For any text and any number,ScopeFinds returns true and leaves its arguments as they were. -/
import Derived.Test.YtfehpdliobapfaaGreatDoorFPaMD
set_option maxRecDepth 100000
set_option maxHeartbeats 4000000
set_option linter.unusedVariables false
set_option linter.unusedSimpArgs false
namespace Go.Proofs.YtfehpdliobapfaaGreatDoor
open Go Go.RowKit
section
variable {C:PC} {dd d0 bB b:Nat} {tv wv:Value} {s s0 t:PS} {v v0 v1:RV} {w w0 w1 w':World}
theorem append_none_run {B n:Nat} {u:Value} {xs:List Value} {zs:Option Addr} {zc:Nat} (hown:w.ownsRow B 3 1 u n xs) (hz:w.ownsRow B 3 1 (.slice zs 0 zc) 0 []) :
  (Builtin.append_ #[57,57] 57 #[u,.slice zs 0 zc]).run Tryz.prog w = .ok u w:=by
 obtain ⟨i0,hi,hz0,hz1,hz2⟩:=info_parts infoInt
 have ht:Tryz.prog.underlying 57=some (.slice 3):=Tryz.underlying57
 rcases hown.2 with ⟨rfl,rfl⟩|⟨g,cap,cur,rfl,_,_,hnc,_⟩
 ·rcases hz.2 with ⟨q,-⟩|⟨g',cap',cur',q,-⟩
  ·simp only [Value.slice.injEq] at q
   obtain ⟨rfl,-,rfl⟩:=q
   simp [Builtin.append_,run_underlying ht,sizeOf,typeInfo,hi,Builtin.lenOf,Builtin.firstCells]
  ·simp only [Value.slice.injEq] at q
   obtain ⟨rfl,-,rfl⟩:=q
   simp [Builtin.append_,run_underlying ht,sizeOf,typeInfo,hi,Builtin.lenOf,Builtin.firstCells,loadCells,loadCellsFrom]
 ·rcases hz.2 with ⟨q,-⟩|⟨g',cap',cur',q,-⟩
  ·simp only [Value.slice.injEq] at q
   obtain ⟨rfl,-,rfl⟩:=q
   simp [Builtin.append_,run_underlying ht,sizeOf,typeInfo,hi,Builtin.lenOf,Builtin.firstCells,hnc,storeCells]
  ·simp only [Value.slice.injEq] at q
   obtain ⟨rfl,-,rfl⟩:=q
   simp [Builtin.append_,run_underlying ht,sizeOf,typeInfo,hi,Builtin.lenOf,Builtin.firstCells,hnc,storeCells,loadCells,loadCellsFrom]
def Old (w0:World) (b:Nat) (v:RV) (w:World) (u:Value) (l:List Int):Prop:=Lst b v w u l/\∀ k,u.ownBlock=some k->k<w0.heap.size
theorem Old.step {u:Value} {l:List Int} (h:Old w0 b v w u l) (g:Fr bB b v w v1 w1):Old w0 b v1 w1 u l:=⟨h.1.step g,h.2⟩
theorem Old.lst {u:Value} {l:List Int} (h:Old w0 b v w u l):Lst b v w u l:=h.1
theorem Old.cells {u:Value} {l:List Int} (h:Old w0 b v w u l) (hs:w.heap.size<=w1.heap.size) (hm:∀ k,Mine b v w k->k<w0.heap.size->Mine b v w1 k) (hc:∀ k,k<w0.heap.size->k<w.heap.size->w1.heap[k]? = w.heap[k]?):Old w0 b v w1 u l:=by
 obtain ⟨⟨⟨src,cap,hu,hs2⟩,hmn⟩,hlt⟩:=h
 refine ⟨⟨⟨src,cap,hu,fun h0=>?_⟩,fun k hk=>hm k (hmn k hk) (hlt k hk)⟩,hlt⟩
 obtain ⟨c,off,e,hcl,hn⟩:=hs2 h0
 have hk:u.ownBlock=some c:=by rw [hu,e];rfl
 refine ⟨c,off,e,by omega,fun i hi=>?_⟩
 rw [World.cell?_of_block (hc c (hlt c hk) hcl)];exact hn i hi
theorem Old.set {u:Value} {l:List Int} {k:Nat} {cs:List Value} (h:Old w0 b v w u l) (hb:Box w0 b v w k cs) (j:Nat) (x:Value):Old w0 b v (w.setCell ⟨k,j,none⟩ x) u l:=by
 have hat:=hb.at_
 refine h.cells (by rw [World.size_setCell];exact Nat.le_refl _) (fun i hi _=>⟨by rw [World.size_setCell];exact hi.lt,hi.ne,hi.row,hi.cl⟩) (fun i hi _=>heap_setCell_other w _ i x (by show i≠k;omega))
theorem own_append_list {u z:Value} {l m:List Int} (R0:Rd C d0 bB b tv wv s0 v0 w0) (R:Rd C dd bB b tv wv s v w) (F:Fr bB b v0 w0 v w) (h:Own w0 b v w u l) (hz:Own w0 b v w z m) (hl:l.length+m.length<=1000000) :
  ∃ u' w',(Builtin.append_ #[57,57] 57 #[u,z]).run Tryz.prog w = .ok u' w'/\Own w0 b v w' u' (l ++ m)/\Rd C dd bB b tv wv s v w'/\Fr bB b v0 w0 v w'/\(∀ kb cb,Box w0 b v w kb cb->Box w0 b v w' kb cb)/\∀ y k,Old w0 b v w y k->Old w0 b v w' y k:=by
 by_cases hm0:m=[]
 ·subst hm0
  obtain ⟨zs,zc,rfl⟩:=owns_shape hz.1
  refine ⟨u,w,append_none_run h.1 hz.1,by rw [List.append_nil];exact h,R,F,fun _ _ hb=>hb,fun _ _ h=>h⟩
 have hmp:0<m.length:=List.length_pos_iff.2 hm0
 obtain ⟨i0,hi,hz0,hz1,hz2⟩:=info_parts infoInt
 obtain ⟨g,zc,rfl,hzc⟩:∃ g zc,z = .slice (some ⟨g,0,none⟩) m.length zc/\∀ j y,(numC m)[j]? = some y->w.cell? ((⟨g,0,none⟩:Addr).add j)=some y:=by
  have hh:=hz.1
  rcases hh.2 with ⟨q,q0⟩|⟨g,cap,cur,q,-⟩
  ·omega
  ·subst q
   exact ⟨g,cap,rfl,fun j y hj=>hh.cells (g:=g) rfl j y hj⟩
 have h1c:∀ y ∈ numC m,y.oneCell'=true:=fun y hy=>by
  unfold numC at hy
  obtain ⟨i,-,rfl⟩:=List.mem_map.1 hy
  rfl
 obtain ⟨u',w',hrun,r1,r2,-⟩:=run_append_own (P:=Tryz.prog) w w0.heap.size 57 57 3 i0 (.int .i64 0) 1 8 Tryz.underlying57 hi hz0 hz1 hz2 rfl (by decide) u l.length (numC l) h.1 ⟨g,0,none⟩ m.length zc (numC m) (by simp [numC]) hzc h1c (by unfold maxLen;omega) (by omega) F.bel.size
 have hw:=append_where (P:=Tryz.prog) w0.heap.size 57 57 3 i0 (.int .i64 0) 1 8 Tryz.underlying57 hi hz0 hz1 hz2 u l.length (numC l) h.1 ⟨g,0,none⟩ m.length zc (numC m) hmp (by simp [numC]) hzc h1c (by unfold maxLen;omega) (by omega) hrun
 have hm:∀ k,u.ownBlock=some k->Mine b v w k/\w0.heap.size<=k:=fun k hk=>⟨h.2 k hk,(owns_in h.1 k hk).1⟩
 obtain ⟨R2,M2⟩:=Rd.grown R0 R r2 hm
 refine ⟨u',w',hrun,⟨?_,fun k hk=>?_⟩,R2,⟨⟨by rw [r2.os];exact F.bel.os,by rw [r2.tape];exact F.bel.tape,by rw [r2.output];exact F.bel.output,Nat.le_trans F.bel.size r2.size,fun k hk=>?_⟩,fun k k1 k2 k3=>?_,F.own,F.lists⟩,fun kb cb hbb=>?_,fun y k hy=>hy.cells r2.size (fun i hi _=>M2 i hi) (fun i h1 h2=>r2.block i h2 (fun e=>by have:=(hm i e.symm).2;omega))⟩
 ·rw [show numC (l ++ m)=numC l ++ numC m by simp [numC],List.length_append];exact r1
 ·rcases hw k hk with e|e
  ·exact M2 k (h.2 k e)
  ·refine ⟨(owns_in r1 k hk).2,fun e2=>?_,fun e2=>?_,fun e2=>?_⟩
   ·have:=R.lt;omega
   ·have:=R.own_lt _ e2;omega
   ·have:=R.cl_lt _ e2;omega
 ·have h0:=R0.hB
  have hs:=F.bel.size
  rw [r2.block k (by omega) (fun e=>by have:=(hm k e.symm).2;omega)];exact F.bel.block k hk
 ·have hs:=F.bel.size
  rw [r2.block k (by omega) (fun e=>by have:=(hm k e.symm).2;omega)];exact F.kept k k1 k2 k3
 ·have hb1:=hbb.box
  refine ⟨M2 kb hbb.mine,hbb.at_,?_⟩
  unfold BoxN at hb1 ⊢
  rw [r2.block kb (lt_block hb1) (fun e=>?_)]
  ·exact hb1
  ·rcases h.1.2 with ⟨q,-⟩|⟨g,cap,cur,q,-,hg,-⟩
   ·rw [q] at e;simp [Value.ownBlock] at e
   ·rw [q] at e
    simp [Value.ownBlock] at e
    subst e
    rw [hg] at hb1;simp at hb1
theorem own_append3 {u:Value} {l:List Int} (R0:Rd C d0 bB b tv wv s0 v0 w0) (R:Rd C dd bB b tv wv s v w) (F:Fr bB b v0 w0 v w) (h:Own w0 b v w u l) (x:Int) (hl:l.length<=1000000) :
  ∃ u' w',(Builtin.append_ #[57,57] 57 #[u,.slice (some ⟨w.heap.size,0,none⟩) 1 1]).run Tryz.prog (w.alloc (.cells #[.int .i64 x] 3)) = .ok u' w'/\Own w0 b v w' u' (l ++ [x])/\Rd C dd bB b tv wv s v w'/\Fr bB b v0 w0 v w'/\(∀ kb cb,Box w0 b v w kb cb->Box w0 b v w' kb cb)/\∀ y k,Old w0 b v w y k->Old w0 b v w' y k:=by
 have hal:Below w.heap.size w (w.alloc (.cells #[.int .i64 x] 3)):=(Below.refl _ _).alloc (Nat.le_refl _) _
 have R1:=R.step hal
 have F1:=F.below hal R.hB
 have h1:=h.step (Fr.of_below hal R.hB)
 have X:=Bx.new 3 w #[.int .i64 x]
 obtain ⟨i0,hi,hz0,hz1,hz2⟩:=info_parts infoInt
 have hc:∀ j y,[Value.int .i64 x][j]? = some y->(w.alloc (.cells #[.int .i64 x] 3)).cell? ((⟨w.heap.size,0,none⟩:Addr).add j)=some y:=fun j y hj=>by
  rw [add_at,Nat.zero_add,X.cell];exact hj
 have h1c:∀ y ∈ [Value.int .i64 x],y.oneCell'=true:=fun y hy=>by rw [List.mem_singleton] at hy;subst hy;rfl
 obtain ⟨u',w',hrun,r1,r2,-⟩:=run_append_own (P:=Tryz.prog) (w.alloc (.cells #[.int .i64 x] 3)) w0.heap.size 57 57 3 i0 (.int .i64 0) 1 8 Tryz.underlying57 hi hz0 hz1 hz2 rfl (by decide) u l.length (numC l) h1.1 ⟨w.heap.size,0,none⟩ 1 1 [.int .i64 x] (by simp) hc h1c (by unfold maxLen;omega) (by omega) F1.bel.size
 have hw:=append_where (P:=Tryz.prog) w0.heap.size 57 57 3 i0 (.int .i64 0) 1 8 Tryz.underlying57 hi hz0 hz1 hz2 u l.length (numC l) h1.1 ⟨w.heap.size,0,none⟩ 1 1 [.int .i64 x] (by decide) (by simp) hc h1c (by unfold maxLen;omega) (by omega) hrun
 have hm:∀ k,u.ownBlock=some k->Mine b v (w.alloc (.cells #[.int .i64 x] 3)) k/\w0.heap.size<=k:=fun k hk=>⟨h1.2 k hk,(owns_in h1.1 k hk).1⟩
 obtain ⟨R2,M2⟩:=Rd.grown R0 R1 r2 hm
 refine ⟨u',w',hrun,⟨?_,fun k hk=>?_⟩,R2,⟨⟨by rw [r2.os];exact F1.bel.os,by rw [r2.tape];exact F1.bel.tape,by rw [r2.output];exact F1.bel.output,Nat.le_trans F1.bel.size r2.size,fun k hk=>?_⟩,fun k k1 k2 k3=>?_,F1.own,F1.lists⟩,fun kb cb hbb=>?_,fun y k hy=>(hy.step (Fr.of_below hal R.hB)).cells r2.size (fun i hi _=>M2 i hi) (fun i h1 h2=>r2.block i h2 (fun e=>by have:=(hm i e.symm).2;omega))⟩
 ·rw [show numC (l ++ [x])=numC l ++ [.int .i64 x] by simp [numC],List.length_append];exact r1
 ·rcases hw k hk with e|e
  ·exact M2 k (h1.2 k e)
  ·refine ⟨(owns_in r1 k hk).2,fun e2=>?_,fun e2=>?_,fun e2=>?_⟩
   ·have:=R1.lt;omega
   ·have:=R1.own_lt _ e2;omega
   ·have:=R1.cl_lt _ e2;omega
 ·have h0:=R0.hB
  have hs:=F1.bel.size
  rw [r2.block k (by omega) (fun e=>by have:=(hm k e.symm).2;omega)];exact F1.bel.block k hk
 ·have hs:=F1.bel.size
  rw [r2.block k (by omega) (fun e=>by have:=(hm k e.symm).2;omega)];exact F1.kept k k1 k2 k3
 ·have hb1:=hbb.box.alloc (.cells #[.int .i64 x] 3)
  refine ⟨M2 kb (hbb.mine.step (Fr.of_below hal R.hB)).1,hbb.at_,?_⟩
  unfold BoxN at hb1 ⊢
  rw [r2.block kb (lt_block hb1) (fun e=>?_)]
  ·exact hb1
  ·rcases h1.1.2 with ⟨q,-⟩|⟨g,cap,cur,q,-,hg,-⟩
   ·rw [q] at e;simp [Value.ownBlock] at e
   ·rw [q] at e
    simp [Value.ownBlock] at e
    subst e
    rw [hg] at hb1;simp at hb1
theorem bnd_inv {α β : Type} {m:PM α} {k : α -> PM β} {c : β} (h:bnd m k s = .ok c t):∃ a u,m s = .ok a u/\k a u = .ok c t:=by
 unfold bnd at h
 cases hm:m s with
 | ok a u=>rw [hm] at h;exact ⟨a,u,rfl,h⟩
 | bad c x=>rw [hm] at h;cases h
 | out=>rw [hm] at h;cases h
theorem many_len {one:PM Nat}:∀ (k:Nat) (l r:List Nat) (s t:PS),manyP C one k l s = .ok r t->r.length<=90000
 | 0,l,r,s,t,h=>by cases h
 | k+1,l,r,s,t,h=>by
  obtain ⟨_,u,h1,h2⟩:=bnd_inv h
  have hl:l.length<=90000:=cap_le (s:=s) (by rw [h1];intro e;cases e)
  obtain ⟨b,u2,h3,h4⟩:=bnd_inv h2
  cases b
  ·rw [if_neg (by decide)] at h4
   cases h4;exact hl
  ·rw [if_pos rfl] at h4
   obtain ⟨_,u3,-,h5⟩:=bnd_inv h4
   obtain ⟨a,u4,-,h6⟩:=bnd_inv h5
   exact many_len k _ r _ t h6
theorem list_len {one:PM Nat} {l:List Nat} (h:listP C one s = .ok l t):l.length<=90000:=by
 obtain ⟨_,u,-,h1⟩:=bnd_inv h
 obtain ⟨b,u2,-,h2⟩:=bnd_inv h1
 cases b
 ·rw [if_neg (by decide)] at h2
  obtain ⟨a,u3,-,h3⟩:=bnd_inv h2
  obtain ⟨l2,u4,h4,h5⟩:=bnd_inv h3
  obtain ⟨_,u5,-,h6⟩:=bnd_inv h5
  cases h6;exact many_len _ _ _ _ _ h4
 ·rw [if_pos rfl] at h2
  cases h2;simp
theorem good_fit {x:Nd} (h:goodN x=true):NdFit x:=by
 unfold goodN at h
 have:=of_decide_eq_true h
 exact ⟨by omega,by omega,by omega,by omega,by omega⟩
theorem atR_out (P:List Value) (hP:P.length=6) (L:List NdR) (u:Value) (i:Nat) (hb:BdR P w bB b L u) (hi:¬ i<L.length) (hL:L.length<=16384) :
  Calls Tryz.prog 250 #[.pointer (some ⟨b,6,none⟩),.int .i64 (i:Nat)] w fun e w'=>e = .returned (.agg #[.int .i64 0,.int .i64 0,.int .i64 0,.slice none 0 0,.string ⟨#[]⟩,.int .i64 0,.string ⟨#[]⟩,.int .i64 0,.string ⟨#[]⟩,.int .i64 0,.int .i64 0,.int .i64 0,.slice none 0 0])/\Below w.heap.size w w':=by
 obtain ⟨us,uc,rfl⟩:=hb.shape
 have c0:=hb.c6 hP
 have hbl:=hb.box.lt
 clear hb
 generalize L.length=n at *
 have i1:decide ((i:Int)<0)=false:=decide_eq_false (by omega)
 have i2:decide ((n:Int)<=(i:Int))=true:=decide_eq_true (by omega)
 have i3:n<=i:=by omega
 have i4:decide (n<=i)=true:=decide_eq_true i3
 have X:=Lib.hid (BoxN.new w #[.int .i64 0,.int .i64 0,.int .i64 0,.slice none 0 0,.string ⟨#[]⟩,.int .i64 0,.string ⟨#[]⟩,.int .i64 0,.string ⟨#[]⟩,.int .i64 0,.int .i64 0,.int .i64 0,.slice none 0 0])
 clear hP hi
 go_enter Tryz.func250,Tryz.ntmps250
 go_wp2_with fail
 obtain ⟨⟨r0,r1,r2,r3,r4,r5,r6,r7,r8,r9,r10,r11,r12⟩,rl,rf⟩:=X.out.all
 go_wp2_with fail
 refine bodyPost_ret (v:=.agg #[.int .i64 0,.int .i64 0,.int .i64 0,.slice none 0 0,.string ⟨#[]⟩,.int .i64 0,.string ⟨#[]⟩,.int .i64 0,.string ⟨#[]⟩,.int .i64 0,.int .i64 0,.int .i64 0,.slice none 0 0]) (by simp [results,Tryz.results250,go_sem,r0,r1,r2,r3,r4,r5,r6,r7,r8,r9,r10,r11,r12]) rfl ?_
 exact ⟨rfl,by repeat (first|exact Below.refl _ _|apply Below.setCell _ (by first|omega|(simp<;>omega))|apply Below.alloc _ (by first|omega|(simp<;>omega)))⟩
theorem kind_at (h:Rd C dd bB b tv wv s v w) (i:Nat):Calls Tryz.prog 250 #[.pointer (some ⟨b,6,none⟩),.int .i64 (i:Nat)] w fun e w'=>(∃ y1 y2 y3 y4 y5 y6 y7 y8 y9 y10 y11 y12,e = .returned (.agg #[.int .i64 (kindAt i s),y1,y2,y3,y4,y5,y6,y7,y8,y9,y10,y11,y12]))/\Below w.heap.size w w':=by
 obtain ⟨hLm,hbd⟩:=h.bd
 have hLl:v.L.length=s.made.length:=by rw [<- hLm,List.length_map]
 have hnd:=h.nodes
 by_cases hi:i<v.L.length
 ·have hx:s.made[i]? = some v.L[i].1:=by rw [<- hLm,List.getElem?_map,List.getElem?_eq_getElem hi];rfl
  have hk:kindAt i s=v.L[i].1.kind:=by unfold kindAt;rw [hx]
  have hg:=h.good v.L[i].1 (by rw [<- hLm];exact List.mem_map.2 ⟨_,List.getElem_mem hi,rfl⟩)
  refine (atR_any _ rfl bB b v.L v.v i w hbd hi (good_fit hg) (by omega)).mono ?_
  rintro e w1 ⟨s1,c1,s2,c2,rfl,hb,-,-⟩
  exact ⟨⟨_,_,_,_,_,_,_,_,_,_,_,_,by rw [hk]⟩,hb⟩
 ·have hx:s.made[i]? = none:=List.getElem?_eq_none (by omega)
  have hk:kindAt i s=0:=by unfold kindAt;rw [hx]
  refine (atR_out _ rfl v.L v.v i hbd hi (by omega)).mono ?_
  rintro e w1 ⟨rfl,hb⟩
  exact ⟨⟨_,_,_,_,_,_,_,_,_,_,_,_,by rw [hk]⟩,hb⟩
theorem field_node0 (w:World) (x0:Int) (y1 y2 y3 y4 y5 y6 y7 y8 y9 y10 y11 y12:Value):Sem.run Tryz.prog (Instr.field 61 (.agg #[.int .i64 x0,y1,y2,y3,y4,y5,y6,y7,y8,y9,y10,y11,y12]) 0) w=Result.ok (.int .i64 x0) w:=by kernel_rfl
end
end Go.Proofs.YtfehpdliobapfaaGreatDoor
namespace Go.Proofs.YtfehpdliobapfaaGreatDoor
open Go Go.RowKit
section
variable {C:PC} {dd bB b:Nat} {tv wv:Value} {s:PS} {v v1:RV} {w w1:World}
theorem valued_any (h:Rd C dd bB b tv wv s v w) {value:PM Nat} (HV:Does C dd bB b tv wv 249 value) (ho:valuedP C value s ≠ .out):Calls Tryz.prog 240 #[.pointer (some ⟨b,0,none⟩)] w (RQ C dd bB b tv wv v w repN (valuedP C value s)):=by
 have hf0:=field_node0
 have HR0:=Lib.hid h
 have R0:=Lib.hid h
 have F0:=Lib.hid (Fr.refl bB b v w)
 have HO:=Lib.hid ho
 have E0:=Lib.hid (congrFun (valuedP.eq_1 C value) s)
 clear h ho
 go_enter Tryz.func240,Tryz.ntmps240
 go_wp2_with fail
 refine (from_any' R0.out).mono ?_
 rintro e w85 ⟨rfl,hb⟩
 have R85:=Lib.hid (R0.out.step hb)
 have F85:=Lib.hid (F0.out.below hb R0.out.hB)
 clear hb R0 F0
 have E86:=Lib.hid (E0.out.trans look_go)
 clear E0
 go_wp2_with fail
 refine (HV _ _ _ R85.out (fun e=>HO.out (E86.out.trans (bnd_out e)))).mono ?_
 rintro e w87 (⟨x87,t87,v87,u87,hm,rfl,hrep,rd,fr⟩|⟨c,x,hm,rfl,hb⟩)
 rotate_left
 ·go_wp2_with fail
  exact ⟨rfl,rq_bad (E86.out.trans (bnd_bad hm)) (F85.out.bel.trans hb)⟩
 obtain rfl:u87 = .int .i64 (x87:Nat):=hrep
 have E87:=Lib.hid (E86.out.trans (bnd_ok hm))
 have R87:=Lib.hid rd
 have F87:=Lib.hid (F85.out.trans fr)
 clear hm rd fr E86 R85 F85
 go_wp2_with fail
 refine (kind_at R87.out x87).mono ?_
 rintro e w88 ⟨⟨y1,y2,y3,y4,y5,y6,y7,y8,y9,y10,y11,y12,rfl⟩,hb⟩
 have R88:=Lib.hid (R87.out.step hb)
 have F88:=Lib.hid (F87.out.below hb R87.out.hB)
 clear hb R87 F87
 have E89:=Lib.hid (E87.out.trans look_go)
 clear E87
 generalize kindAt x87 t87=kd at *
 go_wp2_with fail
 refine (sees_any R88.out _).mono ?_
 rintro e w90 ⟨rfl,hb⟩
 have R90:=Lib.hid (R88.out.step hb)
 have F90:=Lib.hid (F88.out.below hb R88.out.hB)
 clear hb R88 F88
 have E91:=Lib.hid (E89.out.trans look_go)
 clear E89
 cases hc92:sees C (⟨#[61]⟩:ByteArray) t87
 ·have E93:=Lib.hid (E91.out.trans (if_neg_go (fun e=>by rw [hc92] at e;cases e)))
  clear E91
  go_wp2_with fail
  refine (want_any R90.out _ (fun e=>HO.out (E93.out.trans (bnd_out e)))).mono ?_
  rintro e w94 (⟨x94,t94,v94,u94,hm,rfl,hrep,rd,fr⟩|⟨c,x,hm,rfl,hb⟩)
  rotate_left
  ·go_wp2_with fail
   exact ⟨rfl,rq_bad (E93.out.trans (bnd_bad hm)) (F90.out.bel.trans hb)⟩
  obtain rfl:u94 = .tuple #[]:=hrep
  have E94:=Lib.hid (E93.out.trans (bnd_ok hm))
  have R94:=Lib.hid rd
  have F94:=Lib.hid (F90.out.trans fr)
  clear hm rd fr E93 R90 F90
  have hal:Below w94.heap.size w94 (w94.alloc (.cells #[.int .i64 (x87:Int)] 3)):=(Below.refl _ _).alloc (Nat.le_refl _) _
  have K95:=Lib.hid (lst_one R94.out (x87:Int))
  have R95:=Lib.hid (R94.out.step hal)
  have F95:=Lib.hid (F94.out.below hal R94.out.hB)
  clear hal R94 F94
  go_wp2_with fail
  refine (make_any 18 0 0 [(x87:Int)] ⟨#[]⟩ 0 ⟨#[]⟩ 0 ⟨#[]⟩ 0 0 0 [] _ _ (fromS C s) R95.out (fun e=>HO.out (E94.out.trans (bnd_out e))) K95.out (lst_none _ _ _)).mono ?_
  rintro e w96 (⟨x96,t96,v96,u96,hm,rfl,hrep,rd,fr⟩|⟨c,x,hm,rfl,hb⟩)
  rotate_left
  ·go_wp2_with fail
   exact ⟨rfl,rq_bad (E94.out.trans (bnd_bad hm)) (F95.out.bel.trans hb)⟩
  obtain rfl:u96 = .int .i64 (x96:Nat):=hrep
  have E96:=Lib.hid (E94.out.trans (bnd_ok hm))
  have R96:=Lib.hid rd
  have F96:=Lib.hid (F95.out.trans fr)
  have K97:=Lib.hid (K95.out.step fr)
  clear K95
  clear hm rd fr E94 R95 F95
  by_cases hk:kd=29\/kd=30
  ·have E98:=Lib.hid (E96.out.trans (if_pos_go hk))
   clear E96
   by_cases h29:kd=29
   ·have p29:(kd != 29)=false:=by rw [h29];rfl
    clear hk h29
    go_wp2_with fail
    go_ret
    exact rq_ok (E98.out.trans ret_go) rfl R96.out F96.out
   have h30:kd=30:=by omega
   have p29:(kd != 29)=true:=by simp;omega
   have p30:(kd != 30)=false:=by rw [h30];rfl
   clear hk h29 h30
   go_wp2_with fail
   go_ret
   exact rq_ok (E98.out.trans ret_go) rfl R96.out F96.out
  ·have E99:=Lib.hid (E96.out.trans (if_neg_go hk))
   clear E96
   have p29:(kd != 29)=true:=by simp;omega
   have p30:(kd != 30)=true:=by simp;omega
   clear hk
   go_wp2_with fail
   refine (fail_any 132 _ _).mono ?_
   rintro e w100 ⟨rfl,rfl⟩
   go_wp2_with fail
   exact ⟨rfl,rq_bad (E99.out.trans thr_go) F96.out.bel⟩
 ·have E101:=Lib.hid (E91.out.trans (if_pos_go hc92))
  clear E91
  by_cases hk:kd=25\/kd=26\/kd=27
  ·have E102:=Lib.hid (E101.out.trans (if_pos_go hk))
   clear E101
   by_cases h25:kd=25
   ·have p25:(kd != 25)=false:=by rw [h25];rfl
    clear hk h25
    go_wp2_with fail
    refine (want_any R90.out _ (fun e=>HO.out (E102.out.trans (bnd_out e)))).mono ?_
    rintro e w103 (⟨x103,t103,v103,u103,hm,rfl,hrep,rd,fr⟩|⟨c,x,hm,rfl,hb⟩)
    rotate_left
    ·go_wp2_with fail
     exact ⟨rfl,rq_bad (E102.out.trans (bnd_bad hm)) (F90.out.bel.trans hb)⟩
    obtain rfl:u103 = .tuple #[]:=hrep
    have E103:=Lib.hid (E102.out.trans (bnd_ok hm))
    have R103:=Lib.hid rd
    have F103:=Lib.hid (F90.out.trans fr)
    clear hm rd fr E102 R90 F90
    go_wp2_with fail
    refine (HV _ _ _ R103.out (fun e=>HO.out (E103.out.trans (bnd_out e)))).mono ?_
    rintro e w104 (⟨x104,t104,v104,u104,hm,rfl,hrep,rd,fr⟩|⟨c,x,hm,rfl,hb⟩)
    rotate_left
    ·go_wp2_with fail
     exact ⟨rfl,rq_bad (E103.out.trans (bnd_bad hm)) (F103.out.bel.trans hb)⟩
    obtain rfl:u104 = .int .i64 (x104:Nat):=hrep
    have E104:=Lib.hid (E103.out.trans (bnd_ok hm))
    have R104:=Lib.hid rd
    have F104:=Lib.hid (F103.out.trans fr)
    clear hm rd fr E103 R103 F103
    have hal:Below w104.heap.size w104 (w104.alloc (.cells #[.int .i64 (x87:Int),.int .i64 (x104:Int)] 3)):=(Below.refl _ _).alloc (Nat.le_refl _) _
    have K105:=Lib.hid (lst_two R104.out (x87:Int) (x104:Int))
    have R105:=Lib.hid (R104.out.step hal)
    have F105:=Lib.hid (F104.out.below hal R104.out.hB)
    clear hal R104 F104
    go_wp2_with fail
    refine (want_any R105.out _ (fun e=>HO.out (E104.out.trans (bnd_out e)))).mono ?_
    rintro e w106 (⟨x106,t106,v106,u106,hm,rfl,hrep,rd,fr⟩|⟨c,x,hm,rfl,hb⟩)
    rotate_left
    ·go_wp2_with fail
     exact ⟨rfl,rq_bad (E104.out.trans (bnd_bad hm)) (F105.out.bel.trans hb)⟩
    obtain rfl:u106 = .tuple #[]:=hrep
    have E106:=Lib.hid (E104.out.trans (bnd_ok hm))
    have R106:=Lib.hid rd
    have F106:=Lib.hid (F105.out.trans fr)
    have K107:=Lib.hid (K105.out.step fr)
    clear K105
    clear hm rd fr E104 R105 F105
    go_wp2_with fail
    refine (make_any 10 0 0 [(x87:Int),(x104:Int)] ⟨#[]⟩ 0 ⟨#[]⟩ 0 ⟨#[]⟩ 0 0 0 [] _ _ (fromS C s) R106.out (fun e=>HO.out (E106.out.trans e)) K107.out (lst_none _ _ _)).mono ?_
    rintro e w108 (⟨x108,t108,v108,u108,hm,rfl,hrep,rd,fr⟩|⟨c,x,hm,rfl,hb⟩)
    rotate_left
    ·go_wp2_with fail
     exact ⟨rfl,rq_bad (E106.out.trans hm) (F106.out.bel.trans hb)⟩
    obtain rfl:u108 = .int .i64 (x108:Nat):=hrep
    have E108:=Lib.hid (E106.out.trans hm)
    have R108:=Lib.hid rd
    have F108:=Lib.hid (F106.out.trans fr)
    have K109:=Lib.hid (K107.out.step fr)
    clear K107
    clear hm rd fr E106 R106 F106
    go_wp2_with fail
    go_ret
    exact rq_ok E108.out rfl R108.out F108.out
   have p25:(kd != 25)=true:=by simp;omega
   by_cases h26:kd=26
   ·have p26:(kd != 26)=false:=by rw [h26];rfl
    clear hk h25 h26
    go_wp2_with fail
    refine (want_any R90.out _ (fun e=>HO.out (E102.out.trans (bnd_out e)))).mono ?_
    rintro e w110 (⟨x110,t110,v110,u110,hm,rfl,hrep,rd,fr⟩|⟨c,x,hm,rfl,hb⟩)
    rotate_left
    ·go_wp2_with fail
     exact ⟨rfl,rq_bad (E102.out.trans (bnd_bad hm)) (F90.out.bel.trans hb)⟩
    obtain rfl:u110 = .tuple #[]:=hrep
    have E110:=Lib.hid (E102.out.trans (bnd_ok hm))
    have R110:=Lib.hid rd
    have F110:=Lib.hid (F90.out.trans fr)
    clear hm rd fr E102 R90 F90
    go_wp2_with fail
    refine (HV _ _ _ R110.out (fun e=>HO.out (E110.out.trans (bnd_out e)))).mono ?_
    rintro e w111 (⟨x111,t111,v111,u111,hm,rfl,hrep,rd,fr⟩|⟨c,x,hm,rfl,hb⟩)
    rotate_left
    ·go_wp2_with fail
     exact ⟨rfl,rq_bad (E110.out.trans (bnd_bad hm)) (F110.out.bel.trans hb)⟩
    obtain rfl:u111 = .int .i64 (x111:Nat):=hrep
    have E111:=Lib.hid (E110.out.trans (bnd_ok hm))
    have R111:=Lib.hid rd
    have F111:=Lib.hid (F110.out.trans fr)
    clear hm rd fr E110 R110 F110
    have hal:Below w111.heap.size w111 (w111.alloc (.cells #[.int .i64 (x87:Int),.int .i64 (x111:Int)] 3)):=(Below.refl _ _).alloc (Nat.le_refl _) _
    have K112:=Lib.hid (lst_two R111.out (x87:Int) (x111:Int))
    have R112:=Lib.hid (R111.out.step hal)
    have F112:=Lib.hid (F111.out.below hal R111.out.hB)
    clear hal R111 F111
    go_wp2_with fail
    refine (want_any R112.out _ (fun e=>HO.out (E111.out.trans (bnd_out e)))).mono ?_
    rintro e w113 (⟨x113,t113,v113,u113,hm,rfl,hrep,rd,fr⟩|⟨c,x,hm,rfl,hb⟩)
    rotate_left
    ·go_wp2_with fail
     exact ⟨rfl,rq_bad (E111.out.trans (bnd_bad hm)) (F112.out.bel.trans hb)⟩
    obtain rfl:u113 = .tuple #[]:=hrep
    have E113:=Lib.hid (E111.out.trans (bnd_ok hm))
    have R113:=Lib.hid rd
    have F113:=Lib.hid (F112.out.trans fr)
    have K114:=Lib.hid (K112.out.step fr)
    clear K112
    clear hm rd fr E111 R112 F112
    go_wp2_with fail
    refine (make_any 10 0 0 [(x87:Int),(x111:Int)] ⟨#[]⟩ 0 ⟨#[]⟩ 0 ⟨#[]⟩ 0 0 0 [] _ _ (fromS C s) R113.out (fun e=>HO.out (E113.out.trans e)) K114.out (lst_none _ _ _)).mono ?_
    rintro e w115 (⟨x115,t115,v115,u115,hm,rfl,hrep,rd,fr⟩|⟨c,x,hm,rfl,hb⟩)
    rotate_left
    ·go_wp2_with fail
     exact ⟨rfl,rq_bad (E113.out.trans hm) (F113.out.bel.trans hb)⟩
    obtain rfl:u115 = .int .i64 (x115:Nat):=hrep
    have E115:=Lib.hid (E113.out.trans hm)
    have R115:=Lib.hid rd
    have F115:=Lib.hid (F113.out.trans fr)
    have K116:=Lib.hid (K114.out.step fr)
    clear K114
    clear hm rd fr E113 R113 F113
    go_wp2_with fail
    go_ret
    exact rq_ok E115.out rfl R115.out F115.out
   have p26:(kd != 26)=true:=by simp;omega
   have h27:kd=27:=by omega
   have p27:(kd != 27)=false:=by rw [h27];rfl
   clear hk h25 h26 h27
   go_wp2_with fail
   refine (want_any R90.out _ (fun e=>HO.out (E102.out.trans (bnd_out e)))).mono ?_
   rintro e w117 (⟨x117,t117,v117,u117,hm,rfl,hrep,rd,fr⟩|⟨c,x,hm,rfl,hb⟩)
   rotate_left
   ·go_wp2_with fail
    exact ⟨rfl,rq_bad (E102.out.trans (bnd_bad hm)) (F90.out.bel.trans hb)⟩
   obtain rfl:u117 = .tuple #[]:=hrep
   have E117:=Lib.hid (E102.out.trans (bnd_ok hm))
   have R117:=Lib.hid rd
   have F117:=Lib.hid (F90.out.trans fr)
   clear hm rd fr E102 R90 F90
   go_wp2_with fail
   refine (HV _ _ _ R117.out (fun e=>HO.out (E117.out.trans (bnd_out e)))).mono ?_
   rintro e w118 (⟨x118,t118,v118,u118,hm,rfl,hrep,rd,fr⟩|⟨c,x,hm,rfl,hb⟩)
   rotate_left
   ·go_wp2_with fail
    exact ⟨rfl,rq_bad (E117.out.trans (bnd_bad hm)) (F117.out.bel.trans hb)⟩
   obtain rfl:u118 = .int .i64 (x118:Nat):=hrep
   have E118:=Lib.hid (E117.out.trans (bnd_ok hm))
   have R118:=Lib.hid rd
   have F118:=Lib.hid (F117.out.trans fr)
   clear hm rd fr E117 R117 F117
   have hal:Below w118.heap.size w118 (w118.alloc (.cells #[.int .i64 (x87:Int),.int .i64 (x118:Int)] 3)):=(Below.refl _ _).alloc (Nat.le_refl _) _
   have K119:=Lib.hid (lst_two R118.out (x87:Int) (x118:Int))
   have R119:=Lib.hid (R118.out.step hal)
   have F119:=Lib.hid (F118.out.below hal R118.out.hB)
   clear hal R118 F118
   go_wp2_with fail
   refine (want_any R119.out _ (fun e=>HO.out (E118.out.trans (bnd_out e)))).mono ?_
   rintro e w120 (⟨x120,t120,v120,u120,hm,rfl,hrep,rd,fr⟩|⟨c,x,hm,rfl,hb⟩)
   rotate_left
   ·go_wp2_with fail
    exact ⟨rfl,rq_bad (E118.out.trans (bnd_bad hm)) (F119.out.bel.trans hb)⟩
   obtain rfl:u120 = .tuple #[]:=hrep
   have E120:=Lib.hid (E118.out.trans (bnd_ok hm))
   have R120:=Lib.hid rd
   have F120:=Lib.hid (F119.out.trans fr)
   have K121:=Lib.hid (K119.out.step fr)
   clear K119
   clear hm rd fr E118 R119 F119
   go_wp2_with fail
   refine (make_any 10 0 0 [(x87:Int),(x118:Int)] ⟨#[]⟩ 0 ⟨#[]⟩ 0 ⟨#[]⟩ 0 0 0 [] _ _ (fromS C s) R120.out (fun e=>HO.out (E120.out.trans e)) K121.out (lst_none _ _ _)).mono ?_
   rintro e w122 (⟨x122,t122,v122,u122,hm,rfl,hrep,rd,fr⟩|⟨c,x,hm,rfl,hb⟩)
   rotate_left
   ·go_wp2_with fail
    exact ⟨rfl,rq_bad (E120.out.trans hm) (F120.out.bel.trans hb)⟩
   obtain rfl:u122 = .int .i64 (x122:Nat):=hrep
   have E122:=Lib.hid (E120.out.trans hm)
   have R122:=Lib.hid rd
   have F122:=Lib.hid (F120.out.trans fr)
   have K123:=Lib.hid (K121.out.step fr)
   clear K121
   clear hm rd fr E120 R120 F120
   go_wp2_with fail
   go_ret
   exact rq_ok E122.out rfl R122.out F122.out
  ·have E124:=Lib.hid (E101.out.trans (if_neg_go hk))
   clear E101
   have p25:(kd != 25)=true:=by simp;omega
   have p26:(kd != 26)=true:=by simp;omega
   have p27:(kd != 27)=true:=by simp;omega
   clear hk
   go_wp2_with fail
   refine (from_any' R90.out).mono ?_
   rintro e w125 ⟨rfl,hb⟩
   have R125:=Lib.hid (R90.out.step hb)
   have F125:=Lib.hid (F90.out.below hb R90.out.hB)
   clear hb R90 F90
   have E126:=Lib.hid (E124.out.trans look_go)
   clear E124
   go_wp2_with fail
   refine (fail_any 132 _ _).mono ?_
   rintro e w127 ⟨rfl,rfl⟩
   go_wp2_with fail
   exact ⟨rfl,rq_bad (E126.out.trans thr_go) F125.out.bel⟩
theorem had_any (h:Rd C dd bB b tv wv s v w) {value:PM Nat} (HV:Does C dd bB b tv wv 249 value) (hK:CK C) (of f:Nat) (ho:hadP C value of f s ≠ .out):Calls Tryz.prog 263 #[.pointer (some ⟨b,0,none⟩),.int .i64 (of:Nat),.int .i64 (f:Nat)] w (RQ C dd bB b tv wv v w repN (hadP C value of f s)):=by
  have hmf:∀ (fn:Fn) (first cap:Array Value) (w:World),(Instr.makeFunc fn first cap).run Tryz.prog w = .ok (.func fn first cap) w:=fun _ _ _ _=>rfl
  have HR0:=Lib.hid h
  have R0:=Lib.hid h
  have F0:=Lib.hid (Fr.refl bB b v w)
  have HO:=Lib.hid ho
  have E0:=Lib.hid (congrFun (hadP.eq_1 C value of f) s)
  clear h ho
  go_enter Tryz.func263,Tryz.ntmps263
  have hal:Below w.heap.size w (w.alloc (.cells #[.int .i64 (of:Int)] 3)):=(Below.refl _ _).alloc (Nat.le_refl _) _
  have K128:=Lib.hid (own_one HR0.out R0.out F0.out (of:Int))
  have R128:=Lib.hid (R0.out.step hal)
  have F128:=Lib.hid (F0.out.below hal R0.out.hB)
  clear hal R0 F0
  have hal:Below (w.alloc (.cells #[.int .i64 (of:Int)] 3)).heap.size (w.alloc (.cells #[.int .i64 (of:Int)] 3)) ((w.alloc (.cells #[.int .i64 (of:Int)] 3)).alloc (.cells #[.int .i64 0,.int .i64 0,.int .i64 0,.slice (some ⟨w.heap.size,0,none⟩) 1 1,.string ⟨#[]⟩,.int .i64 0,.string ⟨#[]⟩,.int .i64 0,.string ⟨#[]⟩,.int .i64 0,.int .i64 0,.int .i64 0,.slice none 0 0] 61)):=(Below.refl _ _).alloc (Nat.le_refl _) _
  have B129:=Lib.hid (box_new1 R128.out F128.out #[.int .i64 0,.int .i64 0,.int .i64 0,.slice (some ⟨w.heap.size,0,none⟩) 1 1,.string ⟨#[]⟩,.int .i64 0,.string ⟨#[]⟩,.int .i64 0,.string ⟨#[]⟩,.int .i64 0,.int .i64 0,.int .i64 0,.slice none 0 0])
  have K130:=Lib.hid (K128.out.step (Fr.of_below hal R128.out.hB))
  clear K128
  have R129:=Lib.hid (R128.out.step hal)
  have F129:=Lib.hid (F128.out.below hal R128.out.hB)
  clear hal R128 F128
  go_wp2_with fail
  refine (take_any R129.out _ (fun e=>HO.out (E0.out.trans (bnd_out e)))).mono ?_
  rintro e w131 (⟨x131,t131,v131,u131,hm,rfl,hrep,rd,fr⟩|⟨c,x,hm,rfl,hb⟩)
  rotate_left
  · go_wp2_with fail
    exact ⟨rfl,rq_bad (E0.out.trans (bnd_bad hm)) (F129.out.bel.trans hb)⟩
  obtain rfl:u131 = .bool x131:=hrep
  have E131:=Lib.hid (E0.out.trans (bnd_ok hm))
  have R131:=Lib.hid rd
  have F131:=Lib.hid (F129.out.trans fr)
  have K132:=Lib.hid (K130.out.step fr)
  clear K130
  have B133:=Lib.hid (B129.out.step fr)
  clear B129
  clear hm rd fr E0 R129 F129
  cases x131
  · have E134:=Lib.hid (E131.out.trans (if_neg_go (by decide)))
    clear E131
    go_wp2_with fail
    refine (take_any R131.out _ (fun e=>HO.out (E134.out.trans (bnd_out e)))).mono ?_
    rintro e w135 (⟨x135,t135,v135,u135,hm,rfl,hrep,rd,fr⟩|⟨c,x,hm,rfl,hb⟩)
    rotate_left
    · go_wp2_with fail
      exact ⟨rfl,rq_bad (E134.out.trans (bnd_bad hm)) (F131.out.bel.trans hb)⟩
    obtain rfl:u135 = .bool x135:=hrep
    have E135:=Lib.hid (E134.out.trans (bnd_ok hm))
    have R135:=Lib.hid rd
    have F135:=Lib.hid (F131.out.trans fr)
    have K136:=Lib.hid (K132.out.step fr)
    clear K132
    have B137:=Lib.hid (B133.out.step fr)
    clear B133
    clear hm rd fr E134 R131 F131
    cases x135
    · have E138:=Lib.hid (E135.out.trans (if_neg_go (by decide)))
      clear E135
      go_wp2_with fail
      refine (name_any R135.out hK (fun e=>HO.out (E138.out.trans (bnd_out e)))).mono ?_
      rintro e w139 (⟨x139,t139,v139,u139,hm,rfl,hrep,rd,fr⟩|⟨c,x,hm,rfl,hb⟩)
      rotate_left
      · go_wp2_with fail
        exact ⟨rfl,rq_bad (E138.out.trans (bnd_bad hm)) (F135.out.bel.trans hb)⟩
      obtain rfl:u139 = .string x139:=hrep
      have E139:=Lib.hid (E138.out.trans (bnd_ok hm))
      have R139:=Lib.hid rd
      have F139:=Lib.hid (F135.out.trans fr)
      have K140:=Lib.hid (K136.out.step fr)
      clear K136
      have B141:=Lib.hid (B137.out.step fr)
      clear B137
      clear hm rd fr E138 R135 F135
      obtain ⟨⟨a0,a1,a2,a3,a4,a5,a6,a7,a8,a9,a10,a11,a12⟩,al,af⟩:=(show BoxN w139 (w.heap.size+1) [.int .i64 0,.int .i64 0,.int .i64 0,.slice (some ⟨w.heap.size,0,none⟩) 1 1,.string ⟨#[]⟩,.int .i64 0,.string ⟨#[]⟩,.int .i64 0,.string ⟨#[]⟩,.int .i64 0,.int .i64 0,.int .i64 0,.slice none 0 0] from B141.out.box).all
      obtain ⟨rd,fr,bx⟩:=box_set HR0.out R139.out F139.out B141.out 0 (.int .i64 26)
      have K143:=Lib.hid (K140.out.set B141.out 0 (.int .i64 26))
      clear K140
      have R142:=Lib.hid rd
      have F142:=Lib.hid fr
      have B142:=Lib.hid bx
      clear rd fr bx R139 F139 B141
      obtain ⟨rd,fr,bx⟩:=box_set HR0.out R142.out F142.out B142.out 4 (.string x139)
      have K145:=Lib.hid (K143.out.set B142.out 4 (.string x139))
      clear K143
      have R144:=Lib.hid rd
      have F144:=Lib.hid fr
      have B144:=Lib.hid bx
      clear rd fr bx R142 F142 B142
      go_wp2_with fail
      clear a0 a1 a2 a3 a4 a5 a6 a7 a8 a9 a10 a11 a12 al af
      refine (sees_any R144.out _).mono ?_
      rintro e w146 ⟨rfl,hb⟩
      have R146:=Lib.hid (R144.out.step hb)
      have F146:=Lib.hid (F144.out.below hb R144.out.hB)
      have K147:=Lib.hid (K145.out.step (Fr.of_below hb R144.out.hB))
      clear K145
      have B148:=Lib.hid (B144.out.step (Fr.of_below hb R144.out.hB))
      clear B144
      clear hb R144 F144
      have E149:=Lib.hid (E139.out.trans look_go)
      clear E139
      cases hc150:sees C (⟨#[40]⟩:ByteArray) t139
      · have E151:=Lib.hid (E149.out.trans (if_neg_go (fun e=>by rw [hc150] at e;cases e)))
        clear E149
        obtain ⟨⟨a0,a1,a2,a3,a4,a5,a6,a7,a8,a9,a10,a11,a12⟩,al,af⟩:=(show BoxN w146 (w.heap.size+1) [.int .i64 26,.int .i64 0,.int .i64 0,.slice (some ⟨w.heap.size,0,none⟩) 1 1,.string x139,.int .i64 0,.string ⟨#[]⟩,.int .i64 0,.string ⟨#[]⟩,.int .i64 0,.int .i64 0,.int .i64 0,.slice none 0 0] from B148.out.box).all
        go_wp2_with fail
        clear a0 a1 a2 a3 a4 a5 a6 a7 a8 a9 a10 a11 a12 al af
        refine (make_any 26 0 0 [(of:Int)] x139 0 ⟨#[]⟩ 0 ⟨#[]⟩ 0 0 0 [] _ _ (f:Nat) R146.out (fun e=>HO.out (E151.out.trans e)) K147.out.lst (lst_none _ _ _)).mono ?_
        rintro e w152 (⟨x152,t152,v152,u152,hm,rfl,hrep,rd,fr⟩|⟨c,x,hm,rfl,hb⟩)
        rotate_left
        · go_wp2_with fail
          exact ⟨rfl,rq_bad (E151.out.trans hm) (F146.out.bel.trans hb)⟩
        obtain rfl:u152 = .int .i64 (x152:Nat):=hrep
        have E152:=Lib.hid (E151.out.trans hm)
        have R152:=Lib.hid rd
        have F152:=Lib.hid (F146.out.trans fr)
        have K153:=Lib.hid (K147.out.step fr)
        clear K147
        have B154:=Lib.hid (B148.out.step fr)
        clear B148
        clear hm rd fr E151 R146 F146
        go_wp2_with fail
        go_ret
        exact rq_ok E152.out rfl R152.out F152.out
      · have E155:=Lib.hid (E149.out.trans (if_pos_go hc150))
        clear E149
        obtain ⟨⟨a0,a1,a2,a3,a4,a5,a6,a7,a8,a9,a10,a11,a12⟩,al,af⟩:=(show BoxN w146 (w.heap.size+1) [.int .i64 26,.int .i64 0,.int .i64 0,.slice (some ⟨w.heap.size,0,none⟩) 1 1,.string x139,.int .i64 0,.string ⟨#[]⟩,.int .i64 0,.string ⟨#[]⟩,.int .i64 0,.int .i64 0,.int .i64 0,.slice none 0 0] from B148.out.box).all
        obtain ⟨rd,fr,bx⟩:=box_set HR0.out R146.out F146.out B148.out 0 (.int .i64 29)
        have K157:=Lib.hid (K147.out.set B148.out 0 (.int .i64 29))
        clear K147
        have R156:=Lib.hid rd
        have F156:=Lib.hid fr
        have B156:=Lib.hid bx
        clear rd fr bx R146 F146 B148
        obtain ⟨W2,hW2⟩:∃ W2,W2=(w146.setCell ⟨w.heap.size+1,0,none⟩ (.int .i64 29)):=⟨_,rfl⟩
        rw [<- hW2] at R156 F156 B156 K157
        have HW2:=Lib.hid hW2
        clear hW2
        have HCL:=Lib.hid (fun (w2:World) (hb:Below W2.heap.size W2 w2)=>listV_any (R156.out.step hb) HV (fun e=>HO.out (E155.out.trans (bnd_out e))))
        go_wp2_with fail
        rw [<- HW2.out]
        obtain ⟨⟨a0,a1,a2,a3,a4,a5,a6,a7,a8,a9,a10,a11,a12⟩,al,af⟩:=(show BoxN W2 (w.heap.size+1) [.int .i64 29,.int .i64 0,.int .i64 0,.slice (some ⟨w.heap.size,0,none⟩) 1 1,.string x139,.int .i64 0,.string ⟨#[]⟩,.int .i64 0,.string ⟨#[]⟩,.int .i64 0,.int .i64 0,.int .i64 0,.slice none 0 0] from B156.out.box).all
        go_region_law (first
          | (refine step_append_run rfl (.tmp 19) (.tmp 23) rfl _ _ _ _ (by simp [Act.eval]) (by simp [Act.eval]) HAP.out ?_
             obtain ⟨⟨q0,q1,q2,q3,q4,q5,q6,q7,q8,q9,q10,q11,q12⟩,ql,qf⟩:=(show BoxN W6 (w.heap.size+1) [.int .i64 29,.int .i64 0,.int .i64 0,.slice (some ⟨w.heap.size,0,none⟩) 1 1,.string x139,.int .i64 0,.string ⟨#[]⟩,.int .i64 0,.string ⟨#[]⟩,.int .i64 0,.int .i64 0,.int .i64 0,.slice none 0 0] from B6.out.box).all)
          | (go_simp
             go_at_call 205
             refine (HCL.out _ ((Below.refl _ _).drew)).mono ?_
             rintro e W5 (⟨x5,t5,v5,u5,hm,rfl,hrep,rd,fr⟩|⟨c,x,hm,rfl,hb5⟩)
             rotate_left
             · go_wp2_with fail
               exact ⟨rfl,rq_bad (E155.out.trans (bnd_bad hm)) (F156.out.bel.trans ((Below.refl _ _).drew.trans hb5))⟩
             have E5:=Lib.hid (E155.out.trans (bnd_ok hm))
             have hbd:Below W2.heap.size W2 W2.drew:=(Below.refl _ _).drew
             have R5:=Lib.hid rd
             have F5:=Lib.hid ((F156.out.below hbd R156.out.hB).trans fr)
             have B5:=Lib.hid ((B156.out.step (Fr.of_below hbd R156.out.hB)).step fr)
             have K5:=Lib.hid ((K157.out.step (Fr.of_below hbd R156.out.hB)).step fr)
             obtain ⟨u6,W6,hap,ow,rd6,fr6,hkeep,hold⟩:=own_append_list HR0.out R5.out F5.out K5.out (Own.mono hrep F156.out.bel.size) (by have:=list_len hm;simp;omega)
             obtain ⟨us6,uc6,hu6⟩:=owns_shape ow.1
             obtain ⟨n6,hn6⟩:∃ n6,n6=([(of:Int)] ++ x5.map Int.ofNat).length:=⟨_,rfl⟩
             rw [<- hn6] at hu6
             have HN6:=Lib.hid hn6
             clear hn6
             subst hu6
             have HAP:=Lib.hid hap
             have K6:=Lib.hid ow
             have R6:=Lib.hid rd6
             have F6:=Lib.hid fr6
             have B6:=Lib.hid (hkeep _ _ B5.out)
             obtain ⟨⟨y0,y1,y2,y3,y4,y5,y6,y7,y8,y9,y10,y11,y12⟩,yl,yf⟩:=(show BoxN W5 (w.heap.size+1) [.int .i64 29,.int .i64 0,.int .i64 0,.slice (some ⟨w.heap.size,0,none⟩) 1 1,.string x139,.int .i64 0,.string ⟨#[]⟩,.int .i64 0,.string ⟨#[]⟩,.int .i64 0,.int .i64 0,.int .i64 0,.slice none 0 0] from B5.out.box).all
             clear hm hap ow rd fr rd6 fr6 hkeep hold hbd))
        all_goals
          obtain ⟨⟨a0,a1,a2,a3,a4,a5,a6,a7,a8,a9,a10,a11,a12⟩,al,af⟩:=(show BoxN W6 (w.heap.size+1) [.int .i64 29,.int .i64 0,.int .i64 0,.slice (some ⟨w.heap.size,0,none⟩) 1 1,.string x139,.int .i64 0,.string ⟨#[]⟩,.int .i64 0,.string ⟨#[]⟩,.int .i64 0,.int .i64 0,.int .i64 0,.slice none 0 0] from B6.out.box).all
          obtain ⟨rd,fr,bx⟩:=box_set HR0.out R6.out F6.out B6.out 3 (.slice us6 n6 uc6)
          have K160:=Lib.hid (K6.out.set B6.out 3 (.slice us6 n6 uc6))
          clear K6
          have R159:=Lib.hid rd
          have F159:=Lib.hid fr
          have B159:=Lib.hid bx
          clear rd fr bx R6 F6 B6
          go_wp2_with fail
          clear a0 a1 a2 a3 a4 a5 a6 a7 a8 a9 a10 a11 a12 al af
          refine (make_any 29 0 0 ((of :: x5).map Int.ofNat) x139 0 ⟨#[]⟩ 0 ⟨#[]⟩ 0 0 0 [] _ _ (f:Nat) R159.out (fun e=>HO.out (E5.out.trans e)) K160.out.lst (lst_none _ _ _)).mono ?_
          rintro e w161 (⟨x161,t161,v161,u161,hm,rfl,hrep,rd,fr⟩|⟨c,x,hm,rfl,hb⟩)
          rotate_left
          · go_wp2_with fail
            exact ⟨rfl,rq_bad (E5.out.trans hm) (F159.out.bel.trans hb)⟩
          obtain rfl:u161 = .int .i64 (x161:Nat):=hrep
          have E161:=Lib.hid (E5.out.trans hm)
          have R161:=Lib.hid rd
          have F161:=Lib.hid (F159.out.trans fr)
          have K162:=Lib.hid (K160.out.step fr)
          clear K160
          have B163:=Lib.hid (B159.out.step fr)
          clear B159
          clear hm rd fr E5 R159 F159
          go_wp2_with fail
          go_ret
          exact rq_ok E161.out rfl R161.out F161.out
    · have E164:=Lib.hid (E135.out.trans (if_pos_go rfl))
      clear E135
      obtain ⟨⟨a0,a1,a2,a3,a4,a5,a6,a7,a8,a9,a10,a11,a12⟩,al,af⟩:=(show BoxN w135 (w.heap.size+1) [.int .i64 0,.int .i64 0,.int .i64 0,.slice (some ⟨w.heap.size,0,none⟩) 1 1,.string ⟨#[]⟩,.int .i64 0,.string ⟨#[]⟩,.int .i64 0,.string ⟨#[]⟩,.int .i64 0,.int .i64 0,.int .i64 0,.slice none 0 0] from B137.out.box).all
      obtain ⟨rd,fr,bx⟩:=box_set HR0.out R135.out F135.out B137.out 0 (.int .i64 45)
      have K166:=Lib.hid (K136.out.set B137.out 0 (.int .i64 45))
      clear K136
      have R165:=Lib.hid rd
      have F165:=Lib.hid fr
      have B165:=Lib.hid bx
      clear rd fr bx R135 F135 B137
      go_wp2_with fail
      clear a0 a1 a2 a3 a4 a5 a6 a7 a8 a9 a10 a11 a12 al af
      refine (make_any 45 0 0 [(of:Int)] ⟨#[]⟩ 0 ⟨#[]⟩ 0 ⟨#[]⟩ 0 0 0 [] _ _ (f:Nat) R165.out (fun e=>HO.out (E164.out.trans e)) K166.out.lst (lst_none _ _ _)).mono ?_
      rintro e w167 (⟨x167,t167,v167,u167,hm,rfl,hrep,rd,fr⟩|⟨c,x,hm,rfl,hb⟩)
      rotate_left
      · go_wp2_with fail
        exact ⟨rfl,rq_bad (E164.out.trans hm) (F165.out.bel.trans hb)⟩
      obtain rfl:u167 = .int .i64 (x167:Nat):=hrep
      have E167:=Lib.hid (E164.out.trans hm)
      have R167:=Lib.hid rd
      have F167:=Lib.hid (F165.out.trans fr)
      have K168:=Lib.hid (K166.out.step fr)
      clear K166
      have B169:=Lib.hid (B165.out.step fr)
      clear B165
      clear hm rd fr E164 R165 F165
      go_wp2_with fail
      go_ret
      exact rq_ok E167.out rfl R167.out F167.out
  · have E170:=Lib.hid (E131.out.trans (if_pos_go rfl))
    clear E131
    obtain ⟨⟨a0,a1,a2,a3,a4,a5,a6,a7,a8,a9,a10,a11,a12⟩,al,af⟩:=(show BoxN w131 (w.heap.size+1) [.int .i64 0,.int .i64 0,.int .i64 0,.slice (some ⟨w.heap.size,0,none⟩) 1 1,.string ⟨#[]⟩,.int .i64 0,.string ⟨#[]⟩,.int .i64 0,.string ⟨#[]⟩,.int .i64 0,.int .i64 0,.int .i64 0,.slice none 0 0] from B133.out.box).all
    obtain ⟨rd,fr,bx⟩:=box_set HR0.out R131.out F131.out B133.out 0 (.int .i64 28)
    have K172:=Lib.hid (K132.out.set B133.out 0 (.int .i64 28))
    clear K132
    have R171:=Lib.hid rd
    have F171:=Lib.hid fr
    have B171:=Lib.hid bx
    clear rd fr bx R131 F131 B133
    go_wp2_with fail
    clear a0 a1 a2 a3 a4 a5 a6 a7 a8 a9 a10 a11 a12 al af
    refine (make_any 28 0 0 [(of:Int)] ⟨#[]⟩ 0 ⟨#[]⟩ 0 ⟨#[]⟩ 0 0 0 [] _ _ (f:Nat) R171.out (fun e=>HO.out (E170.out.trans e)) K172.out.lst (lst_none _ _ _)).mono ?_
    rintro e w173 (⟨x173,t173,v173,u173,hm,rfl,hrep,rd,fr⟩|⟨c,x,hm,rfl,hb⟩)
    rotate_left
    · go_wp2_with fail
      exact ⟨rfl,rq_bad (E170.out.trans hm) (F171.out.bel.trans hb)⟩
    obtain rfl:u173 = .int .i64 (x173:Nat):=hrep
    have E173:=Lib.hid (E170.out.trans hm)
    have R173:=Lib.hid rd
    have F173:=Lib.hid (F171.out.trans fr)
    have K174:=Lib.hid (K172.out.step fr)
    clear K172
    have B175:=Lib.hid (B171.out.step fr)
    clear B171
    clear hm rd fr E170 R171 F171
    go_wp2_with fail
    go_ret
    exact rq_ok E173.out rfl R173.out F173.out
theorem body_any (kd sf st:Int) (tx:ByteArray) (Bb:Int) (Nn:ByteArray) (Dd:Int) (Mm:ByteArray) (nm wf wt:Int) (es:List Int) (ev:Value) (f:Nat) (h:Rd C dd bB b tv wv s v w) {block:PM Nat} (HB:Does C dd bB b tv wv 207 block) (hK:CK C) (hev:Lst b v w ev es) (ho:bodyP C block ⟨kd,sf,st,[],tx,Bb,Nn,Dd,Mm,nm,wf,wt,es⟩ f s ≠ .out):Calls Tryz.prog 185 #[.pointer (some ⟨b,0,none⟩),.agg #[.int .i64 kd,.int .i64 sf,.int .i64 st,.slice none 0 0,.string tx,.int .i64 Bb,.string Nn,.int .i64 Dd,.string Mm,.int .i64 nm,.int .i64 wf,.int .i64 wt,ev],.int .i64 (f:Nat)] w (RQ C dd bB b tv wv v w repN (bodyP C block ⟨kd,sf,st,[],tx,Bb,Nn,Dd,Mm,nm,wf,wt,es⟩ f s)):=by
  obtain ⟨us,uc,hu,hus⟩:=hev.1
  have KE:=Lib.hid (show Old w b v w ev es from ⟨hev,fun k hk=>(hev.2 k hk).lt⟩)
  subst hu
  have hmf:∀ (fn:Fn) (first cap:Array Value) (w:World),(Instr.makeFunc fn first cap).run Tryz.prog w = .ok (.func fn first cap) w:=fun _ _ _ _=>rfl
  have HPM:Does C dd bB b tv wv 206 (paramP C):=fun s v w h ho=>param_any h hK ho
  have HR0:=Lib.hid h
  have R0:=Lib.hid h
  have F0:=Lib.hid (Fr.refl bB b v w)
  have HO:=Lib.hid ho
  have E0:=Lib.hid (congrFun (bodyP.eq_1 C block ⟨kd,sf,st,[],tx,Bb,Nn,Dd,Mm,nm,wf,wt,es⟩ f) s)
  clear h ho hev hus
  go_enter Tryz.func185,Tryz.ntmps185
  have hal:Below w.heap.size w (w.alloc (.cells #[.int .i64 kd,.int .i64 sf,.int .i64 st,.slice none 0 0,.string tx,.int .i64 Bb,.string Nn,.int .i64 Dd,.string Mm,.int .i64 nm,.int .i64 wf,.int .i64 wt,.slice us es.length uc] 61)):=(Below.refl _ _).alloc (Nat.le_refl _) _
  have B176:=Lib.hid (box_new R0.out F0.out #[.int .i64 kd,.int .i64 sf,.int .i64 st,.slice none 0 0,.string tx,.int .i64 Bb,.string Nn,.int .i64 Dd,.string Mm,.int .i64 nm,.int .i64 wf,.int .i64 wt,.slice us es.length uc])
  have K177:=Lib.hid (KE.out.step (Fr.of_below hal R0.out.hB))
  clear KE
  have R176:=Lib.hid (R0.out.step hal)
  have F176:=Lib.hid (F0.out.below hal R0.out.hB)
  clear hal R0 F0
  go_wp2_with fail
  refine (listPm_any R176.out HPM (fun e=>HO.out (E0.out.trans (bnd_out e)))).mono ?_
  rintro e w178 (⟨x178,t178,v178,u178,hm,rfl,hrep,rd,fr⟩|⟨c,x,hm,rfl,hb⟩)
  rotate_left
  · go_wp2_with fail
    exact ⟨rfl,rq_bad (E0.out.trans (bnd_bad hm)) (F176.out.bel.trans hb)⟩
  have K178:=Lib.hid (Own.mono hrep F176.out.bel.size)
  have E178:=Lib.hid (E0.out.trans (bnd_ok hm))
  have R178:=Lib.hid rd
  have F178:=Lib.hid (F176.out.trans fr)
  have K179:=Lib.hid (K177.out.step fr)
  clear K177
  have B180:=Lib.hid (B176.out.step fr)
  clear B176
  have HLL:=Lib.hid (list_len hm)
  clear hm rd fr E0 R176 F176
  clear hrep
  obtain ⟨us178,uc178,hu⟩:=owns_shape K178.out.1
  rw [List.length_map] at hu
  subst hu
  obtain ⟨⟨a0,a1,a2,a3,a4,a5,a6,a7,a8,a9,a10,a11,a12⟩,al,af⟩:=(show BoxN w178 (w.heap.size) [.int .i64 kd,.int .i64 sf,.int .i64 st,.slice none 0 0,.string tx,.int .i64 Bb,.string Nn,.int .i64 Dd,.string Mm,.int .i64 nm,.int .i64 wf,.int .i64 wt,.slice us es.length uc] from B180.out.box).all
  obtain ⟨rd,fr,bx⟩:=box_set HR0.out R178.out F178.out B180.out 3 (.slice us178 x178.length uc178)
  have K182:=Lib.hid (K179.out.set B180.out 3 (.slice us178 x178.length uc178))
  clear K179
  have K183:=Lib.hid (K178.out.set B180.out 3 (.slice us178 x178.length uc178))
  clear K178
  have R181:=Lib.hid rd
  have F181:=Lib.hid fr
  have B181:=Lib.hid bx
  clear rd fr bx R178 F178 B180
  obtain ⟨W2,hW2⟩:∃ W2,W2=(w178.setCell ⟨w.heap.size,3,none⟩ (.slice us178 x178.length uc178)):=⟨_,rfl⟩
  rw [<- hW2] at R181 F181 B181 K183 K182
  have HW2:=Lib.hid hW2
  clear hW2
  have HCL:=Lib.hid (fun (w2:World) (hb:Below W2.heap.size W2 w2)=>HB _ _ _ (R181.out.step hb) (fun e=>HO.out (E178.out.trans (bnd_out e))))
  go_wp2_with fail
  rw [<- HW2.out]
  obtain ⟨⟨a0,a1,a2,a3,a4,a5,a6,a7,a8,a9,a10,a11,a12⟩,al,af⟩:=(show BoxN W2 (w.heap.size) [.int .i64 kd,.int .i64 sf,.int .i64 st,.slice us178 x178.length uc178,.string tx,.int .i64 Bb,.string Nn,.int .i64 Dd,.string Mm,.int .i64 nm,.int .i64 wf,.int .i64 wt,.slice us es.length uc] from B181.out.box).all
  go_region_law (first
    | (refine step_append_run rfl (.tmp 13) (.tmp 16) rfl _ _ _ _ (by simp [Act.eval]) (by simp [Act.eval]) HAP.out ?_
       obtain ⟨⟨q0,q1,q2,q3,q4,q5,q6,q7,q8,q9,q10,q11,q12⟩,ql,qf⟩:=(show BoxN W6 (w.heap.size) [.int .i64 kd,.int .i64 sf,.int .i64 st,.slice us178 x178.length uc178,.string tx,.int .i64 Bb,.string Nn,.int .i64 Dd,.string Mm,.int .i64 nm,.int .i64 wf,.int .i64 wt,.slice us es.length uc] from B6.out.box).all)
    | (go_simp
       go_at_call 207
       refine (HCL.out _ ((Below.refl _ _).drew)).mono ?_
       rintro e W5 (⟨x5,t5,v5,u5,hm,rfl,hrep,rd,fr⟩|⟨c,x,hm,rfl,hb5⟩)
       rotate_left
       · go_wp2_with fail
         exact ⟨rfl,rq_bad (E178.out.trans (bnd_bad hm)) (F181.out.bel.trans ((Below.refl _ _).drew.trans hb5))⟩
       have E5:=Lib.hid (E178.out.trans (bnd_ok hm))
       have hbd:Below W2.heap.size W2 W2.drew:=(Below.refl _ _).drew
       have R5:=Lib.hid rd
       have F5:=Lib.hid ((F181.out.below hbd R181.out.hB).trans fr)
       have B5:=Lib.hid ((B181.out.step (Fr.of_below hbd R181.out.hB)).step fr)
       have K5:=Lib.hid ((K183.out.step (Fr.of_below hbd R181.out.hB)).step fr)
       obtain rfl:u5 = .int .i64 (x5:Nat):=hrep
       obtain ⟨u6,W6,hap,ow,rd6,fr6,hkeep,hold⟩:=own_append3 HR0.out R5.out F5.out K5.out (x5:Int) (by rw [List.length_map];have:=HLL.out;omega)
       obtain ⟨us6,uc6,hu6⟩:=owns_shape ow.1
       obtain ⟨n6,hn6⟩:∃ n6,n6=(x178.map Int.ofNat ++ [(x5:Int)]).length:=⟨_,rfl⟩
       rw [<- hn6] at hu6
       have HN6:=Lib.hid hn6
       clear hn6
       subst hu6
       have HAP:=Lib.hid hap
       have K6:=Lib.hid ow
       have R6:=Lib.hid rd6
       have F6:=Lib.hid fr6
       have B6:=Lib.hid (hkeep _ _ B5.out)
       obtain ⟨⟨y0,y1,y2,y3,y4,y5,y6,y7,y8,y9,y10,y11,y12⟩,yl,yf⟩:=(show BoxN W5 (w.heap.size) [.int .i64 kd,.int .i64 sf,.int .i64 st,.slice us178 x178.length uc178,.string tx,.int .i64 Bb,.string Nn,.int .i64 Dd,.string Mm,.int .i64 nm,.int .i64 wf,.int .i64 wt,.slice us es.length uc] from B5.out.box).all
       have KAE:=Lib.hid (hold _ _ ((K182.out.step (Fr.of_below hbd R181.out.hB)).step fr))
       clear hm hap ow rd fr rd6 fr6 hkeep hold hbd))
  all_goals
    obtain ⟨⟨a0,a1,a2,a3,a4,a5,a6,a7,a8,a9,a10,a11,a12⟩,al,af⟩:=(show BoxN W6 (w.heap.size) [.int .i64 kd,.int .i64 sf,.int .i64 st,.slice us178 x178.length uc178,.string tx,.int .i64 Bb,.string Nn,.int .i64 Dd,.string Mm,.int .i64 nm,.int .i64 wf,.int .i64 wt,.slice us es.length uc] from B6.out.box).all
    obtain ⟨rd,fr,bx⟩:=box_set HR0.out R6.out F6.out B6.out 3 (.slice us6 n6 uc6)
    have K186:=Lib.hid (KAE.out.set B6.out 3 (.slice us6 n6 uc6))
    clear KAE
    have K187:=Lib.hid (K6.out.set B6.out 3 (.slice us6 n6 uc6))
    clear K6
    have R185:=Lib.hid rd
    have F185:=Lib.hid fr
    have B185:=Lib.hid bx
    clear rd fr bx R6 F6 B6
    go_wp2_with fail
    clear a0 a1 a2 a3 a4 a5 a6 a7 a8 a9 a10 a11 a12 al af
    refine (make_any kd sf st ((x178 ++ [x5]).map Int.ofNat) tx Bb Nn Dd Mm nm wf wt es _ _ (f:Nat) R185.out (fun e=>HO.out (E5.out.trans e)) (own_snoc K187.out).lst K186.out.lst).mono ?_
    rintro e w188 (⟨x188,t188,v188,u188,hm,rfl,hrep,rd,fr⟩|⟨c,x,hm,rfl,hb⟩)
    rotate_left
    · go_wp2_with fail
      exact ⟨rfl,rq_bad (E5.out.trans hm) (F185.out.bel.trans hb)⟩
    obtain rfl:u188 = .int .i64 (x188:Nat):=hrep
    have E188:=Lib.hid (E5.out.trans hm)
    have R188:=Lib.hid rd
    have F188:=Lib.hid (F185.out.trans fr)
    have K189:=Lib.hid (K186.out.step fr)
    clear K186
    have K190:=Lib.hid (K187.out.step fr)
    clear K187
    have B191:=Lib.hid (B185.out.step fr)
    clear B185
    clear hm rd fr E5 R185 F185
    go_wp2_with fail
    go_ret
    exact rq_ok E188.out rfl R188.out F188.out
theorem member_any (h:Rd C dd bB b tv wv s v w) {block:PM Nat} (HB:Does C dd bB b tv wv 207 block) (hK:CK C) (ho:memberP C block s ≠ .out):Calls Tryz.prog 152 #[.pointer (some ⟨b,0,none⟩)] w (RQ C dd bB b tv wv v w repN (memberP C block s)):=by
 have HR0:=Lib.hid h
 have R0:=Lib.hid h
 have F0:=Lib.hid (Fr.refl bB b v w)
 have HO:=Lib.hid ho
 have E0:=Lib.hid (congrFun (memberP.eq_1 C block) s)
 clear h ho
 go_enter Tryz.func152,Tryz.ntmps152
 go_wp2_with fail
 refine (from_any' R0.out).mono ?_
 rintro e w192 ⟨rfl,hb⟩
 have R192:=Lib.hid (R0.out.step hb)
 have F192:=Lib.hid (F0.out.below hb R0.out.hB)
 clear hb R0 F0
 have E193:=Lib.hid (E0.out.trans look_go)
 clear E0
 go_wp2_with fail
 refine (take_any R192.out _ (fun e=>HO.out (E193.out.trans (bnd_out e)))).mono ?_
 rintro e w194 (⟨x194,t194,v194,u194,hm,rfl,hrep,rd,fr⟩|⟨c,x,hm,rfl,hb⟩)
 rotate_left
 ·go_wp2_with fail
  exact ⟨rfl,rq_bad (E193.out.trans (bnd_bad hm)) (F192.out.bel.trans hb)⟩
 obtain rfl:u194 = .bool x194:=hrep
 have E194:=Lib.hid (E193.out.trans (bnd_ok hm))
 have R194:=Lib.hid rd
 have F194:=Lib.hid (F192.out.trans fr)
 clear hm rd fr E193 R192 F192
 cases x194
 ·have E195:=Lib.hid (E194.out.trans (if_neg_go (by decide)))
  clear E194
  go_wp2_with fail
  refine (answer_any R194.out hK (fun e=>HO.out (E195.out.trans (bnd_out e)))).mono ?_
  rintro e w196 (⟨x196,t196,v196,u196,hm,rfl,hrep,rd,fr⟩|⟨c,x,hm,rfl,hb⟩)
  rotate_left
  ·go_wp2_with fail
   exact ⟨rfl,rq_bad (E195.out.trans (bnd_bad hm)) (F194.out.bel.trans hb)⟩
  have E196:=Lib.hid (E195.out.trans (bnd_ok hm))
  have R196:=Lib.hid rd
  have F196:=Lib.hid (F194.out.trans fr)
  obtain ⟨kd,sf,st,ks,tx,Bb,Nn,Dd,Mm,nm,wf,wt,es⟩:=x196
  obtain ⟨ev,hu,hk0,ow⟩:=hrep
  simp only at hu hk0 ow
  subst hk0
  obtain ⟨us0,uc0,hev⟩:=owns_shape ow.1
  subst hev
  subst hu
  have KE:=Lib.hid (Own.mono ow F194.out.bel.size)
  clear ow
  clear hm rd fr E195 R194 F194
  have hal:Below w196.heap.size w196 (w196.alloc (.cells #[.int .i64 kd,.int .i64 sf,.int .i64 st,.slice none 0 0,.string tx,.int .i64 Bb,.string Nn,.int .i64 Dd,.string Mm,.int .i64 nm,.int .i64 wf,.int .i64 wt,.slice us0 es.length uc0] 61)):=(Below.refl _ _).alloc (Nat.le_refl _) _
  have B197:=Lib.hid (box_new R196.out F196.out #[.int .i64 kd,.int .i64 sf,.int .i64 st,.slice none 0 0,.string tx,.int .i64 Bb,.string Nn,.int .i64 Dd,.string Mm,.int .i64 nm,.int .i64 wf,.int .i64 wt,.slice us0 es.length uc0])
  have K198:=Lib.hid (KE.out.step (Fr.of_below hal R196.out.hB))
  clear KE
  have R197:=Lib.hid (R196.out.step hal)
  have F197:=Lib.hid (F196.out.below hal R196.out.hB)
  clear hal R196 F196
  go_wp2_with fail
  refine (name_any R197.out hK (fun e=>HO.out (E196.out.trans (bnd_out e)))).mono ?_
  rintro e w199 (⟨x199,t199,v199,u199,hm,rfl,hrep,rd,fr⟩|⟨c,x,hm,rfl,hb⟩)
  rotate_left
  ·go_wp2_with fail
   exact ⟨rfl,rq_bad (E196.out.trans (bnd_bad hm)) (F197.out.bel.trans hb)⟩
  obtain rfl:u199 = .string x199:=hrep
  have E199:=Lib.hid (E196.out.trans (bnd_ok hm))
  have R199:=Lib.hid rd
  have F199:=Lib.hid (F197.out.trans fr)
  have K200:=Lib.hid (K198.out.step fr)
  clear K198
  have B201:=Lib.hid (B197.out.step fr)
  clear B197
  clear hm rd fr E196 R197 F197
  obtain ⟨⟨a0,a1,a2,a3,a4,a5,a6,a7,a8,a9,a10,a11,a12⟩,al,af⟩:=(show BoxN w199 (w196.heap.size) [.int .i64 kd,.int .i64 sf,.int .i64 st,.slice none 0 0,.string tx,.int .i64 Bb,.string Nn,.int .i64 Dd,.string Mm,.int .i64 nm,.int .i64 wf,.int .i64 wt,.slice us0 es.length uc0] from B201.out.box).all
  obtain ⟨rd,fr,bx⟩:=box_set HR0.out R199.out F199.out B201.out 4 (.string x199)
  have K203:=Lib.hid (K200.out.set B201.out 4 (.string x199))
  clear K200
  have R202:=Lib.hid rd
  have F202:=Lib.hid fr
  have B202:=Lib.hid bx
  clear rd fr bx R199 F199 B201
  go_wp2_with fail
  clear a0 a1 a2 a3 a4 a5 a6 a7 a8 a9 a10 a11 a12 al af
  refine (sees_any R202.out _).mono ?_
  rintro e w204 ⟨rfl,hb⟩
  have R204:=Lib.hid (R202.out.step hb)
  have F204:=Lib.hid (F202.out.below hb R202.out.hB)
  have K205:=Lib.hid (K203.out.step (Fr.of_below hb R202.out.hB))
  clear K203
  have B206:=Lib.hid (B202.out.step (Fr.of_below hb R202.out.hB))
  clear B202
  clear hb R202 F202
  have E207:=Lib.hid (E199.out.trans look_go)
  clear E199
  cases hc208:sees C (⟨#[40]⟩:ByteArray) t199
  ·have E209:=Lib.hid (E207.out.trans (if_neg_go (fun e=>by rw [hc208] at e;cases e)))
   clear E207
   by_cases hb6:Bb=6
   ·have p6:(Bb == 6)=true:=by simp [hb6]
    have E210:=Lib.hid (E209.out.trans (if_pos_go hb6))
    clear E209
    clear hb6
    obtain ⟨⟨a0,a1,a2,a3,a4,a5,a6,a7,a8,a9,a10,a11,a12⟩,al,af⟩:=(show BoxN w204 (w196.heap.size) [.int .i64 kd,.int .i64 sf,.int .i64 st,.slice none 0 0,.string x199,.int .i64 Bb,.string Nn,.int .i64 Dd,.string Mm,.int .i64 nm,.int .i64 wf,.int .i64 wt,.slice us0 es.length uc0] from B206.out.box).all
    go_wp2_with fail
    clear a0 a1 a2 a3 a4 a5 a6 a7 a8 a9 a10 a11 a12 al af
    refine (fail_any 80 _ _).mono ?_
    rintro e w211 ⟨rfl,rfl⟩
    go_wp2_with fail
    exact ⟨rfl,rq_bad (E210.out.trans thr_go) F204.out.bel⟩
   ·have p6:(Bb == 6)=false:=by simp [hb6]
    have E212:=Lib.hid (E209.out.trans (if_neg_go hb6))
    clear E209
    clear hb6
    obtain ⟨⟨a0,a1,a2,a3,a4,a5,a6,a7,a8,a9,a10,a11,a12⟩,al,af⟩:=(show BoxN w204 (w196.heap.size) [.int .i64 kd,.int .i64 sf,.int .i64 st,.slice none 0 0,.string x199,.int .i64 Bb,.string Nn,.int .i64 Dd,.string Mm,.int .i64 nm,.int .i64 wf,.int .i64 wt,.slice us0 es.length uc0] from B206.out.box).all
    go_wp2_with fail
    clear a0 a1 a2 a3 a4 a5 a6 a7 a8 a9 a10 a11 a12 al af
    refine (want_any R204.out _ (fun e=>HO.out (E212.out.trans (bnd_out e)))).mono ?_
    rintro e w213 (⟨x213,t213,v213,u213,hm,rfl,hrep,rd,fr⟩|⟨c,x,hm,rfl,hb⟩)
    rotate_left
    ·go_wp2_with fail
     exact ⟨rfl,rq_bad (E212.out.trans (bnd_bad hm)) (F204.out.bel.trans hb)⟩
    obtain rfl:u213 = .tuple #[]:=hrep
    have E213:=Lib.hid (E212.out.trans (bnd_ok hm))
    have R213:=Lib.hid rd
    have F213:=Lib.hid (F204.out.trans fr)
    have K214:=Lib.hid (K205.out.step fr)
    clear K205
    have B215:=Lib.hid (B206.out.step fr)
    clear B206
    clear hm rd fr E212 R204 F204
    obtain ⟨⟨a0,a1,a2,a3,a4,a5,a6,a7,a8,a9,a10,a11,a12⟩,al,af⟩:=(show BoxN w213 (w196.heap.size) [.int .i64 kd,.int .i64 sf,.int .i64 st,.slice none 0 0,.string x199,.int .i64 Bb,.string Nn,.int .i64 Dd,.string Mm,.int .i64 nm,.int .i64 wf,.int .i64 wt,.slice us0 es.length uc0] from B215.out.box).all
    obtain ⟨rd,fr,bx⟩:=box_set HR0.out R213.out F213.out B215.out 0 (.int .i64 4)
    have K217:=Lib.hid (K214.out.set B215.out 0 (.int .i64 4))
    clear K214
    have R216:=Lib.hid rd
    have F216:=Lib.hid fr
    have B216:=Lib.hid bx
    clear rd fr bx R213 F213 B215
    go_wp2_with fail
    clear a0 a1 a2 a3 a4 a5 a6 a7 a8 a9 a10 a11 a12 al af
    refine (make_any 4 sf st [] x199 Bb Nn Dd Mm nm wf wt es _ _ (fromS C s) R216.out (fun e=>HO.out (E213.out.trans e)) (lst_none _ _ _) K217.out.lst).mono ?_
    rintro e w218 (⟨x218,t218,v218,u218,hm,rfl,hrep,rd,fr⟩|⟨c,x,hm,rfl,hb⟩)
    rotate_left
    ·go_wp2_with fail
     exact ⟨rfl,rq_bad (E213.out.trans hm) (F216.out.bel.trans hb)⟩
    obtain rfl:u218 = .int .i64 (x218:Nat):=hrep
    have E218:=Lib.hid (E213.out.trans hm)
    have R218:=Lib.hid rd
    have F218:=Lib.hid (F216.out.trans fr)
    have K219:=Lib.hid (K217.out.step fr)
    clear K217
    have B220:=Lib.hid (B216.out.step fr)
    clear B216
    clear hm rd fr E213 R216 F216
    go_wp2_with fail
    go_ret
    exact rq_ok E218.out rfl R218.out F218.out
  ·have E221:=Lib.hid (E207.out.trans (if_pos_go hc208))
   clear E207
   obtain ⟨⟨a0,a1,a2,a3,a4,a5,a6,a7,a8,a9,a10,a11,a12⟩,al,af⟩:=(show BoxN w204 (w196.heap.size) [.int .i64 kd,.int .i64 sf,.int .i64 st,.slice none 0 0,.string x199,.int .i64 Bb,.string Nn,.int .i64 Dd,.string Mm,.int .i64 nm,.int .i64 wf,.int .i64 wt,.slice us0 es.length uc0] from B206.out.box).all
   obtain ⟨rd,fr,bx⟩:=box_set HR0.out R204.out F204.out B206.out 0 (.int .i64 6)
   have K223:=Lib.hid (K205.out.set B206.out 0 (.int .i64 6))
   clear K205
   have R222:=Lib.hid rd
   have F222:=Lib.hid fr
   have B222:=Lib.hid bx
   clear rd fr bx R204 F204 B206
   go_wp2_with fail
   clear a0 a1 a2 a3 a4 a5 a6 a7 a8 a9 a10 a11 a12 al af
   refine (body_any 6 sf st x199 Bb Nn Dd Mm nm wf wt es _ (fromS C s) R222.out HB hK K223.out.lst (fun e=>HO.out (E221.out.trans e))).mono ?_
   rintro e w224 (⟨x224,t224,v224,u224,hm,rfl,hrep,rd,fr⟩|⟨c,x,hm,rfl,hb⟩)
   rotate_left
   ·go_wp2_with fail
    exact ⟨rfl,rq_bad (E221.out.trans hm) (F222.out.bel.trans hb)⟩
   obtain rfl:u224 = .int .i64 (x224:Nat):=hrep
   have E224:=Lib.hid (E221.out.trans hm)
   have R224:=Lib.hid rd
   have F224:=Lib.hid (F222.out.trans fr)
   have K225:=Lib.hid (K223.out.step fr)
   clear K223
   have B226:=Lib.hid (B222.out.step fr)
   clear B222
   clear hm rd fr E221 R222 F222
   go_wp2_with fail
   go_ret
   exact rq_ok E224.out rfl R224.out F224.out
 ·have E227:=Lib.hid (E194.out.trans (if_pos_go rfl))
  clear E194
  go_wp2_with fail
  refine (body_any 5 0 0 ⟨#[]⟩ 0 ⟨#[]⟩ 0 ⟨#[]⟩ 0 0 0 [] (.slice none 0 0) (fromS C s) R194.out HB hK (lst_none _ _ _) (fun e=>HO.out (E227.out.trans e))).mono ?_
  rintro e w228 (⟨x228,t228,v228,u228,hm,rfl,hrep,rd,fr⟩|⟨c,x,hm,rfl,hb⟩)
  rotate_left
  ·go_wp2_with fail
   exact ⟨rfl,rq_bad (E227.out.trans hm) (F194.out.bel.trans hb)⟩
  obtain rfl:u228 = .int .i64 (x228:Nat):=hrep
  have E228:=Lib.hid (E227.out.trans hm)
  have R228:=Lib.hid rd
  have F228:=Lib.hid (F194.out.trans fr)
  clear hm rd fr E227 R194 F194
  go_wp2_with fail
  go_ret
  exact rq_ok E228.out rfl R228.out F228.out
end
end Go.Proofs.YtfehpdliobapfaaGreatDoor
namespace Go.Proofs.YtfehpdliobapfaaGreatDoor
open Go Go.RowKit
section
variable {C:PC} {dd bB b:Nat} {tv wv:Value} {s:PS} {v v1:RV} {w w1:World}
theorem class_any (h:Rd C dd bB b tv wv s v w) {block:PM Nat} (HB:Does C dd bB b tv wv 207 block) (hK:CK C) (ho:classP C block s ≠ .out):Calls Tryz.prog 113 #[.pointer (some ⟨b,0,none⟩)] w (RQ C dd bB b tv wv v w repN (classP C block s)):=by
  have HR0:=Lib.hid h
  have R0:=Lib.hid h
  have F0:=Lib.hid (Fr.refl bB b v w)
  have HO:=Lib.hid ho
  have E0:=Lib.hid (congrFun (classP.eq_1 C block) s)
  clear h ho
  go_enter Tryz.func113,Tryz.ntmps113
  go_wp2_with fail
  refine (from_any' R0.out).mono ?_
  rintro e w229 ⟨rfl,hb⟩
  have R229:=Lib.hid (R0.out.step hb)
  have F229:=Lib.hid (F0.out.below hb R0.out.hB)
  clear hb R0 F0
  have E230:=Lib.hid (E0.out.trans look_go)
  clear E0
  go_wp2_with fail
  refine (want_any R229.out _ (fun e=>HO.out (E230.out.trans (bnd_out e)))).mono ?_
  rintro e w231 (⟨x231,t231,v231,u231,hm,rfl,hrep,rd,fr⟩|⟨c,x,hm,rfl,hb⟩)
  rotate_left
  · go_wp2_with fail
    exact ⟨rfl,rq_bad (E230.out.trans (bnd_bad hm)) (F229.out.bel.trans hb)⟩
  obtain rfl:u231 = .tuple #[]:=hrep
  have E231:=Lib.hid (E230.out.trans (bnd_ok hm))
  have R231:=Lib.hid rd
  have F231:=Lib.hid (F229.out.trans fr)
  clear hm rd fr E230 R229 F229
  go_wp2_with fail
  refine (name_any R231.out hK (fun e=>HO.out (E231.out.trans (bnd_out e)))).mono ?_
  rintro e w232 (⟨x232,t232,v232,u232,hm,rfl,hrep,rd,fr⟩|⟨c,x,hm,rfl,hb⟩)
  rotate_left
  · go_wp2_with fail
    exact ⟨rfl,rq_bad (E231.out.trans (bnd_bad hm)) (F231.out.bel.trans hb)⟩
  obtain rfl:u232 = .string x232:=hrep
  have E232:=Lib.hid (E231.out.trans (bnd_ok hm))
  have R232:=Lib.hid rd
  have F232:=Lib.hid (F231.out.trans fr)
  clear hm rd fr E231 R231 F231
  have K0:=Lib.hid (own_nil w b v232 w232)
  have hal:Below w232.heap.size w232 (w232.alloc (.cells #[.int .i64 2,.int .i64 0,.int .i64 0,.slice none 0 0,.string x232,.int .i64 0,.string ⟨#[]⟩,.int .i64 0,.string ⟨#[]⟩,.int .i64 0,.int .i64 0,.int .i64 0,.slice none 0 0] 61)):=(Below.refl _ _).alloc (Nat.le_refl _) _
  have B233:=Lib.hid (box_new R232.out F232.out #[.int .i64 2,.int .i64 0,.int .i64 0,.slice none 0 0,.string x232,.int .i64 0,.string ⟨#[]⟩,.int .i64 0,.string ⟨#[]⟩,.int .i64 0,.int .i64 0,.int .i64 0,.slice none 0 0])
  have K234:=Lib.hid (K0.out.step (Fr.of_below hal R232.out.hB))
  clear K0
  have R233:=Lib.hid (R232.out.step hal)
  have F233:=Lib.hid (F232.out.below hal R232.out.hB)
  clear hal R232 F232
  go_wp2_with fail
  refine (sees_any R233.out _).mono ?_
  rintro e w235 ⟨rfl,hb⟩
  have R235:=Lib.hid (R233.out.step hb)
  have F235:=Lib.hid (F233.out.below hb R233.out.hB)
  have K236:=Lib.hid (K234.out.step (Fr.of_below hb R233.out.hB))
  clear K234
  have B237:=Lib.hid (B233.out.step (Fr.of_below hb R233.out.hB))
  clear B233
  clear hb R233 F233
  have E238:=Lib.hid (E232.out.trans look_go)
  clear E232
  cases hcs:sees C (⟨#[101,120,116,101,110,100,115]⟩:ByteArray) t232
  · have E239:=Lib.hid (E238.out.trans (bnd_if_neg (fun e=>by rw [hcs] at e;cases e)))
    clear E238
    clear hcs
    have E240:=Lib.hid (E239.out.trans (bnd_ok ret_go))
    clear E239
    go_wp2_with fail
    refine (want_any R235.out _ (fun e=>HO.out (E240.out.trans (bnd_out e)))).mono ?_
    rintro e w241 (⟨x241,t241,v241,u241,hm,rfl,hrep,rd,fr⟩|⟨c,x,hm,rfl,hb⟩)
    rotate_left
    · go_wp2_with fail
      exact ⟨rfl,rq_bad (E240.out.trans (bnd_bad hm)) (F235.out.bel.trans hb)⟩
    obtain rfl:u241 = .tuple #[]:=hrep
    have E241:=Lib.hid (E240.out.trans (bnd_ok hm))
    have R241:=Lib.hid rd
    have F241:=Lib.hid (F235.out.trans fr)
    have K242:=Lib.hid (K236.out.step fr)
    clear K236
    have B243:=Lib.hid (B237.out.step fr)
    clear B237
    clear hm rd fr E240 R235 F235
    go_wp2_with fail
    go_loopg [] C.toks.length (fun k wr=>∃ (ls:List Nat) (t:PS) (vv:RV) (u:Value),Own w b vv wr u (ls.map Int.ofNat)/\Box w b vv wr w232.heap.size [.int .i64 2,.int .i64 0,.int .i64 0,u,.string x232,.int .i64 0,.string ⟨#[]⟩,.int .i64 0,.string ⟨#[]⟩,.int .i64 0,.int .i64 0,.int .i64 0,.slice none 0 0]/\classP C block s=bnd (memberL C (memberP C block) k ls) (fun l=>makeP C (nd 2 x232 l) (fromS C s)) t/\Rd C dd bB b tv wv t vv wr/\Fr bB b v w vv wr)
    case atStart=>exact ⟨[],_,_,_,K242.out,B243.out,E241.out,R241.out,F241.out⟩
    case round =>
      clear E241 R241 F241 B243 K242
      obtain ⟨ls,t,vv,u,hk,hbx,he,hr,hf⟩:=hrel
      cases gk with
      | zero=>exact (HO.out (he.trans rfl)).elim
      | succ gk =>
        have he2:bnd (memberL C (memberP C block) (gk+1) ls) (fun l=>makeP C (nd 2 x232 l) (fromS C s)) t=bnd (bnd (capP ls) fun _=>bnd (takeP C (⟨#[125]⟩:ByteArray)) fun b=>if b=true then ret ls else bnd (moreP ls.length) fun _=>bnd (memberP C block) fun a=>memberL C (memberP C block) gk (ls ++ [a])) (fun l=>makeP C (nd 2 x232 l) (fromS C s)) t:=rfl
        have E0:=Lib.hid ((he.trans he2).trans bnd_assoc)
        have R0:=Lib.hid hr
        have F0:=Lib.hid hf
        obtain ⟨us,uc,hu⟩:=owns_shape hk.1
        rw [List.length_map] at hu
        have KL:=Lib.hid hk
        have BL:=Lib.hid hbx
        clear he he2 hr hf hk hbx
        subst hu
        have hcap:ls.length<=90000:=cap_le (fun e=>HO.out (E0.out.trans (bnd_out e)))
        have E244:=Lib.hid (E0.out.trans (bnd_ok (cap_ok hcap)))
        clear E0
        have E245:=Lib.hid (E244.out.trans bnd_assoc)
        clear E244
        go_wp2_with fail
        refine (take_any R0.out _ (fun e=>HO.out (E245.out.trans (bnd_out e)))).mono ?_
        rintro e w246 (⟨x246,t246,v246,u246,hm,rfl,hrep,rd,fr⟩|⟨c,x,hm,rfl,hb⟩)
        rotate_left
        · go_wp2_with fail
          exact ⟨rfl,rq_bad (E245.out.trans (bnd_bad hm)) (F0.out.bel.trans hb)⟩
        obtain rfl:u246 = .bool x246:=hrep
        have E246:=Lib.hid (E245.out.trans (bnd_ok hm))
        have R246:=Lib.hid rd
        have F246:=Lib.hid (F0.out.trans fr)
        have K247:=Lib.hid (KL.out.step fr)
        clear KL
        have B248:=Lib.hid (BL.out.step fr)
        clear BL
        clear hm rd fr E245 R0 F0
        cases x246
        · have E249:=Lib.hid (E246.out.trans (bnd_if_neg (by decide)))
          clear E246
          have E250:=Lib.hid (E249.out.trans bnd_assoc)
          clear E249
          obtain ⟨⟨a0,a1,a2,a3,a4,a5,a6,a7,a8,a9,a10,a11,a12⟩,al,af⟩:=(show BoxN w246 (w232.heap.size) [.int .i64 2,.int .i64 0,.int .i64 0,.slice us ls.length uc,.string x232,.int .i64 0,.string ⟨#[]⟩,.int .i64 0,.string ⟨#[]⟩,.int .i64 0,.int .i64 0,.int .i64 0,.slice none 0 0] from B248.out.box).all
          go_wp2_with fail
          clear a0 a1 a2 a3 a4 a5 a6 a7 a8 a9 a10 a11 a12 al af
          refine (more_any _ R246.out).mono ?_
          rintro e w251 (⟨x251,t251,v251,u251,hm,rfl,hrep,rd,fr⟩|⟨c,x,hm,rfl,hb⟩)
          rotate_left
          · go_wp2_with fail
            exact ⟨rfl,rq_bad (E250.out.trans (bnd_bad hm)) (F246.out.bel.trans hb)⟩
          obtain rfl:u251 = .tuple #[]:=hrep
          have E251:=Lib.hid (E250.out.trans (bnd_ok hm))
          have R251:=Lib.hid rd
          have F251:=Lib.hid (F246.out.trans fr)
          have K252:=Lib.hid (K247.out.step fr)
          clear K247
          have B253:=Lib.hid (B248.out.step fr)
          clear B248
          clear hm rd fr E250 R246 F246
          have E254:=Lib.hid (E251.out.trans bnd_assoc)
          clear E251
          have HLL:Hid (ls.length<=90000):=Lib.hid hcap
          obtain ⟨W2,hW2⟩:∃ W2,W2=w251:=⟨_,rfl⟩
          rw [<- hW2] at R251 F251 B253 K252
          have HW2:=Lib.hid hW2
          clear hW2
          have HCL:=Lib.hid (fun (w2:World) (hb:Below W2.heap.size W2 w2)=>member_any (R251.out.step hb) HB hK (fun e=>HO.out (E254.out.trans (bnd_out e))))
          go_wp2_with fail
          rw [<- HW2.out]
          obtain ⟨⟨a0,a1,a2,a3,a4,a5,a6,a7,a8,a9,a10,a11,a12⟩,al,af⟩:=(show BoxN W2 (w232.heap.size) [.int .i64 2,.int .i64 0,.int .i64 0,.slice us ls.length uc,.string x232,.int .i64 0,.string ⟨#[]⟩,.int .i64 0,.string ⟨#[]⟩,.int .i64 0,.int .i64 0,.int .i64 0,.slice none 0 0] from B253.out.box).all
          go_region_law (first
            | (refine step_append_run rfl (.tmp 32) (.tmp 35) rfl _ _ _ _ (by simp [Act.eval]) (by simp [Act.eval]) HAP.out ?_
               obtain ⟨⟨q0,q1,q2,q3,q4,q5,q6,q7,q8,q9,q10,q11,q12⟩,ql,qf⟩:=(show BoxN W6 (w232.heap.size) [.int .i64 2,.int .i64 0,.int .i64 0,.slice us ls.length uc,.string x232,.int .i64 0,.string ⟨#[]⟩,.int .i64 0,.string ⟨#[]⟩,.int .i64 0,.int .i64 0,.int .i64 0,.slice none 0 0] from B6.out.box).all)
            | (go_simp
               go_at_call 152
               refine (HCL.out _ ((Below.refl _ _).drew)).mono ?_
               rintro e W5 (⟨x5,t5,v5,u5,hm,rfl,hrep,rd,fr⟩|⟨c,x,hm,rfl,hb5⟩)
               rotate_left
               · go_wp2_with fail
                 exact ⟨rfl,rq_bad (E254.out.trans (bnd_bad hm)) (F251.out.bel.trans ((Below.refl _ _).drew.trans hb5))⟩
               have E5:=Lib.hid (E254.out.trans (bnd_ok hm))
               have hbd:Below W2.heap.size W2 W2.drew:=(Below.refl _ _).drew
               have R5:=Lib.hid rd
               have F5:=Lib.hid ((F251.out.below hbd R251.out.hB).trans fr)
               have B5:=Lib.hid ((B253.out.step (Fr.of_below hbd R251.out.hB)).step fr)
               have K5:=Lib.hid ((K252.out.step (Fr.of_below hbd R251.out.hB)).step fr)
               obtain rfl:u5 = .int .i64 (x5:Nat):=hrep
               obtain ⟨u6,W6,hap,ow,rd6,fr6,hkeep,hold⟩:=own_append3 HR0.out R5.out F5.out K5.out (x5:Int) (by rw [List.length_map];have:=HLL.out;omega)
               obtain ⟨us6,uc6,hu6⟩:=owns_shape ow.1
               obtain ⟨n6,hn6⟩:∃ n6,n6=(ls.map Int.ofNat ++ [(x5:Int)]).length:=⟨_,rfl⟩
               rw [<- hn6] at hu6
               have HN6:=Lib.hid hn6
               clear hn6
               subst hu6
               have HAP:=Lib.hid hap
               have K6:=Lib.hid ow
               have R6:=Lib.hid rd6
               have F6:=Lib.hid fr6
               have B6:=Lib.hid (hkeep _ _ B5.out)
               obtain ⟨⟨y0,y1,y2,y3,y4,y5,y6,y7,y8,y9,y10,y11,y12⟩,yl,yf⟩:=(show BoxN W5 (w232.heap.size) [.int .i64 2,.int .i64 0,.int .i64 0,.slice us ls.length uc,.string x232,.int .i64 0,.string ⟨#[]⟩,.int .i64 0,.string ⟨#[]⟩,.int .i64 0,.int .i64 0,.int .i64 0,.slice none 0 0] from B5.out.box).all
               clear hm hap ow rd fr rd6 fr6 hkeep hold hbd))
          all_goals
            obtain ⟨⟨a0,a1,a2,a3,a4,a5,a6,a7,a8,a9,a10,a11,a12⟩,al,af⟩:=(show BoxN W6 (w232.heap.size) [.int .i64 2,.int .i64 0,.int .i64 0,.slice us ls.length uc,.string x232,.int .i64 0,.string ⟨#[]⟩,.int .i64 0,.string ⟨#[]⟩,.int .i64 0,.int .i64 0,.int .i64 0,.slice none 0 0] from B6.out.box).all
            obtain ⟨rd,fr,bx⟩:=box_set HR0.out R6.out F6.out B6.out 3 (.slice us6 n6 uc6)
            have K257:=Lib.hid (K6.out.set B6.out 3 (.slice us6 n6 uc6))
            clear K6
            have R256:=Lib.hid rd
            have F256:=Lib.hid fr
            have B256:=Lib.hid bx
            clear rd fr bx R6 F6 B6
            go_wp2_with fail
            clear a0 a1 a2 a3 a4 a5 a6 a7 a8 a9 a10 a11 a12 al af
            go_roundg gk
            case measure=>omega
            case rel=>exact ⟨ls ++ [x5],_,_,_,own_snoc K257.out,B256.out,E5.out,R256.out,F256.out⟩
        · have E258:=Lib.hid (E246.out.trans (bnd_if_pos rfl))
          clear E246
          have E259:=Lib.hid (E258.out.trans (bnd_ok ret_go))
          clear E258
          obtain ⟨⟨a0,a1,a2,a3,a4,a5,a6,a7,a8,a9,a10,a11,a12⟩,al,af⟩:=(show BoxN w246 (w232.heap.size) [.int .i64 2,.int .i64 0,.int .i64 0,.slice us ls.length uc,.string x232,.int .i64 0,.string ⟨#[]⟩,.int .i64 0,.string ⟨#[]⟩,.int .i64 0,.int .i64 0,.int .i64 0,.slice none 0 0] from B248.out.box).all
          go_wp2_with fail
          clear a0 a1 a2 a3 a4 a5 a6 a7 a8 a9 a10 a11 a12 al af
          refine (make_any 2 0 0 (ls.map Int.ofNat) x232 0 ⟨#[]⟩ 0 ⟨#[]⟩ 0 0 0 [] _ _ (fromS C s) R246.out (fun e=>HO.out (E259.out.trans e)) K247.out.lst (lst_none _ _ _)).mono ?_
          rintro e w260 (⟨x260,t260,v260,u260,hm,rfl,hrep,rd,fr⟩|⟨c,x,hm,rfl,hb⟩)
          rotate_left
          · go_wp2_with fail
            exact ⟨rfl,rq_bad (E259.out.trans hm) (F246.out.bel.trans hb)⟩
          obtain rfl:u260 = .int .i64 (x260:Nat):=hrep
          have E260:=Lib.hid (E259.out.trans hm)
          have R260:=Lib.hid rd
          have F260:=Lib.hid (F246.out.trans fr)
          have K261:=Lib.hid (K247.out.step fr)
          clear K247
          have B262:=Lib.hid (B248.out.step fr)
          clear B248
          clear hm rd fr E259 R246 F246
          go_wp2_with fail
          go_ret
          exact rq_ok E260.out rfl R260.out F260.out
  · have E263:=Lib.hid (E238.out.trans (bnd_if_pos hcs))
    clear E238
    clear hcs
    have E264:=Lib.hid (E263.out.trans bnd_assoc)
    clear E263
    obtain ⟨W2,hW2⟩:∃ W2,W2=w235:=⟨_,rfl⟩
    rw [<- hW2] at R235 F235 B237 K236
    have HW2:=Lib.hid hW2
    clear hW2
    have HCL:=Lib.hid (fun (w2:World) (hb:Below W2.heap.size W2 w2)=>ancestor_any (R235.out.step hb) hK (fun e=>HO.out (E264.out.trans (bnd_out e))))
    go_wp2_with fail
    rw [<- HW2.out]
    obtain ⟨⟨a0,a1,a2,a3,a4,a5,a6,a7,a8,a9,a10,a11,a12⟩,al,af⟩:=(show BoxN W2 (w232.heap.size) [.int .i64 2,.int .i64 0,.int .i64 0,.slice none 0 0,.string x232,.int .i64 0,.string ⟨#[]⟩,.int .i64 0,.string ⟨#[]⟩,.int .i64 0,.int .i64 0,.int .i64 0,.slice none 0 0] from B237.out.box).all
    go_region_law (first
      | (refine step_append_run rfl (.tmp 15) (.tmp 18) rfl _ _ _ _ (by simp [Act.eval]) (by simp [Act.eval]) HAP.out ?_
         obtain ⟨⟨q0,q1,q2,q3,q4,q5,q6,q7,q8,q9,q10,q11,q12⟩,ql,qf⟩:=(show BoxN W6 (w232.heap.size) [.int .i64 2,.int .i64 0,.int .i64 0,.slice none 0 0,.string x232,.int .i64 0,.string ⟨#[]⟩,.int .i64 0,.string ⟨#[]⟩,.int .i64 0,.int .i64 0,.int .i64 0,.slice none 0 0] from B6.out.box).all)
      | (go_simp
         go_at_call 150
         refine (HCL.out _ ((Below.refl _ _).drew)).mono ?_
         rintro e W5 (⟨x5,t5,v5,u5,hm,rfl,hrep,rd,fr⟩|⟨c,x,hm,rfl,hb5⟩)
         rotate_left
         · go_wp2_with fail
           exact ⟨rfl,rq_bad (E264.out.trans (bnd_bad hm)) (F235.out.bel.trans ((Below.refl _ _).drew.trans hb5))⟩
         have E5:=Lib.hid (E264.out.trans (bnd_ok hm))
         have hbd:Below W2.heap.size W2 W2.drew:=(Below.refl _ _).drew
         have R5:=Lib.hid rd
         have F5:=Lib.hid ((F235.out.below hbd R235.out.hB).trans fr)
         have B5:=Lib.hid ((B237.out.step (Fr.of_below hbd R235.out.hB)).step fr)
         have K5:=Lib.hid ((K236.out.step (Fr.of_below hbd R235.out.hB)).step fr)
         obtain rfl:u5 = .int .i64 (x5:Nat):=hrep
         obtain ⟨u6,W6,hap,ow,rd6,fr6,hkeep,hold⟩:=own_append3 HR0.out R5.out F5.out K5.out (x5:Int) (by simp)
         obtain ⟨us6,uc6,hu6⟩:=owns_shape ow.1
         obtain ⟨n6,hn6⟩:∃ n6,n6=(([]:List Int) ++ [(x5:Int)]).length:=⟨_,rfl⟩
         rw [<- hn6] at hu6
         have HN6:=Lib.hid hn6
         clear hn6
         subst hu6
         have HAP:=Lib.hid hap
         have K6:=Lib.hid ow
         have R6:=Lib.hid rd6
         have F6:=Lib.hid fr6
         have B6:=Lib.hid (hkeep _ _ B5.out)
         obtain ⟨⟨y0,y1,y2,y3,y4,y5,y6,y7,y8,y9,y10,y11,y12⟩,yl,yf⟩:=(show BoxN W5 (w232.heap.size) [.int .i64 2,.int .i64 0,.int .i64 0,.slice none 0 0,.string x232,.int .i64 0,.string ⟨#[]⟩,.int .i64 0,.string ⟨#[]⟩,.int .i64 0,.int .i64 0,.int .i64 0,.slice none 0 0] from B5.out.box).all
         clear hm hap ow rd fr rd6 fr6 hkeep hold hbd))
    all_goals
      obtain ⟨⟨a0,a1,a2,a3,a4,a5,a6,a7,a8,a9,a10,a11,a12⟩,al,af⟩:=(show BoxN W6 (w232.heap.size) [.int .i64 2,.int .i64 0,.int .i64 0,.slice none 0 0,.string x232,.int .i64 0,.string ⟨#[]⟩,.int .i64 0,.string ⟨#[]⟩,.int .i64 0,.int .i64 0,.int .i64 0,.slice none 0 0] from B6.out.box).all
      obtain ⟨rd,fr,bx⟩:=box_set HR0.out R6.out F6.out B6.out 3 (.slice us6 n6 uc6)
      have K267:=Lib.hid (K6.out.set B6.out 3 (.slice us6 n6 uc6))
      clear K6
      have R266:=Lib.hid rd
      have F266:=Lib.hid fr
      have B266:=Lib.hid bx
      clear rd fr bx R6 F6 B6
      have E268:=Lib.hid (E5.out.trans (bnd_ok ret_go))
      clear E5
      go_wp2_with fail
      clear a0 a1 a2 a3 a4 a5 a6 a7 a8 a9 a10 a11 a12 al af
      refine (want_any R266.out _ (fun e=>HO.out (E268.out.trans (bnd_out e)))).mono ?_
      rintro e w269 (⟨x269,t269,v269,u269,hm,rfl,hrep,rd,fr⟩|⟨c,x,hm,rfl,hb⟩)
      rotate_left
      · go_wp2_with fail
        exact ⟨rfl,rq_bad (E268.out.trans (bnd_bad hm)) (F266.out.bel.trans hb)⟩
      obtain rfl:u269 = .tuple #[]:=hrep
      have E269:=Lib.hid (E268.out.trans (bnd_ok hm))
      have R269:=Lib.hid rd
      have F269:=Lib.hid (F266.out.trans fr)
      have K270:=Lib.hid (K267.out.step fr)
      clear K267
      have B271:=Lib.hid (B266.out.step fr)
      clear B266
      clear hm rd fr E268 R266 F266
      go_wp2_with fail
      go_loopg [] C.toks.length (fun k wr=>∃ (ls:List Nat) (t:PS) (vv:RV) (u:Value),Own w b vv wr u (ls.map Int.ofNat)/\Box w b vv wr w232.heap.size [.int .i64 2,.int .i64 0,.int .i64 0,u,.string x232,.int .i64 0,.string ⟨#[]⟩,.int .i64 0,.string ⟨#[]⟩,.int .i64 0,.int .i64 0,.int .i64 0,.slice none 0 0]/\classP C block s=bnd (memberL C (memberP C block) k ls) (fun l=>makeP C (nd 2 x232 l) (fromS C s)) t/\Rd C dd bB b tv wv t vv wr/\Fr bB b v w vv wr)
      case atStart=>exact ⟨[x5],_,_,_,(own_snoc (ls:=[]) K270.out),B271.out,E269.out,R269.out,F269.out⟩
      case round =>
        clear E269 R269 F269 B271 K270
        obtain ⟨ls,t,vv,u,hk,hbx,he,hr,hf⟩:=hrel
        cases gk with
        | zero=>exact (HO.out (he.trans rfl)).elim
        | succ gk =>
          have he2:bnd (memberL C (memberP C block) (gk+1) ls) (fun l=>makeP C (nd 2 x232 l) (fromS C s)) t=bnd (bnd (capP ls) fun _=>bnd (takeP C (⟨#[125]⟩:ByteArray)) fun b=>if b=true then ret ls else bnd (moreP ls.length) fun _=>bnd (memberP C block) fun a=>memberL C (memberP C block) gk (ls ++ [a])) (fun l=>makeP C (nd 2 x232 l) (fromS C s)) t:=rfl
          have E0:=Lib.hid ((he.trans he2).trans bnd_assoc)
          have R0:=Lib.hid hr
          have F0:=Lib.hid hf
          obtain ⟨us,uc,hu⟩:=owns_shape hk.1
          rw [List.length_map] at hu
          have KL:=Lib.hid hk
          have BL:=Lib.hid hbx
          clear he he2 hr hf hk hbx
          subst hu
          have hcap:ls.length<=90000:=cap_le (fun e=>HO.out (E0.out.trans (bnd_out e)))
          have E272:=Lib.hid (E0.out.trans (bnd_ok (cap_ok hcap)))
          clear E0
          have E273:=Lib.hid (E272.out.trans bnd_assoc)
          clear E272
          go_wp2_with fail
          refine (take_any R0.out _ (fun e=>HO.out (E273.out.trans (bnd_out e)))).mono ?_
          rintro e w274 (⟨x274,t274,v274,u274,hm,rfl,hrep,rd,fr⟩|⟨c,x,hm,rfl,hb⟩)
          rotate_left
          · go_wp2_with fail
            exact ⟨rfl,rq_bad (E273.out.trans (bnd_bad hm)) (F0.out.bel.trans hb)⟩
          obtain rfl:u274 = .bool x274:=hrep
          have E274:=Lib.hid (E273.out.trans (bnd_ok hm))
          have R274:=Lib.hid rd
          have F274:=Lib.hid (F0.out.trans fr)
          have K275:=Lib.hid (KL.out.step fr)
          clear KL
          have B276:=Lib.hid (BL.out.step fr)
          clear BL
          clear hm rd fr E273 R0 F0
          cases x274
          · have E277:=Lib.hid (E274.out.trans (bnd_if_neg (by decide)))
            clear E274
            have E278:=Lib.hid (E277.out.trans bnd_assoc)
            clear E277
            obtain ⟨⟨a0,a1,a2,a3,a4,a5,a6,a7,a8,a9,a10,a11,a12⟩,al,af⟩:=(show BoxN w274 (w232.heap.size) [.int .i64 2,.int .i64 0,.int .i64 0,.slice us ls.length uc,.string x232,.int .i64 0,.string ⟨#[]⟩,.int .i64 0,.string ⟨#[]⟩,.int .i64 0,.int .i64 0,.int .i64 0,.slice none 0 0] from B276.out.box).all
            go_wp2_with fail
            clear a0 a1 a2 a3 a4 a5 a6 a7 a8 a9 a10 a11 a12 al af
            refine (more_any _ R274.out).mono ?_
            rintro e w279 (⟨x279,t279,v279,u279,hm,rfl,hrep,rd,fr⟩|⟨c,x,hm,rfl,hb⟩)
            rotate_left
            · go_wp2_with fail
              exact ⟨rfl,rq_bad (E278.out.trans (bnd_bad hm)) (F274.out.bel.trans hb)⟩
            obtain rfl:u279 = .tuple #[]:=hrep
            have E279:=Lib.hid (E278.out.trans (bnd_ok hm))
            have R279:=Lib.hid rd
            have F279:=Lib.hid (F274.out.trans fr)
            have K280:=Lib.hid (K275.out.step fr)
            clear K275
            have B281:=Lib.hid (B276.out.step fr)
            clear B276
            clear hm rd fr E278 R274 F274
            have E282:=Lib.hid (E279.out.trans bnd_assoc)
            clear E279
            have HLL:Hid (ls.length<=90000):=Lib.hid hcap
            obtain ⟨W2,hW2⟩:∃ W2,W2=w279:=⟨_,rfl⟩
            rw [<- hW2] at R279 F279 B281 K280
            have HW2:=Lib.hid hW2
            clear hW2
            have HCL:=Lib.hid (fun (w2:World) (hb:Below W2.heap.size W2 w2)=>member_any (R279.out.step hb) HB hK (fun e=>HO.out (E282.out.trans (bnd_out e))))
            go_wp2_with fail
            rw [<- HW2.out]
            obtain ⟨⟨a0,a1,a2,a3,a4,a5,a6,a7,a8,a9,a10,a11,a12⟩,al,af⟩:=(show BoxN W2 (w232.heap.size) [.int .i64 2,.int .i64 0,.int .i64 0,.slice us ls.length uc,.string x232,.int .i64 0,.string ⟨#[]⟩,.int .i64 0,.string ⟨#[]⟩,.int .i64 0,.int .i64 0,.int .i64 0,.slice none 0 0] from B281.out.box).all
            go_region_law (first
              | (refine step_append_run rfl (.tmp 32) (.tmp 35) rfl _ _ _ _ (by simp [Act.eval]) (by simp [Act.eval]) HAP.out ?_
                 obtain ⟨⟨q0,q1,q2,q3,q4,q5,q6,q7,q8,q9,q10,q11,q12⟩,ql,qf⟩:=(show BoxN W6 (w232.heap.size) [.int .i64 2,.int .i64 0,.int .i64 0,.slice us ls.length uc,.string x232,.int .i64 0,.string ⟨#[]⟩,.int .i64 0,.string ⟨#[]⟩,.int .i64 0,.int .i64 0,.int .i64 0,.slice none 0 0] from B6.out.box).all)
              | (go_simp
                 go_at_call 152
                 refine (HCL.out _ ((Below.refl _ _).drew)).mono ?_
                 rintro e W5 (⟨x5,t5,v5,u5,hm,rfl,hrep,rd,fr⟩|⟨c,x,hm,rfl,hb5⟩)
                 rotate_left
                 · go_wp2_with fail
                   exact ⟨rfl,rq_bad (E282.out.trans (bnd_bad hm)) (F279.out.bel.trans ((Below.refl _ _).drew.trans hb5))⟩
                 have E5:=Lib.hid (E282.out.trans (bnd_ok hm))
                 have hbd:Below W2.heap.size W2 W2.drew:=(Below.refl _ _).drew
                 have R5:=Lib.hid rd
                 have F5:=Lib.hid ((F279.out.below hbd R279.out.hB).trans fr)
                 have B5:=Lib.hid ((B281.out.step (Fr.of_below hbd R279.out.hB)).step fr)
                 have K5:=Lib.hid ((K280.out.step (Fr.of_below hbd R279.out.hB)).step fr)
                 obtain rfl:u5 = .int .i64 (x5:Nat):=hrep
                 obtain ⟨u6,W6,hap,ow,rd6,fr6,hkeep,hold⟩:=own_append3 HR0.out R5.out F5.out K5.out (x5:Int) (by rw [List.length_map];have:=HLL.out;omega)
                 obtain ⟨us6,uc6,hu6⟩:=owns_shape ow.1
                 obtain ⟨n6,hn6⟩:∃ n6,n6=(ls.map Int.ofNat ++ [(x5:Int)]).length:=⟨_,rfl⟩
                 rw [<- hn6] at hu6
                 have HN6:=Lib.hid hn6
                 clear hn6
                 subst hu6
                 have HAP:=Lib.hid hap
                 have K6:=Lib.hid ow
                 have R6:=Lib.hid rd6
                 have F6:=Lib.hid fr6
                 have B6:=Lib.hid (hkeep _ _ B5.out)
                 obtain ⟨⟨y0,y1,y2,y3,y4,y5,y6,y7,y8,y9,y10,y11,y12⟩,yl,yf⟩:=(show BoxN W5 (w232.heap.size) [.int .i64 2,.int .i64 0,.int .i64 0,.slice us ls.length uc,.string x232,.int .i64 0,.string ⟨#[]⟩,.int .i64 0,.string ⟨#[]⟩,.int .i64 0,.int .i64 0,.int .i64 0,.slice none 0 0] from B5.out.box).all
                 clear hm hap ow rd fr rd6 fr6 hkeep hold hbd))
            all_goals
              obtain ⟨⟨a0,a1,a2,a3,a4,a5,a6,a7,a8,a9,a10,a11,a12⟩,al,af⟩:=(show BoxN W6 (w232.heap.size) [.int .i64 2,.int .i64 0,.int .i64 0,.slice us ls.length uc,.string x232,.int .i64 0,.string ⟨#[]⟩,.int .i64 0,.string ⟨#[]⟩,.int .i64 0,.int .i64 0,.int .i64 0,.slice none 0 0] from B6.out.box).all
              obtain ⟨rd,fr,bx⟩:=box_set HR0.out R6.out F6.out B6.out 3 (.slice us6 n6 uc6)
              have K285:=Lib.hid (K6.out.set B6.out 3 (.slice us6 n6 uc6))
              clear K6
              have R284:=Lib.hid rd
              have F284:=Lib.hid fr
              have B284:=Lib.hid bx
              clear rd fr bx R6 F6 B6
              go_wp2_with fail
              clear a0 a1 a2 a3 a4 a5 a6 a7 a8 a9 a10 a11 a12 al af
              go_roundg gk
              case measure=>omega
              case rel=>exact ⟨ls ++ [x5],_,_,_,own_snoc K285.out,B284.out,E5.out,R284.out,F284.out⟩
          · have E286:=Lib.hid (E274.out.trans (bnd_if_pos rfl))
            clear E274
            have E287:=Lib.hid (E286.out.trans (bnd_ok ret_go))
            clear E286
            obtain ⟨⟨a0,a1,a2,a3,a4,a5,a6,a7,a8,a9,a10,a11,a12⟩,al,af⟩:=(show BoxN w274 (w232.heap.size) [.int .i64 2,.int .i64 0,.int .i64 0,.slice us ls.length uc,.string x232,.int .i64 0,.string ⟨#[]⟩,.int .i64 0,.string ⟨#[]⟩,.int .i64 0,.int .i64 0,.int .i64 0,.slice none 0 0] from B276.out.box).all
            go_wp2_with fail
            clear a0 a1 a2 a3 a4 a5 a6 a7 a8 a9 a10 a11 a12 al af
            refine (make_any 2 0 0 (ls.map Int.ofNat) x232 0 ⟨#[]⟩ 0 ⟨#[]⟩ 0 0 0 [] _ _ (fromS C s) R274.out (fun e=>HO.out (E287.out.trans e)) K275.out.lst (lst_none _ _ _)).mono ?_
            rintro e w288 (⟨x288,t288,v288,u288,hm,rfl,hrep,rd,fr⟩|⟨c,x,hm,rfl,hb⟩)
            rotate_left
            · go_wp2_with fail
              exact ⟨rfl,rq_bad (E287.out.trans hm) (F274.out.bel.trans hb)⟩
            obtain rfl:u288 = .int .i64 (x288:Nat):=hrep
            have E288:=Lib.hid (E287.out.trans hm)
            have R288:=Lib.hid rd
            have F288:=Lib.hid (F274.out.trans fr)
            have K289:=Lib.hid (K275.out.step fr)
            clear K275
            have B290:=Lib.hid (B276.out.step fr)
            clear B276
            clear hm rd fr E287 R274 F274
            go_wp2_with fail
            go_ret
            exact rq_ok E288.out rfl R288.out F288.out
def ProgQ (w0:World) (bB b:Nat) (r:PR Unit) (e:Ending) (w':World):Prop :=
 (∃ t P' L' v',r = .ok () t/\e = .returned (.tuple #[])/\P'.length=6/\L'.map (·.1)=t.made/\BdR P' w' bB b L' v'/\(∀ x ∈ t.made,goodN x=true)/\t.made.length<=8193/\0<t.made.length/\bB<=w'.heap.size/\Below bB w0 w') \/
 (∃ c x,r = .bad c x/\e = .panicked [{ v:=.iface 102 (.agg #[.int .i64 (c:Nat),.int .i64 x]),recovered:=false }]/\Below bB w0 w')
theorem pq_bad {r:PR Unit} {c:Nat} {x:Int} (e:r = .bad c x) (hb:Below bB w w1):ProgQ w bB b r (.panicked [{ v:=.iface 102 (.agg #[.int .i64 (c:Nat),.int .i64 x]),recovered:=false }]) w1:=.inr ⟨c,x,e,rfl,hb⟩
theorem pq_ok {r:PR Unit} {t:PS} (e:r = .ok () t) (h0:0<t.made.length) (hd:Rd C dd bB b tv wv t v1 w1) (hf:Fr bB b v w v1 w1):ProgQ w bB b r (.returned (.tuple #[])) w1 :=
 .inl ⟨t,rdC tv wv t,v1.L,v1.v,e,rfl,rfl,hd.bd.1,hd.bd.2,hd.good,by have:=hd.nodes;omega,h0,hd.hB,hf.bel⟩
theorem make_pos {n:Nd} {f a:Nat} {t:PS} (h:makeP C n f s = .ok a t):0<t.made.length:=by
 rw [make_eq] at h
 split at h
 ·cases h
 ·split at h
  ·cases h
  ·cases h;simp
theorem bnd_look {α β γ : Type} {f:PS -> α} {k : α -> PM β} {j : β -> PM γ} {t:PS}:bnd (look f k) j t=bnd (k (f t)) j t:=rfl
theorem pq_add {r:PR Unit} {t:PS} {y:NdR} {v':Value} (e:r = .ok () { t with made:=t.made ++ [nd 1 ⟨#[]⟩ []] }) (hd:Rd C dd bB b tv wv t v1 w) (hy:y.1=nd 1 ⟨#[]⟩ []) (hb:BdR (rdC tv wv t) w1 bB b (v1.L ++ [y]) v') {w0:World} (hs:bB<=w1.heap.size) (hf:Below bB w0 w1):ProgQ w0 bB b r (.returned (.tuple #[])) w1 :=
 .inl ⟨_,rdC tv wv t,v1.L ++ [y],v',e,rfl,rfl,by rw [List.map_append,hd.bd.1];simp [hy],hb,fun x hx=>(List.mem_append.1 hx).elim (hd.good x) (fun e=>by rw [List.mem_singleton] at e;subst e;decide),by have:=hd.nodes;simp;omega,by simp,hs,hf⟩
theorem program_any (h:Rd C dd bB b tv wv s v w) {block:PM Nat} (HB:Does C dd bB b tv wv 207 block) (hK:CK C) (ho:programP C block s ≠ .out):Calls Tryz.prog 60 #[.pointer (some ⟨b,0,none⟩)] w (ProgQ w bB b (programP C block s)):=by
 have hf0:=field_tok0
 have HR0:=Lib.hid h
 have R0:=Lib.hid h
 have F0:=Lib.hid (Fr.refl bB b v w)
 have HO:=Lib.hid ho
 have E0:=Lib.hid (congrFun (programP.eq_1 C block) s)
 clear h ho
 go_enter Tryz.func60,Tryz.ntmps60
 go_wp2_with fail
 refine (from_any' R0.out).mono ?_
 rintro e w291 ⟨rfl,hb⟩
 have R291:=Lib.hid (R0.out.step hb)
 have F291:=Lib.hid (F0.out.below hb R0.out.hB)
 clear hb R0 F0
 have E292:=Lib.hid (E0.out.trans look_go)
 clear E0
 have K0:=Lib.hid (own_nil w b v w291)
 go_wp2_with fail
 go_loopg [3] C.toks.length (fun k u wr=>∃ (ls:List Nat) (t:PS) (vv:RV),Own w b vv wr u (ls.map Int.ofNat)/\programP C block s=bnd (classL C (classP C block) k ls) (fun l=>if l.length=0 then fun s=>.ok () { s with made:=s.made ++ [nd 1 ⟨#[]⟩ []] } else bnd (makeP C (nd 1 ⟨#[]⟩ l) (fromS C s)) fun _=>ret ()) t/\Rd C dd bB b tv wv t vv wr/\Fr bB b v w vv wr)
 case atStart=>exact ⟨[],_,_,K0.out,E292.out,R291.out,F291.out⟩
 case round =>
  clear E292 R291 F291 K0
  obtain ⟨ls,t,vv,hk,he,hr,hf⟩:=hrel
  cases gk with
  | zero=>exact (HO.out (he.trans rfl)).elim
  | succ gk =>
   have he2:bnd (classL C (classP C block) (gk+1) ls) (fun l=>if l.length=0 then fun s=>.ok () { s with made:=s.made ++ [nd 1 ⟨#[]⟩ []] } else bnd (makeP C (nd 1 ⟨#[]⟩ l) (fromS C s)) fun _=>ret ()) t=bnd (bnd (capP ls) fun _=>look (kindS C) fun e=>if e=0 then ret ls else bnd (moreP ls.length) fun _=>bnd (classP C block) fun a=>classL C (classP C block) gk (ls ++ [a])) (fun l=>if l.length=0 then fun s=>.ok () { s with made:=s.made ++ [nd 1 ⟨#[]⟩ []] } else bnd (makeP C (nd 1 ⟨#[]⟩ l) (fromS C s)) fun _=>ret ()) t:=rfl
   have E0:=Lib.hid ((he.trans he2).trans bnd_assoc)
   have R0:=Lib.hid hr
   have F0:=Lib.hid hf
   obtain ⟨us,uc,hu⟩:=owns_shape hk.1
   rw [List.length_map] at hu
   have KL:=Lib.hid hk
   clear he he2 hr hf hk
   subst hu
   have hcap:ls.length<=90000:=cap_le (fun e=>HO.out (E0.out.trans (bnd_out e)))
   have E293:=Lib.hid (E0.out.trans (bnd_ok (cap_ok hcap)))
   clear E0
   have E294:=Lib.hid (E293.out.trans bnd_look)
   clear E293
   go_wp2_with fail
   refine (token_any R0.out).mono ?_
   rintro e w295 ⟨rfl,hb⟩
   have R295:=Lib.hid (R0.out.step hb)
   have F295:=Lib.hid (F0.out.below hb R0.out.hB)
   have K296:=Lib.hid (KL.out.step (Fr.of_below hb R0.out.hB))
   clear KL
   clear hb R0 F0
   by_cases hk0:kindS C t=0
   ·have p0:((kindS C t:Int) != 0)=false:=by simp [hk0]
    have E297:=Lib.hid (E294.out.trans (bnd_if_pos hk0))
    clear E294
    have E298:=Lib.hid (E297.out.trans (bnd_ok ret_go))
    clear E297
    clear hk0
    by_cases hl0:ls.length=0
    ·have p1:((ls.length:Int) == 0)=true:=by rw [hl0];rfl
     have E299:=Lib.hid (E298.out.trans (if_pos_go hl0))
     clear E298
     clear hl0
     have HZ:=Lib.hid R295.out.bd.2
     have HBB:=Lib.hid R295.out.hB
     have HNO:=Lib.hid R295.out.nodes
     have HLM:=Lib.hid R295.out.bd.1
     have HAD:=Lib.hid (fun (w2:World) (hb:Below w295.heap.size w295 w2)=>addR_any (rdC tv wv t) rfl bB b vv.L vv.v 1 0 0 [] ⟨#[]⟩ 0 ⟨#[]⟩ 0 ⟨#[]⟩ 0 0 0 [] (.slice none 0 0) (.slice none 0 0) w2 (HZ.out.step hb) (Nat.le_trans HBB.out hb.size) (by have h1:=HNO.out;have h2:=congrArg List.length HLM.out;rw [List.length_map] at h2;omega) ⟨none,0,rfl,fun h=>absurd h (by simp)⟩ ⟨none,0,rfl,fun h=>absurd h (by simp)⟩ (by simp) (by simp) (by decide) (by decide) (by decide))
     go_wp2_with fail
     refine (HAD.out _ (Below.refl _ _)).mono ?_
     rintro e w9 ⟨rfl,hb9,⟨y9,v9,hy9,hbd9,-,-,-⟩,-,-⟩
     have B9:=Lib.hid hb9
     have D9:=Lib.hid hbd9
     clear hb9 hbd9
     go_wp2_with fail
     first|go_end0|refine bodyPost_ret (results_none rfl _ _ _) rfl ?_
     exact pq_add E299.out R295.out hy9 D9.out (Nat.le_trans HBB.out B9.out.size) (F295.out.bel.trans B9.out)
    ·have p1:((ls.length:Int) == 0)=false:=by rw [beq_eq_false_iff_ne];omega
     have E300:=Lib.hid (E298.out.trans (if_neg_go hl0))
     clear E298
     clear hl0
     go_wp2_with fail
     refine (make_any 1 0 0 (ls.map Int.ofNat) ⟨#[]⟩ 0 ⟨#[]⟩ 0 ⟨#[]⟩ 0 0 0 [] _ _ (fromS C s) R295.out (fun e=>HO.out (E300.out.trans (bnd_out e))) K296.out.lst (lst_none _ _ _)).mono ?_
     rintro e w301 (⟨x301,t301,v301,u301,hm,rfl,hrep,rd,fr⟩|⟨c,x,hm,rfl,hb⟩)
     rotate_left
     ·go_wp2_with fail
      exact ⟨rfl,pq_bad (E300.out.trans (bnd_bad hm)) (F295.out.bel.trans hb)⟩
     obtain rfl:u301 = .int .i64 (x301:Nat):=hrep
     have E301:=Lib.hid (E300.out.trans (bnd_ok hm))
     have R301:=Lib.hid rd
     have F301:=Lib.hid (F295.out.trans fr)
     have K302:=Lib.hid (K296.out.step fr)
     clear K296
     have HPO:=Lib.hid (make_pos hm)
     clear hm rd fr E300 R295 F295
     go_wp2_with fail
     first|go_end0|refine bodyPost_ret (results_none rfl _ _ _) rfl ?_
     exact pq_ok (E301.out.trans ret_go) HPO.out R301.out F301.out
   ·have p0:((kindS C t:Int) != 0)=true:=by simp;omega
    have E303:=Lib.hid (E294.out.trans (bnd_if_neg hk0))
    clear E294
    clear hk0
    have E304:=Lib.hid (E303.out.trans bnd_assoc)
    clear E303
    go_wp2_with fail
    refine (more_any _ R295.out).mono ?_
    rintro e w305 (⟨x305,t305,v305,u305,hm,rfl,hrep,rd,fr⟩|⟨c,x,hm,rfl,hb⟩)
    rotate_left
    ·go_wp2_with fail
     exact ⟨rfl,pq_bad (E304.out.trans (bnd_bad hm)) (F295.out.bel.trans hb)⟩
    obtain rfl:u305 = .tuple #[]:=hrep
    have E305:=Lib.hid (E304.out.trans (bnd_ok hm))
    have R305:=Lib.hid rd
    have F305:=Lib.hid (F295.out.trans fr)
    have K306:=Lib.hid (K296.out.step fr)
    clear K296
    clear hm rd fr E304 R295 F295
    have E307:=Lib.hid (E305.out.trans bnd_assoc)
    clear E305
    go_wp2_with fail
    refine (class_any R305.out HB hK (fun e=>HO.out (E307.out.trans (bnd_out e)))).mono ?_
    rintro e w308 (⟨x308,t308,v308,u308,hm,rfl,hrep,rd,fr⟩|⟨c,x,hm,rfl,hb⟩)
    rotate_left
    ·go_wp2_with fail
     exact ⟨rfl,pq_bad (E307.out.trans (bnd_bad hm)) (F305.out.bel.trans hb)⟩
    obtain rfl:u308 = .int .i64 (x308:Nat):=hrep
    have E308:=Lib.hid (E307.out.trans (bnd_ok hm))
    have R308:=Lib.hid rd
    have F308:=Lib.hid (F305.out.trans fr)
    have K309:=Lib.hid (K306.out.step fr)
    clear K306
    clear hm rd fr E307 R305 F305
    obtain ⟨u310,W310,hap,ow,rd,fr⟩:=own_append HR0.out R308.out F308.out K309.out (x308:Int) (by rw [List.length_map];omega)
    obtain ⟨us310,uc310,hu⟩:=owns_shape ow.1
    simp at hu
    subst hu
    have HAP:=Lib.hid hap
    clear hap
    go_wp2_with (at_builtin;first|refine wpList_append_run rfl _ _ 57 rfl (.slice us ls.length uc) (.slice (some ⟨w308.heap.size,0,none⟩) 1 1) _ W310 rfl rfl HAP.out ?_)
    have R310:=Lib.hid rd
    have F310:=Lib.hid fr
    have K310:=Lib.hid (own_snoc ow)
    clear rd fr ow R308 F308 K309
    go_roundg gk
    case measure=>omega
    case rel=>exact ⟨ls ++ [x308],_,_,K310.out,E308.out,R310.out,F310.out⟩
end
end Go.Proofs.YtfehpdliobapfaaGreatDoor
namespace Go.Proofs.YtfehpdliobapfaaGreatDoor
open Go Go.RowKit
section
variable {C:PC} {bB b:Nat} {tv wv:Value}
theorem run_does (hK:CK C) (hn:CKn C):∀ (n dd:Nat),dd+n<=1000000->Does C dd bB b tv wv 249 (runG C n .value)/\Does C dd bB b tv wv 207 (runG C n .block) /\
  Does C dd bB b tv wv 258 (runG C n .signed)/\∀ c:Nat,c<=7->DoesJ C dd bB b tv wv (c:Int) (runG C n (.joined c))
 | 0,dd,_=>⟨fun _ _ _ _ ho=>absurd rfl ho,fun _ _ _ _ ho=>absurd rfl ho,fun _ _ _ _ ho=>absurd rfl ho,fun _ _ _ _ _ _ ho=>absurd rfl ho⟩
 | n+1,dd,hd=>by
  obtain ⟨V0,B0,S0,J0⟩:=run_does hK hn n dd (by omega)
  obtain ⟨V1,B1,S1,J1⟩:=run_does hK hn n (dd+1) (by omega)
  have HFI:Does C dd bB b tv wv 262 (firstP C (runG C n .value)):=fun s v w h ho =>
   first_any h V0 hK (fun s v w h hk ho=>literal_any h hK hn hk ho) (fun s v w h ho=>cast_any h V0 hK ho) (fun s v w h ho=>anew_any h V0 hK ho) ho
  have HA:Does C dd bB b tv wv 261 (askedP C (runG C n .value)):=fun s v w h ho =>
   asked_any h V0 HFI (fun of f s v w h ho=>had_any h V0 hK of f ho) ho
  have HST:Does C (dd+1) bB b tv wv 219 (statP C (runG C n .value) (runG C n .block)):=fun s v w h ho =>
   stat_any h V1 B1 (fun s v w h=>declares_any hK h) (fun s v w h ho=>decl_any h V1 hK ho) (fun s v w h ho=>valued_any h V1 ho) ho
  have hd1:dd+1<=1000000:=by omega
  refine ⟨fun s v w h ho=>value_any h hd1 (J1 1 (by omega)) ho,fun s v w h ho=>block_any h hd1 HST ho,fun s v w h ho=>signed_any h hd1 S1 HA ho,fun c hc s v w h ho=>joined_any h c hc (fun h6=>?_) S0 ho⟩
  have:=J0 (c+1) (by omega)
  rwa [show ((c+1:Nat):Int)=(c:Int)+1 from rfl] at this
end
end Go.Proofs.YtfehpdliobapfaaGreatDoor
