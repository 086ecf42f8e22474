/- For any text and any number,ScopeFinds returns true and leaves its arguments as they were. -/
import Derived.Test.YtfehpdliobapfaaGreatDoorFPaMA
import Derived.Lib.AppendZeros
set_option maxRecDepth 100000
set_option maxHeartbeats 4000000
set_option linter.unusedVariables false
set_option linter.unusedSimpArgs false
namespace Go.Proofs.YtfehpdliobapfaaGreatDoor
open Go Go.RowKit
theorem owns_in {W:World} {B n:Nat} {v:Value} {xs:List Value} (h:W.ownsRow B 3 1 v n xs):∀ k,v.ownBlock=some k->B<=k/\k<W.heap.size:=fun k hk=>by
 rcases h.2 with ⟨rfl,-⟩|⟨g,cap,cur,rfl,q1,q2,-⟩
 ·simp [Value.ownBlock] at hk
 ·simp [Value.ownBlock] at hk
  subst hk
  exact ⟨q1,lt_block q2⟩
theorem owns_shape {W:World} {B n:Nat} {v:Value} {xs:List Value} (h:W.ownsRow B 3 1 v n xs):∃ s c,v = .slice s n c:=by
 rcases h.2 with ⟨rfl,rfl⟩|⟨g,cap,cur,rfl,-⟩
 ·exact ⟨none,0,rfl⟩
 ·exact ⟨_,cap,rfl⟩
theorem owns_nums {w:World} {B n:Nat} {v:Value} {l:List Int} (h:w.ownsRow B 3 1 v n (numC l)) (hn:n=l.length):NumsV w v l:=by
 subst hn
 rcases h.2 with ⟨rfl,h1⟩|⟨g,cap,cur,rfl,hB,hg,hnc,hcm,hcs,htake⟩
 ·exact ⟨none,0,by rw [h1],fun h=>absurd h (by omega)⟩
 ·refine ⟨_,cap,rfl,fun _=>⟨g,0,rfl,lt_block hg,fun i hi=>?_⟩⟩
  have:=h.cells (g:=g) rfl i (.int .i64 l[i]) (by simp [numC])
  rwa [add_at] at this
theorem wpList_append_run {P:Program} {w:World} {ops:Array Oper} {rest:List Oper} {o:Oper} {a:Act} {Q:Exit->Act->World->Prop} (hgd:o.guard=none) (s x:Operand) (t:TypeId)
  (ho:o.op = .call { callee:=.builtin .append,args:=#[s,x],argTypes:=#[t,t] }) (v sv v':Value) (w':World) (hs:a.eval s=v) (hx:a.eval x=sv) (hrun:(Builtin.append_ #[t,t] o.type #[v,sv]).run P w = .ok v' w')
  (h:wpList P ops Q rest (a.put o.dst v') w'):wpList P ops Q (o :: rest) a w:=by
 refine wpList_plain hgd fun K hK=>?_
 unfold Oper.wp
 simp [execOp,ho,resolve,invoke,builtin,hs,hx,hrun,Result.andThen]
 exact hK _ _ h
section
variable {C:PC} {dd d0 bB b:Nat} {tv wv:Value} {s s0:PS} {v v0 v1:RV} {w w0 w1 w':World} {u:Value} {l:List Int}
def Own (w0:World) (b:Nat) (v:RV) (w:World) (u:Value) (l:List Int):Prop:=w.ownsRow w0.heap.size 3 1 u l.length (numC l)/\∀ k,u.ownBlock=some k->Mine b v w k
theorem Own.lst (h:Own w0 b v w u l):Lst b v w u l:=⟨owns_nums h.1 rfl,h.2⟩
theorem Own.mono {w9:World} (h:Own w9 b v w u l) (hs:w0.heap.size<=w9.heap.size):Own w0 b v w u l:=by
 obtain ⟨⟨q1,q2⟩,hm⟩:=h
 refine ⟨⟨q1,?_⟩,hm⟩
 rcases q2 with q|⟨k,cap,cur,rfl,hB,hg,q⟩
 ·exact .inl q
 ·exact .inr ⟨k,cap,cur,rfl,by omega,hg,q⟩
theorem own_snoc {ls:List Nat} {a:Nat} (h:Own w0 b v w u (ls.map Int.ofNat ++ [(a:Int)])):Own w0 b v w u ((ls ++ [a]).map Int.ofNat):=by rw [List.map_append];exact h
def repL (w0:World) (b:Nat) (l:List Nat) (v:RV) (w:World) (u:Value):Prop:=Own w0 b v w u (l.map Int.ofNat)
theorem cap_le {ls:List Nat} (h:capP ls s ≠ .out):ls.length<=90000:=by
 unfold capP at h
 by_cases hl:ls.length<=90000
 ·exact hl
 ·rw [if_neg hl] at h;exact absurd rfl h
theorem cap_ok {ls:List Nat} (h:ls.length<=90000):capP ls s = .ok () s:=by unfold capP;rw [if_pos h]
theorem own_nil (w0:World) (b:Nat) (v:RV) (w:World):Own w0 b v w (.slice none 0 0) []:=⟨World.ownsRow_nil _ _ _ _,fun k hk=>by simp [Value.ownBlock] at hk⟩
theorem Own.step (h:Own w0 b v w u l) (g:Fr bB b v w v1 w1):Own w0 b v1 w1 u l:=by
 obtain ⟨⟨q1,q2⟩,hm⟩:=h
 refine ⟨⟨q1,?_⟩,fun k hk=>((hm k hk).step g).1⟩
 rcases q2 with q|⟨k,cap,cur,rfl,hB,hg,q⟩
 ·exact .inl q
 ·exact .inr ⟨k,cap,cur,rfl,hB,by rw [((hm k rfl).step g).2];exact hg,q⟩
theorem own_one (R0:Rd C d0 bB b tv wv s0 v0 w0) (R:Rd C dd bB b tv wv s v w) (F:Fr bB b v0 w0 v w) (x:Int):Own w0 b v (w.alloc (.cells #[.int .i64 x] 3)) (.slice (some ⟨w.heap.size,0,none⟩) 1 1) [x]:=by
 refine ⟨?_,(lst_one R x).2⟩
 have X:=Bx.new 3 w #[.int .i64 x]
 refine ⟨by simp [numC],.inr ⟨w.heap.size,1,#[.int .i64 x],rfl,F.bel.size,X,?_⟩⟩
 simp [numC,maxLen]
theorem own_two (R0:Rd C d0 bB b tv wv s0 v0 w0) (R:Rd C dd bB b tv wv s v w) (F:Fr bB b v0 w0 v w) (x y:Int):Own w0 b v (w.alloc (.cells #[.int .i64 x,.int .i64 y] 3)) (.slice (some ⟨w.heap.size,0,none⟩) 2 2) [x,y]:=by
 refine ⟨?_,(lst_two R x y).2⟩
 have X:=Bx.new 3 w #[.int .i64 x,.int .i64 y]
 refine ⟨by simp [numC],.inr ⟨w.heap.size,2,#[.int .i64 x,.int .i64 y],rfl,F.bel.size,X,?_⟩⟩
 simp [numC,maxLen]
theorem Rd.grown (R0:Rd C d0 bB b tv wv s0 v0 w0) (R:Rd C dd bB b tv wv s v w) (hg:w.grownBy w' u.ownBlock) (hm:∀ k,u.ownBlock=some k->Mine b v w k/\w0.heap.size<=k):Rd C dd bB b tv wv s v w'/\∀ k,Mine b v w k->Mine b v w' k:=by
 have M:∀ k,Mine b v w k->Mine b v w' k:=fun k h=>⟨Nat.lt_of_lt_of_le h.lt hg.size,h.ne,h.row,h.cl⟩
 obtain ⟨h1,h2⟩:=R.bd
 obtain ⟨gt,ct,e1,m1,t1⟩:=R.toks
 obtain ⟨gw,cw,e2,m2,t2⟩:=R.words
 have lt1:gt<w0.heap.size:=by
  obtain ⟨g,c,e,m,-⟩:=R0.toks
  rw [e1] at e;simp at e;rw [e.1];exact m.lt
 have lt2:gw<w0.heap.size:=by
  obtain ⟨g,c,e,m,-⟩:=R0.words
  rw [e2] at e;simp at e;rw [e.1];exact m.lt
 have nt:some gt≠u.ownBlock:=fun e=>by have:=(hm gt e.symm).2;omega
 have nw:some gw≠u.ownBlock:=fun e=>by have:=(hm gw e.symm).2;omega
 have nb:some b≠u.ownBlock:=fun e=>(hm b e.symm).1.ne rfl
 have cellT:∀ o,w'.cell? ⟨gt,o,none⟩=w.cell? ⟨gt,o,none⟩:=fun o=>World.cell?_of_block (hg.block gt m1.lt nt)
 have cellW:∀ o,w'.cell? ⟨gw,o,none⟩=w.cell? ⟨gw,o,none⟩:=fun o=>World.cell?_of_block (hg.block gw m2.lt nw)
 have nn:∀ {z:Value} {ks:List Int},NewNums w bB z ks->(∀ k,z.ownBlock=some k->v.cl k)->NewNums w' bB z ks:=fun {z ks} hz hc=>by
  rcases hz with ⟨rfl,rfl⟩|⟨h0,g,rfl,hB,hgg⟩
  ·exact .inl ⟨rfl,rfl⟩
  ·refine .inr ⟨h0,g,rfl,hB,?_⟩
   rw [hg.block g (lt_block hgg) (fun e=>(hm g e.symm).1.cl (hc g rfl))];exact hgg
 refine ⟨⟨⟨h1,h2.base,?_,?_,fun y hy=>⟨nn (h2.new_ y hy).1 (fun k hk=>⟨y,hy,.inl hk⟩),nn (h2.new_ y hy).2 (fun k hk=>⟨y,hy,.inr hk⟩)⟩⟩,Nat.le_trans R.hB hg.size,⟨gt,ct,e1,M _ m1,fun i hi=>by have:=t1 i hi;rw [cellT,cellT,cellT];exact this⟩,⟨gw,cw,e2,M _ m2,fun i hi=>by rw [cellW];exact t2 i hi⟩,R.len,R.long,R.next,R.nodes,R.deep,R.over,R.cap,R.good⟩,M⟩
 ·have:=h2.box
  unfold Bx at *
  rw [hg.block b R.lt nb];exact this
 ·obtain ⟨q1,q2⟩:=h2.own
  refine ⟨q1,?_⟩
  rcases q2 with q|⟨g,cap,cur,hv,hBg,hg2,q⟩
  ·exact .inl q
  ·refine .inr ⟨g,cap,cur,hv,hBg,?_,q⟩
   rw [hg.block g (lt_block hg2) (fun e=>(hm g e.symm).1.row (by rw [hv];rfl))];exact hg2
theorem own_append (R0:Rd C d0 bB b tv wv s0 v0 w0) (R:Rd C dd bB b tv wv s v w) (F:Fr bB b v0 w0 v w) (h:Own w0 b v w u l) (x:Int) (hl:l.length<=1000000) :
  ∃ u' w',(Builtin.append_ #[57,57] 57 #[u,.slice (some ⟨w.heap.size,0,none⟩) 1 1]).run Tryz.prog (w.alloc (.cells #[.int .i64 x] 3)) = .ok u' w'/\Own w0 b v w' u' (l ++ [x])/\Rd C dd bB b tv wv s v w'/\Fr bB b v0 w0 v w':=by
 have hal:Below w.heap.size w (w.alloc (.cells #[.int .i64 x] 3)):=(Below.refl _ _).alloc (Nat.le_refl _) _
 have R1:=R.step hal
 have F1:=F.below hal R.hB
 have h1:=h.step (Fr.of_below hal R.hB)
 have X:=Bx.new 3 w #[.int .i64 x]
 obtain ⟨i0,hi,hz0,hz1,hz2⟩:=info_parts infoInt
 have hc:∀ j y,[Value.int .i64 x][j]? = some y->(w.alloc (.cells #[.int .i64 x] 3)).cell? ((⟨w.heap.size,0,none⟩:Addr).add j)=some y:=fun j y hj=>by
  rw [add_at,Nat.zero_add,X.cell];exact hj
 have h1c:∀ y ∈ [Value.int .i64 x],y.oneCell'=true:=fun y hy=>by rw [List.mem_singleton] at hy;subst hy;rfl
 obtain ⟨u',w',hrun,r1,r2,-⟩:=run_append_own (P:=Tryz.prog) (w.alloc (.cells #[.int .i64 x] 3)) w0.heap.size 57 57 3 i0 (.int .i64 0) 1 8 Tryz.underlying57 hi hz0 hz1 hz2 rfl (by decide) u l.length (numC l) h1.1 ⟨w.heap.size,0,none⟩ 1 1 [.int .i64 x] (by simp) hc h1c (by unfold maxLen;omega) (by omega) F1.bel.size
 have hw:=append_where (P:=Tryz.prog) w0.heap.size 57 57 3 i0 (.int .i64 0) 1 8 Tryz.underlying57 hi hz0 hz1 hz2 u l.length (numC l) h1.1 ⟨w.heap.size,0,none⟩ 1 1 [.int .i64 x] (by decide) (by simp) hc h1c (by unfold maxLen;omega) (by omega) hrun
 have hm:∀ k,u.ownBlock=some k->Mine b v (w.alloc (.cells #[.int .i64 x] 3)) k/\w0.heap.size<=k:=fun k hk=>⟨h1.2 k hk,(owns_in h1.1 k hk).1⟩
 obtain ⟨R2,M2⟩:=Rd.grown R0 R1 r2 hm
 refine ⟨u',w',hrun,⟨?_,fun k hk=>?_⟩,R2,⟨⟨by rw [r2.os];exact F1.bel.os,by rw [r2.tape];exact F1.bel.tape,by rw [r2.output];exact F1.bel.output,Nat.le_trans F1.bel.size r2.size,fun k hk=>?_⟩,fun k k1 k2 k3=>?_,F1.own,F1.lists⟩⟩
 ·rw [show numC (l ++ [x])=numC l ++ [.int .i64 x] by simp [numC],List.length_append];exact r1
 ·rcases hw k hk with e|e
  ·exact M2 k (h1.2 k e)
  ·refine ⟨(owns_in r1 k hk).2,fun e2=>?_,fun e2=>?_,fun e2=>?_⟩
   ·have:=R1.lt;omega
   ·have:=R1.own_lt _ e2;omega
   ·have:=R1.cl_lt _ e2;omega
 ·have h0:=R0.hB
  have hs:=F1.bel.size
  rw [r2.block k (by omega) (fun e=>by have:=(hm k e.symm).2;omega)];exact F1.bel.block k hk
 ·have hs:=F1.bel.size
  rw [r2.block k (by omega) (fun e=>by have:=(hm k e.symm).2;omega)];exact F1.kept k k1 k2 k3
end
end Go.Proofs.YtfehpdliobapfaaGreatDoor
namespace Go.Proofs.YtfehpdliobapfaaGreatDoor
open Go Go.RowKit
section
variable {C:PC} {dd bB b:Nat} {tv wv:Value} {s:PS} {v v1:RV} {w w1:World}
theorem binds_any (y:ByteArray) (w:World):Calls Tryz.prog 259 #[.string y] w fun e w'=>e = .returned (.int .i64 (bindsN y:Nat))/\w=w':=by
 by_cases h0:y=(⟨#[124,124]⟩:ByteArray)
 ·have E:Hid (bindsN y=1):=Lib.hid (by rw [h0];rfl)
  have n0:(y.toList == [124,124])=true:=str_yes h0
  clear h0
  go_enter Tryz.func259,Tryz.ntmps259
  go_wp2_with fail
  go_ret
  exact ⟨by rw [E.out];rfl,rfl⟩
 have n0:(y.toList == [124,124])=false:=str_no h0
 by_cases h1:y=(⟨#[38,38]⟩:ByteArray)
 ·have E:Hid (bindsN y=2):=Lib.hid (by rw [h1];rfl)
  have n1:(y.toList == [38,38])=true:=str_yes h1
  clear h0 h1
  go_enter Tryz.func259,Tryz.ntmps259
  go_wp2_with fail
  go_ret
  exact ⟨by rw [E.out];rfl,rfl⟩
 have n1:(y.toList == [38,38])=false:=str_no h1
 by_cases h2:y=(⟨#[61,61]⟩:ByteArray)
 ·have E:Hid (bindsN y=3):=Lib.hid (by rw [h2];rfl)
  have n2:(y.toList == [61,61])=true:=str_yes h2
  clear h0 h1 h2
  go_enter Tryz.func259,Tryz.ntmps259
  go_wp2_with fail
  go_ret
  exact ⟨by rw [E.out];rfl,rfl⟩
 have n2:(y.toList == [61,61])=false:=str_no h2
 by_cases h3:y=(⟨#[33,61]⟩:ByteArray)
 ·have E:Hid (bindsN y=3):=Lib.hid (by rw [h3];rfl)
  have n3:(y.toList == [33,61])=true:=str_yes h3
  clear h0 h1 h2 h3
  go_enter Tryz.func259,Tryz.ntmps259
  go_wp2_with fail
  go_ret
  exact ⟨by rw [E.out];rfl,rfl⟩
 have n3:(y.toList == [33,61])=false:=str_no h3
 by_cases h4:y=(⟨#[60]⟩:ByteArray)
 ·have E:Hid (bindsN y=4):=Lib.hid (by rw [h4];rfl)
  have n4:(y.toList == [60])=true:=str_yes h4
  clear h0 h1 h2 h3 h4
  go_enter Tryz.func259,Tryz.ntmps259
  go_wp2_with fail
  go_ret
  exact ⟨by rw [E.out];rfl,rfl⟩
 have n4:(y.toList == [60])=false:=str_no h4
 by_cases h5:y=(⟨#[60,61]⟩:ByteArray)
 ·have E:Hid (bindsN y=4):=Lib.hid (by rw [h5];rfl)
  have n5:(y.toList == [60,61])=true:=str_yes h5
  clear h0 h1 h2 h3 h4 h5
  go_enter Tryz.func259,Tryz.ntmps259
  go_wp2_with fail
  go_ret
  exact ⟨by rw [E.out];rfl,rfl⟩
 have n5:(y.toList == [60,61])=false:=str_no h5
 by_cases h6:y=(⟨#[62]⟩:ByteArray)
 ·have E:Hid (bindsN y=4):=Lib.hid (by rw [h6];rfl)
  have n6:(y.toList == [62])=true:=str_yes h6
  clear h0 h1 h2 h3 h4 h5 h6
  go_enter Tryz.func259,Tryz.ntmps259
  go_wp2_with fail
  go_ret
  exact ⟨by rw [E.out];rfl,rfl⟩
 have n6:(y.toList == [62])=false:=str_no h6
 by_cases h7:y=(⟨#[62,61]⟩:ByteArray)
 ·have E:Hid (bindsN y=4):=Lib.hid (by rw [h7];rfl)
  have n7:(y.toList == [62,61])=true:=str_yes h7
  clear h0 h1 h2 h3 h4 h5 h6 h7
  go_enter Tryz.func259,Tryz.ntmps259
  go_wp2_with fail
  go_ret
  exact ⟨by rw [E.out];rfl,rfl⟩
 have n7:(y.toList == [62,61])=false:=str_no h7
 by_cases h8:y=(⟨#[105,115]⟩:ByteArray)
 ·have E:Hid (bindsN y=4):=Lib.hid (by rw [h8];rfl)
  have n8:(y.toList == [105,115])=true:=str_yes h8
  clear h0 h1 h2 h3 h4 h5 h6 h7 h8
  go_enter Tryz.func259,Tryz.ntmps259
  go_wp2_with fail
  go_ret
  exact ⟨by rw [E.out];rfl,rfl⟩
 have n8:(y.toList == [105,115])=false:=str_no h8
 by_cases h9:y=(⟨#[43]⟩:ByteArray)
 ·have E:Hid (bindsN y=5):=Lib.hid (by rw [h9];rfl)
  have n9:(y.toList == [43])=true:=str_yes h9
  clear h0 h1 h2 h3 h4 h5 h6 h7 h8 h9
  go_enter Tryz.func259,Tryz.ntmps259
  go_wp2_with fail
  go_ret
  exact ⟨by rw [E.out];rfl,rfl⟩
 have n9:(y.toList == [43])=false:=str_no h9
 by_cases h10:y=(⟨#[45]⟩:ByteArray)
 ·have E:Hid (bindsN y=5):=Lib.hid (by rw [h10];rfl)
  have n10:(y.toList == [45])=true:=str_yes h10
  clear h0 h1 h2 h3 h4 h5 h6 h7 h8 h9 h10
  go_enter Tryz.func259,Tryz.ntmps259
  go_wp2_with fail
  go_ret
  exact ⟨by rw [E.out];rfl,rfl⟩
 have n10:(y.toList == [45])=false:=str_no h10
 by_cases h11:y=(⟨#[42]⟩:ByteArray)
 ·have E:Hid (bindsN y=6):=Lib.hid (by rw [h11];rfl)
  have n11:(y.toList == [42])=true:=str_yes h11
  clear h0 h1 h2 h3 h4 h5 h6 h7 h8 h9 h10 h11
  go_enter Tryz.func259,Tryz.ntmps259
  go_wp2_with fail
  go_ret
  exact ⟨by rw [E.out];rfl,rfl⟩
 have n11:(y.toList == [42])=false:=str_no h11
 by_cases h12:y=(⟨#[47]⟩:ByteArray)
 ·have E:Hid (bindsN y=6):=Lib.hid (by rw [h12];rfl)
  have n12:(y.toList == [47])=true:=str_yes h12
  clear h0 h1 h2 h3 h4 h5 h6 h7 h8 h9 h10 h11 h12
  go_enter Tryz.func259,Tryz.ntmps259
  go_wp2_with fail
  go_ret
  exact ⟨by rw [E.out];rfl,rfl⟩
 have n12:(y.toList == [47])=false:=str_no h12
 by_cases h13:y=(⟨#[37]⟩:ByteArray)
 ·have E:Hid (bindsN y=6):=Lib.hid (by rw [h13];rfl)
  have n13:(y.toList == [37])=true:=str_yes h13
  clear h0 h1 h2 h3 h4 h5 h6 h7 h8 h9 h10 h11 h12 h13
  go_enter Tryz.func259,Tryz.ntmps259
  go_wp2_with fail
  go_ret
  exact ⟨by rw [E.out];rfl,rfl⟩
 have n13:(y.toList == [37])=false:=str_no h13
 have E:Hid (bindsN y=0):=Lib.hid (by unfold bindsN;simp only [h0,h1,h2,h3,h4,h5,h6,h7,h8,h9,h10,h11,h12,h13,or_self,if_false,false_or,or_false])
 clear h0 h1 h2 h3 h4 h5 h6 h7 h8 h9 h10 h11 h12 h13
 go_enter Tryz.func259,Tryz.ntmps259
 go_wp2_with fail
 go_ret
 exact ⟨by rw [E.out];rfl,rfl⟩
theorem value_any (h:Rd C dd bB b tv wv s v w) {rec:PG->PM Nat} (hd9:dd+1<=1000000) (HJ:DoesJ C (dd+1) bB b tv wv 1 (rec (.joined 1))) (ho:stepG C rec .value s ≠ .out):Calls Tryz.prog 249 #[.pointer (some ⟨b,0,none⟩)] w (RQ C dd bB b tv wv v w repN (stepG C rec .value s)):=by
 have HR0:=Lib.hid h
 have R0:=Lib.hid h
 have F0:=Lib.hid (Fr.refl bB b v w)
 have HO:=Lib.hid ho
 have E0:=Lib.hid (congrFun (stepG.eq_1 C rec) s)
 clear h ho
 go_enter Tryz.func249,Tryz.ntmps249
 go_wp2_with fail
 refine (enter_any hd9 R0.out).mono ?_
 rintro e w1 (⟨x1,t1,v1,u1,hm,rfl,hrep,rd,fr⟩|⟨c,x,hm,rfl,hb⟩)
 rotate_left
 ·go_wp2_with fail
  exact ⟨rfl,rq_bad (E0.out.trans (bnd_bad hm)) (F0.out.bel.trans hb)⟩
 obtain rfl:u1 = .tuple #[]:=hrep
 have E1:=Lib.hid (E0.out.trans (bnd_ok hm))
 have R1:=Lib.hid rd
 have F1:=Lib.hid (F0.out.trans fr)
 clear hm rd fr E0 R0 F0
 go_wp2_with fail
 refine (HJ _ _ _ R1.out (fun e=>HO.out (E1.out.trans (bnd_out e)))).mono ?_
 rintro e w2 (⟨x2,t2,v2,u2,hm,rfl,hrep,rd,fr⟩|⟨c,x,hm,rfl,hb⟩)
 rotate_left
 ·go_wp2_with fail
  exact ⟨rfl,rq_bad (E1.out.trans (bnd_bad hm)) (F1.out.bel.trans hb)⟩
 obtain rfl:u2 = .int .i64 (x2:Nat):=hrep
 have E2:=Lib.hid (E1.out.trans (bnd_ok hm))
 have R2:=Lib.hid rd
 have F2:=Lib.hid (F1.out.trans fr)
 clear hm rd fr E1 R1 F1
 go_wp2_with fail
 refine (leave_any (by omega) R2.out (fun e=>HO.out (E2.out.trans (bnd_out e)))).mono ?_
 rintro e w3 (⟨x3,t3,v3,u3,hm,rfl,hrep,rd,fr⟩|⟨c,x,hm,rfl,hb⟩)
 rotate_left
 ·go_wp2_with fail
  exact ⟨rfl,rq_bad (E2.out.trans (bnd_bad hm)) (F2.out.bel.trans hb)⟩
 obtain rfl:u3 = .tuple #[]:=hrep
 have E3:=Lib.hid (E2.out.trans (bnd_ok hm))
 have R3:=Lib.hid rd
 have F3:=Lib.hid (F2.out.trans fr)
 clear hm rd fr E2 R2 F2
 go_wp2_with fail
 go_ret
 exact rq_ok (E3.out.trans ret_go) rfl R3.out F3.out
theorem signed_any (h:Rd C dd bB b tv wv s v w) {rec:PG->PM Nat} (hd9:dd+1<=1000000) (HS:Does C (dd+1) bB b tv wv 258 (rec .signed)) (HA:Does C dd bB b tv wv 261 (askedP C (rec .value))) (ho:stepG C rec .signed s ≠ .out):Calls Tryz.prog 258 #[.pointer (some ⟨b,0,none⟩)] w (RQ C dd bB b tv wv v w repN (stepG C rec .signed s)):=by
 have HR0:=Lib.hid h
 have R0:=Lib.hid h
 have F0:=Lib.hid (Fr.refl bB b v w)
 have HO:=Lib.hid ho
 have E0:=Lib.hid (congrFun (stepG.eq_3 C rec) s)
 clear h ho
 go_enter Tryz.func258,Tryz.ntmps258
 go_wp2_with fail
 refine (word_any R0.out 0 (by omega)).mono ?_
 rintro e w4 ⟨rfl,hb⟩
 have R4:=Lib.hid (R0.out.step hb)
 have F4:=Lib.hid (F0.out.below hb R0.out.hB)
 clear hb R0 F0
 have E5:=Lib.hid (E0.out.trans look_go)
 clear E0
 by_cases hs6:(wordS C 0 s)=(⟨#[45]⟩:ByteArray)
 ·have n6:((wordS C 0 s).toList == [45])=true:=str_yes hs6
  have m6:((wordS C 0 s).toList != [45])=false:=str_nyes hs6
  have E7:=Lib.hid (E5.out.trans (if_pos_go (.inl hs6)))
  clear E5
  go_wp2_with fail
  refine (from_any' R4.out).mono ?_
  rintro e w8 ⟨rfl,hb⟩
  have R8:=Lib.hid (R4.out.step hb)
  have F8:=Lib.hid (F4.out.below hb R4.out.hB)
  clear hb R4 F4
  have E9:=Lib.hid (E7.out.trans look_go)
  clear E7
  go_wp2_with fail
  refine (enter_any hd9 R8.out).mono ?_
  rintro e w10 (⟨x10,t10,v10,u10,hm,rfl,hrep,rd,fr⟩|⟨c,x,hm,rfl,hb⟩)
  rotate_left
  ·go_wp2_with fail
   exact ⟨rfl,rq_bad (E9.out.trans (bnd_bad hm)) (F8.out.bel.trans hb)⟩
  obtain rfl:u10 = .tuple #[]:=hrep
  have E10:=Lib.hid (E9.out.trans (bnd_ok hm))
  have R10:=Lib.hid rd
  have F10:=Lib.hid (F8.out.trans fr)
  clear hm rd fr E9 R8 F8
  go_wp2_with fail
  refine (read_any R10.out (fun e=>HO.out (E10.out.trans (bnd_out e)))).mono ?_
  rintro e w11 (⟨x11,t11,v11,u11,hm,rfl,hrep,rd,fr⟩|⟨c,x,hm,rfl,hb⟩)
  rotate_left
  ·go_wp2_with fail
   exact ⟨rfl,rq_bad (E10.out.trans (bnd_bad hm)) (F10.out.bel.trans hb)⟩
  obtain rfl:u11 = .string x11:=hrep
  have E11:=Lib.hid (E10.out.trans (bnd_ok hm))
  have R11:=Lib.hid rd
  have F11:=Lib.hid (F10.out.trans fr)
  clear hm rd fr E10 R10 F10
  go_wp2_with fail
  refine (HS _ _ _ R11.out (fun e=>HO.out (E11.out.trans (bnd_out e)))).mono ?_
  rintro e w12 (⟨x12,t12,v12,u12,hm,rfl,hrep,rd,fr⟩|⟨c,x,hm,rfl,hb⟩)
  rotate_left
  ·go_wp2_with fail
   exact ⟨rfl,rq_bad (E11.out.trans (bnd_bad hm)) (F11.out.bel.trans hb)⟩
  obtain rfl:u12 = .int .i64 (x12:Nat):=hrep
  have E12:=Lib.hid (E11.out.trans (bnd_ok hm))
  have R12:=Lib.hid rd
  have F12:=Lib.hid (F11.out.trans fr)
  clear hm rd fr E11 R11 F11
  have hal:Below w12.heap.size w12 (w12.alloc (.cells #[.int .i64 (x12:Int)] 3)):=(Below.refl _ _).alloc (Nat.le_refl _) _
  have K13:=Lib.hid (lst_one R12.out (x12:Int))
  have R13:=Lib.hid (R12.out.step hal)
  have F13:=Lib.hid (F12.out.below hal R12.out.hB)
  clear hal R12 F12
  go_wp2_with fail
  refine (leave_any (by omega) R13.out (fun e=>HO.out (E12.out.trans (bnd_out e)))).mono ?_
  rintro e w14 (⟨x14,t14,v14,u14,hm,rfl,hrep,rd,fr⟩|⟨c,x,hm,rfl,hb⟩)
  rotate_left
  ·go_wp2_with fail
   exact ⟨rfl,rq_bad (E12.out.trans (bnd_bad hm)) (F13.out.bel.trans hb)⟩
  obtain rfl:u14 = .tuple #[]:=hrep
  have E14:=Lib.hid (E12.out.trans (bnd_ok hm))
  have R14:=Lib.hid rd
  have F14:=Lib.hid (F13.out.trans fr)
  have K15:=Lib.hid (K13.out.step fr)
  clear K13
  clear hm rd fr E12 R13 F13
  have hk:(if wordS C 0 s=(⟨#[45]⟩:ByteArray) then (32:Int) else 33)=32:=if_pos hs6
  have E16:=E14.out
  rw [hk] at E16
  have E16h:=Lib.hid E16
  clear E16 hk E14
  go_wp2_with fail
  refine (make_any 32 0 0 [(x12:Int)] ⟨#[]⟩ 0 ⟨#[]⟩ 0 ⟨#[]⟩ 0 0 0 [] _ _ (fromS C s) R14.out (fun e=>HO.out (E16h.out.trans e)) K15.out (lst_none _ _ _)).mono ?_
  rintro e w17 (⟨x17,t17,v17,u17,hm,rfl,hrep,rd,fr⟩|⟨c,x,hm,rfl,hb⟩)
  rotate_left
  ·go_wp2_with fail
   exact ⟨rfl,rq_bad (E16h.out.trans hm) (F14.out.bel.trans hb)⟩
  obtain rfl:u17 = .int .i64 (x17:Nat):=hrep
  have E17:=Lib.hid (E16h.out.trans hm)
  have R17:=Lib.hid rd
  have F17:=Lib.hid (F14.out.trans fr)
  have K18:=Lib.hid (K15.out.step fr)
  clear K15
  clear hm rd fr E16h R14 F14
  go_wp2_with fail
  go_ret
  exact rq_ok E17.out rfl R17.out F17.out
 ·have n6:((wordS C 0 s).toList == [45])=false:=str_no hs6
  have m6:((wordS C 0 s).toList != [45])=true:=str_nno hs6
  by_cases hs19:(wordS C 0 s)=(⟨#[33]⟩:ByteArray)
  ·have n19:((wordS C 0 s).toList == [33])=true:=str_yes hs19
   have m19:((wordS C 0 s).toList != [33])=false:=str_nyes hs19
   have E20:=Lib.hid (E5.out.trans (if_pos_go (.inr hs19)))
   clear E5
   go_wp2_with fail
   refine (from_any' R4.out).mono ?_
   rintro e w21 ⟨rfl,hb⟩
   have R21:=Lib.hid (R4.out.step hb)
   have F21:=Lib.hid (F4.out.below hb R4.out.hB)
   clear hb R4 F4
   have E22:=Lib.hid (E20.out.trans look_go)
   clear E20
   go_wp2_with fail
   refine (enter_any hd9 R21.out).mono ?_
   rintro e w23 (⟨x23,t23,v23,u23,hm,rfl,hrep,rd,fr⟩|⟨c,x,hm,rfl,hb⟩)
   rotate_left
   ·go_wp2_with fail
    exact ⟨rfl,rq_bad (E22.out.trans (bnd_bad hm)) (F21.out.bel.trans hb)⟩
   obtain rfl:u23 = .tuple #[]:=hrep
   have E23:=Lib.hid (E22.out.trans (bnd_ok hm))
   have R23:=Lib.hid rd
   have F23:=Lib.hid (F21.out.trans fr)
   clear hm rd fr E22 R21 F21
   go_wp2_with fail
   refine (read_any R23.out (fun e=>HO.out (E23.out.trans (bnd_out e)))).mono ?_
   rintro e w24 (⟨x24,t24,v24,u24,hm,rfl,hrep,rd,fr⟩|⟨c,x,hm,rfl,hb⟩)
   rotate_left
   ·go_wp2_with fail
    exact ⟨rfl,rq_bad (E23.out.trans (bnd_bad hm)) (F23.out.bel.trans hb)⟩
   obtain rfl:u24 = .string x24:=hrep
   have E24:=Lib.hid (E23.out.trans (bnd_ok hm))
   have R24:=Lib.hid rd
   have F24:=Lib.hid (F23.out.trans fr)
   clear hm rd fr E23 R23 F23
   go_wp2_with fail
   refine (HS _ _ _ R24.out (fun e=>HO.out (E24.out.trans (bnd_out e)))).mono ?_
   rintro e w25 (⟨x25,t25,v25,u25,hm,rfl,hrep,rd,fr⟩|⟨c,x,hm,rfl,hb⟩)
   rotate_left
   ·go_wp2_with fail
    exact ⟨rfl,rq_bad (E24.out.trans (bnd_bad hm)) (F24.out.bel.trans hb)⟩
   obtain rfl:u25 = .int .i64 (x25:Nat):=hrep
   have E25:=Lib.hid (E24.out.trans (bnd_ok hm))
   have R25:=Lib.hid rd
   have F25:=Lib.hid (F24.out.trans fr)
   clear hm rd fr E24 R24 F24
   have hal:Below w25.heap.size w25 (w25.alloc (.cells #[.int .i64 (x25:Int)] 3)):=(Below.refl _ _).alloc (Nat.le_refl _) _
   have K26:=Lib.hid (lst_one R25.out (x25:Int))
   have R26:=Lib.hid (R25.out.step hal)
   have F26:=Lib.hid (F25.out.below hal R25.out.hB)
   clear hal R25 F25
   go_wp2_with fail
   refine (leave_any (by omega) R26.out (fun e=>HO.out (E25.out.trans (bnd_out e)))).mono ?_
   rintro e w27 (⟨x27,t27,v27,u27,hm,rfl,hrep,rd,fr⟩|⟨c,x,hm,rfl,hb⟩)
   rotate_left
   ·go_wp2_with fail
    exact ⟨rfl,rq_bad (E25.out.trans (bnd_bad hm)) (F26.out.bel.trans hb)⟩
   obtain rfl:u27 = .tuple #[]:=hrep
   have E27:=Lib.hid (E25.out.trans (bnd_ok hm))
   have R27:=Lib.hid rd
   have F27:=Lib.hid (F26.out.trans fr)
   have K28:=Lib.hid (K26.out.step fr)
   clear K26
   clear hm rd fr E25 R26 F26
   have hk:(if wordS C 0 s=(⟨#[45]⟩:ByteArray) then (32:Int) else 33)=33:=if_neg hs6
   have E29:=E27.out
   rw [hk] at E29
   have E29h:=Lib.hid E29
   clear E29 hk E27
   go_wp2_with fail
   refine (make_any 33 0 0 [(x25:Int)] ⟨#[]⟩ 0 ⟨#[]⟩ 0 ⟨#[]⟩ 0 0 0 [] _ _ (fromS C s) R27.out (fun e=>HO.out (E29h.out.trans e)) K28.out (lst_none _ _ _)).mono ?_
   rintro e w30 (⟨x30,t30,v30,u30,hm,rfl,hrep,rd,fr⟩|⟨c,x,hm,rfl,hb⟩)
   rotate_left
   ·go_wp2_with fail
    exact ⟨rfl,rq_bad (E29h.out.trans hm) (F27.out.bel.trans hb)⟩
   obtain rfl:u30 = .int .i64 (x30:Nat):=hrep
   have E30:=Lib.hid (E29h.out.trans hm)
   have R30:=Lib.hid rd
   have F30:=Lib.hid (F27.out.trans fr)
   have K31:=Lib.hid (K28.out.step fr)
   clear K28
   clear hm rd fr E29h R27 F27
   go_wp2_with fail
   go_ret
   exact rq_ok E30.out rfl R30.out F30.out
  ·have n19:((wordS C 0 s).toList == [33])=false:=str_no hs19
   have m19:((wordS C 0 s).toList != [33])=true:=str_nno hs19
   have E32:=Lib.hid (E5.out.trans (if_neg_go (fun e=>e.elim hs6 hs19)))
   clear E5
   go_wp2_with fail
   refine (HA _ _ _ R4.out (fun e=>HO.out (E32.out.trans e))).mono ?_
   rintro e w33 (⟨x33,t33,v33,u33,hm,rfl,hrep,rd,fr⟩|⟨c,x,hm,rfl,hb⟩)
   rotate_left
   ·go_wp2_with fail
    exact ⟨rfl,rq_bad (E32.out.trans hm) (F4.out.bel.trans hb)⟩
   obtain rfl:u33 = .int .i64 (x33:Nat):=hrep
   have E33:=Lib.hid (E32.out.trans hm)
   have R33:=Lib.hid rd
   have F33:=Lib.hid (F4.out.trans fr)
   clear hm rd fr E32 R4 F4
   go_wp2_with fail
   go_ret
   exact rq_ok E33.out rfl R33.out F33.out
theorem joined_any (h:Rd C dd bB b tv wv s v w) {rec:PG->PM Nat} (c:Nat) (hc9:c<=7) (HJ0:c<=6->DoesJ C dd bB b tv wv ((c:Int)+1) (rec (.joined (c+1)))) (HS:Does C dd bB b tv wv 258 (rec .signed)) (ho:stepG C rec (.joined c) s ≠ .out):Calls Tryz.prog 254 #[.pointer (some ⟨b,0,none⟩),.int .i64 (c:Nat)] w (RQ C dd bB b tv wv v w repN (stepG C rec (.joined c) s)):=by
 have i3:IntKind.i64.wrap ((c:Int)+1)=(c:Int)+1:=IntWalk.i64_in _ ⟨by omega,by omega⟩
 have HR0:=Lib.hid h
 have R0:=Lib.hid h
 have F0:=Lib.hid (Fr.refl bB b v w)
 have HO:=Lib.hid ho
 have E0:=Lib.hid (congrFun (stepG.eq_2 C rec c) s)
 clear h ho
 go_enter Tryz.func254,Tryz.ntmps254
 by_cases h6:6<c
 ·have p1:decide ((6:Int)<(c:Int))=true:=decide_eq_true (by omega)
  have E34:=Lib.hid (E0.out.trans (if_pos_go h6))
  clear E0
  go_wp2_with fail
  refine (HS _ _ _ R0.out (fun e=>HO.out (E34.out.trans e))).mono ?_
  rintro e w35 (⟨x35,t35,v35,u35,hm,rfl,hrep,rd,fr⟩|⟨c,x,hm,rfl,hb⟩)
  rotate_left
  ·go_wp2_with fail
   exact ⟨rfl,rq_bad (E34.out.trans hm) (F0.out.bel.trans hb)⟩
  obtain rfl:u35 = .int .i64 (x35:Nat):=hrep
  have E35:=Lib.hid (E34.out.trans hm)
  have R35:=Lib.hid rd
  have F35:=Lib.hid (F0.out.trans fr)
  clear hm rd fr E34 R0 F0
  go_wp2_with fail
  go_ret
  exact rq_ok E35.out rfl R35.out F35.out
 ·have HJ:=HJ0 (by omega)
  have HJI:=HJ
  have p1:decide ((6:Int)<(c:Int))=false:=decide_eq_false (by omega)
  have E36:=Lib.hid (E0.out.trans (if_neg_go h6))
  clear E0
  go_wp2_with fail
  refine (from_any' R0.out).mono ?_
  rintro e w37 ⟨rfl,hb⟩
  have R37:=Lib.hid (R0.out.step hb)
  have F37:=Lib.hid (F0.out.below hb R0.out.hB)
  clear hb R0 F0
  have E38:=Lib.hid (E36.out.trans look_go)
  clear E36
  go_wp2_with fail
  refine (HJ _ _ _ R37.out (fun e=>HO.out (E38.out.trans (bnd_out e)))).mono ?_
  rintro e w39 (⟨x39,t39,v39,u39,hm,rfl,hrep,rd,fr⟩|⟨c,x,hm,rfl,hb⟩)
  rotate_left
  ·go_wp2_with fail
   exact ⟨rfl,rq_bad (E38.out.trans (bnd_bad hm)) (F37.out.bel.trans hb)⟩
  obtain rfl:u39 = .int .i64 (x39:Nat):=hrep
  have E39:=Lib.hid (E38.out.trans (bnd_ok hm))
  have R39:=Lib.hid rd
  have F39:=Lib.hid (F37.out.trans fr)
  clear hm rd fr E38 R37 F37
  go_wp2_with fail
  go_loopg [6] C.toks.length (fun k nn wr=>∃ (m:Nat) (t:PS) (vv:RV),nn = .int .i64 (m:Nat)/\stepG C rec (.joined c) s=joinL C (rec (.joined (c+1))) c (fromS C s) k m t/\Rd C dd bB b tv wv t vv wr/\Fr bB b v w vv wr)
  case atStart=>exact ⟨x39,_,_,rfl,E39.out,R39.out,F39.out⟩
  case round =>
   clear E39 R39 F39
   obtain ⟨m,t,vv,rfl,he,hr,hf⟩:=hrel
   cases gk with
   | zero=>exact (HO.out he).elim
   | succ gk =>
    have E0:=Lib.hid (he.trans (congrFun (joinL.eq_2 C (rec (.joined (c+1))) c (fromS C s) m gk) t))
    have R0:=Lib.hid hr
    have F0:=Lib.hid hf
    clear he hr hf
    go_wp2_with fail
    refine (word_any R0.out 0 (by omega)).mono ?_
    rintro e w40 ⟨rfl,hb⟩
    have R40:=Lib.hid (R0.out.step hb)
    have F40:=Lib.hid (F0.out.below hb R0.out.hB)
    clear hb R0 F0
    have E41:=Lib.hid (E0.out.trans look_go)
    clear E0
    go_wp2_with fail
    refine (binds_any _ _).mono ?_
    rintro e w42 ⟨rfl,rfl⟩
    by_cases hb:bindsN (wordS C 0 t)=c
    ·have p2:((bindsN (wordS C 0 t):Int) == (c:Int))=true:=by simp;omega
     have E43:=Lib.hid (E41.out.trans (if_pos_go hb))
     clear E41
     go_wp2_with fail
     refine (join_any R40.out (c:Int) ⟨by omega,by omega⟩ HJI _ _ (fun e=>HO.out (E43.out.trans (bnd_out e)))).mono ?_
     rintro e w44 (⟨x44,t44,v44,u44,hm,rfl,hrep,rd,fr⟩|⟨c,x,hm,rfl,hb⟩)
     rotate_left
     ·go_wp2_with fail
      exact ⟨rfl,rq_bad (E43.out.trans (bnd_bad hm)) (F40.out.bel.trans hb)⟩
     obtain rfl:u44 = .int .i64 (x44:Nat):=hrep
     have E44:=Lib.hid (E43.out.trans (bnd_ok hm))
     have R44:=Lib.hid rd
     have F44:=Lib.hid (F40.out.trans fr)
     clear hm rd fr E43 R40 F40
     go_wp2_with fail
     go_roundg gk
     case measure=>omega
     case rel=>exact ⟨x44,_,_,rfl,E44.out,R44.out,F44.out⟩
    ·have p2:((bindsN (wordS C 0 t):Int) == (c:Int))=false:=by simp;omega
     have E45:=Lib.hid (E41.out.trans (if_neg_go hb))
     clear E41
     go_wp2_with fail
     go_ret
     exact rq_ok (E45.out.trans ret_go) rfl R40.out F40.out
theorem bnd_assoc {α β γ : Type} {m:PM α} {k : α -> PM β} {j : β -> PM γ} {t:PS}:bnd (bnd m k) j t=bnd m (fun a=>bnd (k a) j) t:=by
 unfold bnd
 cases m t<;>rfl
theorem bnd_if_pos {α β : Type} {c:Prop} [Decidable c] {m n:PM α} {j : α -> PM β} {t:PS} (h:c):bnd (if c then m else n) j t=bnd m j t:=by rw [if_pos h]
theorem bnd_if_neg {α β : Type} {c:Prop} [Decidable c] {m n:PM α} {j : α -> PM β} {t:PS} (h:¬ c):bnd (if c then m else n) j t=bnd n j t:=by rw [if_neg h]
theorem listV_any (h:Rd C dd bB b tv wv s v w) {value:PM Nat} (HV:Does C dd bB b tv wv 249 value) (ho:listP C value s ≠ .out):Calls Tryz.prog 205 #[.pointer (some ⟨b,0,none⟩),.func (.func 249) #[.pointer (some ⟨b,0,none⟩)] #[]] w (RQ C dd bB b tv wv v w (repL w b) (listP C value s)):=by
 have HR0:=Lib.hid h
 have R0:=Lib.hid h
 have F0:=Lib.hid (Fr.refl bB b v w)
 have HO:=Lib.hid ho
 have E0:=Lib.hid (congrFun (listP.eq_1 C value) s)
 clear h ho
 go_enter Tryz.func205,Tryz.ntmps205
 go_wp2_with fail
 refine (want_any R0.out _ (fun e=>HO.out (E0.out.trans (bnd_out e)))).mono ?_
 rintro e w46 (⟨x46,t46,v46,u46,hm,rfl,hrep,rd,fr⟩|⟨c,x,hm,rfl,hb⟩)
 rotate_left
 ·go_wp2_with fail
  exact ⟨rfl,rq_bad (E0.out.trans (bnd_bad hm)) (F0.out.bel.trans hb)⟩
 obtain rfl:u46 = .tuple #[]:=hrep
 have E46:=Lib.hid (E0.out.trans (bnd_ok hm))
 have R46:=Lib.hid rd
 have F46:=Lib.hid (F0.out.trans fr)
 clear hm rd fr E0 R0 F0
 go_wp2_with fail
 refine (take_any R46.out _ (fun e=>HO.out (E46.out.trans (bnd_out e)))).mono ?_
 rintro e w47 (⟨x47,t47,v47,u47,hm,rfl,hrep,rd,fr⟩|⟨c,x,hm,rfl,hb⟩)
 rotate_left
 ·go_wp2_with fail
  exact ⟨rfl,rq_bad (E46.out.trans (bnd_bad hm)) (F46.out.bel.trans hb)⟩
 obtain rfl:u47 = .bool x47:=hrep
 have E47:=Lib.hid (E46.out.trans (bnd_ok hm))
 have R47:=Lib.hid rd
 have F47:=Lib.hid (F46.out.trans fr)
 clear hm rd fr E46 R46 F46
 cases x47
 ·have E48:=Lib.hid (E47.out.trans (if_neg_go (by decide)))
  clear E47
  go_wp2_with fail
  refine (HV _ _ _ R47.out (fun e=>HO.out (E48.out.trans (bnd_out e)))).mono ?_
  rintro e w49 (⟨x49,t49,v49,u49,hm,rfl,hrep,rd,fr⟩|⟨c,x,hm,rfl,hb⟩)
  rotate_left
  ·go_wp2_with fail
   exact ⟨rfl,rq_bad (E48.out.trans (bnd_bad hm)) (F47.out.bel.trans hb)⟩
  obtain rfl:u49 = .int .i64 (x49:Nat):=hrep
  have E49:=Lib.hid (E48.out.trans (bnd_ok hm))
  have R49:=Lib.hid rd
  have F49:=Lib.hid (F47.out.trans fr)
  clear hm rd fr E48 R47 F47
  have hal:Below w49.heap.size w49 (w49.alloc (.cells #[.int .i64 (x49:Int)] 3)):=(Below.refl _ _).alloc (Nat.le_refl _) _
  have K50:=Lib.hid (own_one HR0.out R49.out F49.out (x49:Int))
  have R50:=Lib.hid (R49.out.step hal)
  have F50:=Lib.hid (F49.out.below hal R49.out.hB)
  clear hal R49 F49
  go_wp2_with fail
  go_loopg [5] C.toks.length (fun k u wr=>∃ (ls:List Nat) (t:PS) (vv:RV),ls.length<=90001/\Own w b vv wr u (ls.map Int.ofNat)/\listP C value s=bnd (manyP C value k ls) (fun l=>bnd (wantP C (⟨#[41]⟩:ByteArray)) fun _=>ret l) t/\Rd C dd bB b tv wv t vv wr/\Fr bB b v w vv wr)
  case atStart=>exact ⟨[x49],_,_,by simp,K50.out,E49.out,R50.out,F50.out⟩
  case round =>
   clear E49 R50 F50 K50
   obtain ⟨ls,t,vv,hll,hk,he,hr,hf⟩:=hrel
   cases gk with
   | zero=>exact (HO.out (he.trans rfl)).elim
   | succ gk =>
    have he2:bnd (manyP C value (gk+1) ls) (fun l=>bnd (wantP C (⟨#[41]⟩:ByteArray)) fun _=>ret l) t=bnd (bnd (capP ls) fun _=>bnd (takeP C (⟨#[44]⟩:ByteArray)) fun b=>if b=true then bnd (moreP ls.length) fun _=>bnd value fun a=>manyP C value gk (ls ++ [a]) else ret ls) (fun l=>bnd (wantP C (⟨#[41]⟩:ByteArray)) fun _=>ret l) t:=rfl
    have E0:=Lib.hid ((he.trans he2).trans bnd_assoc)
    have R0:=Lib.hid hr
    have F0:=Lib.hid hf
    obtain ⟨us,uc,hu⟩:=owns_shape hk.1
    rw [List.length_map] at hu
    have K0:=Lib.hid hk
    clear he he2 hr hf hk
    subst hu
    have hcap:ls.length<=90000:=cap_le (fun e=>HO.out (E0.out.trans (bnd_out e)))
    have E51:=Lib.hid (E0.out.trans (bnd_ok (cap_ok hcap)))
    clear E0
    have E52:=Lib.hid (E51.out.trans bnd_assoc)
    clear E51
    go_wp2_with fail
    refine (take_any R0.out _ (fun e=>HO.out (E52.out.trans (bnd_out e)))).mono ?_
    rintro e w53 (⟨x53,t53,v53,u53,hm,rfl,hrep,rd,fr⟩|⟨c,x,hm,rfl,hb⟩)
    rotate_left
    ·go_wp2_with fail
     exact ⟨rfl,rq_bad (E52.out.trans (bnd_bad hm)) (F0.out.bel.trans hb)⟩
    obtain rfl:u53 = .bool x53:=hrep
    have E53:=Lib.hid (E52.out.trans (bnd_ok hm))
    have R53:=Lib.hid rd
    have F53:=Lib.hid (F0.out.trans fr)
    have K54:=Lib.hid (K0.out.step fr)
    clear K0
    clear hm rd fr E52 R0 F0
    cases x53
    ·have E55:=Lib.hid (E53.out.trans (bnd_if_neg (by decide)))
     clear E53
     have E56:=Lib.hid (E55.out.trans (bnd_ok ret_go))
     clear E55
     go_wp2_with fail
     refine (want_any R53.out _ (fun e=>HO.out (E56.out.trans (bnd_out e)))).mono ?_
     rintro e w57 (⟨x57,t57,v57,u57,hm,rfl,hrep,rd,fr⟩|⟨c,x,hm,rfl,hb⟩)
     rotate_left
     ·go_wp2_with fail
      exact ⟨rfl,rq_bad (E56.out.trans (bnd_bad hm)) (F53.out.bel.trans hb)⟩
     obtain rfl:u57 = .tuple #[]:=hrep
     have E57:=Lib.hid (E56.out.trans (bnd_ok hm))
     have R57:=Lib.hid rd
     have F57:=Lib.hid (F53.out.trans fr)
     have K58:=Lib.hid (K54.out.step fr)
     clear K54
     clear hm rd fr E56 R53 F53
     go_wp2_with fail
     go_ret
     exact rq_ok (E57.out.trans ret_go) K58.out R57.out F57.out
    ·have E59:=Lib.hid (E53.out.trans (bnd_if_pos rfl))
     clear E53
     have E60:=Lib.hid (E59.out.trans bnd_assoc)
     clear E59
     go_wp2_with fail
     refine (more_any _ R53.out).mono ?_
     rintro e w61 (⟨x61,t61,v61,u61,hm,rfl,hrep,rd,fr⟩|⟨c,x,hm,rfl,hb⟩)
     rotate_left
     ·go_wp2_with fail
      exact ⟨rfl,rq_bad (E60.out.trans (bnd_bad hm)) (F53.out.bel.trans hb)⟩
     obtain rfl:u61 = .tuple #[]:=hrep
     have E61:=Lib.hid (E60.out.trans (bnd_ok hm))
     have R61:=Lib.hid rd
     have F61:=Lib.hid (F53.out.trans fr)
     have K62:=Lib.hid (K54.out.step fr)
     clear K54
     clear hm rd fr E60 R53 F53
     have E63:=Lib.hid (E61.out.trans bnd_assoc)
     clear E61
     go_wp2_with fail
     refine (HV _ _ _ R61.out (fun e=>HO.out (E63.out.trans (bnd_out e)))).mono ?_
     rintro e w64 (⟨x64,t64,v64,u64,hm,rfl,hrep,rd,fr⟩|⟨c,x,hm,rfl,hb⟩)
     rotate_left
     ·go_wp2_with fail
      exact ⟨rfl,rq_bad (E63.out.trans (bnd_bad hm)) (F61.out.bel.trans hb)⟩
     obtain rfl:u64 = .int .i64 (x64:Nat):=hrep
     have E64:=Lib.hid (E63.out.trans (bnd_ok hm))
     have R64:=Lib.hid rd
     have F64:=Lib.hid (F61.out.trans fr)
     have K65:=Lib.hid (K62.out.step fr)
     clear K62
     clear hm rd fr E63 R61 F61
     obtain ⟨u66,W66,hap,ow,rd,fr⟩:=own_append HR0.out R64.out F64.out K65.out (x64:Int) (by rw [List.length_map];omega)
     obtain ⟨us66,uc66,hu⟩:=owns_shape ow.1
     simp at hu
     subst hu
     have HAP:=Lib.hid hap
     clear hap
     go_wp2_with (at_builtin;first|refine wpList_append_run rfl _ _ 57 rfl (.slice us ls.length uc) (.slice (some ⟨w64.heap.size,0,none⟩) 1 1) _ W66 rfl rfl HAP.out ?_)
     have R66:=Lib.hid rd
     have F66:=Lib.hid fr
     have K66:=Lib.hid (own_snoc ow)
     clear rd fr ow R64 F64 K65
     go_roundg gk
     case measure=>omega
     case rel=>exact ⟨ls ++ [x64],_,_,by simp;omega,K66.out,E64.out,R66.out,F66.out⟩
 ·have E67:=Lib.hid (E47.out.trans (if_pos_go rfl))
  clear E47
  go_wp2_with fail
  go_ret
  exact rq_ok (E67.out.trans ret_go) (own_nil _ _ _ _) R47.out F47.out
end
end Go.Proofs.YtfehpdliobapfaaGreatDoor
namespace Go.Proofs.YtfehpdliobapfaaGreatDoor
open Go Go.RowKit
section
variable {C:PC} {dd bB b:Nat} {tv wv:Value} {s:PS} {v v1:RV} {w w1:World}
theorem super_any (h:Rd C dd bB b tv wv s v w) {value:PM Nat} (HV:Does C dd bB b tv wv 249 value) (ho:superP C value s ≠ .out):Calls Tryz.prog 237 #[.pointer (some ⟨b,0,none⟩)] w (RQ C dd bB b tv wv v w repN (superP C value s)):=by
 have hmf:∀ (fn:Fn) (first cap:Array Value) (w:World),(Instr.makeFunc fn first cap).run Tryz.prog w = .ok (.func fn first cap) w:=fun _ _ _ _=>rfl
 have HR0:=Lib.hid h
 have R0:=Lib.hid h
 have F0:=Lib.hid (Fr.refl bB b v w)
 have HO:=Lib.hid ho
 have E0:=Lib.hid (congrFun (superP.eq_1 C value) s)
 clear h ho
 go_enter Tryz.func237,Tryz.ntmps237
 go_wp2_with fail
 refine (from_any' R0.out).mono ?_
 rintro e w1 ⟨rfl,hb⟩
 have R1:=Lib.hid (R0.out.step hb)
 have F1:=Lib.hid (F0.out.below hb R0.out.hB)
 clear hb R0 F0
 have E2:=Lib.hid (E0.out.trans look_go)
 clear E0
 go_wp2_with fail
 refine (want_any R1.out _ (fun e=>HO.out (E2.out.trans (bnd_out e)))).mono ?_
 rintro e w3 (⟨x3,t3,v3,u3,hm,rfl,hrep,rd,fr⟩|⟨c,x,hm,rfl,hb⟩)
 rotate_left
 ·go_wp2_with fail
  exact ⟨rfl,rq_bad (E2.out.trans (bnd_bad hm)) (F1.out.bel.trans hb)⟩
 obtain rfl:u3 = .tuple #[]:=hrep
 have E3:=Lib.hid (E2.out.trans (bnd_ok hm))
 have R3:=Lib.hid rd
 have F3:=Lib.hid (F1.out.trans fr)
 clear hm rd fr E2 R1 F1
 go_wp2_with fail
 refine (listV_any R3.out HV (fun e=>HO.out (E3.out.trans (bnd_out e)))).mono ?_
 rintro e w4 (⟨x4,t4,v4,u4,hm,rfl,hrep,rd,fr⟩|⟨c,x,hm,rfl,hb⟩)
 rotate_left
 ·go_wp2_with fail
  exact ⟨rfl,rq_bad (E3.out.trans (bnd_bad hm)) (F3.out.bel.trans hb)⟩
 have K4:=Lib.hid (Own.mono hrep F3.out.bel.size)
 have E4:=Lib.hid (E3.out.trans (bnd_ok hm))
 have R4:=Lib.hid rd
 have F4:=Lib.hid (F3.out.trans fr)
 clear hm rd fr E3 R3 F3
 clear hrep
 obtain ⟨us4,uc4,hu⟩:=owns_shape K4.out.1
 rw [List.length_map] at hu
 subst hu
 go_wp2_with fail
 refine (want_any R4.out _ (fun e=>HO.out (E4.out.trans (bnd_out e)))).mono ?_
 rintro e w5 (⟨x5,t5,v5,u5,hm,rfl,hrep,rd,fr⟩|⟨c,x,hm,rfl,hb⟩)
 rotate_left
 ·go_wp2_with fail
  exact ⟨rfl,rq_bad (E4.out.trans (bnd_bad hm)) (F4.out.bel.trans hb)⟩
 obtain rfl:u5 = .tuple #[]:=hrep
 have E5:=Lib.hid (E4.out.trans (bnd_ok hm))
 have R5:=Lib.hid rd
 have F5:=Lib.hid (F4.out.trans fr)
 have K6:=Lib.hid (K4.out.step fr)
 clear K4
 clear hm rd fr E4 R4 F4
 go_wp2_with fail
 refine (make_any 17 0 0 (x4.map Int.ofNat) ⟨#[]⟩ 0 ⟨#[]⟩ 0 ⟨#[]⟩ 0 0 0 [] _ _ (fromS C s) R5.out (fun e=>HO.out (E5.out.trans e)) K6.out.lst (lst_none _ _ _)).mono ?_
 rintro e w7 (⟨x7,t7,v7,u7,hm,rfl,hrep,rd,fr⟩|⟨c,x,hm,rfl,hb⟩)
 rotate_left
 ·go_wp2_with fail
  exact ⟨rfl,rq_bad (E5.out.trans hm) (F5.out.bel.trans hb)⟩
 obtain rfl:u7 = .int .i64 (x7:Nat):=hrep
 have E7:=Lib.hid (E5.out.trans hm)
 have R7:=Lib.hid rd
 have F7:=Lib.hid (F5.out.trans fr)
 have K8:=Lib.hid (K6.out.step fr)
 clear K6
 clear hm rd fr E5 R5 F5
 go_wp2_with fail
 go_ret
 exact rq_ok E7.out rfl R7.out F7.out
theorem branch_any (h:Rd C dd bB b tv wv s v w) {value:PM Nat} (HV:Does C dd bB b tv wv 249 value) {block:PM Nat} (HB:Does C dd bB b tv wv 207 block) (ho:branchP C value block s ≠ .out):Calls Tryz.prog 232 #[.pointer (some ⟨b,0,none⟩)] w (RQ C dd bB b tv wv v w repN (branchP C value block s)):=by
 have HR0:=Lib.hid h
 have R0:=Lib.hid h
 have F0:=Lib.hid (Fr.refl bB b v w)
 have HO:=Lib.hid ho
 have E0:=Lib.hid (congrFun (branchP.eq_1 C value block) s)
 clear h ho
 go_enter Tryz.func232,Tryz.ntmps232
 go_wp2_with fail
 refine (from_any' R0.out).mono ?_
 rintro e w9 ⟨rfl,hb⟩
 have R9:=Lib.hid (R0.out.step hb)
 have F9:=Lib.hid (F0.out.below hb R0.out.hB)
 clear hb R0 F0
 have E10:=Lib.hid (E0.out.trans look_go)
 clear E0
 go_wp2_with fail
 refine (want_any R9.out _ (fun e=>HO.out (E10.out.trans (bnd_out e)))).mono ?_
 rintro e w11 (⟨x11,t11,v11,u11,hm,rfl,hrep,rd,fr⟩|⟨c,x,hm,rfl,hb⟩)
 rotate_left
 ·go_wp2_with fail
  exact ⟨rfl,rq_bad (E10.out.trans (bnd_bad hm)) (F9.out.bel.trans hb)⟩
 obtain rfl:u11 = .tuple #[]:=hrep
 have E11:=Lib.hid (E10.out.trans (bnd_ok hm))
 have R11:=Lib.hid rd
 have F11:=Lib.hid (F9.out.trans fr)
 clear hm rd fr E10 R9 F9
 go_wp2_with fail
 refine (within_any R11.out HV (fun e=>HO.out (E11.out.trans (bnd_out e)))).mono ?_
 rintro e w12 (⟨x12,t12,v12,u12,hm,rfl,hrep,rd,fr⟩|⟨c,x,hm,rfl,hb⟩)
 rotate_left
 ·go_wp2_with fail
  exact ⟨rfl,rq_bad (E11.out.trans (bnd_bad hm)) (F11.out.bel.trans hb)⟩
 obtain rfl:u12 = .int .i64 (x12:Nat):=hrep
 have E12:=Lib.hid (E11.out.trans (bnd_ok hm))
 have R12:=Lib.hid rd
 have F12:=Lib.hid (F11.out.trans fr)
 clear hm rd fr E11 R11 F11
 go_wp2_with fail
 refine (HB _ _ _ R12.out (fun e=>HO.out (E12.out.trans (bnd_out e)))).mono ?_
 rintro e w13 (⟨x13,t13,v13,u13,hm,rfl,hrep,rd,fr⟩|⟨c,x,hm,rfl,hb⟩)
 rotate_left
 ·go_wp2_with fail
  exact ⟨rfl,rq_bad (E12.out.trans (bnd_bad hm)) (F12.out.bel.trans hb)⟩
 obtain rfl:u13 = .int .i64 (x13:Nat):=hrep
 have E13:=Lib.hid (E12.out.trans (bnd_ok hm))
 have R13:=Lib.hid rd
 have F13:=Lib.hid (F12.out.trans fr)
 clear hm rd fr E12 R12 F12
 have hal:Below w13.heap.size w13 (w13.alloc (.cells #[.int .i64 (x12:Int),.int .i64 (x13:Int)] 3)):=(Below.refl _ _).alloc (Nat.le_refl _) _
 have K14:=Lib.hid (own_two HR0.out R13.out F13.out (x12:Int) (x13:Int))
 have R14:=Lib.hid (R13.out.step hal)
 have F14:=Lib.hid (F13.out.below hal R13.out.hB)
 clear hal R13 F13
 go_wp2_with fail
 refine (take_any R14.out _ (fun e=>HO.out (E13.out.trans (bnd_out e)))).mono ?_
 rintro e w15 (⟨x15,t15,v15,u15,hm,rfl,hrep,rd,fr⟩|⟨c,x,hm,rfl,hb⟩)
 rotate_left
 ·go_wp2_with fail
  exact ⟨rfl,rq_bad (E13.out.trans (bnd_bad hm)) (F14.out.bel.trans hb)⟩
 obtain rfl:u15 = .bool x15:=hrep
 have E15:=Lib.hid (E13.out.trans (bnd_ok hm))
 have R15:=Lib.hid rd
 have F15:=Lib.hid (F14.out.trans fr)
 have K16:=Lib.hid (K14.out.step fr)
 clear K14
 clear hm rd fr E13 R14 F14
 cases x15
 ·have E17:=Lib.hid (E15.out.trans (if_neg_go (by decide)))
  clear E15
  go_wp2_with fail
  refine (make_any 11 0 0 [(x12:Int),(x13:Int)] ⟨#[]⟩ 0 ⟨#[]⟩ 0 ⟨#[]⟩ 0 0 0 [] _ _ (fromS C s) R15.out (fun e=>HO.out (E17.out.trans e)) K16.out.lst (lst_none _ _ _)).mono ?_
  rintro e w18 (⟨x18,t18,v18,u18,hm,rfl,hrep,rd,fr⟩|⟨c,x,hm,rfl,hb⟩)
  rotate_left
  ·go_wp2_with fail
   exact ⟨rfl,rq_bad (E17.out.trans hm) (F15.out.bel.trans hb)⟩
  obtain rfl:u18 = .int .i64 (x18:Nat):=hrep
  have E18:=Lib.hid (E17.out.trans hm)
  have R18:=Lib.hid rd
  have F18:=Lib.hid (F15.out.trans fr)
  have K19:=Lib.hid (K16.out.step fr)
  clear K16
  clear hm rd fr E17 R15 F15
  go_wp2_with fail
  go_ret
  exact rq_ok E18.out rfl R18.out F18.out
 ·have E20:=Lib.hid (E15.out.trans (if_pos_go rfl))
  clear E15
  go_wp2_with fail
  refine (HB _ _ _ R15.out (fun e=>HO.out (E20.out.trans (bnd_out e)))).mono ?_
  rintro e w21 (⟨x21,t21,v21,u21,hm,rfl,hrep,rd,fr⟩|⟨c,x,hm,rfl,hb⟩)
  rotate_left
  ·go_wp2_with fail
   exact ⟨rfl,rq_bad (E20.out.trans (bnd_bad hm)) (F15.out.bel.trans hb)⟩
  obtain rfl:u21 = .int .i64 (x21:Nat):=hrep
  have E21:=Lib.hid (E20.out.trans (bnd_ok hm))
  have R21:=Lib.hid rd
  have F21:=Lib.hid (F15.out.trans fr)
  have K22:=Lib.hid (K16.out.step fr)
  clear K16
  clear hm rd fr E20 R15 F15
  obtain ⟨u23,W23,hap,ow,rd,fr⟩:=own_append HR0.out R21.out F21.out K22.out (x21:Int) (by simp)
  obtain ⟨us23,uc23,hu⟩:=owns_shape ow.1
  simp at hu
  subst hu
  have HAP:=Lib.hid hap
  clear hap
  go_wp2_with (at_builtin;first|refine wpList_append_run rfl _ _ 57 rfl (.slice (some ⟨w13.heap.size,0,none⟩) 2 2) (.slice (some ⟨w21.heap.size,0,none⟩) 1 1) _ W23 rfl rfl HAP.out ?_)
  have R23:=Lib.hid rd
  have F23:=Lib.hid fr
  have K23:=Lib.hid ow
  clear rd fr ow R21 F21 K22
  refine (make_any 11 0 0 [(x12:Int),(x13:Int),(x21:Int)] ⟨#[]⟩ 0 ⟨#[]⟩ 0 ⟨#[]⟩ 0 0 0 [] _ _ (fromS C s) R23.out (fun e=>HO.out (E21.out.trans e)) K23.out.lst (lst_none _ _ _)).mono ?_
  rintro e w24 (⟨x24,t24,v24,u24,hm,rfl,hrep,rd,fr⟩|⟨c,x,hm,rfl,hb⟩)
  rotate_left
  ·go_wp2_with fail
   exact ⟨rfl,rq_bad (E21.out.trans hm) (F23.out.bel.trans hb)⟩
  obtain rfl:u24 = .int .i64 (x24:Nat):=hrep
  have E24:=Lib.hid (E21.out.trans hm)
  have R24:=Lib.hid rd
  have F24:=Lib.hid (F23.out.trans fr)
  have K25:=Lib.hid (K23.out.step fr)
  clear K23
  clear hm rd fr E21 R23 F23
  go_wp2_with fail
  go_ret
  exact rq_ok E24.out rfl R24.out F24.out
theorem block_any (h:Rd C dd bB b tv wv s v w) {rec:PG->PM Nat} (hd9:dd+1<=1000000) (HST:Does C (dd+1) bB b tv wv 219 (statP C (rec .value) (rec .block))) (ho:stepG C rec .block s ≠ .out):Calls Tryz.prog 207 #[.pointer (some ⟨b,0,none⟩)] w (RQ C dd bB b tv wv v w repN (stepG C rec .block s)):=by
 have HR0:=Lib.hid h
 have R0:=Lib.hid h
 have F0:=Lib.hid (Fr.refl bB b v w)
 have HO:=Lib.hid ho
 have E0:=Lib.hid (congrFun (stepG.eq_4 C rec) s)
 clear h ho
 go_enter Tryz.func207,Tryz.ntmps207
 go_wp2_with fail
 refine (from_any' R0.out).mono ?_
 rintro e w26 ⟨rfl,hb⟩
 have R26:=Lib.hid (R0.out.step hb)
 have F26:=Lib.hid (F0.out.below hb R0.out.hB)
 clear hb R0 F0
 have E27:=Lib.hid (E0.out.trans look_go)
 clear E0
 go_wp2_with fail
 refine (enter_any hd9 R26.out).mono ?_
 rintro e w28 (⟨x28,t28,v28,u28,hm,rfl,hrep,rd,fr⟩|⟨c,x,hm,rfl,hb⟩)
 rotate_left
 ·go_wp2_with fail
  exact ⟨rfl,rq_bad (E27.out.trans (bnd_bad hm)) (F26.out.bel.trans hb)⟩
 obtain rfl:u28 = .tuple #[]:=hrep
 have E28:=Lib.hid (E27.out.trans (bnd_ok hm))
 have R28:=Lib.hid rd
 have F28:=Lib.hid (F26.out.trans fr)
 clear hm rd fr E27 R26 F26
 go_wp2_with fail
 refine (want_any R28.out _ (fun e=>HO.out (E28.out.trans (bnd_out e)))).mono ?_
 rintro e w29 (⟨x29,t29,v29,u29,hm,rfl,hrep,rd,fr⟩|⟨c,x,hm,rfl,hb⟩)
 rotate_left
 ·go_wp2_with fail
  exact ⟨rfl,rq_bad (E28.out.trans (bnd_bad hm)) (F28.out.bel.trans hb)⟩
 obtain rfl:u29 = .tuple #[]:=hrep
 have E29:=Lib.hid (E28.out.trans (bnd_ok hm))
 have R29:=Lib.hid rd
 have F29:=Lib.hid (F28.out.trans fr)
 clear hm rd fr E28 R28 F28
 have K0:=Lib.hid (own_nil w b v29 w29)
 go_wp2_with fail
 go_loopg [4] C.toks.length (fun k u wr=>∃ (ls:List Nat) (t:PS) (vv:RV),Own w b vv wr u (ls.map Int.ofNat)/\stepG C rec .block s=bnd (statL C (statP C (rec .value) (rec .block)) k ls) (fun l=>bnd leaveP fun _=>makeP C (nd 8 ⟨#[]⟩ l) (fromS C s)) t/\Rd C (dd+1) bB b tv wv t vv wr/\Fr bB b v w vv wr)
 case atStart=>exact ⟨[],_,_,K0.out,E29.out,R29.out,F29.out⟩
 case round =>
  clear E29 R29 F29 K0
  obtain ⟨ls,t,vv,hk,he,hr,hf⟩:=hrel
  cases gk with
  | zero=>exact (HO.out (he.trans rfl)).elim
  | succ gk =>
   have he2:bnd (statL C (statP C (rec .value) (rec .block)) (gk+1) ls) (fun l=>bnd leaveP fun _=>makeP C (nd 8 ⟨#[]⟩ l) (fromS C s)) t=bnd (bnd (capP ls) fun _=>bnd (takeP C (⟨#[125]⟩:ByteArray)) fun b=>if b=true then ret ls else bnd (statP C (rec .value) (rec .block)) fun a=>statL C (statP C (rec .value) (rec .block)) gk (ls ++ [a])) (fun l=>bnd leaveP fun _=>makeP C (nd 8 ⟨#[]⟩ l) (fromS C s)) t:=rfl
   have E0:=Lib.hid ((he.trans he2).trans bnd_assoc)
   have R0:=Lib.hid hr
   have F0:=Lib.hid hf
   obtain ⟨us,uc,hu⟩:=owns_shape hk.1
   rw [List.length_map] at hu
   have K0:=Lib.hid hk
   clear he he2 hr hf hk
   subst hu
   have hcap:ls.length<=90000:=cap_le (fun e=>HO.out (E0.out.trans (bnd_out e)))
   have E30:=Lib.hid (E0.out.trans (bnd_ok (cap_ok hcap)))
   clear E0
   have E31:=Lib.hid (E30.out.trans bnd_assoc)
   clear E30
   go_wp2_with fail
   refine (take_any R0.out _ (fun e=>HO.out (E31.out.trans (bnd_out e)))).mono ?_
   rintro e w32 (⟨x32,t32,v32,u32,hm,rfl,hrep,rd,fr⟩|⟨c,x,hm,rfl,hb⟩)
   rotate_left
   ·go_wp2_with fail
    exact ⟨rfl,rq_bad (E31.out.trans (bnd_bad hm)) (F0.out.bel.trans hb)⟩
   obtain rfl:u32 = .bool x32:=hrep
   have E32:=Lib.hid (E31.out.trans (bnd_ok hm))
   have R32:=Lib.hid rd
   have F32:=Lib.hid (F0.out.trans fr)
   have K33:=Lib.hid (K0.out.step fr)
   clear K0
   clear hm rd fr E31 R0 F0
   cases x32
   ·have E34:=Lib.hid (E32.out.trans (bnd_if_neg (by decide)))
    clear E32
    have E35:=Lib.hid (E34.out.trans bnd_assoc)
    clear E34
    go_wp2_with fail
    refine (HST _ _ _ R32.out (fun e=>HO.out (E35.out.trans (bnd_out e)))).mono ?_
    rintro e w36 (⟨x36,t36,v36,u36,hm,rfl,hrep,rd,fr⟩|⟨c,x,hm,rfl,hb⟩)
    rotate_left
    ·go_wp2_with fail
     exact ⟨rfl,rq_bad (E35.out.trans (bnd_bad hm)) (F32.out.bel.trans hb)⟩
    obtain rfl:u36 = .int .i64 (x36:Nat):=hrep
    have E36:=Lib.hid (E35.out.trans (bnd_ok hm))
    have R36:=Lib.hid rd
    have F36:=Lib.hid (F32.out.trans fr)
    have K37:=Lib.hid (K33.out.step fr)
    clear K33
    clear hm rd fr E35 R32 F32
    obtain ⟨u38,W38,hap,ow,rd,fr⟩:=own_append HR0.out R36.out F36.out K37.out (x36:Int) (by rw [List.length_map];omega)
    obtain ⟨us38,uc38,hu⟩:=owns_shape ow.1
    simp at hu
    subst hu
    have HAP:=Lib.hid hap
    clear hap
    go_wp2_with (at_builtin;first|refine wpList_append_run rfl _ _ 57 rfl (.slice us ls.length uc) (.slice (some ⟨w36.heap.size,0,none⟩) 1 1) _ W38 rfl rfl HAP.out ?_)
    have R38:=Lib.hid rd
    have F38:=Lib.hid fr
    have K38:=Lib.hid (own_snoc ow)
    clear rd fr ow R36 F36 K37
    go_roundg gk
    case measure=>omega
    case rel=>exact ⟨ls ++ [x36],_,_,K38.out,E36.out,R38.out,F38.out⟩
   ·have E39:=Lib.hid (E32.out.trans (bnd_if_pos rfl))
    clear E32
    have E40:=Lib.hid (E39.out.trans (bnd_ok ret_go))
    clear E39
    go_wp2_with fail
    refine (leave_any (by omega) R32.out (fun e=>HO.out (E40.out.trans (bnd_out e)))).mono ?_
    rintro e w41 (⟨x41,t41,v41,u41,hm,rfl,hrep,rd,fr⟩|⟨c,x,hm,rfl,hb⟩)
    rotate_left
    ·go_wp2_with fail
     exact ⟨rfl,rq_bad (E40.out.trans (bnd_bad hm)) (F32.out.bel.trans hb)⟩
    obtain rfl:u41 = .tuple #[]:=hrep
    have E41:=Lib.hid (E40.out.trans (bnd_ok hm))
    have R41:=Lib.hid rd
    have F41:=Lib.hid (F32.out.trans fr)
    have K42:=Lib.hid (K33.out.step fr)
    clear K33
    clear hm rd fr E40 R32 F32
    go_wp2_with fail
    refine (make_any 8 0 0 (ls.map Int.ofNat) ⟨#[]⟩ 0 ⟨#[]⟩ 0 ⟨#[]⟩ 0 0 0 [] _ _ (fromS C s) R41.out (fun e=>HO.out (E41.out.trans e)) K42.out.lst (lst_none _ _ _)).mono ?_
    rintro e w43 (⟨x43,t43,v43,u43,hm,rfl,hrep,rd,fr⟩|⟨c,x,hm,rfl,hb⟩)
    rotate_left
    ·go_wp2_with fail
     exact ⟨rfl,rq_bad (E41.out.trans hm) (F41.out.bel.trans hb)⟩
    obtain rfl:u43 = .int .i64 (x43:Nat):=hrep
    have E43:=Lib.hid (E41.out.trans hm)
    have R43:=Lib.hid rd
    have F43:=Lib.hid (F41.out.trans fr)
    have K44:=Lib.hid (K42.out.step fr)
    clear K42
    clear hm rd fr E41 R41 F41
    go_wp2_with fail
    go_ret
    exact rq_ok E43.out rfl R43.out F43.out
end
end Go.Proofs.YtfehpdliobapfaaGreatDoor
namespace Go.Proofs.YtfehpdliobapfaaGreatDoor
open Go Go.RowKit
section
variable {C:PC} {dd d0 bB b:Nat} {tv wv:Value} {s s0:PS} {v v0 v1:RV} {w w0 w1 w':World} {u:Value} {l:List Int} {k:Nat} {cs:List Value}
structure Box (w0:World) (b:Nat) (v:RV) (w:World) (k:Nat) (cs:List Value):Prop where
 mine:Mine b v w k
 at_:w0.heap.size<=k
 box:BoxN w k cs
theorem Box.step (h:Box w0 b v w k cs) (g:Fr bB b v w v1 w1):Box w0 b v1 w1 k cs:=⟨(h.mine.step g).1,h.at_,h.mine.boxN g h.box⟩
theorem box_new (R:Rd C dd bB b tv wv s v w) (F:Fr bB b v0 w0 v w) (cs:Array Value):Box w0 b v (w.alloc (.cells cs 61)) w.heap.size cs.toList:=by
 have X:=BoxN.new w cs
 exact ⟨⟨X.lt,fun e=>by have:=R.lt;omega,fun e=>by have:=R.own_lt _ e;omega,fun e=>by have:=R.cl_lt _ e;omega⟩,F.bel.size,X⟩
theorem box_new1 {o:Obj} (R:Rd C dd bB b tv wv s v (w.alloc o)) (F:Fr bB b v0 w0 v (w.alloc o)) (cs:Array Value):Box w0 b v ((w.alloc o).alloc (.cells cs 61)) (w.heap.size+1) cs.toList:=by
 have h:=box_new R F cs
 rwa [show (w.alloc o).heap.size=w.heap.size+1 by simp] at h
theorem box_set (R0:Rd C d0 bB b tv wv s0 v0 w0) (R:Rd C dd bB b tv wv s v w) (F:Fr bB b v0 w0 v w) (h:Box w0 b v w k cs) (j:Nat) (x:Value) :
  Rd C dd bB b tv wv s v (w.setCell ⟨k,j,none⟩ x)/\Fr bB b v0 w0 v (w.setCell ⟨k,j,none⟩ x)/\Box w0 b v (w.setCell ⟨k,j,none⟩ x) k (cs.set j x):=by
 have hs:(w.setCell ⟨k,j,none⟩ x).heap.size=w.heap.size:=by simp
 have ho:∀ i,i≠k->(w.setCell ⟨k,j,none⟩ x).heap[i]? = w.heap[i]?:=fun i hi=>heap_setCell_other w _ i x (by simpa using hi)
 have M:∀ i,Mine b v w i->Mine b v (w.setCell ⟨k,j,none⟩ x) i:=fun i h=>⟨by rw [hs];exact h.lt,h.ne,h.row,h.cl⟩
 obtain ⟨h1,h2⟩:=R.bd
 obtain ⟨gt,ct,e1,m1,t1⟩:=R.toks
 obtain ⟨gw,cw,e2,m2,t2⟩:=R.words
 have hk:=h.at_
 have lt1:gt<w0.heap.size:=by
  obtain ⟨g,c,e,m,-⟩:=R0.toks
  rw [e1] at e;simp at e;rw [e.1];exact m.lt
 have lt2:gw<w0.heap.size:=by
  obtain ⟨g,c,e,m,-⟩:=R0.words
  rw [e2] at e;simp at e;rw [e.1];exact m.lt
 have nb:b≠k:=fun e=>h.mine.ne e.symm
 have cellT:∀ o,(w.setCell ⟨k,j,none⟩ x).cell? ⟨gt,o,none⟩=w.cell? ⟨gt,o,none⟩:=fun o=>World.cell?_of_block (ho gt (by omega))
 have cellW:∀ o,(w.setCell ⟨k,j,none⟩ x).cell? ⟨gw,o,none⟩=w.cell? ⟨gw,o,none⟩:=fun o=>World.cell?_of_block (ho gw (by omega))
 have nn:∀ {z:Value} {ks:List Int},NewNums w bB z ks->(∀ i,z.ownBlock=some i->v.cl i)->NewNums (w.setCell ⟨k,j,none⟩ x) bB z ks:=fun {z ks} hz hc=>by
  rcases hz with ⟨rfl,rfl⟩|⟨h0,g,rfl,hB,hgg⟩
  ·exact .inl ⟨rfl,rfl⟩
  ·refine .inr ⟨h0,g,rfl,hB,?_⟩
   rw [ho g (fun e=>h.mine.cl (by rw [<- e];exact hc g rfl))];exact hgg
 refine ⟨⟨⟨h1,h2.base,?_,?_,fun y hy=>⟨nn (h2.new_ y hy).1 (fun i hi=>⟨y,hy,.inl hi⟩),nn (h2.new_ y hy).2 (fun i hi=>⟨y,hy,.inr hi⟩)⟩⟩,by rw [hs];exact R.hB,⟨gt,ct,e1,M _ m1,fun i hi=>by have:=t1 i hi;rw [cellT,cellT,cellT];exact this⟩,⟨gw,cw,e2,M _ m2,fun i hi=>by rw [cellW];exact t2 i hi⟩,R.len,R.long,R.next,R.nodes,R.deep,R.over,R.cap,R.good⟩,⟨F.bel.setCell (p:=⟨k,j,none⟩) (by have:=R0.hB;show bB<=k;omega) x,fun i i1 i2 i3=>by rw [ho i (by omega)];exact F.kept i i1 i2 i3,F.own,F.lists⟩,⟨M k h.mine,h.at_,h.box.set j x⟩⟩
 ·have:=h2.box
  unfold Bx at *
  rw [ho b nb];exact this
 ·obtain ⟨q1,q2⟩:=h2.own
  refine ⟨q1,?_⟩
  rcases q2 with q|⟨g,cap,cur,hv,hBg,hg2,q⟩
  ·exact .inl q
  ·refine .inr ⟨g,cap,cur,hv,hBg,?_,q⟩
   rw [ho g (fun e=>h.mine.row (by rw [hv,<- e];rfl))];exact hg2
theorem Own.set (h:Own w0 b v w u l) (hb:Box w0 b v w k cs) (j:Nat) (x:Value):Own w0 b v (w.setCell ⟨k,j,none⟩ x) u l:=by
 have ho:∀ i,i≠k->(w.setCell ⟨k,j,none⟩ x).heap[i]? = w.heap[i]?:=fun i hi=>heap_setCell_other w _ i x (by simpa using hi)
 obtain ⟨⟨q1,q2⟩,hm⟩:=h
 refine ⟨⟨q1,?_⟩,fun i hi=>⟨by simpa using (hm i hi).lt,(hm i hi).ne,(hm i hi).row,(hm i hi).cl⟩⟩
 rcases q2 with q|⟨g,cap,cur,rfl,hB,hg,q⟩
 ·exact .inl q
 ·refine .inr ⟨g,cap,cur,rfl,hB,?_,q⟩
  rw [ho g (fun e=>?_)]
  ·exact hg
  ·subst e
   have:=hb.box
   unfold BoxN at this
   rw [this] at hg
   simp at hg
theorem own_into (R0:Rd C d0 bB b tv wv s0 v0 w0) (R:Rd C dd bB b tv wv s v w) (F:Fr bB b v0 w0 v w) (h:Box w0 b v w k cs) (j:Nat) (x:Int) :
  Rd C dd bB b tv wv s v ((w.setCell ⟨k,j,none⟩ (.slice (some ⟨w.heap.size,0,none⟩) 1 1)).alloc (.cells #[.int .i64 x] 3))/\Fr bB b v0 w0 v ((w.setCell ⟨k,j,none⟩ (.slice (some ⟨w.heap.size,0,none⟩) 1 1)).alloc (.cells #[.int .i64 x] 3)) /\
  Box w0 b v ((w.setCell ⟨k,j,none⟩ (.slice (some ⟨w.heap.size,0,none⟩) 1 1)).alloc (.cells #[.int .i64 x] 3)) k (cs.set j (.slice (some ⟨w.heap.size,0,none⟩) 1 1))/\Own w0 b v ((w.setCell ⟨k,j,none⟩ (.slice (some ⟨w.heap.size,0,none⟩) 1 1)).alloc (.cells #[.int .i64 x] 3)) (.slice (some ⟨w.heap.size,0,none⟩) 1 1) [x]:=by
 obtain ⟨R1,F1,B1⟩:=box_set R0 R F h j (.slice (some ⟨w.heap.size,0,none⟩) 1 1)
 have hs:(w.setCell ⟨k,j,none⟩ (.slice (some ⟨w.heap.size,0,none⟩) 1 1)).heap.size=w.heap.size:=by simp
 have hal:Below (w.setCell ⟨k,j,none⟩ (.slice (some ⟨w.heap.size,0,none⟩) 1 1)).heap.size (w.setCell ⟨k,j,none⟩ (.slice (some ⟨w.heap.size,0,none⟩) 1 1)) ((w.setCell ⟨k,j,none⟩ (.slice (some ⟨w.heap.size,0,none⟩) 1 1)).alloc (.cells #[.int .i64 x] 3)):=(Below.refl _ _).alloc (Nat.le_refl _) _
 have K:=own_one R0 R1 F1 x
 rw [hs] at K
 exact ⟨R1.step hal,F1.below hal R1.hB,B1.step (Fr.of_below hal R1.hB),K⟩
end
end Go.Proofs.YtfehpdliobapfaaGreatDoor
namespace Go.Proofs.YtfehpdliobapfaaGreatDoor
open Go Go.RowKit
section
variable {C:PC} {dd bB b:Nat} {tv wv:Value} {s:PS} {v v1:RV} {w w1:World}
theorem constant_any (h:Rd C dd bB b tv wv s v w) (x:ByteArray) (ho:constP C x s ≠ .out):Calls Tryz.prog 265 #[.pointer (some ⟨b,0,none⟩),.string x] w (RQ C dd bB b tv wv v w repN (constP C x s)):=by
 have HR0:=Lib.hid h
 have R0:=Lib.hid h
 have F0:=Lib.hid (Fr.refl bB b v w)
 have HO:=Lib.hid ho
 have E0:=Lib.hid (congrFun (constP.eq_1 C x) s)
 clear h ho
 go_enter Tryz.func265,Tryz.ntmps265
 go_wp2_with fail
 refine (from_any' R0.out).mono ?_
 rintro e w1 ⟨rfl,hb⟩
 have R1:=Lib.hid (R0.out.step hb)
 have F1:=Lib.hid (F0.out.below hb R0.out.hB)
 clear hb R0 F0
 have E2:=Lib.hid (E0.out.trans look_go)
 clear E0
 go_wp2_with fail
 refine (want_any R1.out _ (fun e=>HO.out (E2.out.trans (bnd_out e)))).mono ?_
 rintro e w3 (⟨x3,t3,v3,u3,hm,rfl,hrep,rd,fr⟩|⟨c,x,hm,rfl,hb⟩)
 rotate_left
 ·go_wp2_with fail
  exact ⟨rfl,rq_bad (E2.out.trans (bnd_bad hm)) (F1.out.bel.trans hb)⟩
 obtain rfl:u3 = .tuple #[]:=hrep
 have E3:=Lib.hid (E2.out.trans (bnd_ok hm))
 have R3:=Lib.hid rd
 have F3:=Lib.hid (F1.out.trans fr)
 clear hm rd fr E2 R1 F1
 by_cases hs4:x=(⟨#[116,114,117,101]⟩:ByteArray)
 ·have n4:(x.toList == [116,114,117,101])=true:=str_yes hs4
  have m4:(x.toList != [116,114,117,101])=false:=str_nyes hs4
  have hal:Below w3.heap.size w3 (w3.alloc (.cells #[.int .i64 21,.int .i64 0,.int .i64 0,.slice none 0 0,.string ⟨#[]⟩,.int .i64 0,.string ⟨#[]⟩,.int .i64 0,.string ⟨#[]⟩,.int .i64 1,.int .i64 0,.int .i64 0,.slice none 0 0] 61)):=(Below.refl _ _).alloc (Nat.le_refl _) _
  have B5:=Lib.hid (box_new R3.out F3.out #[.int .i64 21,.int .i64 0,.int .i64 0,.slice none 0 0,.string ⟨#[]⟩,.int .i64 0,.string ⟨#[]⟩,.int .i64 0,.string ⟨#[]⟩,.int .i64 1,.int .i64 0,.int .i64 0,.slice none 0 0])
  have R5:=Lib.hid (R3.out.step hal)
  have F5:=Lib.hid (F3.out.below hal R3.out.hB)
  clear hal R3 F3
  have hcn:constN x={ nd 21 ⟨#[]⟩ [] with num:=1 }:=by unfold constN;rw [if_pos hs4]
  have E6:=E3.out
  rw [hcn] at E6
  have E6h:=Lib.hid E6
  clear E6 E3
  clear hcn hs4
  obtain ⟨⟨a0,a1,a2,a3,a4,a5,a6,a7,a8,a9,a10,a11,a12⟩,al,af⟩:=(show BoxN (w3.alloc (.cells #[.int .i64 21,.int .i64 0,.int .i64 0,.slice none 0 0,.string ⟨#[]⟩,.int .i64 0,.string ⟨#[]⟩,.int .i64 0,.string ⟨#[]⟩,.int .i64 1,.int .i64 0,.int .i64 0,.slice none 0 0] 61)) (w3.heap.size) [.int .i64 21,.int .i64 0,.int .i64 0,.slice none 0 0,.string ⟨#[]⟩,.int .i64 0,.string ⟨#[]⟩,.int .i64 0,.string ⟨#[]⟩,.int .i64 1,.int .i64 0,.int .i64 0,.slice none 0 0] from B5.out.box).all
  go_wp2_with fail
  clear a0 a1 a2 a3 a4 a5 a6 a7 a8 a9 a10 a11 a12 al af
  refine (make_any 21 0 0 [] ⟨#[]⟩ 0 ⟨#[]⟩ 0 ⟨#[]⟩ 1 0 0 [] _ _ (fromS C s) R5.out (fun e=>HO.out (E6h.out.trans e)) (lst_none _ _ _) (lst_none _ _ _)).mono ?_
  rintro e w7 (⟨x7,t7,v7,u7,hm,rfl,hrep,rd,fr⟩|⟨c,x,hm,rfl,hb⟩)
  rotate_left
  ·go_wp2_with fail
   exact ⟨rfl,rq_bad (E6h.out.trans hm) (F5.out.bel.trans hb)⟩
  obtain rfl:u7 = .int .i64 (x7:Nat):=hrep
  have E7:=Lib.hid (E6h.out.trans hm)
  have R7:=Lib.hid rd
  have F7:=Lib.hid (F5.out.trans fr)
  have B8:=Lib.hid (B5.out.step fr)
  clear B5
  clear hm rd fr E6h R5 F5
  go_wp2_with fail
  go_ret
  exact rq_ok E7.out rfl R7.out F7.out
 ·have n4:(x.toList == [116,114,117,101])=false:=str_no hs4
  have m4:(x.toList != [116,114,117,101])=true:=str_nno hs4
  by_cases hs9:x=(⟨#[110,117,108,108]⟩:ByteArray)
  ·have n9:(x.toList == [110,117,108,108])=true:=str_yes hs9
   have m9:(x.toList != [110,117,108,108])=false:=str_nyes hs9
   have hal:Below w3.heap.size w3 (w3.alloc (.cells #[.int .i64 23,.int .i64 0,.int .i64 0,.slice none 0 0,.string ⟨#[]⟩,.int .i64 0,.string ⟨#[]⟩,.int .i64 0,.string ⟨#[]⟩,.int .i64 0,.int .i64 0,.int .i64 0,.slice none 0 0] 61)):=(Below.refl _ _).alloc (Nat.le_refl _) _
   have B10:=Lib.hid (box_new R3.out F3.out #[.int .i64 23,.int .i64 0,.int .i64 0,.slice none 0 0,.string ⟨#[]⟩,.int .i64 0,.string ⟨#[]⟩,.int .i64 0,.string ⟨#[]⟩,.int .i64 0,.int .i64 0,.int .i64 0,.slice none 0 0])
   have R10:=Lib.hid (R3.out.step hal)
   have F10:=Lib.hid (F3.out.below hal R3.out.hB)
   clear hal R3 F3
   have hcn:constN x=nd 23 ⟨#[]⟩ []:=by unfold constN;rw [if_neg hs4,if_pos hs9]
   have E11:=E3.out
   rw [hcn] at E11
   have E11h:=Lib.hid E11
   clear E11 E3
   clear hcn hs4 hs9
   obtain ⟨⟨a0,a1,a2,a3,a4,a5,a6,a7,a8,a9,a10,a11,a12⟩,al,af⟩:=(show BoxN (w3.alloc (.cells #[.int .i64 23,.int .i64 0,.int .i64 0,.slice none 0 0,.string ⟨#[]⟩,.int .i64 0,.string ⟨#[]⟩,.int .i64 0,.string ⟨#[]⟩,.int .i64 0,.int .i64 0,.int .i64 0,.slice none 0 0] 61)) (w3.heap.size) [.int .i64 23,.int .i64 0,.int .i64 0,.slice none 0 0,.string ⟨#[]⟩,.int .i64 0,.string ⟨#[]⟩,.int .i64 0,.string ⟨#[]⟩,.int .i64 0,.int .i64 0,.int .i64 0,.slice none 0 0] from B10.out.box).all
   go_wp2_with fail
   clear a0 a1 a2 a3 a4 a5 a6 a7 a8 a9 a10 a11 a12 al af
   refine (make_any 23 0 0 [] ⟨#[]⟩ 0 ⟨#[]⟩ 0 ⟨#[]⟩ 0 0 0 [] _ _ (fromS C s) R10.out (fun e=>HO.out (E11h.out.trans e)) (lst_none _ _ _) (lst_none _ _ _)).mono ?_
   rintro e w12 (⟨x12,t12,v12,u12,hm,rfl,hrep,rd,fr⟩|⟨c,x,hm,rfl,hb⟩)
   rotate_left
   ·go_wp2_with fail
    exact ⟨rfl,rq_bad (E11h.out.trans hm) (F10.out.bel.trans hb)⟩
   obtain rfl:u12 = .int .i64 (x12:Nat):=hrep
   have E12:=Lib.hid (E11h.out.trans hm)
   have R12:=Lib.hid rd
   have F12:=Lib.hid (F10.out.trans fr)
   have B13:=Lib.hid (B10.out.step fr)
   clear B10
   clear hm rd fr E11h R10 F10
   go_wp2_with fail
   go_ret
   exact rq_ok E12.out rfl R12.out F12.out
  ·have n9:(x.toList == [110,117,108,108])=false:=str_no hs9
   have m9:(x.toList != [110,117,108,108])=true:=str_nno hs9
   by_cases hs14:x=(⟨#[110,111,110,101]⟩:ByteArray)
   ·have n14:(x.toList == [110,111,110,101])=true:=str_yes hs14
    have m14:(x.toList != [110,111,110,101])=false:=str_nyes hs14
    have hal:Below w3.heap.size w3 (w3.alloc (.cells #[.int .i64 42,.int .i64 0,.int .i64 0,.slice none 0 0,.string ⟨#[]⟩,.int .i64 0,.string ⟨#[]⟩,.int .i64 0,.string ⟨#[]⟩,.int .i64 0,.int .i64 0,.int .i64 0,.slice none 0 0] 61)):=(Below.refl _ _).alloc (Nat.le_refl _) _
    have B15:=Lib.hid (box_new R3.out F3.out #[.int .i64 42,.int .i64 0,.int .i64 0,.slice none 0 0,.string ⟨#[]⟩,.int .i64 0,.string ⟨#[]⟩,.int .i64 0,.string ⟨#[]⟩,.int .i64 0,.int .i64 0,.int .i64 0,.slice none 0 0])
    have R15:=Lib.hid (R3.out.step hal)
    have F15:=Lib.hid (F3.out.below hal R3.out.hB)
    clear hal R3 F3
    have hcn:constN x=nd 42 ⟨#[]⟩ []:=by unfold constN;rw [if_neg hs4,if_neg hs9,if_pos hs14]
    have E16:=E3.out
    rw [hcn] at E16
    have E16h:=Lib.hid E16
    clear E16 E3
    clear hcn hs4 hs9 hs14
    obtain ⟨⟨a0,a1,a2,a3,a4,a5,a6,a7,a8,a9,a10,a11,a12⟩,al,af⟩:=(show BoxN (w3.alloc (.cells #[.int .i64 42,.int .i64 0,.int .i64 0,.slice none 0 0,.string ⟨#[]⟩,.int .i64 0,.string ⟨#[]⟩,.int .i64 0,.string ⟨#[]⟩,.int .i64 0,.int .i64 0,.int .i64 0,.slice none 0 0] 61)) (w3.heap.size) [.int .i64 42,.int .i64 0,.int .i64 0,.slice none 0 0,.string ⟨#[]⟩,.int .i64 0,.string ⟨#[]⟩,.int .i64 0,.string ⟨#[]⟩,.int .i64 0,.int .i64 0,.int .i64 0,.slice none 0 0] from B15.out.box).all
    go_wp2_with fail
    clear a0 a1 a2 a3 a4 a5 a6 a7 a8 a9 a10 a11 a12 al af
    refine (make_any 42 0 0 [] ⟨#[]⟩ 0 ⟨#[]⟩ 0 ⟨#[]⟩ 0 0 0 [] _ _ (fromS C s) R15.out (fun e=>HO.out (E16h.out.trans e)) (lst_none _ _ _) (lst_none _ _ _)).mono ?_
    rintro e w17 (⟨x17,t17,v17,u17,hm,rfl,hrep,rd,fr⟩|⟨c,x,hm,rfl,hb⟩)
    rotate_left
    ·go_wp2_with fail
     exact ⟨rfl,rq_bad (E16h.out.trans hm) (F15.out.bel.trans hb)⟩
    obtain rfl:u17 = .int .i64 (x17:Nat):=hrep
    have E17:=Lib.hid (E16h.out.trans hm)
    have R17:=Lib.hid rd
    have F17:=Lib.hid (F15.out.trans fr)
    have B18:=Lib.hid (B15.out.step fr)
    clear B15
    clear hm rd fr E16h R15 F15
    go_wp2_with fail
    go_ret
    exact rq_ok E17.out rfl R17.out F17.out
   ·have n14:(x.toList == [110,111,110,101])=false:=str_no hs14
    have m14:(x.toList != [110,111,110,101])=true:=str_nno hs14
    by_cases hs19:x=(⟨#[116,104,105,115]⟩:ByteArray)
    ·have n19:(x.toList == [116,104,105,115])=true:=str_yes hs19
     have m19:(x.toList != [116,104,105,115])=false:=str_nyes hs19
     have hal:Below w3.heap.size w3 (w3.alloc (.cells #[.int .i64 24,.int .i64 0,.int .i64 0,.slice none 0 0,.string ⟨#[]⟩,.int .i64 0,.string ⟨#[]⟩,.int .i64 0,.string ⟨#[]⟩,.int .i64 0,.int .i64 0,.int .i64 0,.slice none 0 0] 61)):=(Below.refl _ _).alloc (Nat.le_refl _) _
     have B20:=Lib.hid (box_new R3.out F3.out #[.int .i64 24,.int .i64 0,.int .i64 0,.slice none 0 0,.string ⟨#[]⟩,.int .i64 0,.string ⟨#[]⟩,.int .i64 0,.string ⟨#[]⟩,.int .i64 0,.int .i64 0,.int .i64 0,.slice none 0 0])
     have R20:=Lib.hid (R3.out.step hal)
     have F20:=Lib.hid (F3.out.below hal R3.out.hB)
     clear hal R3 F3
     have hcn:constN x=nd 24 ⟨#[]⟩ []:=by unfold constN;rw [if_neg hs4,if_neg hs9,if_neg hs14,if_pos hs19]
     have E21:=E3.out
     rw [hcn] at E21
     have E21h:=Lib.hid E21
     clear E21 E3
     clear hcn hs4 hs9 hs14 hs19
     obtain ⟨⟨a0,a1,a2,a3,a4,a5,a6,a7,a8,a9,a10,a11,a12⟩,al,af⟩:=(show BoxN (w3.alloc (.cells #[.int .i64 24,.int .i64 0,.int .i64 0,.slice none 0 0,.string ⟨#[]⟩,.int .i64 0,.string ⟨#[]⟩,.int .i64 0,.string ⟨#[]⟩,.int .i64 0,.int .i64 0,.int .i64 0,.slice none 0 0] 61)) (w3.heap.size) [.int .i64 24,.int .i64 0,.int .i64 0,.slice none 0 0,.string ⟨#[]⟩,.int .i64 0,.string ⟨#[]⟩,.int .i64 0,.string ⟨#[]⟩,.int .i64 0,.int .i64 0,.int .i64 0,.slice none 0 0] from B20.out.box).all
     go_wp2_with fail
     clear a0 a1 a2 a3 a4 a5 a6 a7 a8 a9 a10 a11 a12 al af
     refine (make_any 24 0 0 [] ⟨#[]⟩ 0 ⟨#[]⟩ 0 ⟨#[]⟩ 0 0 0 [] _ _ (fromS C s) R20.out (fun e=>HO.out (E21h.out.trans e)) (lst_none _ _ _) (lst_none _ _ _)).mono ?_
     rintro e w22 (⟨x22,t22,v22,u22,hm,rfl,hrep,rd,fr⟩|⟨c,x,hm,rfl,hb⟩)
     rotate_left
     ·go_wp2_with fail
      exact ⟨rfl,rq_bad (E21h.out.trans hm) (F20.out.bel.trans hb)⟩
     obtain rfl:u22 = .int .i64 (x22:Nat):=hrep
     have E22:=Lib.hid (E21h.out.trans hm)
     have R22:=Lib.hid rd
     have F22:=Lib.hid (F20.out.trans fr)
     have B23:=Lib.hid (B20.out.step fr)
     clear B20
     clear hm rd fr E21h R20 F20
     go_wp2_with fail
     go_ret
     exact rq_ok E22.out rfl R22.out F22.out
    ·have n19:(x.toList == [116,104,105,115])=false:=str_no hs19
     have m19:(x.toList != [116,104,105,115])=true:=str_nno hs19
     have hal:Below w3.heap.size w3 (w3.alloc (.cells #[.int .i64 21,.int .i64 0,.int .i64 0,.slice none 0 0,.string ⟨#[]⟩,.int .i64 0,.string ⟨#[]⟩,.int .i64 0,.string ⟨#[]⟩,.int .i64 0,.int .i64 0,.int .i64 0,.slice none 0 0] 61)):=(Below.refl _ _).alloc (Nat.le_refl _) _
     have B24:=Lib.hid (box_new R3.out F3.out #[.int .i64 21,.int .i64 0,.int .i64 0,.slice none 0 0,.string ⟨#[]⟩,.int .i64 0,.string ⟨#[]⟩,.int .i64 0,.string ⟨#[]⟩,.int .i64 0,.int .i64 0,.int .i64 0,.slice none 0 0])
     have R24:=Lib.hid (R3.out.step hal)
     have F24:=Lib.hid (F3.out.below hal R3.out.hB)
     clear hal R3 F3
     have hcn:constN x=nd 21 ⟨#[]⟩ []:=by unfold constN;rw [if_neg hs4,if_neg hs9,if_neg hs14,if_neg hs19]
     have E25:=E3.out
     rw [hcn] at E25
     have E25h:=Lib.hid E25
     clear E25 E3
     clear hcn hs4 hs9 hs14 hs19
     obtain ⟨⟨a0,a1,a2,a3,a4,a5,a6,a7,a8,a9,a10,a11,a12⟩,al,af⟩:=(show BoxN (w3.alloc (.cells #[.int .i64 21,.int .i64 0,.int .i64 0,.slice none 0 0,.string ⟨#[]⟩,.int .i64 0,.string ⟨#[]⟩,.int .i64 0,.string ⟨#[]⟩,.int .i64 0,.int .i64 0,.int .i64 0,.slice none 0 0] 61)) (w3.heap.size) [.int .i64 21,.int .i64 0,.int .i64 0,.slice none 0 0,.string ⟨#[]⟩,.int .i64 0,.string ⟨#[]⟩,.int .i64 0,.string ⟨#[]⟩,.int .i64 0,.int .i64 0,.int .i64 0,.slice none 0 0] from B24.out.box).all
     go_wp2_with fail
     clear a0 a1 a2 a3 a4 a5 a6 a7 a8 a9 a10 a11 a12 al af
     refine (make_any 21 0 0 [] ⟨#[]⟩ 0 ⟨#[]⟩ 0 ⟨#[]⟩ 0 0 0 [] _ _ (fromS C s) R24.out (fun e=>HO.out (E25h.out.trans e)) (lst_none _ _ _) (lst_none _ _ _)).mono ?_
     rintro e w26 (⟨x26,t26,v26,u26,hm,rfl,hrep,rd,fr⟩|⟨c,x,hm,rfl,hb⟩)
     rotate_left
     ·go_wp2_with fail
      exact ⟨rfl,rq_bad (E25h.out.trans hm) (F24.out.bel.trans hb)⟩
     obtain rfl:u26 = .int .i64 (x26:Nat):=hrep
     have E26:=Lib.hid (E25h.out.trans hm)
     have R26:=Lib.hid rd
     have F26:=Lib.hid (F24.out.trans fr)
     have B27:=Lib.hid (B24.out.step fr)
     clear B24
     clear hm rd fr E25h R24 F24
     go_wp2_with fail
     go_ret
     exact rq_ok E26.out rfl R26.out F26.out
theorem wrapped_any (h:Rd C dd bB b tv wv s v w) {value:PM Nat} (HV:Does C dd bB b tv wv 249 value) (x:ByteArray) (ho:wrapP C value x s ≠ .out):Calls Tryz.prog 266 #[.pointer (some ⟨b,0,none⟩),.string x] w (RQ C dd bB b tv wv v w repN (wrapP C value x s)):=by
 have HR0:=Lib.hid h
 have R0:=Lib.hid h
 have F0:=Lib.hid (Fr.refl bB b v w)
 have HO:=Lib.hid ho
 have E0:=Lib.hid (congrFun (wrapP.eq_1 C value x) s)
 clear h ho
 go_enter Tryz.func266,Tryz.ntmps266
 go_wp2_with fail
 refine (from_any' R0.out).mono ?_
 rintro e w28 ⟨rfl,hb⟩
 have R28:=Lib.hid (R0.out.step hb)
 have F28:=Lib.hid (F0.out.below hb R0.out.hB)
 clear hb R0 F0
 have E29:=Lib.hid (E0.out.trans look_go)
 clear E0
 go_wp2_with fail
 refine (want_any R28.out _ (fun e=>HO.out (E29.out.trans (bnd_out e)))).mono ?_
 rintro e w30 (⟨x30,t30,v30,u30,hm,rfl,hrep,rd,fr⟩|⟨c,x,hm,rfl,hb⟩)
 rotate_left
 ·go_wp2_with fail
  exact ⟨rfl,rq_bad (E29.out.trans (bnd_bad hm)) (F28.out.bel.trans hb)⟩
 obtain rfl:u30 = .tuple #[]:=hrep
 have E30:=Lib.hid (E29.out.trans (bnd_ok hm))
 have R30:=Lib.hid rd
 have F30:=Lib.hid (F28.out.trans fr)
 clear hm rd fr E29 R28 F28
 go_wp2_with fail
 refine (within_any R30.out HV (fun e=>HO.out (E30.out.trans (bnd_out e)))).mono ?_
 rintro e w31 (⟨x31,t31,v31,u31,hm,rfl,hrep,rd,fr⟩|⟨c,x,hm,rfl,hb⟩)
 rotate_left
 ·go_wp2_with fail
  exact ⟨rfl,rq_bad (E30.out.trans (bnd_bad hm)) (F30.out.bel.trans hb)⟩
 obtain rfl:u31 = .int .i64 (x31:Nat):=hrep
 have E31:=Lib.hid (E30.out.trans (bnd_ok hm))
 have R31:=Lib.hid rd
 have F31:=Lib.hid (F30.out.trans fr)
 clear hm rd fr E30 R30 F30
 have hal:Below w31.heap.size w31 (w31.alloc (.cells #[.int .i64 (x31:Int)] 3)):=(Below.refl _ _).alloc (Nat.le_refl _) _
 have K32:=Lib.hid (own_one HR0.out R31.out F31.out (x31:Int))
 have R32:=Lib.hid (R31.out.step hal)
 have F32:=Lib.hid (F31.out.below hal R31.out.hB)
 clear hal R31 F31
 by_cases hs33:x=(⟨#[97,115,107]⟩:ByteArray)
 ·have n33:(x.toList == [97,115,107])=true:=str_yes hs33
  have m33:(x.toList != [97,115,107])=false:=str_nyes hs33
  have hal:Below (w31.alloc (.cells #[.int .i64 (x31:Int)] 3)).heap.size (w31.alloc (.cells #[.int .i64 (x31:Int)] 3)) ((w31.alloc (.cells #[.int .i64 (x31:Int)] 3)).alloc (.cells #[.int .i64 39,.int .i64 0,.int .i64 0,.slice (some ⟨w31.heap.size,0,none⟩) 1 1,.string ⟨#[]⟩,.int .i64 0,.string ⟨#[]⟩,.int .i64 0,.string ⟨#[]⟩,.int .i64 0,.int .i64 0,.int .i64 0,.slice none 0 0] 61)):=(Below.refl _ _).alloc (Nat.le_refl _) _
  have B34:=Lib.hid (box_new1 R32.out F32.out #[.int .i64 39,.int .i64 0,.int .i64 0,.slice (some ⟨w31.heap.size,0,none⟩) 1 1,.string ⟨#[]⟩,.int .i64 0,.string ⟨#[]⟩,.int .i64 0,.string ⟨#[]⟩,.int .i64 0,.int .i64 0,.int .i64 0,.slice none 0 0])
  have K35:=Lib.hid (K32.out.step (Fr.of_below hal R32.out.hB))
  clear K32
  have R34:=Lib.hid (R32.out.step hal)
  have F34:=Lib.hid (F32.out.below hal R32.out.hB)
  clear hal R32 F32
  have hcn:wrapK x=39:=by unfold wrapK;rw [if_pos hs33]
  have E36:=E31.out
  rw [hcn] at E36
  have E36h:=Lib.hid E36
  clear E36 E31
  clear hcn hs33
  obtain ⟨⟨a0,a1,a2,a3,a4,a5,a6,a7,a8,a9,a10,a11,a12⟩,al,af⟩:=(show BoxN ((w31.alloc (.cells #[.int .i64 (x31:Int)] 3)).alloc (.cells #[.int .i64 39,.int .i64 0,.int .i64 0,.slice (some ⟨w31.heap.size,0,none⟩) 1 1,.string ⟨#[]⟩,.int .i64 0,.string ⟨#[]⟩,.int .i64 0,.string ⟨#[]⟩,.int .i64 0,.int .i64 0,.int .i64 0,.slice none 0 0] 61)) (w31.heap.size+1) [.int .i64 39,.int .i64 0,.int .i64 0,.slice (some ⟨w31.heap.size,0,none⟩) 1 1,.string ⟨#[]⟩,.int .i64 0,.string ⟨#[]⟩,.int .i64 0,.string ⟨#[]⟩,.int .i64 0,.int .i64 0,.int .i64 0,.slice none 0 0] from B34.out.box).all
  go_wp2_with fail
  clear a0 a1 a2 a3 a4 a5 a6 a7 a8 a9 a10 a11 a12 al af
  refine (make_any 39 0 0 [(x31:Int)] ⟨#[]⟩ 0 ⟨#[]⟩ 0 ⟨#[]⟩ 0 0 0 [] _ _ (fromS C s) R34.out (fun e=>HO.out (E36h.out.trans e)) K35.out.lst (lst_none _ _ _)).mono ?_
  rintro e w37 (⟨x37,t37,v37,u37,hm,rfl,hrep,rd,fr⟩|⟨c,x,hm,rfl,hb⟩)
  rotate_left
  ·go_wp2_with fail
   exact ⟨rfl,rq_bad (E36h.out.trans hm) (F34.out.bel.trans hb)⟩
  obtain rfl:u37 = .int .i64 (x37:Nat):=hrep
  have E37:=Lib.hid (E36h.out.trans hm)
  have R37:=Lib.hid rd
  have F37:=Lib.hid (F34.out.trans fr)
  have K38:=Lib.hid (K35.out.step fr)
  clear K35
  have B39:=Lib.hid (B34.out.step fr)
  clear B34
  clear hm rd fr E36h R34 F34
  go_wp2_with fail
  go_ret
  exact rq_ok E37.out rfl R37.out F37.out
 ·have n33:(x.toList == [97,115,107])=false:=str_no hs33
  have m33:(x.toList != [97,115,107])=true:=str_nno hs33
  by_cases hs40:x=(⟨#[116,111,105,110,116]⟩:ByteArray)
  ·have n40:(x.toList == [116,111,105,110,116])=true:=str_yes hs40
   have m40:(x.toList != [116,111,105,110,116])=false:=str_nyes hs40
   have hal:Below (w31.alloc (.cells #[.int .i64 (x31:Int)] 3)).heap.size (w31.alloc (.cells #[.int .i64 (x31:Int)] 3)) ((w31.alloc (.cells #[.int .i64 (x31:Int)] 3)).alloc (.cells #[.int .i64 36,.int .i64 0,.int .i64 0,.slice (some ⟨w31.heap.size,0,none⟩) 1 1,.string ⟨#[]⟩,.int .i64 0,.string ⟨#[]⟩,.int .i64 0,.string ⟨#[]⟩,.int .i64 0,.int .i64 0,.int .i64 0,.slice none 0 0] 61)):=(Below.refl _ _).alloc (Nat.le_refl _) _
   have B41:=Lib.hid (box_new1 R32.out F32.out #[.int .i64 36,.int .i64 0,.int .i64 0,.slice (some ⟨w31.heap.size,0,none⟩) 1 1,.string ⟨#[]⟩,.int .i64 0,.string ⟨#[]⟩,.int .i64 0,.string ⟨#[]⟩,.int .i64 0,.int .i64 0,.int .i64 0,.slice none 0 0])
   have K42:=Lib.hid (K32.out.step (Fr.of_below hal R32.out.hB))
   clear K32
   have R41:=Lib.hid (R32.out.step hal)
   have F41:=Lib.hid (F32.out.below hal R32.out.hB)
   clear hal R32 F32
   have hcn:wrapK x=36:=by unfold wrapK;rw [if_neg hs33,if_pos hs40]
   have E43:=E31.out
   rw [hcn] at E43
   have E43h:=Lib.hid E43
   clear E43 E31
   clear hcn hs33 hs40
   obtain ⟨⟨a0,a1,a2,a3,a4,a5,a6,a7,a8,a9,a10,a11,a12⟩,al,af⟩:=(show BoxN ((w31.alloc (.cells #[.int .i64 (x31:Int)] 3)).alloc (.cells #[.int .i64 36,.int .i64 0,.int .i64 0,.slice (some ⟨w31.heap.size,0,none⟩) 1 1,.string ⟨#[]⟩,.int .i64 0,.string ⟨#[]⟩,.int .i64 0,.string ⟨#[]⟩,.int .i64 0,.int .i64 0,.int .i64 0,.slice none 0 0] 61)) (w31.heap.size+1) [.int .i64 36,.int .i64 0,.int .i64 0,.slice (some ⟨w31.heap.size,0,none⟩) 1 1,.string ⟨#[]⟩,.int .i64 0,.string ⟨#[]⟩,.int .i64 0,.string ⟨#[]⟩,.int .i64 0,.int .i64 0,.int .i64 0,.slice none 0 0] from B41.out.box).all
   go_wp2_with fail
   clear a0 a1 a2 a3 a4 a5 a6 a7 a8 a9 a10 a11 a12 al af
   refine (make_any 36 0 0 [(x31:Int)] ⟨#[]⟩ 0 ⟨#[]⟩ 0 ⟨#[]⟩ 0 0 0 [] _ _ (fromS C s) R41.out (fun e=>HO.out (E43h.out.trans e)) K42.out.lst (lst_none _ _ _)).mono ?_
   rintro e w44 (⟨x44,t44,v44,u44,hm,rfl,hrep,rd,fr⟩|⟨c,x,hm,rfl,hb⟩)
   rotate_left
   ·go_wp2_with fail
    exact ⟨rfl,rq_bad (E43h.out.trans hm) (F41.out.bel.trans hb)⟩
   obtain rfl:u44 = .int .i64 (x44:Nat):=hrep
   have E44:=Lib.hid (E43h.out.trans hm)
   have R44:=Lib.hid rd
   have F44:=Lib.hid (F41.out.trans fr)
   have K45:=Lib.hid (K42.out.step fr)
   clear K42
   have B46:=Lib.hid (B41.out.step fr)
   clear B41
   clear hm rd fr E43h R41 F41
   go_wp2_with fail
   go_ret
   exact rq_ok E44.out rfl R44.out F44.out
  ·have n40:(x.toList == [116,111,105,110,116])=false:=str_no hs40
   have m40:(x.toList != [116,111,105,110,116])=true:=str_nno hs40
   by_cases hs47:x=(⟨#[116,111,100,111,117,98,108,101]⟩:ByteArray)
   ·have n47:(x.toList == [116,111,100,111,117,98,108,101])=true:=str_yes hs47
    have m47:(x.toList != [116,111,100,111,117,98,108,101])=false:=str_nyes hs47
    have hal:Below (w31.alloc (.cells #[.int .i64 (x31:Int)] 3)).heap.size (w31.alloc (.cells #[.int .i64 (x31:Int)] 3)) ((w31.alloc (.cells #[.int .i64 (x31:Int)] 3)).alloc (.cells #[.int .i64 37,.int .i64 0,.int .i64 0,.slice (some ⟨w31.heap.size,0,none⟩) 1 1,.string ⟨#[]⟩,.int .i64 0,.string ⟨#[]⟩,.int .i64 0,.string ⟨#[]⟩,.int .i64 0,.int .i64 0,.int .i64 0,.slice none 0 0] 61)):=(Below.refl _ _).alloc (Nat.le_refl _) _
    have B48:=Lib.hid (box_new1 R32.out F32.out #[.int .i64 37,.int .i64 0,.int .i64 0,.slice (some ⟨w31.heap.size,0,none⟩) 1 1,.string ⟨#[]⟩,.int .i64 0,.string ⟨#[]⟩,.int .i64 0,.string ⟨#[]⟩,.int .i64 0,.int .i64 0,.int .i64 0,.slice none 0 0])
    have K49:=Lib.hid (K32.out.step (Fr.of_below hal R32.out.hB))
    clear K32
    have R48:=Lib.hid (R32.out.step hal)
    have F48:=Lib.hid (F32.out.below hal R32.out.hB)
    clear hal R32 F32
    have hcn:wrapK x=37:=by unfold wrapK;rw [if_neg hs33,if_neg hs40,if_pos hs47]
    have E50:=E31.out
    rw [hcn] at E50
    have E50h:=Lib.hid E50
    clear E50 E31
    clear hcn hs33 hs40 hs47
    obtain ⟨⟨a0,a1,a2,a3,a4,a5,a6,a7,a8,a9,a10,a11,a12⟩,al,af⟩:=(show BoxN ((w31.alloc (.cells #[.int .i64 (x31:Int)] 3)).alloc (.cells #[.int .i64 37,.int .i64 0,.int .i64 0,.slice (some ⟨w31.heap.size,0,none⟩) 1 1,.string ⟨#[]⟩,.int .i64 0,.string ⟨#[]⟩,.int .i64 0,.string ⟨#[]⟩,.int .i64 0,.int .i64 0,.int .i64 0,.slice none 0 0] 61)) (w31.heap.size+1) [.int .i64 37,.int .i64 0,.int .i64 0,.slice (some ⟨w31.heap.size,0,none⟩) 1 1,.string ⟨#[]⟩,.int .i64 0,.string ⟨#[]⟩,.int .i64 0,.string ⟨#[]⟩,.int .i64 0,.int .i64 0,.int .i64 0,.slice none 0 0] from B48.out.box).all
    go_wp2_with fail
    clear a0 a1 a2 a3 a4 a5 a6 a7 a8 a9 a10 a11 a12 al af
    refine (make_any 37 0 0 [(x31:Int)] ⟨#[]⟩ 0 ⟨#[]⟩ 0 ⟨#[]⟩ 0 0 0 [] _ _ (fromS C s) R48.out (fun e=>HO.out (E50h.out.trans e)) K49.out.lst (lst_none _ _ _)).mono ?_
    rintro e w51 (⟨x51,t51,v51,u51,hm,rfl,hrep,rd,fr⟩|⟨c,x,hm,rfl,hb⟩)
    rotate_left
    ·go_wp2_with fail
     exact ⟨rfl,rq_bad (E50h.out.trans hm) (F48.out.bel.trans hb)⟩
    obtain rfl:u51 = .int .i64 (x51:Nat):=hrep
    have E51:=Lib.hid (E50h.out.trans hm)
    have R51:=Lib.hid rd
    have F51:=Lib.hid (F48.out.trans fr)
    have K52:=Lib.hid (K49.out.step fr)
    clear K49
    have B53:=Lib.hid (B48.out.step fr)
    clear B48
    clear hm rd fr E50h R48 F48
    go_wp2_with fail
    go_ret
    exact rq_ok E51.out rfl R51.out F51.out
   ·have n47:(x.toList == [116,111,100,111,117,98,108,101])=false:=str_no hs47
    have m47:(x.toList != [116,111,100,111,117,98,108,101])=true:=str_nno hs47
    have hal:Below (w31.alloc (.cells #[.int .i64 (x31:Int)] 3)).heap.size (w31.alloc (.cells #[.int .i64 (x31:Int)] 3)) ((w31.alloc (.cells #[.int .i64 (x31:Int)] 3)).alloc (.cells #[.int .i64 41,.int .i64 0,.int .i64 0,.slice (some ⟨w31.heap.size,0,none⟩) 1 1,.string ⟨#[]⟩,.int .i64 0,.string ⟨#[]⟩,.int .i64 0,.string ⟨#[]⟩,.int .i64 0,.int .i64 0,.int .i64 0,.slice none 0 0] 61)):=(Below.refl _ _).alloc (Nat.le_refl _) _
    have B54:=Lib.hid (box_new1 R32.out F32.out #[.int .i64 41,.int .i64 0,.int .i64 0,.slice (some ⟨w31.heap.size,0,none⟩) 1 1,.string ⟨#[]⟩,.int .i64 0,.string ⟨#[]⟩,.int .i64 0,.string ⟨#[]⟩,.int .i64 0,.int .i64 0,.int .i64 0,.slice none 0 0])
    have K55:=Lib.hid (K32.out.step (Fr.of_below hal R32.out.hB))
    clear K32
    have R54:=Lib.hid (R32.out.step hal)
    have F54:=Lib.hid (F32.out.below hal R32.out.hB)
    clear hal R32 F32
    have hcn:wrapK x=41:=by unfold wrapK;rw [if_neg hs33,if_neg hs40,if_neg hs47]
    have E56:=E31.out
    rw [hcn] at E56
    have E56h:=Lib.hid E56
    clear E56 E31
    clear hcn hs33 hs40 hs47
    obtain ⟨⟨a0,a1,a2,a3,a4,a5,a6,a7,a8,a9,a10,a11,a12⟩,al,af⟩:=(show BoxN ((w31.alloc (.cells #[.int .i64 (x31:Int)] 3)).alloc (.cells #[.int .i64 41,.int .i64 0,.int .i64 0,.slice (some ⟨w31.heap.size,0,none⟩) 1 1,.string ⟨#[]⟩,.int .i64 0,.string ⟨#[]⟩,.int .i64 0,.string ⟨#[]⟩,.int .i64 0,.int .i64 0,.int .i64 0,.slice none 0 0] 61)) (w31.heap.size+1) [.int .i64 41,.int .i64 0,.int .i64 0,.slice (some ⟨w31.heap.size,0,none⟩) 1 1,.string ⟨#[]⟩,.int .i64 0,.string ⟨#[]⟩,.int .i64 0,.string ⟨#[]⟩,.int .i64 0,.int .i64 0,.int .i64 0,.slice none 0 0] from B54.out.box).all
    go_wp2_with fail
    clear a0 a1 a2 a3 a4 a5 a6 a7 a8 a9 a10 a11 a12 al af
    refine (make_any 41 0 0 [(x31:Int)] ⟨#[]⟩ 0 ⟨#[]⟩ 0 ⟨#[]⟩ 0 0 0 [] _ _ (fromS C s) R54.out (fun e=>HO.out (E56h.out.trans e)) K55.out.lst (lst_none _ _ _)).mono ?_
    rintro e w57 (⟨x57,t57,v57,u57,hm,rfl,hrep,rd,fr⟩|⟨c,x,hm,rfl,hb⟩)
    rotate_left
    ·go_wp2_with fail
     exact ⟨rfl,rq_bad (E56h.out.trans hm) (F54.out.bel.trans hb)⟩
    obtain rfl:u57 = .int .i64 (x57:Nat):=hrep
    have E57:=Lib.hid (E56h.out.trans hm)
    have R57:=Lib.hid rd
    have F57:=Lib.hid (F54.out.trans fr)
    have K58:=Lib.hid (K55.out.step fr)
    clear K55
    have B59:=Lib.hid (B54.out.step fr)
    clear B54
    clear hm rd fr E56h R54 F54
    go_wp2_with fail
    go_ret
    exact rq_ok E57.out rfl R57.out F57.out
theorem result_any (h:Rd C dd bB b tv wv s v w) {value:PM Nat} (HV:Does C dd bB b tv wv 249 value) (ho:resultP C value s ≠ .out):Calls Tryz.prog 235 #[.pointer (some ⟨b,0,none⟩)] w (RQ C dd bB b tv wv v w repN (resultP C value s)):=by
 have HR0:=Lib.hid h
 have R0:=Lib.hid h
 have F0:=Lib.hid (Fr.refl bB b v w)
 have HO:=Lib.hid ho
 have E0:=Lib.hid (congrFun (resultP.eq_1 C value) s)
 clear h ho
 go_enter Tryz.func235,Tryz.ntmps235
 go_wp2_with fail
 refine (from_any' R0.out).mono ?_
 rintro e w60 ⟨rfl,hb⟩
 have R60:=Lib.hid (R0.out.step hb)
 have F60:=Lib.hid (F0.out.below hb R0.out.hB)
 clear hb R0 F0
 have E61:=Lib.hid (E0.out.trans look_go)
 clear E0
 go_wp2_with fail
 refine (want_any R60.out _ (fun e=>HO.out (E61.out.trans (bnd_out e)))).mono ?_
 rintro e w62 (⟨x62,t62,v62,u62,hm,rfl,hrep,rd,fr⟩|⟨c,x,hm,rfl,hb⟩)
 rotate_left
 ·go_wp2_with fail
  exact ⟨rfl,rq_bad (E61.out.trans (bnd_bad hm)) (F60.out.bel.trans hb)⟩
 obtain rfl:u62 = .tuple #[]:=hrep
 have E62:=Lib.hid (E61.out.trans (bnd_ok hm))
 have R62:=Lib.hid rd
 have F62:=Lib.hid (F60.out.trans fr)
 clear hm rd fr E61 R60 F60
 have hal:Below w62.heap.size w62 (w62.alloc (.cells #[.int .i64 15,.int .i64 0,.int .i64 0,.slice none 0 0,.string ⟨#[]⟩,.int .i64 0,.string ⟨#[]⟩,.int .i64 0,.string ⟨#[]⟩,.int .i64 0,.int .i64 0,.int .i64 0,.slice none 0 0] 61)):=(Below.refl _ _).alloc (Nat.le_refl _) _
 have B63:=Lib.hid (box_new R62.out F62.out #[.int .i64 15,.int .i64 0,.int .i64 0,.slice none 0 0,.string ⟨#[]⟩,.int .i64 0,.string ⟨#[]⟩,.int .i64 0,.string ⟨#[]⟩,.int .i64 0,.int .i64 0,.int .i64 0,.slice none 0 0])
 have R63:=Lib.hid (R62.out.step hal)
 have F63:=Lib.hid (F62.out.below hal R62.out.hB)
 clear hal R62 F62
 go_wp2_with fail
 refine (sees_any R63.out _).mono ?_
 rintro e w64 ⟨rfl,hb⟩
 have R64:=Lib.hid (R63.out.step hb)
 have F64:=Lib.hid (F63.out.below hb R63.out.hB)
 have B65:=Lib.hid (B63.out.step (Fr.of_below hb R63.out.hB))
 clear B63
 clear hb R63 F63
 have E66:=Lib.hid (E62.out.trans look_go)
 clear E62
 cases hc67:sees C (⟨#[59]⟩:ByteArray) t62
 ·have E68:=Lib.hid (E66.out.trans (if_neg_go (fun e=>by rw [hc67] at e;cases e)))
  clear E66
  go_wp2_with fail
  refine (HV _ _ _ R64.out (fun e=>HO.out (E68.out.trans (bnd_out e)))).mono ?_
  rintro e w69 (⟨x69,t69,v69,u69,hm,rfl,hrep,rd,fr⟩|⟨c,x,hm,rfl,hb⟩)
  rotate_left
  ·go_wp2_with fail
   exact ⟨rfl,rq_bad (E68.out.trans (bnd_bad hm)) (F64.out.bel.trans hb)⟩
  obtain rfl:u69 = .int .i64 (x69:Nat):=hrep
  have E69:=Lib.hid (E68.out.trans (bnd_ok hm))
  have R69:=Lib.hid rd
  have F69:=Lib.hid (F64.out.trans fr)
  have B70:=Lib.hid (B65.out.step fr)
  clear B65
  clear hm rd fr E68 R64 F64
  obtain ⟨⟨a0,a1,a2,a3,a4,a5,a6,a7,a8,a9,a10,a11,a12⟩,al,af⟩:=(show BoxN w69 (w62.heap.size) [.int .i64 15,.int .i64 0,.int .i64 0,.slice none 0 0,.string ⟨#[]⟩,.int .i64 0,.string ⟨#[]⟩,.int .i64 0,.string ⟨#[]⟩,.int .i64 0,.int .i64 0,.int .i64 0,.slice none 0 0] from B70.out.box).all
  obtain ⟨rd,fr,bx,ow⟩:=own_into HR0.out R69.out F69.out B70.out 3 (x69:Int)
  have R71:=Lib.hid rd
  have F71:=Lib.hid fr
  have B71:=Lib.hid bx
  have K71:=Lib.hid ow
  clear rd fr bx ow R69 F69 B70
  go_wp2_with fail
  clear a0 a1 a2 a3 a4 a5 a6 a7 a8 a9 a10 a11 a12 al af
  refine (want_any R71.out _ (fun e=>HO.out (E69.out.trans (bnd_out e)))).mono ?_
  rintro e w72 (⟨x72,t72,v72,u72,hm,rfl,hrep,rd,fr⟩|⟨c,x,hm,rfl,hb⟩)
  rotate_left
  ·go_wp2_with fail
   exact ⟨rfl,rq_bad (E69.out.trans (bnd_bad hm)) (F71.out.bel.trans hb)⟩
  obtain rfl:u72 = .tuple #[]:=hrep
  have E72:=Lib.hid (E69.out.trans (bnd_ok hm))
  have R72:=Lib.hid rd
  have F72:=Lib.hid (F71.out.trans fr)
  have K73:=Lib.hid (K71.out.step fr)
  clear K71
  have B74:=Lib.hid (B71.out.step fr)
  clear B71
  clear hm rd fr E69 R71 F71
  obtain ⟨⟨a0,a1,a2,a3,a4,a5,a6,a7,a8,a9,a10,a11,a12⟩,al,af⟩:=(show BoxN w72 (w62.heap.size) [.int .i64 15,.int .i64 0,.int .i64 0,.slice (some ⟨w69.heap.size,0,none⟩) 1 1,.string ⟨#[]⟩,.int .i64 0,.string ⟨#[]⟩,.int .i64 0,.string ⟨#[]⟩,.int .i64 0,.int .i64 0,.int .i64 0,.slice none 0 0] from B74.out.box).all
  go_wp2_with fail
  clear a0 a1 a2 a3 a4 a5 a6 a7 a8 a9 a10 a11 a12 al af
  refine (make_any 15 0 0 [(x69:Int)] ⟨#[]⟩ 0 ⟨#[]⟩ 0 ⟨#[]⟩ 0 0 0 [] _ _ (fromS C s) R72.out (fun e=>HO.out (E72.out.trans e)) K73.out.lst (lst_none _ _ _)).mono ?_
  rintro e w75 (⟨x75,t75,v75,u75,hm,rfl,hrep,rd,fr⟩|⟨c,x,hm,rfl,hb⟩)
  rotate_left
  ·go_wp2_with fail
   exact ⟨rfl,rq_bad (E72.out.trans hm) (F72.out.bel.trans hb)⟩
  obtain rfl:u75 = .int .i64 (x75:Nat):=hrep
  have E75:=Lib.hid (E72.out.trans hm)
  have R75:=Lib.hid rd
  have F75:=Lib.hid (F72.out.trans fr)
  have K76:=Lib.hid (K73.out.step fr)
  clear K73
  have B77:=Lib.hid (B74.out.step fr)
  clear B74
  clear hm rd fr E72 R72 F72
  go_wp2_with fail
  go_ret
  exact rq_ok E75.out rfl R75.out F75.out
 ·have E78:=Lib.hid (E66.out.trans (if_pos_go hc67))
  clear E66
  go_wp2_with fail
  refine (want_any R64.out _ (fun e=>HO.out (E78.out.trans (bnd_out e)))).mono ?_
  rintro e w79 (⟨x79,t79,v79,u79,hm,rfl,hrep,rd,fr⟩|⟨c,x,hm,rfl,hb⟩)
  rotate_left
  ·go_wp2_with fail
   exact ⟨rfl,rq_bad (E78.out.trans (bnd_bad hm)) (F64.out.bel.trans hb)⟩
  obtain rfl:u79 = .tuple #[]:=hrep
  have E79:=Lib.hid (E78.out.trans (bnd_ok hm))
  have R79:=Lib.hid rd
  have F79:=Lib.hid (F64.out.trans fr)
  have B80:=Lib.hid (B65.out.step fr)
  clear B65
  clear hm rd fr E78 R64 F64
  obtain ⟨⟨a0,a1,a2,a3,a4,a5,a6,a7,a8,a9,a10,a11,a12⟩,al,af⟩:=(show BoxN w79 (w62.heap.size) [.int .i64 15,.int .i64 0,.int .i64 0,.slice none 0 0,.string ⟨#[]⟩,.int .i64 0,.string ⟨#[]⟩,.int .i64 0,.string ⟨#[]⟩,.int .i64 0,.int .i64 0,.int .i64 0,.slice none 0 0] from B80.out.box).all
  go_wp2_with fail
  clear a0 a1 a2 a3 a4 a5 a6 a7 a8 a9 a10 a11 a12 al af
  refine (make_any 15 0 0 [] ⟨#[]⟩ 0 ⟨#[]⟩ 0 ⟨#[]⟩ 0 0 0 [] _ _ (fromS C s) R79.out (fun e=>HO.out (E79.out.trans e)) (lst_none _ _ _) (lst_none _ _ _)).mono ?_
  rintro e w81 (⟨x81,t81,v81,u81,hm,rfl,hrep,rd,fr⟩|⟨c,x,hm,rfl,hb⟩)
  rotate_left
  ·go_wp2_with fail
   exact ⟨rfl,rq_bad (E79.out.trans hm) (F79.out.bel.trans hb)⟩
  obtain rfl:u81 = .int .i64 (x81:Nat):=hrep
  have E81:=Lib.hid (E79.out.trans hm)
  have R81:=Lib.hid rd
  have F81:=Lib.hid (F79.out.trans fr)
  have B82:=Lib.hid (B80.out.step fr)
  clear B80
  clear hm rd fr E79 R79 F79
  go_wp2_with fail
  go_ret
  exact rq_ok E81.out rfl R81.out F81.out
end
end Go.Proofs.YtfehpdliobapfaaGreatDoor
namespace Go.Proofs.YtfehpdliobapfaaGreatDoor
open Go Go.RowKit
def freeT (B:Int) (M:ByteArray) (d:Nat):Bool:=decide (byS M d=32) && (decide (0<d) || decide (B=5))
theorem free_any (B:Int) (N:ByteArray) (d:Nat) (M:ByteArray) (w:World) (hM:M.size=d+1) (hd:d<=4):Calls Tryz.prog 222 #[.agg #[.int .i64 B,.string N,.int .i64 (d:Int),.string M]] w fun e w'=>e = .returned (.bool (freeT B M d))/\Below w.heap.size w w':=by
 have hk:d<M.size:=by omega
 have C:=byS_get M d hk
 have i0:(0:Int)<=(d:Int):=by omega
 have i1:(d:Int)<(M.size:Int):=by omega
 by_cases h32:M[d].toNat=32
 ·have r1:((M[d].toNat:Int) == 32)=true:=by rw [h32];rfl
  have E0:decide (byS M d=32)=true:=by rw [C,h32];rfl
  by_cases hd0:0<d
  ·have p1:decide ((0:Int)<(d:Int))=true:=decide_eq_true (by omega)
   have E:Hid (freeT B M d=true):=Lib.hid (by unfold freeT;rw [E0,decide_eq_true hd0];rfl)
   clear C h32 E0
   go_enter Tryz.func222,Tryz.ntmps222
   go_wp2_with fail
   go_ret
   exact ⟨by rw [E.out];rfl,by repeat (first|exact Below.refl _ _|apply Below.setCell _ (by first|omega|(simp<;>omega))|apply Below.alloc _ (by first|omega|(simp<;>omega)))⟩
  ·have p1:decide ((0:Int)<(d:Int))=false:=decide_eq_false (by omega)
   by_cases hB:B=5
   ·have p2:(B == 5)=true:=by simp [hB]
    have E:Hid (freeT B M d=true):=Lib.hid (by unfold freeT;rw [E0,decide_eq_true hB];simp)
    clear C h32 E0 hB
    go_enter Tryz.func222,Tryz.ntmps222
    go_wp2_with fail
    go_ret
    exact ⟨by rw [E.out];rfl,by repeat (first|exact Below.refl _ _|apply Below.setCell _ (by first|omega|(simp<;>omega))|apply Below.alloc _ (by first|omega|(simp<;>omega)))⟩
   ·have p2:(B == 5)=false:=by simp [hB]
    have E:Hid (freeT B M d=false):=Lib.hid (by unfold freeT;rw [E0,decide_eq_false hB,decide_eq_false hd0];rfl)
    clear C h32 E0 hB
    go_enter Tryz.func222,Tryz.ntmps222
    go_wp2_with fail
    go_ret
    exact ⟨by rw [E.out];rfl,by repeat (first|exact Below.refl _ _|apply Below.setCell _ (by first|omega|(simp<;>omega))|apply Below.alloc _ (by first|omega|(simp<;>omega)))⟩
 ·have r1:((M[d].toNat:Int) == 32)=false:=by simp;omega
  have E:Hid (freeT B M d=false):=Lib.hid (by unfold freeT;rw [C,decide_eq_false h32];rfl)
  clear C h32
  go_enter Tryz.func222,Tryz.ntmps222
  go_wp2_with fail
  go_ret
  exact ⟨by rw [E.out];rfl,by repeat (first|exact Below.refl _ _|apply Below.setCell _ (by first|omega|(simp<;>omega))|apply Below.alloc _ (by first|omega|(simp<;>omega)))⟩
theorem marked_any' (B:Int) (N:ByteArray) (d:Nat) (M m:ByteArray) (w:World) (hM:M.size=d+1) (hd:d<=4) (hm:m.size=1):Calls Tryz.prog 223 #[.agg #[.int .i64 B,.string N,.int .i64 (d:Int),.string M],.string m] w fun e w'=>e = .returned (.agg #[.int .i64 B,.string N,.int .i64 (d:Int),.string (M.extract 0 d ++ m)])/\Below w.heap.size w w':=by
 have i1:(d:Int)<=(M.size:Int):=by omega
 have i0:(0:Int)<=(d:Int):=by omega
 have hx:(M.extract 0 d).size=d:=by simp;omega
 have s1:¬ 9223372036854775807<(M.extract 0 d).size+m.size:=by omega
 have s2:¬ 9223372036854775807<d+m.size:=by omega
 clear hx
 go_enter Tryz.func223,Tryz.ntmps223
 go_wp2_with fail
 have X:=Bx.new 45 (w.alloc (.cells #[.int .i64 B,.string N,.int .i64 (d:Int),.string (M.extract 0 d ++ m)] 45)) #[.int .i64 B,.string N,.int .i64 (d:Int),.string (M.extract 0 d ++ m)]
 have r0:=X.cell 0
 have r1:=X.cell 1
 have r2:=X.cell 2
 have r3:=X.cell 3
 simp only [List.getElem?_cons_zero,List.getElem?_cons_succ,World.alloc,Array.size_push] at r0 r1 r2 r3
 refine bodyPost_ret (v:=.agg #[.int .i64 B,.string N,.int .i64 (d:Int),.string (M.extract 0 d ++ m)]) (by simp [results,Tryz.results223,go_sem,r0,r1,r2,r3]) rfl ?_
 exact ⟨rfl,by repeat (first|exact Below.refl _ _|apply Below.setCell _ (by first|omega|(simp<;>omega))|apply Below.alloc _ (by first|omega|(simp<;>omega)))⟩
end Go.Proofs.YtfehpdliobapfaaGreatDoor
