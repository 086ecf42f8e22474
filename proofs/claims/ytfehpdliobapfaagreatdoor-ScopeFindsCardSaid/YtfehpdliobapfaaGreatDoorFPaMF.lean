/- For any text and any number,ScopeFinds returns true and leaves its arguments as they were. -/
import Derived.Test.YtfehpdliobapfaaGreatDoorFPaME
import Derived.Defers
import Derived.Recover
set_option maxRecDepth 100000
set_option maxHeartbeats 4000000
set_option linter.unusedVariables false
set_option linter.unusedSimpArgs false
namespace Go.Proofs.YtfehpdliobapfaaGreatDoor
open Go Go.RowKit
def toksX (x:ByteArray):List (Nat × Nat × Nat):=(L.lexG (L.byS x) x.size).1
def codeX (x:ByteArray):Nat:=(L.lexG (L.byS x) x.size).2.1
def wordX (x:ByteArray) (t:Nat × Nat × Nat):ByteArray:=x.extract t.2.1 t.2.2
def pcOf (x:ByteArray):PC where
 toks:=toksX x
 ws:=(toksX x).map (wordX x)
 name:=L.nameS
 int:=fun y=>((L.intR y).1,(L.intR y).2.toNat)
 flt:=fun y=>(wrap64 ((L.fltR y).1:Nat),(L.fltR y).2.toNat)
 unq:=fun y=>(L.strN (L.unqF y).2,(L.unqF y).1)
theorem said_len (g:Nat->Nat):∀ (k i:Nat) (b:Bool) (acc:List Nat),(L.saidF g k i b acc).2.length<=acc.length+k
 | 0,i,b,acc=>by unfold L.saidF;simp
 | k+1,i,b,acc=>by
  unfold L.saidF
  split
  ·simp
  ·split
   ·split
    ·simp
    ·rename_i m hm
     have:=said_len g k (i+1) false (acc ++ [m])
     simp at this;omega
   ·split
    ·simp
    ·split
     ·have:=said_len g k (i+1) true acc
      omega
     ·have:=said_len g k (i+1) false (acc ++ [g i])
      simp at this;omega
theorem unq_len (x:ByteArray):(L.unqF x).2.length<=x.size:=by
 unfold L.unqF
 split
 ·simp
 ·split
  ·simp
  ·split
   ·simp
   ·rename_i h1 h2 h3
    have h0:0<x.size:=by
     cases hx:decide (0<x.size) with
     | true=>exact of_decide_eq_true hx
     | false=>rw [hx] at h1;simp at h1
    have:=said_len (L.byS x) (L.quotedG (L.byS x) x.size 0-1) 1 false []
    have hq:=(L.quoted_facts (g:=L.byS x) (n:=x.size) (i:=0) h0).2
    have e:L.saidG (L.byS x) (L.quotedG (L.byS x) x.size 0) 1 false []=L.saidF (L.byS x) (L.quotedG (L.byS x) x.size 0-1) 1 false []:=rfl
    show (L.saidG (L.byS x) (L.quotedG (L.byS x) x.size 0) 1 false []).2.length<=_
    rw [e];simp at this;omega
theorem strN_size (l:List Nat):(L.strN l).size=l.length:=by unfold L.strN L.ofN;show (List.toArray _).size=_;simp
theorem extract_le (x:ByteArray) (a b:Nat):(x.extract a b).size<=x.size:=by rw [ByteArray.size_extract];omega
theorem toks_most {g:Nat->Nat} {n:Nat}:∀ i c,i<=n->c<=16384->(L.toksG g n i c).1.length+c<=16384:=by
 refine L.toks_ind g fun i c hi ih hc=>?_
 by_cases hlt:i<n
 ·by_cases hf:c=16384
  ·subst hf;rw [L.toks_full hlt];simp
  ·by_cases h0:(L.tokenG g n i).1=0
   ·rw [L.toks_next hlt hf h0]
    have:=ih hlt h0 (by omega)
    simp;omega
   ·rw [L.toks_bad hlt hf h0];simpa using hc
 ·rw [L.toks_end hlt];simpa using hc
theorem lex_most (g:Nat->Nat) (n:Nat):(L.lexG g n).1.length<=16385:=by
 unfold L.lexG
 split
 ·simp
 ·split
  ·have:=toks_most (g:=g) (n:=n) (L.gapG g n 0) 0 (L.gap_le g (Nat.zero_le _)) (by omega)
   simp;omega
  ·simp
section
variable {x:ByteArray}
theorem toks_of (h:codeX x=0):x.size<=65536/\∃ l:List L.Tok,toksX x=l ++ [(0,x.size,x.size)]/\l.length<=x.size/\∀ k (h:k<l.length),L.TokOk (L.byS x) x.size (L.atK l k) l[k]:=by
 obtain ⟨h1,-,l,h2,h3,h4,-⟩:=L.lex_ok h
 exact ⟨h1,l,h2,h3,h4⟩
theorem pc_word (i:Nat):(pcOf x).word i=match (toksX x)[i]? with|some t=>wordX x t|none=>⟨#[]⟩:=by
 show ((toksX x).map (wordX x)).getD i ⟨#[]⟩=_
 rw [List.getD_eq_getElem?_getD,List.getElem?_map]
 cases (toksX x)[i]? <;> rfl
theorem pc_size (h:codeX x=0) (i:Nat):((pcOf x).word i).size<=65536:=by
 have hs:=(toks_of h).1
 rw [pc_word]
 split
 ·unfold wordX;have:=extract_le x (by assumption:Nat × Nat × Nat).2.1 (by assumption:Nat × Nat × Nat).2.2;omega
 ·show 0<=_;omega
theorem pc_cw (h:codeX x=0):CW (pcOf x):=by
 obtain ⟨hs,l,hl,hn,-⟩:=toks_of h
 have hlen:(pcOf x).toks.length=l.length+1:=by show (toksX x).length=_;rw [hl];simp
 refine ⟨by omega,by omega,fun i hi=>?_,fun i hi=>?_,fun y hy=>?_,pc_size h,fun y hy=>?_⟩
 ·rw [hlen]
  by_cases h1:i<l.length
  ·omega
  ·exfalso
   apply hi
   rw [pc_word,hl]
   by_cases h2:i=l.length
   ·subst h2
    rw [List.getElem?_append_right (Nat.le_refl _),Nat.sub_self]
    show (x.extract x.size x.size).size=0
    rw [ByteArray.size_extract];omega
   ·rw [List.getElem?_eq_none (by simp;omega)];rfl
 ·rw [hlen]
  by_cases h1:i<l.length
  ·omega
  ·exfalso
   apply hi
   show ((toksX x).getD i (0,0,0)).1=0
   rw [hl,List.getD_eq_getElem?_getD]
   by_cases h2:i=l.length
   ·subst h2
    rw [List.getElem?_append_right (Nat.le_refl _),Nat.sub_self];rfl
   ·rw [List.getElem?_eq_none (by simp;omega)];rfl
 ·have:L.nameS y=true:=hy
  unfold L.nameS at this
  simp only [Bool.and_eq_true,decide_eq_true_eq] at this
  omega
 ·show (L.strN (L.unqF y).2).size<=65536
  rw [strN_size]
  have:=unq_len y
  omega
theorem int_nonneg (y:ByteArray):0<=(L.intR y).2:=by
 unfold L.intR
 split
 ·split<;>simp
 ·simp
theorem pc_ck (h:codeX x=0):CK (pcOf x):=⟨fun _=>rfl,fun y _=>⟨rfl,int_nonneg y⟩,pc_size h⟩
theorem flt_nonneg (y:ByteArray):0<=(L.fltR y).2:=by
 unfold L.fltR
 split
 ·simp
 ·unfold L.fltOf
  repeat (first|split|simp)
theorem pc_ckn (x:ByteArray):CKn (pcOf x):=⟨fun y _=>⟨rfl,flt_nonneg y⟩,fun y _=>rfl⟩
def parsedX (x:ByteArray):List Nd × Nat × Int :=
 if codeX x≠0 then ([],codeX x,((L.lexG (L.byS x) x.size).2.2:Nat)) else
 match parseP (pcOf x) with
 | .ok _ t=>(t.made,0,0)
 | .bad c z=>([],c,z)
 | .out=>([],0,0)
theorem parsed_lex (h:codeX x≠0):parsedX x=([],codeX x,(((L.lexG (L.byS x) x.size).2.2:Nat):Int)):=by unfold parsedX;rw [if_pos h]
theorem parsed_ok {t:PS} (h:codeX x=0) (hp:parseP (pcOf x) = .ok () t):parsedX x=(t.made,0,0):=by unfold parsedX;rw [if_neg (by simp [h]),hp]
theorem parsed_bad {c:Nat} {z:Int} (h:codeX x=0) (hp:parseP (pcOf x) = .bad c z):parsedX x=([],c,z):=by unfold parsedX;rw [if_neg (by simp [h]),hp]
end
end Go.Proofs.YtfehpdliobapfaaGreatDoor
namespace Go.Proofs.YtfehpdliobapfaaGreatDoor
open Go Go.RowKit
theorem catch_thrown (a c:Nat) (code x:Int) (ta tb fa fb:Value) (w:World) (hT:Bx 25 w a [ta,tb]) (hF:Bx 28 w c [fa,fb]) (hne:a≠c) :
  CallsD Tryz.prog 58 #[.pointer (some ⟨a,0,none⟩),.pointer (some ⟨c,0,none⟩)] (.panicking [{ v:=.iface 102 (.agg #[.int .i64 code,.int .i64 x]),recovered:=false }]) w fun e u' w' =>
   e = .returned (.tuple #[])/\u' = .panicking [{ v:=.iface 102 (.agg #[.int .i64 code,.int .i64 x]),recovered:=true }]/\Bx 25 w' a [.slice none 0 0,.int .i64 0]/\Bx 28 w' c [.int .i64 code,.int .i64 x]/\∀ B,B<=a->B<=c->B<=w.heap.size->Below B w w':=by
 have hta:∀ w:World,Sem.run Tryz.prog (Instr.typeAssert (Value.iface 102 (Value.agg #[Value.int IntKind.i64 code,Value.int IntKind.i64 x])) 20 102 true) w = .ok (.tuple #[.agg #[.int .i64 code,.int .i64 x],.bool true]) w:=fun w=>by kernel_rfl
 refine callsD_of_wpS Tryz.func58 rfl fun c₀ cs hu=>?_
 apply wpS_seq
 apply wpS_region
 simp [hta,wpOpsS,go_sem,recoverD,hu,Tryz.ntmps58,Exit.thenS]
 apply wpS_seq
 apply wpS_region
 simp [wpOpsS,go_sem,Exit.thenS]
 refine wpS_cond (t:=true) (by simp [Act.eval,Array.replicate]) ?_
 simp only [if_true]
 have T1:=hT.alloc (.cells #[.int .i64 code,.int .i64 x] 102)
 have F1:=hF.alloc (.cells #[.int .i64 code,.int .i64 x] 102)
 have X1:=Bx.new 102 w #[.int .i64 code,.int .i64 x]
 have hB1:∀ B,B<=w.heap.size->Below B w (w.alloc (.cells #[.int .i64 code,.int .i64 x] 102)):=fun B hB=>(Below.refl B w).alloc hB _
 have hTl:=hT.lt
 have hFl:=hF.lt
 obtain ⟨k,hk⟩:∃ k,k=w.heap.size:=⟨_,rfl⟩
 obtain ⟨W1,hW1⟩:∃ W1,W1=w.alloc (.cells #[.int .i64 code,.int .i64 x] 102):=⟨_,rfl⟩
 rw [<- hW1] at T1 F1 X1 hB1 ⊢
 rw [<- hk] at X1 hTl hFl ⊢
 have HB1:=Lib.hid hB1
 have HKK:=Lib.hid hk
 have HT:=Lib.hid T1
 have HF:=Lib.hid F1
 obtain ⟨t0,t1,tl,tf⟩:=T1.two
 obtain ⟨f0,f1,fl,ff⟩:=F1.two
 obtain ⟨x0,x1,xl,xf⟩:=X1.two
 clear hW1 hk hB1 T1 F1 X1 hT hF hta
 simp only [show (Array.replicate 10 undef:Array Value)=#[undef,undef,undef,undef,undef,undef,undef,undef,undef,undef] from rfl,List.setIfInBounds_toArray,List.set_cons_zero,List.set_cons_succ,List.append_toArray,List.cons_append,List.nil_append]
 refine wpS_of_wp ?_
 go_wp2_with fail
 go_region
 refine ⟨rfl,_,rfl,.tuple #[],by simp [results,Tryz.results58,go_sem],rfl,rfl,?_,?_,fun B hBa hBc hBk=>?_⟩
 ·show Bx 25 ((((W1.setCell ⟨a,0,none⟩ _).setCell ⟨a,1,none⟩ _).setCell ⟨c,0,none⟩ _).setCell ⟨c,1,none⟩ _) a _
  exact (((HT.out.set 0 _).set 1 _).other hne 0 _).other hne 1 _
 ·show Bx 28 ((((W1.setCell ⟨a,0,none⟩ _).setCell ⟨a,1,none⟩ _).setCell ⟨c,0,none⟩ _).setCell ⟨c,1,none⟩ _) c _
  exact (((HF.out.other (Ne.symm hne) 0 _).other (Ne.symm hne) 1 _).set 0 _).set 1 _
 ·exact (((((HB1.out B (by have:=HKK.out;omega)).setCell (p:=⟨a,0,none⟩) hBa _).setCell (p:=⟨a,1,none⟩) hBa _).setCell (p:=⟨c,0,none⟩) hBc _).setCell (p:=⟨c,1,none⟩) hBc _).drew
theorem catch_none (a c:Nat) (w:World) :
  CallsD Tryz.prog 58 #[.pointer (some ⟨a,0,none⟩),.pointer (some ⟨c,0,none⟩)] .returning w fun e u' w' =>
   e = .returned (.tuple #[])/\u' = .returning/\∃ o,w'=w.alloc o:=by
 have hta:∀ w:World,Sem.run Tryz.prog (Instr.typeAssert Value.nilIface 20 102 true) w = .ok (.tuple #[.agg #[.int .i64 0,.int .i64 0],.bool false]) w:=fun w=>by kernel_rfl
 refine callsD_of_wpS Tryz.func58 rfl fun c₀ cs hu=>?_
 apply wpS_seq
 apply wpS_region
 simp [hta,wpOpsS,go_sem,recoverD,hu,Tryz.ntmps58,Exit.thenS]
 apply wpS_seq
 apply wpS_region
 simp [wpOpsS,go_sem,Exit.thenS]
 refine wpS_cond (t:=false) (by simp [Act.eval,Array.replicate]) ?_
 simp only [Bool.false_eq_true,if_false]
 refine wpS_of_wp (wp_skip ?_)
 cases c₀
 simp_all [bodyPostS,results,Tryz.results58]
 exact ⟨_,rfl⟩
def NoPanic (Q:Exit->Act->World->Prop):Exit->Act->World->Prop
 | .panic _,_,_=>False
 | .normal,a,w=>Q .normal a w
 | .ret,a,w=>Q .ret a w
 | .exit i,a,w=>Q (.exit i) a w
 | .goto l,a,w=>Q (.goto l) a w
 | .outgrown,a,w=>Q .outgrown a w
theorem wp_noPanic {P:Program} {c:Code} {Q:Exit->Act->World->Prop} {a:Act} {w:World} (h:c.wp P (NoPanic Q) a w):c.wp P Q a w :=
 Code.wp_mono (fun e a w hq=>by cases e<;>first|exact hq|exact hq.elim) h
theorem infoStr:(Tryz.prog.info? 9).map (fun i=>(i.zero,i.size,i.bytes))=some (some (.string ⟨#[]⟩),1,16):=by kernel_rfl
def strC (l:List ByteArray):List Value:=l.map Value.string
section
variable {w w1:World} {b:Nat} {u:Value} {l:List ByteArray}
theorem words_append (h:w.ownsRow (b+1) 9 1 u l.length (strC l)) (hb:b+1<=w.heap.size) (s:ByteArray) (hl:l.length<=100000) :
  ∃ u' w',(Builtin.append_ #[40,40] 40 #[u,.slice (some ⟨w.heap.size,0,none⟩) 1 1]).run Tryz.prog (w.alloc (.cells #[.string s] 9)) = .ok u' w'/\w'.ownsRow (b+1) 9 1 u' (l ++ [s]).length (strC (l ++ [s]))/\Below (b+1) w w':=by
 have hal:Below w.heap.size w (w.alloc (.cells #[.string s] 9)):=(Below.refl _ _).alloc (Nat.le_refl _) _
 have h1:=ownsRow_step h hal
 have X:=Bx.new 9 w #[.string s]
 obtain ⟨i0,hi,hz0,hz1,hz2⟩:=info_parts infoStr
 have hc:∀ j y,[Value.string s][j]? = some y->(w.alloc (.cells #[.string s] 9)).cell? ((⟨w.heap.size,0,none⟩:Addr).add j)=some y:=fun j y hj=>by
  rw [add_at,Nat.zero_add,X.cell];exact hj
 have h1c:∀ y ∈ [Value.string s],y.oneCell'=true:=fun y hy=>by rw [List.mem_singleton] at hy;subst hy;rfl
 have hs1:=hal.size
 obtain ⟨u',w',hrun,r1,r2,-⟩:=run_append_own (P:=Tryz.prog) (w.alloc (.cells #[.string s] 9)) (b+1) 40 40 9 i0 (.string ⟨#[]⟩) 1 16 Tryz.underlying40 hi hz0 hz1 hz2 rfl (by decide) u l.length (strC l) h1 ⟨w.heap.size,0,none⟩ 1 1 [.string s] (by simp) hc h1c (by unfold maxLen;omega) (by omega) (by omega)
 refine ⟨u',w',hrun,?_,?_⟩
 ·rw [show strC (l ++ [s])=strC l ++ [.string s] by simp [strC],List.length_append];exact r1
 ·exact Below.grown (hal.mono hb) r2 (by omega) (fun j hj=>(h1.lt j hj).1)
theorem step_append_runS {ops:Array Oper} {o:Oper} {a:Act} {w:World} {K:Act->World->Prop} {Q:Exit->Act->World->Prop} {E:Prop}
  (hg:o.guard=none) (s x:Operand) (hop:o.op=Op.call { callee:=Callee.builtin Builtin.append,args:=#[s,x],argTypes:=#[40,40] })
  (vs vx v':Value) (w':World) (hs:a.eval s=vs) (hx:a.eval x=vx) (hrun:(Builtin.append_ #[40,40] o.type #[vs,vx]).run Tryz.prog w = .ok v' w') (hK:K (a.put o.dst v') w') :
  if Region.wanted o (yielded ops a.tmps)=true then Oper.wp Tryz.prog o a w K Q else E:=by
 have hw:Region.wanted o (yielded ops a.tmps)=true:=by simp [Region.wanted,hg]
 rw [if_pos hw]
 unfold Oper.wp
 simp [execOp,hop,resolve,invoke,builtin,hs,hx,hrun,Result.andThen]
 exact hK
theorem tok_place {x:ByteArray} (hx:codeX x=0) (i:Nat) (hi:i<(toksX x).length):(toksX x)[i].2.1<=(toksX x)[i].2.2/\(toksX x)[i].2.2<=x.size:=by
 obtain ⟨-,l,hl,-,h⟩:=toks_of hx
 have e:(toksX x)[i]? = (l ++ [(0,x.size,x.size)])[i]?:=by rw [hl]
 rw [List.getElem?_eq_getElem hi] at e
 by_cases h1:i<l.length
 ·rw [List.getElem?_append_left h1,List.getElem?_eq_getElem h1] at e
  have e2:=Option.some.inj e
  rw [e2]
  have:=h i h1
  exact ⟨by have:=this.2.1;omega,this.2.2.1⟩
 ·have h2:i=l.length:=by rw [hl] at hi;simp at hi;omega
  subst h2
  rw [List.getElem?_append_right (Nat.le_refl _),Nat.sub_self] at e
  have e2:=Option.some.inj e
  rw [e2];exact ⟨Nat.le_refl _,Nat.le_refl _⟩
theorem words_set (h:w.ownsRow (b+1) 9 1 u l.length (strC l)) (j:Nat) (y:Value):(w.setCell ⟨b,j,none⟩ y).ownsRow (b+1) 9 1 u l.length (strC l):=by
 obtain ⟨q1,q2⟩:=h
 refine ⟨q1,?_⟩
 rcases q2 with q|⟨g,cap,cur,hv,hB,hg,q⟩
 ·exact .inl q
 ·refine .inr ⟨g,cap,cur,hv,hB,?_,q⟩
  rw [heap_setCell_other _ _ g y (by show g≠b;omega)];exact hg
theorem words_shape (h:w.ownsRow (b+1) 9 1 u l.length (strC l)):∃ s c,u = .slice s l.length c:=by
 rcases h.2 with ⟨rfl,h0⟩|⟨g,cap,cur,rfl,-⟩
 ·exact ⟨none,0,by rw [h0]⟩
 ·exact ⟨_,cap,rfl⟩
theorem words_at (h:w.ownsRow (b+1) 9 1 u l.length (strC l)) (h0:0<l.length):∃ g cap,u = .slice (some ⟨g,0,none⟩) l.length cap/\b<g/\g<w.heap.size/\WdAt w g l:=by
 have hh:=h
 rcases h.2 with ⟨rfl,q⟩|⟨g,cap,cur,rfl,hB,hg,-⟩
 ·omega
 ·refine ⟨g,cap,rfl,by omega,lt_block hg,fun i hi=>?_⟩
  have:=hh.cells (g:=g) rfl i (.string l[i]) (by simp [strC])
  rwa [add_at,Nat.zero_add] at this
end
theorem rd_start {x:ByteArray} {w:World} {b:Nat} {tv wv:Value} (hx:codeX x=0) (hb:Bx 107 w b [tv,wv,.int .i64 0,.int .i64 0,.int .i64 0,.int .i64 0,.slice none 0 0])
  (ht:∃ g cap,tv = .slice (some ⟨g,0,none⟩) (toksX x).length cap/\g<b/\L.TokAt w g 0 (toksX x)) (hw:w.ownsRow (b+1) 9 1 wv ((toksX x).map (wordX x)).length (strC ((toksX x).map (wordX x)))) :
  Rd (pcOf x) 0 b b tv wv ⟨0,0,0,[]⟩ ⟨.slice none 0 0,[]⟩ w:=by
 have hC:=pc_cw hx
 have hlt:=hb.lt
 have h0:=hC.some_
 have hlen:(pcOf x).toks.length=(toksX x).length:=rfl
 obtain ⟨g,cap,rfl,hg,htk⟩:=ht
 obtain ⟨gw,cw,rfl,hgw,hgl,hwd⟩:=words_at hw (by rw [List.length_map];rw [hlen] at h0;exact h0)
 have mine:∀ k,k<w.heap.size->k≠b->Mine b ⟨.slice none 0 0,[]⟩ w k:=fun k hk hne=>⟨hk,hne,by simp [Value.ownBlock],fun ⟨y,hy,_⟩=>by cases hy⟩
 refine ⟨⟨rfl,⟨Nat.le_refl _,?_,World.ownsRow_nil _ _ _ _,fun y hy=>by cases hy⟩⟩,by omega,⟨g,cap,rfl,mine g (by omega) (by omega),htk⟩,⟨gw,cw,by rw [List.length_map];rfl,mine gw hgl (by omega),hwd⟩,by show ((toksX x).map (wordX x)).length=_;rw [List.length_map];rfl,hC.long,h0,by simp,Nat.le_refl _,by simp,by omega,fun y hy=>by cases hy⟩
 exact hb
end Go.Proofs.YtfehpdliobapfaaGreatDoor
namespace Go.Proofs.YtfehpdliobapfaaGreatDoor
open Go Go.RowKit
def ParsePost (w:World) (R:List Nd × Nat × Int) (e:Ending) (w':World):Prop :=
 Below w.heap.size w w'/\∃ v root,e = .returned (.tuple #[.agg #[v,.int .i64 root],.agg #[.int .i64 (R.2.1:Nat),.int .i64 R.2.2]]) /\
  (R.2.1=0->root=(R.1.length:Int)-1/\NewNds w' w.heap.size v R.1/\0<R.1.length/\R.1.length<=8193/\∀ y ∈ R.1,goodN y=true)/\(R.2.1≠0->v = .slice none 0 0/\root=0)
theorem parse_any (x:ByteArray) (w:World) (hm:x.size<=maxLen):Calls Tryz.prog 15 #[.string x] w (ParsePost w (parsedX x)):=by
  have hmf:∀ (fn:Fn) (first cap:Array Value) (w:World),(Instr.makeFunc fn first cap).run Tryz.prog w = .ok (.func fn first cap) w:=fun _ _ _ _=>rfl
  go_enter_defers Tryz.func15,Tryz.ntmps15
  go_wp2_with fail
  refine (L.lex_any x _ hm).mono ?_
  rintro e w1 ⟨hb1,hok,hbad⟩
  obtain ⟨B1,T1,F1⟩:=new_two hb1
  have HB1:=Lib.hid B1
  have HT1:=Lib.hid T1
  have HF1:=Lib.hid F1
  obtain ⟨kT,hkT⟩:∃ kT,kT=w.heap.size:=⟨_,rfl⟩
  have HKT:=Lib.hid hkT
  by_cases hx:codeX x=0
  · obtain ⟨v1,rfl,⟨g,cap,rfl,hg1,hg2,hcap,hmx,htk⟩⟩:=hok hx
    have hxs:=(toks_of hx).1
    have hmost:(toksX x).length<=16385:=lex_most _ _
    have hg1':w.heap.size+2<=g:=by simpa using hg1
    obtain ⟨t0,t1,tl,tf⟩:=T1.two
    obtain ⟨f0,f1,fl,ff⟩:=F1.two
    have T2:=(T1.other (b':=w.heap.size+1) (by omega) 0 (.int .i64 0)).other (b':=w.heap.size+1) (by omega) 1 (.int .i64 0)
    have F2:=(F1.set 0 (.int .i64 0)).set 1 (.int .i64 0)
    have B2:Below w.heap.size w ((w1.setCell ⟨w.heap.size+1,0,none⟩ (.int .i64 0)).setCell ⟨w.heap.size+1,1,none⟩ (.int .i64 0)):=(B1.setCell (p:=⟨w.heap.size+1,0,none⟩) (by show w.heap.size<=w.heap.size+1;omega) _).setCell (p:=⟨w.heap.size+1,1,none⟩) (by show w.heap.size<=w.heap.size+1;omega) _
    have htk2:L.TokAt ((w1.setCell ⟨w.heap.size+1,0,none⟩ (.int .i64 0)).setCell ⟨w.heap.size+1,1,none⟩ (.int .i64 0)) g 0 (toksX x):=fun i hi=>by
      have hk:∀ o,((w1.setCell ⟨w.heap.size+1,0,none⟩ (.int .i64 0)).setCell ⟨w.heap.size+1,1,none⟩ (.int .i64 0)).cell? ⟨g,o,none⟩=w1.cell? ⟨g,o,none⟩:=fun o=>by
        apply World.cell?_of_block
        rw [heap_setCell_other _ _ g _ (by show g≠w.heap.size+1;omega),heap_setCell_other _ _ g _ (by show g≠w.heap.size+1;omega)]
      rw [hk,hk,hk];exact htk i hi
    have hs2:((w1.setCell ⟨w.heap.size+1,0,none⟩ (.int .i64 0)).setCell ⟨w.heap.size+1,1,none⟩ (.int .i64 0)).heap.size=w1.heap.size:=by simp
    obtain ⟨W2,hW2⟩:∃ W2,W2=(w1.setCell ⟨w.heap.size+1,0,none⟩ (.int .i64 0)).setCell ⟨w.heap.size+1,1,none⟩ (.int .i64 0):=⟨_,rfl⟩
    rw [<- hW2] at T2 F2 B2 htk2 hs2
    have HW2:=Lib.hid hW2
    have HS2:=Lib.hid hs2
    have HT2:=Lib.hid T2
    have HF2:=Lib.hid F2
    have HB2:=Lib.hid B2
    have HTK:=Lib.hid htk2
    have HX:=Lib.hid hx
    have HXS:=Lib.hid hxs
    have HMO:=Lib.hid hmost
    have HG1:=Lib.hid hg1'
    have HG2:Hid (g<W2.heap.size):=Lib.hid (by omega)
    have hnl:(L.lexG (L.byS x) x.size).1.length=(toksX x).length:=rfl
    rw [hnl]
    clear hok hbad hb1 B1 T1 F1 hx hxs hmost hg1 hg2 hg1' hcap hmx htk hW2 T2 F2 B2 htk2 hs2 hnl hkT
    generalize hn:(toksX x).length=n at *
    have HN:=Lib.hid hn
    have hn6:n<=16385:=HMO.out
    clear hn
    go_wp2_with fail
    rw [<- HW2.out]
    clear t0 t1 tl tf f0 f1 fl ff
    obtain ⟨b,hb⟩:∃ b,b=w1.heap.size:=⟨_,rfl⟩
    rw [<- hb]
    have hb2:b=W2.heap.size:=by rw [hb,HS2.out]
    have HBS:=Lib.hid hb2
    have XR:Bx 107 (W2.alloc (.cells #[.slice (some ⟨g,0,none⟩) n cap,.slice none 0 0,.int .i64 0,.int .i64 0,.int .i64 0,.int .i64 0,.slice none 0 0] 107)) b [.slice (some ⟨g,0,none⟩) n cap,.slice none 0 0,.int .i64 0,.int .i64 0,.int .i64 0,.int .i64 0,.slice none 0 0]:=by rw [hb2];exact Bx.new 107 W2 _
    have BR:Below b W2 (W2.alloc (.cells #[.slice (some ⟨g,0,none⟩) n cap,.slice none 0 0,.int .i64 0,.int .i64 0,.int .i64 0,.int .i64 0,.slice none 0 0] 107)):=(Below.refl _ _).alloc (by omega) _
    clear hb hb2
    go_loopg [23] n (fun k iv wr=>∃ (i:Nat) (u:Value),iv = .int .i64 (i:Nat)/\i+k=n/\Below b W2 wr/\Bx 107 wr b [.slice (some ⟨g,0,none⟩) n cap,u,.int .i64 0,.int .i64 0,.int .i64 0,.int .i64 0,.slice none 0 0]/\wr.ownsRow (b+1) 9 1 u (((toksX x).take i).map (wordX x)).length (strC (((toksX x).take i).map (wordX x))))
    case atStart=>exact ⟨0,_,rfl,by omega,BR,XR,World.ownsRow_nil _ _ _ _⟩
    case round =>
      clear XR BR
      obtain ⟨i,u,rfl,hik,hbl,hbx,how⟩:=hrel
      have HBL:=Lib.hid hbl
      have HBX:=Lib.hid hbx
      have HOW:=Lib.hid how
      clear hbl hbx how
      cases gk with
      | zero =>
        have hd:decide ((i:Int)<(n:Int))=false:=decide_eq_false (by omega)
        have hd2:¬ (i:Int)<(n:Int):=by omega
        have hd3:¬ i<n:=by omega
        have hd4:decide (i<n)=false:=decide_eq_false hd3
        have hin:i=n:=by omega
        have how2:wr.ownsRow (b+1) 9 1 u ((toksX x).map (wordX x)).length (strC ((toksX x).map (wordX x))):=by
          have:=HOW.out
          rwa [List.take_of_length_le (by have:=HN.out;omega)] at this
        have hgb:g<b:=by have:=HG2.out;have:=HBS.out;omega
        have htv:∃ g' cap',(.slice (some ⟨g,0,none⟩) n cap:Value) = .slice (some ⟨g',0,none⟩) (toksX x).length cap'/\g'<b/\L.TokAt wr g' 0 (toksX x):=⟨g,cap,by rw [HN.out],hgb,HTK.out.below HBL.out hgb⟩
        have hkb:w.heap.size+1<b:=by have:=HG1.out;omega
        have T3:=HT2.out.keepB HBL.out (by omega)
        have F3:=HF2.out.keepB HBL.out hkb
        have HBWR:=Lib.hid (HB2.out.trans (HBL.out.mono (by omega)))
        have HP:=Lib.hid (program_any (rd_start HX.out HBX.out htv how2) (run_does (bB:=b) (b:=b) (pc_ck HX.out) (pc_ckn x) (pcOf x).fuel 0 (by unfold PC.fuel;have:=HMO.out;have:=HN.out;show 0+(20*(toksX x).length+40)<=_;omega)).2.1 (pc_ck HX.out) (parse_ends (pc_cw HX.out)))
        have HT3:=Lib.hid T3
        have HF3:=Lib.hid F3
        obtain ⟨us,uc,hu⟩:=words_shape how2
        subst hu
        clear how2 htv T3 F3 hin hik
        go_wp2_with fail
        refine HP.out.mono ?_
        rintro e w5 (⟨t,P',L',v',hp,rfl,hP,hL,hbd,hgd,hlen,hpos,hbB,hb5⟩|⟨c,z,hp,rfl,hb5⟩)
        · have E:=Lib.hid (parsed_ok HX.out hp)
          have hll:L'.length=t.made.length:=by rw [<- hL,List.length_map]
          have HTR:=Lib.hid (btreeR_any P' hP b b L' v' w5 hbd (by omega) (by omega) (fun y hy=>good_fit (hgd y (by rw [<- hL];exact hy))))
          have HT5:=Lib.hid (HT3.out.keepB hb5 (by omega))
          have HF5:=Lib.hid (HF3.out.keepB hb5 hkb)
          have HB5:=Lib.hid (HBWR.out.trans (hb5.mono (by omega)))
          have HGD:=Lib.hid hgd
          have HLN:=Lib.hid hlen
          have HPO:=Lib.hid hpos
          have HLL:=Lib.hid hll
          have HL:=Lib.hid hL
          have br:=bx_last hP hbd.box
          have bl:=hbd.box.lt
          clear hp hP hL hbd hgd hlen hpos hbB hb5 hll
          go_wp2_with fail
          refine HTR.out.mono ?_
          rintro e w6 ⟨s6,c6,rfl,hb6,hn6⟩
          have HN6:=Lib.hid hn6
          have HT6:=Lib.hid (HT5.out.keep hb6)
          have HF6:=Lib.hid (HF5.out.keep hb6)
          have HB6:=Lib.hid (after HB5.out hb6)
          obtain ⟨t0,t1,tl,tf⟩:=HT6.out.two
          obtain ⟨f0,f1,fl,ff⟩:=HF6.out.two
          clear hb6 hn6
          go_wp2_with fail
          have hne:w.heap.size≠w.heap.size+1:=by omega
          have T7:=(((HT6.out.set 0 (.slice s6 L'.length c6)).set 1 (.int .i64 ((L'.length:Int)-1))).other hne 0 (.int .i64 0)).other hne 1 (.int .i64 0)
          have F7:=(((HF6.out.other (Ne.symm hne) 0 (.slice s6 L'.length c6)).other (Ne.symm hne) 1 (.int .i64 ((L'.length:Int)-1))).set 0 (.int .i64 0)).set 1 (.int .i64 0)
          have F6b:=(HF6.out.other (Ne.symm hne) 0 (.slice s6 L'.length c6)).other (Ne.symm hne) 1 (.int .i64 ((L'.length:Int)-1))
          have N7:=((HN6.out.mono (B':=w.heap.size) (by have:=HB5.out.size;omega)).set2 (u:=.slice s6 L'.length c6) (u':=.int .i64 ((L'.length:Int)-1)) HT6.out)
          have N8:=(N7.setB (o:=0) (u:=.int .i64 0) F6b (by decide) (by decide)).setB (o:=1) (u:=.int .i64 0) (F6b.set 0 (.int .i64 0)) (by decide) (by decide)
          have B7:=(((HB6.out.setCell (p:=⟨w.heap.size,0,none⟩) (Nat.le_refl _) (.slice s6 L'.length c6)).setCell (p:=⟨w.heap.size,1,none⟩) (Nat.le_refl _) (.int .i64 ((L'.length:Int)-1))).setCell (p:=⟨w.heap.size+1,0,none⟩) (Nat.le_succ _) (.int .i64 0)).setCell (p:=⟨w.heap.size+1,1,none⟩) (Nat.le_succ _) (.int .i64 0)
          refine leaves_cons (f:=58) (args:=#[.pointer (some ⟨w.heap.size,0,none⟩),.pointer (some ⟨w.heap.size+1,0,none⟩)]) (by simp) (by simp [go_sem]) ?_
          generalize (((w6.setCell ⟨w.heap.size,0,none⟩ (.slice s6 L'.length c6)).setCell ⟨w.heap.size,1,none⟩ (.int .i64 ((L'.length:Int)-1))).setCell ⟨w.heap.size+1,0,none⟩ (.int .i64 0)).setCell ⟨w.heap.size+1,1,none⟩ (.int .i64 0)=W7 at *
          refine (catch_none _ _ _).mono ?_
          rintro e u' w'' ⟨rfl,rfl,o,rfl⟩
          have hal:Below W7.heap.size W7 (W7.alloc o):=(Below.refl _ _).alloc (Nat.le_refl _) _
          obtain ⟨t0,t1,-,-⟩:=(T7.keep hal).two
          obtain ⟨f0,f1,-,-⟩:=(F7.keep hal).two
          have tl8:=(T7.keep hal).lt
          have fl8:=(F7.keep hal).lt
          refine ⟨.tuple #[.agg #[.slice s6 L'.length c6,.int .i64 ((L'.length:Int)-1)],.agg #[.int .i64 0,.int .i64 0]],by simp [results,Tryz.results15,go_sem,t0,t1,f0,f1,tl8,fl8],?_⟩
          rw [E.out]
          exact ⟨after B7 hal,_,_,rfl,fun _=>⟨by rw [HLL.out],by rw [<- HL.out];have e:=N8.step hal;rw [List.length_map] at e;exact e,HPO.out,HLN.out,HGD.out⟩,fun h=>absurd rfl h⟩
        · have E:=Lib.hid (parsed_bad HX.out hp)
          have HT5:=Lib.hid (HT3.out.keepB hb5 (by omega))
          have HF5:=Lib.hid (HF3.out.keepB hb5 hkb)
          have HB5:=Lib.hid (HBWR.out.trans (hb5.mono (by omega)))
          have hc0:c≠0:=parse_code hp
          clear hp hb5
          go_wp2_with fail
          refine leaves_cons (f:=58) (args:=#[.pointer (some ⟨w.heap.size,0,none⟩),.pointer (some ⟨w.heap.size+1,0,none⟩)]) (by simp) (by simp [go_sem]) ?_
          refine (catch_thrown w.heap.size (w.heap.size+1) (c:Int) z _ _ _ _ w5 HT5.out HF5.out (by omega)).mono ?_
          rintro e u' w'' ⟨rfl,rfl,hT8,hF8,hB8⟩
          obtain ⟨t0,t1,tl8,-⟩:=hT8.two
          obtain ⟨f0,f1,fl8,-⟩:=hF8.two
          refine ⟨.tuple #[.agg #[.slice none 0 0,.int .i64 0],.agg #[.int .i64 (c:Nat),.int .i64 z]],by simp [results,Tryz.results15,go_sem,t0,t1,f0,f1,tl8,fl8],?_⟩
          rw [E.out]
          exact ⟨HB5.out.trans (hB8 _ (Nat.le_refl _) (Nat.le_succ _) HB5.out.size),_,_,rfl,fun h=>absurd h hc0,fun _=>⟨rfl,rfl⟩⟩
      | succ gk =>
        have hin:i<n:=by omega
        have hd:decide ((i:Int)<(n:Int))=true:=decide_eq_true (by omega)
        have hi2:i<(toksX x).length:=by have:=HN.out;omega
        have hwl:(((toksX x).take i).map (wordX x)).length=i:=by simp;omega
        obtain ⟨us,uc,hu⟩:=words_shape HOW.out
        rw [hwl] at hu
        subst hu
        obtain ⟨q0,q1,q2⟩:=HTK.out i hi2
        simp only [Nat.zero_add] at q0 q1 q2
        have hgb:g<b:=by have:=HG2.out;have:=HBS.out;omega
        rw [<- HBL.out.cell (p:=⟨g,i*3,none⟩) hgb] at q0
        rw [<- HBL.out.cell (p:=⟨g,i*3+1,none⟩) hgb] at q1
        rw [<- HBL.out.cell (p:=⟨g,i*3+2,none⟩) hgb] at q2
        obtain ⟨tk1,tk2⟩:=tok_place HX.out i hi2
        have HTW:Hid (((toksX x).take (i+1)).map (wordX x)=((toksX x).take i).map (wordX x) ++ [x.extract (toksX x)[i].2.1 (toksX x)[i].2.2]):=Lib.hid (by rw [List.take_add_one,List.getElem?_eq_getElem hi2,List.map_append];rfl)
        generalize (toksX x)[i]=tk at *
        obtain ⟨k0,k1,k2⟩:=tk
        simp only at q0 q1 q2 tk1 tk2 HTW
        have HS:=Lib.hid (fun (w2:World)=>L.say_any x k0 k1 k2 w2 HXS.out tk1 tk2)
        have hbs:=HBX.out.lt
        have hgl:g<wr.heap.size:=by omega
        have i0:(0:Int)<=(i:Int):=by omega
        have i1:(i:Int)<(n:Int):=by omega
        have i3:IntKind.i64.wrap ((i:Int)+1)=(i:Int)+1:=IntWalk.i64_in _ ⟨by omega,by omega⟩
        have X3:=Lib.hid (Bx.new 109 wr #[.int .i64 (k0:Nat),.int .i64 (k1:Nat),.int .i64 (k2:Nat)])
        have hal:Below wr.heap.size wr (wr.alloc (.cells #[.int .i64 (k0:Nat),.int .i64 (k1:Nat),.int .i64 (k2:Nat)] 109)):=(Below.refl _ _).alloc (Nat.le_refl _) _
        have HBX3:=Lib.hid (HBX.out.keep hal)
        have HOW3:=Lib.hid (ownsRow_step HOW.out hal)
        have HBL3:=Lib.hid (HBL.out.trans (hal.mono (Nat.le_of_lt hbs)))
        obtain ⟨W3,hW3⟩:∃ W3,W3=wr.alloc (.cells #[.int .i64 (k0:Nat),.int .i64 (k1:Nat),.int .i64 (k2:Nat)] 109):=⟨_,rfl⟩
        rw [<- hW3] at X3 HBX3 HOW3 HBL3
        have HW3:=Lib.hid hW3
        clear hal hW3 hi2 tk1 tk2
        go_wp2_with fail
        rw [<- HW3.out]
        clear q0 q1 q2
        have r1:=HBX3.out.cell 1
        have rl:=HBX3.out.lt
        have rf:=HBX3.out.frozen 1
        have x0:=X3.out.cell 0
        have x1:=X3.out.cell 1
        have x2:=X3.out.cell 2
        have xl:=X3.out.lt
        simp only [List.getElem?_cons_zero,List.getElem?_cons_succ] at r1 x0 x1 x2
        refine wp_noPanic ?_
        go_region_law (first
          | (refine step_append_runS rfl (.tmp 28) (.tmp 32) rfl _ _ _ _ (by simp [Act.eval]) (by simp [Act.eval]) HAP.out ?_
             have z1:=HBX6.out.cell 1
             have zl:=HBX6.out.lt
             have zf:=HBX6.out.frozen 1
             simp only [List.getElem?_cons_zero,List.getElem?_cons_succ] at z1)
          | (go_simp
             go_at_call 59
             refine (HS.out _).mono ?_
             rintro e W5 ⟨rfl,hb5⟩
             have hbd:Below W3.heap.size W3 W5:=after ((Below.refl W3.heap.size W3).drew) hb5
             obtain ⟨u6,W6,hap,ow6,hb6⟩:=words_append (ownsRow_step HOW3.out hbd) (by have:=hbd.size;have:=HBX3.out.lt;omega) (x.extract k1 k2) (by rw [hwl];omega)
             obtain ⟨us6,uc6,hu6⟩:=words_shape ow6
             have HBX5:=Lib.hid (HBX3.out.keep hbd)
             have HBX6:=Lib.hid (HBX5.out.keepB hb6 (Nat.lt_succ_self b))
             have HBL6:=Lib.hid ((HBL3.out.trans (hbd.mono (Nat.le_of_lt HBX3.out.lt))).trans (hb6.mono (Nat.le_succ b)))
             rw [<- HTW.out] at hu6 ow6
             obtain ⟨n6,hn6⟩:∃ n6,n6=(((toksX x).take (i+1)).map (wordX x)).length:=⟨_,rfl⟩
             rw [<- hn6] at hu6
             have HN6:=Lib.hid hn6
             clear hn6
             subst hu6
             have HAP:=Lib.hid hap
             have HOW6:=Lib.hid ow6
             have y1:=HBX5.out.cell 1
             have yl:=HBX5.out.lt
             have yf:=HBX5.out.frozen 1
             simp only [List.getElem?_cons_zero,List.getElem?_cons_succ] at y1
             clear hbd hb5 hap ow6 hb6))
        all_goals
          dsimp only [NoPanic]
          go_wp2_with fail
          go_roundg gk
          case measure=>omega
          case rel=>exact ⟨i+1,_,rfl,by omega,HBL6.out.setCell (p:=⟨b,1,none⟩) (Nat.le_refl _) _,HBX6.out.set 1 _,words_set HOW6.out 1 _⟩
  · have he:e = .returned (.tuple #[.slice none 0 0,.agg #[.int .i64 (codeX x:Nat),.int .i64 ((L.lexG (L.byS x) x.size).2.2:Nat)]]):=hbad hx
    subst he
    have E:=Lib.hid (parsed_lex hx)
    have p0:((codeX x:Int) != 0)=true:=by simp;omega
    have HX:=Lib.hid hx
    obtain ⟨t0,t1,tl,tf⟩:=T1.two
    obtain ⟨f0,f1,fl,ff⟩:=F1.two
    have T2:=(T1.other (b':=w.heap.size+1) (by omega) 0 (.int .i64 (codeX x:Nat))).other (b':=w.heap.size+1) (by omega) 1 (.int .i64 ((L.lexG (L.byS x) x.size).2.2:Nat))
    have F2:=(F1.set 0 (.int .i64 (codeX x:Nat))).set 1 (.int .i64 ((L.lexG (L.byS x) x.size).2.2:Nat))
    clear hok hbad hb1 B1 T1 F1 hx
    generalize codeX x=code at *
    generalize (L.lexG (L.byS x) x.size).2.2=pos at *
    obtain ⟨W2,hW2⟩:∃ W2,W2=(w1.setCell ⟨w.heap.size+1,0,none⟩ (.int .i64 (code:Nat))).setCell ⟨w.heap.size+1,1,none⟩ (.int .i64 (pos:Nat)):=⟨_,rfl⟩
    rw [<- hW2] at T2 F2
    have HW2:=Lib.hid hW2
    have B2:Below w.heap.size w W2:=by
      rw [hW2]
      exact (HB1.out.setCell (p:=⟨w.heap.size+1,0,none⟩) (by show w.heap.size<=w.heap.size+1;omega) _).setCell (p:=⟨w.heap.size+1,1,none⟩) (by show w.heap.size<=w.heap.size+1;omega) _
    have HB2:=Lib.hid B2
    clear hW2 B2 hkT
    go_wp2_with fail
    rw [<- HW2.out]
    clear t0 t1 tl tf f0 f1 fl ff
    obtain ⟨t0,t1,tl,tf⟩:=T2.two
    obtain ⟨f0,f1,fl,ff⟩:=F2.two
    clear T2 F2
    go_region
    all_goals go_wp2_with fail
    all_goals refine ⟨.tuple #[.agg #[.slice none 0 0,.int .i64 0],.agg #[.int .i64 (code:Nat),.int .i64 (pos:Nat)]],by simp [results,Tryz.results15,go_sem,t0,t1,f0,f1,tl,fl],?_⟩
    all_goals rw [E.out]
    all_goals refine ⟨?_,_,_,rfl,fun h=>absurd h HX.out,fun _=>⟨rfl,rfl⟩⟩
    all_goals exact ((((HB2.out.setCell (p:=⟨w.heap.size,0,none⟩) (Nat.le_refl _) _).setCell (p:=⟨w.heap.size,1,none⟩) (Nat.le_refl _) _).setCell (p:=⟨w.heap.size+1,0,none⟩) (by show w.heap.size<=w.heap.size+1;omega) _).setCell (p:=⟨w.heap.size+1,1,none⟩) (by show w.heap.size<=w.heap.size+1;omega) _).drew
def nameF (x:ByteArray):Bool:=decide (0<x.size) && decide (x.size<=64) && L.letterB (L.byS x 0) && decide (L.skipG L.inWordB (L.byS x) x.size 0=x.size) && !(L.keptL.any fun l=>decide (x=⟨l.toArray⟩))
theorem name_fast (x:ByteArray):L.nameS x=nameF x:=by unfold L.nameS nameF L.keptS;simp only [tl_lit]
def pcF (x:ByteArray):PC:={ pcOf x with name:=nameF }
theorem pc_fast (x:ByteArray):pcOf x=pcF x:=by
 unfold pcOf pcF pcOf
 congr 1
 funext y
 exact name_fast y
section
variable {x:ByteArray} {W:List (Nat × List Nat)}
end
end Go.Proofs.YtfehpdliobapfaaGreatDoor
namespace Go.Proofs.YtfehpdliobapfaaGreatDoor.S
open Go Go.RowKit
def parsedF (x:ByteArray):List Nd × Nat × Int :=
 if codeX x≠0 then ([],codeX x,((L.lexG (L.byS x) x.size).2.2:Nat)) else
 match parseP (pcF x) with
 | .ok _ t=>(t.made,0,0)
 | .bad c z=>([],c,z)
 | .out=>([],0,0)
theorem parsed_fast (x:ByteArray):parsedX x=parsedF x:=by unfold parsedX parsedF;rw [pc_fast]<;>rfl
theorem parse_yes (x:ByteArray) (w:World) (hm:x.size<=maxLen) (h:(parsedX x).2=(0,0)):Calls Tryz.prog 15 #[.string x] w fun e w'=>Below w.heap.size w w'/\∃ s c,e = .returned (.tuple #[.agg #[.slice s (parsedX x).1.length c,.int .i64 (((parsedX x).1.length:Int)-1)],.agg #[.int .i64 0,.int .i64 0]])/\NewNds w' w.heap.size (.slice s (parsedX x).1.length c) (parsedX x).1/\(parsedX x).1.length<=8193:=by
 refine (parse_any x w hm).mono ?_
 rintro e w' ⟨hb,v,root,rfl,hy,-⟩
 have h1:(parsedX x).2.1=0:=by rw [h]
 have h2:(parsedX x).2.2=0:=by rw [h]
 obtain ⟨rfl,hn,h0,h3,h4⟩:=hy h1
 obtain ⟨s,c,hv,-⟩:=id hn.nds
 subst hv
 exact ⟨hb,s,c,by rw [h1,h2];rfl,hn,h3⟩
def fitB (x:Nd):Bool:=decide (x.kids.length<=17592186044416) && decide (x.ends.length<=17592186044416) && decide (x.text.size<=281474976710656) && decide (x.N.size<=281474976710656) && decide (x.M.size<=281474976710656)
theorem fit_of {l:List Nd} (h:l.all fitB=true):∀ x ∈ l,NdFit x:=fun x hx=>by
 have:=List.all_eq_true.1 h x hx
 unfold fitB at this
 simp only [Bool.and_eq_true,decide_eq_true_eq] at this
 obtain ⟨⟨⟨⟨a,b⟩,c⟩,d⟩,e⟩:=this
 exact ⟨a,b,c,d,e⟩
end Go.Proofs.YtfehpdliobapfaaGreatDoor.S
