/- For any text and any number,ScopeFinds returns true and leaves its arguments as they were. -/
import Derived.Test.YtfehpdliobapfaaGreatDoorFTyB
import Derived.Test.YtfehpdliobapfaaGreatDoorFTrPl
import Derived.Laws.IdiomCopy
import Derived.Laws.MakeOwn
import Derived.Laws.AppendOwn
import Derived.Outline
import Derived.Deep.RegionWith
set_option maxRecDepth 100000
set_option maxHeartbeats 4000000
set_option linter.unusedVariables false
set_option linter.unusedSimpArgs false
namespace Go.Proofs.YtfehpdliobapfaaGreatDoor
open Go Go.RowKit
theorem keep {w w1:World} {B o:Nat} {v:Value} (h:Below w.heap.size w w1) (hB:B<w.heap.size) (c:w.cell? ⟨B,o,none⟩=some v):w1.cell? ⟨B,o,none⟩=some v :=
 (h.cell (p:=⟨B,o,none⟩) hB).trans c
theorem add_at (b off j:Nat):(⟨b,off,none⟩:Addr).add j=⟨b,off+j,none⟩:=by unfold Addr.add;by_cases h:j=0<;>simp [h]
theorem lt_block {w:World} {b:Nat} {o:Obj} (h:w.heap[b]? = some o):b<w.heap.size:=(Array.getElem?_eq_some_iff.1 h).1
theorem cell_at {w:World} {g:Nat} {cur:Array Value} {T:TypeId} {fz:Nat × Nat} (h:w.heap[g]? = some (.cells cur T fz)) (j:Nat):w.cell? ⟨g,j,none⟩=cur[j]?:=cell_of_row w g j cur T fz h
def NumsAt (w:World) (b off:Nat) (l:List Int):Prop:=∀ i (h:i<l.length),w.cell? ⟨b,off+i,none⟩=some (.int .i64 l[i])
def NumsIn (w:World) (src:Option Addr) (l:List Int):Prop:=0<l.length->∃ b off,src=some ⟨b,off,none⟩/\b<w.heap.size/\NumsAt w b off l
def NumsV (w:World) (v:Value) (l:List Int):Prop:=∃ src cap,v = .slice src l.length cap/\NumsIn w src l
theorem NumsIn.step {w w':World} {src:Option Addr} {l:List Int} (h:NumsIn w src l) (hb:Below w.heap.size w w'):NumsIn w' src l:=fun h0=>by
 obtain ⟨b,off,h1,h2,h3⟩:=h h0
 exact ⟨b,off,h1,Nat.lt_of_lt_of_le h2 hb.size,fun i hi=>keep hb h2 (h3 i hi)⟩
theorem NumsV.step {w w':World} {v:Value} {l:List Int} (h:NumsV w v l) (hb:Below w.heap.size w w'):NumsV w' v l:=by
 obtain ⟨src,cap,h1,h2⟩:=h
 exact ⟨src,cap,h1,h2.step hb⟩
def ndL (x:Nd) (kv ev:Value):List Value:=[.int .i64 x.kind,.int .i64 x.sf,.int .i64 x.st,kv,.string x.text,.int .i64 x.B,.string x.N,.int .i64 x.D,.string x.M,.int .i64 x.num,.int .i64 x.wf,.int .i64 x.wt,ev]
structure NdAt (w:World) (b o:Nat) (x:Nd) (kv ev:Value):Prop where
 kids:NumsV w kv x.kids
 ends:NumsV w ev x.ends
 c0:w.cell? ⟨b,o,none⟩=some (.int .i64 x.kind)
 c1:w.cell? ⟨b,o+1,none⟩=some (.int .i64 x.sf)
 c2:w.cell? ⟨b,o+2,none⟩=some (.int .i64 x.st)
 c3:w.cell? ⟨b,o+3,none⟩=some kv
 c4:w.cell? ⟨b,o+4,none⟩=some (.string x.text)
 c5:w.cell? ⟨b,o+5,none⟩=some (.int .i64 x.B)
 c6:w.cell? ⟨b,o+6,none⟩=some (.string x.N)
 c7:w.cell? ⟨b,o+7,none⟩=some (.int .i64 x.D)
 c8:w.cell? ⟨b,o+8,none⟩=some (.string x.M)
 c9:w.cell? ⟨b,o+9,none⟩=some (.int .i64 x.num)
 c10:w.cell? ⟨b,o+10,none⟩=some (.int .i64 x.wf)
 c11:w.cell? ⟨b,o+11,none⟩=some (.int .i64 x.wt)
 c12:w.cell? ⟨b,o+12,none⟩=some ev
theorem NdAt.step {w w':World} {b o:Nat} {x:Nd} {kv ev:Value} (h:NdAt w b o x kv ev) (hB:b<w.heap.size) (hb:Below w.heap.size w w'):NdAt w' b o x kv ev :=
 ⟨h.kids.step hb,h.ends.step hb,keep hb hB h.c0,keep hb hB h.c1,keep hb hB h.c2,keep hb hB h.c3,keep hb hB h.c4,keep hb hB h.c5,keep hb hB h.c6,keep hb hB h.c7,keep hb hB h.c8,keep hb hB h.c9,keep hb hB h.c10,keep hb hB h.c11,keep hb hB h.c12⟩
theorem NdAt.of_list {w:World} {b o:Nat} {x:Nd} {kv ev:Value} (h1:NumsV w kv x.kids) (h2:NumsV w ev x.ends) (h:∀ j u,(ndL x kv ev)[j]? = some u->w.cell? ⟨b,o+j,none⟩=some u):NdAt w b o x kv ev :=
 ⟨h1,h2,h 0 _ rfl,h 1 _ rfl,h 2 _ rfl,h 3 _ rfl,h 4 _ rfl,h 5 _ rfl,h 6 _ rfl,h 7 _ rfl,h 8 _ rfl,h 9 _ rfl,h 10 _ rfl,h 11 _ rfl,h 12 _ rfl⟩
theorem NdAt.list {w:World} {b o:Nat} {x:Nd} {kv ev:Value} (h:NdAt w b o x kv ev):∀ j u,(ndL x kv ev)[j]? = some u->w.cell? ⟨b,o+j,none⟩=some u:=by
 intro j u hj
 obtain ⟨-,-,c0,c1,c2,c3,c4,c5,c6,c7,c8,c9,c10,c11,c12⟩:=h
 unfold ndL at hj
 match j,hj with
 | 0,hj=>simp at hj;subst hj;exact c0
 | 1,hj=>simp at hj;subst hj;exact c1
 | 2,hj=>simp at hj;subst hj;exact c2
 | 3,hj=>simp at hj;subst hj;exact c3
 | 4,hj=>simp at hj;subst hj;exact c4
 | 5,hj=>simp at hj;subst hj;exact c5
 | 6,hj=>simp at hj;subst hj;exact c6
 | 7,hj=>simp at hj;subst hj;exact c7
 | 8,hj=>simp at hj;subst hj;exact c8
 | 9,hj=>simp at hj;subst hj;exact c9
 | 10,hj=>simp at hj;subst hj;exact c10
 | 11,hj=>simp at hj;subst hj;exact c11
 | 12,hj=>simp at hj;subst hj;exact c12
 | j+13,hj=>simp at hj
def NdsAt (w:World) (b off:Nat) (l:List Nd):Prop:=∀ i (h:i<l.length),∃ kv ev,NdAt w b (off+i*13) l[i] kv ev
def NdsIn (w:World) (src:Option Addr) (l:List Nd):Prop:=0<l.length->∃ b off,src=some ⟨b,off,none⟩/\b<w.heap.size/\NdsAt w b off l
def NdsV (w:World) (v:Value) (l:List Nd):Prop:=∃ src cap,v = .slice src l.length cap/\NdsIn w src l
theorem NdsAt.step {w w':World} {b off:Nat} {l:List Nd} (h:NdsAt w b off l) (hB:b<w.heap.size) (hb:Below w.heap.size w w'):NdsAt w' b off l:=fun i hi=>by
 obtain ⟨kv,ev,h1⟩:=h i hi
 exact ⟨kv,ev,h1.step hB hb⟩
theorem NdsIn.step {w w':World} {src:Option Addr} {l:List Nd} (h:NdsIn w src l) (hb:Below w.heap.size w w'):NdsIn w' src l:=fun h0=>by
 obtain ⟨b,off,h1,h2,h3⟩:=h h0
 exact ⟨b,off,h1,Nat.lt_of_lt_of_le h2 hb.size,h3.step h2 hb⟩
theorem NdsV.step {w w':World} {v:Value} {l:List Nd} (h:NdsV w v l) (hb:Below w.heap.size w w'):NdsV w' v l:=by
 obtain ⟨src,cap,h1,h2⟩:=h
 exact ⟨src,cap,h1,h2.step hb⟩
theorem NdsV.nil (w:World):NdsV w (.slice none 0 0) []:=⟨none,0,rfl,fun h=>absurd h (by simp)⟩
def numC (l:List Int):List Value:=l.map (Value.int .i64)
def NewNums (w:World) (B:Nat) (v:Value) (l:List Int):Prop :=
 (l=[]/\v = .slice none 0 0)\/(0<l.length/\∃ g,v = .slice (some ⟨g,0,none⟩) l.length l.length/\B<=g/\w.heap[g]? = some (.cells (numC l).toArray 3 (0,0)))
theorem NewNums.nums {w:World} {B:Nat} {v:Value} {l:List Int} (h:NewNums w B v l):NumsV w v l:=by
 rcases h with ⟨rfl,rfl⟩|⟨h0,g,rfl,hB,hg⟩
 ·exact ⟨none,0,rfl,fun h=>absurd h (by simp)⟩
 ·refine ⟨some ⟨g,0,none⟩,l.length,rfl,fun _=>⟨g,0,rfl,lt_block hg,fun i hi=>?_⟩⟩
  rw [cell_at hg,Nat.zero_add]
  simp [numC,hi]
theorem NewNums.mono {w:World} {B B':Nat} {v:Value} {l:List Int} (h:NewNums w B v l) (hB:B'<=B):NewNums w B' v l:=by
 rcases h with h|⟨h0,g,h1,h2,h3⟩
 ·exact .inl h
 ·exact .inr ⟨h0,g,h1,Nat.le_trans hB h2,h3⟩
theorem NewNums.kept {w w':World} {B:Nat} {v:Value} {l:List Int} (h:NewNums w B v l) (hk:∀ g cur,w.heap[g]? = some (.cells cur 3 (0,0))->B<=g->w'.heap[g]? = w.heap[g]?):NewNums w' B v l:=by
 rcases h with h|⟨h0,g,h1,h2,h3⟩
 ·exact .inl h
 ·exact .inr ⟨h0,g,h1,h2,by rw [hk g _ h3 h2];exact h3⟩
theorem NewNums.step {w w':World} {B:Nat} {v:Value} {l:List Int} (h:NewNums w B v l) (hb:Below w.heap.size w w'):NewNums w' B v l :=
 h.kept fun g cur hg _=>hb.block g (lt_block hg)
theorem row_set {T:TypeId} {fz:Nat × Nat} (g:Nat):∀ (vs:List Value) (o:Nat) (w:World) (cur:Array Value),w.heap[g]? = some (.cells cur T fz) ->
  ∃ cur',(w.setCells g o vs).heap[g]? = some (.cells cur' T fz)/\cur'.size=cur.size/\(∀ j,j<vs.length->o+j<cur.size->cur'[o+j]? = vs[j]?)/\(∀ i,(i<o\/o+vs.length<=i)->cur'[i]? = cur[i]?)
 | [],o,w,cur,h=>⟨cur,h,rfl,fun j hj=>absurd hj (by simp),fun i _=>rfl⟩
 | v :: vs,o,w,cur,h=>by
  have h1:(w.setCell ⟨g,o,none⟩ v).heap[g]? = some (.cells (cur.setIfInBounds o v) T fz):=by
   simp only [World.setCell,Array.getElem?_modify,if_pos,h,Option.map_some]
   rfl
  obtain ⟨cur',a1,a2,a3,a4⟩:=row_set g vs (o+1) (w.setCell ⟨g,o,none⟩ v) _ h1
  refine ⟨cur',a1,by rw [a2];simp,?_,?_⟩
  ·intro j hj hjs
   match j with
   | 0 =>
    rw [a4 _ (.inl (by omega)),Nat.add_zero,Array.getElem?_setIfInBounds,if_pos rfl,if_pos (by omega)]
    rfl
   | j+1 =>
    have:=a3 j (by simpa using hj) (by rw [Array.size_setIfInBounds];omega)
    rw [show o+(j+1)=o+1+j by omega,this]
    simp
  ·intro i hi
   rw [a4 i (by simp at hi;omega)]
   rw [Array.getElem?_setIfInBounds,if_neg (by simp at hi;omega)]
theorem row_fill {T:TypeId} {fz:Nat × Nat} (g:Nat) (vs:List Value) (w:World) (cur:Array Value) (h:w.heap[g]? = some (.cells cur T fz)) (hn:cur.size=vs.length) :
  (w.setCells g 0 vs).heap[g]? = some (.cells vs.toArray T fz):=by
 obtain ⟨cur',a1,a2,a3,-⟩:=row_set g vs 0 w cur h
 rw [a1]
 congr 2
 apply Array.ext_getElem?
 intro i
 by_cases hi:i<vs.length
 ·have:=a3 i hi (by omega)
  rw [Nat.zero_add] at this
  rw [this];simp
 ·rw [Array.getElem?_eq_none (by omega),Array.getElem?_eq_none (by simp;omega)]
theorem fill_below {B:Nat} (g:Nat) (hg:B<=g):∀ (vs:List Value) (o:Nat) (w:World),Below B w (w.setCells g o vs)
 | [],o,w=>Below.refl _ _
 | v :: vs,o,w=>((Below.refl B w).setCell (p:=⟨g,o,none⟩) hg v).trans (fill_below g hg vs (o+1) _)
theorem infoInt:(Tryz.prog.info? 3).map (fun i=>(i.zero,i.size,i.bytes))=some (some (.int .i64 0),1,8):=by kernel_rfl
theorem infoNode:(Tryz.prog.info? 61).map (fun i=>(i.zero,i.size,i.bytes))=some (some (.agg #[.int .i64 0,.int .i64 0,.int .i64 0,.slice none 0 0,.string ⟨#[]⟩,.int .i64 0,.string ⟨#[]⟩,.int .i64 0,.string ⟨#[]⟩,.int .i64 0,.int .i64 0,.int .i64 0,.slice none 0 0]),13,160):=by kernel_rfl
theorem run_copy_size {P:Program} (s:Nat) (w:World) (dT sT ty elem:TypeId) (b o dLen dCap:Nat) (a:Addr) (sLen sCap k:Nat) (cs:List Value)
  (hu:P.underlying dT=some (.slice elem)) (hs:(P.info? elem).map (·.size)=some s) (hk:Nat.min sLen dLen=k) (hn:cs.length=k*s)
  (hsrc:∀ j v,cs[j]? = some v->w.cell? (a.add j)=some v) (hc:∀ j,j<cs.length->(w.cell? ⟨b,o+j,none⟩).isSome=true) (hf:∀ j,j<cs.length->w.frozen? ⟨b,o+j,none⟩=false) (h1:∀ v ∈ cs,v.oneCell'=true) :
  (Builtin.copy_ #[dT,sT] ty #[.slice (some ⟨b,o,none⟩) dLen dCap,.slice (some a) sLen sCap]).run P w = .ok (goInt k) (w.setCells b o cs):=by
 have hl:=run_loadCells_list (P:=P) w a cs hsrc
 have hst:=run_storeCells_cells (P:=P) b o cs 0 w (by simpa using hc) (by simpa using hf) h1
 rw [hn] at hl
 cases hq:P.info? elem with
 | none=>simp [hq] at hs
 | some i =>
  have hi:i.size=s:=by simpa [hq] using hs
  simp [Builtin.copy_,run_underlying hu,Builtin.lenOf,Builtin.firstCells,sizeOf,typeInfo,hq,hi,hk,hl,hst]
theorem make_copy {P:Program} (s:Nat) (w:World) (sT elem tI:TypeId) (i:TypeInfo) (z:Value) (hu:P.underlying sT=some (.slice elem)) (hi:P.info? elem=some i) (hz:i.zero=some z) (hs:i.size=s)
  (n cap:Nat) (a:Addr) (cs:List Value) (hn:cs.length=n*s) (h0:a.block<w.heap.size) (hsrc:∀ j v,cs[j]? = some v->w.cell? (a.add j)=some v) (h1:∀ v ∈ cs,v.oneCell'=true) (hb:i.bytes*n<=281474976710656) (hm:n<=maxLen) :
  ∃ W1 W2,(Instr.makeSlice sT (.int .i64 (n:Int)) (.int .i64 (n:Int))).run P w = .ok (.slice (some ⟨w.heap.size,0,none⟩) n n) W1 /\
   (Builtin.copy_ #[sT,sT] tI #[.slice (some ⟨w.heap.size,0,none⟩) n n,.slice (some a) n cap]).run P W1 = .ok (goInt n) W2 /\
   Below w.heap.size w W2/\W2.heap[w.heap.size]? = some (.cells cs.toArray elem (0,0)):=by
 have hr:=run_make (P:=P) w sT elem i z hu hi hz .i64 .i64 n n (by omega) (Int.le_refl _) (by
  have h:((i.bytes*n:Nat):Int)<=281474976710656:=by omega
  rwa [Int.natCast_mul] at h) (by unfold maxLen at hm;omega)
 simp only [Int.toNat_natCast] at hr
 have hb1:Below w.heap.size w (w.alloc (.cells (madeCells z.cells (n*i.size)) elem)):=(Below.refl _ _).alloc (Nat.le_refl _) _
 have hh:=heap_alloc_new w (.cells (madeCells z.cells (n*i.size)) elem)
 refine ⟨_,_,hr,run_copy_size s _ sT sT tI elem w.heap.size 0 n n a n cap n cs hu (by rw [hi];simp [hs]) (Nat.min_self n) hn ?_ ?_ ?_ h1,hb1.trans (fill_below _ (Nat.le_refl _) _ _ _),row_fill _ cs _ _ hh (by rw [size_madeCells,hs,hn])⟩
 ·intro j v hj
  rw [<- hsrc j v hj]
  exact hb1.cell (p:=a.add j) (by unfold Addr.add;split<;>exact h0)
 ·intro j hj
  rw [Nat.zero_add,cell_of_row _ _ _ _ _ _ hh,Array.getElem?_eq_getElem (by rw [size_madeCells,hs];omega)]
  rfl
 ·intro j hj
  unfold World.frozen?
  rw [hh]
  simp
theorem listI_any (src:Option Addr) (cap:Nat) (l:List Int) (w:World) (hl:l.length<=17592186044416) (hr:NumsIn w src l) :
  Calls Tryz.prog 187 #[.slice src l.length cap] w fun e w'=>∃ s c,e = .returned (.slice s l.length c)/\Below w.heap.size w w'/\NewNums w' w.heap.size (.slice s l.length c) l:=by
 by_cases h0:l.length=0
 ·have hl0:=List.eq_nil_of_length_eq_zero h0
  subst hl0
  clear h0 hl hr
  go_enter Tryz.func187,Tryz.ntmps187
  go_wp2_with fail
  go_ret
  exact ⟨_,_,rfl,Below.refl _ _,.inl ⟨rfl,rfl⟩⟩
 ·obtain ⟨b,off,rfl,hb,hrow⟩:=hr (by omega)
  obtain ⟨i0,hi,hz0,hz1,hz2⟩:=info_parts infoInt
  obtain ⟨W1,W2,hmk,hcp,hbel,hblk⟩:=make_copy (P:=Tryz.prog) 1 w 57 3 3 i0 (.int .i64 0) Tryz.underlying57 hi hz0 hz1 l.length cap ⟨b,off,none⟩ (numC l) (by simp [numC]) hb
   (fun j v hj=>by
    rw [add_at]
    obtain ⟨hj1,hj2⟩:=List.getElem?_eq_some_iff.1 hj
    have hj3:j<l.length:=by simpa [numC] using hj1
    rw [hrow j hj3,<- hj2];simp [numC])
   (fun v hv=>by
    obtain ⟨x,-,rfl⟩:=List.mem_map.1 hv
    rfl) (by rw [hz2];omega) (by unfold maxLen;omega)
  have HB:=Lib.hid hbel
  have HN:Hid (NewNums W2 w.heap.size (.slice (some ⟨w.heap.size,0,none⟩) l.length l.length) l):=Lib.hid (.inr ⟨by omega,w.heap.size,rfl,Nat.le_refl _,hblk⟩)
  have i1:¬ (l.length:Int)=0:=by omega
  clear hr hrow hbel hblk
  generalize l.length=n at *
  go_enter Tryz.func187,Tryz.ntmps187
  go_wp2_with fail
  go_ret
  exact ⟨_,_,rfl,HB.out,HN.out⟩
def BoxN (w:World) (b:Nat) (cs:List Value):Prop:=w.heap[b]? = some (.cells cs.toArray 61 (0,0))
theorem BoxN.keep {w w':World} {b:Nat} {cs:List Value} (h:BoxN w b cs) (hb:Below w.heap.size w w'):BoxN w' b cs:=by
 unfold BoxN at *;rw [hb.block b (lt_block h)];exact h
theorem BoxN.set {w:World} {b:Nat} {cs:List Value} (h:BoxN w b cs) (o:Nat) (v:Value):BoxN (w.setCell ⟨b,o,none⟩ v) b (cs.set o v):=by
 unfold BoxN at *
 rw [heap_setCell_same w b o _ _ v h]
 simp
theorem BoxN.other {w:World} {b b':Nat} {cs:List Value} (h:BoxN w b cs) (hne:b≠b') (o:Nat) (v:Value):BoxN (w.setCell ⟨b',o,none⟩ v) b cs:=by
 unfold BoxN at *
 rw [heap_setCell_other w _ b v (by simpa using hne)];exact h
theorem BoxN.lt {w:World} {b:Nat} {cs:List Value} (h:BoxN w b cs):b<w.heap.size:=lt_block h
theorem BoxN.cell {w:World} {b:Nat} {cs:List Value} (h:BoxN w b cs) (j:Nat):w.cell? ⟨b,j,none⟩=cs[j]?:=by
 rw [cell_at h];simp
theorem BoxN.frozen {w:World} {b:Nat} {cs:List Value} (h:BoxN w b cs) (j:Nat):w.frozen? ⟨b,j,none⟩=false:=by
 unfold World.frozen?
 rw [h]
 simp
theorem BoxN.alloc {w:World} {b:Nat} {cs:List Value} (h:BoxN w b cs) (o:Obj):BoxN (w.alloc o) b cs:=h.keep ((Below.refl _ _).alloc (Nat.le_refl _) _)
theorem BoxN.new (w:World) (cs:Array Value):BoxN (w.alloc (.cells cs 61)) w.heap.size cs.toList:=by
 unfold BoxN;rw [heap_alloc_new]
theorem BoxN.all {w:World} {b:Nat} {v0 v1 v2 v3 v4 v5 v6 v7 v8 v9 v10 v11 v12:Value} (h:BoxN w b [v0,v1,v2,v3,v4,v5,v6,v7,v8,v9,v10,v11,v12]) :
  (w.cell? ⟨b,0,none⟩=some v0/\w.cell? ⟨b,1,none⟩=some v1/\w.cell? ⟨b,2,none⟩=some v2/\w.cell? ⟨b,3,none⟩=some v3/\w.cell? ⟨b,4,none⟩=some v4/\w.cell? ⟨b,5,none⟩=some v5/\w.cell? ⟨b,6,none⟩=some v6/\w.cell? ⟨b,7,none⟩=some v7/\w.cell? ⟨b,8,none⟩=some v8/\w.cell? ⟨b,9,none⟩=some v9/\w.cell? ⟨b,10,none⟩=some v10/\w.cell? ⟨b,11,none⟩=some v11/\w.cell? ⟨b,12,none⟩=some v12)/\b<w.heap.size/\∀ j,w.frozen? ⟨b,j,none⟩=false :=
 ⟨⟨h.cell 0,h.cell 1,h.cell 2,h.cell 3,h.cell 4,h.cell 5,h.cell 6,h.cell 7,h.cell 8,h.cell 9,h.cell 10,h.cell 11,h.cell 12⟩,h.lt,h.frozen⟩
theorem boxes2 {w w1:World} {cs rs:Array Value} (h:Below ((w.alloc (.cells cs 61)).alloc (.cells rs 61)).heap.size ((w.alloc (.cells cs 61)).alloc (.cells rs 61)) w1) :
  Below w.heap.size w w1/\BoxN w1 w.heap.size cs.toList/\BoxN w1 (w.heap.size+1) rs.toList:=by
 have h1:Below w.heap.size w ((w.alloc (.cells cs 61)).alloc (.cells rs 61)):=((Below.refl _ _).alloc (Nat.le_refl _) _).alloc (by simp) _
 refine ⟨after h1 h,(((BoxN.new w cs).alloc _).keep h),?_⟩
 have h2:=BoxN.new (w.alloc (.cells cs 61)) rs
 simp only [World.size_alloc] at h2
 exact h2.keep h
theorem NewNums.set {w:World} {B b o:Nat} {v u:Value} {l:List Int} {cs:List Value} (h:NewNums w B v l) (hb:BoxN w b cs):NewNums (w.setCell ⟨b,o,none⟩ u) B v l :=
 h.kept fun g cur hg _=>heap_setCell_other w _ g u (fun e=>by
  simp at e
  subst e
  unfold BoxN at hb
  rw [hb] at hg
  simp at hg)
theorem NewNums.sets {B b:Nat} {v:Value} {l:List Int}:∀ (vs:List Value) (o:Nat) {w:World} {cs:List Value},NewNums w B v l->BoxN w b cs->NewNums (w.setCells b o vs) B v l
 | [],o,w,cs,h,_=>h
 | u :: vs,o,w,cs,h,hb=>NewNums.sets vs (o+1) (h.set hb) (hb.set o u)
theorem NewNums.sets' {B b:Nat} {v:Value} {l:List Int} {w:World} {cs:List Value} (h:NewNums w B v l) (hb:BoxN w b cs) (vs:List Value) (o:Nat):NewNums (w.setCells b o vs) B v l:=NewNums.sets vs o h hb
theorem nclone_any (kind sf st:Int) (kids:List Int) (text:ByteArray) (B:Int) (N:ByteArray) (D:Int) (M:ByteArray) (num wf wt:Int) (ends:List Int) (kv ev:Value) (w:World)
  (hk:NumsV w kv kids) (he:NumsV w ev ends) (lk:kids.length<=17592186044416) (le:ends.length<=17592186044416) (st1:text.size<=281474976710656) (sn:N.size<=281474976710656) (sm:M.size<=281474976710656) :
  Calls Tryz.prog 153 #[.agg #[.int .i64 kind,.int .i64 sf,.int .i64 st,kv,.string text,.int .i64 B,.string N,.int .i64 D,.string M,.int .i64 num,.int .i64 wf,.int .i64 wt,ev]] w fun e w'=>∃ s1 c1 s2 c2,e = .returned (.agg #[.int .i64 kind,.int .i64 sf,.int .i64 st,.slice s1 kids.length c1,.string text,.int .i64 B,.string N,.int .i64 D,.string M,.int .i64 num,.int .i64 wf,.int .i64 wt,.slice s2 ends.length c2])/\Below w.heap.size w w'/\NewNums w' w.heap.size (.slice s1 kids.length c1) kids/\NewNums w' w.heap.size (.slice s2 ends.length c2) ends:=by
 obtain ⟨ks,kc,rfl,hks⟩:=hk
 obtain ⟨es,ec,rfl,hes⟩:=he
 have HK:=Lib.hid (fun (w2:World) (hb:Below w.heap.size w w2)=>listI_any ks kc kids w2 lk (hks.step hb))
 have HE:=Lib.hid (fun (w2:World) (hb:Below w.heap.size w w2)=>listI_any es ec ends w2 le (hes.step hb))
 have HT:=Lib.hid (fun w=>clone_any text w st1)
 have HN:=Lib.hid (fun w=>clone_any N w sn)
 have HM:=Lib.hid (fun w=>clone_any M w sm)
 clear hks hes lk le st1 sn sm
 go_enter Tryz.func153,Tryz.ntmps153
 go_wp2_with fail
 refine (HK.out _ (by repeat (first|exact Below.refl _ _|apply Below.setCell _ (by first|omega|(simp<;>omega))|apply Below.alloc _ (by first|omega|(simp<;>omega))))).mono ?_
 rintro e w1 ⟨s1,c1,rfl,h01,n1⟩
 obtain ⟨hb1,x1,r1⟩:=boxes2 h01
 have B1:=Lib.hid hb1
 have X1:=Lib.hid x1
 have R1:=Lib.hid r1
 have N1:=Lib.hid (n1.mono (B':=w.heap.size) (by simp;omega))
 clear HK h01 n1 hb1 x1 r1
 obtain ⟨⟨a0,a1,a2,a3,a4,a5,a6,a7,a8,a9,a10,a11,a12⟩,al,af⟩:=X1.out.all
 go_wp2_with fail
 have HS:Hid (Below w.heap.size w (w1.setCell ⟨w.heap.size,3,none⟩ (.slice s1 kids.length c1))):=Lib.hid (B1.out.setCell (Nat.le_refl _) _)
 refine (HE.out _ HS.out).mono ?_
 rintro e w2 ⟨s2,c2,rfl,h12,n2⟩
 have N2:=Lib.hid (n2.mono (B':=w.heap.size) (by have:=HS.out.size;simpa using this))
 have B2:=Lib.hid (after HS.out h12)
 have X2:=Lib.hid ((X1.out.set 3 (.slice s1 kids.length c1)).keep h12)
 have R2:=Lib.hid ((R1.out.other (b':=w.heap.size) (by omega) 3 (.slice s1 kids.length c1)).keep h12)
 have N12:=Lib.hid ((N1.out.set (o:=3) (u:=(.slice s1 kids.length c1)) X1.out).step h12)
 clear a0 a1 a2 a3 a4 a5 a6 a7 a8 a9 a10 a11 a12 al af
 clear B1 X1 R1 N1 HS HE h12 n2
 have X1:=X2
 clear X2
 obtain ⟨⟨a0,a1,a2,a3,a4,a5,a6,a7,a8,a9,a10,a11,a12⟩,al,af⟩:=X1.out.all
 go_wp2_with fail
 have HS:Hid (Below w.heap.size w (w2.setCell ⟨w.heap.size,12,none⟩ (.slice s2 ends.length c2))):=Lib.hid (B2.out.setCell (Nat.le_refl _) _)
 refine (HT.out _).mono ?_
 rintro e w3 ⟨rfl,h12⟩
 have B3:=Lib.hid (after HS.out h12)
 have X0:=Lib.hid ((X1.out.set 12 (.slice s2 ends.length c2)).keep h12)
 have R3:=Lib.hid ((R2.out.other (b':=w.heap.size) (by omega) 12 (.slice s2 ends.length c2)).keep h12)
 have M1:=Lib.hid ((N12.out.set (o:=12) (u:=(.slice s2 ends.length c2)) X1.out).step h12)
 have M2:=Lib.hid ((N2.out.set (o:=12) (u:=(.slice s2 ends.length c2)) X1.out).step h12)
 clear a0 a1 a2 a3 a4 a5 a6 a7 a8 a9 a10 a11 a12 al af
 clear X1 B2 R2 HS h12 N12 N2
 have X1:=X0
 have N12:=M1
 have N2:=M2
 clear X0 M1 M2
 obtain ⟨⟨a0,a1,a2,a3,a4,a5,a6,a7,a8,a9,a10,a11,a12⟩,al,af⟩:=X1.out.all
 go_wp2_with fail
 have HS:Hid (Below w.heap.size w (w3.setCell ⟨w.heap.size,4,none⟩ (.string text))):=Lib.hid (B3.out.setCell (Nat.le_refl _) _)
 refine (HN.out _).mono ?_
 rintro e w4 ⟨rfl,h12⟩
 have B4:=Lib.hid (after HS.out h12)
 have X0:=Lib.hid ((X1.out.set 4 (.string text)).keep h12)
 have R4:=Lib.hid ((R3.out.other (b':=w.heap.size) (by omega) 4 (.string text)).keep h12)
 have M1:=Lib.hid ((N12.out.set (o:=4) (u:=(.string text)) X1.out).step h12)
 have M2:=Lib.hid ((N2.out.set (o:=4) (u:=(.string text)) X1.out).step h12)
 clear a0 a1 a2 a3 a4 a5 a6 a7 a8 a9 a10 a11 a12 al af
 clear X1 B3 R3 HS h12 N12 N2
 have X1:=X0
 have N12:=M1
 have N2:=M2
 clear X0 M1 M2
 obtain ⟨⟨a0,a1,a2,a3,a4,a5,a6,a7,a8,a9,a10,a11,a12⟩,al,af⟩:=X1.out.all
 go_wp2_with fail
 have HS:Hid (Below w.heap.size w (w4.setCell ⟨w.heap.size,6,none⟩ (.string N))):=Lib.hid (B4.out.setCell (Nat.le_refl _) _)
 refine (HM.out _).mono ?_
 rintro e w5 ⟨rfl,h12⟩
 have B5:=Lib.hid (after HS.out h12)
 have X0:=Lib.hid ((X1.out.set 6 (.string N)).keep h12)
 have R5:=Lib.hid ((R4.out.other (b':=w.heap.size) (by omega) 6 (.string N)).keep h12)
 have M1:=Lib.hid ((N12.out.set (o:=6) (u:=(.string N)) X1.out).step h12)
 have M2:=Lib.hid ((N2.out.set (o:=6) (u:=(.string N)) X1.out).step h12)
 clear a0 a1 a2 a3 a4 a5 a6 a7 a8 a9 a10 a11 a12 al af
 clear X1 B4 R4 HS h12 N12 N2
 have X1:=X0
 have N12:=M1
 have N2:=M2
 clear X0 M1 M2
 obtain ⟨⟨a0,a1,a2,a3,a4,a5,a6,a7,a8,a9,a10,a11,a12⟩,al,af⟩:=X1.out.all
 obtain ⟨⟨r0,r1,r2,r3,r4,r5,r6,r7,r8,r9,r10,r11,r12⟩,rl,rf⟩:=R5.out.all
 go_wp2_with fail
 have F1:=Lib.hid ((N12.out.set (o:=8) (u:=.string M) X1.out).sets' (R5.out.other (b':=w.heap.size) (by omega) 8 (.string M)) [.int .i64 kind,.int .i64 sf,.int .i64 st,(.slice s1 kids.length c1),.string text,.int .i64 B,.string N,.int .i64 D,.string M,.int .i64 num,.int .i64 wf,.int .i64 wt,(.slice s2 ends.length c2)] 0)
 have F2:=Lib.hid ((N2.out.set (o:=8) (u:=.string M) X1.out).sets' (R5.out.other (b':=w.heap.size) (by omega) 8 (.string M)) [.int .i64 kind,.int .i64 sf,.int .i64 st,(.slice s1 kids.length c1),.string text,.int .i64 B,.string N,.int .i64 D,.string M,.int .i64 num,.int .i64 wf,.int .i64 wt,(.slice s2 ends.length c2)] 0)
 have F3:=Lib.hid ((B5.out.setCell (p:=⟨w.heap.size,8,none⟩) (Nat.le_refl _) (.string M)).trans (fill_below (w.heap.size+1) (Nat.le_succ _) [.int .i64 kind,.int .i64 sf,.int .i64 st,(.slice s1 kids.length c1),.string text,.int .i64 B,.string N,.int .i64 D,.string M,.int .i64 num,.int .i64 wf,.int .i64 wt,(.slice s2 ends.length c2)] 0 _))
 refine bodyPost_ret (v:=.agg #[.int .i64 kind,.int .i64 sf,.int .i64 st,.slice s1 kids.length c1,.string text,.int .i64 B,.string N,.int .i64 D,.string M,.int .i64 num,.int .i64 wf,.int .i64 wt,.slice s2 ends.length c2]) (by simp [results,Tryz.results153,go_sem,r0,r1,r2,r3,r4,r5,r6,r7,r8,r9,r10,r11,r12]) rfl ?_
 exact ⟨s1,c1,s2,c2,rfl,F3.out,F1.out,F2.out⟩
abbrev NdR:=Nd × Value × Value
def ndC (y:NdR):List Value:=ndL y.1 y.2.1 y.2.2
def flatN (L:List NdR):List Value:=L.flatMap ndC
theorem ndC_len (y:NdR):(ndC y).length=13:=rfl
theorem flatN_len:∀ L:List NdR,(flatN L).length=L.length*13
 | []=>rfl
 | y :: L=>by
  have:=flatN_len L
  unfold flatN at *
  rw [List.flatMap_cons,List.length_append,this,ndC_len,List.length_cons];omega
theorem flatN_app (K L:List NdR):flatN (K ++ L)=flatN K ++ flatN L:=by unfold flatN;rw [List.flatMap_append]
theorem flatN_at:∀ (L:List NdR) (i:Nat) (h:i<L.length) (j:Nat),j<13->(flatN L)[i*13+j]? = (ndC L[i])[j]?
 | [],i,h,j,hj=>absurd h (by simp)
 | y :: L,0,h,j,hj=>by
  unfold flatN
  rw [List.flatMap_cons,Nat.zero_mul,Nat.zero_add,List.getElem?_append_left (by rw [ndC_len];exact hj)];rfl
 | y :: L,i+1,h,j,hj=>by
  have:=flatN_at L i (by simpa using h) j hj
  unfold flatN at *
  rw [List.flatMap_cons,List.getElem?_append_right (by rw [ndC_len];omega),ndC_len,show (i+1)*13+j-13=i*13+j by omega,this]
  rfl
theorem flatN_in {L:List NdR} {m:Nat} {u:Value} (h:(flatN L)[m]? = some u):∃ (hi:m / 13<L.length),(ndC L[m / 13])[m % 13]? = some u:=by
 have hm:=(List.getElem?_eq_some_iff.1 h).1
 rw [flatN_len] at hm
 have hi:m / 13<L.length:=by omega
 refine ⟨hi,?_⟩
 rw [<- flatN_at L (m / 13) hi (m % 13) (by omega),show m / 13*13+m % 13=m by omega]
 exact h
def RowOk (w:World) (L:List NdR):Prop:=∀ y ∈ L,NumsV w y.2.1 y.1.kids/\NumsV w y.2.2 y.1.ends
theorem RowOk.step {w w':World} {L:List NdR} (h:RowOk w L) (hb:Below w.heap.size w w'):RowOk w' L:=fun y hy=>⟨(h y hy).1.step hb,(h y hy).2.step hb⟩
theorem RowOk.one {w:World} {L:List NdR} (h:RowOk w L):∀ u ∈ flatN L,u.oneCell'=true:=by
 intro u hu
 obtain ⟨y,hy,hu⟩:=List.mem_flatMap.1 hu
 obtain ⟨⟨s1,c1,h1,-⟩,⟨s2,c2,h2,-⟩⟩:=h y hy
 unfold ndC ndL at hu
 rw [h1,h2] at hu
 simp only [List.mem_cons,List.not_mem_nil,or_false] at hu
 rcases hu with rfl|rfl|rfl|rfl|rfl|rfl|rfl|rfl|rfl|rfl|rfl|rfl|rfl<;>rfl
def RowAt (w:World) (src:Option Addr) (L:List NdR):Prop:=0<L.length->∃ b off,src=some ⟨b,off,none⟩/\b<w.heap.size/\∀ m u,(flatN L)[m]? = some u->w.cell? ⟨b,off+m,none⟩=some u
theorem RowAt.step {w w':World} {src:Option Addr} {L:List NdR} (h:RowAt w src L) (hb:Below w.heap.size w w'):RowAt w' src L:=fun h0=>by
 obtain ⟨b,off,h1,h2,h3⟩:=h h0
 exact ⟨b,off,h1,Nat.lt_of_lt_of_le h2 hb.size,fun m u hm=>keep hb h2 (h3 m u hm)⟩
theorem row_list {α : Type} {Q:Nat -> α -> Prop} (n:Nat) (h:∀ i,i<n->∃ x,Q i x):∃ l:List α,l.length=n/\∀ i (hi:i<l.length),Q i l[i]:=by
 induction n with
 | zero=>exact ⟨[],rfl,fun i hi=>absurd hi (by simp)⟩
 | succ n ih =>
  obtain ⟨l,hl,hq⟩:=ih fun i hi=>h i (by omega)
  obtain ⟨x,hx⟩:=h n (by omega)
  refine ⟨l ++ [x],by simp [hl],fun i hi=>?_⟩
  by_cases hlt:i<l.length
  ·rw [List.getElem_append_left hlt];exact hq i hlt
  ·have hin:i=n:=by simp at hi;omega
   subst hin
   rw [List.getElem_append_right (by omega)]
   simpa [hl] using hx
theorem NdsV.rows {w:World} {v:Value} {l:List Nd} (h:NdsV w v l):∃ (L:List NdR) (src:Option Addr) (cap:Nat),L.map (·.1)=l/\v = .slice src L.length cap/\RowOk w L/\RowAt w src L:=by
 obtain ⟨src,cap,rfl,h1⟩:=h
 by_cases h0:0<l.length
 ·obtain ⟨b,off,rfl,hb,hat⟩:=h1 h0
  obtain ⟨L,hL,hq⟩:=row_list (Q:=fun i (y:NdR)=>∃ hi:i<l.length,y.1=l[i]/\NdAt w b (off+i*13) y.1 y.2.1 y.2.2) l.length (fun i hi=>by
   obtain ⟨kv,ev,h⟩:=hat i hi
   exact ⟨(l[i],kv,ev),hi,rfl,h⟩)
  refine ⟨L,_,cap,?_,by rw [hL],?_,fun _=>⟨b,off,rfl,hb,?_⟩⟩
  ·apply List.ext_getElem (by simp [hL])
   intro i h2 h3
   rw [List.getElem_map]
   obtain ⟨hi2,h4,_⟩:=hq i (by simpa using h2)
   exact h4
  ·intro y hy
   obtain ⟨i,hi,rfl⟩:=List.getElem_of_mem hy
   obtain ⟨hi2,_,h4⟩:=hq i hi
   exact ⟨h4.kids,h4.ends⟩
  ·intro m u hm
   obtain ⟨hi,hu⟩:=flatN_in hm
   obtain ⟨hi2,_,h4⟩:=hq (m / 13) hi
   have:=h4.list (m % 13) u hu
   rwa [show off+m / 13*13+m % 13=off+m by omega] at this
 ·have hl:l=[]:=List.eq_nil_of_length_eq_zero (by omega)
  subst hl
  exact ⟨[],src,cap,rfl,rfl,(fun y hy=>by cases hy),fun h=>absurd h (by simp)⟩
theorem rows_nds {w:World} {src:Option Addr} {cap:Nat} {L:List NdR} (h1:RowOk w L) (h2:RowAt w src L):NdsV w (.slice src L.length cap) (L.map (·.1)):=by
 refine ⟨src,cap,by simp,fun h0=>?_⟩
 obtain ⟨b,off,h3,h4,h5⟩:=h2 (by simpa using h0)
 refine ⟨b,off,h3,h4,fun i hi=>?_⟩
 have hi':i<L.length:=by simpa using hi
 refine ⟨L[i].2.1,L[i].2.2,?_⟩
 rw [List.getElem_map]
 obtain ⟨k1,k2⟩:=h1 _ (List.getElem_mem hi')
 refine NdAt.of_list k1 k2 fun j u hj=>?_
 have hj13:j<13:=(List.getElem?_eq_some_iff.1 hj).1
 have:=h5 (i*13+j) u (by rw [flatN_at L i hi' j hj13];exact hj)
 rwa [show off+i*13+j=off+(i*13+j) by omega]
structure NdFit (x:Nd):Prop where
 kids:x.kids.length<=17592186044416
 ends:x.ends.length<=17592186044416
 text:x.text.size<=281474976710656
 N:x.N.size<=281474976710656
 M:x.M.size<=281474976710656
def RowNew (w:World) (B:Nat) (L:List NdR):Prop:=∀ y ∈ L,NewNums w B y.2.1 y.1.kids/\NewNums w B y.2.2 y.1.ends
theorem RowNew.ok {w:World} {B:Nat} {L:List NdR} (h:RowNew w B L):RowOk w L:=fun y hy=>⟨(h y hy).1.nums,(h y hy).2.nums⟩
theorem RowNew.step {w w':World} {B:Nat} {L:List NdR} (h:RowNew w B L) (hb:Below w.heap.size w w'):RowNew w' B L:=fun y hy=>⟨(h y hy).1.step hb,(h y hy).2.step hb⟩
theorem RowNew.mono {w:World} {B B':Nat} {L:List NdR} (h:RowNew w B L) (hB:B'<=B):RowNew w B' L:=fun y hy=>⟨(h y hy).1.mono hB,(h y hy).2.mono hB⟩
def NewNds (w:World) (B:Nat) (v:Value) (l:List Nd):Prop :=
 (l=[]/\v = .slice none 0 0)\/(0<l.length/\∃ (g:Nat) (L:List NdR),v = .slice (some ⟨g,0,none⟩) l.length l.length/\B<=g/\L.map (·.1)=l/\BoxN w g (flatN L)/\RowNew w B L)
theorem NewNds.nds {w:World} {B:Nat} {v:Value} {l:List Nd} (h:NewNds w B v l):NdsV w v l:=by
 rcases h with ⟨rfl,rfl⟩|⟨h0,g,L,rfl,hB,rfl,hg,hn⟩
 ·exact NdsV.nil w
 ·have:=rows_nds (w:=w) (src:=some ⟨g,0,none⟩) (cap:=L.length) (L:=L) hn.ok (fun _=>⟨g,0,rfl,hg.lt,fun m u hm=>by rw [Nat.zero_add,hg.cell];exact hm⟩)
  simpa using this
theorem NewNds.step {w w':World} {B:Nat} {v:Value} {l:List Nd} (h:NewNds w B v l) (hb:Below w.heap.size w w'):NewNds w' B v l:=by
 rcases h with h|⟨h0,g,L,h1,h2,h3,h4,h5⟩
 ·exact .inl h
 ·exact .inr ⟨h0,g,L,h1,h2,h3,h4.keep hb,h5.step hb⟩
theorem NewNds.mono {w:World} {B B':Nat} {v:Value} {l:List Nd} (h:NewNds w B v l) (hB:B'<=B):NewNds w B' v l:=by
 rcases h with h|⟨h0,g,L,h1,h2,h3,h4,h5⟩
 ·exact .inl h
 ·exact .inr ⟨h0,g,L,h1,Nat.le_trans hB h2,h3,h4,h5.mono hB⟩
theorem listN_any (src:Option Addr) (cap:Nat) (L:List NdR) (w:World) (hl:L.length<=1099511627776) (ho:RowOk w L) (hr:RowAt w src L) :
  Calls Tryz.prog 156 #[.slice src L.length cap] w fun e w'=>Below w.heap.size w w' /\
   ((L=[]/\e = .returned (.slice none 0 0))\/(0<L.length/\e = .returned (.slice (some ⟨w.heap.size,0,none⟩) L.length L.length)/\BoxN w' w.heap.size (flatN L))):=by
 by_cases h0:L.length=0
 ·have hl0:=List.eq_nil_of_length_eq_zero h0
  subst hl0
  clear h0 hl hr ho
  go_enter Tryz.func156,Tryz.ntmps156
  go_wp2_with fail
  go_ret
  exact ⟨Below.refl _ _,.inl ⟨by trivial,rfl⟩⟩
 ·obtain ⟨b,off,rfl,hb,hrow⟩:=hr (by omega)
  obtain ⟨i0,hi,hz0,hz1,hz2⟩:=info_parts infoNode
  obtain ⟨W1,W2,hmk,hcp,hbel,hblk⟩:=make_copy (P:=Tryz.prog) 13 w 23 61 3 i0 _ Tryz.underlying23 hi hz0 hz1 L.length cap ⟨b,off,none⟩ (flatN L) (flatN_len L) hb
   (fun j v hj=>by rw [add_at];exact hrow j v hj) ho.one (by rw [hz2];omega) (by unfold maxLen;omega)
  have HB:=Lib.hid hbel
  have HN:Hid (BoxN W2 w.heap.size (flatN L)):=Lib.hid hblk
  have i1:¬ (L.length:Int)=0:=by omega
  have HP:Hid (0<L.length):=Lib.hid (by omega)
  clear hr hrow hbel hblk ho
  have HC:=Lib.hid hcp
  generalize hn:L.length=n at *
  clear hcp
  have hcp:=HC.out
  clear HC
  go_enter Tryz.func156,Tryz.ntmps156
  go_wp2_with fail
  go_ret
  exact ⟨HB.out,.inr ⟨HP.out,rfl,HN.out⟩⟩
end Go.Proofs.YtfehpdliobapfaaGreatDoor
