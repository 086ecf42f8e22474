/- ScopeRaw: what is wrong with nodes that are no program or no method. -/
import Derived.Test.YtgegiianlkpefaaGreatDoorRScMD
import Derived.ProofKit
import Derived.OpenShut
import Derived.Lib.SmallJoins
import Derived.Deep.Slices
import Derived.Deep.Fields
import Derived.ChangeSame
import Derived.SizedLaws
set_option linter.unusedVariables false
set_option linter.unusedSimpArgs false
namespace Go.Proofs.YtgegiianlkpefaaGreatDoor
open Go Go.RowKit
open Go.ChangeShapes Go.WideShapes Go.ChangeAt Go.Joins Go.Deep
theorem list_of {α : Type} (Q : Nat -> α -> Prop) (n : Nat) (h : ∀ i,i < n -> ∃ x,Q i x) : ∃ l : List α,l.length = n /\ ∀ i (hi : i < l.length),Q i l[i]:=by
 induction n with
 | zero=>exact ⟨[],rfl,fun i hi=>absurd hi (by simp)⟩
 | succ n ih =>
  obtain ⟨l,hl,hq⟩:=ih fun i hi=>h i (by omega)
  obtain ⟨x,hx⟩:=h n (by omega)
  refine ⟨l ++ [x],by simp [hl],fun i hi=>?_⟩
  by_cases hlt : i < l.length
  ·rw [List.getElem_append_left hlt];exact hq i hlt
  ·have hin : i = n:=by simp at hi;omega
   subst hin
   rw [List.getElem_append_right (by omega)]
   simpa [hl] using hx
theorem weights_all {H : Type} {P : Program} {e : TypeId} : ∀ {l : List (DataW H)} {d : DataW H},d ∈ l -> ∀ n ∈ d.weights P e,n ∈ DataW.weightsAll P e l
 | d' :: r,d,hd,n,hn=>by
  simp only [DataW.weightsAll,List.mem_append]
  rcases List.mem_cons.1 hd with rfl | h
  ·exact Or.inl hn
  ·exact Or.inr (weights_all h n hn)
section
variable {H : Type} {enc : TypeId × Value -> H} {P : Program} {w : World} {base : Nat} {spare : Nat -> Bool} {held : Bool}
def Light (P : Program) (t : TypeId) (d : DataW H) : Prop:=∀ n ∈ d.weights P t,n <= reachBytes
theorem trod_nums {tI tIs : TypeId} (ht : P.underlying tIs = some (.slice tI)) (hI : P.underlying tI = some (.int .i64)) (hC : P.cellsOf tI = 1) {n : Nat} {c : Value} {y : DataW H × List MemPlace}
  (h : DataW.trod enc P w base spare held n tIs [c] = some y) : ∃ l,NumsV w c l /\ (∀ x ∈ l,(Lit.int .i64 x).wf = true) /\ l.length <= maxLen /\ (Light P tIs y.1 -> l.length * P.bytesOf tI <= reachBytes):=by
 rcases open_slice ht h with ⟨hcs,-⟩ | ⟨a,len,cap,m,k,D,Pl,hcs,hb,hl,hm,hmm,hy,hall⟩
 ·simp at hcs
  subst hcs
  exact ⟨[],⟨none,0,rfl,fun h=>absurd h (by simp)⟩,fun x hx=>by simp at hx,Nat.zero_le _,fun _=>by simp⟩
 ·simp at hcs
  subst hcs
  have hml : len <= m:=by rw [hmm];split <;> omega
  have hw : ∀ l : List Int,l.length = len -> Light P tIs y.1 -> l.length * P.bytesOf tI <= reachBytes:=by
   intro l hl' hL
   have h0 : ((List.range len).map D).length * P.bytesOf tI <= (((List.range len).map D).length + ((List.range (m - len)).map fun j=>D (len + j)).length) * P.bytesOf tI:=Nat.mul_le_mul_right _ (Nat.le_add_right _ _)
   have h1:=hL ((((List.range len).map D).length + ((List.range (m - len)).map fun j=>D (len + j)).length) * P.bytesOf tI) (by
    rw [hy];simp only [DataW.weights,ht];exact List.mem_cons_self)
   rw [hl']
   have h2 : ((List.range len).map D).length = len:=by simp
   rw [h2] at h0 h1
   omega
  by_cases h0 : len = 0
  ·subst h0
   exact ⟨[],⟨some a,cap,rfl,fun h=>absurd h (by simp)⟩,fun x hx=>by simp at hx,Nat.zero_le _,hw [] rfl⟩
  ·have key : ∀ j,j < len -> ∃ x : Int,w.cell? (a.add j) = some (.int .i64 x) /\ (Lit.int .i64 x).wf = true:=by
    intro j hj
    obtain ⟨cs',hc,ht'⟩:=hall j (by omega)
    rw [hC] at hc
    obtain ⟨-,hcl,hat⟩:=World.cells?_some hc
    match cs',hcl with
    | [c0],_ =>
     obtain ⟨x,r0,-,wx⟩:=DataW.trod_int hI ht'
     simp at r0
     subst r0
     have w0:=hat 0 (by omega)
     rw [Nat.mul_one] at w0
     exact ⟨x,w0,wx⟩
   obtain ⟨b,off,spot⟩:=a
   obtain ⟨x0,z0,-⟩:=key 0 (by omega)
   have hs : spot = none:=by simpa [Addr.add] using World.cell?_spot z0
   subst hs
   have hlt : b < w.heap.size:=by
    by_cases hb : b < w.heap.size
    ·exact hb
    ·simp [World.cell?,Addr.add,Array.getElem?_eq_none (show w.heap.size <= b by omega)] at z0
   obtain ⟨l,hll,hq⟩:=list_of (fun j (x : Int)=>w.cell? ⟨b,off + j,none⟩ = some (.int .i64 x) /\ (Lit.int .i64 x).wf = true) len (fun j hj=>by
    obtain ⟨x,g0,g1⟩:=key j hj
    rw [add_at] at g0
    exact ⟨x,g0,g1⟩)
   refine ⟨l,⟨some ⟨b,off,none⟩,cap,by rw [hll],fun _=>⟨b,off,rfl,hlt,fun i hi=>(hq i hi).1⟩⟩,fun x hx=>?_,by omega,hw l hll⟩
   obtain ⟨i,hi,rfl⟩:=List.getElem_of_mem hx
   exact (hq i hi).2
theorem trod_span2 {tS tI : TypeId} {g0 g1 : Field} (hS : P.underlying tS = some (.struct #[g0,g1])) (hI : P.underlying tI = some (.int .i64)) (hC : P.cellsOf tI = 1) (h0 : g0.type = tI) (h1 : g1.type = tI) (o0 : g0.offset = 0) (o1 : g1.offset = 1)
  {n : Nat} {c0 c1 : Value} {y : DataW H × List MemPlace} (h : DataW.trod enc P w base spare held n tS [c0,c1] = some y) : ∃ a b,c0 = .int .i64 a /\ c1 = .int .i64 b:=by
 obtain ⟨z0,z1,n'',-,-,q0,q1⟩:=trod_struct2 hS h
 rw [o0,h0,hC] at q0
 rw [o1,h1,hC] at q1
 obtain ⟨a,r0,-,-⟩:=DataW.trod_int hI q0
 obtain ⟨b,r1,-,-⟩:=DataW.trod_int hI q1
 simp at r0 r1
 exact ⟨a,b,r0,r1⟩
theorem trod_type4 {tY tI tT : TypeId} {g0 g1 g2 g3 : Field} (hY : P.underlying tY = some (.struct #[g0,g1,g2,g3])) (hI : P.underlying tI = some (.int .i64)) (hT : P.underlying tT = some .string) (hC : P.cellsOf tI = 1) (hCT : P.cellsOf tT = 1)
  (h0 : g0.type = tI) (h1 : g1.type = tT) (h2 : g2.type = tI) (h3 : g3.type = tT) (o0 : g0.offset = 0) (o1 : g1.offset = 1) (o2 : g2.offset = 2) (o3 : g3.offset = 3)
  {n : Nat} {c0 c1 c2 c3 : Value} {y : DataW H × List MemPlace} (h : DataW.trod enc P w base spare held n tY [c0,c1,c2,c3] = some y) :
  ∃ (B : Int) (N : ByteArray) (D : Int) (M : ByteArray),c0 = .int .i64 B /\ c1 = .string N /\ c2 = .int .i64 D /\ c3 = .string M /\ N.size <= maxLen /\ M.size <= maxLen:=by
 obtain ⟨z0,z1,z2,z3,n'',-,-,q0,q1,q2,q3⟩:=trod_struct4 hY h
 rw [o0,h0,hC] at q0
 rw [o1,h1,hCT] at q1
 rw [o2,h2,hC] at q2
 rw [o3,h3,hCT] at q3
 obtain ⟨B,r0,-,-⟩:=DataW.trod_int hI q0
 obtain ⟨N,r1,-,s1⟩:=DataW.trod_string hT q1
 obtain ⟨D,r2,-,-⟩:=DataW.trod_int hI q2
 obtain ⟨M,r3,-,s3⟩:=DataW.trod_string hT q3
 simp at r0 r1 r2 r3
 exact ⟨B,N,D,M,r0,r1,r2,r3,s1,s3⟩
structure NdRead (x : Nd) : Prop where
 num : (Lit.int .i64 x.num).wf = true
 text : x.text.size <= maxLen
 N : x.N.size <= maxLen
 M : x.M.size <= maxLen
 kids : x.kids.length <= maxLen
 ends : x.ends.length * 8 <= reachBytes
structure NodeTypes (P : Program) (tN tI tS tIs tT tY t64 : TypeId) (fs : Array Field) (g0 g1 k0 k1 k2 k3 : Field) : Prop where
 hN : P.underlying tN = some (.struct fs)
 cN : P.cellsOf tN = 13
 len : fs.size = 8
 f0 : fs[0]?.map (fun f=>(f.type,f.offset)) = some (tI,0)
 f1 : fs[1]?.map (fun f=>(f.type,f.offset)) = some (tS,1)
 f2 : fs[2]?.map (fun f=>(f.type,f.offset)) = some (tIs,3)
 f3 : fs[3]?.map (fun f=>(f.type,f.offset)) = some (tT,4)
 f4 : fs[4]?.map (fun f=>(f.type,f.offset)) = some (tY,5)
 f5 : fs[5]?.map (fun f=>(f.type,f.offset)) = some (t64,9)
 f6 : fs[6]?.map (fun f=>(f.type,f.offset)) = some (tS,10)
 f7 : fs[7]?.map (fun f=>(f.type,f.offset)) = some (tIs,12)
 hS : P.underlying tS = some (.struct #[g0,g1])
 hY : P.underlying tY = some (.struct #[k0,k1,k2,k3])
 hIs : P.underlying tIs = some (.slice tI)
 hI : P.underlying tI = some (.int .i64)
 h64 : P.underlying t64 = some (.int .i64)
 hT : P.underlying tT = some .string
 cI : P.cellsOf tI = 1
 cS : P.cellsOf tS = 2
 cIs : P.cellsOf tIs = 1
 cT : P.cellsOf tT = 1
 cY : P.cellsOf tY = 4
 c64 : P.cellsOf t64 = 1
 bI : P.bytesOf tI = 8
 g0t : g0.type = tI /\ g0.offset = 0
 g1t : g1.type = tI /\ g1.offset = 1
 k0t : k0.type = tI /\ k0.offset = 0
 k1t : k1.type = tT /\ k1.offset = 1
 k2t : k2.type = tI /\ k2.offset = 2
 k3t : k3.type = tT /\ k3.offset = 3
theorem field_of {fs : Array Field} {i : Nat} {t : TypeId} {o : Nat} (h : fs[i]?.map (fun f=>(f.type,f.offset)) = some (t,o)) : ∃ f,fs[i]? = some f /\ f.type = t /\ f.offset = o:=by
 obtain ⟨f,h1,h2⟩:=Option.map_eq_some_iff.1 h
 simp at h2
 exact ⟨f,h1,h2.1,h2.2⟩
theorem trod_node {tN tI tS tIs tT tY t64 : TypeId} {fs : Array Field} {g0 g1 k0 k1 k2 k3 : Field} (T : NodeTypes P tN tI tS tIs tT tY t64 fs g0 g1 k0 k1 k2 k3)
  {n : Nat} {b o : Nat} {cs : List Value} {y : DataW H × List MemPlace} (h : DataW.trod enc P w base spare held n tN cs = some y) (hc : ∀ j u,cs[j]? = some u -> w.cell? ⟨b,o + j,none⟩ = some u) :
  ∃ x kv ev,NdAt w b o x kv ev /\ (Light P tN y.1 -> NdRead x):=by
 obtain ⟨xs,n',-,hy,hcl,hxl,hf⟩:=DataW.trod_struct T.hN h
 rw [T.cN] at hcl
 rw [T.len] at hxl
 match cs,hcl,xs,hxl with
 | [v0,v1,v2,v3,v4,v5,v6,v7,v8,v9,v10,v11,v12],_,[x0,x1,x2,x3,x4,x5,x6,x7],_ =>
  obtain ⟨F0,e0,t0,o0⟩:=field_of T.f0
  obtain ⟨F1,e1,t1,o1⟩:=field_of T.f1
  obtain ⟨F2,e2,t2,o2⟩:=field_of T.f2
  obtain ⟨F3,e3,t3,o3⟩:=field_of T.f3
  obtain ⟨F4,e4,t4,o4⟩:=field_of T.f4
  obtain ⟨F5,e5,t5,o5⟩:=field_of T.f5
  obtain ⟨F6,e6,t6,o6⟩:=field_of T.f6
  obtain ⟨F7,e7,t7,o7⟩:=field_of T.f7
  have q0:=hf 0 F0 e0
  have q1:=hf 1 F1 e1
  have q2:=hf 2 F2 e2
  have q3:=hf 3 F3 e3
  have q4:=hf 4 F4 e4
  have q5:=hf 5 F5 e5
  have q6:=hf 6 F6 e6
  have q7:=hf 7 F7 e7
  rw [t0,o0,T.cI] at q0
  rw [t1,o1,T.cS] at q1
  rw [t2,o2,T.cIs] at q2
  rw [t3,o3,T.cT] at q3
  rw [t4,o4,T.cY] at q4
  rw [t5,o5,T.c64] at q5
  rw [t6,o6,T.cS] at q6
  rw [t7,o7,T.cIs] at q7
  simp only [List.drop_succ_cons,List.drop_zero,List.take_succ_cons,List.take_zero,List.getElem?_cons_zero,List.getElem?_cons_succ] at q0 q1 q2 q3 q4 q5 q6 q7
  obtain ⟨kind,r0,-,-⟩:=DataW.trod_int T.hI q0
  obtain ⟨sf,st,r1,r2⟩:=trod_span2 T.hS T.hI T.cI T.g0t.1 T.g1t.1 T.g0t.2 T.g1t.2 q1
  obtain ⟨kids,hk,-,hkl,-⟩:=trod_nums T.hIs T.hI T.cI q2
  obtain ⟨text,r4,-,s4⟩:=DataW.trod_string T.hT q3
  obtain ⟨B,N,D,M,r5,r6,r7,r8,s6,s8⟩:=trod_type4 T.hY T.hI T.hT T.cI T.cT T.k0t.1 T.k1t.1 T.k2t.1 T.k3t.1 T.k0t.2 T.k1t.2 T.k2t.2 T.k3t.2 q4
  obtain ⟨num,r9,-,wn⟩:=DataW.trod_int T.h64 q5
  obtain ⟨wf,wt,r10,r11⟩:=trod_span2 T.hS T.hI T.cI T.g0t.1 T.g1t.1 T.g0t.2 T.g1t.2 q6
  obtain ⟨ends,he,-,-,hL⟩:=trod_nums T.hIs T.hI T.cI q7
  simp at r0 r4 r9
  subst r0 r1 r2 r4 r5 r6 r7 r8 r9 r10 r11
  refine ⟨⟨kind,sf,st,kids,text,B,N,D,M,num,wf,wt,ends⟩,v3,v12,NdAt.of_list hk he hc,fun hl=>⟨wn,s4,s6,s8,hkl,?_⟩⟩
  rw [T.bI] at hL
  apply hL
  intro m hm
  apply hl
  rw [hy]
  simp only [DataW.weights,T.hN]
  exact DataW.weights_mem_each (j:=7) (t:=tIs) (d:=x7.1) (by simp [e7,t7]) (by simp) m hm
theorem trod_nodes {tN tI tS tIs tT tY t64 tNs : TypeId} {fs : Array Field} {g0 g1 k0 k1 k2 k3 : Field} (T : NodeTypes P tN tI tS tIs tT tY t64 fs g0 g1 k0 k1 k2 k3) (hNs : P.underlying tNs = some (.slice tN))
  {n : Nat} {c : Value} {y : DataW H × List MemPlace} (h : DataW.trod enc P w base spare held n tNs [c] = some y) : ∃ l,NdsV w c l /\ l.length <= maxLen /\ (Light P tNs y.1 -> ∀ x ∈ l,NdRead x):=by
 rcases open_slice hNs h with ⟨hcs,-⟩ | ⟨a,len,cap,m,k,D,Pl,hcs,hb,hl,hm,hmm,hy,hall⟩
 ·simp at hcs
  subst hcs
  exact ⟨[],NdsV.nil w,Nat.zero_le _,fun _ x hx=>by simp at hx⟩
 ·simp at hcs
  subst hcs
  have hml : len <= m:=by rw [hmm];split <;> omega
  by_cases h0 : len = 0
  ·subst h0
   exact ⟨[],⟨some a,cap,rfl,fun h=>absurd h (by simp)⟩,Nat.zero_le _,fun _ x hx=>by simp at hx⟩
  ·obtain ⟨b,off,spot⟩:=a
   have hs : spot = none /\ b < w.heap.size:=by
    obtain ⟨cs',hc,-⟩:=hall 0 (by omega)
    rw [T.cN] at hc
    obtain ⟨-,hcl,hat⟩:=World.cells?_some hc
    have z0 : w.cell? (((⟨b,off,spot⟩ : Addr).add (0 * 13)).add 0) = some (cs'[0]'(by omega)):=by rw [hat 0 (by omega)];exact List.getElem?_eq_getElem _
    have hs : spot = none:=by simpa [Addr.add] using World.cell?_spot z0
    subst hs
    refine ⟨rfl,?_⟩
    by_cases hb : b < w.heap.size
    ·exact hb
    ·simp [World.cell?,Addr.add,Array.getElem?_eq_none (show w.heap.size <= b by omega)] at z0
   obtain ⟨rfl,hlt⟩:=hs
   obtain ⟨l,hll,hq⟩:=list_of (fun j (x : Nd)=>∃ kv ev,NdAt w b (off + j * 13) x kv ev /\ (Light P tN (D j) -> NdRead x)) len (fun j hj=>by
    obtain ⟨cs',hc,ht'⟩:=hall j (by omega)
    rw [T.cN] at hc
    obtain ⟨-,hcl,hat⟩:=World.cells?_some hc
    have hcc : ∀ i u,cs'[i]? = some u -> w.cell? ⟨b,off + j * 13 + i,none⟩ = some u:=by
     intro i u hi
     have hi' : i < 13:=by have:=(List.getElem?_eq_some_iff.1 hi).1;omega
     have:=hat i hi'
     rw [add_at,add_at] at this
     rw [this];exact hi
    obtain ⟨x,kv,ev,h1,h2⟩:=trod_node T ht' hcc
    exact ⟨x,kv,ev,h1,h2⟩)
   refine ⟨l,⟨some ⟨b,off,none⟩,cap,by rw [hll],fun _=>⟨b,off,rfl,hlt,fun i hi=>?_⟩⟩,by omega,fun hL x hx=>?_⟩
   ·obtain ⟨kv,ev,h1,-⟩:=hq i hi
    exact ⟨kv,ev,h1⟩
   ·obtain ⟨i,hi,rfl⟩:=List.getElem_of_mem hx
    obtain ⟨kv,ev,-,h2⟩:=hq i hi
    apply h2
    intro m' hm'
    apply hL
    rw [hy]
    simp only [DataW.weights,hNs]
    refine List.mem_cons_of_mem _ (List.mem_append_left _ (weights_all (d:=D i) ?_ m' hm'))
    exact List.mem_map.2 ⟨i,List.mem_range.2 (by omega),rfl⟩
def TreeV (w : World) (v : Value) (l : List Nd) (root : Int) : Prop:=∃ nv,v = .agg #[nv,.int .i64 root] /\ NdsV w nv l
theorem open_tree {tN tI tS tIs tT tY t64 tNs tT2 : TypeId} {fs : Array Field} {g0 g1 k0 k1 k2 k3 m0 m1 : Field} (T : NodeTypes P tN tI tS tIs tT tY t64 fs g0 g1 k0 k1 k2 k3) (hNs : P.underlying tNs = some (.slice tN))
  (hT2 : P.underlying tT2 = some (.struct #[m0,m1])) (hone : oneCellFields P #[m0,m1] = true) (hC : P.cellsOf tT2 = 2) (hm0 : m0.type = tNs) (hm1 : m1.type = tI) {r : Reach} {b0 : Nat} {v : Value} {d : DataW H} {p : List MemPlace}
  (hv : Value.okWide P w r b0 tT2 v) (h : DataW.Trod enc P w base spare held tT2 v d p) : ∃ l root,TreeV w v l root /\ l.length <= maxLen /\ (Light P tT2 d -> ∀ x ∈ l,NdRead x):=by
 obtain ⟨c0,c1,y0,y1,n,rfl,rfl,-,h0,h1⟩:=open_agg2 hT2 hone hC hv h
 rw [hm0] at h0
 rw [hm1] at h1
 obtain ⟨root,e1,-,-⟩:=DataW.trod_int T.hI h1
 simp at e1
 subst e1
 obtain ⟨l,h2,h3,h4⟩:=trod_nodes T hNs h0
 refine ⟨l,root,⟨c0,rfl,h2⟩,h3,fun hL=>h4 fun m hm=>hL m ?_⟩
 simp only [DataW.weights,hT2]
 exact DataW.weights_mem_each (j:=0) (t:=tNs) (d:=y0.1) (by simp [hm0]) (by simp) m hm
end
end Go.Proofs.YtgegiianlkpefaaGreatDoor
namespace Go.Proofs.YtgegiianlkpefaaGreatDoor.S
open Go Go.RowKit
structure FitR (x : Nd) : Prop where
 kids : x.kids.length <= 60
 text : x.text.size <= 100
 M : x.M.size <= 20
 N : x.N.size <= 100
theorem fit_read {x : Nd} (h : NdRead x) (hk : FitR x) : NdFit x:=⟨by have:=hk.kids;omega,by have:=h.ends;unfold reachBytes at this;omega,by have:=hk.text;omega,by have:=hk.N;omega,by have:=hk.M;omega⟩
theorem gt_dec {a : Nat} (b : Int) (h : b < (a : Int)) : decide ((a : Int) > b) = true /\ decide (b < (a : Int)) = true:=⟨decide_eq_true (by omega),decide_eq_true h⟩
theorem le_dec {a : Nat} (b : Int) (h : ¬ b < (a : Int)) : decide ((a : Int) > b) = false /\ decide (b < (a : Int)) = false:=⟨decide_eq_false (by omega),decide_eq_false h⟩
set_option maxRecDepth 100000 in
set_option maxHeartbeats 4000000 in
theorem raw_any {w : World} (v : Value) (l : List Nd) (root : Int) (tv : TreeV w v l root) (rd : ∀ x ∈ l,NdRead x) (node : Int) (wn : (Lit.int .i64 node).wf = true) (hT : ShTab w) :
  Calls Tryz.prog 11 #[v,.int .i64 node] w fun e w'=>e = .returned (.bool true) /\ Below w.heap.size w w':=by
 obtain ⟨nv,rfl,src,cap,rfl,hin⟩:=tv
 have HIN:=Lib.hid hin
 have HRD:=Lib.hid rd
 have HT:=Lib.hid hT
 have HNV : Hid (NdsV w (.slice src l.length cap) l):=Lib.hid ⟨src,cap,rfl,hin⟩
 obtain ⟨n,hnn⟩ : ∃ n,n = l.length:=⟨_,rfl⟩
 have HNN:=Lib.hid hnn
 rw [<- hnn] at HNV ⊢
 have HME:=Lib.hid (fun (W : World) (hb : Below w.heap.size w W)=>means_any W (hT.step hb))
 clear hin rd hT hnn
 by_cases hbig : 200 < n
 ·obtain ⟨q1,q2⟩:=gt_dec (a:=n) 200 (by omega)
  go_enter Tryz.func11,Tryz.ntmps11
  go_wp2_with fail
  have B0 : Hid (Below w.heap.size w (w.alloc (.cells #[.slice src n cap,.int .i64 root] 25))):=Lib.hid (by repeat (first | exact Below.refl _ _ | apply Below.setCell _ (by first | omega | (simp <;> omega)) | apply Below.alloc _ (by first | omega | (simp <;> omega))))
  have T0 : Hid (Bx 25 (w.alloc (.cells #[.slice src n cap,.int .i64 root] 25)) w.heap.size [.slice src n cap,.int .i64 root]):=Lib.hid (Bx.new 25 w _)
  refine (HME.out _ B0.out).mono ?_
  rintro e w1 ⟨rfl,hb1⟩
  have BB:=Lib.hid (after B0.out hb1)
  have T1:=Lib.hid (T0.out.keep hb1)
  clear hb1 B0 T0
  obtain ⟨t0,t1,tl,tf⟩:=T1.out.two
  go_wp2_with fail
  go_ret
  exact ⟨rfl,by first | exact BB.out | exact BB.out.alloc (by have:=BB.out.size;omega) _⟩
 ·obtain ⟨q1,q2⟩:=le_dec (a:=n) 200 (by omega)
  have q4 : n <= 200:=by omega
  go_enter Tryz.func11,Tryz.ntmps11
  go_wp2_with fail
  have B0 : Hid (Below w.heap.size w (w.alloc (.cells #[.slice src n cap,.int .i64 root] 25))):=Lib.hid (by repeat (first | exact Below.refl _ _ | apply Below.setCell _ (by first | omega | (simp <;> omega)) | apply Below.alloc _ (by first | omega | (simp <;> omega))))
  have T0 : Hid (Bx 25 (w.alloc (.cells #[.slice src n cap,.int .i64 root] 25)) w.heap.size [.slice src n cap,.int .i64 root]):=Lib.hid (Bx.new 25 w _)
  refine (HME.out _ B0.out).mono ?_
  rintro e w1 ⟨rfl,hb1⟩
  have BB:=Lib.hid (after B0.out hb1)
  have T1:=Lib.hid (T0.out.keep hb1)
  clear hb1 B0 T0
  obtain ⟨t0,t1,tl,tf⟩:=T1.out.two
  obtain ⟨t2,h2⟩ : ∃ t2,t2 = w.heap.size:=⟨_,rfl⟩
  have T1 : Hid (Bx 25 w1 t2 [.slice src n cap,.int .i64 root]):=Lib.hid (by rw [h2];exact T1.out)
  rw [<- h2] at t0 t1 tl tf ⊢
  have H2:=Lib.hid h2
  have q3 : decide (200 < n) = false:=decide_eq_false hbig
  clear h2 hbig
  go_wp2_with fail
  clear t0 t1 tl tf
  go_loopg [18] n (fun gk iv wr=>∃ j : Nat,iv = .int .i64 (j : Int) /\ j + gk = n /\ (∀ i (h : i < l.length),i < j -> FitR l[i]) /\ Below w.heap.size w wr /\ Bx 25 wr t2 [.slice src n cap,.int .i64 root])
  case atStart=>exact ⟨0,rfl,by omega,fun i h q=>absurd q (by omega),BB.out,T1.out⟩
  case round =>
   clear BB T1
   obtain ⟨j,rfl,hjk,hfit,hbel,hbx⟩:=hrel
   rename World=>wr
   have BB:=Lib.hid hbel
   have TX:=Lib.hid hbx
   have FT:=Lib.hid hfit
   clear hbx hfit
   cases gk with
   | zero =>
    have d1 : decide ((j : Int) < (n : Int)) = false:=decide_eq_false (by omega)
    have d2 : ¬ (j : Int) < (n : Int):=by omega
    have d3 : decide (j < n) = false:=decide_eq_false (by omega)
    have d4 : ¬ j < n:=by omega
    obtain ⟨t0,t1,tl,tf⟩:=TX.out.two
    have HFF : Hid (∀ x ∈ l,NdFit x):=Lib.hid (fun x hx=>by
     obtain ⟨i,hi,rfl⟩:=List.getElem_of_mem hx
     exact fit_read (HRD.out _ hx) (FT.out i hi (by have:=HNN.out;omega)))
    have HN2:=HNV.out.step hbel
    have HO:=Lib.hid (of_any l (.slice src n cap) root node wr (HT.out.step hbel) HN2 (by have:=HNN.out;omega) HFF.out)
    clear hbel FT
    go_wp2_with fail
    refine HO.out.mono ?_
    rintro e w3 ⟨hb3,⟨k,z,hr,rfl,hk0⟩ | ⟨s,S,hr,rfl,hX⟩⟩
    ·have BB:=Lib.hid (after BB.out hb3)
     have T3:=Lib.hid (TX.out.keep hb3)
     obtain ⟨t0,t1,tl,tf⟩:=T3.out.two
     have r1 : (k == 0) = false:=by simp [hk0]
     have r2 : (k != 0) = true:=by simp [hk0]
     have HN3:=HN2.step hb3
     clear hr hk0 HO hb3 TX
     by_cases hneg : node < 0
     ·have n1 : decide (node < 0) = true:=decide_eq_true hneg
      clear hneg HN2 HN3
      go_wp2_with fail
      go_ret
      exact ⟨rfl,by first | exact BB.out | exact BB.out.alloc (by have:=BB.out.size;omega) _⟩
     have n1 : decide (node < 0) = false:=decide_eq_false hneg
     by_cases hge : (n : Int) <= node
     ·have n2 : decide ((n : Int) <= node) = true:=decide_eq_true hge
      have n3 : decide (node ≥ (n : Int)) = true:=decide_eq_true hge
      clear hneg hge HN2 HN3
      go_wp2_with fail
      go_ret
      exact ⟨rfl,by first | exact BB.out | exact BB.out.alloc (by have:=BB.out.size;omega) _⟩
     have n2 : decide ((n : Int) <= node) = false:=decide_eq_false hge
     have n3 : decide (node ≥ (n : Int)) = false:=decide_eq_false hge
     obtain ⟨a,rfl⟩ : ∃ a : Nat,node = a:=⟨node.toNat,by omega⟩
     have hal : a < l.length:=by have:=HNN.out;omega
     obtain ⟨src',cap',hv',hin'⟩:=HN3
     simp only [Value.slice.injEq] at hv'
     obtain ⟨rfl,-,-⟩:=hv'
     obtain ⟨g,off,rfl,hg,hat⟩:=hin' (by omega)
     obtain ⟨kv,ev,hx⟩:=hat a hal
     have d0:=hx.c0
     have i0 : (0 : Int) <= (a : Int):=by omega
     have i1 : (a : Int) < (n : Int):=by omega
     have i2 : a < n:=by omega
     generalize l[a] = x at *
     clear hx hat hin' HN2
     by_cases h6 : x.kind = 6
     ·have p6 : (x.kind == 6) = true:=by simp [h6]
      have p6' : (x.kind != 6) = false:=by simp [h6]
      clear h6
      go_wp2_with fail
      go_ret
      exact ⟨rfl,by first | exact BB.out | exact BB.out.alloc (by have:=BB.out.size;omega) _⟩
     have p6 : (x.kind == 6) = false:=by simp [h6]
     have p6' : (x.kind != 6) = true:=by simp [h6]
     clear h6
     by_cases h5 : x.kind = 5
     ·have p5 : (x.kind == 5) = true:=by simp [h5]
      have p5' : (x.kind != 5) = false:=by simp [h5]
      clear h5
      go_wp2_with fail
      go_ret
      exact ⟨rfl,by first | exact BB.out | exact BB.out.alloc (by have:=BB.out.size;omega) _⟩
     have p5 : (x.kind == 5) = false:=by simp [h5]
     have p5' : (x.kind != 5) = true:=by simp [h5]
     clear h5
     go_wp2_with fail
     go_ret
     exact ⟨rfl,by first | exact BB.out | exact BB.out.alloc (by have:=BB.out.size;omega) _⟩
    ·obtain ⟨P,K,h0⟩:=scope_ok (show scopeS l root node (inBlockS l node.toNat) = .ok s from hr)
     obtain ⟨a,rfl⟩ : ∃ a : Nat,node = a:=⟨node.toNat,by omega⟩
     have ea : ((a : Int)).toNat = a:=by omega
     rw [ea] at K
     have hal : a < l.length:=K.m_lt
     have hkk:=K.kind
     rw [kndS_get hal] at hkk
     have BB:=Lib.hid (after BB.out hb3)
     have T3:=Lib.hid (TX.out.keep hb3)
     obtain ⟨t0,t1,tl,tf⟩:=T3.out.two
     have HN3:=HN2.step hb3
     have X4:=Lib.hid (hX.step ((Below.refl _ _).alloc (Nat.le_refl _) (.cells #[.int .i64 0,.int .i64 0] 28)))
     have few:=hX.few
     have fw : decide ((s.lc.length : Int) <= 64) = true:=decide_eq_true (by omega)
     have n1 : decide ((a : Int) < 0) = false:=decide_eq_false (by omega)
     have i0 : (0 : Int) <= (a : Int):=by omega
     have i1 : (a : Int) < (n : Int):=by have:=HNN.out;omega
     have i2 : a < n:=by omega
     have n2 : decide ((n : Int) <= (a : Int)) = false:=decide_eq_false (by omega)
     have n3 : decide ((a : Int) ≥ (n : Int)) = false:=decide_eq_false (by omega)
     have n4 : decide (n <= a) = false:=decide_eq_false (by omega)
     obtain ⟨src',cap',hv',hin'⟩:=HN3
     simp only [Value.slice.injEq] at hv'
     obtain ⟨rfl,-,-⟩:=hv'
     obtain ⟨g,off,rfl,hg,hat⟩:=hin' (by omega)
     obtain ⟨kv,ev,hx⟩:=hat a hal
     have d0:=hx.c0
     generalize l[a] = x at *
     clear hr hX P K HO hb3 TX HN2 hin' hat hx ea h0
     have BL:=Lib.hid (BB.out.alloc (by have:=BB.out.size;omega) (.cells #[.int .i64 0,.int .i64 0] 28))
     rcases hkk with h5 | h6
     ·have p6 : (x.kind == 6) = false:=by simp [h5]
      have p6' : (x.kind != 6) = true:=by simp [h5]
      have p5 : (x.kind == 5) = true:=by simp [h5]
      have p5' : (x.kind != 5) = false:=by simp [h5]
      clear h5
      go_wp2_with fail
      refine (sclen_any X4.out).mono ?_
      rintro e w5 ⟨rfl,rfl⟩
      go_wp2_with fail
      go_ret
      exact ⟨rfl,BL.out⟩
     ·have p6 : (x.kind == 6) = true:=by simp [h6]
      have p6' : (x.kind != 6) = false:=by simp [h6]
      clear h6
      go_wp2_with fail
      refine (sclen_any X4.out).mono ?_
      rintro e w5 ⟨rfl,rfl⟩
      go_wp2_with fail
      go_ret
      exact ⟨rfl,BL.out⟩
   | succ gk =>
    have TN : Hid (∀ o : Obj,Bx 25 (wr.alloc o) t2 [.slice src n cap,.int .i64 root]):=Lib.hid (fun o=>TX.out.alloc o)
    have hjl : j < l.length:=by have:=HNN.out;omega
    obtain ⟨g,off,rfl,hg,hat⟩:=HIN.out (by omega)
    obtain ⟨kv,ev,hx⟩:=hat j hjl
    have hx:=hx.step hg hbel
    have hg:=Nat.lt_of_lt_of_le hg hbel.size
    obtain ⟨ks,kc,rfl,hks⟩:=hx.kids
    obtain ⟨es,ec,rfl,hes⟩:=hx.ends
    obtain ⟨-,-,d0,d1,d2,d3,d4,d5,d6,d7,d8,d9,d10,d11,d12⟩:=hx
    have FN : Hid (FitR l[j] -> ∀ i (h : i < l.length),i < j + 1 -> FitR l[i]):=Lib.hid (fun hj i h hi=>by
     by_cases q : i < j
     ·exact FT.out i h q
     ·have : i = j:=by omega
      subst this;exact hj)
    have e1 : decide ((j : Int) < (n : Int)) = true:=decide_eq_true (by omega)
    have e2 : (j : Int) < (n : Int):=by omega
    have e3 : decide (j < n) = true:=decide_eq_true (by omega)
    have e4 : j < n:=by omega
    generalize l[j] = x at *
    clear hat hks hes hjl hbel FT
    by_cases c1 : 60 < x.kids.length
    ·obtain ⟨f1,f2⟩:=gt_dec (a:=x.kids.length) 60 (by omega)
     clear c1
     go_wp2_with fail
     go_ret
     exact ⟨rfl,by first | exact BB.out | exact BB.out.alloc (by have:=BB.out.size;omega) _⟩
    obtain ⟨f1,f2⟩:=le_dec (a:=x.kids.length) 60 (by omega)
    by_cases c2 : 100 < x.text.size
    ·obtain ⟨g1,g2⟩:=gt_dec (a:=x.text.size) 100 (by omega)
     clear c1 c2
     go_wp2_with fail
     go_ret
     exact ⟨rfl,by first | exact BB.out | exact BB.out.alloc (by have:=BB.out.size;omega) _⟩
    obtain ⟨g1,g2⟩:=le_dec (a:=x.text.size) 100 (by omega)
    by_cases c3 : 20 < x.M.size
    ·obtain ⟨i1,i2⟩:=gt_dec (a:=x.M.size) 20 (by omega)
     clear c1 c2 c3
     go_wp2_with fail
     go_ret
     exact ⟨rfl,by first | exact BB.out | exact BB.out.alloc (by have:=BB.out.size;omega) _⟩
    obtain ⟨i1,i2⟩:=le_dec (a:=x.M.size) 20 (by omega)
    by_cases c4 : 100 < x.N.size
    ·obtain ⟨k1,k2⟩:=gt_dec (a:=x.N.size) 100 (by omega)
     clear c1 c2 c3 c4
     go_wp2_with fail
     go_ret
     exact ⟨rfl,by first | exact BB.out | exact BB.out.alloc (by have:=BB.out.size;omega) _⟩
    obtain ⟨k1,k2⟩:=le_dec (a:=x.N.size) 100 (by omega)
    have FJ:=Lib.hid (FN.out ⟨by omega,by omega,by omega,by omega⟩)
    clear c1 c2 c3 c4
    go_wp2_with fail
    go_roundg gk
    case measure=>omega
    case rel=>exact ⟨j + 1,by go_num,by omega,FJ.out,BB.out.alloc (by have:=BB.out.size;omega) _,TN.out _⟩
end Go.Proofs.YtgegiianlkpefaaGreatDoor.S
