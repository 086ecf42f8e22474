/- For any text and any numbers,ScopeBlocks,ScopeUses and ScopeMany return true and leave their arguments as they were. -/
import Derived.Test.YtfehpdliobapfaaGreatDoorKPaNH
import Derived.Test.YtfehpdliobapfaaGreatDoorKScMW
import Derived.Test.YtfehpdliobapfaaGreatDoorKScMR
import Derived.Test.YtfehpdliobapfaaGreatDoorKScMT
set_option linter.unusedVariables false
set_option linter.unusedSimpArgs false
namespace Go.Proofs.YtfehpdliobapfaaGreatDoor.S
open Go Go.RowKit
def nmL (i:Nat):List Nat:=List.replicate (i % 40+1) 120 ++ (if i / 40=0 then [] else [121])
def nmB (i:Nat):ByteArray:=L.strN (nmL i)
def stL (i:Nat):List Nat:=[123,105,110,116,32] ++ (nmL i ++ [59,125])
def stsL:Nat->Nat->List Nat
 | _,0=>[]
 | k,n+1=>stL k ++ stsL (k+1) n
def stK (i:Nat):List (Nat × List Nat):=[(5,[123]),(1,[105,110,116]),(1,nmL i),(5,[59]),(5,[125])]
def stsK:Nat->Nat->List (Nat × List Nat)
 | _,0=>[]
 | k,n+1=>stK k ++ stsK (k+1) n
def shlL:List Nat:=[99,108,97,115,115,32,65,32,123,32,118,111,105,100,32,102,40,41,32,123]
def shlK:List (Nat × List Nat):=[(1,[99,108,97,115,115]),(1,[65]),(5,[123]),(1,[118,111,105,100]),(1,[102]),(5,[40]),(5,[41]),(5,[123])]
theorem names_all:(∀ i,i<80->nameF (nmB i)=true/\L.tokOk 1 (nmL i) (some 59)=true/\(nmB i).size<=64)/\(∀ i,i<80->∀ j,j<80->nmB i=nmB j->i=j):=by
 constructor
 ·decide +kernel
 ·decide +kernel
theorem nmL_len (i:Nat):(nmL i).length<=41:=by
 have:=Nat.mod_lt i (show 0<40 by omega)
 unfold nmL
 rw [List.length_append,List.length_replicate]
 split<;>simp<;>omega
theorem stL_len (i:Nat):(stL i).length<=48:=by
 have:=nmL_len i
 unfold stL
 simp only [List.length_append,List.length_cons,List.length_nil]
 omega
theorem stsL_len (k n:Nat):(stsL k n).length<=48*n:=by
 induction n generalizing k with
 | zero=>exact Nat.le_refl _
 | succ n ih =>
  have:=ih (k+1)
  have:=stL_len k
  show (stL k ++ stsL (k+1) n).length<=_
  rw [List.length_append];omega
theorem wl_shl {y:List Nat} {V:List (Nat × List Nat)} (h:L.WLex y V) (hl:y.length<=10000):L.WLex (shlL ++ y) (shlK ++ V) :=
 L.wl_tok (a:=[99,108,97,115,115]) (k:=1) (x:=32 :: 65 :: 32 :: 123 :: 32 :: 118 :: 111 :: 105 :: 100 :: 32 :: 102 :: 40 :: 41 :: 32 :: 123 :: y) rfl (by simp;omega) <|
 L.wl_blank rfl (by simp;omega) <|
 L.wl_tok (a:=[65]) (k:=1) (x:=32 :: 123 :: 32 :: 118 :: 111 :: 105 :: 100 :: 32 :: 102 :: 40 :: 41 :: 32 :: 123 :: y) rfl (by simp;omega) <|
 L.wl_blank rfl (by simp;omega) <|
 L.wl_tok (a:=[123]) (k:=5) (x:=32 :: 118 :: 111 :: 105 :: 100 :: 32 :: 102 :: 40 :: 41 :: 32 :: 123 :: y) rfl (by simp;omega) <|
 L.wl_blank rfl (by simp;omega) <|
 L.wl_tok (a:=[118,111,105,100]) (k:=1) (x:=32 :: 102 :: 40 :: 41 :: 32 :: 123 :: y) rfl (by simp;omega) <|
 L.wl_blank rfl (by simp;omega) <|
 L.wl_tok (a:=[102]) (k:=1) (x:=40 :: 41 :: 32 :: 123 :: y) rfl (by simp;omega) <|
 L.wl_tok (a:=[40]) (k:=5) (x:=41 :: 32 :: 123 :: y) rfl (by simp;omega) <|
 L.wl_tok (a:=[41]) (k:=5) (x:=32 :: 123 :: y) rfl (by simp;omega) <|
 L.wl_blank rfl (by simp;omega) <|
 L.wl_sign rfl (by decide) (by decide) (by omega) h
theorem wl_decl {y:List Nat} {V:List (Nat × List Nat)} {i:Nat} (hi:i<80) (h:L.WLex y V) (hl:y.length<=10000):L.WLex ([105,110,116,32] ++ (nmL i ++ 59 :: y)) ((1,[105,110,116]) :: (1,nmL i) :: (5,[59]) :: V):=by
 have hn:=nmL_len i
 exact L.wl_tok (a:=[105,110,116]) (k:=1) (x:=32 :: (nmL i ++ 59 :: y)) rfl (by simp;omega) <|
  L.wl_blank rfl (by simp;omega) <|
  L.wl_tok (a:=nmL i) (k:=1) (x:=59 :: y) (names_all.1 i hi).2.1 (by simp;omega) <|
  L.wl_sign rfl (by decide) (by decide) (by omega) h
theorem wl_st {y:List Nat} {V:List (Nat × List Nat)} {i:Nat} (hi:i<80) (h:L.WLex y V) (hl:y.length<=9000):L.WLex (stL i ++ y) (stK i ++ V):=by
 have hn:=nmL_len i
 have e:stL i ++ y=123 :: ([105,110,116,32] ++ (nmL i ++ 59 :: (125 :: y))):=by unfold stL;simp
 rw [e]
 exact L.wl_sign rfl (by decide) (by decide) (by simp;omega) (wl_decl hi (L.wl_sign rfl (by decide) (by decide) (by omega) h) (by simp;omega))
theorem wl_sts {y:List Nat} {V:List (Nat × List Nat)} (h:L.WLex y V) (hl:y.length<=1000):∀ (n k:Nat),k+n<=80->L.WLex (stsL k n ++ y) (stsK k n ++ V):=by
 intro n
 induction n with
 | zero=>intro k _;exact h
 | succ n ih =>
  intro k hk
  have h1:=stsL_len (k+1) n
  have:=wl_st (i:=k) (by omega) (ih (k+1) (by omega)) (by rw [List.length_append];omega)
  rw [<- List.append_assoc,<- List.append_assoc] at this
  exact this
def endL:Option Nat->List Nat
 | none=>[125,32,125]
 | some t=>[123,123,105,110,116,32] ++ (nmL t ++ [59,125,125,125,32,125])
def endK:Option Nat->List (Nat × List Nat)
 | none=>[(5,[125]),(5,[125])]
 | some t=>[(5,[123]),(5,[123]),(1,[105,110,116]),(1,nmL t),(5,[59]),(5,[125]),(5,[125]),(5,[125]),(5,[125])]
def Small (o:Option Nat):Prop:=∀ t,o=some t->t<80
theorem endL_len (o:Option Nat):(endL o).length<=60:=by
 cases o with
 | none=>decide
 | some t =>
  have:=nmL_len t
  unfold endL
  simp only [List.length_append,List.length_cons,List.length_nil]
  omega
theorem wl_end {o:Option Nat} (ho:Small o):L.WLex (endL o) (endK o):=by
 have h0:L.WLex [125] [(5,[125])]:=L.wl_sign rfl (by decide) (by decide) (by decide) L.wl_nil
 have h1:L.WLex [125,32,125] [(5,[125]),(5,[125])]:=L.wl_sign rfl (by decide) (by decide) (by decide) (L.wl_blank rfl (by decide) h0)
 cases o with
 | none=>exact h1
 | some t =>
  have h2:L.WLex [125,125,125,32,125] [(5,[125]),(5,[125]),(5,[125]),(5,[125])]:=L.wl_sign rfl (by decide) (by decide) (by decide) (L.wl_sign rfl (by decide) (by decide) (by decide) h1)
  have hn:=nmL_len t
  have:=wl_decl (i:=t) (ho t rfl) h2 (by decide)
  exact L.wl_sign rfl (by decide) (by decide) (by simp;omega) (L.wl_sign rfl (by decide) (by decide) (by simp;omega) this)
def manyL (n:Nat) (o:Option Nat):List Nat:=shlL ++ (stsL 0 n ++ endL o)
def manyK (n:Nat) (o:Option Nat):List (Nat × List Nat):=shlK ++ (stsK 0 n ++ endK o)
theorem wl_blks {n:Nat} {o:Option Nat} (hn:n<=80) (ho:Small o):L.WLex (manyL n o) (manyK n o):=by
 have h1:=stsL_len 0 n
 have h2:=endL_len o
 exact wl_shl (wl_sts (wl_end ho) (by omega) n 0 (by omega)) (by rw [List.length_append];omega)
def wdW (p:Nat × List Nat):Nat × ByteArray:=(p.1,L.strN p.2)
def stW (i:Nat):List (Nat × ByteArray):=(stK i).map wdW
def stsW (k n:Nat):List (Nat × ByteArray):=(stsK k n).map wdW
theorem stsW_succ (k n:Nat):stsW k (n+1)=stW k ++ stsW (k+1) n:=by unfold stsW stW;rw [<- List.map_append];rfl
theorem stsW_len (k n:Nat):(stsW k n).length=5*n:=by
 induction n generalizing k with
 | zero=>rfl
 | succ n ih=>rw [stsW_succ,List.length_append,ih];show 5+_=_;omega
section
variable {C:PC} {p q j d k n i:Nat}
theorem wd_of {x:ByteArray} {c:Nat} (h:Tk C p c x):G.Wd C p x:=⟨h.word,h.in_⟩
def declF (p i:Nat):G.Fo:=G.one (G.ant 9 (nmB i) { G.baseT 1 (⟨#[105,110,116]⟩:ByteArray) p with i:=p,j:=p+1 } p (p+3)) .nil
theorem dv_decl (h0:Tk C p 1 (⟨#[105,110,116]⟩:ByteArray)) (h1:Tk C (p+1) 1 (nmB i)) (h2:Tk C (p+2) 5 (⟨#[59]⟩:ByteArray)) (hn:C.name (nmB i)=true):G.Dv C .stat d p (p+3) (declF p i):=by
 have hw:C.word p=(⟨#[105,110,116]⟩:ByteArray):=h0.word
 have hk:G.Typed C p (p+1) { G.baseT 1 (⟨#[105,110,116]⟩:ByteArray) p with i:=p,j:=p+1 }:=by
  refine .inner (by rw [hw];decide) ⟨h0.in_,fun e=>by rw [hw] at e;exact absurd e (by decide),_,.fin,?_⟩
  rw [hw];rfl
 refine .sDecl0 ?_ ?_ hk (wd_of h1) hn (wd_of h2)
 ·rw [hw];unfold G.plainW;decide
 ·have:wordS C 0 ⟨p,0,0,[]⟩=(⟨#[105,110,116]⟩:ByteArray):=hw
  unfold G.decAt declares
  rw [this]
  simp
def blkF (p:Nat) (u:G.Fo) (q:Nat):G.Fo:=G.one (G.an 8 ⟨#[]⟩ p q) u
theorem dv_blk {u:G.Fo} (h0:Tk C p 5 (⟨#[123]⟩:ByteArray)) (hn:C.word (p+1)≠(⟨#[125]⟩:ByteArray)) (h:G.Dv C .stat d (p+1) q u) (h1:Tk C q 5 (⟨#[125]⟩:ByteArray)):G.Dv C .block (d+1) p (q+1) (blkF p u (q+1)):=by
 have:=G.Dv.block (wd_of h0) (.stats hn h .statsE) (wd_of h1)
 rw [G.Fo.app_nil] at this
 exact this
def stF (p i:Nat):G.Fo:=blkF p (declF (p+1) i) (p+5)
theorem tk_at {W:List (Nat × ByteArray)} (h:Lies C W p) (a:Nat) {c:Nat} {x:ByteArray} (ha:W[a]? = some (c,x)):Tk C (p+a) c x:=by
 obtain ⟨ha,e⟩:=List.getElem?_eq_some_iff.1 ha
 have:=h a ha
 rw [e] at this
 exact this
theorem dv_st (h:Lies C (stW i) p) (hn:C.name (nmB i)=true):G.Dv C .stat (d+1) p (p+5) (stF p i):=by
 have t1:=tk_at h 1 (c:=1) (x:=(⟨#[105,110,116]⟩:ByteArray)) rfl
 refine .sBlock (tk_at h 0 (c:=5) (x:=(⟨#[123]⟩:ByteArray)) rfl).word (dv_blk (tk_at h 0 (c:=5) (x:=(⟨#[123]⟩:ByteArray)) rfl) (by rw [t1.word];decide) (q:=p+4) ?_ (tk_at h 4 (c:=5) (x:=(⟨#[125]⟩:ByteArray)) rfl))
 exact dv_decl t1 (tk_at h 2 (c:=1) (x:=nmB i) rfl) (tk_at h 3 (c:=5) (x:=(⟨#[59]⟩:ByteArray)) rfl) hn
def stsF:Nat->Nat->Nat->G.Fo->G.Fo
 | _,_,0,u=>u
 | p,k,n+1,u=>(stF p k).app (stsF (p+5) (k+1) n u)
theorem dv_sts {u:G.Fo}:∀ (n p k:Nat),Lies C (stsW k n) p->(∀ i,k<=i->i<k+n->C.name (nmB i)=true)->G.Dv C .stats (d+1) (p+5*n) j u->G.Dv C .stats (d+1) p j (stsF p k n u):=by
 intro n
 induction n with
 | zero=>intro p k _ _ h;exact h
 | succ n ih =>
  intro p k hl hn h
  rw [stsW_succ] at hl
  have h1:=hl.left
  have h2:=hl.right
  refine .stats ?_ (dv_st h1 (hn k (Nat.le_refl _) (by omega))) (ih (p+5) (k+1) h2 (fun i q1 q2=>hn i (by omega) (by omega)) ?_)
  ·have h0:C.word p=(⟨#[123]⟩:ByteArray):=(tk_at h1 0 (c:=5) (x:=(⟨#[123]⟩:ByteArray)) rfl).word
   rw [h0];decide
  ·rw [show p+5+5*n=p+5*(n+1) by omega];exact h
def endF (p:Nat):Option Nat->G.Fo
 | none=>.nil
 | some t=>blkF p (blkF (p+1) (declF (p+2) t) (p+6)) (p+7)
def endN:Option Nat->Nat
 | none=>0
 | some _=>7
theorem dv_end {o:Option Nat} (h:Lies C ((endK o).map wdW) p) (hn:∀ t,o=some t->C.name (nmB t)=true):G.Dv C .stats (d+2) p (p+endN o) (endF p o)/\Tk C (p+endN o) 5 (⟨#[125]⟩:ByteArray)/\Tk C (p+endN o+1) 5 (⟨#[125]⟩:ByteArray):=by
 cases o with
 | none=>exact ⟨.statsE,tk_at h 0 rfl,tk_at h 1 rfl⟩
 | some t =>
  have t0:=tk_at h 0 (c:=5) (x:=(⟨#[123]⟩:ByteArray)) rfl
  have t1:=tk_at h 1 (c:=5) (x:=(⟨#[123]⟩:ByteArray)) rfl
  have t2:=tk_at h 2 (c:=1) (x:=(⟨#[105,110,116]⟩:ByteArray)) rfl
  refine ⟨?_,tk_at h 7 rfl,tk_at h 8 rfl⟩
  have a1:=dv_decl (d:=d) t2 (tk_at h 3 (c:=1) (x:=nmB t) rfl) (tk_at h 4 (c:=5) (x:=(⟨#[59]⟩:ByteArray)) rfl) (hn t rfl)
  have a2:=dv_blk t1 (by rw [t2.word];decide) a1 (tk_at h 5 (c:=5) (x:=(⟨#[125]⟩:ByteArray)) rfl)
  have a3:=dv_blk t0 (by rw [t1.word];decide) (.sBlock t1.word a2) (tk_at h 6 (c:=5) (x:=(⟨#[125]⟩:ByteArray)) rfl)
  have:=G.Dv.stats (d:=d+2) (by rw [t0.word];decide) (.sBlock t0.word a3) .statsE
  rw [G.Fo.app_nil] at this
  exact this
def bodyF (n:Nat) (o:Option Nat):G.Fo:=stsF 8 0 n (endF (8+5*n) o)
def manyF (n:Nat) (o:Option Nat):G.Fo :=
 G.one (G.an 2 (⟨#[65]⟩:ByteArray) 0 (8+5*n+endN o+2)) (G.one (G.ant 6 (⟨#[102]⟩:ByteArray) (G.baseT 6 (⟨#[118,111,105,100]⟩:ByteArray) 3) 3 (8+5*n+endN o+1)) (G.one (G.an 8 ⟨#[]⟩ 7 (8+5*n+endN o+1)) (bodyF n o)))
theorem dv_many {o:Option Nat} (hN:∀ i,i<80->C.name (nmB i)=true) (hA:C.name (⟨#[65]⟩:ByteArray)=true) (hf:C.name (⟨#[102]⟩:ByteArray)=true) (hn:n<=80) (ho:Small o) (h:Lies C ((manyK n o).map wdW) 0) (he:(C.tok (8+5*n+endN o+2)).1=0):G.Classes C 0 0 (8+5*n+endN o+2) (manyF n o):=by
 have h':Lies C (shlK.map wdW ++ (stsW 0 n ++ (endK o).map wdW)) 0:=by
  unfold manyK at h
  rw [List.map_append,List.map_append] at h
  exact h
 have hs:=h'.left
 have hr:=h'.right
 have hl:(0:Nat)+(shlK.map wdW).length=8:=rfl
 rw [hl] at hr
 have h1:=hr.left
 have h2:=hr.right
 rw [stsW_len] at h2
 obtain ⟨e1,e2,e3⟩:=dv_end (d:=57) h2 (fun t ht=>hN t (ho t ht))
 have b:=dv_sts (d:=58) n 8 0 h1 (fun i _ hi=>hN i (by omega)) e1
 have t0:=tk_at hs 0 (c:=1) (x:=(⟨#[99,108,97,115,115]⟩:ByteArray)) rfl
 have t1:=tk_at hs 1 (c:=1) (x:=(⟨#[65]⟩:ByteArray)) rfl
 have t2:=tk_at hs 2 (c:=5) (x:=(⟨#[123]⟩:ByteArray)) rfl
 have t3:=tk_at hs 3 (c:=1) (x:=(⟨#[118,111,105,100]⟩:ByteArray)) rfl
 have t4:=tk_at hs 4 (c:=1) (x:=(⟨#[102]⟩:ByteArray)) rfl
 have t5:=tk_at hs 5 (c:=5) (x:=(⟨#[40]⟩:ByteArray)) rfl
 have t6:=tk_at hs 6 (c:=5) (x:=(⟨#[41]⟩:ByteArray)) rfl
 have t7:=tk_at hs 7 (c:=5) (x:=(⟨#[123]⟩:ByteArray)) rfl
 simp only [Nat.zero_add] at t0 t1 t2 t3 t4 t5 t6 t7
 have b2:G.Dv C .block 60 7 (8+5*n+endN o+1) (G.one (G.an 8 ⟨#[]⟩ 7 (8+5*n+endN o+1)) (bodyF n o)):=.block (wd_of t7) b (wd_of e2)
 have m:=G.Member.method (C:=C) (i:=3) (k:=4) (m:=7) (by rw [t3.word];decide) (.void (wd_of t3)) (wd_of t4) hf (.none (wd_of t5) (wd_of t6)) b2
 rw [t3.word] at m
 have ms:=G.Members.more (n:=0) (by rw [t3.word];decide) (by decide) m .fin
 rw [G.Fo.app_nil] at ms
 have c:=G.Class.base (wd_of t0) (wd_of t1) hA (wd_of t2) ms (wd_of e3)
 have cs:=G.Classes.more (n:=0) (by rw [t0.kind];decide) (by decide) c (.fin he)
 rw [G.Fo.app_nil] at cs
 exact cs
end
theorem stsF_size (p k n:Nat) (u:G.Fo):(stsF p k n u).size=2*n+u.size:=by
 induction n generalizing p k with
 | zero=>show u.size=_;omega
 | succ n ih =>
  show ((stF p k).app (stsF (p+5) (k+1) n u)).size=_
  rw [G.Fo.app_size,ih]
  show 2+_=_
  omega
theorem endF_size (p:Nat) (o:Option Nat):(endF p o).size<=3:=by
 cases o with
 | none=>exact Nat.zero_le _
 | some t=>exact Nat.le_refl 3
theorem manyF_size {n:Nat} {o:Option Nat} (hn:n<=80):(manyF n o).size<=170:=by
 have:=stsF_size 8 0 n (endF (8+5*n) o)
 have:=endF_size (8+5*n) o
 show (bodyF n o).size+1+1+1<=170
 unfold bodyF
 omega
end Go.Proofs.YtfehpdliobapfaaGreatDoor.S
namespace Go.Proofs.YtfehpdliobapfaaGreatDoor.S
open Go Go.RowKit
section
variable {C:PC} {l:List Nd} {root:Int} {b p q k n i:Nat} {h:Bool} {s:Sc} {u:G.Fo}
theorem nd_text (a:G.An) (L:List Nat):(a.nd C L).text=a.text:=by unfold G.An.nd;split<;>rfl
theorem nd_at {a:G.An} {L:List Nat} (h:l[p]? = some (a.nd C L)):kndS l p=a.kind/\txtS l p=a.text/\kidsOf l p=L/\p<l.length:=by
 refine ⟨?_,?_,G.lies_kids h,(List.getElem?_eq_some_iff.1 h).1⟩
 ·unfold kndS;rw [h];exact G.nd_kind C a L
 ·unfold txtS;rw [h];exact nd_text a L
theorem lies_all {P:Int->Prop} (f:G.Fo):∀ b,G.Lies C l f b->f.All (fun a _=>P a.kind)->∀ q,b<=q->q<b+f.size->P (kndS l q):=by
 induction f with
 | nil=>intro b _ _ q h1 h2;exact absurd h2 (by show ¬ q<b+0;omega)
 | cons a k r ihk ihr =>
  intro b h hA q h1 h2
  obtain ⟨p1,p2,p3⟩:=G.lies_parts h
  obtain ⟨k1,k2,k3⟩:=hA
  have h2:q<b+(k.size+1+r.size):=h2
  by_cases hlt:q<b+k.size
  ·exact ihk b p1 k2 q h1 hlt
  ·by_cases he:q=b+k.size
   ·subst he;rw [(nd_at p2).1];exact k1
   ·exact ihr _ p3 k3 q (by omega) (by omega)
theorem lies_app {f g:G.Fo} (h:G.Lies C l (f.app g) b):G.Lies C l f b/\G.Lies C l g (b+f.size):=by
 constructor
 ·intro q hq
  rw [h q (by rw [G.Fo.app_size];omega),G.Fo.app_post,List.getElem?_append_left (by rw [G.Fo.post_len];exact hq)]
 ·intro q hq
  have:=h (f.size+q) (by rw [G.Fo.app_size];omega)
  rw [G.Fo.app_post,List.getElem?_append_right (by rw [G.Fo.post_len];omega),G.Fo.post_len,Nat.add_sub_cancel_left,<- Nat.add_assoc] at this
  exact this
theorem lies_end:∀ (n p k b:Nat),G.Lies C l (stsF p k n u) b->G.Lies C l u (b+2*n):=by
 intro n
 induction n with
 | zero=>intro p k b h;exact h
 | succ n ih =>
  intro p k b h
  have:=ih (p+5) (k+1) (b+2) (lies_app (f:=stF p k) (g:=stsF (p+5) (k+1) n u) h).2
  rw [show b+2*(n+1)=b+2+2*n by omega]
  exact this
theorem decl_sc (P:ProgOk l root) (hl:G.Lies C l (declF p i) b) (h:Bool) (s:Sc):scS l h b s=declG l h b s/\txtS l b=nmB i/\kidsOf l b=[]/\kndS l b=9:=by
 obtain ⟨-,h2,-⟩:=G.lies_parts hl
 have h2:l[b]? = some ((G.ant 9 (nmB i) { G.baseT 1 (⟨#[105,110,116]⟩:ByteArray) p with i:=p,j:=p+1 } p (p+3)).nd C []):=h2
 obtain ⟨e1,e2,e3,e4⟩:=nd_at h2
 have e1:kndS l b=9:=e1
 refine ⟨?_,e2,e3,e1⟩
 rw [sc_eq P e4,e3]
 show selfG l h b s.op.length s=_
 unfold selfG
 rw [if_neg (by omega),if_pos (.inr e1)]
theorem blk_sc (P:ProgOk l root) (hl:G.Lies C l (blkF p u q) b) (h:Bool) (s:Sc):scS l h (b+u.size) s=(match kidsG (scS l true) (u.idx b) s with | .error e=>.error e | .ok s'=>.ok { s' with op:=s'.op.take s.op.length })/\kndS l (b+u.size)=8:=by
 obtain ⟨-,h2,-⟩:=G.lies_parts hl
 obtain ⟨e1,e2,e3,e4⟩:=nd_at h2
 have e1:kndS l (b+u.size)=8:=e1
 refine ⟨?_,e1⟩
 rw [sc_eq P e4,e3,e1]
 show thenG (kidsG (scS l (h || true)) (u.idx b) s) _=_
 rw [Bool.or_true]
 cases kidsG (scS l true) (u.idx b) s with
 | error e=>rfl
 | ok s' =>
  show selfG l h (b+u.size) s.op.length s'=_
  unfold selfG
  rw [if_pos e1]
theorem find_new {a:Nat} (hn:s.lc.map (txtS l)=(List.range k).map nmB) (hk:k<80) (ht:txtS l a=nmB k):findS l s.lc (txtS l a)=none:=by
 unfold findS
 rw [List.findIdx?_eq_none_iff]
 intro x hx
 have:txtS l x ∈ (List.range k).map nmB:=by rw [<- hn];exact List.mem_map.2 ⟨x,hx,rfl⟩
 obtain ⟨j,hj,e⟩:=List.mem_map.1 this
 have hj:=List.mem_range.1 hj
 simp only [decide_eq_false_iff_not]
 rw [<- e,ht]
 intro q
 have:=names_all.2 j (by omega) k hk q
 omega
theorem find_old {a t:Nat} (hn:s.lc.map (txtS l)=(List.range k).map nmB) (ht:t<k) (ha:txtS l a=nmB t):∃ j,findS l s.lc (txtS l a)=some j:=by
 cases hf:findS l s.lc (txtS l a) with
 | some j=>exact ⟨j,rfl⟩
 | none =>
  have:nmB t ∈ s.lc.map (txtS l):=by rw [hn];exact List.mem_map.2 ⟨t,List.mem_range.2 ht,rfl⟩
  obtain ⟨x,hx,e⟩:=List.mem_map.1 this
  exact absurd (e.trans ha.symm) (findS_none hf x hx)
theorem names_len (hn:s.lc.map (txtS l)=(List.range k).map nmB):s.lc.length=k:=by
 have:=congrArg List.length hn
 simpa using this
theorem st_sc (P:ProgOk l root) (hl:G.Lies C l (stF p k) b) (h:Bool) (s:Sc) (hn:s.lc.map (txtS l)=(List.range k).map nmB) (hk:k<=64) :
  (k<64->scS l h (b+1) s = .ok ⟨s.lc ++ [b],s.us,s.ss,s.op⟩/\(s.lc ++ [b]).map (txtS l)=(List.range (k+1)).map nmB)/\(k=64->∃ z,scS l h (b+1) s = .error (2,z)):=by
 have hd:G.Lies C l (declF (p+1) k) b:=(G.lies_parts hl).1
 obtain ⟨d1,d2,d3,d4⟩:=decl_sc P hd true s
 have e:=(blk_sc P hl h s).1
 have e:scS l h (b+1) s=(match kidsG (scS l true) [b] s with | .error e=>.error e | .ok s'=>.ok { s' with op:=s'.op.take s.op.length }):=e
 have e2:kidsG (scS l true) [b] s=declG l true b s:=by
  show thenG (scS l true b s) (fun s=>.ok s)=_
  rw [d1]
  cases declG l true b s<;>rfl
 rw [e2] at e
 have hlen:=names_len hn
 have hf:=find_new hn (by omega) d2
 constructor
 ·intro hk
  refine ⟨?_,?_⟩
  ·rw [e]
   unfold declG
   rw [hf]
   simp only
   rw [if_neg (by omega),if_pos d3,if_pos ⟨trivial,by omega⟩]
   simp
  ·rw [List.map_append,hn,List.range_succ,List.map_append]
   simp [d2]
 ·intro hk
  refine ⟨sfrS l b,?_⟩
  rw [e]
  unfold declG
  rw [hf]
  simp only
  rw [if_pos (by omega)]
theorem sts_sc (P:ProgOk l root):∀ (n p k b:Nat) (s:Sc),G.Lies C l (stsF p k n u) b->s.lc.map (txtS l)=(List.range k).map nmB->k<=64 ->
  (k+n<=64->∃ L,kidsG (scS l h) ((stsF p k n u).idx b) s=kidsG (scS l h) (u.idx (b+2*n)) ⟨L,s.us,s.ss,s.op⟩/\L.map (txtS l)=(List.range (k+n)).map nmB) /\
  (64<k+n->∃ z,kidsG (scS l h) ((stsF p k n u).idx b) s = .error (2,z)):=by
 intro n
 induction n with
 | zero=>intro p k b s hl hn hk;exact ⟨fun _=>⟨s.lc,rfl,hn⟩,fun q=>absurd q (by omega)⟩
 | succ n ih =>
  intro p k b s hl hn hk
  obtain ⟨hs,p3⟩:=lies_app (f:=stF p k) (g:=stsF (p+5) (k+1) n u) hl
  have p3:G.Lies C l (stsF (p+5) (k+1) n u) (b+2):=p3
  obtain ⟨s1,s2⟩:=st_sc P hs h s hn hk
  have hx:(stsF p k (n+1) u).idx b=(b+1) :: (stsF (p+5) (k+1) n u).idx (b+2):=rfl
  have hg:kidsG (scS l h) ((b+1) :: (stsF (p+5) (k+1) n u).idx (b+2)) s=thenG (scS l h (b+1) s) (kidsG (scS l h) ((stsF (p+5) (k+1) n u).idx (b+2))):=rfl
  rw [hx,hg]
  by_cases h64:k=64
  ·obtain ⟨z,hz⟩:=s2 h64
   rw [hz]
   exact ⟨fun q=>absurd q (by omega),fun _=>⟨z,rfl⟩⟩
  ·obtain ⟨e1,e2⟩:=s1 (by omega)
   rw [e1]
   obtain ⟨i1,i2⟩:=ih (p+5) (k+1) (b+2) ⟨s.lc ++ [b],s.us,s.ss,s.op⟩ p3 e2 (by omega)
   refine ⟨fun q=>?_,fun q=>?_⟩
   ·obtain ⟨L,L1,L2⟩:=i1 (by omega)
    refine ⟨L,?_,by rw [L2,show k+1+n=k+(n+1) by omega]⟩
    rw [show b+2*(n+1)=b+2+2*n by omega]
    exact L1
   ·obtain ⟨z,hz⟩:=i2 (by omega)
    exact ⟨z,hz⟩
theorem end_sc (P:ProgOk l root) {t:Nat} (hl:G.Lies C l (endF p (some t)) b) (hn:s.lc.map (txtS l)=(List.range k).map nmB) (ht:t<k):∃ z,kidsG (scS l h) ((endF p (some t)).idx b) s = .error (4,z):=by
 have h1:G.Lies C l (blkF (p+1) (declF (p+2) t) (p+6)) b:=(G.lies_parts hl).1
 have h2:G.Lies C l (declF (p+2) t) b:=(G.lies_parts h1).1
 obtain ⟨d1,d2,d3,d4⟩:=decl_sc P h2 true s
 obtain ⟨j,hj⟩:=find_old hn ht d2
 have e0:declG l true b s = .error (4,sfrS l b):=by unfold declG;rw [hj]
 have e1:kidsG (scS l true) [b] s = .error (4,sfrS l b):=by
  show thenG (scS l true b s) _=_
  rw [d1,e0];rfl
 have e2:scS l true (b+1) s = .error (4,sfrS l b):=by
  have:=(blk_sc P h1 true s).1
  have this:scS l true (b+1) s=(match kidsG (scS l true) [b] s with | .error e=>.error e | .ok s'=>.ok { s' with op:=s'.op.take s.op.length }):=this
  rw [this,e1]
 have e3:scS l h (b+2) s = .error (4,sfrS l b):=by
  have:=(blk_sc P hl h s).1
  have this:scS l h (b+2) s=(match kidsG (scS l true) [b+1] s with | .error e=>.error e | .ok s'=>.ok { s' with op:=s'.op.take s.op.length }):=this
  have ek:kidsG (scS l true) [b+1] s = .error (4,sfrS l b):=by
   show thenG (scS l true (b+1) s) _=_
   rw [e2];rfl
  rw [this,ek]
 refine ⟨sfrS l b,?_⟩
 show thenG (scS l h (b+2) s) _=_
 rw [e3];rfl
end
theorem one_method {l:List Nd} {m:Nat} (hm:m<l.length) (hk:kndS l m=6) (h:∀ x,x<l.length->x≠m->kndS l x≠6/\kndS l x≠5):methS l 0=(m:Int):=by
 have e:allS l l.length=[m]:=by
  apply List.perm_singleton.1
  refine (List.perm_ext_iff_of_nodup (List.nodup_range.filter _) (by simp)).2 (fun x=>?_)
  rw [List.mem_filter,List.mem_range,List.mem_singleton]
  constructor
  ·rintro ⟨h1,h2⟩
   apply Classical.byContradiction
   intro hne
   obtain ⟨a,b⟩:=h x h1 hne
   simp [a,b] at h2
  ·rintro rfl
   exact ⟨hm,by simp [hk]⟩
 unfold methS
 rw [e]
 simp
theorem many_scope {C:PC} {n j:Nat} {o:Option Nat} (hO:G.Ok (manyF n o)) (hn:n<=80) {l:List Nd} (hl:l=(manyF n o).post C 0 ++ [G.progN C (manyF n o) j]) :
  methS l 0=((bodyF n o).size+1:Nat) /\
  (64<n->∃ z,ofS l ((l.length:Int)-1) (methS l 0) = .error (2,z)) /\
  (n<=64->(o=none->∃ s,ofS l ((l.length:Int)-1) (methS l 0) = .ok s/\s.lc.map (txtS l)=(List.range n).map nmB)/\(∀ t,o=some t->t<n->∃ z,ofS l ((l.length:Int)-1) (methS l 0) = .error (4,z))):=by
 have hsz:=manyF_size (o:=o) hn
 have hc:checkE l ((l.length:Int)-1)=0:=by rw [hl];exact G.prog_check hO (by omega)
 have P:=check_ok l _ hc
 have hlen:l.length=(manyF n o).size+1:=by rw [hl,List.length_append,G.Fo.post_len];rfl
 have hL:G.Lies C l (manyF n o) 0:=fun q hq=>by rw [Nat.zero_add,hl,List.getElem?_append_left (by rw [G.Fo.post_len];exact hq)]
 obtain ⟨a1,a2,-⟩:=G.lies_parts hL
 obtain ⟨b1,b2,-⟩:=G.lies_parts a1
 obtain ⟨c1,c2,-⟩:=G.lies_parts b1
 have hms:(manyF n o).size=(bodyF n o).size+3:=rfl
 have b2:l[(bodyF n o).size+1]? = some ((G.ant 6 (⟨#[102]⟩:ByteArray) (G.baseT 6 (⟨#[118,111,105,100]⟩:ByteArray) 3) 3 (8+5*n+endN o+1)).nd C [(bodyF n o).size]):=by
  have:=b2
  rw [Nat.zero_add] at this
  rw [show (G.one (G.an 8 ⟨#[]⟩ 7 (8+5*n+endN o+1)) (bodyF n o)).idx 0=[(bodyF n o).size] from by rw [G.one_idx,Nat.zero_add]] at this
  exact this
 have a2:l[(bodyF n o).size+2]? = some ((G.an 2 (⟨#[65]⟩:ByteArray) 0 (8+5*n+endN o+2)).nd C [(bodyF n o).size+1]):=by
  have:=a2
  rw [Nat.zero_add] at this
  rw [G.one_idx,Nat.zero_add] at this
  exact this
 have hlast:l[(bodyF n o).size+3]? = some (G.progN C (manyF n o) j):=by
  rw [hl,List.getElem?_append_right (by rw [G.Fo.post_len];omega),G.Fo.post_len,hms,Nat.sub_self];rfl
 obtain ⟨m1,m2,m3,m4⟩:=nd_at b2
 have m1:kndS l ((bodyF n o).size+1)=6:=m1
 have k89:∀ q,q<(bodyF n o).size->kndS l q=8\/kndS l q=9:=by
  have hst:∀ (m p k:Nat) (u:G.Fo),u.All (fun a _=>a.kind=8\/a.kind=9)->(stsF p k m u).All (fun a _=>a.kind=8\/a.kind=9):=by
   intro m
   induction m with
   | zero=>intro p k u hu;exact hu
   | succ m ih=>intro p k u hu;exact ⟨.inl rfl,⟨.inr rfl,trivial,trivial⟩,ih _ _ u hu⟩
  have he:∀ p,(endF p o).All (fun a _=>a.kind=8\/a.kind=9):=fun p=>by
   cases o with
   | none=>exact trivial
   | some t=>exact ⟨.inl rfl,⟨.inl rfl,⟨.inr rfl,trivial,trivial⟩,trivial⟩,trivial⟩
  intro q hq
  exact lies_all (P:=fun z=>z=8\/z=9) _ 0 c1 (hst _ _ _ _ (he _)) q (Nat.zero_le _) (by omega)
 have hmeth:methS l 0=((bodyF n o).size+1:Nat):=by
  refine one_method m4 m1 (fun x hx hne=>?_)
  by_cases h1:x<(bodyF n o).size
  ·have:=k89 x h1;omega
  ·by_cases h2:x=(bodyF n o).size
   ·subst h2
    have:kndS l (0+(bodyF n o).size)=8:=(nd_at c2).1
    rw [Nat.zero_add] at this;omega
   ·by_cases h3:x=(bodyF n o).size+2
    ·subst h3
     have:kndS l ((bodyF n o).size+2)=2:=(nd_at a2).1
     omega
    ·have h4:x=(bodyF n o).size+3:=by omega
     subst h4
     have:kndS l ((bodyF n o).size+3)=1:=by unfold kndS;rw [hlast];exact (G.prog_facts (C:=C) (manyF n o) j).2.1
     omega
 have hof:ofS l ((l.length:Int)-1) (methS l 0)=scS l (inBlockS l ((bodyF n o).size+1)) ((bodyF n o).size+1) start:=by
  rw [hmeth,ofS_walk hc (by rintro (q|q|q);omega;omega;exact q.1 m1)]
  rfl
 have hsc:∀ h,scS l h ((bodyF n o).size+1) start=(match kidsG (scS l true) ((bodyF n o).idx 0) start with | .error e=>.error e | .ok s'=>.ok { s' with op:=s'.op.take 0 }):=by
  intro h
  rw [sc_eq P m4,m3]
  have hb:=(blk_sc (p:=7) (q:=8+5*n+endN o+1) P b1 (h || decide (kndS l ((bodyF n o).size+1)=8)) start).1
  rw [Nat.zero_add] at hb
  show thenG (thenG (scS l _ (bodyF n o).size start) (fun s=>.ok s)) _=_
  rw [hb]
  cases kidsG (scS l true) ((bodyF n o).idx 0) start with
  | error e=>rfl
  | ok s' =>
   show selfG l h ((bodyF n o).size+1) start.op.length { s' with op:=s'.op.take 0 }=_
   unfold selfG
   rw [if_neg (by omega),if_neg (by omega),if_neg (by omega),if_neg (by omega)]
 obtain ⟨r1,r2⟩:=sts_sc (h:=true) P n 8 0 0 start c1 rfl (by omega)
 refine ⟨hmeth,fun h64=>?_,fun h64=>⟨fun ho=>?_,fun t ho ht=>?_⟩⟩
 ·obtain ⟨z,hz⟩:=r2 (by omega)
  have hz:kidsG (scS l true) ((bodyF n o).idx 0) start = .error (2,z):=hz
  exact ⟨z,by rw [hof,hsc,hz]⟩
 ·obtain ⟨L,hz,hLn⟩:=r1 (by omega)
  have hz:kidsG (scS l true) ((bodyF n o).idx 0) start=kidsG (scS l true) ((endF (8+5*n) o).idx (0+2*n)) ⟨L,_,_,_⟩:=hz
  subst ho
  have hz:kidsG (scS l true) ((bodyF n none).idx 0) start = .ok ⟨L,start.us,start.ss,start.op⟩:=hz
  refine ⟨⟨L,start.us,start.ss,[]⟩,by rw [hof,hsc,hz];rfl,?_⟩
  rw [Nat.zero_add] at hLn
  exact hLn
 ·obtain ⟨L,hz,hLn⟩:=r1 (by omega)
  have hz:kidsG (scS l true) ((bodyF n o).idx 0) start=kidsG (scS l true) ((endF (8+5*n) o).idx (0+2*n)) ⟨L,start.us,start.ss,start.op⟩:=hz
  subst ho
  rw [Nat.zero_add] at hLn hz
  have hle:G.Lies C l (endF (8+5*n) (some t)) (2*n):=by
   have:=lies_end (C:=C) (l:=l) n 8 0 0 c1
   rw [Nat.zero_add] at this
   exact this
  obtain ⟨z,he⟩:=end_sc (s:=⟨L,start.us,start.ss,start.op⟩) (h:=true) P hle hLn ht
  exact ⟨z,by rw [hof,hsc,hz,he]⟩
end Go.Proofs.YtfehpdliobapfaaGreatDoor.S
namespace Go.Proofs.YtfehpdliobapfaaGreatDoor.S
open Go Go.RowKit
theorem strN_app (a b:List Nat):L.strN (a ++ b)=L.strN a ++ L.strN b:=by
 apply ByteArray.ext
 rw [ByteArray.data_append]
 apply Array.ext'
 rw [Array.toList_append]
 unfold L.strN L.ofN
 simp
theorem nats_strN {a:List Nat} (h:∀ c ∈ a,c<256):L.natsOf (L.strN a)=a:=by
 unfold L.natsOf L.strN L.ofN
 simp only [List.toList_toArray,List.map_map]
 conv=>rhs;rw [<- List.map_id a]
 apply List.map_congr_left
 intro c hc
 have:=h c hc
 simp [Nat.mod_eq_of_lt this]
theorem sts_snoc:∀ (n k:Nat),stsL k (n+1)=stsL k n ++ stL (k+n)
 | 0,k=>by show stL k ++ []=[] ++ stL k;simp
 | n+1,k=>by
  show stL k ++ stsL (k+1) (n+1)=(stL k ++ stsL (k+1) n) ++ stL (k+(n+1))
  rw [sts_snoc n (k+1),List.append_assoc,show k+1+n=k+(n+1) by omega]
def stsB (n:Nat):ByteArray:=L.strN (stsL 0 n)
def sfxB (q:Nat):ByteArray:=if q=0 then ⟨#[]⟩ else ⟨#[121]⟩
theorem run_strN (k n:Nat) (hk:k<256):L.strN (List.replicate n k)=runL k.toUInt8 n:=by
 unfold L.strN L.ofN runL
 simp
theorem st_text (i:Nat):L.strN (stL i)=(⟨#[123,105,110,116,32]⟩:ByteArray) ++ runL 120 (i % 40+1) ++ sfxB (i / 40) ++ (⟨#[59,125]⟩:ByteArray):=by
 unfold stL nmL
 rw [strN_app,strN_app,strN_app,run_strN 120 _ (by decide)]
 have e:L.strN (if i / 40=0 then [] else [121])=sfxB (i / 40):=by
  unfold sfxB
  split<;>rfl
 rw [e,<- ByteArray.append_assoc,<- ByteArray.append_assoc]
 rfl
theorem sts_next (n:Nat):stsB (n+1)=stsB n ++ ((⟨#[123,105,110,116,32]⟩:ByteArray) ++ runL 120 (n % 40+1) ++ sfxB (n / 40) ++ (⟨#[59,125]⟩:ByteArray)):=by
 unfold stsB
 rw [sts_snoc,strN_app,Nat.zero_add,st_text]
theorem strN_size (a:List Nat):(L.strN a).size=a.length:=by
 show (L.ofN a).toArray.size=_
 unfold L.ofN
 simp
theorem stsB_size (n:Nat):(stsB n).size<=48*n:=by unfold stsB;rw [strN_size];exact stsL_len 0 n
theorem many_text (n:Nat):(⟨#[99,108,97,115,115,32,65,32,123,32,118,111,105,100,32,102,40,41,32,123]⟩:ByteArray) ++ stsB n ++ (⟨#[125,32,125]⟩:ByteArray)=L.strN (manyL n none):=by
 unfold manyL stsB
 rw [strN_app,strN_app,<- ByteArray.append_assoc]
 rfl
theorem twice_text (n t:Nat):(⟨#[99,108,97,115,115,32,65,32,123,32,118,111,105,100,32,102,40,41,32,123]⟩:ByteArray) ++ stsB n ++ (⟨#[123,123,105,110,116,32]⟩:ByteArray) ++ nmB t ++ (⟨#[59,125,125,125,32,125]⟩:ByteArray)=L.strN (manyL n (some t)):=by
 unfold manyL stsB nmB endL
 rw [strN_app,strN_app,strN_app,strN_app]
 simp only [<- ByteArray.append_assoc]
 rfl
theorem many_bytes (n:Nat) (o:Option Nat):∀ c ∈ manyL n o,c<256:=by
 have hn:∀ i,∀ c ∈ nmL i,c<256:=fun i c hc=>by
  unfold nmL at hc
  rcases List.mem_append.1 hc with h|h
  ·have:=(List.mem_replicate.1 h).2;omega
  ·split at h
   ·cases h
   ·rw [List.mem_singleton] at h;omega
 have hs:∀ n k,∀ c ∈ stsL k n,c<256:=by
  intro n
  induction n with
  | zero=>intro k c hc;cases hc
  | succ n ih =>
   intro k c hc
   rcases List.mem_append.1 (show c ∈ stL k ++ stsL (k+1) n from hc) with h|h
   ·unfold stL at h
    rcases List.mem_append.1 h with h|h
    ·simp at h;omega
    ·rcases List.mem_append.1 h with h|h
     ·exact hn k c h
     ·simp at h;omega
   ·exact ih _ c h
 intro c hc
 unfold manyL at hc
 rcases List.mem_append.1 hc with h|h
 ·unfold shlL at h;simp at h;omega
 ·rcases List.mem_append.1 h with h|h
  ·exact hs _ _ c h
  ·cases o with
   | none=>simp [endL] at h;omega
   | some t =>
    unfold endL at h
    rcases List.mem_append.1 h with h|h
    ·simp at h;omega
    ·rcases List.mem_append.1 h with h|h
     ·exact hn t c h
     ·simp at h;omega
theorem manyK_len (n:Nat) (o:Option Nat):(manyK n o).length=8+5*n+endN o+2:=by
 have h1:∀ n k,(stsK k n).length=5*n:=by
  intro n
  induction n with
  | zero=>intro k;rfl
  | succ n ih =>
   intro k
   show (stK k ++ stsK (k+1) n).length=_
   rw [List.length_append,ih]
   show 5+_=_
   omega
 unfold manyK
 rw [List.length_append,List.length_append,h1]
 have:shlK.length=8:=rfl
 cases o with
 | none=>simp [this,endK,endN];omega
 | some t=>simp [this,endK,endN];omega
structure ManyR (x:ByteArray) (n:Nat) (o:Option Nat):Prop where
 size:x.size<=maxLen
 is:∃ l,parsedX x=(l,0,0)/\In64 (methS l 0)/\0<=methS l 0 /\
  (64<n->∃ z,ofS l ((l.length:Int)-1) (methS l 0) = .error (2,z)) /\
  (n<=64->(o=none->∃ s,ofS l ((l.length:Int)-1) (methS l 0) = .ok s/\s.lc.map (txtS l)=(List.range n).map nmB)/\(∀ t,o=some t->t<n->∃ z,ofS l ((l.length:Int)-1) (methS l 0) = .error (4,z)))
theorem many_read {x:ByteArray} {n:Nat} {o:Option Nat} (hx:x=L.strN (manyL n o)) (hn:n<=80) (ho:Small o):ManyR x n o:=by
 have hb:=stsL_len 0 n
 have he:=endL_len o
 have hsz:x.size<=5000:=by
  rw [hx,strN_size]
  unfold manyL
  rw [List.length_append,List.length_append]
  have:shlL.length=20:=rfl
  omega
 have hw:L.WLex (L.natsOf x) (manyK n o):=by rw [hx,nats_strN (many_bytes n o)];exact wl_blks hn ho
 obtain ⟨h1,h2⟩:=lies_of hw
 rw [manyK_len] at h2
 have hc:=(lex_wl hw).1
 have nm:∀ y,(pcOf x).name y=nameF y:=fun y=>name_fast y
 have cs:=dv_many (C:=pcOf x) (fun i hi=>by rw [nm];exact (names_all.1 i hi).1) (by rw [nm];decide +kernel) (by rw [nm];decide +kernel) hn ho h1 h2
 have hms:=manyF_size (o:=o) hn
 obtain ⟨t,ht,hmade⟩:=G.parse_run (G.pc_sz hc) (G.pc_kw hc) (G.pc_len hc).1 (G.pc_len hc).2 cs (.inr (by omega))
 have hp:parsedX x=(t.made,0,0):=parsed_ok hc ht
 obtain ⟨m1,m2,m3⟩:=many_scope (j:=8+5*n+endN o+2) (G.classes_ok (G.pc_sz hc) cs) hn hmade
 refine ⟨by unfold maxLen;omega,t.made,hp,?_,by rw [m1];omega,m2,m3⟩
 have hbs:(bodyF n o).size<=200:=by
  have:(manyF n o).size=(bodyF n o).size+3:=rfl
  omega
 rw [m1]
 unfold In64
 omega
theorem index3s (q:Nat) (hq:q<2) (w:World):Sem.run Tryz.prog (Instr.index 66 (.agg #[.string ⟨#[]⟩,.string ⟨#[121]⟩,.string ⟨#[122]⟩]) (.int .i64 (q:Int))) w=Result.ok (.string (sfxB q)) w:=by
 rcases (by omega:q=0\/q=1) with rfl|rfl<;>kernel_rfl
theorem bel_alloc {W w:World} (h:Below W.heap.size W w) (o:Obj):Below W.heap.size W (w.alloc o):=h.alloc h.size o
theorem bel_set {W w:World} {p:Addr} (h:Below W.heap.size W w) (v:Value) (hp:W.heap.size<=p.block):Below W.heap.size W (w.setCell p v):=h.setCell hp v
theorem drew_size (w:World) (o:Obj):(w.alloc o).drew.heap.size=w.heap.size+1:=by show (w.alloc o).heap.size=_;simp
theorem new_boxd {w w1:World} {T:TypeId} {cs:Array Value} (h:Below (w.alloc (.cells cs T)).drew.heap.size (w.alloc (.cells cs T)).drew w1):Bx T w1 w.heap.size cs.toList :=
 ((Bx.new T w cs).keep ((Below.refl _ _).drew)).keep h
theorem _root_.Go.Proofs.YtfehpdliobapfaaGreatDoor.S.ScX.own_ge {l:List Nd} {w:World} {B:Nat} {S:ScV} {s:Sc} {c:Nat} (h:ScX l w B S s c) {k:Nat} (hk:S.own k):B<=k:=by
 rcases hk with rfl|rfl|rfl|hk
 ·exact h.bs
 ·exact h.bu
 ·exact h.bm
 ·rcases h.row.2 with ⟨q,_⟩|⟨g,cap,cur,q,hg,_⟩
  ·rw [q] at hk;cases hk
  ·rw [q] at hk;cases hk;exact hg
theorem _root_.Go.Proofs.YtfehpdliobapfaaGreatDoor.S.ScX.other {l:List Nd} {w:World} {B:Nat} {S:ScV} {s:Sc} {c:Nat} (h:ScX l w B S s c) {p:Addr} (v:Value) (hp:p.block<B):ScX l (w.setCell p v) B S s c :=
 h.at_ (by simp [World.setCell]) (fun k hk=>by
  have:=h.own_ge hk
  have hne:p.block≠k:=by omega
  simp [World.setCell,Array.getElem?_modify,hne])
theorem sfx_size (q:Nat):(sfxB q).size<=1:=by unfold sfxB;split<;>decide
set_option maxRecDepth 100000 in
set_option maxHeartbeats 8000000 in
theorem manyz_any (n t:Int) (wn:(Lit.int .i64 n).wf=true) (wt:(Lit.int .i64 t).wf=true) (w:World) (hT:ShTab w):Calls Tryz.prog 13 #[.int .i64 n,.int .i64 t] w fun e w'=>e = .returned (.bool true)/\Below w.heap.size w w':=by
 have HR:=Lib.hid (means_any w hT)
 have HT:=Lib.hid hT
 by_cases h0:n<0
 ·have p0:decide (n<0)=true:=decide_eq_true h0
  clear h0 hT
  go_enter Tryz.func13,Tryz.ntmps13
  go_wp2_with fail
  refine HR.out.mono ?_
  rintro e w1 ⟨rfl,hb⟩
  have B1:=Lib.hid hb
  clear hb
  go_wp2_with fail
  go_ret
  exact ⟨rfl,B1.out⟩
 have p0:decide (n<0)=false:=decide_eq_false h0
 by_cases h1:80<n
 ·have p1:decide (n > 80)=true:=decide_eq_true h1
  have p2:decide (80<n)=true:=decide_eq_true h1
  clear h0 h1 hT
  go_enter Tryz.func13,Tryz.ntmps13
  go_wp2_with fail
  refine HR.out.mono ?_
  rintro e w1 ⟨rfl,hb⟩
  have B1:=Lib.hid hb
  clear hb
  go_wp2_with fail
  go_ret
  exact ⟨rfl,B1.out⟩
 have p1:decide (n > 80)=false:=decide_eq_false h1
 have p2:decide (80<n)=false:=decide_eq_false h1
 obtain ⟨n,rfl⟩:∃ q:Nat,n=q:=⟨n.toNat,by omega⟩
 have hn:n<=80:=by omega
 have HN:=Lib.hid hn
 have HMR:=Lib.hid (many_read (many_text n) hn (fun t h=>by cases h))
 clear h0 h1 hT
 go_enter Tryz.func13,Tryz.ntmps13
 go_wp2_with fail
 refine HR.out.mono ?_
 rintro e w1 ⟨rfl,hb⟩
 have B1:=Lib.hid hb
 clear hb
 go_wp2_with fail
 go_loopg [5,25] n (fun gk sv iv wr=>∃ j:Nat,iv = .int .i64 (j:Int)/\j+gk=n/\sv = .string (stsB j)/\Below w1.heap.size w1 wr)
 case atStart=>exact ⟨0,rfl,by omega,rfl,Below.refl _ _⟩
 case round =>
  obtain ⟨j,rfl,hj,rfl,hbel⟩:=hrel
  rename World=>wr
  have BR:=Lib.hid hbel
  cases gk with
  | succ gk =>
   have hjn:j<n:=by omega
   have HNX:=Lib.hid (sts_next j)
   have hr1:(j:Int).tmod 40=((j % 40:Nat):Int):=by rw [Int.tmod_eq_emod_of_nonneg (by omega)];omega
   have hr2:(j:Int).tdiv 40=((j / 40:Nat):Int):=by rw [Int.tdiv_eq_ediv_of_nonneg (by omega)];omega
   have hm:=Nat.mod_lt j (show 0<40 by omega)
   have hd:j / 40<2:=by omega
   have HI:=Lib.hid (fun w=>index3s (j / 40) hd w)
   have hx:=sfx_size (j / 40)
   have hst:=stsB_size j
   generalize j % 40=r at *
   generalize j / 40=q at *
   have HP:=Lib.hid (fun (w2:World)=>repL_any 120 (r+1) w2 (by omega))
   have hxs:=runL_size 120 (r+1)
   generalize runL 120 (r+1)=xs at *
   generalize sfxB q=sx at *
   generalize stsB j=st at *
   have s0:¬ 9223372036854775807<5+xs.size:=by omega
   have s1:¬ 9223372036854775807<5+xs.size+sx.size:=by omega
   have s2:¬ 9223372036854775807<5+xs.size+sx.size+2:=by omega
   have s3:¬ 9223372036854775807<st.size+(5+xs.size+sx.size+2):=by omega
   have hr3:IntKind.i64.wrap ((r:Int)+1)=((r+1:Nat):Int):=by rw [IntWalk.i64_in _ ⟨by omega,by omega⟩];rfl
   have hq4:IntKind.i64.wrap (q:Int)=(q:Int):=IntWalk.i64_in _ ⟨by omega,by omega⟩
   have hix:=HI.out
   clear hxs hst hx hm hd hbel
   go_wp2_with fail
   go_upto_region 9 with fail
   go_region_held3 (fun w'=>Below w1.heap.size w1 w') (first|exact BR.out.drew|exact after BR.out.drew hb2) (first|(go_at_call 56;go_split_ands;refine (HP.out _).mono ?_;rintro e w3 ⟨rfl,hb2⟩))
   all_goals
    go_wp2_with fail
    have BN:Hid (Below w1.heap.size w1 w3):=Lib.hid (by assumption)
    go_roundg gk
    case measure=>omega
    case rel =>
     refine ⟨j+1,by go_num,by omega,?_,BN.out⟩
     rw [HNX.out]
  | zero =>
   have e:j=n:=by omega
   subst e
   have hsz:=HMR.out.size
   obtain ⟨l,hl,hin,h0,hbig,hsm⟩:=HMR.out.is
   have HB:=Lib.hid hbig
   have HS:=Lib.hid hsm
   have HIN:=Lib.hid hin
   have hst:=stsB_size j
   have s0:¬ 9223372036854775807<20+(stsB j).size:=by omega
   have s1:¬ 9223372036854775807<20+(stsB j).size+3:=by omega
   have s2:¬ 9223372036854775807<20+(stsB j).size+6:=by omega
   have HSZ:Hid ((stsB j).size<=4000):=Lib.hid (by omega)
   have HTW:=Lib.hid (fun (tn:Nat) (h:tn<j)=>many_read (twice_text j tn) hn (fun q hq=>by cases hq;omega))
   have HPA:=Lib.hid (fun (w2:World)=>parse_any _ w2 hsz)
   rw [hl] at HPA
   have d1:decide ((j:Int)<(j:Int))=false:=decide_eq_false (by omega)
   have d2:¬ (j:Int)<(j:Int):=by omega
   clear hbig hsm hin hsz hl hbel hst
   generalize stsB j=st at *
   go_wp2_with fail
   refine (HPA.out _).mono ?_
   rintro e w2 ⟨hb2,v,root,rfl,hyes,-⟩
   obtain ⟨rfl,hn2,h02,hl2,hgood⟩:=hyes rfl
   have B2:=Lib.hid (after B1.out (after BR.out hb2))
   have N2:=Lib.hid hn2
   have L2:=Lib.hid hl2
   have HG:Hid (∀ y ∈ l,NdFit y):=Lib.hid (fun y hy=>good_fit (hgood y hy))
   obtain ⟨s1,c1,rfl,-⟩:=id hn2.nds
   clear hyes hn2 h02 hl2 hgood hb2 HPA
   have T3:Hid (Bx 25 ((w2.alloc (.cells #[.slice s1 l.length c1,.int .i64 ((l.length:Int)-1)] 25)).alloc (.cells #[.int .i64 0,.int .i64 0] 28)) w2.heap.size [.slice s1 l.length c1,.int .i64 ((l.length:Int)-1)]):=Lib.hid ((Bx.new 25 w2 #[.slice s1 l.length c1,.int .i64 ((l.length:Int)-1)]).alloc _)
   have BT:Hid (Below w2.heap.size w2 ((w2.alloc (.cells #[.slice s1 l.length c1,.int .i64 ((l.length:Int)-1)] 25)).alloc (.cells #[.int .i64 0,.int .i64 0] 28))):=Lib.hid (by repeat (first|exact Below.refl _ _|apply Below.setCell _ (by first|omega|(simp<;>omega))|apply Below.alloc _ (by first|omega|(simp<;>omega))))
   go_wp2_with fail
   generalize (w2.alloc (.cells #[.slice s1 l.length c1,.int .i64 ((l.length:Int)-1)] 25)).alloc (.cells #[.int .i64 0,.int .i64 0] 28)=w3 at *
   have B3:=Lib.hid (after B2.out BT.out)
   have HME:=Lib.hid (fun (W:World) (hb:Below w3.heap.size w3 W)=>method_any l (.slice s1 l.length c1) ((l.length:Int)-1) 0 W (N2.out.nds.step (after BT.out hb)) (by have:=L2.out;omega) (by unfold In64;omega))
   have HO:=Lib.hid (fun (W:World) (hb:Below w3.heap.size w3 W)=>of_any l (.slice s1 l.length c1) ((l.length:Int)-1) (methS l 0) W (HT.out.step (after B3.out hb)) (N2.out.nds.step (after BT.out hb)) (by have:=L2.out;omega) HG.out)
   obtain ⟨n,hnn⟩:∃ n,l.length=n:=⟨_,rfl⟩
   rw [hnn] at HME HO T3 ⊢
   have HALL:Hid (∀ W:World,Below w3.heap.size w3 W->W.cell? ⟨w2.heap.size,0,none⟩=some (.slice s1 n c1)/\W.cell? ⟨w2.heap.size,1,none⟩=some (.int .i64 ((n:Int)-1))/\w3.heap.size<=W.heap.size/\Below w3.heap.size w3 W):=Lib.hid (fun W h=>⟨(T3.out.keep h).cell 0,(T3.out.keep h).cell 1,h.size,h⟩)
   generalize methS l 0=m at *
   by_cases h64:64<j
   ·obtain ⟨z,hz⟩:=HB.out h64
    rw [hnn] at hz
    have HOE:Hid (∀ W:World,Below w3.heap.size w3 W->Calls Tryz.prog 45 #[.agg #[.slice s1 n c1,.int .i64 ((n:Int)-1)],.int .i64 m] W fun e w'=>e = .returned (.tuple #[.pointer none,.agg #[.int .i64 2,.int .i64 z]])/\Below W.heap.size W w'):=Lib.hid (fun W hb=>(HO.out W hb).mono (by
     rintro e w' ⟨hb',⟨k,z',hr,he,-⟩|⟨s,S,hr,-⟩⟩
     ·rw [hz] at hr;cases hr;exact ⟨he,hb'⟩
     ·rw [hz] at hr;cases hr))
    have z1:decide ((j:Int) > 64)=true:=decide_eq_true (by omega)
    have z2:decide ((64:Int)<(j:Int))=true:=decide_eq_true (by omega)
    have z3:decide (64<j)=true:=decide_eq_true h64
    clear h64 hz HO HB HS hnn
    go_region_held3 (fun w'=>w'.cell? ⟨w2.heap.size,0,none⟩=some (.slice s1 n c1)/\w'.cell? ⟨w2.heap.size,1,none⟩=some (.int .i64 ((n:Int)-1))/\w3.heap.size<=w'.heap.size/\Below w3.heap.size w3 w') (first|exact HALL.out _ ((Below.refl _ _).drew)|exact HALL.out _ ((bel_alloc (Below.refl _ _) _).drew)|exact HALL.out _ (after (by assumption) hb2)|(go_split_ands;exact HALL.out _ (bel_alloc (by assumption) _))|exact HALL.out _ (bel_alloc (after (by assumption) hb2) _)|(go_split_ands;exact HALL.out _ (bel_set (bel_set (by assumption) _ (by first|assumption|exact Nat.le_refl _|omega)) _ (by first|assumption|exact Nat.le_refl _|omega)))|(go_split_ands;exact HALL.out _ (bel_set (bel_set (after (by assumption) hb2) _ (by first|assumption|exact Nat.le_refl _|omega)) _ (by first|assumption|exact Nat.le_refl _|omega)))) (first|(go_at_call 44;go_split_ands;refine (HME.out _ (by assumption)).mono ?_;rintro e w5 ⟨rfl,hb2⟩;have hs5:=(after (show Below w3.heap.size w3 _ from by assumption) hb2).size;(first|(have hX5:=(new_box hb2).2)|(have hX5:=new_boxd hb2)|skip))|(go_at_call 45;go_split_ands;refine (HOE.out _ (by assumption)).mono ?_;rintro e w6 ⟨rfl,hb2⟩;(first|(have hX6:=hX5.keep hb2)|(have hX6:=(new_box hb2).2)|skip);(first|(have x0:=hX6.two.1;have x1:=hX6.two.2.1;have xl:=hX6.two.2.2.1;have xf:=hX6.two.2.2.2)|skip)))
    all_goals
     go_split_ands
     go_wp2_with fail
     go_ret
     exact ⟨rfl,after B3.out (by assumption)⟩
   ·have HLE:j<=64:=by omega
    obtain ⟨s,hs,hnm⟩:=(HS.out HLE).1 trivial
    rw [hnn] at hs
    have HNM:=Lib.hid hnm
    have HLN:=Lib.hid (names_len hnm)
    have HOK:Hid (∀ W:World,Below w3.heap.size w3 W->Calls Tryz.prog 45 #[.agg #[.slice s1 n c1,.int .i64 ((n:Int)-1)],.int .i64 m] W fun e w'=>∃ S,e = .returned (.tuple #[.pointer (some ⟨S.sb,0,none⟩),.agg #[.int .i64 0,.int .i64 0]])/\ScX l w' W.heap.size S s 16384/\Below W.heap.size W w'):=Lib.hid (fun W hb=>(HO.out W hb).mono (by
     rintro e w' ⟨hb',⟨k,z',hr,he,-⟩|⟨s',S,hr,he,hX⟩⟩
     ·rw [hs] at hr;cases hr
     ·rw [hs] at hr;cases hr;exact ⟨S,he,hX,hb'⟩))
    have HIL:Hid (∀ a ∈ s.lc,a<l.length):=Lib.hid (by
     obtain ⟨P,K,-⟩:=scope_ok (show scopeS l ((n:Int)-1) m (inBlockS l m.toNat) = .ok s from hs)
     exact fun a h=>K.lt P (K.inn.lcV a h).1)
    have z1:decide ((j:Int) > 64)=false:=decide_eq_false (by omega)
    have z2:decide ((64:Int)<(j:Int))=false:=decide_eq_false (by omega)
    have z3:decide (64<j)=false:=decide_eq_false h64
    clear h64 hs hnm HO HB HS hnn
    go_cut [9,10] from 49 to 55 (fun s9 s10 wz=>∃ S B sb,s9 = .pointer (some ⟨S.sb,0,none⟩)/\s10 = .pointer (some ⟨sb,0,none⟩)/\ScX l wz B S s 16384/\Below w3.heap.size w3 wz)
    case first =>
     go_region_held3 (fun w'=>w'.cell? ⟨w2.heap.size,0,none⟩=some (.slice s1 n c1)/\w'.cell? ⟨w2.heap.size,1,none⟩=some (.int .i64 ((n:Int)-1))/\w3.heap.size<=w'.heap.size/\Below w3.heap.size w3 w') (first|exact HALL.out _ ((Below.refl _ _).drew)|exact HALL.out _ ((bel_alloc (Below.refl _ _) _).drew)|exact HALL.out _ (after (by assumption) hb2)|(go_split_ands;exact HALL.out _ (bel_alloc (by assumption) _))|exact HALL.out _ (bel_alloc (after (by assumption) hb2) _)|(go_split_ands;exact HALL.out _ (bel_set (bel_set (by assumption) _ (by first|assumption|exact Nat.le_refl _|omega)) _ (by first|assumption|exact Nat.le_refl _|omega)))|(go_split_ands;exact HALL.out _ (bel_set (bel_set (after (by assumption) hb2) _ (by first|assumption|exact Nat.le_refl _|omega)) _ (by first|assumption|exact Nat.le_refl _|omega)))) (first|(go_at_call 44;go_split_ands;refine (HME.out _ (by assumption)).mono ?_;rintro e w5 ⟨rfl,hb2⟩;have hs5:=(after (show Below w3.heap.size w3 _ from by assumption) hb2).size;have hz5:=hb2.size;(first|(have hX5:=(new_box hb2).2)|(have hX5:=new_boxd hb2)|skip))|(go_at_call 45;go_split_ands;refine (HOK.out _ (by assumption)).mono ?_;rintro e w6 ⟨S6,rfl,hS6,hb2⟩;(first|(have hX6:=hX5.keep hb2)|(have hX6:=(new_box hb2).2)|skip);(first|(have x0:=hX6.two.1;have x1:=hX6.two.2.1;have xl:=hX6.two.2.2.1;have xf:=hX6.two.2.2.2)|skip)))
     all_goals
      go_split_ands
      go_wp2_with fail
      go_meet
      refine ⟨S6,?_,_,rfl,rfl,?_,by assumption⟩
      rotate_left
      first
       | exact hS6
       | exact hS6.step (bel_alloc (Below.refl _ _) _)
       |(refine ScX.other (ScX.other hS6 _ ?_) _ ?_<;>(first|(simp;done)|(rw [drew_size] at hz5;exact hz5)|(rw [World.size_alloc] at hz5;exact hz5)|(simp;omega)))
    case rest =>
     obtain ⟨S,B,sb,rfl,rfl,hX,hb⟩:=hcut
     have X3:=Lib.hid hX
     have BX:=Lib.hid (after B3.out hb)
     have B34:=Lib.hid hb
     have HSC:=Lib.hid (sclen_any hX)
     rw [HLN.out] at HSC
     clear hX hb HALL HME HOK T3 B3
     go_wp2_with fail
     refine HSC.out.mono ?_
     rintro e w8 ⟨rfl,rfl⟩
     by_cases ht:t<0
     ·have y1:decide (t<0)=true:=decide_eq_true ht
      clear ht
      go_wp2_with fail
      go_ret
      exact ⟨rfl,BX.out⟩
     have y1:decide (t<0)=false:=decide_eq_false ht
     by_cases ht2:(j:Int)<=t
     ·have y2:decide (t ≥ (j:Int))=true:=decide_eq_true ht2
      have y3:decide ((j:Int)<=t)=true:=decide_eq_true ht2
      clear ht ht2
      go_wp2_with fail
      go_ret
      exact ⟨rfl,BX.out⟩
     obtain ⟨tn,rfl⟩:∃ q:Nat,t=q:=⟨t.toNat,by omega⟩
     have htj:tn<j:=by omega
     have y2:decide ((tn:Int) ≥ (j:Int))=false:=decide_eq_false (by omega)
     have y3:decide ((j:Int)<=(tn:Int))=false:=decide_eq_false (by omega)
     have y4:decide (j<=tn)=false:=decide_eq_false (by omega)
     have HMT:=Lib.hid (HTW.out tn htj)
     have HLO:=Lib.hid (locals_any X3.out HIL.out HG.out)
     clear ht ht2 HSC
     go_wp2_with fail
     refine HLO.out.mono ?_
     rintro e w9 ⟨v,rfl,hrow,hb9⟩
     have hv:=LocV.of_row hrow
     rw [HLN.out] at hrow
     obtain ⟨lg,lcap,rfl⟩:=own_any_shape hrow
     obtain ⟨src',cap',hv',hin'⟩:=hv
     simp only [Value.slice.injEq] at hv'
     obtain ⟨rfl,-,-⟩:=hv'
     have htl:tn<s.lc.length:=by rw [HLN.out];exact htj
     obtain ⟨g,goff,rfl,hgl,hgc⟩:=hin' tn htl
     have g0:=hgc 0 (by omega)
     rw [locC_name] at g0
     have hnm:txtS l s.lc[tn]=nmB tn:=by
      have h1:(s.lc.map (txtS l))[tn]? = ((List.range j).map nmB)[tn]?:=by rw [HNM.out]
      rw [List.getElem?_map,List.getElem?_map,List.getElem?_eq_getElem htl,List.getElem?_eq_getElem (by simpa using htj)] at h1
      simpa using h1
     rw [hnm,Nat.add_zero] at g0
     have B9:=Lib.hid (after BX.out hb9)
     have hsz2:=HMT.out.size
     obtain ⟨l2,hl2',hin2,h02',-,hsm2⟩:=HMT.out.is
     obtain ⟨z,hz⟩:=(hsm2 HLE).2 tn rfl htj
     have HPA2:=Lib.hid (fun (W:World)=>parse_any _ W hsz2)
     rw [hl2'] at HPA2
     have hnz:(nmB tn).size<=64:=(names_all.1 tn (by omega)).2.2
     have HSZ2:=HSZ.out
     have s3:¬ 9223372036854775807<20+st.size+6+(nmB tn).size:=by omega
     have s4:¬ 9223372036854775807<20+st.size+6+(nmB tn).size+6:=by omega
     have i0:(0:Int)<=(tn:Int):=by omega
     have i1:(tn:Int)<(j:Int):=by omega
     have HZ:=Lib.hid hz
     clear hrow hin' hgc hnm hb9 hsz2 hl2' hsm2 hz HMT HTW HLO hnz htl HIN HMR
     generalize nmB tn=nm at *
     go_wp2_with fail
     refine (HPA2.out _).mono ?_
     rintro e w10 ⟨hb10,v10,root,rfl,hyes,-⟩
     obtain ⟨rfl,hn2,h02,hl2,hgood⟩:=hyes rfl
     have B10:=Lib.hid (after B9.out hb10)
     have N10:=Lib.hid hn2
     have L10:=Lib.hid hl2
     have HG2:Hid (∀ y ∈ l2,NdFit y):=Lib.hid (fun y hy=>good_fit (hgood y hy))
     obtain ⟨s12,c12,rfl,-⟩:=id hn2.nds
     clear hyes hn2 h02 hl2 hgood hb10 HPA2
     have T13:Hid (Bx 25 ((w10.alloc (.cells #[.slice s12 l2.length c12,.int .i64 ((l2.length:Int)-1)] 25)).alloc (.cells #[.int .i64 0,.int .i64 0] 28)) w10.heap.size [.slice s12 l2.length c12,.int .i64 ((l2.length:Int)-1)]):=Lib.hid ((Bx.new 25 w10 #[.slice s12 l2.length c12,.int .i64 ((l2.length:Int)-1)]).alloc _)
     have BT2:Hid (Below w10.heap.size w10 ((w10.alloc (.cells #[.slice s12 l2.length c12,.int .i64 ((l2.length:Int)-1)] 25)).alloc (.cells #[.int .i64 0,.int .i64 0] 28))):=Lib.hid (by repeat (first|exact Below.refl _ _|apply Below.setCell _ (by first|omega|(simp<;>omega))|apply Below.alloc _ (by first|omega|(simp<;>omega))))
     go_wp2_with fail
     generalize (w10.alloc (.cells #[.slice s12 l2.length c12,.int .i64 ((l2.length:Int)-1)] 25)).alloc (.cells #[.int .i64 0,.int .i64 0] 28)=w13 at *
     have B13:=Lib.hid (after B10.out BT2.out)
     have HME:=Lib.hid (fun (W:World) (hb:Below w13.heap.size w13 W)=>method_any l2 (.slice s12 l2.length c12) ((l2.length:Int)-1) 0 W (N10.out.nds.step (after BT2.out hb)) (by have:=L10.out;omega) (by unfold In64;omega))
     have HO:=Lib.hid (fun (W:World) (hb:Below w13.heap.size w13 W)=>of_any l2 (.slice s12 l2.length c12) ((l2.length:Int)-1) (methS l2 0) W (HT.out.step (after B13.out hb)) (N10.out.nds.step (after BT2.out hb)) (by have:=L10.out;omega) HG2.out)
     have HOE:Hid (∀ W:World,Below w13.heap.size w13 W->Calls Tryz.prog 45 #[.agg #[.slice s12 l2.length c12,.int .i64 ((l2.length:Int)-1)],.int .i64 (methS l2 0)] W fun e w'=>e = .returned (.tuple #[.pointer none,.agg #[.int .i64 4,.int .i64 z]])/\Below W.heap.size W w'):=Lib.hid (fun W hb=>(HO.out W hb).mono (by
      rintro e w' ⟨hb',⟨k,z',hr,he,-⟩|⟨s,S,hr,-⟩⟩
      ·rw [HZ.out] at hr;cases hr;exact ⟨he,hb'⟩
      ·rw [HZ.out] at hr;cases hr))
     clear HO
     generalize methS l2 0=m2 at *
     obtain ⟨n2,hnn2⟩:∃ n2,l2.length=n2:=⟨_,rfl⟩
     rw [hnn2] at HME HOE T13 ⊢
     have HALL:Hid (∀ W:World,Below w13.heap.size w13 W->W.cell? ⟨w10.heap.size,0,none⟩=some (.slice s12 n2 c12)/\W.cell? ⟨w10.heap.size,1,none⟩=some (.int .i64 ((n2:Int)-1))/\w13.heap.size<=W.heap.size/\Below w13.heap.size w13 W):=Lib.hid (fun W h=>⟨(T13.out.keep h).cell 0,(T13.out.keep h).cell 1,h.size,h⟩)
     clear hnn2
     go_region_held3 (fun w'=>w'.cell? ⟨w10.heap.size,0,none⟩=some (.slice s12 n2 c12)/\w'.cell? ⟨w10.heap.size,1,none⟩=some (.int .i64 ((n2:Int)-1))/\w13.heap.size<=w'.heap.size/\Below w13.heap.size w13 w') (first|exact HALL.out _ ((Below.refl _ _).drew)|exact HALL.out _ ((bel_alloc (Below.refl _ _) _).drew)|exact HALL.out _ (after (by assumption) hb2)|(go_split_ands;exact HALL.out _ (bel_alloc (by assumption) _))|exact HALL.out _ (bel_alloc (after (by assumption) hb2) _)|(go_split_ands;exact HALL.out _ (bel_set (bel_set (by assumption) _ (by first|assumption|exact Nat.le_refl _|omega)) _ (by first|assumption|exact Nat.le_refl _|omega)))|(go_split_ands;exact HALL.out _ (bel_set (bel_set (after (by assumption) hb2) _ (by first|assumption|exact Nat.le_refl _|omega)) _ (by first|assumption|exact Nat.le_refl _|omega)))) (first|(go_at_call 44;go_split_ands;refine (HME.out _ (by assumption)).mono ?_;rintro e w5 ⟨rfl,hb2⟩;have hs5:=(after (show Below w13.heap.size w13 _ from by assumption) hb2).size;(first|(have hX5:=(new_box hb2).2)|(have hX5:=new_boxd hb2)|skip))|(go_at_call 45;go_split_ands;refine (HOE.out _ (by assumption)).mono ?_;rintro e w6 ⟨rfl,hb2⟩;(first|(have hX6:=hX5.keep hb2)|(have hX6:=(new_box hb2).2)|skip);(first|(have x0:=hX6.two.1;have x1:=hX6.two.2.1;have xl:=hX6.two.2.2.1;have xf:=hX6.two.2.2.2)|skip)))
     all_goals
      go_split_ands
      go_wp2_with fail
      go_ret
      exact ⟨rfl,after B13.out (by assumption)⟩
end Go.Proofs.YtfehpdliobapfaaGreatDoor.S
