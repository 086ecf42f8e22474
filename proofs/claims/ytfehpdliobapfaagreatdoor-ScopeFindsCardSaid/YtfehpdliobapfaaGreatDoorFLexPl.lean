/- For any text and any number,ScopeFinds returns true and leaves its arguments as they were. -/
import Derived.Below
set_option linter.unusedVariables false
set_option linter.unusedSimpArgs false
namespace Go.Proofs.YtfehpdliobapfaaGreatDoor.L
def byS (s:ByteArray) (k:Nat):Nat:=if h:k<s.size then (s[k]'h).toNat else 0
theorem byS_get (s:ByteArray) (k:Nat) (h:k<s.size):byS s k=s[k].toNat:=by unfold byS;rw [dif_pos h]
def letterB (c:Nat):Bool:=decide (97<=c/\c<=122) || decide (65<=c/\c<=90) || decide (c=95)
def digitB (c:Nat):Bool:=decide (48<=c/\c<=57)
def inWordB (c:Nat):Bool:=letterB c || digitB c
def blankB (c:Nat):Bool:=decide (c=32) || decide (c=9) || decide (c=10) || decide (c=13)
def lineB (c:Nat):Bool:=decide (c≠10)
def seenB (c:Nat):Bool:=decide (32<=c/\c<=126)
def skipF (p:Nat->Bool) (g:Nat->Nat):Nat->Nat->Nat
 | 0,i=>i
 | k+1,i=>if p (g i)=true then skipF p g k (i+1) else i
def skipG (p:Nat->Bool) (g:Nat->Nat) (n i:Nat):Nat:=skipF p g (n-i) i
theorem skip_yes {p:Nat->Bool} {g:Nat->Nat} {n i:Nat} (h:i<n) (hp:p (g i)=true):skipG p g n i=skipG p g n (i+1):=by
 unfold skipG
 rw [show n-i=(n-(i+1))+1 by omega]
 show (if p (g i)=true then _ else _)=_
 rw [if_pos hp]
theorem skip_no {p:Nat->Bool} {g:Nat->Nat} {n i:Nat} (hp:p (g i)=false):skipG p g n i=i:=by
 unfold skipG
 cases n-i with
 | zero=>rfl
 | succ k=>show (if p (g i)=true then _ else _)=_;rw [if_neg (by simp [hp])]
theorem skip_end {p:Nat->Bool} {g:Nat->Nat} {n i:Nat} (h:n<=i):skipG p g n i=i:=by
 unfold skipG;rw [show n-i=0 by omega];rfl
theorem skip_facts {p:Nat->Bool} {g:Nat->Nat} {n:Nat}:∀ (d i:Nat),n-i=d->i<=n->i<=skipG p g n i/\skipG p g n i<=n/\(∀ j,i<=j->j<skipG p g n i->p (g j)=true)/\(skipG p g n i<n->p (g (skipG p g n i))=false)
 | 0,i,hd,h=>by
  rw [skip_end (by omega)]
  exact ⟨Nat.le_refl _,h,fun j _ _=>by omega,fun _=>by omega⟩
 | d+1,i,hd,h=>by
  cases hp:p (g i)
  ·rw [skip_no hp]
   exact ⟨Nat.le_refl _,h,fun j _ _=>by omega,fun _=>hp⟩
  ·rw [skip_yes (n:=n) (by omega) hp]
   obtain ⟨a,b,c,e⟩:=skip_facts (p:=p) (g:=g) (n:=n) d (i+1) (by omega) (by omega)
   refine ⟨by omega,b,fun j q1 q2=>?_,e⟩
   by_cases hj:j=i
   ·rw [hj];exact hp
   ·exact c j (by omega) q2
theorem skip_ge (p:Nat->Bool) (g:Nat->Nat) {n i:Nat} (h:i<=n):i<=skipG p g n i:=(skip_facts _ i rfl h).1
theorem skip_le (p:Nat->Bool) (g:Nat->Nat) {n i:Nat} (h:i<=n):skipG p g n i<=n:=(skip_facts _ i rfl h).2.1
theorem skip_stop {p:Nat->Bool} {g:Nat->Nat} {n i:Nat} (h:i<=n):skipG p g n i<n->p (g (skipG p g n i))=false:=(skip_facts _ i rfl h).2.2.2
def comB (g:Nat->Nat) (n a:Nat):Bool:=decide (a+1<n) && decide (g a=47) && decide (g (a+1)=47)
theorem comB_iff {g:Nat->Nat} {n a:Nat}:comB g n a=true ↔ a+1<n/\g a=47/\g (a+1)=47:=by
 unfold comB;simp [and_assoc]
def gapF (g:Nat->Nat) (n:Nat):Nat->Nat->Nat
 | 0,i=>i
 | k+1,i=>if comB g n (skipG blankB g n i)=true then gapF g n k (skipG lineB g n (skipG blankB g n i)) else skipG blankB g n i
def gapG (g:Nat->Nat) (n i:Nat):Nat:=gapF g n (n-i+1) i
theorem line_past {g:Nat->Nat} {n a:Nat} (h:comB g n a=true):a+2<=skipG lineB g n a/\skipG lineB g n a<=n:=by
 obtain ⟨h1,h2,h3⟩:=comB_iff.1 h
 rw [skip_yes (by omega) (by unfold lineB;simp [h2]),skip_yes (by omega) (by unfold lineB;simp [h3])]
 exact ⟨skip_ge _ _ (by omega),skip_le _ _ (by omega)⟩
theorem gapF_fuel {g:Nat->Nat} {n:Nat}:∀ (k m i:Nat),i<=n->n-i<k->n-i<m->gapF g n k i=gapF g n m i
 | 0,_,i,_,h,_=>by omega
 | _,0,i,_,_,h=>by omega
 | k+1,m+1,i,hi,h1,h2=>by
  have ha:=skip_ge blankB g hi
  show (if _ then _ else _)=(if _ then _ else _)
  cases hc:comB g n (skipG blankB g n i)
  ·rfl
  ·rw [if_pos rfl,if_pos rfl]
   have:=line_past hc
   exact gapF_fuel k m _ (by omega) (by omega) (by omega)
theorem gap_eq {g:Nat->Nat} {n i:Nat} (hi:i<=n):gapG g n i=if comB g n (skipG blankB g n i)=true then gapG g n (skipG lineB g n (skipG blankB g n i)) else skipG blankB g n i:=by
 have ha:=skip_ge blankB g hi
 show (if _ then _ else _)=_
 cases hc:comB g n (skipG blankB g n i)
 ·rfl
 ·rw [if_pos rfl,if_pos rfl]
  have:=line_past hc
  unfold gapG
  exact gapF_fuel _ _ _ (by omega) (by omega) (by omega)
theorem gap_com {g:Nat->Nat} {n i:Nat} (hi:i<=n) (h:comB g n (skipG blankB g n i)=true):gapG g n i=gapG g n (skipG lineB g n (skipG blankB g n i)):=by rw [gap_eq hi,if_pos h]
theorem gap_stop {g:Nat->Nat} {n i:Nat} (hi:i<=n) (h:comB g n (skipG blankB g n i)=false):gapG g n i=skipG blankB g n i:=by rw [gap_eq hi,if_neg (by simp [h])]
theorem gap_ind {n:Nat} {P:Nat->Prop} (g:Nat->Nat) (h:∀ i,i<=n->(comB g n (skipG blankB g n i)=true->P (skipG lineB g n (skipG blankB g n i)))->P i):∀ i,i<=n->P i:=by
 have:∀ d i,n-i=d->i<=n->P i:=by
  intro d
  induction d using Nat.strongRecOn with
  | _ d ih =>
   intro i hd hi
   refine h i hi (fun hc=>?_)
   have ha:=skip_ge blankB g hi
   have:=line_past hc
   exact ih _ (by omega) _ rfl (by omega)
 exact fun i hi=>this _ i rfl hi
theorem gap_facts (g:Nat->Nat) {n:Nat}:∀ i,i<=n->i<=gapG g n i/\gapG g n i<=n/\(gapG g n i<n->blankB (g (gapG g n i))=false)/\comB g n (gapG g n i)=false:=by
 refine gap_ind g (fun i hi ih=>?_)
 have ha:=skip_ge blankB g hi
 cases hc:comB g n (skipG blankB g n i)
 ·rw [gap_stop hi hc]
  exact ⟨ha,skip_le _ _ hi,skip_stop hi,hc⟩
 ·rw [gap_com hi hc]
  have:=line_past hc
  obtain ⟨a,b,c,e⟩:=ih hc
  exact ⟨by omega,b,c,e⟩
theorem gap_ge (g:Nat->Nat) {n i:Nat} (h:i<=n):i<=gapG g n i:=(gap_facts g i h).1
theorem gap_le (g:Nat->Nat) {n i:Nat} (h:i<=n):gapG g n i<=n:=(gap_facts g i h).2.1
def pairS (a b:Nat):Bool:=decide ((a=61/\b=61)\/(a=33/\b=61)\/(a=60/\b=61)\/(a=62/\b=61)\/(a=38/\b=38)\/(a=124/\b=124))
def oneL:List Nat:=[123,125,40,41,91,93,59,44,46,61,60,62,43,45,42,47,37,33,63]
def oneS (c:Nat):Bool:=oneL.contains c
def signG (g:Nat->Nat) (n i:Nat):Nat:=if i+1<n/\pairS (g i) (g (i+1))=true then 2 else if oneS (g i)=true then 1 else 0
def qskipF (g:Nat->Nat):Nat->Nat->Bool->Nat
 | 0,i,_=>i
 | k+1,i,b=>if g i=10\/(g i=34/\b=false) then i else qskipF g k (i+1) (decide (g i=92) && !b)
def qskip (g:Nat->Nat) (n i:Nat) (b:Bool):Nat:=qskipF g (n-i) i b
def quotedG (g:Nat->Nat) (n i:Nat):Nat:=if qskip g n (i+1) false<n/\g (qskip g n (i+1) false)=34 then qskip g n (i+1) false+1 else qskip g n (i+1) false
def meantS (c:Nat):Option Nat:=if c=110 then some 10 else if c=116 then some 9 else if c=34 then some 34 else if c=92 then some 92 else none
def saidF (g:Nat->Nat):Nat->Nat->Bool->List Nat->Nat × List Nat
 | 0,_,_,_=>(61,[])
 | k+1,i,b,acc =>
  if seenB (g i)=false then (60,[]) else
  if b=true then (match meantS (g i) with|none=>(5,[])|some m=>saidF g k (i+1) false (acc ++ [m])) else
  if g i=34 then (0,acc) else if g i=92 then saidF g k (i+1) true acc else saidF g k (i+1) false (acc ++ [g i])
def saidG (g:Nat->Nat) (n i:Nat) (b:Bool) (acc:List Nat):Nat × List Nat:=saidF g (n-i) i b acc
def numberG (g:Nat->Nat) (n i:Nat):Nat × Nat :=
 if skipG digitB g n i+1<n/\g (skipG digitB g n i)=46/\digitB (g (skipG digitB g n i+1))=true then (3,skipG digitB g n (skipG digitB g n i+1)) else (2,skipG digitB g n i)
def reachG (g:Nat->Nat) (n i:Nat):Nat × Nat :=
 if letterB (g i)=true then (1,skipG inWordB g n i) else if digitB (g i)=true then numberG g n i else if g i=34 then (4,quotedG g n i) else (5,i+signG g n i)
def longG (k:Nat):Nat:=if k=1 then 64 else if k=4 then 256 else 20
def tokenG (g:Nat->Nat) (n i:Nat):Nat × Nat × Nat :=
 if longG (reachG g n i).1<(reachG g n i).2-i then (2,0,0) else
 if (reachG g n i).1=5/\(reachG g n i).2=i then (60,0,0) else
 if (reachG g n i).1=4/\(saidG (fun j=>g (i+j)) ((reachG g n i).2-i) 1 false []).1≠0 then ((saidG (fun j=>g (i+j)) ((reachG g n i).2-i) 1 false []).1,0,0) else
 (0,(reachG g n i).1,(reachG g n i).2)
theorem qskip_go {g:Nat->Nat} {n i:Nat} {b:Bool} (h:i<n) (h1:¬ (g i=10\/(g i=34/\b=false))):qskip g n i b=qskip g n (i+1) (decide (g i=92) && !b):=by
 unfold qskip
 rw [show n-i=(n-(i+1))+1 by omega]
 show (if _ then _ else _)=_
 rw [if_neg h1]
theorem qskip_stop {g:Nat->Nat} {n i:Nat} {b:Bool} (h1:g i=10\/(g i=34/\b=false)):qskip g n i b=i:=by
 unfold qskip
 cases n-i with
 | zero=>rfl
 | succ k=>show (if _ then _ else _)=_;rw [if_pos h1]
theorem qskip_end {g:Nat->Nat} {n i:Nat} {b:Bool} (h:n<=i):qskip g n i b=i:=by
 unfold qskip;rw [show n-i=0 by omega];rfl
theorem qskip_facts {g:Nat->Nat} {n:Nat}:∀ (d i:Nat) (b:Bool),n-i=d->i<=n->i<=qskip g n i b/\qskip g n i b<=n/\(qskip g n i b<n->g (qskip g n i b)=10\/g (qskip g n i b)=34)/\(∀ j,i<=j->j<qskip g n i b->g j≠10)
 | 0,i,b,hd,h=>by
  rw [qskip_end (by omega)]
  exact ⟨Nat.le_refl _,h,fun h'=>by omega,fun j q1 q2=>by omega⟩
 | d+1,i,b,hd,h=>by
  by_cases h1:g i=10\/(g i=34/\b=false)
  ·rw [qskip_stop h1]
   exact ⟨Nat.le_refl _,h,fun _=>by rcases h1 with h|⟨h,_⟩<;>simp [h],fun j q1 q2=>by omega⟩
  ·rw [qskip_go (n:=n) (by omega) h1]
   obtain ⟨a,b',c,e⟩:=qskip_facts (g:=g) (n:=n) d (i+1) (decide (g i=92) && !b) (by omega) (by omega)
   refine ⟨by omega,b',c,fun j q1 q2=>?_⟩
   by_cases hj:j=i
   ·subst hj;intro h10;exact h1 (.inl h10)
   ·exact e j (by omega) q2
theorem quoted_facts {g:Nat->Nat} {n i:Nat} (h:i<n):i+1<=quotedG g n i/\quotedG g n i<=n:=by
 obtain ⟨a,b,_,_⟩:=qskip_facts (g:=g) (n:=n) _ (i+1) false rfl (by omega)
 unfold quotedG
 by_cases hc:qskip g n (i+1) false<n/\g (qskip g n (i+1) false)=34
 ·rw [if_pos hc];omega
 ·rw [if_neg hc];omega
theorem sign_le {g:Nat->Nat} {n i:Nat} (h:i<n):i+signG g n i<=n:=by
 unfold signG
 split
 ·omega
 ·split<;>omega
theorem number_facts {g:Nat->Nat} {n i:Nat} (h:i<n) (hd:digitB (g i)=true):i+1<=(numberG g n i).2/\(numberG g n i).2<=n/\((numberG g n i).1=2\/(numberG g n i).1=3):=by
 have h1:i+1<=skipG digitB g n i:=by rw [skip_yes h hd];exact skip_ge _ _ (by omega)
 have h2:=skip_le digitB g (show i<=n by omega)
 unfold numberG
 split
 ·have:=skip_ge digitB g (show skipG digitB g n i+1<=n by omega)
  have:=skip_le digitB g (show skipG digitB g n i+1<=n by omega)
  exact ⟨by simp only;omega,by simp only;omega,.inr rfl⟩
 ·exact ⟨h1,h2,.inl rfl⟩
theorem reach_facts {g:Nat->Nat} {n i:Nat} (h:i<n):i<=(reachG g n i).2/\(reachG g n i).2<=n/\((reachG g n i).1≠5->i+1<=(reachG g n i).2)/\1<=(reachG g n i).1/\(reachG g n i).1<=5:=by
 unfold reachG
 split
 ·rename_i hl
  have h1:i+1<=skipG inWordB g n i:=by rw [skip_yes h (by unfold inWordB;rw [hl];rfl)];exact skip_ge _ _ (by omega)
  have h2:=skip_le inWordB g (show i<=n by omega)
  exact ⟨by simp only;omega,h2,fun _=>h1,by simp,by simp⟩
 ·split
  ·rename_i hd
   obtain ⟨a,b,c⟩:=number_facts h hd
   exact ⟨by omega,b,fun _=>a,by omega,by omega⟩
  ·split
   ·obtain ⟨a,b⟩:=quoted_facts (g:=g) h
    exact ⟨by simp only;omega,b,fun _=>a,by simp,by simp⟩
   ·exact ⟨by simp only;omega,sign_le h,fun h=>absurd rfl h,by simp,by simp⟩
theorem token_facts {g:Nat->Nat} {n i:Nat} (h:i<n) (h0:(tokenG g n i).1=0):tokenG g n i=(0,reachG g n i)/\i+1<=(reachG g n i).2/\(reachG g n i).2<=n/\(reachG g n i).2-i<=longG (reachG g n i).1/\1<=(reachG g n i).1/\(reachG g n i).1<=5/\((reachG g n i).1=4->(saidG (fun j=>g (i+j)) ((reachG g n i).2-i) 1 false []).1=0):=by
 obtain ⟨a,b,c,d,e⟩:=reach_facts (g:=g) h
 unfold tokenG at h0 ⊢
 by_cases h1:longG (reachG g n i).1<(reachG g n i).2-i
 ·rw [if_pos h1] at h0;cases h0
 ·rw [if_neg h1] at h0 ⊢
  by_cases h2:(reachG g n i).1=5/\(reachG g n i).2=i
  ·rw [if_pos h2] at h0;cases h0
  ·rw [if_neg h2] at h0 ⊢
   by_cases h3:(reachG g n i).1=4/\(saidG (fun j=>g (i+j)) ((reachG g n i).2-i) 1 false []).1≠0
   ·rw [if_pos h3] at h0;exact absurd h0 h3.2
   ·rw [if_neg h3]
    refine ⟨rfl,?_,b,by omega,d,e,fun h4=>?_⟩
    ·by_cases h5:(reachG g n i).1=5
     ·have:(reachG g n i).2≠i:=fun hh=>h2 ⟨h5,hh⟩
      omega
     ·exact c h5
    ·by_cases hs:(saidG (fun j=>g (i+j)) ((reachG g n i).2-i) 1 false []).1=0
     ·exact hs
     ·exact absurd ⟨h4,hs⟩ h3
theorem saidF_congr {g g':Nat->Nat}:∀ (k i:Nat) (b:Bool) (acc:List Nat),(∀ j,i<=j->j<i+k->g' j=g j)->saidF g' k i b acc=saidF g k i b acc
 | 0,_,_,_,_=>rfl
 | k+1,i,b,acc,h=>by
  have h0:=h i (Nat.le_refl _) (by omega)
  have ih:=fun b acc=>saidF_congr (g:=g) (g':=g') k (i+1) b acc (fun j q1 q2=>h j (by omega) (by omega))
  show (if _ then _ else if _ then (match meantS (g' i) with|none=>_|some m=>_) else _)=(if _ then _ else if _ then (match meantS (g i) with|none=>_|some m=>_) else _)
  rw [h0,ih,ih]
  cases meantS (g i)<;>simp only [ih]
theorem said_congr {g g':Nat->Nat} {n i:Nat} {b:Bool} {acc:List Nat} (h:∀ j,i<=j->j<n->g' j=g j):saidG g' n i b acc=saidG g n i b acc:=by
 unfold saidG
 exact saidF_congr _ _ _ _ (fun j q1 q2=>h j q1 (by omega))
def Alike (g:Nat->Nat) (n i:Nat) (g':Nat->Nat) (n' i' m:Nat):Prop :=
 i+m<=n/\i'+m<=n'/\(∀ j,j<m->g' (i'+j)=g (i+j))
abbrev Tok:=Nat × Nat × Nat
def toksF (g:Nat->Nat) (n:Nat):Nat->Nat->Nat->List Tok × Nat × Nat
 | 0,i,_=>([],0,i)
 | k+1,i,c =>
  if i<n then
   if c=16384 then ([],2,i) else
   if (tokenG g n i).1=0 then
    (((tokenG g n i).2.1,i,(tokenG g n i).2.2) :: (toksF g n k (gapG g n (tokenG g n i).2.2) (c+1)).1,(toksF g n k (gapG g n (tokenG g n i).2.2) (c+1)).2)
   else ([],(tokenG g n i).1,i)
  else ([],0,i)
def toksG (g:Nat->Nat) (n i c:Nat):List Tok × Nat × Nat:=toksF g n (n-i+1) i c
theorem token_to {g:Nat->Nat} {n i:Nat} (h:i<n) (h0:(tokenG g n i).1=0):i+1<=(tokenG g n i).2.2/\(tokenG g n i).2.2<=n/\1<=(tokenG g n i).2.1/\(tokenG g n i).2.1<=5:=by
 obtain ⟨e,a,b,c,d,f,_⟩:=token_facts h h0
 rw [e]
 exact ⟨a,b,d,f⟩
theorem toksF_fuel {g:Nat->Nat} {n:Nat}:∀ (k m i c:Nat),n-i<k->n-i<m->toksF g n k i c=toksF g n m i c
 | 0,_,i,_,h,_=>by omega
 | _,0,i,_,_,h=>by omega
 | k+1,m+1,i,c,h1,h2=>by
  show (if _ then _ else _)=(if _ then _ else _)
  by_cases hi:i<n
  ·rw [if_pos hi,if_pos hi]
   by_cases hc:c=16384
   ·rw [if_pos hc,if_pos hc]
   ·rw [if_neg hc,if_neg hc]
    by_cases h0:(tokenG g n i).1=0
    ·obtain ⟨a,b,_⟩:=token_to hi h0
     have:=gap_ge g b
     have hb:=gap_le g b
     rw [if_pos h0,if_pos h0,toksF_fuel k m _ _ (by omega) (by omega)]
    ·rw [if_neg h0,if_neg h0]
  ·rw [if_neg hi,if_neg hi]
theorem toks_end {g:Nat->Nat} {n i c:Nat} (h:¬ i<n):toksG g n i c=([],0,i):=by
 show (if _ then _ else _)=_
 rw [if_neg h]
theorem toks_full {g:Nat->Nat} {n i:Nat} (h:i<n):toksG g n i 16384=([],2,i):=by
 show (if _ then _ else _)=_
 rw [if_pos h,if_pos rfl]
theorem toks_bad {g:Nat->Nat} {n i c:Nat} (h:i<n) (hc:c≠16384) (h0:(tokenG g n i).1≠0):toksG g n i c=([],(tokenG g n i).1,i):=by
 show (if _ then _ else _)=_
 rw [if_pos h,if_neg hc,if_neg h0]
theorem toks_next {g:Nat->Nat} {n i c:Nat} (h:i<n) (hc:c≠16384) (h0:(tokenG g n i).1=0):toksG g n i c=(((tokenG g n i).2.1,i,(tokenG g n i).2.2) :: (toksG g n (gapG g n (tokenG g n i).2.2) (c+1)).1,(toksG g n (gapG g n (tokenG g n i).2.2) (c+1)).2):=by
 obtain ⟨a,b,_⟩:=token_to h h0
 have:=gap_ge g b
 have hb:=gap_le g b
 show (if _ then _ else _)=_
 rw [if_pos h,if_neg hc,if_pos h0]
 unfold toksG
 rw [toksF_fuel (n-i) (n-gapG g n (tokenG g n i).2.2+1) _ _ (by omega) (by omega)]
theorem toks_ind (g:Nat->Nat) {n:Nat} {P:Nat->Nat->Prop} (h:∀ i c,i<=n->(i<n->(tokenG g n i).1=0->P (gapG g n (tokenG g n i).2.2) (c+1))->P i c):∀ i c,i<=n->P i c:=by
 have:∀ d i c,n-i=d->i<=n->P i c:=by
  intro d
  induction d using Nat.strongRecOn with
  | _ d ih =>
   intro i c hd hi
   refine h i c hi (fun hlt h0=>?_)
   obtain ⟨a,b,_⟩:=token_to hlt h0
   have:=gap_ge g b
   have hb:=gap_le g b
   exact ih _ (by omega) _ _ rfl hb
 exact fun i c hi=>this _ i c rfl hi
def Chain (g:Nat->Nat) (n:Nat):Nat->List Tok->Prop
 | a,[]=>gapG g n a=n
 | a,x :: l=>a<=x.2.1/\x.2.1<n/\gapG g n a=x.2.1/\tokenG g n x.2.1=(0,x.1,x.2.2)/\x.2.1<x.2.2/\x.2.2<=n/\1<=x.1/\x.1<=5/\Chain g n x.2.2 l
theorem toks_chain {g:Nat->Nat} {n:Nat}:∀ i c,i<=n->∀ a,a<=n->gapG g n a=i->(toksG g n i c).2.1=0->Chain g n a (toksG g n i c).1/\(toksG g n i c).2.2=n:=by
 refine toks_ind g (fun i c hi ih=>?_)
 intro a ha hga h0
 have hag:=gap_ge g ha
 by_cases hlt:i<n
 ·by_cases hc:c=16384
  ·subst hc;rw [toks_full hlt] at h0;cases h0
  ·by_cases ht:(tokenG g n i).1=0
   ·obtain ⟨q1,q2,q3,q4⟩:=token_to hlt ht
    rw [toks_next hlt hc ht] at h0 ⊢
    obtain ⟨r1,r2⟩:=ih hlt ht _ q2 rfl h0
    obtain ⟨e,_⟩:=token_facts hlt ht
    refine ⟨⟨by simp only;omega,hlt,hga,?_,q1,q2,q3,q4,r1⟩,r2⟩
    show tokenG g n i=(0,(tokenG g n i).2.1,(tokenG g n i).2.2)
    rw [e]
   ·rw [toks_bad hlt hc ht] at h0;exact absurd h0 ht
 ·rw [toks_end hlt]
  exact ⟨by show gapG g n a=n;omega,by show i=n;omega⟩
theorem toks_len {g:Nat->Nat} {n:Nat}:∀ i c,i<=n->(toksG g n i c).1.length<=n-i:=by
 refine toks_ind g (fun i c hi ih=>?_)
 by_cases hlt:i<n
 ·by_cases hc:c=16384
  ·subst hc;rw [toks_full hlt];simp
  ·by_cases ht:(tokenG g n i).1=0
   ·obtain ⟨q1,q2,_⟩:=token_to hlt ht
    have:=gap_ge g q2
    have:=gap_le g q2
    have:=ih hlt ht
    rw [toks_next hlt hc ht]
    simp only [List.length_cons]
    omega
   ·rw [toks_bad hlt hc ht];simp
 ·rw [toks_end hlt];simp
def lexG (g:Nat->Nat) (n:Nat):List Tok × Nat × Nat :=
 if 65536<n then ([],2,0) else
 if (toksG g n (gapG g n 0) 0).2.1=0 then ((toksG g n (gapG g n 0) 0).1 ++ [(0,n,n)],0,0) else ([],(toksG g n (gapG g n 0) 0).2)
def atK (l:List Tok) (k:Nat):Nat:=if k=0 then 0 else (l.getD (k-1) (0,0,0)).2.2
def atA (a:Nat) (l:List Tok) (k:Nat):Nat:=if k=0 then a else (l.getD (k-1) (0,0,0)).2.2
theorem chain_get {g:Nat->Nat} {n:Nat}:∀ (l:List Tok) (a:Nat),a<=n->Chain g n a l->(∀ k (h:k<l.length),atA a l k<=l[k].2.1/\l[k].2.1<n/\gapG g n (atA a l k)=l[k].2.1/\tokenG g n l[k].2.1=(0,l[k].1,l[k].2.2)/\l[k].2.1<l[k].2.2/\l[k].2.2<=n/\1<=l[k].1/\l[k].1<=5)/\gapG g n (atA a l l.length)=n/\atA a l l.length<=n
 | [],a,ha,h=>⟨fun k hk=>absurd hk (by simp),h,ha⟩
 | x :: l,a,ha,h=>by
  obtain ⟨h1,h2,h3,h4,h5,h6,h7,h8,h9⟩:=h
  obtain ⟨i1,i2,i3⟩:=chain_get l x.2.2 h6 h9
  have e:∀ k,atA a (x :: l) (k+1)=atA x.2.2 l k:=fun k=>by
   unfold atA
   rw [if_neg (by omega),Nat.add_sub_cancel]
   cases k with
   | zero=>rfl
   | succ k=>rw [if_neg (by omega)];rfl
  refine ⟨fun k hk=>?_,?_,?_⟩
  ·cases k with
   | zero=>exact ⟨h1,h2,h3,h4,h5,h6,h7,h8⟩
   | succ k =>
    have:=i1 k (by simpa using hk)
    rw [e k];exact this
  ·rw [List.length_cons,e];exact i2
  ·rw [List.length_cons,e];exact i3
def TokOk (g:Nat->Nat) (n at0:Nat) (x:Tok):Prop:=at0<=x.2.1/\x.2.1<x.2.2/\x.2.2<=n/\1<=x.1/\x.1<=5/\gapG g n at0=x.2.1/\tokenG g n x.2.1=(0,x.1,x.2.2)/\blankB (g x.2.1)=false/\comB g n x.2.1=false
theorem lex_ok {g:Nat->Nat} {n:Nat} (h:(lexG g n).2.1=0):n<=65536/\(lexG g n).2.2=0/\∃ l:List Tok,(lexG g n).1=l ++ [(0,n,n)]/\l.length<=n/\(∀ k (h:k<l.length),TokOk g n (atK l k) l[k])/\gapG g n (atK l l.length)=n/\atK l l.length<=n:=by
 unfold lexG at h ⊢
 by_cases h1:65536<n
 ·rw [if_pos h1] at h;cases h
 ·rw [if_neg h1] at h ⊢
  by_cases h2:(toksG g n (gapG g n 0) 0).2.1=0
  ·rw [if_pos h2]
   obtain ⟨c1,c2⟩:=toks_chain (g:=g) (n:=n) _ 0 (gap_le g (Nat.zero_le _)) 0 (Nat.zero_le _) rfl h2
   obtain ⟨d1,d2,d3⟩:=chain_get _ 0 (Nat.zero_le _) c1
   have hl:=toks_len (g:=g) (n:=n) _ 0 (gap_le g (Nat.zero_le _))
   refine ⟨by omega,rfl,_,rfl,by omega,fun k hk=>?_,d2,d3⟩
   obtain ⟨e1,e2,e3,e4,e5,e6,e7,e8⟩:=d1 k hk
   have hle:atK (toksG g n (gapG g n 0) 0).1 k<=n:=by have:atK (toksG g n (gapG g n 0) 0).1 k=atA 0 (toksG g n (gapG g n 0) 0).1 k:=rfl;omega
   obtain ⟨f1,f2,f3,f4⟩:=gap_facts g _ hle
   have ee:gapG g n (atK (toksG g n (gapG g n 0) 0).1 k)=_:=e3
   rw [ee] at f3 f4
   exact ⟨e1,e5,e6,e7,e8,e3,e4,f3 e2,f4⟩
  ·rw [if_neg h2] at h;exact absurd h h2
def atT (x:List Nat) (j:Nat):Nat:=x.getD j 0
end Go.Proofs.YtfehpdliobapfaaGreatDoor.L
