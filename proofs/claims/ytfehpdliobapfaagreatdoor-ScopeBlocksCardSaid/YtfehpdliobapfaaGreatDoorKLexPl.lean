/- For any text and any numbers,ScopeBlocks,ScopeUses and ScopeMany return true and leave their arguments as they were. -/
import Derived.Below
set_option linter.unusedVariables false
set_option linter.unusedSimpArgs false
namespace Go.Proofs.YtfehpdliobapfaaGreatDoor.L
def byS (s:ByteArray) (k:Nat):Nat:=if h:k<s.size then (s[k]'h).toNat else 0
theorem byS_get (s:ByteArray) (k:Nat) (h:k<s.size):byS s k=s[k].toNat:=by unfold byS;rw [dif_pos h]
def letterB (c:Nat):Bool:=decide (97<=c/\c<=122) || decide (65<=c/\c<=90) || decide (c=95)
def digitB (c:Nat):Bool:=decide (48<=c/\c<=57)
def inWordB (c:Nat):Bool:=letterB c || digitB c
def blankB (c:Nat):Bool:=decide (c=32) || decide (c=9) || decide (c=10) || decide (c=13)
def lineB (c:Nat):Bool:=decide (c≠10)
def seenB (c:Nat):Bool:=decide (32<=c/\c<=126)
def skipF (p:Nat->Bool) (g:Nat->Nat):Nat->Nat->Nat
 | 0,i=>i
 | k+1,i=>if p (g i)=true then skipF p g k (i+1) else i
def skipG (p:Nat->Bool) (g:Nat->Nat) (n i:Nat):Nat:=skipF p g (n-i) i
theorem skip_yes {p:Nat->Bool} {g:Nat->Nat} {n i:Nat} (h:i<n) (hp:p (g i)=true):skipG p g n i=skipG p g n (i+1):=by
 unfold skipG
 rw [show n-i=(n-(i+1))+1 by omega]
 show (if p (g i)=true then _ else _)=_
 rw [if_pos hp]
theorem skip_no {p:Nat->Bool} {g:Nat->Nat} {n i:Nat} (hp:p (g i)=false):skipG p g n i=i:=by
 unfold skipG
 cases n-i with
 | zero=>rfl
 | succ k=>show (if p (g i)=true then _ else _)=_;rw [if_neg (by simp [hp])]
theorem skip_end {p:Nat->Bool} {g:Nat->Nat} {n i:Nat} (h:n<=i):skipG p g n i=i:=by
 unfold skipG;rw [show n-i=0 by omega];rfl
theorem skip_eq {p:Nat->Bool} {g:Nat->Nat} {n:Nat}:∀ (d i m:Nat),m-i=d->i<=m->m<=n->(∀ j,i<=j->j<m->p (g j)=true)->(m<n->p (g m)=false)->skipG p g n i=m
 | 0,i,m,hd,h1,h2,h3,h4=>by
  obtain rfl:i=m:=by omega
  by_cases h:i<n
  ·exact skip_no (h4 h)
  ·exact skip_end (by omega)
 | d+1,i,m,hd,h1,h2,h3,h4=>by
  rw [skip_yes (by omega) (h3 i (Nat.le_refl _) (by omega))]
  exact skip_eq d (i+1) m (by omega) (by omega) h2 (fun j q1 q2=>h3 j (by omega) q2) h4
theorem skip_facts {p:Nat->Bool} {g:Nat->Nat} {n:Nat}:∀ (d i:Nat),n-i=d->i<=n->i<=skipG p g n i/\skipG p g n i<=n/\(∀ j,i<=j->j<skipG p g n i->p (g j)=true)/\(skipG p g n i<n->p (g (skipG p g n i))=false)
 | 0,i,hd,h=>by
  rw [skip_end (by omega)]
  exact ⟨Nat.le_refl _,h,fun j _ _=>by omega,fun _=>by omega⟩
 | d+1,i,hd,h=>by
  cases hp:p (g i)
  ·rw [skip_no hp]
   exact ⟨Nat.le_refl _,h,fun j _ _=>by omega,fun _=>hp⟩
  ·rw [skip_yes (n:=n) (by omega) hp]
   obtain ⟨a,b,c,e⟩:=skip_facts (p:=p) (g:=g) (n:=n) d (i+1) (by omega) (by omega)
   refine ⟨by omega,b,fun j q1 q2=>?_,e⟩
   by_cases hj:j=i
   ·rw [hj];exact hp
   ·exact c j (by omega) q2
theorem skip_ge (p:Nat->Bool) (g:Nat->Nat) {n i:Nat} (h:i<=n):i<=skipG p g n i:=(skip_facts _ i rfl h).1
theorem skip_le (p:Nat->Bool) (g:Nat->Nat) {n i:Nat} (h:i<=n):skipG p g n i<=n:=(skip_facts _ i rfl h).2.1
theorem skip_in {p:Nat->Bool} {g:Nat->Nat} {n i:Nat} (h:i<=n):∀ j,i<=j->j<skipG p g n i->p (g j)=true:=(skip_facts _ i rfl h).2.2.1
theorem skip_stop {p:Nat->Bool} {g:Nat->Nat} {n i:Nat} (h:i<=n):skipG p g n i<n->p (g (skipG p g n i))=false:=(skip_facts _ i rfl h).2.2.2
theorem skip_of {p:Nat->Bool} {g:Nat->Nat} {n i m:Nat} (h1:i<=m) (h2:m<=n) (h3:∀ j,i<=j->j<m->p (g j)=true) (h4:m<n->p (g m)=false):skipG p g n i=m:=skip_eq (m-i) i m rfl h1 h2 h3 h4
theorem skip_shift {p:Nat->Bool} {g g':Nat->Nat} {n n' k i:Nat} (hi:i<=n') (hn:n=k+n') (hg:∀ j,j<n'->g' j=g (k+j)):skipG p g n (k+i)=k+skipG p g' n' i:=by
 have a:=skip_ge p g' hi
 have b:=skip_le p g' hi
 refine skip_of (by omega) (by omega) (fun j q1 q2=>?_) (fun h=>?_)
 ·have:=skip_in (p:=p) (g:=g') hi (j-k) (by omega) (by omega)
  rwa [hg _ (by omega),show k+(j-k)=j by omega] at this
 ·have:=skip_stop (p:=p) (g:=g') hi (by omega)
  rwa [hg _ (by omega)] at this
def comB (g:Nat->Nat) (n a:Nat):Bool:=decide (a+1<n) && decide (g a=47) && decide (g (a+1)=47)
theorem comB_iff {g:Nat->Nat} {n a:Nat}:comB g n a=true ↔ a+1<n/\g a=47/\g (a+1)=47:=by
 unfold comB;simp [and_assoc]
theorem comB_no {g:Nat->Nat} {n a:Nat} (h:¬ (a+1<n/\g a=47/\g (a+1)=47)):comB g n a=false:=by
 cases hc:comB g n a
 ·rfl
 ·exact absurd (comB_iff.1 hc) h
def gapF (g:Nat->Nat) (n:Nat):Nat->Nat->Nat
 | 0,i=>i
 | k+1,i=>if comB g n (skipG blankB g n i)=true then gapF g n k (skipG lineB g n (skipG blankB g n i)) else skipG blankB g n i
def gapG (g:Nat->Nat) (n i:Nat):Nat:=gapF g n (n-i+1) i
theorem line_past {g:Nat->Nat} {n a:Nat} (h:comB g n a=true):a+2<=skipG lineB g n a/\skipG lineB g n a<=n:=by
 obtain ⟨h1,h2,h3⟩:=comB_iff.1 h
 rw [skip_yes (by omega) (by unfold lineB;simp [h2]),skip_yes (by omega) (by unfold lineB;simp [h3])]
 exact ⟨skip_ge _ _ (by omega),skip_le _ _ (by omega)⟩
theorem gapF_fuel {g:Nat->Nat} {n:Nat}:∀ (k m i:Nat),i<=n->n-i<k->n-i<m->gapF g n k i=gapF g n m i
 | 0,_,i,_,h,_=>by omega
 | _,0,i,_,_,h=>by omega
 | k+1,m+1,i,hi,h1,h2=>by
  have ha:=skip_ge blankB g hi
  show (if _ then _ else _)=(if _ then _ else _)
  cases hc:comB g n (skipG blankB g n i)
  ·rfl
  ·rw [if_pos rfl,if_pos rfl]
   have:=line_past hc
   exact gapF_fuel k m _ (by omega) (by omega) (by omega)
theorem gap_eq {g:Nat->Nat} {n i:Nat} (hi:i<=n):gapG g n i=if comB g n (skipG blankB g n i)=true then gapG g n (skipG lineB g n (skipG blankB g n i)) else skipG blankB g n i:=by
 have ha:=skip_ge blankB g hi
 show (if _ then _ else _)=_
 cases hc:comB g n (skipG blankB g n i)
 ·rfl
 ·rw [if_pos rfl,if_pos rfl]
  have:=line_past hc
  unfold gapG
  exact gapF_fuel _ _ _ (by omega) (by omega) (by omega)
theorem gap_com {g:Nat->Nat} {n i:Nat} (hi:i<=n) (h:comB g n (skipG blankB g n i)=true):gapG g n i=gapG g n (skipG lineB g n (skipG blankB g n i)):=by rw [gap_eq hi,if_pos h]
theorem gap_stop {g:Nat->Nat} {n i:Nat} (hi:i<=n) (h:comB g n (skipG blankB g n i)=false):gapG g n i=skipG blankB g n i:=by rw [gap_eq hi,if_neg (by simp [h])]
theorem gap_ind {n:Nat} {P:Nat->Prop} (g:Nat->Nat) (h:∀ i,i<=n->(comB g n (skipG blankB g n i)=true->P (skipG lineB g n (skipG blankB g n i)))->P i):∀ i,i<=n->P i:=by
 have:∀ d i,n-i=d->i<=n->P i:=by
  intro d
  induction d using Nat.strongRecOn with
  | _ d ih =>
   intro i hd hi
   refine h i hi (fun hc=>?_)
   have ha:=skip_ge blankB g hi
   have:=line_past hc
   exact ih _ (by omega) _ rfl (by omega)
 exact fun i hi=>this _ i rfl hi
theorem gap_facts (g:Nat->Nat) {n:Nat}:∀ i,i<=n->i<=gapG g n i/\gapG g n i<=n/\(gapG g n i<n->blankB (g (gapG g n i))=false)/\comB g n (gapG g n i)=false:=by
 refine gap_ind g (fun i hi ih=>?_)
 have ha:=skip_ge blankB g hi
 cases hc:comB g n (skipG blankB g n i)
 ·rw [gap_stop hi hc]
  exact ⟨ha,skip_le _ _ hi,skip_stop hi,hc⟩
 ·rw [gap_com hi hc]
  have:=line_past hc
  obtain ⟨a,b,c,e⟩:=ih hc
  exact ⟨by omega,b,c,e⟩
theorem gap_ge (g:Nat->Nat) {n i:Nat} (h:i<=n):i<=gapG g n i:=(gap_facts g i h).1
theorem gap_le (g:Nat->Nat) {n i:Nat} (h:i<=n):gapG g n i<=n:=(gap_facts g i h).2.1
theorem gap_blank {g:Nat->Nat} {n i:Nat} (h:i<n) (hb:blankB (g i)=true):gapG g n i=gapG g n (i+1):=by
 rw [gap_eq (by omega),gap_eq (show i+1<=n from h),skip_yes h hb]
theorem gap_here {g:Nat->Nat} {n i:Nat} (hi:i<=n) (hb:i<n->blankB (g i)=false) (hc:comB g n i=false):gapG g n i=i:=by
 have e:skipG blankB g n i=i:=by
  by_cases h:i<n
  ·exact skip_no (hb h)
  ·exact skip_end (by omega)
 rw [gap_stop hi (by rw [e];exact hc),e]
theorem gap_end {g:Nat->Nat} {n:Nat}:gapG g n n=n:=gap_here (Nat.le_refl _) (fun h=>by omega) (comB_no (by omega))
theorem com_shift {g g':Nat->Nat} {n n' k a:Nat} (ha:a<=n') (hn:n=k+n') (hg:∀ j,j<n'->g' j=g (k+j)):comB g n (k+a)=comB g' n' a:=by
 unfold comB
 by_cases h:a+1<n'
 ·rw [hg a (by omega),hg (a+1) h,show k+a+1=k+(a+1) by omega,decide_eq_true h,decide_eq_true (show k+(a+1)<n by omega)]
 ·rw [decide_eq_false h,decide_eq_false (show ¬ k+a+1<n by omega)];rfl
theorem gap_shift {g g':Nat->Nat} {n n' k:Nat} (hn:n=k+n') (hg:∀ j,j<n'->g' j=g (k+j)):∀ i,i<=n'->gapG g n (k+i)=k+gapG g' n' i:=by
 refine gap_ind g' (fun i hi ih=>?_)
 have e:=skip_shift (p:=blankB) hi hn hg
 have hal:=skip_le blankB g' hi
 have hcs:=com_shift (g:=g) (g':=g') hal hn hg
 cases hc:comB g' n' (skipG blankB g' n' i)
 ·rw [gap_stop hi hc,gap_stop (by omega) (by rw [e,hcs];exact hc),e]
 ·have h2:=line_past hc
  rw [gap_com hi hc,gap_com (by omega) (by rw [e,hcs];exact hc),e,skip_shift (p:=lineB) hal hn hg]
  exact ih hc
def pairS (a b:Nat):Bool:=decide ((a=61/\b=61)\/(a=33/\b=61)\/(a=60/\b=61)\/(a=62/\b=61)\/(a=38/\b=38)\/(a=124/\b=124))
def oneL:List Nat:=[123,125,40,41,91,93,59,44,46,61,60,62,43,45,42,47,37,33,63]
def oneS (c:Nat):Bool:=oneL.contains c
def signG (g:Nat->Nat) (n i:Nat):Nat:=if i+1<n/\pairS (g i) (g (i+1))=true then 2 else if oneS (g i)=true then 1 else 0
def qskipF (g:Nat->Nat):Nat->Nat->Bool->Nat
 | 0,i,_=>i
 | k+1,i,b=>if g i=10\/(g i=34/\b=false) then i else qskipF g k (i+1) (decide (g i=92) && !b)
def qskip (g:Nat->Nat) (n i:Nat) (b:Bool):Nat:=qskipF g (n-i) i b
def quotedG (g:Nat->Nat) (n i:Nat):Nat:=if qskip g n (i+1) false<n/\g (qskip g n (i+1) false)=34 then qskip g n (i+1) false+1 else qskip g n (i+1) false
def meantS (c:Nat):Option Nat:=if c=110 then some 10 else if c=116 then some 9 else if c=34 then some 34 else if c=92 then some 92 else none
def saidF (g:Nat->Nat):Nat->Nat->Bool->List Nat->Nat × List Nat
 | 0,_,_,_=>(61,[])
 | k+1,i,b,acc =>
  if seenB (g i)=false then (60,[]) else
  if b=true then (match meantS (g i) with|none=>(5,[])|some m=>saidF g k (i+1) false (acc ++ [m])) else
  if g i=34 then (0,acc) else if g i=92 then saidF g k (i+1) true acc else saidF g k (i+1) false (acc ++ [g i])
def saidG (g:Nat->Nat) (n i:Nat) (b:Bool) (acc:List Nat):Nat × List Nat:=saidF g (n-i) i b acc
def numberG (g:Nat->Nat) (n i:Nat):Nat × Nat :=
 if skipG digitB g n i+1<n/\g (skipG digitB g n i)=46/\digitB (g (skipG digitB g n i+1))=true then (3,skipG digitB g n (skipG digitB g n i+1)) else (2,skipG digitB g n i)
def reachG (g:Nat->Nat) (n i:Nat):Nat × Nat :=
 if letterB (g i)=true then (1,skipG inWordB g n i) else if digitB (g i)=true then numberG g n i else if g i=34 then (4,quotedG g n i) else (5,i+signG g n i)
def longG (k:Nat):Nat:=if k=1 then 64 else if k=4 then 256 else 20
def tokenG (g:Nat->Nat) (n i:Nat):Nat × Nat × Nat :=
 if longG (reachG g n i).1<(reachG g n i).2-i then (2,0,0) else
 if (reachG g n i).1=5/\(reachG g n i).2=i then (60,0,0) else
 if (reachG g n i).1=4/\(saidG (fun j=>g (i+j)) ((reachG g n i).2-i) 1 false []).1≠0 then ((saidG (fun j=>g (i+j)) ((reachG g n i).2-i) 1 false []).1,0,0) else
 (0,(reachG g n i).1,(reachG g n i).2)
theorem qskip_go {g:Nat->Nat} {n i:Nat} {b:Bool} (h:i<n) (h1:¬ (g i=10\/(g i=34/\b=false))):qskip g n i b=qskip g n (i+1) (decide (g i=92) && !b):=by
 unfold qskip
 rw [show n-i=(n-(i+1))+1 by omega]
 show (if _ then _ else _)=_
 rw [if_neg h1]
theorem qskip_stop {g:Nat->Nat} {n i:Nat} {b:Bool} (h1:g i=10\/(g i=34/\b=false)):qskip g n i b=i:=by
 unfold qskip
 cases n-i with
 | zero=>rfl
 | succ k=>show (if _ then _ else _)=_;rw [if_pos h1]
theorem qskip_end {g:Nat->Nat} {n i:Nat} {b:Bool} (h:n<=i):qskip g n i b=i:=by
 unfold qskip;rw [show n-i=0 by omega];rfl
theorem qskip_facts {g:Nat->Nat} {n:Nat}:∀ (d i:Nat) (b:Bool),n-i=d->i<=n->i<=qskip g n i b/\qskip g n i b<=n/\(qskip g n i b<n->g (qskip g n i b)=10\/g (qskip g n i b)=34)/\(∀ j,i<=j->j<qskip g n i b->g j≠10)
 | 0,i,b,hd,h=>by
  rw [qskip_end (by omega)]
  exact ⟨Nat.le_refl _,h,fun h'=>by omega,fun j q1 q2=>by omega⟩
 | d+1,i,b,hd,h=>by
  by_cases h1:g i=10\/(g i=34/\b=false)
  ·rw [qskip_stop h1]
   exact ⟨Nat.le_refl _,h,fun _=>by rcases h1 with h|⟨h,_⟩<;>simp [h],fun j q1 q2=>by omega⟩
  ·rw [qskip_go (n:=n) (by omega) h1]
   obtain ⟨a,b',c,e⟩:=qskip_facts (g:=g) (n:=n) d (i+1) (decide (g i=92) && !b) (by omega) (by omega)
   refine ⟨by omega,b',c,fun j q1 q2=>?_⟩
   by_cases hj:j=i
   ·subst hj;intro h10;exact h1 (.inl h10)
   ·exact e j (by omega) q2
theorem quoted_facts {g:Nat->Nat} {n i:Nat} (h:i<n):i+1<=quotedG g n i/\quotedG g n i<=n:=by
 obtain ⟨a,b,_,_⟩:=qskip_facts (g:=g) (n:=n) _ (i+1) false rfl (by omega)
 unfold quotedG
 by_cases hc:qskip g n (i+1) false<n/\g (qskip g n (i+1) false)=34
 ·rw [if_pos hc];omega
 ·rw [if_neg hc];omega
theorem sign_le {g:Nat->Nat} {n i:Nat} (h:i<n):i+signG g n i<=n:=by
 unfold signG
 split
 ·omega
 ·split<;>omega
theorem number_facts {g:Nat->Nat} {n i:Nat} (h:i<n) (hd:digitB (g i)=true):i+1<=(numberG g n i).2/\(numberG g n i).2<=n/\((numberG g n i).1=2\/(numberG g n i).1=3):=by
 have h1:i+1<=skipG digitB g n i:=by rw [skip_yes h hd];exact skip_ge _ _ (by omega)
 have h2:=skip_le digitB g (show i<=n by omega)
 unfold numberG
 split
 ·have:=skip_ge digitB g (show skipG digitB g n i+1<=n by omega)
  have:=skip_le digitB g (show skipG digitB g n i+1<=n by omega)
  exact ⟨by simp only;omega,by simp only;omega,.inr rfl⟩
 ·exact ⟨h1,h2,.inl rfl⟩
theorem reach_facts {g:Nat->Nat} {n i:Nat} (h:i<n):i<=(reachG g n i).2/\(reachG g n i).2<=n/\((reachG g n i).1≠5->i+1<=(reachG g n i).2)/\1<=(reachG g n i).1/\(reachG g n i).1<=5:=by
 unfold reachG
 split
 ·rename_i hl
  have h1:i+1<=skipG inWordB g n i:=by rw [skip_yes h (by unfold inWordB;rw [hl];rfl)];exact skip_ge _ _ (by omega)
  have h2:=skip_le inWordB g (show i<=n by omega)
  exact ⟨by simp only;omega,h2,fun _=>h1,by simp,by simp⟩
 ·split
  ·rename_i hd
   obtain ⟨a,b,c⟩:=number_facts h hd
   exact ⟨by omega,b,fun _=>a,by omega,by omega⟩
  ·split
   ·obtain ⟨a,b⟩:=quoted_facts (g:=g) h
    exact ⟨by simp only;omega,b,fun _=>a,by simp,by simp⟩
   ·exact ⟨by simp only;omega,sign_le h,fun h=>absurd rfl h,by simp,by simp⟩
theorem token_facts {g:Nat->Nat} {n i:Nat} (h:i<n) (h0:(tokenG g n i).1=0):tokenG g n i=(0,reachG g n i)/\i+1<=(reachG g n i).2/\(reachG g n i).2<=n/\(reachG g n i).2-i<=longG (reachG g n i).1/\1<=(reachG g n i).1/\(reachG g n i).1<=5/\((reachG g n i).1=4->(saidG (fun j=>g (i+j)) ((reachG g n i).2-i) 1 false []).1=0):=by
 obtain ⟨a,b,c,d,e⟩:=reach_facts (g:=g) h
 unfold tokenG at h0 ⊢
 by_cases h1:longG (reachG g n i).1<(reachG g n i).2-i
 ·rw [if_pos h1] at h0;cases h0
 ·rw [if_neg h1] at h0 ⊢
  by_cases h2:(reachG g n i).1=5/\(reachG g n i).2=i
  ·rw [if_pos h2] at h0;cases h0
  ·rw [if_neg h2] at h0 ⊢
   by_cases h3:(reachG g n i).1=4/\(saidG (fun j=>g (i+j)) ((reachG g n i).2-i) 1 false []).1≠0
   ·rw [if_pos h3] at h0;exact absurd h0 h3.2
   ·rw [if_neg h3]
    refine ⟨rfl,?_,b,by omega,d,e,fun h4=>?_⟩
    ·by_cases h5:(reachG g n i).1=5
     ·have:(reachG g n i).2≠i:=fun hh=>h2 ⟨h5,hh⟩
      omega
     ·exact c h5
    ·by_cases hs:(saidG (fun j=>g (i+j)) ((reachG g n i).2-i) 1 false []).1=0
     ·exact hs
     ·exact absurd ⟨h4,hs⟩ h3
theorem saidF_congr {g g':Nat->Nat}:∀ (k i:Nat) (b:Bool) (acc:List Nat),(∀ j,i<=j->j<i+k->g' j=g j)->saidF g' k i b acc=saidF g k i b acc
 | 0,_,_,_,_=>rfl
 | k+1,i,b,acc,h=>by
  have h0:=h i (Nat.le_refl _) (by omega)
  have ih:=fun b acc=>saidF_congr (g:=g) (g':=g') k (i+1) b acc (fun j q1 q2=>h j (by omega) (by omega))
  show (if _ then _ else if _ then (match meantS (g' i) with|none=>_|some m=>_) else _)=(if _ then _ else if _ then (match meantS (g i) with|none=>_|some m=>_) else _)
  rw [h0,ih,ih]
  cases meantS (g i)<;>simp only [ih]
theorem said_congr {g g':Nat->Nat} {n i:Nat} {b:Bool} {acc:List Nat} (h:∀ j,i<=j->j<n->g' j=g j):saidG g' n i b acc=saidG g n i b acc:=by
 unfold saidG
 exact saidF_congr _ _ _ _ (fun j q1 q2=>h j q1 (by omega))
theorem qskip_same {g g':Nat->Nat} {n n':Nat}:∀ (d i i':Nat) (b:Bool),n-i=d->i<=n->(∀ j,j<qskip g n i b-i->g' (i'+j)=g (i+j))->i'+(qskip g n i b-i)<=n'->(i'+(qskip g n i b-i)<n'->g' (i'+(qskip g n i b-i))=10\/(qskip g n i b<n/\g' (i'+(qskip g n i b-i))=g (qskip g n i b)))->qskip g' n' i' b=i'+(qskip g n i b-i)
 | 0,i,i',b,hd,hi,h1,h2,h3=>by
  have eq:=qskip_end (g:=g) (n:=n) (i:=i) (b:=b) (by omega)
  rw [eq] at h1 h2 h3 ⊢
  rw [Nat.sub_self] at h2 h3 ⊢
  by_cases h:i'<n'
  ·rcases h3 (by omega) with h10|⟨h4,_⟩
   ·exact qskip_stop (.inl h10)
   ·omega
  ·exact qskip_end (by omega)
 | d+1,i,i',b,hd,hi,h1,h2,h3=>by
  by_cases hs:g i=10\/(g i=34/\b=false)
  ·rw [qskip_stop hs] at h1 h2 h3 ⊢
   rw [Nat.sub_self] at h2 h3 ⊢
   by_cases h:i'<n'
   ·rcases h3 (by omega) with h10|⟨h4,h5⟩
    ·exact qskip_stop (.inl h10)
    ·rw [Nat.add_zero] at h5
     exact qskip_stop (by rw [h5];exact hs)
   ·exact qskip_end (by omega)
  ·obtain ⟨a,b',_,_⟩:=qskip_facts (g:=g) (n:=n) d (i+1) (decide (g i=92) && !b) (by omega) (by omega)
   rw [qskip_go (n:=n) (by omega) hs] at h1 h2 h3 ⊢
   have e0:g' i'=g i:=by have:=h1 0 (by omega);simpa using this
   have key:=qskip_same (g:=g) (g':=g') (n:=n) (n':=n') d (i+1) (i'+1) (decide (g i=92) && !b) (by omega) (by omega) (fun j hj=>by
    have:=h1 (j+1) (by omega)
    rw [show i'+1+j=i'+(j+1) by omega,this,show i+(j+1)=i+1+j by omega]) (by omega) (fun h=>by
    have h4:=h3 (by omega)
    rwa [show i'+(qskip g n (i+1) (decide (g i=92) && !b)-i)=i'+1+(qskip g n (i+1) (decide (g i=92) && !b)-(i+1)) by omega] at h4)
   rw [qskip_go (n:=n') (by omega) (by rw [e0];exact hs),e0,key]
   omega
def Alike (g:Nat->Nat) (n i:Nat) (g':Nat->Nat) (n' i' m:Nat):Prop :=
 i+m<=n/\i'+m<=n'/\(∀ j,j<m->g' (i'+j)=g (i+j))
def Behind (g:Nat->Nat) (n i:Nat) (g':Nat->Nat) (n' i' m:Nat):Prop :=
 (i'+m=n')\/(∃ d,m<=d/\i+d<=n/\i'+d<=n'/\(∀ j,m<=j->j<d->g' (i'+j)=g (i+j))/\(i+d=n/\(i'+d=n'\/i'+d<n'/\g' (i'+d)=10)))
theorem behind_at {g g':Nat->Nat} {n i n' i' m:Nat} (h:Behind g n i g' n' i' m) (hlt:i'+m<n'):g' (i'+m)=10\/(i+m<n/\g' (i'+m)=g (i+m)):=by
 rcases h with h|⟨d,h1,h2,h3,h4,h5,h6⟩
 ·omega
 ·by_cases hd:m=d
  ·subst hd
   rcases h6 with h6|⟨_,h6⟩
   ·omega
   ·exact .inl h6
  ·exact .inr ⟨by omega,h4 m (Nat.le_refl _) (by omega)⟩
theorem behind_next {g g':Nat->Nat} {n i n' i' m:Nat} (h:Behind g n i g' n' i' m) (hlt:i'+m+1<n'):g' (i'+m)=10\/g' (i'+m+1)=10\/(i+m+1<n/\g' (i'+m)=g (i+m)/\g' (i'+m+1)=g (i+m+1)):=by
 rcases h with h|⟨d,h1,h2,h3,h4,h5,h6⟩
 ·omega
 ·by_cases hd:m=d
  ·subst hd
   rcases h6 with h6|⟨_,h6⟩
   ·omega
   ·exact .inl h6
  ·have e1:=h4 m (Nat.le_refl _) (by omega)
   by_cases hd1:m+1=d
   ·rcases h6 with h6|⟨_,h6⟩
    ·omega
    ·exact .inr (.inl (by rw [<- hd1] at h6;exact h6))
   ·have e2:=h4 (m+1) (by omega) (by omega)
    exact .inr (.inr ⟨by omega,e1,e2⟩)
theorem skip_alike {p:Nat->Bool} (h10:p 10=false) {g g':Nat->Nat} {n i n' i' m:Nat} (hi:i<=n) (hm:skipG p g n i=i+m) (ha:Alike g n i g' n' i' m) (hb:Behind g n i g' n' i' m):skipG p g' n' i'=i'+m:=by
 obtain ⟨h1,h2,h3⟩:=ha
 refine skip_of (by omega) h2 (fun j q1 q2=>?_) (fun h=>?_)
 ·have:=h3 (j-i') (by omega)
  rw [show i'+(j-i')=j by omega] at this
  rw [this]
  exact skip_in hi _ (by omega) (by omega)
 ·rcases behind_at hb h with h4|⟨h4,h5⟩
  ·rw [h4];exact h10
  ·rw [h5]
   have:=skip_stop (p:=p) (g:=g) hi (by omega)
   rwa [hm] at this
theorem inWord_nl:inWordB 10=false:=by decide
theorem digit_nl:digitB 10=false:=by decide
theorem behind_skip {g g':Nat->Nat} {n i n' i' k m:Nat} (hb:Behind g n i g' n' i' (k+m)):Behind g n (i+k) g' n' (i'+k) m:=by
 rcases hb with h|⟨d,h1,h2,h3,h4,h5,h6⟩
 ·exact .inl (by omega)
 ·refine .inr ⟨d-k,by omega,by omega,by omega,fun j q1 q2=>?_,by omega,?_⟩
  ·have:=h4 (k+j) (by omega) (by omega)
   rwa [show i'+k+j=i'+(k+j) by omega,show i+k+j=i+(k+j) by omega]
  ·rcases h6 with h6|⟨h6,h7⟩
   ·exact .inl (by omega)
   ·exact .inr ⟨by omega,by rwa [show i'+k+(d-k)=i'+d by omega]⟩
theorem alike_skip {g g':Nat->Nat} {n i n' i' k m:Nat} (ha:Alike g n i g' n' i' (k+m)):Alike g n (i+k) g' n' (i'+k) m:=by
 obtain ⟨h1,h2,h3⟩:=ha
 refine ⟨by omega,by omega,fun j hj=>?_⟩
 have:=h3 (k+j) (by omega)
 rwa [show i'+k+j=i'+(k+j) by omega,show i+k+j=i+(k+j) by omega]
theorem reach_alike {g g':Nat->Nat} {n i n' i' m:Nat} (hi:i<n) (hi':i'<n') (hm:(reachG g n i).2=i+m) (h5:(reachG g n i).1=5->g' i'=g i) (ha:Alike g n i g' n' i' m) (hb:Behind g n i g' n' i' m):reachG g' n' i'=((reachG g n i).1,i'+m):=by
 obtain ⟨a1,a2,a3,a4,a5⟩:=reach_facts (g:=g) hi
 have e0:g' i'=g i:=by
  by_cases h:(reachG g n i).1=5
  ·exact h5 h
  ·have:=a3 h
   have:=ha.2.2 0 (by omega)
   simpa using this
 unfold reachG at hm ⊢
 rw [e0]
 by_cases hl:letterB (g i)=true
 ·rw [if_pos hl] at hm ⊢
  rw [if_pos hl,skip_alike inWord_nl (by omega) hm ha hb]
 ·rw [if_neg hl] at hm ⊢
  rw [if_neg hl]
  by_cases hd:digitB (g i)=true
  ·rw [if_pos hd] at hm ⊢
   rw [if_pos hd]
   have k1:=skip_ge digitB g (show i<=n by omega)
   have k2:=skip_le digitB g (show i<=n by omega)
   unfold numberG at hm ⊢
   by_cases hc:skipG digitB g n i+1<n/\g (skipG digitB g n i)=46/\digitB (g (skipG digitB g n i+1))=true
   ·rw [if_pos hc] at hm ⊢
    obtain ⟨c1,c2,c3⟩:=hc
    have k3:skipG digitB g n i+2<=skipG digitB g n (skipG digitB g n i+1):=by
     rw [skip_yes c1 c3];exact skip_ge _ _ (by omega)
    obtain ⟨q,hq⟩:∃ q,skipG digitB g n i=i+q:=⟨skipG digitB g n i-i,by omega⟩
    have e1:skipG digitB g' n' i'=i'+q:=by
     refine skip_of (by omega) (by have:=ha.2.1;omega) (fun j q1 q2=>?_) (fun h=>?_)
     ·have:=ha.2.2 (j-i') (by omega)
      rw [show i'+(j-i')=j by omega] at this
      rw [this]
      exact skip_in (n:=n) (i:=i) (by omega) _ (by omega) (by omega)
     ·rw [ha.2.2 q (by omega),<- hq,c2];rfl
    have e46:g' (i'+q)=46:=by rw [ha.2.2 q (by omega),<- hq];exact c2
    have ed:digitB (g' (i'+q+1))=true:=by
     have:=ha.2.2 (q+1) (by omega)
     rw [show i'+q+1=i'+(q+1) by omega,this,show i+(q+1)=i+q+1 by omega,<- hq];exact c3
    rw [e1,if_pos ⟨by have:=ha.2.1;omega,e46,ed⟩]
    obtain ⟨r,hr⟩:∃ r,m=(q+1)+r:=⟨m-(q+1),by omega⟩
    subst hr
    have:=skip_alike digit_nl (i:=i+(q+1)) (i':=i'+(q+1)) (m:=r) (by omega) (by rw [hq] at hm;rw [show i+(q+1)=i+q+1 by omega];omega) (alike_skip ha) (behind_skip hb)
    rw [show i'+q+1=i'+(q+1) by omega,this]
    simp only [Prod.mk.injEq,true_and];omega
   ·rw [if_neg hc] at hm ⊢
    have e1:=skip_alike digit_nl (by omega) hm ha hb
    rw [e1,if_neg]
    rintro ⟨c1,c2,c3⟩
    rcases behind_next hb c1 with h|h|⟨r1,r2,r3⟩
    ·omega
    ·rw [h] at c3;exact absurd c3 (by decide)
    ·simp only at hm
     exact hc ⟨by omega,by rw [hm,<- r2];exact c2,by rw [hm,<- r3];exact c3⟩
  ·rw [if_neg hd] at hm ⊢
   rw [if_neg hd]
   by_cases hq:g i=34
   ·rw [if_pos hq] at hm ⊢
    rw [if_pos hq]
    obtain ⟨k1,k2,k3,k4⟩:=qskip_facts (g:=g) (n:=n) _ (i+1) false rfl (by omega)
    unfold quotedG at hm ⊢
    by_cases hc:qskip g n (i+1) false<n/\g (qskip g n (i+1) false)=34
    ·rw [if_pos hc] at hm ⊢
     simp only at hm
     have key:=qskip_same (g:=g) (g':=g') (n:=n) (n':=n') _ (i+1) (i'+1) false rfl (by omega) (fun j hj=>by
      have:=ha.2.2 (j+1) (by omega)
      rw [show i'+1+j=i'+(j+1) by omega,this,show i+(j+1)=i+1+j by omega]) (by have:=ha.2.1;omega) (fun h=>.inr ⟨hc.1,by
      have:=ha.2.2 (1+(qskip g n (i+1) false-(i+1))) (by omega)
      rw [show i'+1+(qskip g n (i+1) false-(i+1))=i'+(1+(qskip g n (i+1) false-(i+1))) by omega,this,show i+(1+(qskip g n (i+1) false-(i+1)))=qskip g n (i+1) false by omega]⟩)
     have h34:g' (qskip g' n' (i'+1) false)=34:=by
      rw [key]
      have:=ha.2.2 (1+(qskip g n (i+1) false-(i+1))) (by omega)
      rw [show i'+1+(qskip g n (i+1) false-(i+1))=i'+(1+(qskip g n (i+1) false-(i+1))) by omega,this,show i+(1+(qskip g n (i+1) false-(i+1)))=qskip g n (i+1) false by omega]
      exact hc.2
     rw [if_pos ⟨by rw [key];have:=ha.2.1;omega,h34⟩,key]
     simp only [Prod.mk.injEq,true_and];omega
    ·rw [if_neg hc] at hm ⊢
     simp only at hm
     have key:=qskip_same (g:=g) (g':=g') (n:=n) (n':=n') _ (i+1) (i'+1) false rfl (by omega) (fun j hj=>by
      have:=ha.2.2 (j+1) (by omega)
      rw [show i'+1+j=i'+(j+1) by omega,this,show i+(j+1)=i+1+j by omega]) (by have:=ha.2.1;omega) (fun h=>by
      have e:=behind_at hb (by omega)
      rw [show i'+1+(qskip g n (i+1) false-(i+1))=i'+m by omega]
      rcases e with e|⟨e,e'⟩
      ·exact .inl e
      ·exact .inr ⟨by omega,by rw [e',show i+m=qskip g n (i+1) false by omega]⟩)
     have key':qskip g' n' (i'+1) false=i'+m:=by rw [key];omega
     rw [key',if_neg]
     rintro ⟨c1,c2⟩
     rcases behind_at hb c1 with e|⟨e,e'⟩
     ·omega
     ·exact hc ⟨by omega,by rw [hm,<- e'];exact c2⟩
   ·rw [if_neg hq] at hm ⊢
    rw [if_neg hq]
    simp only at hm
    have hm':signG g n i=m:=by omega
    have:signG g' n' i'=m:=by
     unfold signG at hm' ⊢
     by_cases hp:i+1<n/\pairS (g i) (g (i+1))=true
     ·rw [if_pos hp] at hm'
      subst hm'
      have:=ha.2.2 1 (by omega)
      rw [if_pos ⟨by have:=ha.2.1;omega,by rw [e0,this];exact hp.2⟩]
     ·rw [if_neg hp] at hm'
      have hnp:¬ (i'+1<n'/\pairS (g' i') (g' (i'+1))=true):=by
       rintro ⟨c1,c2⟩
       have p10:∀ x,pairS x 10=false:=fun x=>by unfold pairS;simp
       by_cases ho:oneS (g i)=true
       ·rw [if_pos ho] at hm'
        subst hm'
        rcases behind_at hb c1 with e|⟨e,e'⟩
        ·rw [e,p10] at c2;cases c2
        ·rw [e0,e'] at c2;exact hp ⟨e,c2⟩
       ·rw [if_neg ho] at hm'
        subst hm'
        rcases behind_next hb c1 with e|e|⟨r1,r2,r3⟩
        ·simp only [Nat.add_zero] at e
         rw [e] at c2
         exact absurd c2 (by unfold pairS;simp)
        ·simp only [Nat.add_zero] at e
         rw [e,p10] at c2;cases c2
        ·simp only [Nat.add_zero] at r1 r2 r3
         rw [e0,r3] at c2;exact hp ⟨r1,c2⟩
      rw [if_neg hnp,e0];exact hm'
    rw [this]
theorem token_alike {g g':Nat->Nat} {n i n' i' m:Nat} (hi:i<n) (hi':i'<n') (hm:(reachG g n i).2=i+m) (h5:(reachG g n i).1=5->g' i'=g i) (ha:Alike g n i g' n' i' m) (hb:Behind g n i g' n' i' m):reachG g' n' i'=((reachG g n i).1,i'+m)/\(tokenG g' n' i').1=(tokenG g n i).1/\(tokenG g' n' i').2.1=(tokenG g n i).2.1:=by
 have hr:=reach_alike hi hi' hm h5 ha hb
 refine ⟨hr,?_⟩
 have hs:saidG (fun j=>g' (i'+j)) (i'+m-i') 1 false []=saidG (fun j=>g (i+j)) ((reachG g n i).2-i) 1 false []:=by
  rw [hm,Nat.add_sub_cancel_left,Nat.add_sub_cancel_left]
  exact said_congr (fun j _ hj=>ha.2.2 j hj)
 unfold tokenG
 rw [hr]
 simp only
 rw [hs,show i'+m-i'=(reachG g n i).2-i by omega]
 by_cases h1:longG (reachG g n i).1<(reachG g n i).2-i
 ·rw [if_pos h1,if_pos h1];exact ⟨rfl,rfl⟩
 ·rw [if_neg h1,if_neg h1]
  by_cases h2:(reachG g n i).1=5/\(reachG g n i).2=i
  ·rw [if_pos h2,if_pos ⟨h2.1,by omega⟩];exact ⟨rfl,rfl⟩
  ·rw [if_neg h2,if_neg (fun h=>h2 ⟨h.1,by omega⟩)]
   split<;>exact ⟨rfl,rfl⟩
theorem token_shift {g g':Nat->Nat} {n n' k i:Nat} (hi:i<n') (hn:n=k+n') (hg:∀ j,j<n'->g' j=g (k+j)):(tokenG g n (k+i)).1=(tokenG g' n' i).1/\(tokenG g n (k+i)).2.1=(tokenG g' n' i).2.1/\((tokenG g' n' i).1=0->(tokenG g n (k+i)).2.2=k+(tokenG g' n' i).2.2):=by
 obtain ⟨a1,a2,a3,a4,a5⟩:=reach_facts (g:=g') hi
 obtain ⟨m,hm⟩:∃ m,(reachG g' n' i).2=i+m:=⟨(reachG g' n' i).2-i,by omega⟩
 have hg':∀ j,i+j<n'->g (k+i+j)=g' (i+j):=fun j hj=>by rw [hg _ hj,show k+i+j=k+(i+j) by omega]
 obtain ⟨k1,k2,k3⟩:=token_alike (g:=g') (g':=g) (n:=n') (n':=n) (i:=i) (i':=k+i) hi (by omega) hm (fun _=>(hg i hi).symm) ⟨by omega,by omega,fun j hj=>hg' j (by omega)⟩
  (.inr ⟨n'-i,by omega,by omega,by omega,fun j q1 q2=>hg' j (by omega),by omega,.inl (by omega)⟩)
 refine ⟨k2,k3,fun h0=>?_⟩
 obtain ⟨e,_⟩:=token_facts hi h0
 obtain ⟨e',_⟩:=token_facts (g:=g) (n:=n) (i:=k+i) (by omega) (by rw [k2];exact h0)
 rw [e',e,k1]
 simp only
 omega
abbrev Tok:=Nat × Nat × Nat
def toksF (g:Nat->Nat) (n:Nat):Nat->Nat->Nat->List Tok × Nat × Nat
 | 0,i,_=>([],0,i)
 | k+1,i,c =>
  if i<n then
   if c=16384 then ([],2,i) else
   if (tokenG g n i).1=0 then
    (((tokenG g n i).2.1,i,(tokenG g n i).2.2) :: (toksF g n k (gapG g n (tokenG g n i).2.2) (c+1)).1,(toksF g n k (gapG g n (tokenG g n i).2.2) (c+1)).2)
   else ([],(tokenG g n i).1,i)
  else ([],0,i)
def toksG (g:Nat->Nat) (n i c:Nat):List Tok × Nat × Nat:=toksF g n (n-i+1) i c
theorem token_to {g:Nat->Nat} {n i:Nat} (h:i<n) (h0:(tokenG g n i).1=0):i+1<=(tokenG g n i).2.2/\(tokenG g n i).2.2<=n/\1<=(tokenG g n i).2.1/\(tokenG g n i).2.1<=5:=by
 obtain ⟨e,a,b,c,d,f,_⟩:=token_facts h h0
 rw [e]
 exact ⟨a,b,d,f⟩
theorem toksF_fuel {g:Nat->Nat} {n:Nat}:∀ (k m i c:Nat),n-i<k->n-i<m->toksF g n k i c=toksF g n m i c
 | 0,_,i,_,h,_=>by omega
 | _,0,i,_,_,h=>by omega
 | k+1,m+1,i,c,h1,h2=>by
  show (if _ then _ else _)=(if _ then _ else _)
  by_cases hi:i<n
  ·rw [if_pos hi,if_pos hi]
   by_cases hc:c=16384
   ·rw [if_pos hc,if_pos hc]
   ·rw [if_neg hc,if_neg hc]
    by_cases h0:(tokenG g n i).1=0
    ·obtain ⟨a,b,_⟩:=token_to hi h0
     have:=gap_ge g b
     have hb:=gap_le g b
     rw [if_pos h0,if_pos h0,toksF_fuel k m _ _ (by omega) (by omega)]
    ·rw [if_neg h0,if_neg h0]
  ·rw [if_neg hi,if_neg hi]
theorem toks_end {g:Nat->Nat} {n i c:Nat} (h:¬ i<n):toksG g n i c=([],0,i):=by
 show (if _ then _ else _)=_
 rw [if_neg h]
theorem toks_full {g:Nat->Nat} {n i:Nat} (h:i<n):toksG g n i 16384=([],2,i):=by
 show (if _ then _ else _)=_
 rw [if_pos h,if_pos rfl]
theorem toks_bad {g:Nat->Nat} {n i c:Nat} (h:i<n) (hc:c≠16384) (h0:(tokenG g n i).1≠0):toksG g n i c=([],(tokenG g n i).1,i):=by
 show (if _ then _ else _)=_
 rw [if_pos h,if_neg hc,if_neg h0]
theorem toks_next {g:Nat->Nat} {n i c:Nat} (h:i<n) (hc:c≠16384) (h0:(tokenG g n i).1=0):toksG g n i c=(((tokenG g n i).2.1,i,(tokenG g n i).2.2) :: (toksG g n (gapG g n (tokenG g n i).2.2) (c+1)).1,(toksG g n (gapG g n (tokenG g n i).2.2) (c+1)).2):=by
 obtain ⟨a,b,_⟩:=token_to h h0
 have:=gap_ge g b
 have hb:=gap_le g b
 show (if _ then _ else _)=_
 rw [if_pos h,if_neg hc,if_pos h0]
 unfold toksG
 rw [toksF_fuel (n-i) (n-gapG g n (tokenG g n i).2.2+1) _ _ (by omega) (by omega)]
theorem toks_ind (g:Nat->Nat) {n:Nat} {P:Nat->Nat->Prop} (h:∀ i c,i<=n->(i<n->(tokenG g n i).1=0->P (gapG g n (tokenG g n i).2.2) (c+1))->P i c):∀ i c,i<=n->P i c:=by
 have:∀ d i c,n-i=d->i<=n->P i c:=by
  intro d
  induction d using Nat.strongRecOn with
  | _ d ih =>
   intro i c hd hi
   refine h i c hi (fun hlt h0=>?_)
   obtain ⟨a,b,_⟩:=token_to hlt h0
   have:=gap_ge g b
   have hb:=gap_le g b
   exact ih _ (by omega) _ _ rfl hb
 exact fun i c hi=>this _ i c rfl hi
def Chain (g:Nat->Nat) (n:Nat):Nat->List Tok->Prop
 | a,[]=>gapG g n a=n
 | a,x :: l=>a<=x.2.1/\x.2.1<n/\gapG g n a=x.2.1/\tokenG g n x.2.1=(0,x.1,x.2.2)/\x.2.1<x.2.2/\x.2.2<=n/\1<=x.1/\x.1<=5/\Chain g n x.2.2 l
theorem toks_chain {g:Nat->Nat} {n:Nat}:∀ i c,i<=n->∀ a,a<=n->gapG g n a=i->(toksG g n i c).2.1=0->Chain g n a (toksG g n i c).1/\(toksG g n i c).2.2=n:=by
 refine toks_ind g (fun i c hi ih=>?_)
 intro a ha hga h0
 have hag:=gap_ge g ha
 by_cases hlt:i<n
 ·by_cases hc:c=16384
  ·subst hc;rw [toks_full hlt] at h0;cases h0
  ·by_cases ht:(tokenG g n i).1=0
   ·obtain ⟨q1,q2,q3,q4⟩:=token_to hlt ht
    rw [toks_next hlt hc ht] at h0 ⊢
    obtain ⟨r1,r2⟩:=ih hlt ht _ q2 rfl h0
    obtain ⟨e,_⟩:=token_facts hlt ht
    refine ⟨⟨by simp only;omega,hlt,hga,?_,q1,q2,q3,q4,r1⟩,r2⟩
    show tokenG g n i=(0,(tokenG g n i).2.1,(tokenG g n i).2.2)
    rw [e]
   ·rw [toks_bad hlt hc ht] at h0;exact absurd h0 ht
 ·rw [toks_end hlt]
  exact ⟨by show gapG g n a=n;omega,by show i=n;omega⟩
theorem toks_len {g:Nat->Nat} {n:Nat}:∀ i c,i<=n->(toksG g n i c).1.length<=n-i:=by
 refine toks_ind g (fun i c hi ih=>?_)
 by_cases hlt:i<n
 ·by_cases hc:c=16384
  ·subst hc;rw [toks_full hlt];simp
  ·by_cases ht:(tokenG g n i).1=0
   ·obtain ⟨q1,q2,_⟩:=token_to hlt ht
    have:=gap_ge g q2
    have:=gap_le g q2
    have:=ih hlt ht
    rw [toks_next hlt hc ht]
    simp only [List.length_cons]
    omega
   ·rw [toks_bad hlt hc ht];simp
 ·rw [toks_end hlt];simp
theorem toks_count {g:Nat->Nat} {n:Nat}:∀ i c,i<=n->∀ c',c+(n-i)<=16384->c'+(n-i)<=16384->toksG g n i c=toksG g n i c':=by
 refine toks_ind g (fun i c hi ih=>?_)
 intro c' h1 h2
 by_cases hlt:i<n
 ·by_cases ht:(tokenG g n i).1=0
  ·obtain ⟨q1,q2,_⟩:=token_to hlt ht
   have:=gap_ge g q2
   rw [toks_next hlt (by omega) ht,toks_next hlt (by omega) ht,ih hlt ht (c'+1) (by omega) (by omega)]
  ·rw [toks_bad hlt (by omega) ht,toks_bad hlt (by omega) ht]
 ·rw [toks_end hlt,toks_end hlt]
def moveT (k:Nat) (x:Tok):Tok:=(x.1,k+x.2.1,k+x.2.2)
theorem toks_shift {g g':Nat->Nat} {n n' k:Nat} (hn:n=k+n') (hg:∀ j,j<n'->g' j=g (k+j)):∀ i c,i<=n'->toksG g n (k+i) c=((toksG g' n' i c).1.map (moveT k),(toksG g' n' i c).2.1,k+(toksG g' n' i c).2.2):=by
 refine toks_ind g' (fun i c hi ih=>?_)
 by_cases hlt:i<n'
 ·have hlt':k+i<n:=by omega
  obtain ⟨t1,t2,t3⟩:=token_shift hlt hn hg
  by_cases hc:c=16384
  ·subst hc;rw [toks_full hlt,toks_full hlt'];rfl
  ·by_cases ht:(tokenG g' n' i).1=0
   ·obtain ⟨q1,q2,_⟩:=token_to hlt ht
    rw [toks_next hlt hc ht,toks_next hlt' hc (by rw [t1];exact ht),t2,t3 ht,gap_shift hn hg _ q2,ih hlt ht]
    rfl
   ·rw [toks_bad hlt hc ht,toks_bad hlt' hc (by rw [t1];exact ht),t1];rfl
 ·rw [toks_end hlt,toks_end (show ¬ k+i<n by omega)];rfl
def lexG (g:Nat->Nat) (n:Nat):List Tok × Nat × Nat :=
 if 65536<n then ([],2,0) else
 if (toksG g n (gapG g n 0) 0).2.1=0 then ((toksG g n (gapG g n 0) 0).1 ++ [(0,n,n)],0,0) else ([],(toksG g n (gapG g n 0) 0).2)
def atK (l:List Tok) (k:Nat):Nat:=if k=0 then 0 else (l.getD (k-1) (0,0,0)).2.2
def atA (a:Nat) (l:List Tok) (k:Nat):Nat:=if k=0 then a else (l.getD (k-1) (0,0,0)).2.2
theorem chain_get {g:Nat->Nat} {n:Nat}:∀ (l:List Tok) (a:Nat),a<=n->Chain g n a l->(∀ k (h:k<l.length),atA a l k<=l[k].2.1/\l[k].2.1<n/\gapG g n (atA a l k)=l[k].2.1/\tokenG g n l[k].2.1=(0,l[k].1,l[k].2.2)/\l[k].2.1<l[k].2.2/\l[k].2.2<=n/\1<=l[k].1/\l[k].1<=5)/\gapG g n (atA a l l.length)=n/\atA a l l.length<=n
 | [],a,ha,h=>⟨fun k hk=>absurd hk (by simp),h,ha⟩
 | x :: l,a,ha,h=>by
  obtain ⟨h1,h2,h3,h4,h5,h6,h7,h8,h9⟩:=h
  obtain ⟨i1,i2,i3⟩:=chain_get l x.2.2 h6 h9
  have e:∀ k,atA a (x :: l) (k+1)=atA x.2.2 l k:=fun k=>by
   unfold atA
   rw [if_neg (by omega),Nat.add_sub_cancel]
   cases k with
   | zero=>rfl
   | succ k=>rw [if_neg (by omega)];rfl
  refine ⟨fun k hk=>?_,?_,?_⟩
  ·cases k with
   | zero=>exact ⟨h1,h2,h3,h4,h5,h6,h7,h8⟩
   | succ k =>
    have:=i1 k (by simpa using hk)
    rw [e k];exact this
  ·rw [List.length_cons,e];exact i2
  ·rw [List.length_cons,e];exact i3
def TokOk (g:Nat->Nat) (n at0:Nat) (x:Tok):Prop:=at0<=x.2.1/\x.2.1<x.2.2/\x.2.2<=n/\1<=x.1/\x.1<=5/\gapG g n at0=x.2.1/\tokenG g n x.2.1=(0,x.1,x.2.2)/\blankB (g x.2.1)=false/\comB g n x.2.1=false
theorem lex_ok {g:Nat->Nat} {n:Nat} (h:(lexG g n).2.1=0):n<=65536/\(lexG g n).2.2=0/\∃ l:List Tok,(lexG g n).1=l ++ [(0,n,n)]/\l.length<=n/\(∀ k (h:k<l.length),TokOk g n (atK l k) l[k])/\gapG g n (atK l l.length)=n/\atK l l.length<=n:=by
 unfold lexG at h ⊢
 by_cases h1:65536<n
 ·rw [if_pos h1] at h;cases h
 ·rw [if_neg h1] at h ⊢
  by_cases h2:(toksG g n (gapG g n 0) 0).2.1=0
  ·rw [if_pos h2]
   obtain ⟨c1,c2⟩:=toks_chain (g:=g) (n:=n) _ 0 (gap_le g (Nat.zero_le _)) 0 (Nat.zero_le _) rfl h2
   obtain ⟨d1,d2,d3⟩:=chain_get _ 0 (Nat.zero_le _) c1
   have hl:=toks_len (g:=g) (n:=n) _ 0 (gap_le g (Nat.zero_le _))
   refine ⟨by omega,rfl,_,rfl,by omega,fun k hk=>?_,d2,d3⟩
   obtain ⟨e1,e2,e3,e4,e5,e6,e7,e8⟩:=d1 k hk
   have hle:atK (toksG g n (gapG g n 0) 0).1 k<=n:=by have:atK (toksG g n (gapG g n 0) 0).1 k=atA 0 (toksG g n (gapG g n 0) 0).1 k:=rfl;omega
   obtain ⟨f1,f2,f3,f4⟩:=gap_facts g _ hle
   have ee:gapG g n (atK (toksG g n (gapG g n 0) 0).1 k)=_:=e3
   rw [ee] at f3 f4
   exact ⟨e1,e5,e6,e7,e8,e3,e4,f3 e2,f4⟩
  ·rw [if_neg h2] at h;exact absurd h h2
def atT (x:List Nat) (j:Nat):Nat:=x.getD j 0
theorem at_cons (c:Nat) (x:List Nat) (j:Nat):atT x j=atT (c :: x) (1+j):=by unfold atT;rw [Nat.add_comm];rfl
theorem at_app (a x:List Nat) (j:Nat):atT x j=atT (a ++ x) (a.length+j):=by
 unfold atT
 rw [List.getD_eq_getElem?_getD,List.getD_eq_getElem?_getD,List.getElem?_append_right (by omega)]
 congr 2;omega
def WLex (x:List Nat) (W:List (Nat × List Nat)):Prop :=
 x.length<16384/\(toksG (atT x) x.length (gapG (atT x) x.length 0) 0).2.1=0/\(toksG (atT x) x.length (gapG (atT x) x.length 0) 0).1.map (fun t=>(t.1,(x.drop t.2.1).take (t.2.2-t.2.1)))=W
theorem wl_nil:WLex [] []:=by
 have e:gapG (atT []) ([]:List Nat).length 0=0:=gap_end (g:=atT []) (n:=0)
 refine ⟨by simp,?_,?_⟩<;>rw [e,toks_end (by simp)]<;>rfl
theorem wl_blank {c:Nat} {x:List Nat} {W:List (Nat × List Nat)} (hb:blankB c=true) (hl:x.length+1<16384) (h:WLex x W):WLex (c :: x) W:=by
 obtain ⟨h0,h1,h2⟩:=h
 have hn:(c :: x).length=1+x.length:=by simp;omega
 have hg:∀ j,j<x.length->atT x j=atT (c :: x) (1+j):=fun j _=>at_cons c x j
 have e1:gapG (atT (c :: x)) (c :: x).length 0=1+gapG (atT x) x.length 0:=by
  rw [gap_blank (by simp) hb,<- gap_shift hn hg 0 (by omega)]
 have e2:=toks_shift hn hg (gapG (atT x) x.length 0) 0 (gap_le _ (by omega))
 refine ⟨by simpa using hl,?_,?_⟩
 ·rw [e1,e2];exact h1
 ·rw [e1,e2,<- h2,List.map_map]
  refine List.map_congr_left fun t _=>?_
  show (t.1,((c :: x).drop (1+t.2.1)).take (1+t.2.2-(1+t.2.1)))=_
  rw [show 1+t.2.1=t.2.1+1 by omega,List.drop_succ_cons,show 1+t.2.2-(t.2.1+1)=t.2.2-t.2.1 by omega]
theorem wl_raw {k:Nat} {a x:List Nat} {W:List (Nat × List Nat)} (h:WLex x W) (hl:a.length+x.length<16384) (ha:0<a.length) (hgap:gapG (atT (a ++ x)) (a ++ x).length 0=0) (ht:tokenG (atT (a ++ x)) (a ++ x).length 0=(0,k,a.length)):WLex (a ++ x) ((k,a) :: W):=by
 obtain ⟨h0,h1,h2⟩:=h
 have hn:(a ++ x).length=a.length+x.length:=by simp
 have hg:∀ j,j<x.length->atT x j=atT (a ++ x) (a.length+j):=fun j _=>at_app a x j
 have e1:gapG (atT (a ++ x)) (a ++ x).length a.length=a.length+gapG (atT x) x.length 0:=by
  have:=gap_shift hn hg 0 (by omega)
  rwa [Nat.add_zero] at this
 have e2:=toks_shift hn hg (gapG (atT x) x.length 0) 1 (gap_le _ (by omega))
 have e3:=toks_count (g:=atT x) (n:=x.length) (gapG (atT x) x.length 0) 1 (gap_le _ (by omega)) 0 (by omega) (by omega)
 have e4:=toks_next (g:=atT (a ++ x)) (n:=(a ++ x).length) (i:=0) (c:=0) (by rw [hn];omega) (by omega) (by rw [ht])
 rw [ht] at e4
 simp only at e4
 rw [Nat.zero_add,e1,e2,e3] at e4
 refine ⟨by rw [hn];exact hl,?_,?_⟩
 ·rw [hgap,e4];exact h1
 ·rw [hgap,e4,<- h2]
  simp only [List.map_cons,List.map_map]
  congr 1
  ·simp
  ·refine List.map_congr_left fun t _=>?_
   show (t.1,((a ++ x).drop (a.length+t.2.1)).take (a.length+t.2.2-(a.length+t.2.1)))=_
   rw [show a.length+t.2.2-(a.length+t.2.1)=t.2.2-t.2.1 by omega,List.drop_append,List.drop_eq_nil_of_le (by omega),List.nil_append,show a.length+t.2.1-a.length=t.2.1 by omega]
def tokOk (k:Nat) (a:List Nat) (h:Option Nat):Bool :=
 if k=1 then a.all inWordB && letterB (a.headD 0) && decide (a.length<=64) && (match h with|some c=>!inWordB c|none=>true)
 else if k=2 then a.all digitB && decide (0<a.length) && decide (a.length<=20) && (match h with|some c=>!digitB c && decide (c≠46)|none=>true)
 else decide (k=5) && decide (a.length=1) && oneS (a.headD 0) && (match h with|some c=>!pairS (a.headD 0) c && !(decide (a.headD 0=47) && decide (c=47))|none=>true)
theorem at_lt {a x:List Nat} {j:Nat} (h:j<a.length):atT (a ++ x) j=a[j]:=by
 unfold atT
 rw [List.getD_eq_getElem?_getD,List.getElem?_append_left h,List.getElem?_eq_getElem h];rfl
theorem at_head {a x:List Nat} {c:Nat} (h:x.head? = some c):atT (a ++ x) a.length=c:=by
 have:=at_app a x 0
 rw [Nat.add_zero] at this
 rw [<- this]
 cases x with
 | nil=>simp at h
 | cons d x=>simp at h;subst h;rfl
theorem head_none {x:List Nat} (h:x.head? = none):x.length=0:=by
 cases x with
 | nil=>rfl
 | cons d x=>simp at h
theorem letter_small {c:Nat} (h:letterB c=true):blankB c=false/\c≠47/\c≠34/\inWordB c=true:=by
 refine ⟨?_,?_,?_,by unfold inWordB;rw [h];rfl⟩
 all_goals
  unfold letterB at h
  simp only [Bool.or_eq_true,decide_eq_true_eq] at h
 ·unfold blankB;simp;omega
 ·omega
 ·omega
theorem digit_small {c:Nat} (h:digitB c=true):blankB c=false/\c≠47/\c≠34/\letterB c=false:=by
 unfold digitB at h
 simp only [decide_eq_true_eq] at h
 refine ⟨?_,?_,?_,?_⟩
 ·unfold blankB;simp;omega
 ·omega
 ·omega
 ·unfold letterB;simp;omega
theorem one_small {c:Nat} (h:oneS c=true):blankB c=false/\c≠34/\letterB c=false/\digitB c=false:=by
 unfold oneS oneL at h
 simp only [List.contains_eq_mem,List.mem_cons,List.not_mem_nil,or_false,decide_eq_true_eq] at h
 rcases h with rfl|rfl|rfl|rfl|rfl|rfl|rfl|rfl|rfl|rfl|rfl|rfl|rfl|rfl|rfl|rfl|rfl|rfl|rfl<;>decide
theorem wl_tok {k:Nat} {a x:List Nat} {W:List (Nat × List Nat)} (hk:tokOk k a x.head? = true) (hl:a.length+x.length<16384) (h:WLex x W):WLex (a ++ x) ((k,a) :: W):=by
 have hn:(a ++ x).length=a.length+x.length:=by simp
 unfold tokOk at hk
 by_cases k1:k=1
 ·subst k1
  rw [if_pos rfl] at hk
  simp only [Bool.and_eq_true,decide_eq_true_eq] at hk
  obtain ⟨⟨⟨ha,hlet⟩,hlen⟩,hh⟩:=hk
  have h0:0<a.length:=by
   cases a with
   | nil=>simp [letterB] at hlet
   | cons c a=>simp
  have e0:atT (a ++ x) 0=a.headD 0:=by
   rw [at_lt h0]
   cases a with
   | nil=>simp at h0
   | cons c a=>rfl
  obtain ⟨l1,l2,l3,l4⟩:=letter_small hlet
  have hs:skipG inWordB (atT (a ++ x)) (a ++ x).length 0=a.length:=skip_of (by omega) (by omega) (fun j _ hj=>by rw [at_lt hj];exact List.all_eq_true.1 ha _ (List.getElem_mem hj)) (fun hlt=>by
   cases hx:x.head? with
   | none=>have:=head_none hx;omega
   | some c=>rw [at_head hx];rw [hx] at hh;simpa using hh)
  have hr:reachG (atT (a ++ x)) (a ++ x).length 0=(1,a.length):=by unfold reachG;rw [e0,if_pos hlet,hs]
  refine wl_raw h hl h0 (gap_here (by omega) (fun _=>by rw [e0];exact l1) (comB_no (fun e=>l2 (by rw [<- e0];exact e.2.1)))) ?_
  unfold tokenG
  rw [hr]
  rw [if_neg (by simp [longG];omega),if_neg (by simp),if_neg (by simp)]
 ·rw [if_neg k1] at hk
  by_cases k2:k=2
  ·subst k2
   rw [if_pos rfl] at hk
   simp only [Bool.and_eq_true,decide_eq_true_eq] at hk
   obtain ⟨⟨⟨ha,h0⟩,hlen⟩,hh⟩:=hk
   have hd0:digitB a[0]=true:=List.all_eq_true.1 ha _ (List.getElem_mem h0)
   have e0:atT (a ++ x) 0=a[0]:=at_lt h0
   obtain ⟨l1,l2,l3,l4⟩:=digit_small hd0
   have hs:skipG digitB (atT (a ++ x)) (a ++ x).length 0=a.length:=skip_of (by omega) (by omega) (fun j _ hj=>by rw [at_lt hj];exact List.all_eq_true.1 ha _ (List.getElem_mem hj)) (fun hlt=>by
    cases hx:x.head? with
    | none=>have:=head_none hx;omega
    | some c=>rw [at_head hx];rw [hx] at hh;simp at hh;exact hh.1)
   have hr:reachG (atT (a ++ x)) (a ++ x).length 0=(2,a.length):=by
    unfold reachG
    rw [e0,if_neg (by rw [l4];simp),if_pos hd0]
    unfold numberG
    rw [hs,if_neg]
    rintro ⟨q1,q2,-⟩
    cases hx:x.head? with
    | none=>have:=head_none hx;omega
    | some c=>rw [at_head hx] at q2;rw [hx] at hh;simp at hh;exact hh.2 q2
   refine wl_raw h hl h0 (gap_here (by omega) (fun _=>by rw [e0];exact l1) (comB_no (fun e=>l2 (by rw [<- e0];exact e.2.1)))) ?_
   unfold tokenG
   rw [hr]
   rw [if_neg (by simp [longG];omega),if_neg (by simp),if_neg (by simp)]
  ·rw [if_neg k2] at hk
   simp only [Bool.and_eq_true,decide_eq_true_eq] at hk
   obtain ⟨⟨⟨rfl,h1⟩,ho⟩,hh⟩:=hk
   obtain ⟨c,rfl⟩:∃ c,a=[c]:=by
    cases a with
    | nil=>simp at h1
    | cons c a=>simp at h1;subst h1;exact ⟨c,rfl⟩
   have ho':oneS c=true:=ho
   obtain ⟨l1,l3,l4,l5⟩:=one_small ho'
   have e0:atT ([c] ++ x) 0=c:=rfl
   have hsg:signG (atT ([c] ++ x)) ([c] ++ x).length 0=1:=by
    unfold signG
    rw [if_neg,e0,if_pos ho']
    rintro ⟨q1,q2⟩
    cases hx:x.head? with
    | none=>have:=head_none hx;simp at q1;simp at this;rw [this] at q1;simp at q1
    | some d =>
     have:=at_head (a:=[c]) hx
     rw [e0,show atT ([c] ++ x) (0+1)=d from this] at q2
     rw [hx] at hh;simp [q2] at hh
   have hr:reachG (atT ([c] ++ x)) ([c] ++ x).length 0=(5,1):=by
    unfold reachG
    rw [e0,if_neg (by rw [l4];simp),if_neg (by rw [l5];simp),if_neg l3,hsg]
   refine wl_raw h hl (by simp) (gap_here (by omega) (fun _=>by rw [e0];exact l1) (comB_no (fun e=>?_))) ?_
   ·obtain ⟨q1,q2,q3⟩:=e
    rw [e0] at q2
    cases hx:x.head? with
    | none=>have:=head_none hx;simp at q1;simp at this;rw [this] at q1;simp at q1
    | some d =>
     have:=at_head (a:=[c]) hx
     rw [show atT ([c] ++ x) (0+1)=d from this] at q3
     rw [hx] at hh;simp [q2,q3] at hh
   ·unfold tokenG
    rw [hr]
    rw [if_neg (by simp [longG]),if_neg (by simp),if_neg (by simp)]
    rfl
theorem tok_any {c:Nat} (h1:oneS c=true) (h2:∀ b,pairS c b=false) (h3:c≠47) (h:Option Nat):tokOk 5 [c] h=true:=by
 unfold tokOk
 rw [if_neg (by decide),if_neg (by decide)]
 cases h with
 | none=>simp [h1]
 | some b=>simp [h1,h2 b,h3]
theorem pair_no {c b:Nat} (h:c≠61/\c≠33/\c≠60/\c≠62/\c≠38/\c≠124):pairS c b=false:=by
 unfold pairS
 rw [decide_eq_false]
 omega
theorem wl_sign {c:Nat} {x:List Nat} {W:List (Nat × List Nat)} (h1:oneS c=true) (h2:c≠61/\c≠33/\c≠60/\c≠62/\c≠38/\c≠124) (h3:c≠47) (hl:1+x.length<16384) (h:WLex x W):WLex (c :: x) ((5,[c]) :: W) :=
 wl_tok (a:=[c]) (k:=5) (tok_any h1 (fun b=>pair_no h2) h3 _) (by simpa using hl) h
def Own (K:Nat) (a:List Nat):Prop:=0<a.length/\tokenG (atT a) a.length 0=(0,K,a.length)/\blankB (a.headD 0)=false/\comB (atT a) a.length 0=false
end Go.Proofs.YtfehpdliobapfaaGreatDoor.L
