/- For any text and any numbers,ScopeBlocks,ScopeUses and ScopeMany return true and leave their arguments as they were. -/
import Derived.Test.YtfehpdliobapfaaGreatDoorKPaNG
import Derived.Test.YtfehpdliobapfaaGreatDoorKPaMF
set_option linter.unusedVariables false
set_option linter.unusedSimpArgs false
namespace Go.Proofs.YtfehpdliobapfaaGreatDoor.G
open Go Go.RowKit
theorem wrap64_in (z:Int) : -9223372036854775808<=wrap64 z/\wrap64 z<=9223372036854775807:=by unfold wrap64;omega
theorem long_most (k:Nat):L.longG k<=256:=by unfold L.longG;repeat (first|split|omega)
section
variable {x s u:ByteArray}
theorem tok_size (h:codeX x=0) {l:List L.Tok} (hl:∀ k (h:k<l.length),L.TokOk (L.byS x) x.size (L.atK l k) l[k]) (k:Nat) (hk:k<l.length):l[k].2.2-l[k].2.1<=256:=by
 obtain ⟨h1,h2,h3,h4,h5,h6,h7,h8,h9⟩:=hl k hk
 obtain ⟨e,-,-,f,-⟩:=L.token_facts (g:=L.byS x) (n:=x.size) (i:=l[k].2.1) (by omega) (by rw [h7])
 rw [h7] at e
 have er:L.reachG (L.byS x) x.size l[k].2.1=(l[k].1,l[k].2.2):=(Prod.mk.inj e).2.symm
 rw [er] at f
 have:=long_most l[k].1
 simp only at f
 omega
theorem pc_sz (h:codeX x=0):Sz (pcOf x):=by
 obtain ⟨hs,l,hl,hn,hk⟩:=toks_of h
 refine ⟨fun i=>?_,fun y=>?_,fun y hy=>?_,fun y hy=>?_,fun y=>wrap64_in _⟩
 ·rw [pc_word,hl]
  by_cases h1:i<l.length
  ·rw [List.getElem?_append_left h1,List.getElem?_eq_getElem h1]
   show (x.extract l[i].2.1 l[i].2.2).size<=256
   rw [ByteArray.size_extract]
   have:=tok_size h hk i h1
   omega
  ·by_cases h2:i=l.length
   ·subst h2
    rw [List.getElem?_append_right (Nat.le_refl _),Nat.sub_self]
    show (x.extract x.size x.size).size<=256
    rw [ByteArray.size_extract];omega
   ·rw [List.getElem?_eq_none (by simp;omega)]
    show (0:Nat)<=256;omega
 ·show (L.strN (L.unqF y).2).size<=y.size
  rw [strN_size];exact unq_len y
 ·have:L.nameS y=true:=hy
  unfold L.nameS at this
  simp only [Bool.and_eq_true,decide_eq_true_eq] at this
  omega
 ·have hy:(L.intR y).2.toNat=0:=hy
  show 0<=(L.intR y).1/\(L.intR y).1<=_
  unfold L.intR at hy ⊢
  split at hy
  ·split at hy
   ·rename_i h1 h2
    rw [if_pos h1,if_pos h2]
    show (0:Int)<=((L.valL y.data.toList:Nat):Int)/\((L.valL y.data.toList:Nat):Int)<=_
    omega
   ·simp at hy
  ·simp at hy
end
end Go.Proofs.YtfehpdliobapfaaGreatDoor.G
namespace Go.Proofs.YtfehpdliobapfaaGreatDoor.G
section
variable {C:PC} {d e i j k n c f:Nat} {x:ByteArray} {t u w:Fo} {g:Fn} {y z:Ty}
theorem tyl_in (h:TyL C i j y z):i<=j/\(i<C.toks.length->j<C.toks.length):=by
 induction h with
 | fin=>exact ⟨Nat.le_refl _,id⟩
 | null hw hf _ ih=>have:=hw.in_;have:=ih.1;exact ⟨by omega,fun _=>ih.2 (by omega)⟩
 | arr hw h1 hd _ ih=>have:=h1.in_;have:=ih.1;exact ⟨by omega,fun _=>ih.2 (by omega)⟩
theorem inner_in (h:Inner C i j y):i<j/\j<C.toks.length:=by
 obtain ⟨z,h1,-⟩:=h.rest
 have:=h.in_
 obtain ⟨a,b⟩:=tyl_in h1
 exact ⟨by omega,b (by omega)⟩
theorem typed_in (h:Typed C i j y):i<j/\j<C.toks.length:=by
 cases h with
 | inner hw h=>exact inner_in h
 | option hw h1 h h2 hf=>have:=inner_in h;have:=h2.in_;omega
theorem answer_in (h:Answer C i j y):i<j/\j<C.toks.length:=by
 cases h with
 | void hw=>have:=hw.in_;omega
 | typed hw h=>exact typed_in h
def InF (C:PC) (g:Fn) (i j:Nat):Prop :=
 match g with
 | .joinL _ _ _=>i<=j/\(i<C.toks.length->j<C.toks.length)
 | .askL _ _=>i<=j/\(i<C.toks.length->j<C.toks.length)
 | .many _=>i<=j/\(i<C.toks.length->j<C.toks.length)
 | .stats=>i<=j/\(i<C.toks.length->j<C.toks.length)
 | _=>i<j/\j<C.toks.length
theorem dv_in (h:Dv C g d i j u):InF C g i j:=by
 induction h with
 | value _ ih=>exact ih
 | up _ ih=>exact ih
 | joined hc _ _ ih1 ih2=>exact ⟨by have:=ih1.1;have:=ih2.1;omega,ih2.2 ih1.2⟩
 | joinE=>exact ⟨Nat.le_refl _,id⟩
 | joinB hw hb hx _ _ ih1 ih2=>exact ⟨by have:=ih1.1;have:=ih2.1;omega,fun _=>ih2.2 ih1.2⟩
 | joinS hw h1 _ ih=>exact ⟨by have:=ih.1;omega,fun _=>ih.2 h1.in_⟩
 | joinN hw h1 _ ih=>exact ⟨by have:=ih.1;omega,fun _=>ih.2 h1.in_⟩
 | neg hw _ ih=>exact ⟨by have:=ih.1;omega,ih.2⟩
 | not hw _ ih=>exact ⟨by have:=ih.1;omega,ih.2⟩
 | asked h1 h2 _ ih=>exact ih
 | ask _ _ ih1 ih2=>exact ⟨by have:=ih1.1;have:=ih2.1;omega,ih2.2 ih1.2⟩
 | askE=>exact ⟨Nat.le_refl _,id⟩
 | guard hw _ ih=>exact ⟨by have:=ih.1;omega,fun _=>ih.2 hw.in_⟩
 | index hw _ h1 _ ih1 ih2=>exact ⟨by have:=ih1.1;have:=ih2.1;omega,fun _=>ih2.2 h1.in_⟩
 | length hw h1 _ ih=>exact ⟨by have:=ih.1;omega,fun _=>ih.2 h1.in_⟩
 | val hw h1 _ ih=>exact ⟨by have:=ih.1;omega,fun _=>ih.2 h1.in_⟩
 | get hw h1 hl hv hn _ ih=>exact ⟨by have:=ih.1;omega,fun _=>ih.2 h1.in_⟩
 | call hw h1 hl hv hn _ _ ih1 ih2=>exact ⟨by have:=ih1.1;have:=ih2.1;omega,fun _=>ih2.2 ih1.2⟩
 | args0 hw h1=>exact ⟨by omega,h1.in_⟩
 | args hw h0 _ _ h1 ih1 ih2=>exact ⟨by have:=ih1.1;have:=ih2.1;omega,h1.in_⟩
 | manyE=>exact ⟨Nat.le_refl _,id⟩
 | many hw hn _ _ ih1 ih2=>exact ⟨by have:=ih1.1;have:=ih2.1;omega,fun _=>ih2.2 ih1.2⟩
 | lit hk hi h0=>exact ⟨by omega,hi⟩
 | paren hk hw _ h1 ih=>exact ⟨by have:=ih.1;omega,h1.in_⟩
 | const hk hw hx=>exact ⟨by omega,hw.in_⟩
 | wrap hk hw hx h1 _ h2 ih=>exact ⟨by have:=ih.1;omega,h2.in_⟩
 | input hk hw h1 h2=>exact ⟨by omega,h2.in_⟩
 | cast hk hw h1 ht h2 h3 _ h4 ih=>exact ⟨by have:=ih.1;have:=typed_in ht;omega,h4.in_⟩
 | newA hk hw ht h1 h0 _ h2 ih=>exact ⟨by have:=ih.1;have:=inner_in ht;omega,h2.in_⟩
 | newO hk hw ht ha _ ih=>exact ⟨by have:=ih.1;have:=inner_in ht;omega,ih.2⟩
 | var hk hw hx hn=>exact ⟨by omega,hw.in_⟩
 | block hw _ h1 ih=>exact ⟨by have:=ih.1;omega,h1.in_⟩
 | statsE=>exact ⟨Nat.le_refl _,id⟩
 | stats hw _ _ ih1 ih2=>exact ⟨by have:=ih1.1;have:=ih2.1;omega,fun _=>ih2.2 ih1.2⟩
 | sBlock hw _ ih=>exact ih
 | sIf hw h1 _ h2 _ ih1 ih2=>exact ⟨by have:=ih1.1;have:=ih2.1;omega,ih2.2⟩
 | sElse hw h1 _ h2 _ h3 _ ih1 ih2 ih3=>exact ⟨by have:=ih1.1;have:=ih2.1;have:=ih3.1;omega,ih3.2⟩
 | sWhile hw h1 _ h2 _ ih1 ih2=>exact ⟨by have:=ih1.1;have:=ih2.1;omega,ih2.2⟩
 | sBreak hw h1=>exact ⟨by omega,h1.in_⟩
 | sCont hw h1=>exact ⟨by omega,h1.in_⟩
 | sRet0 hw h1=>exact ⟨by omega,h1.in_⟩
 | sRet hw h0 _ h1 ih=>exact ⟨by have:=ih.1;omega,h1.in_⟩
 | sPrint hw h1 _ h2 h3 ih=>exact ⟨by have:=ih.1;omega,h3.in_⟩
 | sSuper hw _ h1 ih=>exact ⟨by have:=ih.1;omega,h1.in_⟩
 | sDecl0 hp hd ht h1 hn h2=>exact ⟨by have:=typed_in ht;omega,h2.in_⟩
 | sDecl hp hd ht h1 hn h2 _ h3 ih=>exact ⟨by have:=ih.1;have:=typed_in ht;omega,h3.in_⟩
 | sSet hp hd _ hk h1 _ h2 ih1 ih2=>exact ⟨by have:=ih1.1;have:=ih2.1;omega,h2.in_⟩
 | sExpr hp hd _ hk h1 ih=>exact ⟨by have:=ih.1;omega,h1.in_⟩
theorem dv_size (h:Dv C g d i j u):(∀ c f t,g = .joinL c f t->t.size<=u.size)/\(∀ f t,g = .askL f t->t.size<=u.size):=by
 induction h with
 | joinE=>exact ⟨(fun _ _ _ e=>by cases e;exact Nat.le_refl _),(fun _ _ e=>by cases e)⟩
 | joinB hw hb hx _ _ ih1 ih2=>exact ⟨(fun _ _ _ e=>by cases e;have:=ih2.1 _ _ _ rfl;rw [one_size,Fo.app_size] at this;omega),(fun _ _ e=>by cases e)⟩
 | joinS hw h1 _ ih=>exact ⟨(fun _ _ _ e=>by cases e;have:=ih.1 _ _ _ rfl;rw [one_size] at this;omega),(fun _ _ e=>by cases e)⟩
 | joinN hw h1 _ ih=>exact ⟨(fun _ _ _ e=>by cases e;have:=ih.1 _ _ _ rfl;rw [one_size] at this;omega),(fun _ _ e=>by cases e)⟩
 | askE=>exact ⟨(fun _ _ _ e=>by cases e),(fun _ _ e=>by cases e;exact Nat.le_refl _)⟩
 | guard hw _ ih=>exact ⟨(fun _ _ _ e=>by cases e),(fun _ _ e=>by cases e;have:=ih.2 _ _ rfl;rw [one_size] at this;omega)⟩
 | index hw _ h1 _ ih1 ih2=>exact ⟨(fun _ _ _ e=>by cases e),(fun _ _ e=>by cases e;have:=ih2.2 _ _ rfl;rw [one_size,Fo.app_size] at this;omega)⟩
 | length hw h1 _ ih=>exact ⟨(fun _ _ _ e=>by cases e),(fun _ _ e=>by cases e;have:=ih.2 _ _ rfl;rw [one_size] at this;omega)⟩
 | val hw h1 _ ih=>exact ⟨(fun _ _ _ e=>by cases e),(fun _ _ e=>by cases e;have:=ih.2 _ _ rfl;rw [one_size] at this;omega)⟩
 | get hw h1 hl hv hn _ ih=>exact ⟨(fun _ _ _ e=>by cases e),(fun _ _ e=>by cases e;have:=ih.2 _ _ rfl;rw [one_size] at this;omega)⟩
 | call hw h1 hl hv hn _ _ ih1 ih2=>exact ⟨(fun _ _ _ e=>by cases e),(fun _ _ e=>by cases e;have:=ih2.2 _ _ rfl;rw [one_size,Fo.app_size] at this;omega)⟩
 | _=>exact ⟨(fun _ _ _ e=>by cases e),(fun _ _ e=>by cases e)⟩
def LessF (C:PC) (g:Fn) (d i j:Nat) (u:Fo):Prop :=
 match g with
 | .value=>∀ e,e<=d->j-i+1<=e->Dv C .value e i j u
 | g=>∀ e,e<=d->j-i<=e->Dv C g e i j u
theorem dv_less (h:Dv C g d i j u):LessF C g d i j u:=by
 induction h with
 | value h ih =>
  intro e he hj
  obtain ⟨e,rfl⟩:∃ e',e=e'+1:=⟨e-1,by omega⟩
  exact .value (ih e (by omega) (by omega))
 | up h ih=>intro e he hj;exact .up (ih e he hj)
 | joined hc h g ih1 ih2 =>
  have q1:=(dv_in h).1;have q2:=(dv_in g).1
  intro e he hj;exact .joined hc (ih1 e he (by omega)) (ih2 e he (by omega))
 | joinE=>intro e he hj;exact .joinE
 | joinB hw hb hx h g ih1 ih2 =>
  have q1:=(dv_in h).1;have q2:=(dv_in g).1
  intro e he hj;exact .joinB hw hb hx (ih1 e he (by omega)) (ih2 e he (by omega))
 | joinS hw h1 g ih=>have q1:=(dv_in g).1;intro e he hj;exact .joinS hw h1 (ih e he (by omega))
 | joinN hw h1 g ih=>have q1:=(dv_in g).1;intro e he hj;exact .joinN hw h1 (ih e he (by omega))
 | neg hw h ih =>
  have q1:=(dv_in h).1
  intro e he hj
  obtain ⟨e,rfl⟩:∃ e',e=e'+1:=⟨e-1,by omega⟩
  exact .neg hw (ih e (by omega) (by omega))
 | not hw h ih =>
  have q1:=(dv_in h).1
  intro e he hj
  obtain ⟨e,rfl⟩:∃ e',e=e'+1:=⟨e-1,by omega⟩
  exact .not hw (ih e (by omega) (by omega))
 | asked h1 h2 h ih=>intro e he hj;exact .asked h1 h2 (ih e he hj)
 | ask h g ih1 ih2 =>
  have q1:=(dv_in h).1;have q2:=(dv_in g).1
  intro e he hj;exact .ask (ih1 e he (by omega)) (ih2 e he (by omega))
 | askE=>intro e he hj;exact .askE
 | guard hw g ih=>have q1:=(dv_in g).1;intro e he hj;exact .guard hw (ih e he (by omega))
 | index hw h h1 g ih1 ih2 =>
  have q1:=(dv_in h).1;have q2:=(dv_in g).1
  intro e he hj;exact .index hw (ih1 e he (by omega)) h1 (ih2 e he (by omega))
 | length hw h1 g ih=>have q1:=(dv_in g).1;intro e he hj;exact .length hw h1 (ih e he (by omega))
 | val hw h1 g ih=>have q1:=(dv_in g).1;intro e he hj;exact .val hw h1 (ih e he (by omega))
 | get hw h1 hl hv hn g ih=>have q1:=(dv_in g).1;intro e he hj;exact .get hw h1 hl hv hn (ih e he (by omega))
 | call hw h1 hl hv hn h g ih1 ih2 =>
  have q1:=(dv_in h).1;have q2:=(dv_in g).1
  intro e he hj;exact .call hw h1 hl hv hn (ih1 e he (by omega)) (ih2 e he (by omega))
 | args0 hw h1=>intro e he hj;exact .args0 hw h1
 | args hw h0 h g h1 ih1 ih2 =>
  have q1:=(dv_in h).1;have q2:=(dv_in g).1
  intro e he hj;exact .args hw h0 (ih1 e he (by omega)) (ih2 e he (by omega)) h1
 | manyE=>intro e he hj;exact .manyE
 | many hw hn h g ih1 ih2 =>
  have q1:=(dv_in h).1;have q2:=(dv_in g).1
  intro e he hj;exact .many hw hn (ih1 e he (by omega)) (ih2 e he (by omega))
 | lit hk hi h0=>intro e he hj;exact .lit hk hi h0
 | paren hk hw h h1 ih=>have q1:=(dv_in h).1;intro e he hj;exact .paren hk hw (ih e he (by omega)) h1
 | const hk hw hx=>intro e he hj;exact .const hk hw hx
 | wrap hk hw hx h1 h h2 ih=>have q1:=(dv_in h).1;intro e he hj;exact .wrap hk hw hx h1 (ih e he (by omega)) h2
 | input hk hw h1 h2=>intro e he hj;exact .input hk hw h1 h2
 | cast hk hw h1 ht h2 h3 h h4 ih=>have q1:=(dv_in h).1;have q2:=typed_in ht;intro e he hj;exact .cast hk hw h1 ht h2 h3 (ih e he (by omega)) h4
 | newA hk hw ht h1 h0 h h2 ih=>have q1:=(dv_in h).1;have q2:=inner_in ht;intro e he hj;exact .newA hk hw ht h1 h0 (ih e he (by omega)) h2
 | newO hk hw ht ha h ih=>have q1:=(dv_in h).1;have q2:=inner_in ht;intro e he hj;exact .newO hk hw ht ha (ih e he (by omega))
 | var hk hw hx hn=>intro e he hj;exact .var hk hw hx hn
 | block hw h h1 ih =>
  have q1:=(dv_in h).1
  intro e he hj
  obtain ⟨e,rfl⟩:∃ e',e=e'+1:=⟨e-1,by omega⟩
  exact .block hw (ih e (by omega) (by omega)) h1
 | statsE=>intro e he hj;exact .statsE
 | stats hw h g ih1 ih2 =>
  have q1:=(dv_in h).1;have q2:=(dv_in g).1
  intro e he hj;exact .stats hw (ih1 e he (by omega)) (ih2 e he (by omega))
 | sBlock hw h ih=>intro e he hj;exact .sBlock hw (ih e he hj)
 | sIf hw h1 h h2 g ih1 ih2 =>
  have q1:=(dv_in h).1;have q2:=(dv_in g).1
  intro e he hj;exact .sIf hw h1 (ih1 e he (by omega)) h2 (ih2 e he (by omega))
 | sElse hw h1 h h2 g h3 k ih1 ih2 ih3 =>
  have q1:=(dv_in h).1;have q2:=(dv_in g).1;have q3:=(dv_in k).1
  intro e he hj;exact .sElse hw h1 (ih1 e he (by omega)) h2 (ih2 e he (by omega)) h3 (ih3 e he (by omega))
 | sWhile hw h1 h h2 g ih1 ih2 =>
  have q1:=(dv_in h).1;have q2:=(dv_in g).1
  intro e he hj;exact .sWhile hw h1 (ih1 e he (by omega)) h2 (ih2 e he (by omega))
 | sBreak hw h1=>intro e he hj;exact .sBreak hw h1
 | sCont hw h1=>intro e he hj;exact .sCont hw h1
 | sRet0 hw h1=>intro e he hj;exact .sRet0 hw h1
 | sRet hw h0 h h1 ih=>have q1:=(dv_in h).1;intro e he hj;exact .sRet hw h0 (ih e he (by omega)) h1
 | sPrint hw h1 h h2 h3 ih=>have q1:=(dv_in h).1;intro e he hj;exact .sPrint hw h1 (ih e he (by omega)) h2 h3
 | sSuper hw h h1 ih=>have q1:=(dv_in h).1;intro e he hj;exact .sSuper hw (ih e he (by omega)) h1
 | sDecl0 hp hd ht h1 hn h2=>intro e he hj;exact .sDecl0 hp hd ht h1 hn h2
 | sDecl hp hd ht h1 hn h2 h h3 ih=>have q1:=(dv_in h).1;have q2:=typed_in ht;intro e he hj;exact .sDecl hp hd ht h1 hn h2 (ih e he (by omega)) h3
 | sSet hp hd h hk h1 g h2 ih1 ih2 =>
  have q1:=(dv_in h).1;have q2:=(dv_in g).1
  intro e he hj;exact .sSet hp hd (ih1 e he (by omega)) hk h1 (ih2 e he (by omega)) h2
 | sExpr hp hd h hk h1 ih=>have q1:=(dv_in h).1;intro e he hj;exact .sExpr hp hd (ih e he (by omega)) hk h1
structure StopA (C:PC) (j:Nat):Prop where
 guard:C.word j≠(⟨#[33]⟩:ByteArray)
 index:C.word j≠(⟨#[91]⟩:ByteArray)
 point:C.word j≠(⟨#[46]⟩:ByteArray)
 paren:C.word j≠(⟨#[40]⟩:ByteArray)
structure StopJ (C:PC) (c j:Nat):Prop where
 binds:bindsN (C.word j)<c
 asks:StopA C j
theorem StopJ.up (h:StopJ C c j) (hc:c<=k):StopJ C k j:=⟨by have:=h.binds;omega,h.asks⟩
theorem binds_stop (h:bindsN x≠0):x≠(⟨#[33]⟩:ByteArray)/\x≠(⟨#[91]⟩:ByteArray)/\x≠(⟨#[46]⟩:ByteArray)/\x≠(⟨#[40]⟩:ByteArray):=by
 refine ⟨?_,?_,?_,?_⟩<;>(rintro rfl;exact h (by decide))
theorem join_head (h:Dv C g d k j u) (hg:g = .joinL c f t) (hc:1<=c) (hs:StopJ C c j):StopJ C (c+1) k:=by
 have key:∀ {c k:Nat} {x:ByteArray},Wd C k x->bindsN x=c->1<=c->StopJ C (c+1) k:=fun {c k x} hw hb hc=>by
  obtain ⟨q1,q2,q3,q4⟩:=binds_stop (x:=x) (by omega)
  exact ⟨by rw [hw.word];omega,by rw [hw.word];exact q1,by rw [hw.word];exact q2,by rw [hw.word];exact q3,by rw [hw.word];exact q4⟩
 cases h with
 | joinE=>cases hg;exact hs.up (by omega)
 | joinB hw hb hx _ _=>cases hg;exact key hw hb hc
 | joinS hw h1 _=>cases hg;exact key hw (by decide) hc
 | joinN hw h1 _=>cases hg;exact key hw (by decide) hc
 | _=>cases hg
theorem ask_head (h:Dv C g d k j u) (hg:g = .askL f t) (hs:StopA C j):C.word k≠(⟨#[40]⟩:ByteArray):=by
 cases h with
 | askE=>exact hs.paren
 | guard hw _=>rw [hw.word];decide
 | index hw _ _ _=>rw [hw.word];decide
 | length hw _ _=>rw [hw.word];decide
 | val hw _ _=>rw [hw.word];decide
 | get hw _ _ _ _ _=>rw [hw.word];decide
 | call hw _ _ _ _ _ _=>rw [hw.word];decide
 | _=>cases hg
theorem stop_at {x:ByteArray} (h:C.word j=x) (hx:(decide (bindsN x=0) && decide (x≠(⟨#[33]⟩:ByteArray)) && decide (x≠(⟨#[91]⟩:ByteArray)) && decide (x≠(⟨#[46]⟩:ByteArray)) && decide (x≠(⟨#[40]⟩:ByteArray)))=true):StopJ C 1 j:=by
 simp only [Bool.and_eq_true,decide_eq_true_eq] at hx
 obtain ⟨⟨⟨⟨a,b⟩,c⟩,d⟩,e⟩:=hx
 exact ⟨by rw [h,a];omega,by rw [h];exact b,by rw [h];exact c,by rw [h];exact d,by rw [h];exact e⟩
theorem many_head (h:Dv C g d k j u) (hg:g = .many n) (hs:C.word j=(⟨#[41]⟩:ByteArray)):StopJ C 1 k:=by
 cases h with
 | manyE=>exact stop_at hs (by decide)
 | many hw _ _ _=>exact stop_at hw.word (by decide)
 | _=>cases hg
structure Kw (C:PC):Prop where
 els:C.name (⟨#[101,108,115,101]⟩:ByteArray)=false
 mark:C.name (⟨#[63]⟩:ByteArray)=false
 open_:C.name (⟨#[91]⟩:ByteArray)=false
 lit:∀ i,litK (C.tok i).1->C.word i≠(⟨#[101,108,115,101]⟩:ByteArray)
def BegF (C:PC) (g:Fn) (i:Nat):Prop :=
 match g with
 | .value=>C.word i≠(⟨#[101,108,115,101]⟩:ByteArray)
 | .joined _=>C.word i≠(⟨#[101,108,115,101]⟩:ByteArray)
 | .signed=>C.word i≠(⟨#[101,108,115,101]⟩:ByteArray)
 | .asked=>C.word i≠(⟨#[101,108,115,101]⟩:ByteArray)
 | .first=>C.word i≠(⟨#[101,108,115,101]⟩:ByteArray)
 | .stat=>C.word i≠(⟨#[101,108,115,101]⟩:ByteArray)
 | _=>True
theorem name_els (hK:Kw C) (h:C.name x=true):x≠(⟨#[101,108,115,101]⟩:ByteArray):=by
 rintro rfl
 rw [hK.els] at h;cases h
theorem dec_els (hK:Kw C) (h:decAt C i=true):C.word i≠(⟨#[101,108,115,101]⟩:ByteArray):=by
 intro e
 unfold decAt declares wordS at h
 rw [Nat.add_zero,e,hK.els] at h
 rw [Bool.false_and,Bool.or_false] at h
 exact absurd (of_decide_eq_true h) (by decide)
theorem dv_begins (hK:Kw C) (h:Dv C g d i j u):BegF C g i:=by
 induction h with
 | value _ ih=>exact ih
 | up _ ih=>exact ih
 | joined hc _ _ ih1 ih2=>exact ih1
 | neg hw _ ih=>show C.word _≠_;rw [hw.word];decide
 | not hw _ ih=>show C.word _≠_;rw [hw.word];decide
 | asked h1 h2 _ ih=>exact ih
 | ask _ _ ih1 ih2=>exact ih1
 | lit hk hi h0=>exact hK.lit _ hk
 | paren hk hw _ h1 ih=>show C.word _≠_;rw [hw.word];decide
 | const hk hw hx =>
  show C.word _≠_
  rw [hw.word]
  rcases hx with rfl|rfl|rfl|rfl|rfl<;>decide
 | wrap hk hw hx h1 _ h2 ih =>
  show C.word _≠_
  rw [hw.word]
  rcases hx with rfl|rfl|rfl|rfl<;>decide
 | input hk hw h1 h2=>show C.word _≠_;rw [hw.word];decide
 | cast hk hw h1 ht h2 h3 _ h4 ih=>show C.word _≠_;rw [hw.word];decide
 | newA hk hw ht h1 h0 _ h2 ih=>show C.word _≠_;rw [hw.word];decide
 | newO hk hw ht ha _ ih=>show C.word _≠_;rw [hw.word];decide
 | var hk hw hx hn=>show C.word _≠_;rw [hw.word];exact name_els hK hn
 | sBlock hw _ ih=>show C.word _≠_;rw [hw];decide
 | sIf hw h1 _ h2 _ ih1 ih2=>show C.word _≠_;rw [hw.word];decide
 | sElse hw h1 _ h2 _ h3 _ ih1 ih2 ih3=>show C.word _≠_;rw [hw.word];decide
 | sWhile hw h1 _ h2 _ ih1 ih2=>show C.word _≠_;rw [hw.word];decide
 | sBreak hw h1=>show C.word _≠_;rw [hw.word];decide
 | sCont hw h1=>show C.word _≠_;rw [hw.word];decide
 | sRet0 hw h1=>show C.word _≠_;rw [hw.word];decide
 | sRet hw h0 _ h1 ih=>show C.word _≠_;rw [hw.word];decide
 | sPrint hw h1 _ h2 h3 ih=>show C.word _≠_;rw [hw.word];decide
 | sSuper hw _ h1 ih=>show C.word _≠_;rw [hw.word];decide
 | sDecl0 hp hd ht h1 hn h2=>exact dec_els hK hd
 | sDecl hp hd ht h1 hn h2 _ h3 ih=>exact dec_els hK hd
 | sSet hp hd _ hk h1 _ h2 ih1 ih2=>exact ih1
 | sExpr hp hd _ hk h1 ih=>exact ih
 | _=>exact trivial
theorem stats_head (hK:Kw C) (h:Dv C g d k j u) (hg:g = .stats) (hs:C.word j=(⟨#[125]⟩:ByteArray)):C.word k≠(⟨#[101,108,115,101]⟩:ByteArray):=by
 cases h with
 | statsE=>rw [hs];decide
 | stats hw h g=>exact dv_begins hK h
 | _=>cases hg
end
end Go.Proofs.YtfehpdliobapfaaGreatDoor.G
namespace Go.Proofs.YtfehpdliobapfaaGreatDoor.G
section
variable {C:PC} {D d i j k n c f q K:Nat} {x:ByteArray} {t u w:Fo} {g:Fn} {y z:Ty} {M:List Nd} {s:PS}
theorem tk_y (h:Wd C i x):takeP C x ⟨i,D,0,M⟩ = .ok true ⟨i+1,D,0,M⟩:=take_yes ⟨h.word,rfl,h.in_⟩
theorem tk_n (h:C.word i≠x):takeP C x ⟨i,D,0,M⟩ = .ok false ⟨i,D,0,M⟩:=take_no h
theorem wt (h:Wd C i x):wantP C x ⟨i,D,0,M⟩ = .ok () ⟨i+1,D,0,M⟩:=want_go ⟨h.word,rfl,h.in_⟩
theorem nmg (h:Wd C i x) (hn:C.name x=true):nameP C ⟨i,D,0,M⟩ = .ok x ⟨i+1,D,0,M⟩:=name_go ⟨h.word,rfl,h.in_⟩ hn
theorem rdg (h:i+1<C.toks.length):readP C ⟨i,D,0,M⟩ = .ok (C.word i) ⟨i+1,D,0,M⟩:=read_go (k:=(C.tok i).1) ⟨rfl,rfl,h⟩
theorem entg (h:D≠60):enterP ⟨i,D,0,M⟩ = .ok () ⟨i,D+1,0,M⟩:=by
 show PR.ok () (⟨i,D+1,if D=60 then 6 else 0,M⟩:PS)=_
 rw [if_neg h]
theorem leag:leaveP ⟨i,D+1,0,M⟩ = .ok () ⟨i,D,0,M⟩:=by
 show (if D+1=0 then _ else PR.ok () (⟨i,D+1-1,0,M⟩:PS))=_
 rw [if_neg (by omega)];rfl
theorem morg (h:n≠64):moreP n ⟨i,D,0,M⟩ = .ok () ⟨i,D,0,M⟩:=by
 show PR.ok () (⟨i,D,if n=64 then 2 else 0,M⟩:PS)=_
 rw [if_neg h]
theorem capg {l:List Nat} (h:l.length<=90000):capP l s = .ok () s:=by unfold capP;rw [if_pos h]
theorem ite_t {α : Type} {p:Prop} [Decidable p] {a b:PM α} (h:p):(if p then a else b) s=a s:=by rw [if_pos h]
theorem ite_f {α : Type} {p:Prop} [Decidable p] {a b:PM α} (h:¬ p):(if p then a else b) s=b s:=by rw [if_neg h]
theorem post_cat:(M ++ t.post C M.length) ++ u.post C (M ++ t.post C M.length).length=M ++ (t.app u).post C M.length:=by
 rw [List.length_append,Fo.post_len,Fo.app_post,List.append_assoc]
theorem idx_cat:(t.app u).idx M.length=t.idx M.length ++ u.idx (M ++ t.post C M.length).length:=by rw [List.length_append,Fo.post_len,Fo.app_idx]
theorem nodeg {y:Nd} {a:An} (hq:q≠0) (hg:goodN y=true) (hs:M.length+u.size<8192) (hy:{ y with sf:=(f:Int),st:=(((C.tok (q-1)).2.2:Nat):Int) }=a.nd C (u.idx M.length)):makeP C y f ⟨q,D,0,M ++ u.post C M.length⟩ = .ok (M.length+u.size) ⟨q,D,0,M ++ (one a u).post C M.length⟩:=by
 show (if q=0\/goodN y=false then PR.out else if (M ++ u.post C M.length).length=8192 then _ else PR.ok (M ++ u.post C M.length).length (⟨q,D,0,(M ++ u.post C M.length) ++ [{ y with sf:=(f:Int),st:=(((C.tok (q-1)).2.2:Nat):Int) }]⟩:PS))=_
 have hl:(M ++ u.post C M.length).length=M.length+u.size:=by rw [List.length_append,Fo.post_len]
 rw [if_neg (by rw [hg];simp [hq]),hl,if_neg (by omega),hy,one_post,List.append_assoc]
theorem good_ty2 (hy:TyR y) {k:Int} {l:List Nat} (hx:x.size<=256) (hl:l.length<=8192):goodN { y.nd C with kind:=k,text:=x,kids:=l.map Int.ofNat }=true:=by
 have h1:=hy.size;have h2:=hy.dims;have h3:=hy.ends;have h4:=hy.small
 unfold goodN
 refine decide_eq_true ⟨by show (l.map Int.ofNat).length<=_;rw [List.length_map];omega,by show x.size<=_;omega,by show y.N.size<=_;omega,by show y.M.size<=5;omega,by show (y.e.map _).length<=5;rw [List.length_map];omega⟩
theorem idx_most (b:Nat) (h:u.size<=8192):(u.idx b).length<=8192:=by rw [Fo.idx_len];have:=u.len_size;omega
def Rn (C:PC) (m:PM Nat) (p D:Nat) (M:List Nd) (q:Nat) (u:Fo):Prop:=∃ n,m ⟨p,D,0,M⟩ = .ok n ⟨q,D,0,M ++ u.post C M.length⟩/\u.idx M.length=[n]
def RnL (C:PC) (m:PM (List Nat)) (p D:Nat) (M:List Nd) (q:Nat) (u:Fo):Prop:=m ⟨p,D,0,M⟩ = .ok (u.idx M.length) ⟨q,D,0,M ++ u.post C M.length⟩
theorem rn_node {m:PM Nat} {a:An} (h:m ⟨i,D,0,M⟩ = .ok (M.length+u.size) ⟨j,D,0,M ++ (one a u).post C M.length⟩):Rn C m i D M j (one a u):=⟨_,h,rfl⟩
theorem innerL_eq (an:Bool) (n:Nd):innerL C an f (k+1) n ⟨i,D,0,M⟩=(if C.word i=(⟨#[63]⟩:ByteArray) then bnd (nullP C n) fun m=>innerL C an f k m else if C.word i=(⟨#[91]⟩:ByteArray)/\¬ (an=true/\C.word (i+1)≠(⟨#[93]⟩:ByteArray)) then bnd (arrayP C n) fun m=>innerL C an f k m else look (endS C) fun e=>ret { n with wf:=f,wt:=e }) ⟨i,D,0,M⟩:=rfl
theorem type_b (hy:TyR y):typeB (y.raw C)=true:=by
 have h1:=hy.size;have h2:=hy.dims;have h3:=hy.ends;have h4:=hy.small
 unfold typeB
 exact decide_eq_true ⟨h2.1,h2.2,h1,by show y.N.size<=_;omega,by show (y.e.map _).length<=_;rw [List.length_map];exact Nat.le_of_eq h3⟩
theorem type_bn (hy:TyR y):typeB (y.nd C)=true:=type_b hy
theorem free_n (hf:y.free=true):freeB (y.nd C)=true:=hf
theorem nullg (hy:TyR y) (hf:y.free=true) (hw:Wd C i (⟨#[63]⟩:ByteArray)):nullP C (y.raw C) ⟨i,D,0,M⟩ = .ok ((y.mark 63).raw C) ⟨i+1,D,0,M⟩:=by
 show (if typeB (y.raw C)=false then stop else if freeB (y.raw C)=false then thr 81 (fromS C ⟨i,D,0,M⟩) else bnd (wantP C (⟨#[63]⟩:ByteArray)) fun _=>ret (markT (y.raw C) 63)) ⟨i,D,0,M⟩=_
 rw [ite_f (by rw [type_b hy];decide),ite_f (by show ¬ y.free=false;rw [hf];decide),bnd_go (wt hw)];rfl
theorem arrayg (hy:TyR y) (hd:y.D≠4) (hw:Wd C i (⟨#[91]⟩:ByteArray)) (h1:Wd C (i+1) (⟨#[93]⟩:ByteArray)):arrayP C (y.raw C) ⟨i,D,0,M⟩ = .ok ((y.arr (i+1)).raw C) ⟨i+2,D,0,M⟩:=by
 show bnd (wantP C (⟨#[91]⟩:ByteArray)) (fun _=>bnd (wantP C (⟨#[93]⟩:ByteArray)) fun _=>if typeB (y.raw C)=false then stop else if (y.raw C).D=4 then thr 2 (fromS C ⟨i,D,0,M⟩) else
  look (endS C) fun e=>ret { y.raw C with D:=(y.raw C).D+1,M:=(y.raw C).M ++ (⟨#[32]⟩:ByteArray),ends:=(y.raw C).ends ++ [(e:Int)] }) ⟨i,D,0,M⟩=_
 rw [bnd_go (wt hw),bnd_go (wt h1),ite_f (by rw [type_b hy];decide),ite_f (show ¬ (y.raw C).D=4 from hd)]
 show PR.ok _ _=PR.ok _ _
 congr 1
 unfold Ty.raw Ty.arr endS
 simp
theorem tylg (h:TyL C i j y z) (hy:TyR y) (ho:NoO y) (hb:y.B≠6) (an:Bool) (hq:C.word j≠(⟨#[63]⟩:ByteArray)) (ha:C.word j=(⟨#[91]⟩:ByteArray)->an=true/\C.word (j+1)≠(⟨#[93]⟩:ByteArray)):∀ k,j-i<k->innerL C an f k (y.raw C) ⟨i,D,0,M⟩ = .ok { z.raw C with wf:=(f:Int),wt:=(((C.tok (j-1)).2.2:Nat):Int) } ⟨j,D,0,M⟩:=by
 induction h with
 | fin =>
  intro k hk
  obtain ⟨k,rfl⟩:∃ k',k=k'+1:=⟨k-1,by omega⟩
  rw [innerL_eq,ite_f hq,ite_f (fun e=>e.2 (ha e.1))];rfl
 | null hw hf h' ih =>
  intro k hk
  obtain ⟨k,rfl⟩:∃ k',k=k'+1:=⟨k-1,by omega⟩
  have hl:=(tyl_in h').1
  rw [innerL_eq,ite_t hw.word,bnd_go (nullg hy hf hw)]
  exact ih (hy.mark hf (.inl rfl)) (by have:=(mark_bytes hy 63).2.2;exact .inr this) hb hq ha k (by omega)
 | arr hw h1 hd h' ih =>
  intro k hk
  obtain ⟨k,rfl⟩:∃ k',k=k'+1:=⟨k-1,by omega⟩
  have hl:=(tyl_in h').1
  rw [innerL_eq,ite_f (by rw [hw.word];decide),ite_t ⟨hw.word,fun e=>e.2 h1.word⟩,bnd_go (arrayg hy hd hw h1)]
  obtain ⟨r1,r2⟩:=hy.arr ho hd hb _
  exact ih r1 r2 hb hq ha k (by omega)
theorem innerg (hS:Sz C) (h:Inner C i j y) (an:Bool) (hq:C.word j≠(⟨#[63]⟩:ByteArray)) (ha:C.word j=(⟨#[91]⟩:ByteArray)->an=true/\C.word (j+1)≠(⟨#[93]⟩:ByteArray)):innerP C an ⟨i,D,0,M⟩ = .ok (y.nd C) ⟨j,D,0,M⟩:=by
 have hl:=inner_in h
 obtain ⟨z,h1,rfl⟩:=h.rest
 have hk:=kindT_in (C.word i)
 obtain ⟨b1,b2⟩:=base_right (C:=C) (x:=C.word i) (i:=i) hS (b:=kindT (C.word i)) (by omega) h.name
 have e:baseP C (kindT (C.word i)) ⟨i,D,0,M⟩ = .ok ((baseT (kindT (C.word i)) (C.word i) i).raw C) ⟨i+1,D,0,M⟩:=by
  have e2:(if kindT (C.word i)=5 then nameP C else bnd (readP C) fun _=>ret (⟨#[]⟩:ByteArray)) ⟨i,D,0,M⟩ = .ok (if kindT (C.word i)=5 then C.word i else (⟨#[]⟩:ByteArray)) ⟨i+1,D,0,M⟩:=by
   by_cases h5:kindT (C.word i)=5
   ·rw [ite_t h5,nmg ⟨rfl,h.in_⟩ (h.name h5),if_pos h5]
   ·rw [ite_f h5,bnd_go (rdg h.in_),if_neg h5];rfl
  unfold baseP
  rw [bnd_go e2]
  show PR.ok _ _=PR.ok _ _
  congr 1
 show bnd (baseP C (kindT (C.word i))) (fun n=>innerL C an (fromS C ⟨i,D,0,M⟩) C.toks.length n) ⟨i,D,0,M⟩=_
 rw [bnd_go e,tylg h1 b1 b2 (by show (kindT (C.word i):Int)≠6;omega) an hq ha _ (by omega)]
 rfl
theorem typedg (hS:Sz C) (h:Typed C i j y) (hq:C.word j≠(⟨#[63]⟩:ByteArray)) (ha:C.word j≠(⟨#[91]⟩:ByteArray)):typedP C ⟨i,D,0,M⟩ = .ok (y.nd C) ⟨j,D,0,M⟩:=by
 have e0:typedP C ⟨i,D,0,M⟩=bnd (takeP C (⟨#[79,112,116,105,111,110]⟩:ByteArray)) (fun b=>if b=true then
  bnd (wantP C (⟨#[60]⟩:ByteArray)) fun _=>bnd (innerP C false) fun n=>bnd (wantP C (⟨#[62]⟩:ByteArray)) fun _ =>
  if typeB n=false then stop else if freeB n=false then thr 5 (fromS C ⟨i,D,0,M⟩) else look (endS C) fun e=>ret { markT n 111 with wf:=(fromS C ⟨i,D,0,M⟩:Int),wt:=e }
  else innerP C false) ⟨i,D,0,M⟩:=rfl
 rw [e0]
 cases h with
 | inner hw h =>
  rw [bnd_go (tk_n hw),ite_f (by simp)]
  exact innerg hS h false hq fun e=>absurd e ha
 | option hw h1 h h2 hf =>
  have hr:=inner_right hS h
  rw [bnd_go (tk_y hw),ite_t rfl,bnd_go (wt h1),bnd_go (innerg hS h false (by rw [h2.word];decide) (by rw [h2.word];intro e;exact absurd e (by decide))),bnd_go (wt h2)]
  rw [ite_f (by rw [type_bn hr.1];decide),ite_f (by rw [free_n hf];decide)]
  rfl
theorem answerg (hS:Sz C) (h:Answer C i j y) (hq:C.word j≠(⟨#[63]⟩:ByteArray)) (ha:C.word j≠(⟨#[91]⟩:ByteArray)):answerP C ⟨i,D,0,M⟩ = .ok (y.nd C) ⟨j,D,0,M⟩:=by
 have e0:answerP C ⟨i,D,0,M⟩=(if sees C (⟨#[118,111,105,100]⟩:ByteArray) ⟨i,D,0,M⟩=true then bnd (baseP C 6) (fun n=>look (endS C) fun e=>ret { n with wf:=(fromS C ⟨i,D,0,M⟩:Int),wt:=e }) else typedP C) ⟨i,D,0,M⟩:=by
  unfold answerP
  show (if sees C (⟨#[118,111,105,100]⟩:ByteArray) ⟨i,D,0,M⟩=true then look (fromS C) fun f=>bnd (baseP C 6) fun n=>look (endS C) fun e=>ret { n with wf:=(f:Int),wt:=e } else typedP C) ⟨i,D,0,M⟩=_
  split<;>rfl
 rw [e0]
 cases h with
 | void hw =>
  rw [ite_t (sees_yes hw.word),bnd_go (a:=(baseT 6 (C.word i) i).raw C) (t:=⟨i+1,D,0,M⟩)]
  ·rfl
  ·unfold baseP
   rw [bnd_go (a:=⟨#[]⟩) (t:=⟨i+1,D,0,M⟩) (by rw [ite_f (by decide),bnd_go (rdg hw.in_)];rfl)]
   rfl
 | typed hw h =>
  rw [ite_f (by rw [sees_no hw];decide)]
  exact typedg hS h hq ha
theorem name_stop (hK:Kw C) (h:C.name x=true):x≠(⟨#[63]⟩:ByteArray)/\x≠(⟨#[91]⟩:ByteArray):=by
 refine ⟨?_,?_⟩
 ·rintro rfl;rw [hK.mark] at h;cases h
 ·rintro rfl;rw [hK.open_] at h;cases h
theorem typedn (hS:Sz C) (hK:Kw C) (h:Typed C i j y) (h1:Wd C j x) (hn:C.name x=true):typedP C ⟨i,D,0,M⟩ = .ok (y.nd C) ⟨j,D,0,M⟩:=by
 obtain ⟨a,b⟩:=name_stop hK hn
 exact typedg hS h (by rw [h1.word];exact a) (by rw [h1.word];exact b)
def RnF (C:PC) (g:Fn) (d i j:Nat) (u:Fo):Prop:=∀ (K D:Nat) (M:List Nd),D+d<=60->M.length+u.size<=8192->match g with
 | .value=>10*d<=K->StopJ C 1 j->Rn C (runG C K .value) i D M j u
 | .joined c=>1<=c->10*d+9<=K+c->StopJ C c j->Rn C (runG C K (.joined c)) i D M j u
 | .joinL c f t=>1<=c->c<=6->10*d+8<=K+c->StopJ C c j->∀ k n,j-i<k->t.idx M.length=[n]->∃ m,joinL C (runG C K (.joined (c+1))) c (C.tok f).2.1 k n ⟨i,D,0,M ++ t.post C M.length⟩ = .ok m ⟨j,D,0,M ++ u.post C M.length⟩/\u.idx M.length=[m]
 | .signed=>10*d+1<=K->StopA C j->Rn C (runG C K .signed) i D M j u
 | .asked=>10*d<=K->StopA C j->Rn C (askedP C (runG C K .value)) i D M j u
 | .askL f t=>10*d<=K->StopA C j->∀ k n,1<=i->j-i<k->t.idx M.length=[n]->∃ m,askL C (runG C K .value) (C.tok f).2.1 k n ⟨i,D,0,M ++ t.post C M.length⟩ = .ok m ⟨j,D,0,M ++ u.post C M.length⟩/\u.idx M.length=[m]
 | .first=>10*d<=K->Rn C (firstP C (runG C K .value)) i D M j u
 | .args=>10*d<=K->RnL C (listP C (runG C K .value)) i D M j u
 | .many _=>10*d<=K->C.word j=(⟨#[41]⟩:ByteArray)->∀ k l,(∀ n,g = .many n->l.length=n)->j-i<k->l.length+(j-i)<=90000->manyP C (runG C K .value) k l ⟨i,D,0,M⟩ = .ok (l ++ u.idx M.length) ⟨j,D,0,M ++ u.post C M.length⟩
 | .block=>10*d<=K->Rn C (runG C K .block) i D M j u
 | .stats=>10*d<=K->Wd C j (⟨#[125]⟩:ByteArray)->∀ k l,j-i<k->l.length+(j-i)<=90000->statL C (statP C (runG C K .value) (runG C K .block)) k l ⟨i,D,0,M⟩ = .ok (l ++ u.idx M.length) ⟨j+1,D,0,M ++ u.post C M.length⟩
 | .stat=>10*d<=K->C.word j≠(⟨#[101,108,115,101]⟩:ByteArray)->Rn C (statP C (runG C K .value) (runG C K .block)) i D M j u
end
end Go.Proofs.YtfehpdliobapfaaGreatDoor.G
namespace Go.Proofs.YtfehpdliobapfaaGreatDoor.G
section
variable {C:PC} {D d i j k n c f q K:Nat} {x:ByteArray} {t u w:Fo} {g:Fn} {y z:Ty} {M:List Nd} {s:PS}
theorem rn_eq {m m':PM Nat} {p:Nat} (h:Rn C m p D M q u) (e:m' ⟨p,D,0,M⟩=m ⟨p,D,0,M⟩):Rn C m' p D M q u:=by
 obtain ⟨n,h1,h2⟩:=h
 exact ⟨n,e.trans h1,h2⟩
theorem two_idx {n k:Nat} (ht:t.idx M.length=[n]) (hu:u.idx (M ++ t.post C M.length).length=[k]):(t.app u).idx M.length=[n,k]:=by rw [idx_cat (C:=C),ht,hu];rfl
theorem withing {value:PM Nat} (h1:Wd C i (⟨#[40]⟩:ByteArray)) (hv:Rn C value (i+1) D M j u) (h2:Wd C j (⟨#[41]⟩:ByteArray)):Rn C (withinP C value) i D M (j+1) u:=by
 obtain ⟨n,e1,e2⟩:=hv
 refine ⟨n,?_,e2⟩
 unfold withinP
 rw [bnd_go (wt h1),bnd_go e1,bnd_go (wt h2)];rfl
theorem close_stop (h:Wd C j (⟨#[41]⟩:ByteArray)):StopJ C 1 j:=stop_at h.word (by decide)
theorem first_eq {value:PM Nat} (hk:¬ litK (C.tok i).1):firstP C value ⟨i,D,0,M⟩=(if C.word i=(⟨#[40]⟩:ByteArray) then withinP C value
  else if C.word i=(⟨#[116,114,117,101]⟩:ByteArray)\/C.word i=(⟨#[102,97,108,115,101]⟩:ByteArray)\/C.word i=(⟨#[110,117,108,108]⟩:ByteArray)\/C.word i=(⟨#[110,111,110,101]⟩:ByteArray)\/C.word i=(⟨#[116,104,105,115]⟩:ByteArray) then constP C (C.word i)
  else if C.word i=(⟨#[115,111,109,101]⟩:ByteArray)\/C.word i=(⟨#[97,115,107]⟩:ByteArray)\/C.word i=(⟨#[116,111,105,110,116]⟩:ByteArray)\/C.word i=(⟨#[116,111,100,111,117,98,108,101]⟩:ByteArray) then wrapP C value (C.word i)
  else if C.word i=(⟨#[105,110,112,117,116]⟩:ByteArray) then inputP C
  else if C.word i=(⟨#[99,97,115,116]⟩:ByteArray) then castP C value
  else if C.word i=(⟨#[110,101,119]⟩:ByteArray) then anewP C value
  else look (fromS C) fun f=>bnd (nameP C) fun t=>makeP C (nd 25 t []) f) ⟨i,D,0,M⟩:=by
 show (if kindS C ⟨i,D,0,M⟩=2\/kindS C ⟨i,D,0,M⟩=3\/kindS C ⟨i,D,0,M⟩=4 then literalP C else look (wordS C 0) _) _=_
 rw [ite_f (p:=kindS C ⟨i,D,0,M⟩=2\/kindS C ⟨i,D,0,M⟩=3\/kindS C ⟨i,D,0,M⟩=4) (fun e=>hk e)]
 rfl
theorem const_not (h:constW x):x≠(⟨#[40]⟩:ByteArray):=by rcases h with rfl|rfl|rfl|rfl|rfl<;>decide
theorem wrap_not (h:wrapW x):x≠(⟨#[40]⟩:ByteArray)/\¬ constW x:=by unfold constW;rcases h with rfl|rfl|rfl|rfl<;>decide
theorem join_fn_eq {part:PM Nat} {p:Nat}:joinL C part c p (k+1) n s=(if bindsN (C.word s.next)=c then bnd (joinP C part n p) fun m=>joinL C part c p k m else ret n) s:=rfl
theorem nil_cat:M ++ Fo.nil.post C M.length=M:=by show M ++ []=M;simp
theorem node0 {y:Nd} {a:An} (hq:q≠0) (hg:goodN y=true) (hs:M.length<8192) (hy:{ y with sf:=(f:Int),st:=(((C.tok (q-1)).2.2:Nat):Int) }=a.nd C []):makeP C y f ⟨q,D,0,M⟩ = .ok (M.length+Fo.nil.size) ⟨q,D,0,M ++ (one a .nil).post C M.length⟩:=by
 have:=nodeg (C:=C) (M:=M) (u:=.nil) (D:=D) (f:=f) (a:=a) hq hg (by show M.length+0<_;omega) (by rw [hy];rfl)
 rw [nil_cat] at this;exact this
theorem ask_fn_eq {value:PM Nat} {p:Nat}:askL C value p (k+1) n s=(bnd (takeP C (⟨#[33]⟩:ByteArray)) fun b=>if b=true then bnd (makeP C (nd 40 ⟨#[]⟩ [n]) p) fun m=>askL C value p k m else
  bnd (takeP C (⟨#[91]⟩:ByteArray)) fun b=>if b=true then bnd value fun i=>bnd (wantP C (⟨#[93]⟩:ByteArray)) fun _=>bnd (makeP C (nd 27 ⟨#[]⟩ [n,i]) p) fun m=>askL C value p k m else
  bnd (takeP C (⟨#[46]⟩:ByteArray)) fun b=>if b=true then bnd (hadP C value n p) fun m=>askL C value p k m else ret n) s:=rfl
theorem had_eq {value:PM Nat} {p:Nat} (hw:Wd C i x) (hl:x≠(⟨#[108,101,110,103,116,104]⟩:ByteArray)) (hv:x≠(⟨#[118,97,108]⟩:ByteArray)) (hn:C.name x=true):hadP C value n p ⟨i,D,0,M⟩=(if sees C (⟨#[40]⟩:ByteArray) ⟨i+1,D,0,M⟩=true then bnd (listP C value) fun l=>makeP C (nd 29 x (n :: l)) p else makeP C (nd 26 x [n]) p) ⟨i+1,D,0,M⟩:=by
 unfold hadP
 rw [bnd_go (tk_n (by rw [hw.word];exact hl)),ite_f (by simp),bnd_go (tk_n (by rw [hw.word];exact hv)),ite_f (by simp),bnd_go (nmg hw hn)]
 rfl
theorem stat_eq {value block:PM Nat} (hp:plainW (C.word i)):statP C value block ⟨i,D,0,M⟩=(if decAt C i=true then declP C value else valuedP C value) ⟨i,D,0,M⟩:=by
 obtain ⟨w1,w2,w3,w4,w5,w6,w7,w8⟩:=hp
 show (if C.word i=(⟨#[123]⟩:ByteArray) then block else if C.word i=(⟨#[105,102]⟩:ByteArray) then branchP C value block else if C.word i=(⟨#[119,104,105,108,101]⟩:ByteArray) then loopP C value block
  else if C.word i=(⟨#[98,114,101,97,107]⟩:ByteArray) then shortP C 13 else if C.word i=(⟨#[99,111,110,116,105,110,117,101]⟩:ByteArray) then shortP C 14 else if C.word i=(⟨#[114,101,116,117,114,110]⟩:ByteArray) then resultP C value
  else if C.word i=(⟨#[112,114,105,110,116]⟩:ByteArray) then printP C value else if C.word i=(⟨#[115,117,112,101,114]⟩:ByteArray) then superP C value else look (declares C) fun b=>if b=true then declP C value else valuedP C value) ⟨i,D,0,M⟩=_
 rw [ite_f w1,ite_f w2,ite_f w3,ite_f w4,ite_f w5,ite_f w6,ite_f w7,ite_f w8]
 rfl
theorem stat_word {value block:PM Nat}:statP C value block ⟨i,D,0,M⟩=(if C.word i=(⟨#[123]⟩:ByteArray) then block else if C.word i=(⟨#[105,102]⟩:ByteArray) then branchP C value block else if C.word i=(⟨#[119,104,105,108,101]⟩:ByteArray) then loopP C value block
  else if C.word i=(⟨#[98,114,101,97,107]⟩:ByteArray) then shortP C 13 else if C.word i=(⟨#[99,111,110,116,105,110,117,101]⟩:ByteArray) then shortP C 14 else if C.word i=(⟨#[114,101,116,117,114,110]⟩:ByteArray) then resultP C value
  else if C.word i=(⟨#[112,114,105,110,116]⟩:ByteArray) then printP C value else if C.word i=(⟨#[115,117,112,101,114]⟩:ByteArray) then superP C value else look (declares C) fun b=>if b=true then declP C value else valuedP C value) ⟨i,D,0,M⟩:=rfl
theorem kind_at (ht:t.idx M.length=[n]):kindAt n ⟨q,D,0,M ++ t.post C M.length⟩=t.kind:=by
 have:Got C ⟨q,D,0,M⟩ ⟨q,D,0,M ++ t.post C M.length⟩ [n] t:=⟨rfl,rfl,rfl,ht,rfl⟩
 exact this.kind
theorem an_good {k:Int} {l:List Nat} (hx:x.size<=256) (hl:l.length<=8192):goodN (nd k x l)=true:=good_of k (by omega) (by omega)
theorem e_size:(⟨#[]⟩:ByteArray).size<=256:=by decide
end
end Go.Proofs.YtfehpdliobapfaaGreatDoor.G
namespace Go.Proofs.YtfehpdliobapfaaGreatDoor.G
section
variable {C:PC} {D d i j k n c f q K:Nat} {x:ByteArray} {t u w:Fo} {g:Fn} {y z:Ty} {M:List Nd} {s:PS}
theorem sign_fn_eq:runG C (K+1) .signed ⟨i,D,0,M⟩=(if C.word i=(⟨#[45]⟩:ByteArray)\/C.word i=(⟨#[33]⟩:ByteArray) then bnd enterP fun _=>bnd (readP C) fun _=>bnd (runG C K .signed) fun k=>bnd leaveP fun _=>makeP C (nd (if C.word i=(⟨#[45]⟩:ByteArray) then 32 else 33) ⟨#[]⟩ [k]) (C.tok i).2.1 else askedP C (runG C K .value)) ⟨i,D,0,M⟩:=by
 show (if C.word i=(⟨#[45]⟩:ByteArray)\/C.word i=(⟨#[33]⟩:ByteArray) then look (fromS C) fun f=>bnd enterP fun _=>bnd (readP C) fun _=>bnd (runG C K .signed) fun k=>bnd leaveP fun _=>makeP C (nd (if C.word i=(⟨#[45]⟩:ByteArray) then 32 else 33) ⟨#[]⟩ [k]) f else askedP C (runG C K .value)) ⟨i,D,0,M⟩=_
 split<;>rfl
theorem lit_g (hS:Sz C) {kd:Nat} (hx:x.size<=256):goodN (litN C kd x).1=true:=by
 have:=hS.unq x
 unfold litN
 split
 ·rfl
 ·split
  ·exact an_good (k:=20) (l:=[]) hx (by simp)
  ·exact an_good (k:=22) (l:=[]) (by omega) (by simp)
theorem const_g (x:ByteArray):goodN (constN x)=true:=by
 unfold constN
 repeat' split
 all_goals rfl
theorem cat_len:(M ++ t.post C M.length).length=M.length+t.size:=by rw [List.length_append,Fo.post_len]
theorem dv_run (hS:Sz C) (hK:Kw C) (hL:C.toks.length<=80000) (h:Dv C g d i j u):RnF C g d i j u:=by
 induction h with
 | value h ih =>
  intro K D M hd hm hk hs
  obtain ⟨K,rfl⟩:∃ K',K=K'+1:=⟨K-1,by omega⟩
  obtain ⟨n,e1,e2⟩:=ih K (D+1) M (by omega) hm (by omega) (by omega) hs
  refine ⟨n,?_,e2⟩
  show bnd enterP (fun _=>bnd (runG C K (.joined 1)) fun n=>bnd leaveP fun _=>ret n) _=_
  rw [bnd_go (entg (by omega)),bnd_go e1,bnd_go leag];rfl
 | up h ih =>
  intro K D M hd hm h1 hk hs
  obtain ⟨K,rfl⟩:∃ K',K=K'+1:=⟨K-1,by omega⟩
  exact rn_eq (ih K D M hd hm (by omega) hs.asks) seven_eq
 | joined hc h g ih1 ih2 =>
  intro K D M hd hm h1 hk hs
  obtain ⟨K,rfl⟩:∃ K',K=K'+1:=⟨K-1,by omega⟩
  have sz:=(dv_size g).1 _ _ _ rfl
  have i1:=(dv_in h).2;have i2:=(dv_in g).2 i1
  obtain ⟨n,e1,e2⟩:=ih1 K D M hd (by omega) (by omega) (by omega) (join_head g rfl h1 hs)
  obtain ⟨m,e3,e4⟩:=ih2 K D M hd hm h1 hc (by omega) hs C.toks.length n (by omega) e2
  exact ⟨m,by rw [joined_eq hc,bnd_go e1];exact e3,e4⟩
 | joinE =>
  intro K D M hd hm h1 hc hk hs k n hkk ht
  obtain ⟨k,rfl⟩:∃ k',k=k'+1:=⟨k-1,by omega⟩
  have hb:=hs.binds
  exact ⟨n,by rw [join_fn_eq,ite_f (by show ¬ bindsN (C.word _)=_;exact Nat.ne_of_lt hb)];rfl,ht⟩
 | @joinB c f d i k j t u v x hw hb hx h g ih1 ih2 =>
  intro K D M hd hm h1 hc hk hs l n hkk ht
  obtain ⟨l,rfl⟩:∃ k',l=k'+1:=⟨l-1,by omega⟩
  have sz:=(dv_size g).1 _ _ _ rfl
  rw [one_size,Fo.app_size] at sz
  have i1:=(dv_in h).1;have i2:=(dv_in g).1
  obtain ⟨a,e1,e2⟩:=ih1 K D (M ++ t.post C M.length) hd (by rw [cat_len];omega) (by omega) (by omega) (join_head g rfl h1 hs)
  rw [post_cat] at e1
  obtain ⟨m,e3,e4⟩:=ih2 K D M hd hm h1 hc hk hs l (M.length+(t.app u).size) (by omega) rfl
  refine ⟨m,?_,e4⟩
  have hn:=nodeg (C:=C) (M:=M) (D:=D) (q:=k) (u:=t.app u) (f:=(C.tok f).2.1) (a:=an 34 x f k) (y:=nd 34 x [n,a]) (by omega) (an_good (wd_size hS hw) (by simp)) (by rw [Fo.app_size];omega) (by rw [two_idx ht e2];rfl)
  rw [join_fn_eq,ite_t (by show bindsN (C.word i)=c;rw [hw.word];exact hb),bnd_go (a:=M.length+(t.app u).size) (t:=⟨k,D,0,M ++ (one (an 34 x f k) (t.app u)).post C M.length⟩)]
  ·exact e3
  ·unfold joinP
   rw [bnd_go (rdg hw.in_),ite_t (by rw [hw.word];exact hx),bnd_go e1,hw.word];exact hn
 | @joinS f d i j t v hw h1 g ih =>
  intro K D M hd hm h1' hc hk hs l n hkk ht
  obtain ⟨l,rfl⟩:∃ k',l=k'+1:=⟨l-1,by omega⟩
  have sz:=(dv_size g).1 _ _ _ rfl
  rw [one_size] at sz
  have i2:=(dv_in g).1
  obtain ⟨m,e3,e4⟩:=ih K D M hd hm h1' hc hk hs l (M.length+t.size) (by omega) rfl
  refine ⟨m,?_,e4⟩
  have hn:=nodeg (C:=C) (M:=M) (D:=D) (q:=i+2) (u:=t) (f:=(C.tok f).2.1) (a:=an 43 ⟨#[]⟩ f (i+2)) (y:=nd 43 ⟨#[]⟩ [n]) (by omega) (an_good e_size (by simp)) (by omega) (by rw [ht];rfl)
  rw [join_fn_eq,ite_t (by show bindsN (C.word i)=4;rw [hw.word];decide),bnd_go (a:=M.length+t.size) (t:=⟨i+2,D,0,M ++ (one (an 43 ⟨#[]⟩ f (i+2)) t).post C M.length⟩)]
  ·exact e3
  ·unfold joinP
   rw [bnd_go (rdg hw.in_),ite_f (fun e=>e hw.word),bnd_go (tk_y h1),ite_t rfl];exact hn
 | @joinN f d i j t v hw h1 g ih =>
  intro K D M hd hm h1' hc hk hs l n hkk ht
  obtain ⟨l,rfl⟩:∃ k',l=k'+1:=⟨l-1,by omega⟩
  have sz:=(dv_size g).1 _ _ _ rfl
  rw [one_size] at sz
  have i2:=(dv_in g).1
  obtain ⟨m,e3,e4⟩:=ih K D M hd hm h1' hc hk hs l (M.length+t.size) (by omega) rfl
  refine ⟨m,?_,e4⟩
  have hn:=nodeg (C:=C) (M:=M) (D:=D) (q:=i+2) (u:=t) (f:=(C.tok f).2.1) (a:=an 44 ⟨#[]⟩ f (i+2)) (y:=nd 44 ⟨#[]⟩ [n]) (by omega) (an_good e_size (by simp)) (by omega) (by rw [ht];rfl)
  rw [join_fn_eq,ite_t (by show bindsN (C.word i)=4;rw [hw.word];decide),bnd_go (a:=M.length+t.size) (t:=⟨i+2,D,0,M ++ (one (an 44 ⟨#[]⟩ f (i+2)) t).post C M.length⟩)]
  ·exact e3
  ·unfold joinP
   rw [bnd_go (rdg hw.in_),ite_f (fun e=>e hw.word),bnd_go (tk_n (by rw [h1.word];decide)),ite_f (by simp),bnd_go (wt h1)];exact hn
 | @neg d i j t hw h ih =>
  intro K D M hd hm hk hs
  obtain ⟨K,rfl⟩:∃ K',K=K'+1:=⟨K-1,by omega⟩
  have hm:M.length+(t.size+1)<=8192:=hm
  have i1:=(dv_in h).1
  obtain ⟨n,e1,e2⟩:=ih K (D+1) M (by omega) (by omega) (by omega) hs
  have hn:=nodeg (C:=C) (M:=M) (D:=D) (q:=j) (u:=t) (f:=(C.tok i).2.1) (a:=an 32 ⟨#[]⟩ i j) (y:=nd 32 ⟨#[]⟩ [n]) (by omega) (an_good e_size (by simp)) (by omega) (by rw [e2];rfl)
  refine rn_node ?_
  rw [sign_fn_eq,ite_t (.inl hw.word),bnd_go (entg (by omega)),bnd_go (rdg hw.in_),bnd_go e1,bnd_go leag,if_pos hw.word];exact hn
 | @not d i j t hw h ih =>
  intro K D M hd hm hk hs
  obtain ⟨K,rfl⟩:∃ K',K=K'+1:=⟨K-1,by omega⟩
  have hm:M.length+(t.size+1)<=8192:=hm
  have i1:=(dv_in h).1
  obtain ⟨n,e1,e2⟩:=ih K (D+1) M (by omega) (by omega) (by omega) hs
  have hn:=nodeg (C:=C) (M:=M) (D:=D) (q:=j) (u:=t) (f:=(C.tok i).2.1) (a:=an 33 ⟨#[]⟩ i j) (y:=nd 33 ⟨#[]⟩ [n]) (by omega) (an_good e_size (by simp)) (by omega) (by rw [e2];rfl)
  refine rn_node ?_
  rw [sign_fn_eq,ite_t (.inr hw.word),bnd_go (entg (by omega)),bnd_go (rdg hw.in_),bnd_go e1,bnd_go leag,if_neg (by rw [hw.word];decide)];exact hn
 | asked h1 h2 h ih =>
  intro K D M hd hm hk hs
  obtain ⟨K,rfl⟩:∃ K',K=K'+1:=⟨K-1,by omega⟩
  exact rn_eq (ih K D M hd hm (by omega) hs) (by rw [sign_fn_eq,ite_f (fun e=>e.elim h1 h2)])
 | @ask d i k j t u h g ih1 ih2 =>
  intro K D M hd hm hk hs
  have sz:=(dv_size g).2 _ _ rfl
  have i1:=(dv_in h);have i2:=(dv_in g).2 i1.2
  obtain ⟨n,e1,e2⟩:=ih1 K D M hd (by omega) hk
  obtain ⟨m,e3,e4⟩:=ih2 K D M hd hm hk hs C.toks.length n (by have:=i1.1;omega) (by omega) e2
  refine ⟨m,?_,e4⟩
  show bnd (firstP C (runG C K .value)) (fun n=>askL C (runG C K .value) (fromS C ⟨i,D,0,M⟩) C.toks.length n) _=_
  rw [bnd_go e1];exact e3
 | askE =>
  intro K D M hd hm hk hs l n h1 hkk ht
  obtain ⟨l,rfl⟩:∃ k',l=k'+1:=⟨l-1,by omega⟩
  exact ⟨n,by rw [ask_fn_eq,bnd_go (tk_n hs.guard),ite_f (by simp),bnd_go (tk_n hs.index),ite_f (by simp),bnd_go (tk_n hs.point),ite_f (by simp)];rfl,ht⟩
 | @guard f d i j t v hw g ih =>
  intro K D M hd hm hk hs l n h1 hkk ht
  obtain ⟨l,rfl⟩:∃ k',l=k'+1:=⟨l-1,by omega⟩
  have sz:=(dv_size g).2 _ _ rfl
  rw [one_size] at sz
  have i2:=(dv_in g).1
  obtain ⟨m,e3,e4⟩:=ih K D M hd hm hk hs l (M.length+t.size) (by omega) (by omega) rfl
  have hn:=nodeg (C:=C) (M:=M) (D:=D) (q:=i+1) (u:=t) (f:=(C.tok f).2.1) (a:=an 40 ⟨#[]⟩ f (i+1)) (y:=nd 40 ⟨#[]⟩ [n]) (by omega) (an_good e_size (by simp)) (by omega) (by rw [ht];rfl)
  exact ⟨m,by rw [ask_fn_eq,bnd_go (tk_y hw),ite_t rfl,bnd_go hn];exact e3,e4⟩
 | @index f d i k j t u v hw h h1 g ih1 ih2 =>
  intro K D M hd hm hk hs l n h0 hkk ht
  obtain ⟨l,rfl⟩:∃ k',l=k'+1:=⟨l-1,by omega⟩
  have sz:=(dv_size g).2 _ _ rfl
  rw [one_size,Fo.app_size] at sz
  have i1:=(dv_in h).1;have i2:=(dv_in g).1
  obtain ⟨a,e1,e2⟩:=ih1 K D (M ++ t.post C M.length) hd (by rw [cat_len];omega) hk (stop_at h1.word (by decide))
  rw [post_cat] at e1
  obtain ⟨m,e3,e4⟩:=ih2 K D M hd hm hk hs l (M.length+(t.app u).size) (by omega) (by omega) rfl
  have hn:=nodeg (C:=C) (M:=M) (D:=D) (q:=k+1) (u:=t.app u) (f:=(C.tok f).2.1) (a:=an 27 ⟨#[]⟩ f (k+1)) (y:=nd 27 ⟨#[]⟩ [n,a]) (by omega) (an_good e_size (by simp)) (by rw [Fo.app_size];omega) (by rw [two_idx ht e2];rfl)
  exact ⟨m,by rw [ask_fn_eq,bnd_go (tk_n (by rw [hw.word];decide)),ite_f (by simp),bnd_go (tk_y hw),ite_t rfl,bnd_go e1,bnd_go (wt h1),bnd_go hn];exact e3,e4⟩
 | @length f d i j t v hw h1 g ih =>
  intro K D M hd hm hk hs l n h0 hkk ht
  obtain ⟨l,rfl⟩:∃ k',l=k'+1:=⟨l-1,by omega⟩
  have sz:=(dv_size g).2 _ _ rfl
  rw [one_size] at sz
  have i2:=(dv_in g).1
  obtain ⟨m,e3,e4⟩:=ih K D M hd hm hk hs l (M.length+t.size) (by omega) (by omega) rfl
  have hn:=nodeg (C:=C) (M:=M) (D:=D) (q:=i+2) (u:=t) (f:=(C.tok f).2.1) (a:=an 28 ⟨#[]⟩ f (i+2)) (y:=nd 28 ⟨#[]⟩ [n]) (by omega) (an_good e_size (by simp)) (by omega) (by rw [ht];rfl)
  have hh:hadP C (runG C K .value) n (C.tok f).2.1 ⟨i+1,D,0,M ++ t.post C M.length⟩ = .ok (M.length+t.size) ⟨i+2,D,0,M ++ (one (an 28 ⟨#[]⟩ f (i+2)) t).post C M.length⟩:=by
   unfold hadP
   rw [bnd_go (tk_y h1),ite_t rfl];exact hn
  exact ⟨m,by rw [ask_fn_eq,bnd_go (tk_n (by rw [hw.word];decide)),ite_f (by simp),bnd_go (tk_n (by rw [hw.word];decide)),ite_f (by simp),bnd_go (tk_y hw),ite_t rfl,bnd_go hh];exact e3,e4⟩
 | @val f d i j t v hw h1 g ih =>
  intro K D M hd hm hk hs l n h0 hkk ht
  obtain ⟨l,rfl⟩:∃ k',l=k'+1:=⟨l-1,by omega⟩
  have sz:=(dv_size g).2 _ _ rfl
  rw [one_size] at sz
  have i2:=(dv_in g).1
  obtain ⟨m,e3,e4⟩:=ih K D M hd hm hk hs l (M.length+t.size) (by omega) (by omega) rfl
  have hn:=nodeg (C:=C) (M:=M) (D:=D) (q:=i+2) (u:=t) (f:=(C.tok f).2.1) (a:=an 45 ⟨#[]⟩ f (i+2)) (y:=nd 45 ⟨#[]⟩ [n]) (by omega) (an_good e_size (by simp)) (by omega) (by rw [ht];rfl)
  have hh:hadP C (runG C K .value) n (C.tok f).2.1 ⟨i+1,D,0,M ++ t.post C M.length⟩ = .ok (M.length+t.size) ⟨i+2,D,0,M ++ (one (an 45 ⟨#[]⟩ f (i+2)) t).post C M.length⟩:=by
   unfold hadP
   rw [bnd_go (tk_n (by rw [h1.word];decide)),ite_f (by simp),bnd_go (tk_y h1),ite_t rfl];exact hn
  exact ⟨m,by rw [ask_fn_eq,bnd_go (tk_n (by rw [hw.word];decide)),ite_f (by simp),bnd_go (tk_n (by rw [hw.word];decide)),ite_f (by simp),bnd_go (tk_y hw),ite_t rfl,bnd_go hh];exact e3,e4⟩
 | @get f d i j t v x hw h1 hl hv hn0 g ih =>
  intro K D M hd hm hk hs l n h0 hkk ht
  obtain ⟨l,rfl⟩:∃ k',l=k'+1:=⟨l-1,by omega⟩
  have sz:=(dv_size g).2 _ _ rfl
  rw [one_size] at sz
  have i2:=(dv_in g).1
  obtain ⟨m,e3,e4⟩:=ih K D M hd hm hk hs l (M.length+t.size) (by omega) (by omega) rfl
  have hn:=nodeg (C:=C) (M:=M) (D:=D) (q:=i+2) (u:=t) (f:=(C.tok f).2.1) (a:=an 26 x f (i+2)) (y:=nd 26 x [n]) (by omega) (an_good (wd_size hS h1) (by simp)) (by omega) (by rw [ht];rfl)
  have hh:hadP C (runG C K .value) n (C.tok f).2.1 ⟨i+1,D,0,M ++ t.post C M.length⟩ = .ok (M.length+t.size) ⟨i+2,D,0,M ++ (one (an 26 x f (i+2)) t).post C M.length⟩:=by
   rw [had_eq h1 hl hv hn0,ite_f (by rw [sees_no (ask_head g rfl hs)];decide)];exact hn
  exact ⟨m,by rw [ask_fn_eq,bnd_go (tk_n (by rw [hw.word];decide)),ite_f (by simp),bnd_go (tk_n (by rw [hw.word];decide)),ite_f (by simp),bnd_go (tk_y hw),ite_t rfl,bnd_go hh];exact e3,e4⟩
 | @call f d i k j t u v x hw h1 hl hv hn0 h g ih1 ih2 =>
  intro K D M hd hm hk hs l n h0 hkk ht
  obtain ⟨l,rfl⟩:∃ k',l=k'+1:=⟨l-1,by omega⟩
  have sz:=(dv_size g).2 _ _ rfl
  rw [one_size,Fo.app_size] at sz
  have i1:=(dv_in h).1;have i2:=(dv_in g).1
  have e1:=ih1 K D (M ++ t.post C M.length) hd (by rw [cat_len];omega) hk
  unfold RnL at e1
  rw [post_cat] at e1
  have e2:(t.app u).idx M.length=n :: u.idx (M ++ t.post C M.length).length:=by rw [idx_cat (C:=C),ht];rfl
  obtain ⟨m,e3,e4⟩:=ih2 K D M hd hm hk hs l (M.length+(t.app u).size) (by omega) (by omega) rfl
  have hn:=nodeg (C:=C) (M:=M) (D:=D) (q:=k) (u:=t.app u) (f:=(C.tok f).2.1) (a:=an 29 x f k) (y:=nd 29 x (n :: u.idx (M ++ t.post C M.length).length)) (by omega) (an_good (wd_size hS h1) (by rw [<- e2];exact idx_most _ (by rw [Fo.app_size];omega))) (by rw [Fo.app_size];omega) (by rw [e2];rfl)
  have hh:hadP C (runG C K .value) n (C.tok f).2.1 ⟨i+1,D,0,M ++ t.post C M.length⟩ = .ok (M.length+(t.app u).size) ⟨k,D,0,M ++ (one (an 29 x f k) (t.app u)).post C M.length⟩:=by
   rw [had_eq h1 hl hv hn0,ite_t (sees_yes (args_at h rfl)),bnd_go e1];exact hn
  exact ⟨m,by rw [ask_fn_eq,bnd_go (tk_n (by rw [hw.word];decide)),ite_f (by simp),bnd_go (tk_n (by rw [hw.word];decide)),ite_f (by simp),bnd_go (tk_y hw),ite_t rfl,bnd_go hh];exact e3,e4⟩
 | args0 hw h1 =>
  intro K D M hd hm hk
  show listP C _ _=PR.ok [] ⟨_,D,0,M ++ []⟩
  unfold listP
  rw [bnd_go (wt hw),bnd_go (tk_y h1),ite_t rfl,List.append_nil];rfl
 | @args d i k j t u hw h0 h g h1 ih1 ih2 =>
  intro K D M hd hm hk
  rw [Fo.app_size] at hm
  have i1:=dv_in h;have i2:=dv_in g
  have i3:=i2.2 i1.2
  obtain ⟨a,e1,e2⟩:=ih1 K D M hd (by omega) hk (many_head g rfl h1.word)
  have e3:=ih2 K D (M ++ t.post C M.length) hd (by rw [cat_len];omega) hk h1.word C.toks.length [a] (fun n e=>by cases e;rfl) (by omega) (by show 1+(j-k)<=90000;omega)
  rw [post_cat] at e3
  show listP C _ _=PR.ok ((t.app u).idx M.length) _
  unfold listP
  rw [bnd_go (wt hw),bnd_go (tk_n h0),ite_f (by simp),bnd_go e1,bnd_go e3,bnd_go (wt h1),idx_cat (C:=C),e2];rfl
 | @manyE n d i =>
  intro K D M hd hm hk hj l L hn hl hb
  obtain ⟨l,rfl⟩:∃ k',l=k'+1:=⟨l-1,by omega⟩
  show manyP C _ (l+1) L _=PR.ok (L ++ []) ⟨_,D,0,M ++ []⟩
  unfold manyP
  rw [bnd_go (capg (by omega)),bnd_go (tk_n (by rw [hj];decide)),ite_f (by simp),List.append_nil,List.append_nil];rfl
 | @many n d i k j t u hw hn h g ih1 ih2 =>
  intro K D M hd hm hk hj l L hLn hl hb
  rw [Fo.app_size] at hm
  have i1:=dv_in h;have i2:=dv_in g
  have i4:=i1.1;have i5:=i2.1
  obtain ⟨l,rfl⟩:∃ k',l=k'+1:=⟨l-1,by omega⟩
  have eL:=hLn n rfl
  obtain ⟨a,e1,e2⟩:=ih1 K D M hd (by omega) hk (many_head g rfl hj)
  have e3:=ih2 K D (M ++ t.post C M.length) hd (by rw [cat_len];omega) hk hj l (L ++ [a]) (fun n' e=>by cases e;rw [List.length_append,eL];rfl) (by omega) (by rw [List.length_append];show L.length+1+(j-k)<=90000;omega)
  rw [post_cat] at e3
  show manyP C _ (l+1) L _=PR.ok (L ++ (t.app u).idx M.length) _
  unfold manyP
  rw [bnd_go (capg (by omega)),bnd_go (tk_y hw),ite_t rfl,bnd_go (morg (by omega)),bnd_go e1,e3,idx_cat (C:=C),e2,List.append_assoc]
 | @lit d i hk hi h0 =>
  intro K D M hd hm hk'
  have hm:M.length+1<=8192:=hm
  refine rn_node ?_
  have hn:=node0 (C:=C) (M:=M) (D:=D) (q:=i+1) (f:=(C.tok i).2.1) (y:=(litN C (C.tok i).1 (C.word i)).1) (a:=⟨(litN C (C.tok i).1 (C.word i)).1.kind,(litN C (C.tok i).1 (C.word i)).1.text,none,(litN C (C.tok i).1 (C.word i)).1.num,i,i+1⟩) (by omega) (lit_g hS (hS.word i)) (by omega) (by
   simp only [An.nd]
   unfold litN
   split
   ·rfl
   ·split<;>rfl)
  show (if kindS C ⟨i,D,0,M⟩=2\/kindS C ⟨i,D,0,M⟩=3\/kindS C ⟨i,D,0,M⟩=4 then literalP C else look (wordS C 0) _) _=_
  rw [ite_t (p:=kindS C ⟨i,D,0,M⟩=2\/kindS C ⟨i,D,0,M⟩=3\/kindS C ⟨i,D,0,M⟩=4) hk]
  show bnd (readP C) (fun x=>bnd (makeP C (litN C (C.tok i).1 x).1 (C.tok i).2.1) fun n=>if (litN C (C.tok i).1 x).2=0 then ret n else thr (litN C (C.tok i).1 x).2 (C.tok i).2.1) ⟨i,D,0,M⟩=_
  rw [bnd_go (rdg hi),bnd_go hn,ite_t h0];rfl
 | @paren d i j t hk hw h h1 ih =>
  intro K D M hd hm hk'
  exact rn_eq (withing hw (ih K D M hd hm hk' (close_stop h1)) h1) (by rw [first_eq hk,ite_t hw.word])
 | @const d i x hk hw hx =>
  intro K D M hd hm hk'
  have hm:M.length+1<=8192:=hm
  refine rn_node ?_
  have hn:=node0 (C:=C) (M:=M) (D:=D) (q:=i+1) (f:=(C.tok i).2.1) (y:=constN x) (a:=⟨(constN x).kind,⟨#[]⟩,none,(constN x).num,i,i+1⟩) (by omega) (const_g x) (by omega) (by
   simp only [An.nd]
   unfold constN
   repeat' split
   all_goals rfl)
  rw [first_eq hk,hw.word,ite_f (const_not hx),ite_t hx]
  show bnd (wantP C x) (fun _=>makeP C (constN x) (C.tok i).2.1) ⟨i,D,0,M⟩=_
  rw [bnd_go (wt hw)];exact hn
 | @wrap d i j t x hk hw hx h1 h h2 ih =>
  intro K D M hd hm hk'
  have hm:M.length+(t.size+1)<=8192:=hm
  have i1:=(dv_in h).1
  obtain ⟨n,e1,e2⟩:=withing h1 (ih K D M hd (by omega) hk' (close_stop h2)) h2
  refine rn_node ?_
  have hn:=nodeg (C:=C) (M:=M) (D:=D) (q:=j+1) (u:=t) (f:=(C.tok i).2.1) (a:=an (wrapK x) ⟨#[]⟩ i (j+1)) (y:=nd (wrapK x) ⟨#[]⟩ [n]) (by omega) (an_good e_size (by simp)) (by omega) (by rw [e2];rfl)
  obtain ⟨w1,w2⟩:=wrap_not hx
  rw [first_eq hk,hw.word,ite_f w1,ite_f w2,ite_t hx]
  show bnd (wantP C x) (fun _=>bnd (withinP C (runG C K .value)) fun k=>makeP C (nd (wrapK x) ⟨#[]⟩ [k]) (C.tok i).2.1) ⟨i,D,0,M⟩=_
  rw [bnd_go (wt hw),bnd_go e1];exact hn
 | @input d i hk hw h1 h2 =>
  intro K D M hd hm hk'
  have hm:M.length+1<=8192:=hm
  refine rn_node ?_
  have hn:=node0 (C:=C) (M:=M) (D:=D) (q:=i+3) (f:=(C.tok i).2.1) (y:=nd 38 ⟨#[]⟩ []) (a:=an 38 ⟨#[]⟩ i (i+3)) (by omega) (an_good e_size (by simp)) (by omega) rfl
  rw [first_eq hk,hw.word,ite_f (by decide),ite_f (by decide),ite_f (by decide),ite_t rfl]
  show bnd (wantP C (⟨#[105,110,112,117,116]⟩:ByteArray)) (fun _=>bnd (wantP C (⟨#[40]⟩:ByteArray)) fun _=>bnd (wantP C (⟨#[41]⟩:ByteArray)) fun _=>makeP C (nd 38 ⟨#[]⟩ []) (C.tok i).2.1) ⟨i,D,0,M⟩=_
  rw [bnd_go (wt hw),bnd_go (wt h1),bnd_go (wt h2)];exact hn
 | @cast d i k j y t hk hw h1 ht h2 h3 h h4 ih =>
  intro K D M hd hm hk'
  have hm:M.length+(t.size+1)<=8192:=hm
  have i1:=(dv_in h).1;have i2:=typed_in ht
  obtain ⟨n,e1,e2⟩:=withing h3 (ih K D M hd (by omega) hk' (close_stop h4)) h4
  refine rn_node ?_
  have hn:=nodeg (C:=C) (M:=M) (D:=D) (q:=j+1) (u:=t) (f:=(C.tok i).2.1) (a:=ant 35 ⟨#[]⟩ y i (j+1)) (y:={ y.nd C with kind:=35,kids:=[(n:Int)] }) (by omega) (good_ty2 (x:=⟨#[]⟩) (l:=[n]) (typed_right hS ht) e_size (by simp)) (by omega) (by rw [e2];rfl)
  rw [first_eq hk,hw.word,ite_f (by decide),ite_f (by decide),ite_f (by decide),ite_f (by decide),ite_t rfl]
  show bnd (wantP C (⟨#[99,97,115,116]⟩:ByteArray)) (fun _=>bnd (wantP C (⟨#[60]⟩:ByteArray)) fun _=>bnd (typedP C) fun n=>bnd (wantP C (⟨#[62]⟩:ByteArray)) fun _=>bnd (withinP C (runG C K .value)) fun k=>makeP C { n with kind:=35,kids:=[(k:Int)] } (C.tok i).2.1) ⟨i,D,0,M⟩=_
  rw [bnd_go (wt hw),bnd_go (wt h1),bnd_go (typedg hS ht (by rw [h2.word];decide) (by rw [h2.word];decide)),bnd_go (wt h2),bnd_go e1];exact hn
 | @newA d i k j y t hk hw ht h1 h0 h h2 ih =>
  intro K D M hd hm hk'
  have hm:M.length+(t.size+1)<=8192:=hm
  have i1:=(dv_in h).1;have i2:=inner_in ht
  obtain ⟨n,e1,e2⟩:=ih K D M hd (by omega) hk' (stop_at h2.word (by decide))
  refine rn_node ?_
  have hn:=nodeg (C:=C) (M:=M) (D:=D) (q:=j+1) (u:=t) (f:=(C.tok i).2.1) (a:=ant 31 ⟨#[]⟩ y i (j+1)) (y:={ y.nd C with kind:=31,kids:=[(n:Int)] }) (by omega) (good_ty2 (x:=⟨#[]⟩) (l:=[n]) (inner_right hS ht).1 e_size (by simp)) (by omega) (by rw [e2];rfl)
  rw [first_eq hk,hw.word,ite_f (by decide),ite_f (by decide),ite_f (by decide),ite_f (by decide),ite_f (by decide),ite_t rfl]
  show bnd (wantP C (⟨#[110,101,119]⟩:ByteArray)) (fun _=>bnd (innerP C true) fun n=>bnd (takeP C (⟨#[91]⟩:ByteArray)) fun b=>if b=true then
   bnd (runG C K .value) fun k=>bnd (wantP C (⟨#[93]⟩:ByteArray)) fun _=>makeP C { n with kind:=31,kids:=[(k:Int)] } (C.tok i).2.1
   else look (sees C (⟨#[40]⟩:ByteArray)) fun p=>if p=true/\aloneB n=false then thr 5 n.wf else bnd (listP C (runG C K .value)) fun l=>makeP C { n with kind:=30,kids:=l.map Int.ofNat } (C.tok i).2.1) ⟨i,D,0,M⟩=_
  rw [bnd_go (wt hw),bnd_go (innerg hS ht true (by rw [h1.word];decide) (fun _=>⟨rfl,h0⟩)),bnd_go (tk_y h1),ite_t rfl,bnd_go e1,bnd_go (wt h2)];exact hn
 | @newO d i k j y t hk hw ht ha h ih =>
  intro K D M hd hm hk'
  have hm:M.length+(t.size+1)<=8192:=hm
  have i1:=(dv_in h).1;have i2:=inner_in ht
  have e1:=ih K D M hd (by omega) hk'
  have hp:=args_at h rfl
  refine rn_node ?_
  have hn:=nodeg (C:=C) (M:=M) (D:=D) (q:=j) (u:=t) (f:=(C.tok i).2.1) (a:=ant 30 ⟨#[]⟩ y i j) (y:={ y.nd C with kind:=30,kids:=(t.idx M.length).map Int.ofNat }) (by omega) (good_ty2 (x:=⟨#[]⟩) (inner_right hS ht).1 e_size (idx_most _ (by omega))) (by omega) rfl
  rw [first_eq hk,hw.word,ite_f (by decide),ite_f (by decide),ite_f (by decide),ite_f (by decide),ite_f (by decide),ite_t rfl]
  show bnd (wantP C (⟨#[110,101,119]⟩:ByteArray)) (fun _=>bnd (innerP C true) fun n=>bnd (takeP C (⟨#[91]⟩:ByteArray)) fun b=>if b=true then
   bnd (runG C K .value) fun k=>bnd (wantP C (⟨#[93]⟩:ByteArray)) fun _=>makeP C { n with kind:=31,kids:=[(k:Int)] } (C.tok i).2.1
   else look (sees C (⟨#[40]⟩:ByteArray)) fun p=>if p=true/\aloneB n=false then thr 5 n.wf else bnd (listP C (runG C K .value)) fun l=>makeP C { n with kind:=30,kids:=l.map Int.ofNat } (C.tok i).2.1) ⟨i,D,0,M⟩=_
  rw [bnd_go (wt hw),bnd_go (innerg hS ht true (by rw [hp];decide) (by rw [hp];intro e;exact absurd e (by decide))),bnd_go (tk_n (by rw [hp];decide)),ite_f (by simp)]
  show (if sees C (⟨#[40]⟩:ByteArray) ⟨k,D,0,M⟩=true/\aloneB (y.nd C)=false then thr 5 (y.nd C).wf else bnd (listP C (runG C K .value)) fun l=>makeP C { y.nd C with kind:=30,kids:=l.map Int.ofNat } (C.tok i).2.1) ⟨k,D,0,M⟩=_
  have ha:aloneB (y.nd C)=true:=ha
  rw [ite_f (by rw [ha];simp),bnd_go e1];exact hn
 | @var d i x hk hw hx hn0 =>
  intro K D M hd hm hk'
  have hm:M.length+1<=8192:=hm
  refine rn_node ?_
  have hn:=node0 (C:=C) (M:=M) (D:=D) (q:=i+1) (f:=(C.tok i).2.1) (y:=nd 25 x []) (a:=an 25 x i (i+1)) (by omega) (an_good (wd_size hS hw) (by simp)) (by omega) rfl
  obtain ⟨x1,x2,x3,x4,x5,x6⟩:=hx
  rw [first_eq hk,hw.word,ite_f x1,ite_f x2,ite_f x3,ite_f x4,ite_f x5,ite_f x6]
  show bnd (nameP C) (fun t=>makeP C (nd 25 t []) (C.tok i).2.1) ⟨i,D,0,M⟩=_
  rw [bnd_go (nmg hw hn0)];exact hn
 | @block d i j t hw h h1 ih =>
  intro K D M hd hm hk
  obtain ⟨K,rfl⟩:∃ K',K=K'+1:=⟨K-1,by omega⟩
  have hm:M.length+(t.size+1)<=8192:=hm
  have i1:=(dv_in h);have i2:=i1.2 hw.in_
  have i3:=i1.1
  have e1:=ih K (D+1) M (by omega) (by omega) (by omega) h1 C.toks.length [] (by omega) (by show 0+(j-(i+1))<=90000;omega)
  refine rn_node ?_
  have hn:=nodeg (C:=C) (M:=M) (D:=D) (q:=j+1) (u:=t) (f:=(C.tok i).2.1) (a:=an 8 ⟨#[]⟩ i (j+1)) (y:=nd 8 ⟨#[]⟩ (t.idx M.length)) (by omega) (an_good e_size (idx_most _ (by omega))) (by omega) rfl
  show bnd enterP (fun _=>bnd (wantP C (⟨#[123]⟩:ByteArray)) fun _=>bnd (statL C (statP C (runG C K .value) (runG C K .block)) C.toks.length []) fun l=>bnd leaveP fun _=>makeP C (nd 8 ⟨#[]⟩ l) (C.tok i).2.1) ⟨i,D,0,M⟩=_
  rw [bnd_go (entg (by omega)),bnd_go (wt hw),bnd_go e1,bnd_go leag,List.nil_append];exact hn
 | @statsE d i =>
  intro K D M hd hm hk hj l L hl hb
  obtain ⟨l,rfl⟩:∃ k',l=k'+1:=⟨l-1,by omega⟩
  show statL C _ (l+1) L _=PR.ok (L ++ []) ⟨_,D,0,M ++ []⟩
  unfold statL
  rw [bnd_go (capg (by omega)),bnd_go (tk_y hj),ite_t rfl,List.append_nil,List.append_nil];rfl
 | @stats d i k j t u hw h g ih1 ih2 =>
  intro K D M hd hm hk hj l L hl hb
  rw [Fo.app_size] at hm
  have i1:=(dv_in h).1;have i2:=(dv_in g).1
  obtain ⟨l,rfl⟩:∃ k',l=k'+1:=⟨l-1,by omega⟩
  obtain ⟨a,e1,e2⟩:=ih1 K D M hd (by omega) hk (stats_head hK g rfl hj.word)
  have e3:=ih2 K D (M ++ t.post C M.length) hd (by rw [cat_len];omega) hk hj l (L ++ [a]) (by omega) (by rw [List.length_append];show L.length+1+(j-k)<=90000;omega)
  rw [post_cat] at e3
  show statL C _ (l+1) L _=PR.ok (L ++ (t.app u).idx M.length) _
  unfold statL
  rw [bnd_go (capg (by omega)),bnd_go (tk_n hw),ite_f (by simp),bnd_go e1,e3,idx_cat (C:=C),e2,List.append_assoc]
 | sBlock hw h ih =>
  intro K D M hd hm hk hs
  exact rn_eq (ih K D M hd hm hk) (by rw [stat_word,ite_t hw])
 | @sIf d i k j t u hw h1 h h2 g ih1 ih2 =>
  intro K D M hd hm hk hs
  have hm:M.length+((t.app u).size+1)<=8192:=hm
  have sz:=Fo.app_size t u
  have i1:=(dv_in h).1;have i2:=(dv_in g).1
  obtain ⟨n,e1,e2⟩:=withing h1 (ih1 K D M hd (by omega) hk (close_stop h2)) h2
  obtain ⟨a,e3,e4⟩:=ih2 K D (M ++ t.post C M.length) hd (by rw [cat_len];omega) hk
  rw [post_cat] at e3
  refine rn_node ?_
  have hn:=nodeg (C:=C) (M:=M) (D:=D) (q:=j) (u:=t.app u) (f:=(C.tok i).2.1) (a:=an 11 ⟨#[]⟩ i j) (y:=nd 11 ⟨#[]⟩ [n,a]) (by omega) (an_good e_size (by simp)) (by omega) (by rw [two_idx e2 e4];rfl)
  rw [stat_word,hw.word,ite_f (by decide),ite_t rfl]
  show bnd (wantP C (⟨#[105,102]⟩:ByteArray)) (fun _=>bnd (withinP C (runG C K .value)) fun a=>bnd (runG C K .block) fun b=>bnd (takeP C (⟨#[101,108,115,101]⟩:ByteArray)) fun e=>if e=true then bnd (runG C K .block) fun c=>makeP C (nd 11 ⟨#[]⟩ [a,b,c]) (C.tok i).2.1 else makeP C (nd 11 ⟨#[]⟩ [a,b]) (C.tok i).2.1) ⟨i,D,0,M⟩=_
  rw [bnd_go (wt hw),bnd_go e1,bnd_go e3,bnd_go (tk_n hs),ite_f (by simp)];exact hn
 | @sElse d i k m j t u v hw h1 h h2 g h3 e ih1 ih2 ih3 =>
  intro K D M hd hm hk hs
  have hm:M.length+((t.app (u.app v)).size+1)<=8192:=hm
  have sz:=Fo.app_size t (u.app v)
  have sz2:=Fo.app_size u v
  have sz3:=Fo.app_size t u
  have i1:=(dv_in h).1;have i2:=(dv_in g).1;have i3:=(dv_in e).1
  obtain ⟨n,e1,e2⟩:=withing h1 (ih1 K D M hd (by omega) hk (close_stop h2)) h2
  obtain ⟨a,e3,e4⟩:=ih2 K D (M ++ t.post C M.length) hd (by rw [cat_len];omega) hk
  rw [post_cat] at e3
  obtain ⟨b,e5,e6⟩:=ih3 K D (M ++ (t.app u).post C M.length) hd (by rw [cat_len];omega) hk
  rw [post_cat,Fo.app_assoc] at e5
  have ei:(t.app (u.app v)).idx M.length=[n,a,b]:=by
   rw [<- Fo.app_assoc,idx_cat (C:=C),two_idx e2 e4,e6];rfl
  refine rn_node ?_
  have hn:=nodeg (C:=C) (M:=M) (D:=D) (q:=j) (u:=t.app (u.app v)) (f:=(C.tok i).2.1) (a:=an 11 ⟨#[]⟩ i j) (y:=nd 11 ⟨#[]⟩ [n,a,b]) (by omega) (an_good e_size (by simp)) (by omega) (by rw [ei];rfl)
  rw [stat_word,hw.word,ite_f (by decide),ite_t rfl]
  show bnd (wantP C (⟨#[105,102]⟩:ByteArray)) (fun _=>bnd (withinP C (runG C K .value)) fun a=>bnd (runG C K .block) fun b=>bnd (takeP C (⟨#[101,108,115,101]⟩:ByteArray)) fun e=>if e=true then bnd (runG C K .block) fun c=>makeP C (nd 11 ⟨#[]⟩ [a,b,c]) (C.tok i).2.1 else makeP C (nd 11 ⟨#[]⟩ [a,b]) (C.tok i).2.1) ⟨i,D,0,M⟩=_
  rw [bnd_go (wt hw),bnd_go e1,bnd_go e3,bnd_go (tk_y h3),ite_t rfl,bnd_go e5];exact hn
 | @sWhile d i k j t u hw h1 h h2 g ih1 ih2 =>
  intro K D M hd hm hk hs
  have hm:M.length+((t.app u).size+1)<=8192:=hm
  have sz:=Fo.app_size t u
  have i1:=(dv_in h).1;have i2:=(dv_in g).1
  obtain ⟨n,e1,e2⟩:=withing h1 (ih1 K D M hd (by omega) hk (close_stop h2)) h2
  obtain ⟨a,e3,e4⟩:=ih2 K D (M ++ t.post C M.length) hd (by rw [cat_len];omega) hk
  rw [post_cat] at e3
  refine rn_node ?_
  have hn:=nodeg (C:=C) (M:=M) (D:=D) (q:=j) (u:=t.app u) (f:=(C.tok i).2.1) (a:=an 12 ⟨#[]⟩ i j) (y:=nd 12 ⟨#[]⟩ [n,a]) (by omega) (an_good e_size (by simp)) (by omega) (by rw [two_idx e2 e4];rfl)
  rw [stat_word,hw.word,ite_f (by decide),ite_f (by decide),ite_t rfl]
  show bnd (wantP C (⟨#[119,104,105,108,101]⟩:ByteArray)) (fun _=>bnd (withinP C (runG C K .value)) fun a=>bnd (runG C K .block) fun b=>makeP C (nd 12 ⟨#[]⟩ [a,b]) (C.tok i).2.1) ⟨i,D,0,M⟩=_
  rw [bnd_go (wt hw),bnd_go e1,bnd_go e3];exact hn
 | @sBreak d i hw h1 =>
  intro K D M hd hm hk hs
  have hm:M.length+1<=8192:=hm
  refine rn_node ?_
  have hn:=node0 (C:=C) (M:=M) (D:=D) (q:=i+2) (f:=(C.tok i).2.1) (y:=nd 13 ⟨#[]⟩ []) (a:=an 13 ⟨#[]⟩ i (i+2)) (by omega) (an_good e_size (by simp)) (by omega) rfl
  rw [stat_word,hw.word,ite_f (by decide),ite_f (by decide),ite_f (by decide),ite_t rfl]
  show bnd (readP C) (fun _=>bnd (wantP C (⟨#[59]⟩:ByteArray)) fun _=>makeP C (nd 13 ⟨#[]⟩ []) (C.tok i).2.1) ⟨i,D,0,M⟩=_
  rw [bnd_go (rdg hw.in_),bnd_go (wt h1)];exact hn
 | @sCont d i hw h1 =>
  intro K D M hd hm hk hs
  have hm:M.length+1<=8192:=hm
  refine rn_node ?_
  have hn:=node0 (C:=C) (M:=M) (D:=D) (q:=i+2) (f:=(C.tok i).2.1) (y:=nd 14 ⟨#[]⟩ []) (a:=an 14 ⟨#[]⟩ i (i+2)) (by omega) (an_good e_size (by simp)) (by omega) rfl
  rw [stat_word,hw.word,ite_f (by decide),ite_f (by decide),ite_f (by decide),ite_f (by decide),ite_t rfl]
  show bnd (readP C) (fun _=>bnd (wantP C (⟨#[59]⟩:ByteArray)) fun _=>makeP C (nd 14 ⟨#[]⟩ []) (C.tok i).2.1) ⟨i,D,0,M⟩=_
  rw [bnd_go (rdg hw.in_),bnd_go (wt h1)];exact hn
 | @sRet0 d i hw h1 =>
  intro K D M hd hm hk hs
  have hm:M.length+1<=8192:=hm
  refine rn_node ?_
  have hn:=node0 (C:=C) (M:=M) (D:=D) (q:=i+2) (f:=(C.tok i).2.1) (y:=nd 15 ⟨#[]⟩ []) (a:=an 15 ⟨#[]⟩ i (i+2)) (by omega) (an_good e_size (by simp)) (by omega) rfl
  rw [stat_word,hw.word,ite_f (by decide),ite_f (by decide),ite_f (by decide),ite_f (by decide),ite_f (by decide),ite_t rfl]
  show bnd (wantP C (⟨#[114,101,116,117,114,110]⟩:ByteArray)) (fun _=>look (sees C (⟨#[59]⟩:ByteArray)) fun b=>if b=true then bnd (wantP C (⟨#[59]⟩:ByteArray)) fun _=>makeP C (nd 15 ⟨#[]⟩ []) (C.tok i).2.1 else bnd (runG C K .value) fun k=>bnd (wantP C (⟨#[59]⟩:ByteArray)) fun _=>makeP C (nd 15 ⟨#[]⟩ [k]) (C.tok i).2.1) ⟨i,D,0,M⟩=_
  rw [bnd_go (wt hw)]
  show (if sees C (⟨#[59]⟩:ByteArray) ⟨i+1,D,0,M⟩=true then (_:PM Nat) else _) _=_
  rw [ite_t (sees_yes h1.word),bnd_go (wt h1)];exact hn
 | @sRet d i j t hw h0 h h1 ih =>
  intro K D M hd hm hk hs
  have hm:M.length+(t.size+1)<=8192:=hm
  have i1:=(dv_in h).1
  obtain ⟨n,e1,e2⟩:=ih K D M hd (by omega) hk (stop_at h1.word (by decide))
  refine rn_node ?_
  have hn:=nodeg (C:=C) (M:=M) (D:=D) (q:=j+1) (u:=t) (f:=(C.tok i).2.1) (a:=an 15 ⟨#[]⟩ i (j+1)) (y:=nd 15 ⟨#[]⟩ [n]) (by omega) (an_good e_size (by simp)) (by omega) (by rw [e2];rfl)
  rw [stat_word,hw.word,ite_f (by decide),ite_f (by decide),ite_f (by decide),ite_f (by decide),ite_f (by decide),ite_t rfl]
  show bnd (wantP C (⟨#[114,101,116,117,114,110]⟩:ByteArray)) (fun _=>look (sees C (⟨#[59]⟩:ByteArray)) fun b=>if b=true then bnd (wantP C (⟨#[59]⟩:ByteArray)) fun _=>makeP C (nd 15 ⟨#[]⟩ []) (C.tok i).2.1 else bnd (runG C K .value) fun k=>bnd (wantP C (⟨#[59]⟩:ByteArray)) fun _=>makeP C (nd 15 ⟨#[]⟩ [k]) (C.tok i).2.1) ⟨i,D,0,M⟩=_
  rw [bnd_go (wt hw)]
  show (if sees C (⟨#[59]⟩:ByteArray) ⟨i+1,D,0,M⟩=true then (_:PM Nat) else _) _=_
  rw [ite_f (by rw [sees_no h0];decide),bnd_go e1,bnd_go (wt h1)];exact hn
 | @sPrint d i j t hw h1 h h2 h3 ih =>
  intro K D M hd hm hk hs
  have hm:M.length+(t.size+1)<=8192:=hm
  have i1:=(dv_in h).1
  obtain ⟨n,e1,e2⟩:=withing h1 (ih K D M hd (by omega) hk (close_stop h2)) h2
  refine rn_node ?_
  have hn:=nodeg (C:=C) (M:=M) (D:=D) (q:=j+2) (u:=t) (f:=(C.tok i).2.1) (a:=an 16 ⟨#[]⟩ i (j+2)) (y:=nd 16 ⟨#[]⟩ [n]) (by omega) (an_good e_size (by simp)) (by omega) (by rw [e2];rfl)
  rw [stat_word,hw.word,ite_f (by decide),ite_f (by decide),ite_f (by decide),ite_f (by decide),ite_f (by decide),ite_f (by decide),ite_t rfl]
  show bnd (wantP C (⟨#[112,114,105,110,116]⟩:ByteArray)) (fun _=>bnd (withinP C (runG C K .value)) fun k=>bnd (wantP C (⟨#[59]⟩:ByteArray)) fun _=>makeP C (nd 16 ⟨#[]⟩ [k]) (C.tok i).2.1) ⟨i,D,0,M⟩=_
  rw [bnd_go (wt hw),bnd_go e1,bnd_go (wt h3)];exact hn
 | @sSuper d i j t hw h h1 ih =>
  intro K D M hd hm hk hs
  have hm:M.length+(t.size+1)<=8192:=hm
  have i1:=(dv_in h).1
  have e1:=ih K D M hd (by omega) hk
  refine rn_node ?_
  have hn:=nodeg (C:=C) (M:=M) (D:=D) (q:=j+1) (u:=t) (f:=(C.tok i).2.1) (a:=an 17 ⟨#[]⟩ i (j+1)) (y:=nd 17 ⟨#[]⟩ (t.idx M.length)) (by omega) (an_good e_size (idx_most _ (by omega))) (by omega) rfl
  rw [stat_word,hw.word,ite_f (by decide),ite_f (by decide),ite_f (by decide),ite_f (by decide),ite_f (by decide),ite_f (by decide),ite_f (by decide),ite_t rfl]
  show bnd (wantP C (⟨#[115,117,112,101,114]⟩:ByteArray)) (fun _=>bnd (listP C (runG C K .value)) fun l=>bnd (wantP C (⟨#[59]⟩:ByteArray)) fun _=>makeP C (nd 17 ⟨#[]⟩ l) (C.tok i).2.1) ⟨i,D,0,M⟩=_
  rw [bnd_go (wt hw),bnd_go e1,bnd_go (wt h1)];exact hn
 | @sDecl0 d i k y x hp hdc ht h1 hn0 h2 =>
  intro K D M hd hm hk hs
  have hm:M.length+1<=8192:=hm
  refine rn_node ?_
  have hn:=node0 (C:=C) (M:=M) (D:=D) (q:=k+2) (f:=(C.tok i).2.1) (y:={ y.nd C with kind:=9,text:=x }) (a:=ant 9 x y i (k+2)) (by omega) (good_ty2 (l:=[]) (typed_right hS ht) (wd_size hS h1) (by simp)) (by omega) rfl
  rw [stat_eq hp,ite_t hdc]
  show bnd (typedP C) (fun n=>bnd (nameP C) fun t=>bnd (takeP C (⟨#[61]⟩:ByteArray)) fun b=>if b=true then bnd (runG C K .value) fun k=>bnd (wantP C (⟨#[59]⟩:ByteArray)) fun _=>makeP C { n with kind:=9,text:=t,kids:=[(k:Int)] } (C.tok i).2.1 else bnd (wantP C (⟨#[59]⟩:ByteArray)) fun _=>makeP C { n with kind:=9,text:=t } (C.tok i).2.1) ⟨i,D,0,M⟩=_
  rw [bnd_go (typedn hS hK ht h1 hn0),bnd_go (nmg h1 hn0),bnd_go (tk_n (by rw [h2.word];decide)),ite_f (by simp),bnd_go (wt h2)];exact hn
 | @sDecl d i k j y x t hp hdc ht h1 hn0 h2 h h3 ih =>
  intro K D M hd hm hk hs
  have hm:M.length+(t.size+1)<=8192:=hm
  have i1:=(dv_in h).1
  obtain ⟨n,e1,e2⟩:=ih K D M hd (by omega) hk (stop_at h3.word (by decide))
  refine rn_node ?_
  have hn:=nodeg (C:=C) (M:=M) (D:=D) (q:=j+1) (u:=t) (f:=(C.tok i).2.1) (a:=ant 9 x y i (j+1)) (y:={ y.nd C with kind:=9,text:=x,kids:=[(n:Int)] }) (by omega) (good_ty2 (l:=[n]) (typed_right hS ht) (wd_size hS h1) (by simp)) (by omega) (by rw [e2];rfl)
  rw [stat_eq hp,ite_t hdc]
  show bnd (typedP C) (fun n=>bnd (nameP C) fun t=>bnd (takeP C (⟨#[61]⟩:ByteArray)) fun b=>if b=true then bnd (runG C K .value) fun k=>bnd (wantP C (⟨#[59]⟩:ByteArray)) fun _=>makeP C { n with kind:=9,text:=t,kids:=[(k:Int)] } (C.tok i).2.1 else bnd (wantP C (⟨#[59]⟩:ByteArray)) fun _=>makeP C { n with kind:=9,text:=t } (C.tok i).2.1) ⟨i,D,0,M⟩=_
  rw [bnd_go (typedn hS hK ht h1 hn0),bnd_go (nmg h1 hn0),bnd_go (tk_y h2),ite_t rfl,bnd_go e1,bnd_go (wt h3)];exact hn
 | @sSet d i k j t u hp hdc h hkd h1 g h2 ih1 ih2 =>
  intro K D M hd hm hk hs
  have hm:M.length+((t.app u).size+1)<=8192:=hm
  have sz:=Fo.app_size t u
  have i1:=(dv_in h).1;have i2:=(dv_in g).1
  obtain ⟨n,e1,e2⟩:=ih1 K D M hd (by omega) hk (stop_at h1.word (by decide))
  obtain ⟨a,e3,e4⟩:=ih2 K D (M ++ t.post C M.length) hd (by rw [cat_len];omega) hk (stop_at h2.word (by decide))
  rw [post_cat] at e3
  refine rn_node ?_
  have hn:=nodeg (C:=C) (M:=M) (D:=D) (q:=j+1) (u:=t.app u) (f:=(C.tok i).2.1) (a:=an 10 ⟨#[]⟩ i (j+1)) (y:=nd 10 ⟨#[]⟩ [n,a]) (by omega) (an_good e_size (by simp)) (by omega) (by rw [two_idx e2 e4];rfl)
  rw [stat_eq hp,ite_f (by rw [hdc];decide)]
  show bnd (runG C K .value) (fun a=>look (kindAt a) fun k=>look (sees C (⟨#[61]⟩:ByteArray)) fun b=>if b=true then
   if k=25\/k=26\/k=27 then bnd (wantP C (⟨#[61]⟩:ByteArray)) fun _=>bnd (runG C K .value) fun v=>bnd (wantP C (⟨#[59]⟩:ByteArray)) fun _=>makeP C (nd 10 ⟨#[]⟩ [a,v]) (C.tok i).2.1
   else look (fromS C) fun g=>thr 132 g
   else bnd (wantP C (⟨#[59]⟩:ByteArray)) fun _=>bnd (makeP C (nd 18 ⟨#[]⟩ [a]) (C.tok i).2.1) fun i'=>if k=29\/k=30 then ret i' else thr 132 (C.tok i).2.1) ⟨i,D,0,M⟩=_
  rw [bnd_go e1]
  have hkk:=kind_at (C:=C) (D:=D) (q:=k) e2
  show (if sees C (⟨#[61]⟩:ByteArray) ⟨k,D,0,M ++ t.post C M.length⟩=true then
   if kindAt n ⟨k,D,0,M ++ t.post C M.length⟩=25\/kindAt n ⟨k,D,0,M ++ t.post C M.length⟩=26\/kindAt n ⟨k,D,0,M ++ t.post C M.length⟩=27 then (_:PM Nat) else _ else _) _=_
  rw [hkk,ite_t (sees_yes h1.word),ite_t hkd,bnd_go (wt h1),bnd_go e3,bnd_go (wt h2)];exact hn
 | @sExpr d i j t hp hdc h hkd h1 ih =>
  intro K D M hd hm hk hs
  have hm:M.length+(t.size+1)<=8192:=hm
  have i1:=(dv_in h).1
  obtain ⟨n,e1,e2⟩:=ih K D M hd (by omega) hk (stop_at h1.word (by decide))
  refine rn_node ?_
  have hn:=nodeg (C:=C) (M:=M) (D:=D) (q:=j+1) (u:=t) (f:=(C.tok i).2.1) (a:=an 18 ⟨#[]⟩ i (j+1)) (y:=nd 18 ⟨#[]⟩ [n]) (by omega) (an_good e_size (by simp)) (by omega) (by rw [e2];rfl)
  rw [stat_eq hp,ite_f (by rw [hdc];decide)]
  show bnd (runG C K .value) (fun a=>look (kindAt a) fun k=>look (sees C (⟨#[61]⟩:ByteArray)) fun b=>if b=true then
   if k=25\/k=26\/k=27 then bnd (wantP C (⟨#[61]⟩:ByteArray)) fun _=>bnd (runG C K .value) fun v=>bnd (wantP C (⟨#[59]⟩:ByteArray)) fun _=>makeP C (nd 10 ⟨#[]⟩ [a,v]) (C.tok i).2.1
   else look (fromS C) fun g=>thr 132 g
   else bnd (wantP C (⟨#[59]⟩:ByteArray)) fun _=>bnd (makeP C (nd 18 ⟨#[]⟩ [a]) (C.tok i).2.1) fun i'=>if k=29\/k=30 then ret i' else thr 132 (C.tok i).2.1) ⟨i,D,0,M⟩=_
  rw [bnd_go e1]
  have hkk:=kind_at (C:=C) (D:=D) (q:=j) e2
  show (if sees C (⟨#[61]⟩:ByteArray) ⟨j,D,0,M ++ t.post C M.length⟩=true then (_:PM Nat)
   else bnd (wantP C (⟨#[59]⟩:ByteArray)) fun _=>bnd (makeP C (nd 18 ⟨#[]⟩ [n]) (C.tok i).2.1) fun i'=>if kindAt n ⟨j,D,0,M ++ t.post C M.length⟩=29\/kindAt n ⟨j,D,0,M ++ t.post C M.length⟩=30 then ret i' else thr 132 (C.tok i).2.1) _=_
  rw [hkk,ite_f (by rw [sees_no (by rw [h1.word];decide)];decide),bnd_go (wt h1),bnd_go hn,ite_t hkd];rfl
end
end Go.Proofs.YtfehpdliobapfaaGreatDoor.G
namespace Go.Proofs.YtfehpdliobapfaaGreatDoor.G
section
variable {C:PC} {D d i j k n c f q K:Nat} {x:ByteArray} {t u w:Fo} {g:Fn} {y z:Ty} {M:List Nd} {s:PS}
theorem blockg (hS:Sz C) (hK:Kw C) (hL:C.toks.length<=80000) (h:Dv C .block 60 i j u) (hm:M.length+u.size<=8192):Rn C (runG C C.fuel .block) i 0 M j u:=by
 have i1:=dv_in h
 have i2:=i1.1;have i3:=i1.2
 by_cases h60:j-i<=60
 ·have:=dv_run hS hK hL (dv_less h (j-i) h60 (Nat.le_refl _))
  exact this C.fuel 0 M (by omega) hm (by unfold PC.fuel;omega)
 ·have:=dv_run hS hK hL h
  exact this C.fuel 0 M (by omega) hm (by unfold PC.fuel;omega)
theorem param_in (h:Param C i j u):i<j/\j<C.toks.length/\u.size=1:=by
 obtain ⟨k,y,x,ht,hw,hn,rfl,rfl⟩:=h.is
 have:=typed_in ht;have:=hw.in_
 exact ⟨by omega,by omega,rfl⟩
theorem paramg (hS:Sz C) (hK:Kw C) (h:Param C i j u) (hm:M.length+u.size<=8192):Rn C (paramP C) i D M j u:=by
 obtain ⟨k,y,x,ht,hw,hn,rfl,rfl⟩:=h.is
 have hm:M.length+1<=8192:=hm
 refine rn_node ?_
 have hg:=node0 (C:=C) (M:=M) (D:=D) (q:=k+1) (f:=(C.tok i).2.1) (y:={ y.nd C with kind:=7,text:=x }) (a:=ant 7 x y i (k+1)) (by omega) (good_ty2 (l:=[]) (typed_right hS ht) (wd_size hS hw) (by simp)) (by omega) rfl
 show bnd (typedP C) (fun n=>bnd (nameP C) fun t=>makeP C { n with kind:=7,text:=t } (C.tok i).2.1) ⟨i,D,0,M⟩=_
 rw [bnd_go (typedn hS hK ht hw hn),bnd_go (nmg hw hn)];exact hg
theorem paramL_in (h:ParamL C n i j u):i<=j/\(i<C.toks.length->j<C.toks.length):=by
 induction h with
 | fin=>exact ⟨Nat.le_refl _,id⟩
 | more hw hn h _ ih=>have:=param_in h;exact ⟨by have:=ih.1;omega,fun _=>ih.2 this.2.1⟩
theorem params_in (h:Params C i j u):i<j/\j<C.toks.length:=by
 cases h with
 | none hw h1=>exact ⟨by omega,h1.in_⟩
 | some hw h0 h g h1=>have:=param_in h;have:=paramL_in g;exact ⟨by omega,h1.in_⟩
theorem paramLg (hS:Sz C) (hK:Kw C) (h:ParamL C n i j u) (hj:C.word j=(⟨#[41]⟩:ByteArray)):∀ (M:List Nd) (l:Nat) (L:List Nat),M.length+u.size<=8192->L.length=n->j-i<l->L.length+(j-i)<=90000->manyP C (paramP C) l L ⟨i,D,0,M⟩ = .ok (L ++ u.idx M.length) ⟨j,D,0,M ++ u.post C M.length⟩:=by
 induction h with
 | fin =>
  intro M l L hm hn hl hb
  obtain ⟨l,rfl⟩:∃ k',l=k'+1:=⟨l-1,by omega⟩
  show manyP C _ (l+1) L _=PR.ok (L ++ []) ⟨_,D,0,M ++ []⟩
  unfold manyP
  rw [bnd_go (capg (by omega)),bnd_go (tk_n (by rw [hj];decide)),ite_f (by simp),List.append_nil,List.append_nil];rfl
 | @more n i k j t u hw hn h g ih =>
  intro M l L hm hLn hl hb
  rw [Fo.app_size] at hm
  have i1:=param_in h;have i2:=(paramL_in g).1
  obtain ⟨l,rfl⟩:∃ k',l=k'+1:=⟨l-1,by omega⟩
  obtain ⟨a,e1,e2⟩:=paramg (D:=D) (M:=M) hS hK h (by omega)
  have e3:=ih hj (M ++ t.post C M.length) l (L ++ [a]) (by rw [cat_len];omega) (by rw [List.length_append,hLn];rfl) (by omega) (by rw [List.length_append];show L.length+1+(j-k)<=90000;omega)
  rw [post_cat] at e3
  show manyP C _ (l+1) L _=PR.ok (L ++ (t.app u).idx M.length) _
  unfold manyP
  rw [bnd_go (capg (by omega)),bnd_go (tk_y hw),ite_t rfl,bnd_go (morg (by omega)),bnd_go e1,e3,idx_cat (C:=C),e2,List.append_assoc]
theorem paramsg (hS:Sz C) (hK:Kw C) (hL:C.toks.length<=80000) (h:Params C i j u) (hm:M.length+u.size<=8192):listP C (paramP C) ⟨i,D,0,M⟩ = .ok (u.idx M.length) ⟨j,D,0,M ++ u.post C M.length⟩:=by
 induction h with
 | none hw h1 =>
  show listP C _ _=PR.ok [] ⟨_,D,0,M ++ []⟩
  unfold listP
  rw [bnd_go (wt hw),bnd_go (tk_y h1),ite_t rfl,List.append_nil];rfl
 | @some k j t u hw h0 h g h1 =>
  rw [Fo.app_size] at hm
  have i1:=param_in h;have i2:=paramL_in g
  have i3:=i2.2 i1.2.1
  obtain ⟨a,e1,e2⟩:=paramg (D:=D) (M:=M) hS hK h (by omega)
  have e3:=paramLg (D:=D) hS hK g h1.word (M ++ t.post C M.length) C.toks.length [a] (by rw [cat_len];omega) rfl (by omega) (by show 1+(j-k)<=90000;omega)
  rw [post_cat] at e3
  unfold listP
  rw [bnd_go (wt hw),bnd_go (tk_n h0),ite_f (by simp),bnd_go e1,bnd_go e3,bnd_go (wt h1),idx_cat (C:=C),e2];rfl
theorem bodyg {block:PM Nat} {y:Nd} {a:An} (hp:listP C (paramP C) ⟨i,D,0,M⟩ = .ok (t.idx M.length) ⟨k,D,0,M ++ t.post C M.length⟩) (hb:Rn C block k D (M ++ t.post C M.length) j u) (hn:makeP C { y with kids:=((t.app u).idx M.length).map Int.ofNat } f ⟨j,D,0,M ++ (t.app u).post C M.length⟩ = .ok (M.length+(t.app u).size) ⟨j,D,0,M ++ (one a (t.app u)).post C M.length⟩):bodyP C block y f ⟨i,D,0,M⟩ = .ok (M.length+(t.app u).size) ⟨j,D,0,M ++ (one a (t.app u)).post C M.length⟩:=by
 obtain ⟨b,e1,e2⟩:=hb
 rw [post_cat] at e1
 unfold bodyP
 rw [bnd_go hp,bnd_go e1]
 rw [show t.idx M.length ++ [b]=(t.app u).idx M.length by rw [idx_cat (C:=C),e2]]
 exact hn
theorem member_in (h:Member C i j u):i<j/\j<C.toks.length:=by
 cases h with
 | init hw hp hb=>have:=params_in hp;have:=dv_in hb;exact ⟨by have:=this.1;omega,this.2⟩
 | method hw ha h1 hn hp hb=>have:=answer_in ha;have:=params_in hp;have:=dv_in hb;exact ⟨by have:=this.1;omega,this.2⟩
 | field hw ha h1 hn hv h2=>have:=answer_in ha;exact ⟨by omega,h2.in_⟩
theorem memberg (hS:Sz C) (hK:Kw C) (hL:C.toks.length<=80000) (h:Member C i j u) (hm:M.length+u.size<=8192):Rn C (memberP C (runG C C.fuel .block)) i 0 M j u:=by
 have e0:∀ block,memberP C block ⟨i,0,0,M⟩=bnd (takeP C (⟨#[105,110,105,116]⟩:ByteArray)) (fun b=>if b=true then bodyP C block (nd 5 ⟨#[]⟩ []) (C.tok i).2.1 else
  bnd (answerP C) fun n=>bnd (nameP C) fun t=>look (sees C (⟨#[40]⟩:ByteArray)) fun p=>if p=true then bodyP C block { n with text:=t,kind:=6 } (C.tok i).2.1
  else if n.B=6 then thr 80 (C.tok i).2.1 else bnd (wantP C (⟨#[59]⟩:ByteArray)) fun _=>makeP C { n with text:=t,kind:=4 } (C.tok i).2.1) ⟨i,0,0,M⟩:=fun _=>rfl
 induction h with
 | @init k j t u hw hp hb =>
  have hm:M.length+((t.app u).size+1)<=8192:=hm
  have sz:=Fo.app_size t u
  have i1:=params_in hp;have i2:=dv_in hb
  have i3:=i2.1
  refine rn_node ?_
  have e1:=paramsg (D:=0) (M:=M) hS hK hL hp (by omega)
  have e2:=blockg (M:=M ++ t.post C M.length) hS hK hL hb (by rw [cat_len];omega)
  have hn:=nodeg (C:=C) (M:=M) (D:=0) (q:=j) (u:=t.app u) (f:=(C.tok i).2.1) (a:=an 5 ⟨#[]⟩ i j) (y:=nd 5 ⟨#[]⟩ ((t.app u).idx M.length)) (by omega) (an_good e_size (idx_most _ (by omega))) (by omega) rfl
  rw [e0,bnd_go (tk_y hw),ite_t rfl]
  exact bodyg e1 e2 hn
 | @method k m j y x t u hw ha h1 hn0 hp hb =>
  have hm:M.length+((t.app u).size+1)<=8192:=hm
  have sz:=Fo.app_size t u
  have i1:=params_in hp;have i2:=dv_in hb
  have i3:=i2.1
  obtain ⟨s1,s2⟩:=name_stop hK hn0
  have hpw:C.word (k+1)=(⟨#[40]⟩:ByteArray):=by
   cases hp with
   | none hw h1=>exact hw.word
   | some hw h0 h g h1=>exact hw.word
  refine rn_node ?_
  have e1:=paramsg (D:=0) (M:=M) hS hK hL hp (by omega)
  have e2:=blockg (M:=M ++ t.post C M.length) hS hK hL hb (by rw [cat_len];omega)
  have hn:=nodeg (C:=C) (M:=M) (D:=0) (q:=j) (u:=t.app u) (f:=(C.tok i).2.1) (a:=ant 6 x y i j) (y:={ y.nd C with text:=x,kind:=6,kids:=((t.app u).idx M.length).map Int.ofNat }) (by omega) (good_ty2 (answer_right hS ha) (wd_size hS h1) (idx_most _ (by omega))) (by omega) rfl
  rw [e0,bnd_go (tk_n hw),ite_f (by simp),bnd_go (answerg hS ha (by rw [h1.word];exact s1) (by rw [h1.word];exact s2)),bnd_go (nmg h1 hn0)]
  show (if sees C (⟨#[40]⟩:ByteArray) ⟨k+1,0,0,M⟩=true then (_:PM Nat) else _) _=_
  rw [ite_t (sees_yes hpw)]
  exact bodyg e1 e2 hn
 | @field k y x hw ha h1 hn0 hv h2 =>
  have hm:M.length+1<=8192:=hm
  obtain ⟨s1,s2⟩:=name_stop hK hn0
  refine rn_node ?_
  have hn:=node0 (C:=C) (M:=M) (D:=0) (q:=k+2) (f:=(C.tok i).2.1) (y:={ y.nd C with text:=x,kind:=4 }) (a:=ant 4 x y i (k+2)) (by omega) (good_ty2 (l:=[]) (answer_right hS ha) (wd_size hS h1) (by simp)) (by omega) rfl
  rw [e0,bnd_go (tk_n hw),ite_f (by simp),bnd_go (answerg hS ha (by rw [h1.word];exact s1) (by rw [h1.word];exact s2)),bnd_go (nmg h1 hn0)]
  show (if sees C (⟨#[40]⟩:ByteArray) ⟨k+1,0,0,M⟩=true then (_:PM Nat) else if (y.nd C).B=6 then _ else _) _=_
  rw [ite_f (by rw [sees_no (by rw [h2.word];decide)];decide),ite_f (show ¬ (y.nd C).B=6 from hv),bnd_go (wt h2)];exact hn
theorem members_in (h:Members C n i j u):i<=j/\(i<C.toks.length->j<C.toks.length):=by
 induction h with
 | fin=>exact ⟨Nat.le_refl _,id⟩
 | more hw hn h _ ih=>have:=member_in h;exact ⟨by have:=ih.1;omega,fun _=>ih.2 this.2⟩
theorem membersg (hS:Sz C) (hK:Kw C) (hL:C.toks.length<=80000) (h:Members C n i j u) (hj:Wd C j (⟨#[125]⟩:ByteArray)):∀ (M:List Nd) (l:Nat) (L:List Nat),M.length+u.size<=8192->L.length=n->j-i<l->L.length+(j-i)<=90000->memberL C (memberP C (runG C C.fuel .block)) l L ⟨i,0,0,M⟩ = .ok (L ++ u.idx M.length) ⟨j+1,0,0,M ++ u.post C M.length⟩:=by
 induction h with
 | fin =>
  intro M l L hm hn hl hb
  obtain ⟨l,rfl⟩:∃ k',l=k'+1:=⟨l-1,by omega⟩
  show memberL C _ (l+1) L _=PR.ok (L ++ []) ⟨_,0,0,M ++ []⟩
  unfold memberL
  rw [bnd_go (capg (by omega)),bnd_go (tk_y hj),ite_t rfl,List.append_nil,List.append_nil];rfl
 | @more n i k j t u hw hn h g ih =>
  intro M l L hm hLn hl hb
  rw [Fo.app_size] at hm
  have i1:=member_in h;have i2:=(members_in g).1
  obtain ⟨l,rfl⟩:∃ k',l=k'+1:=⟨l-1,by omega⟩
  obtain ⟨a,e1,e2⟩:=memberg (M:=M) hS hK hL h (by omega)
  have e3:=ih hj (M ++ t.post C M.length) l (L ++ [a]) (by rw [cat_len];omega) (by rw [List.length_append,hLn];rfl) (by omega) (by rw [List.length_append];show L.length+1+(j-k)<=90000;omega)
  rw [post_cat] at e3
  show memberL C _ (l+1) L _=PR.ok (L ++ (t.app u).idx M.length) _
  unfold memberL
  rw [bnd_go (capg (by omega)),bnd_go (tk_n hw),ite_f (by simp),bnd_go (morg (by omega)),bnd_go e1,e3,idx_cat (C:=C),e2,List.append_assoc]
theorem class_in (h:Class C i j u):i<j/\j<C.toks.length:=by
 cases h with
 | base hw h1 hn h2 h h3=>have:=members_in h;exact ⟨by omega,h3.in_⟩
 | ext hw h1 hn h2 h3 hm h4 h h5=>have:=members_in h;exact ⟨by omega,h5.in_⟩
theorem classg (hS:Sz C) (hK:Kw C) (hL:C.toks.length<=80000) (h:Class C i j u) (hm:M.length+u.size<=8192):Rn C (classP C (runG C C.fuel .block)) i 0 M j u:=by
 have e0:∀ block,classP C block ⟨i,0,0,M⟩=bnd (wantP C (⟨#[99,108,97,115,115]⟩:ByteArray)) (fun _=>bnd (nameP C) fun t=>look (sees C (⟨#[101,120,116,101,110,100,115]⟩:ByteArray)) fun b =>
  bnd (if b=true then bnd (ancestorP C) fun a=>ret [a] else ret []) fun l=>bnd (wantP C (⟨#[123]⟩:ByteArray)) fun _ =>
  bnd (memberL C (memberP C block) C.toks.length l) fun l=>makeP C (nd 2 t l) (C.tok i).2.1) ⟨i,0,0,M⟩:=fun _=>rfl
 induction h with
 | @base j x t hw h1 hn0 h2 h h3 =>
  have hm:M.length+(t.size+1)<=8192:=hm
  have i1:=members_in h
  have i2:=i1.2 h2.in_
  refine rn_node ?_
  have e1:=membersg hS hK hL h h3 M C.toks.length [] (by omega) rfl (by omega) (by show 0+(j-(i+3))<=90000;omega)
  have hn:=nodeg (C:=C) (M:=M) (D:=0) (q:=j+1) (u:=t) (f:=(C.tok i).2.1) (a:=an 2 x i (j+1)) (y:=nd 2 x (t.idx M.length)) (by omega) (an_good (wd_size hS h1) (idx_most _ (by omega))) (by omega) rfl
  rw [e0,bnd_go (wt hw),bnd_go (nmg h1 hn0)]
  show bnd (if sees C (⟨#[101,120,116,101,110,100,115]⟩:ByteArray) ⟨i+2,0,0,M⟩=true then bnd (ancestorP C) fun a=>ret [a] else ret []) _ _=_
  rw [if_neg (by rw [sees_no (by rw [h2.word];decide)];decide),bnd_go (show ret ([]:List Nat) ⟨i+2,0,0,M⟩ = .ok [] ⟨i+2,0,0,M⟩ from rfl),bnd_go (wt h2),bnd_go e1]
  exact hn
 | @ext j x y t hw h1 hn0 h2 h3 hm0 h4 h h5 =>
  have hm:M.length+(((one (an 3 y (i+2) (i+4)) .nil).app t).size+1)<=8192:=hm
  have sz:((one (an 3 y (i+2) (i+4)) .nil).app t).size=1+t.size:=Fo.app_size _ _
  have i1:=members_in h
  have i2:=i1.2 h4.in_
  refine rn_node ?_
  have ha:=node0 (C:=C) (M:=M) (D:=0) (q:=i+4) (f:=(C.tok (i+2)).2.1) (y:=nd 3 y []) (a:=an 3 y (i+2) (i+4)) (by omega) (an_good (wd_size hS h3) (by simp)) (by omega) rfl
  have e1:=membersg hS hK hL h h5 (M ++ (one (an 3 y (i+2) (i+4)) .nil).post C M.length) C.toks.length [M.length+Fo.nil.size] (by rw [cat_len];show M.length+1+_<=_;omega) rfl (by omega) (by show 1+(j-(i+5))<=90000;omega)
  rw [post_cat] at e1
  have e2:[M.length+Fo.nil.size] ++ t.idx (M ++ (one (an 3 y (i+2) (i+4)) .nil).post C M.length).length=((one (an 3 y (i+2) (i+4)) .nil).app t).idx M.length:=by rw [idx_cat (C:=C)];rfl
  rw [e2] at e1
  have hn:=nodeg (C:=C) (M:=M) (D:=0) (q:=j+1) (u:=(one (an 3 y (i+2) (i+4)) .nil).app t) (f:=(C.tok i).2.1) (a:=an 2 x i (j+1)) (y:=nd 2 x (((one (an 3 y (i+2) (i+4)) .nil).app t).idx M.length)) (by omega) (an_good (wd_size hS h1) (idx_most _ (by omega))) (by omega) rfl
  have han:ancestorP C ⟨i+2,0,0,M⟩ = .ok (M.length+Fo.nil.size) ⟨i+4,0,0,M ++ (one (an 3 y (i+2) (i+4)) .nil).post C M.length⟩:=by
   show bnd (wantP C (⟨#[101,120,116,101,110,100,115]⟩:ByteArray)) (fun _=>bnd (nameP C) fun t=>makeP C (nd 3 t []) (C.tok (i+2)).2.1) ⟨i+2,0,0,M⟩=_
   rw [bnd_go (wt h2),bnd_go (nmg h3 hm0)];exact ha
  rw [e0,bnd_go (wt hw),bnd_go (nmg h1 hn0)]
  show bnd (if sees C (⟨#[101,120,116,101,110,100,115]⟩:ByteArray) ⟨i+2,0,0,M⟩=true then bnd (ancestorP C) fun a=>ret [a] else ret []) _ _=_
  rw [if_pos (sees_yes h2.word),bnd_go (a:=[M.length+Fo.nil.size]) (t:=⟨i+4,0,0,M ++ (one (an 3 y (i+2) (i+4)) .nil).post C M.length⟩) (by rw [bnd_go han];rfl),bnd_go (wt h4),bnd_go e1]
  exact hn
theorem classes_in (h:Classes C n i j u):i<=j/\(C.tok j).1=0/\(i<C.toks.length->j<C.toks.length):=by
 induction h with
 | fin hk=>exact ⟨Nat.le_refl _,hk,id⟩
 | more hk hn h _ ih=>have:=class_in h;exact ⟨by have:=ih.1;omega,ih.2.1,fun _=>ih.2.2 this.2⟩
theorem classes_some (h:Classes C n i j u) (hu:u.size≠0):i<j:=by
 cases h with
 | fin hk=>exact absurd rfl hu
 | more hk hn h g=>have:=class_in h;have:=(classes_in g).1;omega
theorem classesg (hS:Sz C) (hK:Kw C) (hL:C.toks.length<=80000) (h:Classes C n i j u):∀ (M:List Nd) (l:Nat) (L:List Nat),M.length+u.size<=8192->L.length=n->j-i<l->L.length+(j-i)<=90000->classL C (classP C (runG C C.fuel .block)) l L ⟨i,0,0,M⟩ = .ok (L ++ u.idx M.length) ⟨j,0,0,M ++ u.post C M.length⟩:=by
 induction h with
 | fin hk =>
  intro M l L hm hn hl hb
  obtain ⟨l,rfl⟩:∃ k',l=k'+1:=⟨l-1,by omega⟩
  show classL C _ (l+1) L _=PR.ok (L ++ []) ⟨_,0,0,M ++ []⟩
  unfold classL
  rw [bnd_go (capg (by omega))]
  show (if kindS C ⟨_,0,0,M⟩=0 then (_:PM (List Nat)) else _) _=_
  rw [ite_t (p:=kindS C ⟨_,0,0,M⟩=0) hk,List.append_nil,List.append_nil];rfl
 | @more n i k j t u hk hn h g ih =>
  intro M l L hm hLn hl hb
  rw [Fo.app_size] at hm
  have i1:=class_in h;have i2:=(classes_in g).1
  obtain ⟨l,rfl⟩:∃ k',l=k'+1:=⟨l-1,by omega⟩
  obtain ⟨a,e1,e2⟩:=classg (M:=M) hS hK hL h (by omega)
  have e3:=ih (M ++ t.post C M.length) l (L ++ [a]) (by rw [cat_len];omega) (by rw [List.length_append,hLn];rfl) (by omega) (by rw [List.length_append];show L.length+1+(j-k)<=90000;omega)
  rw [post_cat] at e3
  show classL C _ (l+1) L _=PR.ok (L ++ (t.app u).idx M.length) _
  unfold classL
  rw [bnd_go (capg (by omega))]
  show (if kindS C ⟨i,0,0,M⟩=0 then (_:PM (List Nat)) else _) _=_
  rw [ite_f (p:=kindS C ⟨i,0,0,M⟩=0) hk,bnd_go (morg (by omega)),bnd_go e1,e3,idx_cat (C:=C),e2,List.append_assoc]
theorem parse_run (hS:Sz C) (hK:Kw C) (hL:C.toks.length<=80000) (h0:0<C.toks.length) (h:Classes C 0 0 j u) (hm:u = .nil\/u.size<8192):∃ t,parseP C = .ok () t/\t.made=u.post C 0 ++ [progN C u j]:=by
 have i1:=classes_in h
 have hm2:u.size<=8192:=by
  rcases hm with rfl|hm
  ·exact Nat.zero_le _
  ·omega
 have i2:=i1.2.2 h0
 have e1:=classesg hS hK hL h [] C.toks.length [] (by show 0+u.size<=_;omega) rfl (by omega) (by show 0+(j-0)<=90000;omega)
 have e1:classL C (classP C (runG C C.fuel .block)) C.toks.length [] ⟨0,0,0,[]⟩ = .ok (u.idx 0) ⟨j,0,0,u.post C 0⟩:=e1
 have e0:parseP C=bnd (classL C (classP C (runG C C.fuel .block)) C.toks.length []) (fun l=>if l.length=0 then fun s=>.ok () { s with made:=s.made ++ [nd 1 ⟨#[]⟩ []] } else bnd (makeP C (nd 1 ⟨#[]⟩ l) (C.tok 0).2.1) fun _=>ret ()) (⟨0,0,0,[]⟩:PS):=rfl
 rw [e0,bnd_go e1]
 cases u with
 | nil=>exact ⟨_,rfl,rfl⟩
 | cons a k r =>
  have hm:(Fo.cons a k r).size<8192:=hm.resolve_left (by simp)
  have hj:j≠0:=by
   have:=classes_some h (by show ¬ k.size+1+r.size=0;omega)
   omega
  have hn:=nodeg (C:=C) (M:=[]) (D:=0) (q:=j) (u:=.cons a k r) (f:=(C.tok 0).2.1) (a:=an 1 ⟨#[]⟩ 0 j) (y:=nd 1 ⟨#[]⟩ ((Fo.cons a k r).idx 0)) hj (an_good e_size (idx_most _ (by omega))) (by show 0+(Fo.cons a k r).size<8192;omega) rfl
  have hn:makeP C (nd 1 ⟨#[]⟩ ((Fo.cons a k r).idx 0)) (C.tok 0).2.1 ⟨j,0,0,(Fo.cons a k r).post C 0⟩ = .ok ([].length+(Fo.cons a k r).size) ⟨j,0,0,[] ++ (one (an 1 ⟨#[]⟩ 0 j) (.cons a k r)).post C 0⟩:=hn
  refine ⟨⟨j,0,0,[] ++ (one (an 1 ⟨#[]⟩ 0 j) (.cons a k r)).post C 0⟩,?_,rfl⟩
  rw [ite_f (p:=((Fo.cons a k r).idx 0).length=0) (by rw [Fo.idx_len];show ¬ r.len+1=0;omega),bnd_go hn];rfl
end
end Go.Proofs.YtfehpdliobapfaaGreatDoor.G
namespace Go.Proofs.YtfehpdliobapfaaGreatDoor.G
open Go Go.RowKit
section
variable {x a b z:ByteArray}
theorem tok_get {i:Nat} {t:L.Tok} (h:(toksX x)[i]? = some t):(pcOf x).tok i=t/\(pcOf x).word i=wordX x t:=by
 refine ⟨?_,by rw [pc_word,h]⟩
 show (toksX x).getD i (0,0,0)=t
 rw [List.getD_eq_getElem?_getD,h];rfl
theorem pc_kw (h:codeX x=0):Kw (pcOf x):=by
 have e:∀ y,(pcOf x).name y=nameF y:=fun y=>name_fast y
 refine ⟨by rw [e];decide +kernel,by rw [e];decide +kernel,by rw [e];decide +kernel,fun i hk hw=>?_⟩
 obtain ⟨hs,l,hl,hn,hok⟩:=toks_of h
 by_cases h1:i<l.length
 ·have hi:(toksX x)[i]? = some l[i]:=by rw [hl,List.getElem?_append_left h1,List.getElem?_eq_getElem h1]
  obtain ⟨g1,g2⟩:=tok_get hi
  rw [g1] at hk
  rw [g2] at hw
  obtain ⟨q1,q2,q3,q4,q5,q6,q7,q8,q9⟩:=hok i h1
  obtain ⟨er,-,-,-,-⟩:=L.token_facts (g:=L.byS x) (n:=x.size) (i:=l[i].2.1) (by omega) (by rw [q7])
  rw [q7] at er
  have er:L.reachG (L.byS x) x.size l[i].2.1=(l[i].1,l[i].2.2):=(Prod.mk.inj er).2.symm
  have h0:L.byS (x.extract l[i].2.1 l[i].2.2) 0=L.byS x l[i].2.1:=by
   have:=L.byS_extract x l[i].2.1 l[i].2.2 0 q3 (by omega)
   rwa [Nat.add_zero] at this
  have hw:x.extract l[i].2.1 l[i].2.2=(⟨#[101,108,115,101]⟩:ByteArray):=hw
  rw [hw] at h0
  have h0:L.byS x l[i].2.1=101:=h0.symm.trans (by decide)
  unfold L.reachG at er
  rw [h0,if_pos (by decide)] at er
  have:=(Prod.mk.inj er).1
  rcases hk with hk|hk|hk<;>omega
 ·have:(pcOf x).tok i=(0,x.size,x.size)\/(pcOf x).tok i=(0,0,0):=by
   show (toksX x).getD i (0,0,0)=_\/(toksX x).getD i (0,0,0)=_
   rw [List.getD_eq_getElem?_getD,hl]
   by_cases h2:i=l.length
   ·subst h2
    rw [List.getElem?_append_right (Nat.le_refl _),Nat.sub_self];exact .inl rfl
   ·rw [List.getElem?_eq_none (by simp;omega)];exact .inr rfl
  rcases this with e|e<;>(rw [e] at hk;rcases hk with hk|hk|hk<;>simp at hk)
theorem pc_len (h:codeX x=0):(pcOf x).toks.length<=80000/\0<(pcOf x).toks.length:=by
 have h1:(toksX x).length<=16385:=lex_most _ _
 obtain ⟨-,l,hl,-,-⟩:=toks_of h
 exact ⟨by show (toksX x).length<=_;omega,by show 0<(toksX x).length;rw [hl];simp⟩
end
end Go.Proofs.YtfehpdliobapfaaGreatDoor.G
