/- ParseSpans -/
import Derived.Test.YtcllbfijhgiclaaGreatDoorWPaNG
import Derived.Test.YtcllbfijhgiclaaGreatDoorWPaMF
import Derived.Lib.IndexMore
import Derived.Test.YtcllbfijhgiclaaGreatDoorWShelfS
set_option linter.unusedVariables false
set_option linter.unusedSimpArgs false
namespace Go.Proofs.YtcllbfijhgiclaaGreatDoor.L
open Go
theorem atK_succ (l : List Tok) (k : Nat) (h : k < l.length) : atK l (k + 1) = l[k].2.2:=by
 unfold atK
 rw [if_neg (by omega),Nat.add_sub_cancel,List.getD_eq_getElem?_getD,List.getElem?_eq_getElem h];rfl
end Go.Proofs.YtcllbfijhgiclaaGreatDoor.L
namespace Go.Proofs.YtcllbfijhgiclaaGreatDoor.G
section
variable {C : PC} {d e i j k n c f : Nat} {x : ByteArray} {t u w : Fo} {g : Fn} {y z : Ty}
theorem tyl_in (h : TyL C i j y z) : i <= j /\ (i < C.toks.length -> j < C.toks.length):=by
 induction h with
 | fin=>exact ⟨Nat.le_refl _,id⟩
 | null hw hf _ ih=>have:=hw.in_;have:=ih.1;exact ⟨by omega,fun _=>ih.2 (by omega)⟩
 | arr hw h1 hd _ ih=>have:=h1.in_;have:=ih.1;exact ⟨by omega,fun _=>ih.2 (by omega)⟩
theorem inner_in (h : Inner C i j y) : i < j /\ j < C.toks.length:=by
 obtain ⟨z,h1,-⟩:=h.rest
 have:=h.in_
 obtain ⟨a,b⟩:=tyl_in h1
 exact ⟨by omega,b (by omega)⟩
theorem typed_in (h : Typed C i j y) : i < j /\ j < C.toks.length:=by
 cases h with
 | inner hw h=>exact inner_in h
 | option hw h1 h h2 hf=>have:=inner_in h;have:=h2.in_;omega
theorem answer_in (h : Answer C i j y) : i < j /\ j < C.toks.length:=by
 cases h with
 | void hw=>have:=hw.in_;omega
 | typed hw h=>exact typed_in h
def InF (C : PC) (g : Fn) (i j : Nat) : Prop :=
 match g with
 | .joinL _ _ _=>i <= j /\ (i < C.toks.length -> j < C.toks.length)
 | .askL _ _=>i <= j /\ (i < C.toks.length -> j < C.toks.length)
 | .many _=>i <= j /\ (i < C.toks.length -> j < C.toks.length)
 | .stats=>i <= j /\ (i < C.toks.length -> j < C.toks.length)
 | _=>i < j /\ j < C.toks.length
theorem dv_in (h : Dv C g d i j u) : InF C g i j:=by
 induction h with
 | value _ ih=>exact ih
 | up _ ih=>exact ih
 | joined hc _ _ ih1 ih2=>exact ⟨by have:=ih1.1;have:=ih2.1;omega,ih2.2 ih1.2⟩
 | joinE=>exact ⟨Nat.le_refl _,id⟩
 | joinB hw hb hx _ _ ih1 ih2=>exact ⟨by have:=ih1.1;have:=ih2.1;omega,fun _=>ih2.2 ih1.2⟩
 | joinS hw h1 _ ih=>exact ⟨by have:=ih.1;omega,fun _=>ih.2 h1.in_⟩
 | joinN hw h1 _ ih=>exact ⟨by have:=ih.1;omega,fun _=>ih.2 h1.in_⟩
 | neg hw _ ih=>exact ⟨by have:=ih.1;omega,ih.2⟩
 | not hw _ ih=>exact ⟨by have:=ih.1;omega,ih.2⟩
 | asked h1 h2 _ ih=>exact ih
 | ask _ _ ih1 ih2=>exact ⟨by have:=ih1.1;have:=ih2.1;omega,ih2.2 ih1.2⟩
 | askE=>exact ⟨Nat.le_refl _,id⟩
 | guard hw _ ih=>exact ⟨by have:=ih.1;omega,fun _=>ih.2 hw.in_⟩
 | index hw _ h1 _ ih1 ih2=>exact ⟨by have:=ih1.1;have:=ih2.1;omega,fun _=>ih2.2 h1.in_⟩
 | length hw h1 _ ih=>exact ⟨by have:=ih.1;omega,fun _=>ih.2 h1.in_⟩
 | val hw h1 _ ih=>exact ⟨by have:=ih.1;omega,fun _=>ih.2 h1.in_⟩
 | get hw h1 hl hv hn _ ih=>exact ⟨by have:=ih.1;omega,fun _=>ih.2 h1.in_⟩
 | call hw h1 hl hv hn _ _ ih1 ih2=>exact ⟨by have:=ih1.1;have:=ih2.1;omega,fun _=>ih2.2 ih1.2⟩
 | args0 hw h1=>exact ⟨by omega,h1.in_⟩
 | args hw h0 _ _ h1 ih1 ih2=>exact ⟨by have:=ih1.1;have:=ih2.1;omega,h1.in_⟩
 | manyE=>exact ⟨Nat.le_refl _,id⟩
 | many hw hn _ _ ih1 ih2=>exact ⟨by have:=ih1.1;have:=ih2.1;omega,fun _=>ih2.2 ih1.2⟩
 | lit hk hi h0=>exact ⟨by omega,hi⟩
 | paren hk hw _ h1 ih=>exact ⟨by have:=ih.1;omega,h1.in_⟩
 | const hk hw hx=>exact ⟨by omega,hw.in_⟩
 | wrap hk hw hx h1 _ h2 ih=>exact ⟨by have:=ih.1;omega,h2.in_⟩
 | input hk hw h1 h2=>exact ⟨by omega,h2.in_⟩
 | cast hk hw h1 ht h2 h3 _ h4 ih=>exact ⟨by have:=ih.1;have:=typed_in ht;omega,h4.in_⟩
 | newA hk hw ht h1 h0 _ h2 ih=>exact ⟨by have:=ih.1;have:=inner_in ht;omega,h2.in_⟩
 | newO hk hw ht ha _ ih=>exact ⟨by have:=ih.1;have:=inner_in ht;omega,ih.2⟩
 | var hk hw hx hn=>exact ⟨by omega,hw.in_⟩
 | block hw _ h1 ih=>exact ⟨by have:=ih.1;omega,h1.in_⟩
 | statsE=>exact ⟨Nat.le_refl _,id⟩
 | stats hw _ _ ih1 ih2=>exact ⟨by have:=ih1.1;have:=ih2.1;omega,fun _=>ih2.2 ih1.2⟩
 | sBlock hw _ ih=>exact ih
 | sIf hw h1 _ h2 _ ih1 ih2=>exact ⟨by have:=ih1.1;have:=ih2.1;omega,ih2.2⟩
 | sElse hw h1 _ h2 _ h3 _ ih1 ih2 ih3=>exact ⟨by have:=ih1.1;have:=ih2.1;have:=ih3.1;omega,ih3.2⟩
 | sWhile hw h1 _ h2 _ ih1 ih2=>exact ⟨by have:=ih1.1;have:=ih2.1;omega,ih2.2⟩
 | sBreak hw h1=>exact ⟨by omega,h1.in_⟩
 | sCont hw h1=>exact ⟨by omega,h1.in_⟩
 | sRet0 hw h1=>exact ⟨by omega,h1.in_⟩
 | sRet hw h0 _ h1 ih=>exact ⟨by have:=ih.1;omega,h1.in_⟩
 | sPrint hw h1 _ h2 h3 ih=>exact ⟨by have:=ih.1;omega,h3.in_⟩
 | sSuper hw _ h1 ih=>exact ⟨by have:=ih.1;omega,h1.in_⟩
 | sDecl0 hp hd ht h1 hn h2=>exact ⟨by have:=typed_in ht;omega,h2.in_⟩
 | sDecl hp hd ht h1 hn h2 _ h3 ih=>exact ⟨by have:=ih.1;have:=typed_in ht;omega,h3.in_⟩
 | sSet hp hd _ hk h1 _ h2 ih1 ih2=>exact ⟨by have:=ih1.1;have:=ih2.1;omega,h2.in_⟩
 | sExpr hp hd _ hk h1 ih=>exact ⟨by have:=ih.1;omega,h1.in_⟩
end
end Go.Proofs.YtcllbfijhgiclaaGreatDoor.G
namespace Go.Proofs.YtcllbfijhgiclaaGreatDoor.G
section
variable {C : PC} {D d i j k n c f q K : Nat} {x : ByteArray} {t u w : Fo} {g : Fn} {y z : Ty} {M : List Nd} {s : PS}
theorem wt (h : Wd C i x) : wantP C x ⟨i,D,0,M⟩ = .ok () ⟨i + 1,D,0,M⟩:=want_go ⟨h.word,rfl,h.in_⟩
end
end Go.Proofs.YtcllbfijhgiclaaGreatDoor.G
namespace Go.Proofs.YtcllbfijhgiclaaGreatDoor.G
section
variable {C : PC} {D d i j k n c f q K : Nat} {x : ByteArray} {t u w : Fo} {g : Fn} {y z : Ty} {M : List Nd} {s : PS}
theorem kind_at (ht : t.idx M.length = [n]) : kindAt n ⟨q,D,0,M ++ t.post C M.length⟩ = t.kind:=by
 have : Got C ⟨q,D,0,M⟩ ⟨q,D,0,M ++ t.post C M.length⟩ [n] t:=⟨rfl,rfl,rfl,ht,rfl⟩
 exact this.kind
end
end Go.Proofs.YtcllbfijhgiclaaGreatDoor.G
namespace Go.Proofs.YtcllbfijhgiclaaGreatDoor.G
section
variable {C : PC} {D d i j k n c f q K : Nat} {x : ByteArray} {t u w : Fo} {g : Fn} {y z : Ty} {M : List Nd} {s : PS}
theorem param_in (h : Param C i j u) : i < j /\ j < C.toks.length /\ u.size = 1:=by
 obtain ⟨k,y,x,ht,hw,hn,rfl,rfl⟩:=h.is
 have:=typed_in ht;have:=hw.in_
 exact ⟨by omega,by omega,rfl⟩
theorem paramL_in (h : ParamL C n i j u) : i <= j /\ (i < C.toks.length -> j < C.toks.length):=by
 induction h with
 | fin=>exact ⟨Nat.le_refl _,id⟩
 | more hw hn h _ ih=>have:=param_in h;exact ⟨by have:=ih.1;omega,fun _=>ih.2 this.2.1⟩
theorem params_in (h : Params C i j u) : i < j /\ j < C.toks.length:=by
 cases h with
 | none hw h1=>exact ⟨by omega,h1.in_⟩
 | some hw h0 h g h1=>have:=param_in h;have:=paramL_in g;exact ⟨by omega,h1.in_⟩
theorem member_in (h : Member C i j u) : i < j /\ j < C.toks.length:=by
 cases h with
 | init hw hp hb=>have:=params_in hp;have:=dv_in hb;exact ⟨by have:=this.1;omega,this.2⟩
 | method hw ha h1 hn hp hb=>have:=answer_in ha;have:=params_in hp;have:=dv_in hb;exact ⟨by have:=this.1;omega,this.2⟩
 | field hw ha h1 hn hv h2=>have:=answer_in ha;exact ⟨by omega,h2.in_⟩
theorem members_in (h : Members C n i j u) : i <= j /\ (i < C.toks.length -> j < C.toks.length):=by
 induction h with
 | fin=>exact ⟨Nat.le_refl _,id⟩
 | more hw hn h _ ih=>have:=member_in h;exact ⟨by have:=ih.1;omega,fun _=>ih.2 this.2⟩
theorem class_in (h : Class C i j u) : i < j /\ j < C.toks.length:=by
 cases h with
 | base hw h1 hn h2 h h3=>have:=members_in h;exact ⟨by omega,h3.in_⟩
 | ext hw h1 hn h2 h3 hm h4 h h5=>have:=members_in h;exact ⟨by omega,h5.in_⟩
theorem classes_in (h : Classes C n i j u) : i <= j /\ (C.tok j).1 = 0 /\ (i < C.toks.length -> j < C.toks.length):=by
 induction h with
 | fin hk=>exact ⟨Nat.le_refl _,hk,id⟩
 | more hk hn h _ ih=>have:=class_in h;exact ⟨by have:=ih.1;omega,ih.2.1,fun _=>ih.2.2 this.2⟩
end
end Go.Proofs.YtcllbfijhgiclaaGreatDoor.G
namespace Go.Proofs.YtcllbfijhgiclaaGreatDoor.G
def Inc : Nat -> List Nat -> Nat -> Prop
 | _,[],_=>True
 | s,q :: r,z=>s <= q /\ q < z /\ Inc (q + 1) r z
structure Std (C : PC) (i j : Nat) (t : Ty) : Prop where
 i_ : t.i = i
 j_ : t.j = j
 lt : i < j
 inc : Inc i t.e j
 len : t.e.length = t.D.toNat + 1
 mark : ∀ k q : Nat,t.e[k]? = some q -> byS t.M k = 63 -> C.word (q + 1) = (⟨#[63]⟩ : ByteArray)
def Fo.Lie (C : PC) : Fo -> Nat -> Nat -> Prop
 | .nil,i,j=>i <= j
 | .cons a k r,i,j=>(i <= a.i /\ a.i < a.j /\ ∀ t,a.ty = some t -> ∃ m n,a.i <= m /\ n <= a.j /\ Std C m n t) /\ k.Lie C a.i a.j /\ r.Lie C a.j j
section
variable {C : PC} {d e i j k n m p q f s z z' : Nat} {x : ByteArray} {t u v : Fo} {g : Fn} {y : Ty} {l : List Nat} {a : An}
theorem inc_wide : ∀ {l : List Nat} {s : Nat},Inc s l z -> z <= z' -> Inc s l z'
 | [],_,_,_=>trivial
 | q :: r,s,⟨h1,h2,h3⟩,hz=>⟨h1,Nat.lt_of_lt_of_le h2 hz,inc_wide h3 hz⟩
theorem inc_left (h : Inc s l z) (hs : q <= s) : Inc q l z:=by
 cases l with
 | nil=>trivial
 | cons a r=>exact ⟨Nat.le_trans hs h.1,h.2.1,h.2.2⟩
theorem inc_snoc : ∀ {l : List Nat} {s : Nat},Inc s l z -> z <= q -> s <= q -> q < z' -> Inc s (l ++ [q]) z'
 | [],_,_,_,h2,h3=>⟨h2,h3,trivial⟩
 | a :: r,s,⟨h1,h2,h3⟩,hz,_,hq=>⟨h1,Nat.lt_of_lt_of_le h2 (by omega),inc_snoc h3 hz (by omega) hq⟩
structure TyI (C : PC) (s i : Nat) (x : Ty) : Prop where
 le : s < i
 inc : Inc s x.e i
 mark : ∀ k q : Nat,x.e[k]? = some q -> byS x.M k = 63 -> C.word (q + 1) = (⟨#[63]⟩ : ByteArray)
 last : x.free = true -> ∃ e',x.e = e' ++ [i - 1]
theorem TyI.null {x : Ty} (h : TyI C s i x) (hr : TyR x) (hw : Wd C i (⟨#[63]⟩ : ByteArray)) (hf : x.free = true) : TyI C s (i + 1) (x.mark 63):=by
 obtain ⟨b1,b2,b3⟩:=mark_bytes hr 63
 have b3 : byS (x.mark 63).M x.D.toNat = 63:=b3
 have hl:=h.le
 refine ⟨by omega,inc_wide h.inc (by omega),fun k q hk hb=>?_,fun hf2=>?_⟩
 ·have hk : x.e[k]? = some q:=hk
  have hkl:=(List.getElem?_eq_some_iff.1 hk).1
  rw [hr.ends] at hkl
  by_cases hd : k < x.D.toNat
  ·rw [b2 k hd] at hb;exact h.mark k q hk hb
  ·obtain ⟨e',he⟩:=h.last hf
   have hel : e'.length = x.D.toNat:=by have:=hr.ends;rw [he,List.length_append] at this;simpa using this
   rw [he,show k = e'.length by omega,List.getElem?_append_right (Nat.le_refl _),Nat.sub_self] at hk
   have hq : q = i - 1:=(Option.some.inj hk).symm
   rw [hq,show i - 1 + 1 = i by omega];exact hw.word
 ·have:=(free_facts hf2).1
  have hD : byS (x.mark 63).M x.D.toNat = 32:=this
  rw [b3] at hD;cases hD
theorem TyI.arr {x : Ty} (h : TyI C s i x) (hr : TyR x) : TyI C s (i + 2) (x.arr (i + 1)):=by
 have hl:=h.le
 refine ⟨by omega,inc_snoc h.inc (by omega) (by omega) (by omega),fun k q hk hb=>?_,fun _=>⟨x.e,rfl⟩⟩
 have hk : (x.e ++ [i + 1])[k]? = some q:=hk
 have hb : byS (x.M ++ ⟨#[32]⟩) k = 63:=hb
 have hM:=hr.size
 have hE:=hr.ends
 by_cases hd : k < x.D.toNat + 1
 ·rw [List.getElem?_append_left (by omega)] at hk
  rw [byS_app,if_pos (by omega)] at hb
  exact h.mark k q hk hb
 ·have hkl:=(List.getElem?_eq_some_iff.1 hk).1
  rw [List.length_append,hE] at hkl
  have hkl : k < x.D.toNat + 1 + 1:=hkl
  rw [byS_app,if_neg (by omega),show k - x.M.size = 0 by omega] at hb
  exact absurd hb (by decide)
theorem tyl_std {y z : Ty} (h : TyL C i j y z) (hy : TyR y) (ho : NoO y) (hb : y.B ≠ 6) (hi : TyI C s i y) : TyI C s j z:=by
 induction h with
 | fin=>exact hi
 | null hw hf _ ih=>exact ih (hy.mark hf (.inl rfl)) (.inr (mark_bytes hy 63).2.2) hb (hi.null hy hw hf)
 | arr hw h1 hd _ ih =>
  obtain ⟨q1,q2⟩:=hy.arr ho hd hb _
  exact ih q1 q2 hb (hi.arr hy)
theorem base_std (b : Nat) (x : ByteArray) (i : Nat) : TyI C i (i + 1) (baseT b x i):=by
 refine ⟨by omega,⟨Nat.le_refl _,by omega,trivial⟩,fun k q hk hb=>?_,fun _=>⟨[],rfl⟩⟩
 have hk : [i][k]? = some q:=hk
 have hkl:=(List.getElem?_eq_some_iff.1 hk).1
 have hb : byS (⟨#[32]⟩ : ByteArray) k = 63:=hb
 rw [show k = 0 by simp at hkl;omega] at hb
 exact absurd hb (by decide)
theorem inner_std (hS : Sz C) (h : Inner C i j y) : Std C i j y:=by
 have hr:=(inner_right hS h).1
 obtain ⟨z,h1,rfl⟩:=h.rest
 have hk:=kindT_in (C.word i)
 obtain ⟨b1,b2⟩:=base_right (C:=C) (x:=C.word i) (i:=i) hS (b:=kindT (C.word i)) (by omega) h.name
 have q:=tyl_std h1 b1 b2 (by show (kindT (C.word i) : Int) ≠ 6;omega) (base_std _ _ _)
 exact ⟨rfl,rfl,q.le,q.inc,hr.ends,q.mark⟩
theorem typed_std (hS : Sz C) (h : Typed C i j y) : Std C i j y:=by
 have hr:=typed_right hS h
 cases h with
 | inner hw h=>exact inner_std hS h
 | @option j t hw h1 h h2 hf =>
  have q:=inner_std hS h
  have q1:=(inner_right hS h).1
  have q2:=q.lt
  obtain ⟨b1,b2,b3⟩:=mark_bytes q1 111
  have b3 : byS (t.mark 111).M t.D.toNat = 111:=b3
  refine ⟨rfl,rfl,by omega,inc_wide (inc_left q.inc (by omega)) (by omega),hr.ends,fun k p hk hb=>?_⟩
  have hk : t.e[k]? = some p:=hk
  have hb : byS (t.mark 111).M k = 63:=hb
  have hkl:=(List.getElem?_eq_some_iff.1 hk).1
  rw [q.len] at hkl
  by_cases hd : k < t.D.toNat
  ·rw [b2 k hd] at hb;exact q.mark k p hk hb
  ·rw [show k = t.D.toNat by omega,b3] at hb;cases hb
theorem answer_std (hS : Sz C) (h : Answer C i j y) : Std C i j y:=by
 have hr:=answer_right hS h
 cases h with
 | void hw=>have q:=base_std (C:=C) 6 (C.word i) i;exact ⟨rfl,rfl,q.le,q.inc,hr.ends,q.mark⟩
 | typed hw h=>exact typed_std hS h
theorem lie_le : ∀ {u : Fo} {i j : Nat},u.Lie C i j -> i <= j
 | .nil,_,_,h=>h
 | .cons a k r,i,j,h=>by have:=lie_le h.2.2;have:=h.1.1;have:=h.1.2.1;omega
theorem lie_left (h : u.Lie C i j) (hq : q <= i) : u.Lie C q j:=by
 cases u with
 | nil=>exact Nat.le_trans hq h
 | cons a k r=>exact ⟨⟨Nat.le_trans hq h.1.1,h.1.2⟩,h.2⟩
theorem lie_right : ∀ {u : Fo} {i : Nat},u.Lie C i j -> j <= q -> u.Lie C i q
 | .nil,_,h,hq=>Nat.le_trans h hq
 | .cons a k r,i,h,hq=>⟨h.1,h.2.1,lie_right h.2.2 hq⟩
theorem lie_in (h : u.Lie C m n) (h1 : i <= m) (h2 : n <= j) : u.Lie C i j:=lie_right (lie_left h h1) h2
theorem lie_app : ∀ {u : Fo} {i : Nat},u.Lie C i k -> v.Lie C m j -> k <= m -> (u.app v).Lie C i j
 | .nil,i,h,hv,hk=>lie_left hv (Nat.le_trans h hk)
 | .cons a t r,i,h,hv,hk=>⟨h.1,h.2.1,lie_app h.2.2 hv hk⟩
theorem lie_raw (a : An) (hn : ∀ t,a.ty = some t -> ∃ m n,a.i <= m /\ n <= a.j /\ Std C m n t) (h1 : i <= a.i) (h2 : a.i < a.j) (h3 : a.j <= j) (hk : t.Lie C a.i a.j) : (one a t).Lie C i j:=⟨⟨h1,h2,hn⟩,hk,h3⟩
theorem lie_an (K : Int) (x : ByteArray) (h1 : i <= p) (h2 : p < q) (h3 : q <= j) (hk : t.Lie C p q) : (one (an K x p q) t).Lie C i j:=lie_raw _ (fun t e=>by cases e) h1 h2 h3 hk
theorem lie_ant (K : Int) (x : ByteArray) (hy : Std C m n y) (hm : p <= m) (hn : n <= q) (h1 : i <= p) (h2 : p < q) (h3 : q <= j) (hk : t.Lie C p q) : (one (ant K x y p q) t).Lie C i j :=
 lie_raw _ (fun t e=>by obtain rfl : y = t:=Option.some.inj e;exact ⟨m,n,hm,hn,hy⟩) h1 h2 h3 hk
theorem lie_nil (h : i <= j) : Fo.nil.Lie C i j:=h
abbrev LieF (C : PC) (g : Fn) (i j : Nat) (u : Fo) : Prop :=
 match g with
 | .joinL _ f t=>f < i -> t.Lie C f i -> u.Lie C f j
 | .askL f t=>f < i -> t.Lie C f i -> u.Lie C f j
 | _=>u.Lie C i j
theorem dv_lie (hS : Sz C) (h : Dv C g e i j u) : LieF C g i j u:=by
 induction h with
 | @value d0 i j t h ih =>
  have q_h:=(dv_in h).1
  exact ih
 | @up d0 i j t h ih =>
  have q_h:=(dv_in h).1
  exact ih
 | @joined c d0 i k j t u hc h g ih1 ih2 =>
  have q_h:=(dv_in h).1
  have q_g:=(dv_in g).1
  exact ih2 q_h ih1
 | @joinE c f d0 i t =>
  intro hf ht
  exact ht
 | @joinB c f d0 i k j t u v x hw hb hx h g ih1 ih2 =>
  have q_h:=(dv_in h).1
  have q_g:=(dv_in g).1
  intro hf ht
  exact ih2 (by omega) (lie_an _ _ (by omega) (by omega) (by omega) (lie_app ht ih1 (by omega)))
 | @joinS f d0 i j t v hw h1 g ih =>
  have q_g:=(dv_in g).1
  intro hf ht
  exact ih (by omega) (lie_an _ _ (by omega) (by omega) (by omega) (lie_in ht (by omega) (by omega)))
 | @joinN f d0 i j t v hw h1 g ih =>
  have q_g:=(dv_in g).1
  intro hf ht
  exact ih (by omega) (lie_an _ _ (by omega) (by omega) (by omega) (lie_in ht (by omega) (by omega)))
 | @neg d0 i j t hw h ih =>
  have q_h:=(dv_in h).1
  exact lie_an _ _ (by omega) (by omega) (by omega) (lie_in ih (by omega) (by omega))
 | @not d0 i j t hw h ih =>
  have q_h:=(dv_in h).1
  exact lie_an _ _ (by omega) (by omega) (by omega) (lie_in ih (by omega) (by omega))
 | @asked d0 i j t h1 h2 h ih =>
  have q_h:=(dv_in h).1
  exact ih
 | @ask d0 i k j t u h g ih1 ih2 =>
  have q_h:=(dv_in h).1
  have q_g:=(dv_in g).1
  exact ih2 q_h ih1
 | @askE f d0 i t =>
  intro hf ht
  exact ht
 | @guard f d0 i j t v hw g ih =>
  have q_g:=(dv_in g).1
  intro hf ht
  exact ih (by omega) (lie_an _ _ (by omega) (by omega) (by omega) (lie_in ht (by omega) (by omega)))
 | @index f d0 i k j t u v hw h h1 g ih1 ih2 =>
  have q_h:=(dv_in h).1
  have q_g:=(dv_in g).1
  intro hf ht
  exact ih2 (by omega) (lie_an _ _ (by omega) (by omega) (by omega) (lie_in (lie_app ht ih1 (by omega)) (by omega) (by omega)))
 | @length f d0 i j t v hw h1 g ih =>
  have q_g:=(dv_in g).1
  intro hf ht
  exact ih (by omega) (lie_an _ _ (by omega) (by omega) (by omega) (lie_in ht (by omega) (by omega)))
 | @val f d0 i j t v hw h1 g ih =>
  have q_g:=(dv_in g).1
  intro hf ht
  exact ih (by omega) (lie_an _ _ (by omega) (by omega) (by omega) (lie_in ht (by omega) (by omega)))
 | @get f d0 i j t v x hw h1 hl hv hn g ih =>
  have q_g:=(dv_in g).1
  intro hf ht
  exact ih (by omega) (lie_an _ _ (by omega) (by omega) (by omega) (lie_in ht (by omega) (by omega)))
 | @call f d0 i k j t u v x hw h1 hl hv hn h g ih1 ih2 =>
  have q_h:=(dv_in h).1
  have q_g:=(dv_in g).1
  intro hf ht
  exact ih2 (by omega) (lie_an _ _ (by omega) (by omega) (by omega) (lie_in (lie_app ht ih1 (by omega)) (by omega) (by omega)))
 | @args0 d0 i hw h1 =>
  exact lie_nil (by omega)
 | @args d0 i k j t u hw h0 h g h1 ih1 ih2 =>
  have q_h:=(dv_in h).1
  have q_g:=(dv_in g).1
  exact lie_in (lie_app ih1 ih2 (by omega)) (by omega) (by omega)
 | @manyE n d0 i =>
  exact lie_nil (by omega)
 | @many n d0 i k j t u hw hn h g ih1 ih2 =>
  have q_h:=(dv_in h).1
  have q_g:=(dv_in g).1
  exact lie_in (lie_app ih1 ih2 (by omega)) (by omega) (by omega)
 | @lit d0 i hk hi h0 =>
  exact lie_raw _ (fun t e=>by cases e) (Nat.le_refl _) (Nat.lt_succ_self _) (Nat.le_refl _) (lie_nil (Nat.le_succ _))
 | @paren d0 i j t hk hw h h1 ih =>
  have q_h:=(dv_in h).1
  exact lie_in ih (by omega) (by omega)
 | @const d0 i x hk hw hx =>
  exact lie_raw _ (fun t e=>by cases e) (Nat.le_refl _) (Nat.lt_succ_self _) (Nat.le_refl _) (lie_nil (Nat.le_succ _))
 | @wrap d0 i j t x hk hw hx h1 h h2 ih =>
  have q_h:=(dv_in h).1
  exact lie_an _ _ (by omega) (by omega) (by omega) (lie_in ih (by omega) (by omega))
 | @input d0 i hk hw h1 h2 =>
  exact lie_an _ _ (by omega) (by omega) (by omega) (lie_nil (by omega))
 | @cast d0 i k j y t hk hw h1 ht h2 h3 h h4 ih =>
  have q_h:=(dv_in h).1
  have q_t:=typed_in ht
  exact lie_ant _ _ (typed_std hS ht) (by omega) (by omega) (by omega) (by omega) (by omega) (lie_in ih (by omega) (by omega))
 | @newA d0 i k j y t hk hw ht h1 h0 h h2 ih =>
  have q_h:=(dv_in h).1
  have q_t:=inner_in ht
  exact lie_ant _ _ (inner_std hS ht) (by omega) (by omega) (by omega) (by omega) (by omega) (lie_in ih (by omega) (by omega))
 | @newO d0 i k j y t hk hw ht ha h ih =>
  have q_h:=(dv_in h).1
  have q_t:=inner_in ht
  exact lie_ant _ _ (inner_std hS ht) (by omega) (by omega) (by omega) (by omega) (by omega) (lie_in ih (by omega) (by omega))
 | @var d0 i x hk hw hx hn =>
  exact lie_an _ _ (by omega) (by omega) (by omega) (lie_nil (by omega))
 | @block d0 i j t hw h h1 ih =>
  have q_h:=(dv_in h).1
  exact lie_an _ _ (by omega) (by omega) (by omega) (lie_in ih (by omega) (by omega))
 | @statsE d0 i =>
  exact lie_nil (by omega)
 | @stats d0 i k j t u hw h g ih1 ih2 =>
  have q_h:=(dv_in h).1
  have q_g:=(dv_in g).1
  exact lie_app ih1 ih2 (by omega)
 | @sBlock d0 i j t hw h ih =>
  have q_h:=(dv_in h).1
  exact ih
 | @sIf d0 i k j t u hw h1 h h2 g ih1 ih2 =>
  have q_h:=(dv_in h).1
  have q_g:=(dv_in g).1
  exact lie_an _ _ (by omega) (by omega) (by omega) (lie_in (lie_app ih1 ih2 (by omega)) (by omega) (by omega))
 | @sElse d0 i k m j t u v hw h1 h h2 g h3 e ih1 ih2 ih3 =>
  have q_h:=(dv_in h).1
  have q_g:=(dv_in g).1
  have q_e:=(dv_in e).1
  exact lie_an _ _ (by omega) (by omega) (by omega) (lie_in (lie_app ih1 (lie_app ih2 ih3 (by omega)) (by omega)) (by omega) (by omega))
 | @sWhile d0 i k j t u hw h1 h h2 g ih1 ih2 =>
  have q_h:=(dv_in h).1
  have q_g:=(dv_in g).1
  exact lie_an _ _ (by omega) (by omega) (by omega) (lie_in (lie_app ih1 ih2 (by omega)) (by omega) (by omega))
 | @sBreak d0 i hw h1 =>
  exact lie_an _ _ (by omega) (by omega) (by omega) (lie_nil (by omega))
 | @sCont d0 i hw h1 =>
  exact lie_an _ _ (by omega) (by omega) (by omega) (lie_nil (by omega))
 | @sRet0 d0 i hw h1 =>
  exact lie_an _ _ (by omega) (by omega) (by omega) (lie_nil (by omega))
 | @sRet d0 i j t hw h0 h h1 ih =>
  have q_h:=(dv_in h).1
  exact lie_an _ _ (by omega) (by omega) (by omega) (lie_in ih (by omega) (by omega))
 | @sPrint d0 i j t hw h1 h h2 h3 ih =>
  have q_h:=(dv_in h).1
  exact lie_an _ _ (by omega) (by omega) (by omega) (lie_in ih (by omega) (by omega))
 | @sSuper d0 i j t hw h h1 ih =>
  have q_h:=(dv_in h).1
  exact lie_an _ _ (by omega) (by omega) (by omega) (lie_in ih (by omega) (by omega))
 | @sDecl0 d0 i k y x hp hd ht h1 hn h2 =>
  have q_t:=typed_in ht
  exact lie_ant _ _ (typed_std hS ht) (by omega) (by omega) (by omega) (by omega) (by omega) (lie_nil (by omega))
 | @sDecl d0 i k j y x t hp hd ht h1 hn h2 h h3 ih =>
  have q_h:=(dv_in h).1
  have q_t:=typed_in ht
  exact lie_ant _ _ (typed_std hS ht) (by omega) (by omega) (by omega) (by omega) (by omega) (lie_in ih (by omega) (by omega))
 | @sSet d0 i k j t u hp hd h hk h1 g h2 ih1 ih2 =>
  have q_h:=(dv_in h).1
  have q_g:=(dv_in g).1
  exact lie_an _ _ (by omega) (by omega) (by omega) (lie_in (lie_app ih1 ih2 (by omega)) (by omega) (by omega))
 | @sExpr d0 i j t hp hd h hk h1 ih =>
  have q_h:=(dv_in h).1
  exact lie_an _ _ (by omega) (by omega) (by omega) (lie_in ih (by omega) (by omega))
theorem param_lie (hS : Sz C) (h : Param C i j u) : u.Lie C i j:=by
 obtain ⟨k,y,x,ht,h1,hn,rfl,rfl⟩:=h.is
 have q_t:=typed_in ht
 exact lie_ant _ _ (typed_std hS ht) (by omega) (by omega) (by omega) (by omega) (by omega) (lie_nil (by omega))
theorem paramL_lie (hS : Sz C) (h : ParamL C n i j u) : u.Lie C i j:=by
 induction h with
 | fin=>exact lie_nil (by omega)
 | more hw hn h g ih=>have:=(paramL_in g).1;exact lie_in (lie_app (param_lie hS h) ih (by omega)) (by omega) (by omega)
theorem params_lie (hS : Sz C) (h : Params C i j u) : u.Lie C i j:=by
 cases h with
 | none hw h1=>exact lie_nil (by omega)
 | some hw h0 h g h1=>exact lie_in (lie_app (param_lie hS h) (paramL_lie hS g) (by omega)) (by omega) (by omega)
theorem member_lie (hS : Sz C) (h : Member C i j u) : u.Lie C i j:=by
 cases h with
 | init hw hp hb =>
  have q1:=params_in hp
  have q2:=(dv_in hb).1
  have q3 : Fo.Lie C _ _ _:=dv_lie hS hb
  exact lie_an _ _ (by omega) (by omega) (by omega) (lie_in (lie_app (params_lie hS hp) q3 (by omega)) (by omega) (by omega))
 | method hw ha h1 hn hp hb =>
  have q0:=answer_in ha
  have q1:=params_in hp
  have q2:=(dv_in hb).1
  have q3 : Fo.Lie C _ _ _:=dv_lie hS hb
  exact lie_ant _ _ (answer_std hS ha) (by omega) (by omega) (by omega) (by omega) (by omega) (lie_in (lie_app (params_lie hS hp) q3 (by omega)) (by omega) (by omega))
 | field hw ha h1 hn hv h2 =>
  have q0:=answer_in ha
  exact lie_ant _ _ (answer_std hS ha) (by omega) (by omega) (by omega) (by omega) (by omega) (lie_nil (by omega))
theorem members_lie (hS : Sz C) (h : Members C n i j u) : u.Lie C i j:=by
 induction h with
 | fin=>exact lie_nil (by omega)
 | more hw hn h g ih=>exact lie_app (member_lie hS h) ih (by omega)
theorem class_lie (hS : Sz C) (h : Class C i j u) : u.Lie C i j:=by
 cases h with
 | base hw h1 hn h2 h h3 =>
  have q:=lie_le (members_lie hS h)
  exact lie_an _ _ (by omega) (by omega) (by omega) (lie_in (members_lie hS h) (by omega) (by omega))
 | ext hw h1 hn h2 h3 hm h4 h h5 =>
  have q:=lie_le (members_lie hS h)
  exact lie_an _ _ (by omega) (by omega) (by omega) (lie_in (lie_app (lie_an (C:=C) _ _ (Nat.le_refl _) (by omega) (Nat.le_refl _) (lie_nil (by omega))) (members_lie hS h) (by omega)) (by omega) (by omega))
theorem classes_lie (hS : Sz C) (h : Classes C n i j u) : u.Lie C i j:=by
 induction h with
 | fin=>exact lie_nil (by omega)
 | more hk hn h g ih=>exact lie_app (class_lie hS h) ih (by omega)
end
end Go.Proofs.YtcllbfijhgiclaaGreatDoor.G
namespace Go.Proofs.YtcllbfijhgiclaaGreatDoor.G
section
variable {C E : PC} {d i j k n : Nat} {x : ByteArray} {u w : Fo}
theorem take_all (i : Nat) : ∀ (l : List Nat) (U : List Nat),(∀ k ∈ l,k < i /\ k ∉ U) -> l.Nodup -> takeE i (l.map Int.ofNat) U = (0,l.reverse ++ U)
 | [],U,_,_=>rfl
 | k :: l,U,h,hn=>by
  obtain ⟨h1,h2⟩:=h k List.mem_cons_self
  obtain ⟨n1,n2⟩:=List.nodup_cons.1 hn
  show (if (Int.ofNat k) < 0 \/ (i : Int) <= Int.ofNat k then _ else if (Int.ofNat k).toNat ∈ U then _ else takeE i (l.map Int.ofNat) ((Int.ofNat k).toNat :: U)) = _
  rw [if_neg (by simp;omega),if_neg (by simpa using h2),take_all i l _ (fun q hq=>⟨(h q (List.mem_cons_of_mem _ hq)).1,fun e=>by
   rcases List.mem_cons.1 e with e | e
   ·have e : q = k:=by simpa using e
    subst e;exact n1 hq
   ·exact (h q (List.mem_cons_of_mem _ hq)).2 e⟩) n2]
  simp
theorem idx_in (f : Fo) : ∀ b,∀ k ∈ f.idx b,b <= k /\ k < b + f.size:=by
 induction f with
 | nil=>intro b k h;cases h
 | cons a K r _ ih =>
  intro b k h
  have h : k ∈ (b + K.size) :: r.idx (b + K.size + 1):=h
  show b <= k /\ k < b + (K.size + 1 + r.size)
  rcases List.mem_cons.1 h with rfl | h
  ·omega
  ·have:=ih _ _ h;omega
theorem idx_nodup (f : Fo) : ∀ b,(f.idx b).Nodup:=by
 induction f with
 | nil=>intro b;exact List.nodup_nil
 | cons a K r _ ih =>
  intro b
  show ((b + K.size) :: r.idx (b + K.size + 1)).Nodup
  refine List.nodup_cons.2 ⟨fun h=>?_,ih _⟩
  have:=idx_in r _ _ h;omega
theorem check_app : ∀ (l m : List Nd) (i : Nat) (U : List Nat),(checkL l i U).1 = 0 -> checkL (l ++ m) i U = checkL m (i + l.length) (checkL l i U).2
 | [],m,i,U,_=>rfl
 | x :: l,m,i,U,h=>by
  have h : (if shapedE x ≠ 0 then (shapedE x,U) else if (takeE i x.kids U).1 ≠ 0 then takeE i x.kids U else checkL l (i + 1) (takeE i x.kids U).2).1 = 0:=h
  show (if shapedE x ≠ 0 then (shapedE x,U) else if (takeE i x.kids U).1 ≠ 0 then takeE i x.kids U else checkL (l ++ m) (i + 1) (takeE i x.kids U).2) = checkL m (i + (l.length + 1)) (if shapedE x ≠ 0 then (shapedE x,U) else if (takeE i x.kids U).1 ≠ 0 then takeE i x.kids U else checkL l (i + 1) (takeE i x.kids U).2).2
  by_cases h1 : shapedE x ≠ 0
  ·rw [if_pos h1] at h;exact absurd h h1
  ·rw [if_neg h1] at h ⊢
   rw [if_neg h1]
   by_cases h2 : (takeE i x.kids U).1 ≠ 0
   ·rw [if_pos h2] at h;exact absurd h h2
   ·rw [if_neg h2] at h ⊢
    rw [if_neg h2,check_app l m _ _ h,show i + 1 + l.length = i + (l.length + 1) by omega]
theorem nd_kids (a : An) (l : List Nat) : (a.nd C l).kids = l.map Int.ofNat:=by unfold An.nd;split <;> rfl
theorem post_check (f : Fo) : ∀ (b : Nat) (U : List Nat),Ok f -> (∀ j ∈ U,j < b) -> (checkL (f.post C b) b U).1 = 0 /\ ∀ j,j ∈ (checkL (f.post C b) b U).2 ↔ (j ∈ U \/ (b <= j /\ j < b + f.size /\ j ∉ f.idx b)):=by
 induction f with
 | nil=>intro b U _ _;exact ⟨rfl,fun j=>⟨.inl,fun h=>h.elim id fun h=>by have h2 : j < b + 0:=h.2.1;omega⟩⟩
 | cons a K r ihk ihr =>
  intro b U ho hU
  obtain ⟨o1,o2,o3⟩:=ho
  obtain ⟨k1,k2⟩:=ihk b U o2 hU
  have hl:=Fo.post_len C K b
  show (checkL (K.post C b ++ (a.nd C (K.idx b) :: r.post C (b + K.size + 1))) b U).1 = 0 /\ ∀ j,j ∈ (checkL (K.post C b ++ (a.nd C (K.idx b) :: r.post C (b + K.size + 1))) b U).2 ↔ _
  rw [check_app _ _ _ _ k1,hl]
  generalize (checkL (K.post C b) b U).2 = U1 at *
  have hs : shapedE (a.nd C (K.idx b)) = 0:=o1.shaped (Fo.idx_len K b)
  have ht:=take_all (b + K.size) (K.idx b) U1 (fun k hk=>by
   have q:=idx_in K b k hk
   refine ⟨by omega,fun e=>?_⟩
   rcases (k2 k).1 e with e | e
   ·have:=hU k e;omega
   ·exact e.2.2 hk) (idx_nodup K b)
  have e1 : ∀ m,checkL (a.nd C (K.idx b) :: m) (b + K.size) U1 = checkL m (b + K.size + 1) ((K.idx b).reverse ++ U1):=fun m=>by
   show (if shapedE (a.nd C (K.idx b)) ≠ 0 then _ else if (takeE (b + K.size) (a.nd C (K.idx b)).kids U1).1 ≠ 0 then _ else checkL m _ (takeE (b + K.size) (a.nd C (K.idx b)).kids U1).2) = _
   rw [nd_kids,ht,if_neg (by rw [hs];decide),if_neg (fun e=>e rfl)]
  rw [e1]
  have hU2 : ∀ j,j ∈ (K.idx b).reverse ++ U1 ↔ (j ∈ U \/ (b <= j /\ j < b + K.size)):=fun j=>by
   rw [List.mem_append,List.mem_reverse,k2]
   constructor
   ·rintro (h | h | h)
    ·exact .inr (idx_in K b j h)
    ·exact .inl h
    ·exact .inr ⟨h.1,h.2.1⟩
   ·rintro (h | h)
    ·exact .inr (.inl h)
    ·by_cases hj : j ∈ K.idx b
     ·exact .inl hj
     ·exact .inr (.inr ⟨h.1,h.2,hj⟩)
  obtain ⟨r1,r2⟩:=ihr (b + K.size + 1) ((K.idx b).reverse ++ U1) o3 (fun j hj=>by
   rcases (hU2 j).1 hj with h | h
   ·have:=hU j h;omega
   ·omega)
  refine ⟨r1,fun j=>?_⟩
  rw [r2,hU2]
  show _ ↔ (j ∈ U \/ (b <= j /\ j < b + (K.size + 1 + r.size) /\ j ∉ (b + K.size) :: r.idx (b + K.size + 1)))
  rw [List.mem_cons]
  constructor
  ·rintro ((h | h) | h)
   ·exact .inl h
   ·refine .inr ⟨h.1,by omega,fun e=>?_⟩
    rcases e with e | e
    ·omega
    ·have:=idx_in r _ _ e;omega
   ·refine .inr ⟨by omega,by omega,fun e=>?_⟩
    rcases e with e | e
    ·omega
    ·exact h.2.2 e
  ·rintro (h | ⟨h1,h2,h3⟩)
   ·exact .inl (.inl h)
   ·by_cases hj : j < b + K.size
    ·exact .inl (.inr ⟨h1,hj⟩)
    ·refine .inr ⟨?_,by omega,fun e=>h3 (.inr e)⟩
     have : j ≠ b + K.size:=fun e=>h3 (.inl e)
     omega
theorem prog_facts (u : Fo) (j : Nat) : (progN C u j).kids = (u.idx 0).map Int.ofNat /\ (progN C u j).kind = 1 /\ shapedE (progN C u j) = 0:=by
 cases u with
 | nil=>exact ⟨rfl,rfl,by show shapedE (nd 1 ⟨#[]⟩ []) = 0;decide⟩
 | cons a K r =>
  refine ⟨nd_kids _ _,rfl,?_⟩
  exact (ok_an (i:=0) (j:=j) (k:=1) (x:=⟨#[]⟩) _ (fits_many 0 (by decide) (Nat.zero_le _)) (.inr rfl) (by decide) (by decide)).shaped rfl
theorem prog_check (hu : Ok u) (hs : u.size <= 16383) : checkE (u.post C 0 ++ [progN C u j]) (((u.post C 0 ++ [progN C u j]).length : Int) - 1) = 0:=by
 obtain ⟨p1,p2,p3⟩:=prog_facts (C:=C) u j
 obtain ⟨c1,c2⟩:=post_check (C:=C) u 0 [] hu (fun j h=>by cases h)
 have hl : (u.post C 0 ++ [progN C u j]).length = u.size + 1:=by rw [List.length_append,Fo.post_len];rfl
 have ht:=take_all u.size (u.idx 0) (checkL (u.post C 0) 0 []).2 (fun k hk=>by
  have q:=idx_in u 0 k hk
  refine ⟨by omega,fun e=>?_⟩
  rcases (c2 k).1 e with e | e
  ·cases e
  ·exact e.2.2 hk) (idx_nodup u 0)
 have e : checkL (u.post C 0 ++ [progN C u j]) 0 [] = (0,(u.idx 0).reverse ++ (checkL (u.post C 0) 0 []).2):=by
  rw [check_app _ _ _ _ c1,Fo.post_len,Nat.zero_add]
  show (if shapedE (progN C u j) ≠ 0 then _ else if (takeE u.size (progN C u j).kids _).1 ≠ 0 then _ else checkL [] _ (takeE u.size (progN C u j).kids _).2) = _
  rw [p1,ht,if_neg (by rw [p3];decide),if_neg (fun e=>e rfl)]
  rfl
 unfold checkE
 rw [hl,if_neg (by omega),if_neg,e,if_neg (fun e=>e rfl),if_pos]
 ·intro q hq
  have hq : q < u.size:=by omega
  show q ∈ (u.idx 0).reverse ++ _
  rw [List.mem_append,List.mem_reverse,c2]
  by_cases h : q ∈ u.idx 0
  ·exact .inl h
  ·exact .inr (.inr ⟨Nat.zero_le _,by omega,h⟩)
 ·rintro (h | h | h)
  ·omega
  ·exact h rfl
  ·rw [List.getLast?_append,List.getLast?_singleton] at h
   apply h
   show some (progN C u j).kind = some 1
   rw [p2]
structure NdB (n : Nat) (x : Nd) : Prop where
 num : -9223372036854775808 <= x.num /\ x.num <= 9223372036854775807
 text : x.text.size <= 260
 N : x.N.size <= 64
 M : x.M.size <= 5
 kids : x.kids.length <= n
 ends : x.ends.length <= 5
theorem an_b {a : An} {m : Nat} (h : AnOk a m) (l : List Nat) (hl : l.length <= n) : NdB n (a.nd C l):=by
 have h1:=h.num
 have h2:=h.text
 have h3:=h.type
 obtain ⟨k,tx,ty,num,i,j⟩:=a
 cases ty with
 | none=>exact ⟨h1,h2,by show (0 : Nat) <= _;omega,by show (0 : Nat) <= _;omega,by show (l.map Int.ofNat).length <= n;simpa using hl,by show (0 : Nat) <= _;omega⟩
 | some y =>
  have hy:=h3 y rfl
  have:=hy.size;have:=hy.dims;have:=hy.ends;have:=hy.small
  exact ⟨h1,h2,by show y.N.size <= _;omega,by show y.M.size <= _;omega,by show (l.map Int.ofNat).length <= n;simpa using hl,by show (y.e.map _).length <= 5;rw [List.length_map];omega⟩
theorem post_b (f : Fo) : ∀ b,Ok f -> f.size <= n -> ∀ x ∈ f.post C b,NdB n x:=by
 induction f with
 | nil=>intro b _ _ x hx;cases hx
 | cons a K r ih1 ih2 =>
  intro b ho hn x hx
  obtain ⟨o1,o2,o3⟩:=ho
  have hn : K.size + 1 + r.size <= n:=hn
  have hx : x ∈ K.post C b ++ (a.nd C (K.idx b) :: r.post C (b + K.size + 1)):=hx
  rcases List.mem_append.1 hx with hx | hx
  ·exact ih1 b o2 (by omega) x hx
  ·rcases List.mem_cons.1 hx with rfl | hx
   ·refine an_b o1 _ ?_
    rw [Fo.idx_len]
    have:=K.len_size;omega
   ·exact ih2 _ o3 (by omega) x hx
theorem prog_b (u : Fo) (j : Nat) (hn : u.size <= n) : NdB n (progN C u j):=by
 have h0 : (-9223372036854775808 : Int) <= 0 /\ (0 : Int) <= 9223372036854775807:=by omega
 have hl:=u.len_size
 have hi:=Fo.idx_len u 0
 cases u with
 | nil=>exact ⟨h0,by show (0 : Nat) <= _;omega,by show (0 : Nat) <= _;omega,by show (0 : Nat) <= _;omega,Nat.zero_le _,by show (0 : Nat) <= _;omega⟩
 | cons a K r=>exact ⟨h0,by show (0 : Nat) <= _;omega,by show (0 : Nat) <= _;omega,by show (0 : Nat) <= _;omega,by show (((Fo.cons a K r).idx 0).map Int.ofNat).length <= n;rw [List.length_map];omega,by show (0 : Nat) <= _;omega⟩
theorem parse_right {t : PS} (hS : Sz C) (h : parseP C = .ok () t) (hl : t.made.length <= 16384) : checkE t.made ((t.made.length : Int) - 1) = 0 /\ (∀ x ∈ t.made,NdB 16384 x) /\ ∃ u j,Classes C 0 0 j u /\ Ok u /\ t.made = u.post C 0 ++ [progN C u j]:=by
 obtain ⟨u,j,h1,h2,-⟩:=parse_inv h
 have hu:=classes_ok hS h1
 have hn : u.size <= 16383:=by
  rw [h2,List.length_append,Fo.post_len] at hl
  have hl : u.size + 1 <= 16384:=hl
  omega
 refine ⟨by rw [h2];exact prog_check hu hn,fun x hx=>?_,u,j,h1,hu,h2⟩
 rw [h2] at hx
 rcases List.mem_append.1 hx with hx | hx
 ·exact post_b u 0 hu (by omega) x hx
 ·rw [List.mem_singleton] at hx
  subst hx
  exact prog_b u j (by omega)
end
section
variable {l m : List Nd}
end
end Go.Proofs.YtcllbfijhgiclaaGreatDoor.G
namespace Go.Proofs.YtcllbfijhgiclaaGreatDoor.G
structure Pl (C : PC) (n : Nat) (Q : Nat -> Prop) : Prop where
 step : ∀ i,i + 1 < C.toks.length -> (C.tok i).2.1 < (C.tok i).2.2 /\ (C.tok i).2.2 <= (C.tok (i + 1)).2.1
 most : ∀ i,i < C.toks.length -> (C.tok i).2.2 <= n
 mark : ∀ i,i + 1 < C.toks.length -> C.word (i + 1) = (⟨#[63]⟩ : ByteArray) -> Q (C.tok i).2.2
def KidsIn (l : List Nd) (to_ : Int) : Int -> List Int -> Prop
 | _,[]=>True
 | at_,k :: r=>∃ z,0 <= k /\ l[k.toNat]? = some z /\ at_ <= z.sf /\ z.st <= to_ /\ KidsIn l to_ z.st r
def EndsIn (to_ : Int) : Int -> List Int -> Prop
 | _,[]=>True
 | at_,e :: r=>at_ < e /\ e <= to_ /\ EndsIn to_ e r
structure SpanOk (l : List Nd) (n : Nat) (Q : Nat -> Prop) (y : Nd) : Prop where
 from_ : 0 <= y.sf
 le : y.sf <= y.st
 to_ : y.st <= n
 kids : KidsIn l y.st y.sf y.kids
 ty : (y.B = 0 /\ y.N = ⟨#[]⟩ /\ y.D = 0 /\ y.M = ⟨#[]⟩ /\ y.ends = []) \/ (y.M.size = y.ends.length /\ y.ends.length = y.D.toNat + 1 /\ 0 <= y.D /\ y.sf <= y.wf /\ y.wt <= y.st /\ EndsIn y.wt y.wf y.ends /\ ∀ (k : Nat) (e : Int),y.ends[k]? = some e -> byS y.M k = 63 -> ∃ m : Nat,e = m /\ Q m)
section
variable {C : PC} {n i j k m : Nat} {Q : Nat -> Prop} {u : Fo} {y : Ty}
theorem Pl.order (h : Pl C n Q) : ∀ (d i : Nat),i + d + 1 < C.toks.length -> (C.tok i).2.2 <= (C.tok (i + d + 1)).2.1 /\ (C.tok i).2.1 <= (C.tok (i + d)).2.1
 | 0,i,hj=>⟨(h.step i hj).2,Nat.le_refl _⟩
 | d + 1,i,hj=>by
  obtain ⟨h1,h2⟩:=Pl.order h d i (by omega)
  obtain ⟨h3,h4⟩:=h.step (i + d + 1) (by omega)
  obtain ⟨h5,h6⟩:=h.step (i + d) (by omega)
  rw [show i + (d + 1) = i + d + 1 by omega]
  exact ⟨by omega,by omega⟩
theorem Pl.apart (h : Pl C n Q) (hij : i < j) (hj : j < C.toks.length) : (C.tok i).2.2 <= (C.tok j).2.1:=by
 have:=(h.order (j - i - 1) i (by omega)).1
 rwa [show i + (j - i - 1) + 1 = j by omega] at this
theorem Pl.mono (h : Pl C n Q) (hij : i <= j) (hj : j + 1 < C.toks.length) : (C.tok i).2.1 <= (C.tok j).2.1:=by
 have:=(h.order (j - i) i (by omega)).2
 rwa [show i + (j - i) = j by omega] at this
theorem Pl.ends (h : Pl C n Q) (hij : i <= j) (hj : j + 1 < C.toks.length) : (C.tok i).2.2 <= (C.tok j).2.2:=by
 rcases Nat.lt_or_ge i j with h1 | h1
 ·have h2:=h.apart h1 (by omega)
  have h3:=(h.step j hj).1
  omega
 ·rw [show i = j by omega];exact Nat.le_refl _
theorem Pl.wide (h : Pl C n Q) (hij : i <= j) (hj : j + 1 < C.toks.length) : (C.tok i).2.1 < (C.tok j).2.2:=by
 have h1:=h.mono hij hj
 have h2:=(h.step j hj).1
 omega
theorem lie_kids (h : Pl C n Q) (l : List Nd) (T : Int) : ∀ (u : Fo) (b i j : Nat) (at_ : Int),u.Lie C i j -> j < C.toks.length -> (∀ q,q < u.size -> l[b + q]? = (u.post C b)[q]?) -> (∀ m,i <= m -> m + 1 < C.toks.length -> at_ <= ((C.tok m).2.1 : Int)) -> (∀ m,i < m -> m <= j -> ((C.tok (m - 1)).2.2 : Int) <= T) -> KidsIn l T at_ ((u.idx b).map Int.ofNat)
 | .nil,_,_,_,_,_,_,_,_,_=>trivial
 | .cons a k r,b,i,j,at_,⟨⟨h1,h2,_⟩,hk,hr⟩,hj,hl,ha,hT=>by
  have hl : ∀ q,q < k.size + 1 + r.size -> l[b + q]? = (k.post C b ++ (a.nd C (k.idx b) :: r.post C (b + k.size + 1)))[q]?:=hl
  have lk:=Fo.post_len C k b
  have hle:=lie_le hr
  have e1 : l[b + k.size]? = some (a.nd C (k.idx b)):=by
   rw [hl _ (by omega),List.getElem?_append_right (by omega),lk,Nat.sub_self];rfl
  have e2 : (a.nd C (k.idx b)).sf = ((C.tok a.i).2.1 : Int):=by unfold An.nd;split <;> rfl
  have e3 : (a.nd C (k.idx b)).st = ((C.tok (a.j - 1)).2.2 : Int):=by unfold An.nd;split <;> rfl
  refine ⟨a.nd C (k.idx b),Int.natCast_nonneg _,e1,by rw [e2];exact ha _ h1 (by omega),by rw [e3];exact hT _ (by omega) hle,?_⟩
  rw [e3]
  refine lie_kids h l T r (b + k.size + 1) a.j j _ hr hj (fun q hq=>?_) (fun m hm hml=>?_) (fun m hm hmj=>hT m (by omega) hmj)
  ·rw [show b + k.size + 1 + q = b + (k.size + 1 + q) by omega,hl _ (by omega),List.getElem?_append_right (by omega),lk,show k.size + 1 + q - k.size = q + 1 by omega,List.getElem?_cons_succ]
  ·have:=h.apart (i:=a.j - 1) (j:=m) (by omega) (by omega)
   exact Int.ofNat_le.2 this
theorem ends_in (h : Pl C n Q) (T : Int) : ∀ (l : List Nat) (s z : Nat) (at_ : Int),Inc s l z -> z < C.toks.length -> (∀ q,s <= q -> q + 1 < C.toks.length -> at_ < ((C.tok q).2.2 : Int)) -> (∀ q,q < z -> ((C.tok q).2.2 : Int) <= T) -> EndsIn T at_ (l.map fun k=>((C.tok k).2.2 : Int))
 | [],_,_,_,_,_,_,_=>trivial
 | q :: r,s,z,at_,⟨h1,h2,h3⟩,hz,ha,hT=>by
  refine ⟨ha q h1 (by omega),hT q h2,ends_in h T r (q + 1) z _ h3 hz (fun p hp hpl=>?_) hT⟩
  have h4:=h.apart (i:=q) (j:=p) (by omega) (by omega)
  have h5:=(h.step p hpl).1
  exact Int.ofNat_lt.2 (by omega)
theorem lie_ok (h : Pl C n Q) (l : List Nd) : ∀ (u : Fo) (b i j : Nat),u.Lie C i j -> Ok u -> j < C.toks.length -> (∀ q,q < u.size -> l[b + q]? = (u.post C b)[q]?) -> ∀ y ∈ u.post C b,SpanOk l n Q y
 | .nil,_,_,_,_,_,_,_,y,hy=>by cases hy
 | .cons a k r,b,i,j,⟨⟨h1,h2,h3⟩,hk,hr⟩,ho,hj,hl,y,hy=>by
  have hl : ∀ q,q < k.size + 1 + r.size -> l[b + q]? = (k.post C b ++ (a.nd C (k.idx b) :: r.post C (b + k.size + 1)))[q]?:=hl
  have hy : y ∈ k.post C b ++ (a.nd C (k.idx b) :: r.post C (b + k.size + 1)):=hy
  obtain ⟨o1,o2,o3⟩:=ho
  have lk:=Fo.post_len C k b
  have hle:=lie_le hr
  have wk : ∀ q,q < k.size -> l[b + q]? = (k.post C b)[q]?:=fun q hq=>by rw [hl _ (by omega),List.getElem?_append_left (by omega)]
  rcases List.mem_append.1 hy with hy | hy
  ·exact lie_ok h l k b _ _ hk o2 (by omega) wk y hy
  ·rcases List.mem_cons.1 hy with rfl | hy
   ·have e2 : (a.nd C (k.idx b)).sf = ((C.tok a.i).2.1 : Int):=by unfold An.nd;split <;> rfl
    have e3 : (a.nd C (k.idx b)).st = ((C.tok (a.j - 1)).2.2 : Int):=by unfold An.nd;split <;> rfl
    have w1:=h.wide (i:=a.i) (j:=a.j - 1) (by omega) (by omega)
    have w2:=h.most (a.j - 1) (by omega)
    refine ⟨by rw [e2];exact Int.natCast_nonneg _,by rw [e2,e3];exact Int.ofNat_le.2 (by omega),by rw [e3];exact Int.ofNat_le.2 w2,?_,?_⟩
    ·rw [nd_kids,e2,e3]
     refine lie_kids h l _ k b a.i a.j _ hk (by omega) wk (fun m hm hml=>?_) (fun m hm hmj=>?_)
     ·exact Int.ofNat_le.2 (h.mono hm hml)
     ·exact Int.ofNat_le.2 (h.ends (by omega) (by omega))
    ·cases hty : a.ty with
     | none=>left;unfold An.nd;rw [hty];exact ⟨rfl,rfl,rfl,rfl,rfl⟩
     | some t =>
      right
      obtain ⟨m,m',q1,q2,S⟩:=h3 t hty
      have hr:=o1.type t hty
      have hlt:=S.lt
      have es : a.nd C (k.idx b) = ⟨a.kind,(C.tok a.i).2.1,(C.tok (a.j - 1)).2.2,(k.idx b).map Int.ofNat,a.text,t.B,t.N,t.D,t.M,a.num,(C.tok t.i).2.1,(C.tok (t.j - 1)).2.2,t.e.map fun k=>((C.tok k).2.2 : Int)⟩:=by unfold An.nd;rw [hty]
      rw [es,S.i_,S.j_]
      refine ⟨?_,?_,hr.dims.1,Int.ofNat_le.2 (h.mono q1 (by omega)),Int.ofNat_le.2 (h.ends (by omega) (by omega)),?_,?_⟩
      ·show t.M.size = (t.e.map _).length;rw [List.length_map,hr.size,hr.ends]
      ·show (t.e.map _).length = _;rw [List.length_map,hr.ends]
      ·refine ends_in h _ t.e m m' _ S.inc (by omega) (fun q hq hql=>?_) (fun q hq=>?_)
       ·exact Int.ofNat_lt.2 (h.wide hq hql)
       ·exact Int.ofNat_le.2 (h.ends (by omega) (by omega))
      ·intro p e he hb
       have he : (t.e.map fun k=>((C.tok k).2.2 : Int))[p]? = some e:=he
       rw [List.getElem?_map] at he
       cases hq : t.e[p]? with
       | none=>rw [hq] at he;cases he
       | some q =>
        rw [hq] at he
        obtain rfl : ((C.tok q).2.2 : Int) = e:=Option.some.inj he
        have hqm : q < m':=by
         have : ∀ (l : List Nat) (s z : Nat),Inc s l z -> ∀ x ∈ l,x < z:=by
          intro l
          induction l with
          | nil=>intro s z _ x hx;cases hx
          | cons c r ih =>
           intro s z hI x hx
           rcases List.mem_cons.1 hx with rfl | hx
           ·exact hI.2.1
           ·exact ih _ _ hI.2.2 x hx
         exact this _ _ _ S.inc q (List.mem_of_getElem? hq)
        exact ⟨_,rfl,h.mark q (by omega) (S.mark p q hq hb)⟩
   ·refine lie_ok h l r (b + k.size + 1) a.j j hr o3 hj (fun q hq=>?_) y hy
    rw [show b + k.size + 1 + q = b + (k.size + 1 + q) by omega,hl _ (by omega),List.getElem?_append_right (by omega),lk,show k.size + 1 + q - k.size = q + 1 by omega,List.getElem?_cons_succ]
theorem prog_spans (h : Pl C n Q) (hu : u.Lie C 0 j) (ho : Ok u) (hj : j < C.toks.length) : ∀ y ∈ u.post C 0 ++ [progN C u j],SpanOk (u.post C 0 ++ [progN C u j]) n Q y:=by
 intro y hy
 have hw : ∀ q,q < u.size -> (u.post C 0 ++ [progN C u j])[0 + q]? = (u.post C 0)[q]?:=fun q hq=>by
  rw [Nat.zero_add,List.getElem?_append_left (by rw [Fo.post_len];exact hq)]
 rcases List.mem_append.1 hy with hy | hy
 ·exact lie_ok h _ u 0 0 j hu ho hj hw y hy
 ·rw [List.mem_singleton] at hy
  subst hy
  cases u with
  | nil=>exact ⟨Int.le_refl _,Int.le_refl _,Int.natCast_nonneg _,trivial,.inl ⟨rfl,rfl,rfl,rfl,rfl⟩⟩
  | cons a k r =>
   have hlt : 0 < j:=by have:=hu.1.1;have:=hu.1.2.1;have:=lie_le hu.2.2;omega
   have w1:=h.wide (i:=0) (j:=j - 1) (by omega) (by omega)
   have w2:=h.most (j - 1) (by omega)
   refine ⟨Int.natCast_nonneg _,Int.ofNat_le.2 (by show (C.tok 0).2.1 <= (C.tok (j - 1)).2.2;omega),Int.ofNat_le.2 w2,?_,.inl ⟨rfl,rfl,rfl,rfl,rfl⟩⟩
   refine lie_kids h _ _ (.cons a k r) 0 0 j _ hu hj hw (fun m hm hml=>?_) (fun m hm hmj=>?_)
   ·exact Int.ofNat_le.2 (h.mono hm hml)
   ·have hmj : m <= j:=hmj
    have q : (C.tok (m - 1)).2.2 <= (C.tok (j - 1)).2.2:=h.ends (by omega) (by omega)
    exact Int.ofNat_le.2 q
end
end Go.Proofs.YtcllbfijhgiclaaGreatDoor.G
namespace Go.Proofs.YtcllbfijhgiclaaGreatDoor.G
open Go Go.RowKit
theorem wrap64_in (z : Int) : -9223372036854775808 <= wrap64 z /\ wrap64 z <= 9223372036854775807:=by unfold wrap64;omega
theorem long_most (k : Nat) : L.longG k <= 256:=by unfold L.longG;repeat (first | split | omega)
section
variable {x s u : ByteArray}
theorem tok_size (h : codeX x = 0) {l : List L.Tok} (hl : ∀ k (h : k < l.length),L.TokOk (L.byS x) x.size (L.atK l k) l[k]) (k : Nat) (hk : k < l.length) : l[k].2.2 - l[k].2.1 <= 256:=by
 obtain ⟨h1,h2,h3,h4,h5,h6,h7,h8,h9⟩:=hl k hk
 obtain ⟨e,-,-,f,-⟩:=L.token_facts (g:=L.byS x) (n:=x.size) (i:=l[k].2.1) (by omega) (by rw [h7])
 rw [h7] at e
 have er : L.reachG (L.byS x) x.size l[k].2.1 = (l[k].1,l[k].2.2):=(Prod.mk.inj e).2.symm
 rw [er] at f
 have:=long_most l[k].1
 simp only at f
 omega
theorem pc_sz (h : codeX x = 0) : Sz (pcOf x):=by
 obtain ⟨hs,l,hl,hn,hk⟩:=toks_of h
 refine ⟨fun i=>?_,fun y=>?_,fun y hy=>?_,fun y hy=>?_,fun y=>wrap64_in _⟩
 ·rw [pc_word,hl]
  by_cases h1 : i < l.length
  ·rw [List.getElem?_append_left h1,List.getElem?_eq_getElem h1]
   show (x.extract l[i].2.1 l[i].2.2).size <= 256
   rw [ByteArray.size_extract]
   have:=tok_size h hk i h1
   omega
  ·by_cases h2 : i = l.length
   ·subst h2
    rw [List.getElem?_append_right (Nat.le_refl _),Nat.sub_self]
    show (x.extract x.size x.size).size <= 256
    rw [ByteArray.size_extract];omega
   ·rw [List.getElem?_eq_none (by simp;omega)]
    show (0 : Nat) <= 256;omega
 ·show (L.strN (L.unqF y).2).size <= y.size
  rw [strN_size];exact unq_len y
 ·have : L.nameS y = true:=hy
  unfold L.nameS at this
  simp only [Bool.and_eq_true,decide_eq_true_eq] at this
  omega
 ·have hy : (L.intR y).2.toNat = 0:=hy
  show 0 <= (L.intR y).1 /\ (L.intR y).1 <= _
  unfold L.intR at hy ⊢
  split at hy
  ·split at hy
   ·rename_i h1 h2
    rw [if_pos h1,if_pos h2]
    show (0 : Int) <= ((L.valL y.data.toList : Nat) : Int) /\ ((L.valL y.data.toList : Nat) : Int) <= _
    omega
   ·simp at hy
  ·simp at hy
end
end Go.Proofs.YtcllbfijhgiclaaGreatDoor.G
namespace Go.Proofs.YtcllbfijhgiclaaGreatDoor.G
open Go
def Asked (g : Nat -> Nat) (n e : Nat) : Prop:=(∃ p,e <= p /\ p + 1 < n /\ g p = 47 /\ g (p + 1) = 47) \/ ∃ m,e <= m /\ m < n /\ g m = 63 /\ ∀ j,e <= j -> j < m -> L.blankB (g j) = true
section
variable {x : ByteArray} {g : Nat -> Nat} {n e m i j : Nat} {u : Fo}
theorem asked_of (he : e <= n) (hm : L.gapG g n e = m) (h : m < n) (hg : g m = 63) : Asked g n e:=by
 rw [L.gap_eq he] at hm
 split at hm
 ·rename_i hc
  obtain ⟨h1,h2,h3⟩:=L.comB_iff.1 hc
  exact .inl ⟨_,L.skip_ge L.blankB g he,h1,h2,h3⟩
 ·rw [<- hm] at h hg
  exact .inr ⟨_,L.skip_ge L.blankB g he,h,hg,L.skip_in he⟩
theorem tok_at {t : L.Tok} (h : (toksX x)[i]? = some t) : (pcOf x).tok i = t /\ (pcOf x).word i = wordX x t:=by
 refine ⟨?_,by rw [pc_word,h]⟩
 show (toksX x).getD i (0,0,0) = t
 rw [List.getD_eq_getElem?_getD,h];rfl
theorem byS_one (x : ByteArray) (f t : Nat) (h : x.extract f t = (⟨#[63]⟩ : ByteArray)) (hft : f < t) (ht : t <= x.size) : L.byS x f = 63:=by
 have h1 : L.byS (x.extract f t) 0 = L.byS x f:=by
  have:=L.byS_extract x f t 0 ht (by omega)
  rwa [Nat.add_zero] at this
 rw [<- h1,h];rfl
theorem pl_of (hx : codeX x = 0) : Pl (pcOf x) x.size (Asked (L.byS x) x.size):=by
 obtain ⟨hs,l,hl,hn,hok⟩:=toks_of hx
 have hlen : (pcOf x).toks.length = l.length + 1:=by show (toksX x).length = _;rw [hl];simp
 have at_ : ∀ k (hk : k < l.length),(toksX x)[k]? = some l[k]:=fun k hk=>by rw [hl,List.getElem?_append_left hk,List.getElem?_eq_getElem hk]
 have fin : (toksX x)[l.length]? = some (0,x.size,x.size):=by rw [hl,List.getElem?_append_right (Nat.le_refl _),Nat.sub_self];rfl
 refine ⟨fun i hi=>?_,fun i hi=>?_,fun i hi hw=>?_⟩
 ·have h1 : i < l.length:=by omega
  have k1:=hok i h1
  rw [(tok_at (at_ i h1)).1]
  refine ⟨k1.2.1,?_⟩
  by_cases h2 : i + 1 < l.length
  ·have k2:=hok (i + 1) h2
   rw [(tok_at (at_ (i + 1) h2)).1]
   have:=k2.1
   rwa [L.atK_succ l i h1] at this
  ·rw [show i + 1 = l.length by omega,(tok_at fin).1];exact k1.2.2.1
 ·by_cases h1 : i < l.length
  ·rw [(tok_at (at_ i h1)).1];exact (hok i h1).2.2.1
  ·rw [show i = l.length by omega,(tok_at fin).1];exact Nat.le_refl _
 ·have h1 : i < l.length:=by omega
  have k1:=hok i h1
  by_cases h2 : i + 1 < l.length
  ·have k2:=hok (i + 1) h2
   have hw:=hw
   rw [(tok_at (at_ (i + 1) h2)).2] at hw
   rw [(tok_at (at_ i h1)).1]
   have hb:=byS_one x _ _ hw k2.2.1 k2.2.2.1
   have hg:=k2.2.2.2.2.2.1
   rw [L.atK_succ l i h1] at hg
   exact asked_of k1.2.2.1 hg (Nat.lt_of_lt_of_le k2.2.1 k2.2.2.1) hb
  ·rw [show i + 1 = l.length by omega,(tok_at fin).2] at hw
   have : (wordX x (0,x.size,x.size)).size = 1:=by rw [hw];rfl
   rw [show wordX x (0,x.size,x.size) = x.extract x.size x.size from rfl,ByteArray.size_extract] at this
   omega
theorem read_spans (h : (parsedX x).2.1 = 0) : ∀ y ∈ (parsedX x).1,SpanOk (parsedX x).1 x.size (Asked (L.byS x) x.size) y:=by
 have hx : codeX x = 0:=by
  by_cases hc : codeX x = 0
  ·exact hc
  ·rw [parsed_lex hc] at h;exact h
 cases hp : parseP (pcOf x) with
 | bad c z=>rw [parsed_bad hx hp] at h;exact absurd h (parse_code hp)
 | out=>exact absurd hp (parse_ends (pc_cw hx))
 | ok t =>
  rename_i t'
  obtain ⟨u,j,hc,he,-⟩:=parse_inv hp
  obtain ⟨hs,l,hl,hn,hok⟩:=toks_of hx
  have hll : (pcOf x).toks.length = l.length + 1:=by show (toksX x).length = _;rw [hl];simp
  rw [parsed_ok hx hp,he]
  exact prog_spans (pl_of hx) (classes_lie (pc_sz hx) hc) (classes_ok (pc_sz hx) hc) ((classes_in hc).2.2 (by omega))
end
end Go.Proofs.YtcllbfijhgiclaaGreatDoor.G
namespace Go.Proofs.YtcllbfijhgiclaaGreatDoor.G
open Go
theorem contains_at (l : List UInt8) (p : Nat) (h : Lib.occAt l [47,47] p = true) (hp : p <= l.length) : Lib.contains l [47,47] = true:=by
 unfold Lib.contains
 rcases Lib.index_spec l [47,47] with ⟨_,h2⟩ | ⟨i,h1,_⟩
 ·rw [h2 p hp] at h;cases h
 ·rw [h1];simp
theorem occ_two (l : List UInt8) (p : Nat) (h1 : l[p]? = some 47) (h2 : l[p + 1]? = some 47) : Lib.occAt l [47,47] p = true:=by
 unfold Lib.occAt
 obtain ⟨q1,e1⟩:=List.getElem?_eq_some_iff.1 h1
 obtain ⟨q2,e2⟩:=List.getElem?_eq_some_iff.1 h2
 rw [List.drop_eq_getElem_cons q1,e1,List.drop_eq_getElem_cons q2,e2]
 simp [List.isPrefixOf]
theorem trim_at (l : List UInt8) (k : Nat) (h1 : ∀ j b,j < k -> l[j]? = some b -> ([32,9,13,10] : List UInt8).contains b = true) (h2 : l[k]? = some 63) : Lib.hasPrefix (Lib.trimLeftS l [32,9,13,10]) [63] = true:=by
 obtain ⟨q1,e1⟩:=List.getElem?_eq_some_iff.1 h2
 rw [Lib.trimLeftS_drop l _ k (by omega) h1 (fun b hb=>by rw [h2] at hb;cases hb;rfl),List.drop_eq_getElem_cons q1,e1]
 simp [Lib.hasPrefix,List.isPrefixOf]
theorem byte_at {s : ByteArray} {m i : Nat} (h : m + i < s.size) : ∃ b : UInt8,(s.extract m s.size).data.toList[i]? = some b /\ b.toNat = L.byS s (m + i):=by
 have hz : i < (s.extract m s.size).size:=by rw [ByteArray.size_extract];omega
 have e:=L.byS_extract s m s.size i (Nat.le_refl _) (by omega)
 rw [L.byS_get _ i hz] at e
 refine ⟨(s.extract m s.size)[i],?_,e⟩
 rw [List.getElem?_eq_getElem (by simpa using hz)];rfl
theorem byte_is {s : ByteArray} {m i v : Nat} (hv : v < 256) (h : m + i < s.size) (hb : L.byS s (m + i) = v) : (s.extract m s.size).data.toList[i]? = some (UInt8.ofNat v):=by
 obtain ⟨b,h1,h2⟩:=byte_at h
 rw [h1]
 congr 1
 apply UInt8.toNat_inj.1
 rw [h2,hb,UInt8.toNat_ofNat_of_lt' hv]
theorem asked_text {s : ByteArray} {m : Nat} (h : Asked (L.byS s) s.size m) : Lib.hasPrefix (Lib.trimLeftS (s.extract m s.size).data.toList [32,9,13,10]) [63] = true \/ Lib.contains (s.extract m s.size).data.toList [47,47] = true:=by
 rcases h with ⟨p,h1,h2,h3,h4⟩ | ⟨q,h1,h2,h3,h4⟩
 ·right
  have e1:=byte_is (s:=s) (m:=m) (i:=p - m) (v:=47) (by omega) (by omega) (by rw [show m + (p - m) = p by omega];exact h3)
  have e2:=byte_is (s:=s) (m:=m) (i:=p - m + 1) (v:=47) (by omega) (by omega) (by rw [show m + (p - m + 1) = p + 1 by omega];exact h4)
  refine contains_at _ (p - m) (occ_two _ _ e1 e2) ?_
  have:=(List.getElem?_eq_some_iff.1 e1).1
  omega
 ·left
  refine trim_at _ (q - m) (fun j b hj hb=>?_) (byte_is (s:=s) (m:=m) (i:=q - m) (v:=63) (by omega) (by omega) (by rw [show m + (q - m) = q by omega];exact h3))
  obtain ⟨c,e1,e2⟩:=byte_at (s:=s) (m:=m) (i:=j) (by omega)
  rw [hb] at e1
  obtain rfl : b = c:=Option.some.inj e1
  have hbl:=h4 (m + j) (by omega) (by omega)
  rw [<- e2] at hbl
  unfold L.blankB at hbl
  simp only [Bool.or_eq_true,decide_eq_true_eq] at hbl
  have hb4 : b = 32 \/ b = 9 \/ b = 10 \/ b = 13:=by
   rcases hbl with ((hbl | hbl) | hbl) | hbl
   ·exact .inl (UInt8.toNat_inj.1 hbl)
   ·exact .inr (.inl (UInt8.toNat_inj.1 hbl))
   ·exact .inr (.inr (.inl (UInt8.toNat_inj.1 hbl)))
   ·exact .inr (.inr (.inr (UInt8.toNat_inj.1 hbl)))
  rcases hb4 with rfl | rfl | rfl | rfl <;> rfl
theorem ba_nil (M : ByteArray) (h : M.toList = []) (h0 : 0 < M.size) : False:=by
 unfold ByteArray.toList ByteArray.toList.loop at h
 rw [if_pos h0] at h
 have key : ∀ (n i : Nat) (r : List UInt8),M.size - i = n -> r ≠ [] -> ByteArray.toList.loop M i r ≠ []:=by
  intro n
  induction n with
  | zero =>
   intro i r hn hr
   unfold ByteArray.toList.loop
   rw [if_neg (by omega)]
   simpa using hr
  | succ k ih =>
   intro i r hn hr
   unfold ByteArray.toList.loop
   rw [if_pos (by omega)]
   exact ih _ _ (by omega) (by simp)
 exact key _ _ _ rfl (by simp) h
end Go.Proofs.YtcllbfijhgiclaaGreatDoor.G
