/- ParseWhole -/
import Derived.Test.YtcllbfijhgiclaaGreatDoorWPaHc
set_option linter.unusedVariables false
set_option linter.unusedSimpArgs false
namespace Go.Proofs.YtcllbfijhgiclaaGreatDoor.G
def Ty.shift (t : Ty) (d : Nat) : Ty:={ t with i:=t.i + d,j:=t.j + d,e:=t.e.map (· + d) }
def An.shift (a : An) (d : Nat) : An:=⟨a.kind,a.text,a.ty.map (·.shift d),a.num,a.i + d,a.j + d⟩
def Fo.shift : Fo -> Nat -> Fo
 | .nil,_=>.nil
 | .cons a k r,d=>.cons (a.shift d) (k.shift d) (r.shift d)
def Fn.shift : Fn -> Nat -> Fn
 | .joinL c f t,d=>.joinL c (f + d) (t.shift d)
 | .askL f t,d=>.askL (f + d) (t.shift d)
 | g,_=>g
structure Win (C E : PC) (i j d : Nat) : Prop where
 word : ∀ k,i <= k -> k < j -> E.word (k + d) = C.word k
 kind : ∀ k,i <= k -> k < j -> (E.tok (k + d)).1 = (C.tok k).1
 in_ : j + d < E.toks.length
 name : E.name = C.name
 int : E.int = C.int
 flt : E.flt = C.flt
 unq : E.unq = C.unq
section
variable {C E : PC} {d e i j k n c f m q : Nat} {x : ByteArray} {t u w : Fo} {g : Fn} {y z : Ty}
theorem Fo.shift_app (f g : Fo) : (f.app g).shift d = (f.shift d).app (g.shift d):=by
 induction f with
 | nil=>rfl
 | cons a k r _ ih=>show Fo.cons _ _ ((r.app g).shift d) = Fo.cons _ _ ((r.shift d).app (g.shift d));rw [ih]
theorem shift_one (a : An) (k : Fo) : (one a k).shift d = one (a.shift d) (k.shift d):=rfl
theorem Fo.shift_kind (f : Fo) : (f.shift d).kind = f.kind:=by
 cases f with
 | nil=>rfl
 | cons a k r=>cases r <;> rfl
theorem Fo.shift_len (f : Fo) : (f.shift d).len = f.len:=by
 induction f with
 | nil=>rfl
 | cons a k r _ ih=>show (r.shift d).len + 1 = r.len + 1;rw [ih]
theorem Fo.shift_size (f : Fo) : (f.shift d).size = f.size:=by
 induction f with
 | nil=>rfl
 | cons a k r ih1 ih2=>show (k.shift d).size + 1 + (r.shift d).size = k.size + 1 + r.size;rw [ih1,ih2]
theorem Win.sub (h : Win C E i j d) (h1 : i <= k) (h2 : m <= j) : Win C E k m d:=⟨fun q q1 q2=>h.word q (by omega) (by omega),fun q q1 q2=>h.kind q (by omega) (by omega),by have:=h.in_;omega,h.name,h.int,h.flt,h.unq⟩
theorem Win.wd (h : Win C E i j d) (hw : Wd C k x) (h1 : i <= k) (h2 : k < j) : Wd E (k + d) x:=⟨by rw [h.word k h1 h2];exact hw.word,by have:=h.in_;omega⟩
theorem Win.wd1 (h : Win C E i j d) (hw : Wd C (k + 1) x) (h1 : i <= k + 1) (h2 : k + 1 < j) : Wd E (k + d + 1) x:=by
 have:=h.wd hw h1 h2
 rwa [show k + 1 + d = k + d + 1 by omega] at this
theorem Win.wd2 (h : Win C E i j d) (hw : Wd C (k + 2) x) (h1 : i <= k + 2) (h2 : k + 2 < j) : Wd E (k + d + 2) x:=by
 have:=h.wd hw h1 h2
 rwa [show k + 2 + d = k + d + 2 by omega] at this
theorem Win.nw1 (h : Win C E i j d) (hw : C.word (k + 1) ≠ x) (h1 : i <= k + 1) (h2 : k + 1 < j) : E.word (k + d + 1) ≠ x:=by
 rw [show k + d + 1 = k + 1 + d by omega,h.word _ h1 h2];exact hw
theorem Win.nw (h : Win C E i j d) (hw : C.word k ≠ x) (h1 : i <= k) (h2 : k < j) : E.word (k + d) ≠ x:=by rw [h.word _ h1 h2];exact hw
theorem Win.lit (h : Win C E i j d) (hk : litK (C.tok k).1) (h1 : i <= k) (h2 : k < j) : litK (E.tok (k + d)).1:=by rw [h.kind _ h1 h2];exact hk
theorem Win.nolit (h : Win C E i j d) (hk : ¬ litK (C.tok k).1) (h1 : i <= k) (h2 : k < j) : ¬ litK (E.tok (k + d)).1:=by rw [h.kind _ h1 h2];exact hk
theorem Win.lits (h : Win C E i j d) (h1 : i <= k) (h2 : k < j) : litN E (E.tok (k + d)).1 (E.word (k + d)) = litN C (C.tok k).1 (C.word k):=by
 rw [h.kind _ h1 h2,h.word _ h1 h2]
 unfold litN
 rw [h.int,h.flt,h.unq]
def decF (nm : ByteArray -> Bool) (a b c : ByteArray) : Bool :=
 decide (a = (⟨#[105,110,116]⟩ : ByteArray) \/ a = (⟨#[98,111,111,108]⟩ : ByteArray) \/ a = (⟨#[100,111,117,98,108,101]⟩ : ByteArray) \/ a = (⟨#[115,116,114]⟩ : ByteArray) \/ a = (⟨#[79,112,116,105,111,110]⟩ : ByteArray)) ||
 (nm a && (nm b || decide (b = (⟨#[63]⟩ : ByteArray)) || (decide (b = (⟨#[91]⟩ : ByteArray)) && decide (c = (⟨#[93]⟩ : ByteArray)))))
theorem dec_eq (C : PC) (k : Nat) : decAt C k = decF C.name (C.word k) (C.word (k + 1)) (C.word (k + 2)):=rfl
theorem Win.dec (h : Win C E i j d) (h1 : i <= k) (h2 : k + 1 < j) (h3 : C.word (k + 1) = (⟨#[91]⟩ : ByteArray) -> k + 2 < j) : decAt E (k + d) = decAt C k:=by
 have e0 : E.word (k + d) = C.word k:=h.word k h1 (by omega)
 have e1 : E.word (k + d + 1) = C.word (k + 1):=by rw [show k + d + 1 = k + 1 + d by omega];exact h.word _ (by omega) h2
 rw [dec_eq,dec_eq,e0,e1,h.name]
 by_cases hb : C.word (k + 1) = (⟨#[91]⟩ : ByteArray)
 ·have e2 : E.word (k + d + 2) = C.word (k + 2):=by rw [show k + d + 2 = k + 2 + d by omega];exact h.word _ (by omega) (h3 hb)
  rw [e2]
 ·unfold decF
  rw [decide_eq_false hb,Bool.false_and,Bool.false_and]
theorem tyl_shift (h : TyL C i j y z) : ∀ (E : PC) (d : Nat),Win C E i j d -> TyL E (i + d) (j + d) (y.shift d) (z.shift d):=by
 induction h with
 | fin=>intro E d hw;exact .fin
 | null hw hf h ih =>
  intro E d hW
  have:=(tyl_in h).1
  have h2:=ih E d (hW.sub (by omega) (Nat.le_refl _))
  rw [show ∀ a : Nat,a + 1 + d = a + d + 1 from fun a=>by omega] at h2
  exact .null (hW.wd hw (Nat.le_refl _) (by omega)) hf h2
 | @arr i j x y hw h1 hd h ih =>
  intro E d hW
  have:=(tyl_in h).1
  have h2:=ih E d (hW.sub (by omega) (Nat.le_refl _))
  rw [show i + 2 + d = i + d + 2 by omega] at h2
  refine .arr (hW.wd hw (Nat.le_refl _) (by omega)) (hW.wd1 h1 (by omega) (by omega)) hd ?_
  have e : (x.arr (i + 1)).shift d = (x.shift d).arr (i + d + 1):=by
   unfold Ty.arr Ty.shift
   simp;omega
  rw [<- e];exact h2
theorem inner_shift (h : Inner C i j y) (hW : Win C E i j d) : Inner E (i + d) (j + d) (y.shift d):=by
 have hi:=inner_in h
 obtain ⟨z,h1,rfl⟩:=h.rest
 have hl:=(tyl_in h1).1
 have e0 : E.word (i + d) = C.word i:=hW.word i (Nat.le_refl _) (by omega)
 refine ⟨by have:=hW.in_;omega,fun e=>?_,z.shift d,?_,rfl⟩
 ·rw [e0] at e ⊢;rw [hW.name];exact h.name e
 ·have h2:=tyl_shift h1 E d (hW.sub (by omega) (Nat.le_refl _))
  rw [show i + 1 + d = i + d + 1 by omega] at h2
  rw [e0]
  have e : (baseT (kindT (C.word i)) (C.word i) i).shift d = baseT (kindT (C.word i)) (C.word i) (i + d):=by
   unfold baseT Ty.shift
   simp;omega
  rw [<- e];exact h2
theorem typed_shift (h : Typed C i j y) (hW : Win C E i j d) : Typed E (i + d) (j + d) (y.shift d):=by
 have hi:=typed_in h
 cases h with
 | inner hw h=>exact .inner (hW.nw hw (Nat.le_refl _) (by omega)) (inner_shift h hW)
 | @option j t hw h1 h h2 hf =>
  have h3:=inner_shift h (hW.sub (k:=i + 2) (m:=j) (by omega) (by omega))
  have hl:=inner_in h
  rw [show i + 2 + d = i + d + 2 by omega] at h3
  have:=Typed.option (t:=t.shift d) (hW.wd hw (Nat.le_refl _) (by omega)) (hW.wd1 h1 (by omega) (by omega)) h3 (hW.wd h2 (by omega) (by omega)) hf
  rw [show j + 1 + d = j + d + 1 by omega]
  have e : ({ t.mark 111 with i:=i,j:=j + 1 } : Ty).shift d = { (t.shift d).mark 111 with i:=i + d,j:=j + d + 1 }:=by
   unfold Ty.shift Ty.mark
   simp;omega
  rw [e];exact this
theorem answer_shift (h : Answer C i j y) (hW : Win C E i j d) : Answer E (i + d) (j + d) (y.shift d):=by
 cases h with
 | void hw =>
  have e0 : E.word (i + d) = C.word i:=hW.word i (Nat.le_refl _) (by omega)
  have:=Answer.void (hW.wd hw (Nat.le_refl _) (by omega))
  rw [e0] at this
  rw [show i + 1 + d = i + d + 1 by omega]
  have e : (baseT 6 (C.word i) i).shift d = baseT 6 (C.word i) (i + d):=by
   unfold baseT Ty.shift
   simp;omega
  rw [e];exact this
 | typed hw h =>
  have hi:=typed_in h
  exact .typed (hW.nw hw (Nat.le_refl _) (by omega)) (typed_shift h hW)
theorem an_shift (k : Int) (x : ByteArray) (i j : Nat) : (an k x i j).shift d = an k x (i + d) (j + d):=rfl
theorem ant_shift (k : Int) (x : ByteArray) (y : Ty) (i j : Nat) : (ant k x y i j).shift d = ant k x (y.shift d) (i + d) (j + d):=rfl
theorem nil_shift : Fo.nil.shift d = .nil:=rfl
end
end Go.Proofs.YtcllbfijhgiclaaGreatDoor.G
namespace Go.Proofs.YtcllbfijhgiclaaGreatDoor.G
theorem fs1 (d : Nat) : Fn.value.shift d = .value:=rfl
theorem fs2 (d c : Nat) : (Fn.joined c).shift d = .joined c:=rfl
theorem fs3 (d c f : Nat) (t : Fo) : (Fn.joinL c f t).shift d = .joinL c (f + d) (t.shift d):=rfl
theorem fs4 (d : Nat) : Fn.signed.shift d = .signed:=rfl
theorem fs5 (d : Nat) : Fn.asked.shift d = .asked:=rfl
theorem fs6 (d f : Nat) (t : Fo) : (Fn.askL f t).shift d = .askL (f + d) (t.shift d):=rfl
theorem fs7 (d : Nat) : Fn.first.shift d = .first:=rfl
theorem fs8 (d : Nat) : Fn.args.shift d = .args:=rfl
theorem fs9 (d n : Nat) : (Fn.many n).shift d = .many n:=rfl
theorem fs10 (d : Nat) : Fn.block.shift d = .block:=rfl
theorem fs11 (d : Nat) : Fn.stats.shift d = .stats:=rfl
theorem fs12 (d : Nat) : Fn.stat.shift d = .stat:=rfl
theorem num_shift (k : Int) (x : ByteArray) (n : Int) (i j d : Nat) : (An.mk k x none n i j).shift d = ⟨k,x,none,n,i + d,j + d⟩:=rfl
section
variable {C : PC} {e i j : Nat} {u : Fo} {g : Fn}
theorem dv_shift (h : Dv C g e i j u) : ∀ (E : PC) (d : Nat),Win C E i j d -> Dv E (g.shift d) e (i + d) (j + d) (u.shift d):=by
 induction h with
 | @value d0 i j t h ih =>
  intro E d W
  have e1 : ∀ a : Nat,a + 1 + d = a + d + 1:=fun a=>by omega
  have e2 : ∀ a : Nat,a + 2 + d = a + d + 2:=fun a=>by omega
  have e3 : ∀ a : Nat,a + 3 + d = a + d + 3:=fun a=>by omega
  have s1:=ih E d (W.sub (k:=i) (m:=j) (by omega) (by omega))
  simp only [fs1,fs2,fs3,fs4,fs5,fs6,fs7,fs8,fs9,fs10,fs11,fs12,shift_one,an_shift,ant_shift,num_shift,nil_shift,Fo.shift_app,e1,e2,e3] at s1 ⊢
  exact .value s1
 | @up d0 i j t h ih =>
  intro E d W
  have e1 : ∀ a : Nat,a + 1 + d = a + d + 1:=fun a=>by omega
  have e2 : ∀ a : Nat,a + 2 + d = a + d + 2:=fun a=>by omega
  have e3 : ∀ a : Nat,a + 3 + d = a + d + 3:=fun a=>by omega
  have s1:=ih E d (W.sub (k:=i) (m:=j) (by omega) (by omega))
  simp only [fs1,fs2,fs3,fs4,fs5,fs6,fs7,fs8,fs9,fs10,fs11,fs12,shift_one,an_shift,ant_shift,num_shift,nil_shift,Fo.shift_app,e1,e2,e3] at s1 ⊢
  exact .up s1
 | @joined c d0 i k j t u hc h g ih1 ih2 =>
  intro E d W
  have e1 : ∀ a : Nat,a + 1 + d = a + d + 1:=fun a=>by omega
  have e2 : ∀ a : Nat,a + 2 + d = a + d + 2:=fun a=>by omega
  have e3 : ∀ a : Nat,a + 3 + d = a + d + 3:=fun a=>by omega
  have i_h:=dv_in h
  have j_h:=i_h.1
  have i_g:=dv_in g
  have j_g:=i_g.1
  have s1:=ih1 E d (W.sub (k:=i) (m:=k) (by omega) (by omega))
  have s2:=ih2 E d (W.sub (k:=k) (m:=j) (by omega) (by omega))
  simp only [fs1,fs2,fs3,fs4,fs5,fs6,fs7,fs8,fs9,fs10,fs11,fs12,shift_one,an_shift,ant_shift,num_shift,nil_shift,Fo.shift_app,e1,e2,e3] at s1 s2 ⊢
  exact .joined hc s1 s2
 | @joinE c f d0 i t =>
  intro E d W
  have e1 : ∀ a : Nat,a + 1 + d = a + d + 1:=fun a=>by omega
  have e2 : ∀ a : Nat,a + 2 + d = a + d + 2:=fun a=>by omega
  have e3 : ∀ a : Nat,a + 3 + d = a + d + 3:=fun a=>by omega
  simp only [fs1,fs2,fs3,fs4,fs5,fs6,fs7,fs8,fs9,fs10,fs11,fs12,shift_one,an_shift,ant_shift,num_shift,nil_shift,Fo.shift_app,e1,e2,e3] at ⊢
  exact .joinE
 | @joinB c f d0 i k j t u v x hw hb hx h g ih1 ih2 =>
  intro E d W
  have e1 : ∀ a : Nat,a + 1 + d = a + d + 1:=fun a=>by omega
  have e2 : ∀ a : Nat,a + 2 + d = a + d + 2:=fun a=>by omega
  have e3 : ∀ a : Nat,a + 3 + d = a + d + 3:=fun a=>by omega
  have i_h:=dv_in h
  have j_h:=i_h.1
  have i_g:=dv_in g
  have j_g:=i_g.1
  have s1:=ih1 E d (W.sub (k:=i + 1) (m:=k) (by omega) (by omega))
  have s2:=ih2 E d (W.sub (k:=k) (m:=j) (by omega) (by omega))
  simp only [fs1,fs2,fs3,fs4,fs5,fs6,fs7,fs8,fs9,fs10,fs11,fs12,shift_one,an_shift,ant_shift,num_shift,nil_shift,Fo.shift_app,e1,e2,e3] at s1 s2 ⊢
  exact .joinB (W.wd hw (by omega) (by omega)) hb hx s1 s2
 | @joinS f d0 i j t v hw h1 g ih =>
  intro E d W
  have e1 : ∀ a : Nat,a + 1 + d = a + d + 1:=fun a=>by omega
  have e2 : ∀ a : Nat,a + 2 + d = a + d + 2:=fun a=>by omega
  have e3 : ∀ a : Nat,a + 3 + d = a + d + 3:=fun a=>by omega
  have i_g:=dv_in g
  have j_g:=i_g.1
  have s1:=ih E d (W.sub (k:=i + 2) (m:=j) (by omega) (by omega))
  simp only [fs1,fs2,fs3,fs4,fs5,fs6,fs7,fs8,fs9,fs10,fs11,fs12,shift_one,an_shift,ant_shift,num_shift,nil_shift,Fo.shift_app,e1,e2,e3] at s1 ⊢
  exact .joinS (W.wd hw (by omega) (by omega)) (W.wd1 h1 (by omega) (by omega)) s1
 | @joinN f d0 i j t v hw h1 g ih =>
  intro E d W
  have e1 : ∀ a : Nat,a + 1 + d = a + d + 1:=fun a=>by omega
  have e2 : ∀ a : Nat,a + 2 + d = a + d + 2:=fun a=>by omega
  have e3 : ∀ a : Nat,a + 3 + d = a + d + 3:=fun a=>by omega
  have i_g:=dv_in g
  have j_g:=i_g.1
  have s1:=ih E d (W.sub (k:=i + 2) (m:=j) (by omega) (by omega))
  simp only [fs1,fs2,fs3,fs4,fs5,fs6,fs7,fs8,fs9,fs10,fs11,fs12,shift_one,an_shift,ant_shift,num_shift,nil_shift,Fo.shift_app,e1,e2,e3] at s1 ⊢
  exact .joinN (W.wd hw (by omega) (by omega)) (W.wd1 h1 (by omega) (by omega)) s1
 | @neg d0 i j t hw h ih =>
  intro E d W
  have e1 : ∀ a : Nat,a + 1 + d = a + d + 1:=fun a=>by omega
  have e2 : ∀ a : Nat,a + 2 + d = a + d + 2:=fun a=>by omega
  have e3 : ∀ a : Nat,a + 3 + d = a + d + 3:=fun a=>by omega
  have i_h:=dv_in h
  have j_h:=i_h.1
  have s1:=ih E d (W.sub (k:=i + 1) (m:=j) (by omega) (by omega))
  simp only [fs1,fs2,fs3,fs4,fs5,fs6,fs7,fs8,fs9,fs10,fs11,fs12,shift_one,an_shift,ant_shift,num_shift,nil_shift,Fo.shift_app,e1,e2,e3] at s1 ⊢
  exact .neg (W.wd hw (by omega) (by omega)) s1
 | @not d0 i j t hw h ih =>
  intro E d W
  have e1 : ∀ a : Nat,a + 1 + d = a + d + 1:=fun a=>by omega
  have e2 : ∀ a : Nat,a + 2 + d = a + d + 2:=fun a=>by omega
  have e3 : ∀ a : Nat,a + 3 + d = a + d + 3:=fun a=>by omega
  have i_h:=dv_in h
  have j_h:=i_h.1
  have s1:=ih E d (W.sub (k:=i + 1) (m:=j) (by omega) (by omega))
  simp only [fs1,fs2,fs3,fs4,fs5,fs6,fs7,fs8,fs9,fs10,fs11,fs12,shift_one,an_shift,ant_shift,num_shift,nil_shift,Fo.shift_app,e1,e2,e3] at s1 ⊢
  exact .not (W.wd hw (by omega) (by omega)) s1
 | @asked d0 i j t h1 h2 h ih =>
  intro E d W
  have e1 : ∀ a : Nat,a + 1 + d = a + d + 1:=fun a=>by omega
  have e2 : ∀ a : Nat,a + 2 + d = a + d + 2:=fun a=>by omega
  have e3 : ∀ a : Nat,a + 3 + d = a + d + 3:=fun a=>by omega
  have i_h:=dv_in h
  have j_h:=i_h.1
  have s1:=ih E d (W.sub (k:=i) (m:=j) (by omega) (by omega))
  simp only [fs1,fs2,fs3,fs4,fs5,fs6,fs7,fs8,fs9,fs10,fs11,fs12,shift_one,an_shift,ant_shift,num_shift,nil_shift,Fo.shift_app,e1,e2,e3] at s1 ⊢
  exact .asked (W.nw h1 (by omega) (by omega)) (W.nw h2 (by omega) (by omega)) s1
 | @ask d0 i k j t u h g ih1 ih2 =>
  intro E d W
  have e1 : ∀ a : Nat,a + 1 + d = a + d + 1:=fun a=>by omega
  have e2 : ∀ a : Nat,a + 2 + d = a + d + 2:=fun a=>by omega
  have e3 : ∀ a : Nat,a + 3 + d = a + d + 3:=fun a=>by omega
  have i_h:=dv_in h
  have j_h:=i_h.1
  have i_g:=dv_in g
  have j_g:=i_g.1
  have s1:=ih1 E d (W.sub (k:=i) (m:=k) (by omega) (by omega))
  have s2:=ih2 E d (W.sub (k:=k) (m:=j) (by omega) (by omega))
  simp only [fs1,fs2,fs3,fs4,fs5,fs6,fs7,fs8,fs9,fs10,fs11,fs12,shift_one,an_shift,ant_shift,num_shift,nil_shift,Fo.shift_app,e1,e2,e3] at s1 s2 ⊢
  exact .ask s1 s2
 | @askE f d0 i t =>
  intro E d W
  have e1 : ∀ a : Nat,a + 1 + d = a + d + 1:=fun a=>by omega
  have e2 : ∀ a : Nat,a + 2 + d = a + d + 2:=fun a=>by omega
  have e3 : ∀ a : Nat,a + 3 + d = a + d + 3:=fun a=>by omega
  simp only [fs1,fs2,fs3,fs4,fs5,fs6,fs7,fs8,fs9,fs10,fs11,fs12,shift_one,an_shift,ant_shift,num_shift,nil_shift,Fo.shift_app,e1,e2,e3] at ⊢
  exact .askE
 | @guard f d0 i j t v hw g ih =>
  intro E d W
  have e1 : ∀ a : Nat,a + 1 + d = a + d + 1:=fun a=>by omega
  have e2 : ∀ a : Nat,a + 2 + d = a + d + 2:=fun a=>by omega
  have e3 : ∀ a : Nat,a + 3 + d = a + d + 3:=fun a=>by omega
  have i_g:=dv_in g
  have j_g:=i_g.1
  have s1:=ih E d (W.sub (k:=i + 1) (m:=j) (by omega) (by omega))
  simp only [fs1,fs2,fs3,fs4,fs5,fs6,fs7,fs8,fs9,fs10,fs11,fs12,shift_one,an_shift,ant_shift,num_shift,nil_shift,Fo.shift_app,e1,e2,e3] at s1 ⊢
  exact .guard (W.wd hw (by omega) (by omega)) s1
 | @index f d0 i k j t u v hw h h1 g ih1 ih2 =>
  intro E d W
  have e1 : ∀ a : Nat,a + 1 + d = a + d + 1:=fun a=>by omega
  have e2 : ∀ a : Nat,a + 2 + d = a + d + 2:=fun a=>by omega
  have e3 : ∀ a : Nat,a + 3 + d = a + d + 3:=fun a=>by omega
  have i_h:=dv_in h
  have j_h:=i_h.1
  have i_g:=dv_in g
  have j_g:=i_g.1
  have s1:=ih1 E d (W.sub (k:=i + 1) (m:=k) (by omega) (by omega))
  have s2:=ih2 E d (W.sub (k:=k + 1) (m:=j) (by omega) (by omega))
  simp only [fs1,fs2,fs3,fs4,fs5,fs6,fs7,fs8,fs9,fs10,fs11,fs12,shift_one,an_shift,ant_shift,num_shift,nil_shift,Fo.shift_app,e1,e2,e3] at s1 s2 ⊢
  exact .index (W.wd hw (by omega) (by omega)) s1 (W.wd h1 (by omega) (by omega)) s2
 | @length f d0 i j t v hw h1 g ih =>
  intro E d W
  have e1 : ∀ a : Nat,a + 1 + d = a + d + 1:=fun a=>by omega
  have e2 : ∀ a : Nat,a + 2 + d = a + d + 2:=fun a=>by omega
  have e3 : ∀ a : Nat,a + 3 + d = a + d + 3:=fun a=>by omega
  have i_g:=dv_in g
  have j_g:=i_g.1
  have s1:=ih E d (W.sub (k:=i + 2) (m:=j) (by omega) (by omega))
  simp only [fs1,fs2,fs3,fs4,fs5,fs6,fs7,fs8,fs9,fs10,fs11,fs12,shift_one,an_shift,ant_shift,num_shift,nil_shift,Fo.shift_app,e1,e2,e3] at s1 ⊢
  exact .length (W.wd hw (by omega) (by omega)) (W.wd1 h1 (by omega) (by omega)) s1
 | @val f d0 i j t v hw h1 g ih =>
  intro E d W
  have e1 : ∀ a : Nat,a + 1 + d = a + d + 1:=fun a=>by omega
  have e2 : ∀ a : Nat,a + 2 + d = a + d + 2:=fun a=>by omega
  have e3 : ∀ a : Nat,a + 3 + d = a + d + 3:=fun a=>by omega
  have i_g:=dv_in g
  have j_g:=i_g.1
  have s1:=ih E d (W.sub (k:=i + 2) (m:=j) (by omega) (by omega))
  simp only [fs1,fs2,fs3,fs4,fs5,fs6,fs7,fs8,fs9,fs10,fs11,fs12,shift_one,an_shift,ant_shift,num_shift,nil_shift,Fo.shift_app,e1,e2,e3] at s1 ⊢
  exact .val (W.wd hw (by omega) (by omega)) (W.wd1 h1 (by omega) (by omega)) s1
 | @get f d0 i j t v x hw h1 hl hv hn g ih =>
  intro E d W
  have e1 : ∀ a : Nat,a + 1 + d = a + d + 1:=fun a=>by omega
  have e2 : ∀ a : Nat,a + 2 + d = a + d + 2:=fun a=>by omega
  have e3 : ∀ a : Nat,a + 3 + d = a + d + 3:=fun a=>by omega
  have i_g:=dv_in g
  have j_g:=i_g.1
  have s1:=ih E d (W.sub (k:=i + 2) (m:=j) (by omega) (by omega))
  simp only [fs1,fs2,fs3,fs4,fs5,fs6,fs7,fs8,fs9,fs10,fs11,fs12,shift_one,an_shift,ant_shift,num_shift,nil_shift,Fo.shift_app,e1,e2,e3] at s1 ⊢
  exact .get (W.wd hw (by omega) (by omega)) (W.wd1 h1 (by omega) (by omega)) hl hv (by rw [W.name];exact hn) s1
 | @call f d0 i k j t u v x hw h1 hl hv hn h g ih1 ih2 =>
  intro E d W
  have e1 : ∀ a : Nat,a + 1 + d = a + d + 1:=fun a=>by omega
  have e2 : ∀ a : Nat,a + 2 + d = a + d + 2:=fun a=>by omega
  have e3 : ∀ a : Nat,a + 3 + d = a + d + 3:=fun a=>by omega
  have i_h:=dv_in h
  have j_h:=i_h.1
  have i_g:=dv_in g
  have j_g:=i_g.1
  have s1:=ih1 E d (W.sub (k:=i + 2) (m:=k) (by omega) (by omega))
  have s2:=ih2 E d (W.sub (k:=k) (m:=j) (by omega) (by omega))
  simp only [fs1,fs2,fs3,fs4,fs5,fs6,fs7,fs8,fs9,fs10,fs11,fs12,shift_one,an_shift,ant_shift,num_shift,nil_shift,Fo.shift_app,e1,e2,e3] at s1 s2 ⊢
  exact .call (W.wd hw (by omega) (by omega)) (W.wd1 h1 (by omega) (by omega)) hl hv (by rw [W.name];exact hn) s1 s2
 | @args0 d0 i hw h1 =>
  intro E d W
  have e1 : ∀ a : Nat,a + 1 + d = a + d + 1:=fun a=>by omega
  have e2 : ∀ a : Nat,a + 2 + d = a + d + 2:=fun a=>by omega
  have e3 : ∀ a : Nat,a + 3 + d = a + d + 3:=fun a=>by omega
  simp only [fs1,fs2,fs3,fs4,fs5,fs6,fs7,fs8,fs9,fs10,fs11,fs12,shift_one,an_shift,ant_shift,num_shift,nil_shift,Fo.shift_app,e1,e2,e3] at ⊢
  exact .args0 (W.wd hw (by omega) (by omega)) (W.wd1 h1 (by omega) (by omega))
 | @args d0 i k j t u hw h0 h g h1 ih1 ih2 =>
  intro E d W
  have e1 : ∀ a : Nat,a + 1 + d = a + d + 1:=fun a=>by omega
  have e2 : ∀ a : Nat,a + 2 + d = a + d + 2:=fun a=>by omega
  have e3 : ∀ a : Nat,a + 3 + d = a + d + 3:=fun a=>by omega
  have i_h:=dv_in h
  have j_h:=i_h.1
  have i_g:=dv_in g
  have j_g:=i_g.1
  have s1:=ih1 E d (W.sub (k:=i + 1) (m:=k) (by omega) (by omega))
  have s2:=ih2 E d (W.sub (k:=k) (m:=j) (by omega) (by omega))
  simp only [fs1,fs2,fs3,fs4,fs5,fs6,fs7,fs8,fs9,fs10,fs11,fs12,shift_one,an_shift,ant_shift,num_shift,nil_shift,Fo.shift_app,e1,e2,e3] at s1 s2 ⊢
  exact .args (W.wd hw (by omega) (by omega)) (W.nw1 h0 (by omega) (by omega)) s1 s2 (W.wd h1 (by omega) (by omega))
 | @manyE n d0 i =>
  intro E d W
  have e1 : ∀ a : Nat,a + 1 + d = a + d + 1:=fun a=>by omega
  have e2 : ∀ a : Nat,a + 2 + d = a + d + 2:=fun a=>by omega
  have e3 : ∀ a : Nat,a + 3 + d = a + d + 3:=fun a=>by omega
  simp only [fs1,fs2,fs3,fs4,fs5,fs6,fs7,fs8,fs9,fs10,fs11,fs12,shift_one,an_shift,ant_shift,num_shift,nil_shift,Fo.shift_app,e1,e2,e3] at ⊢
  exact .manyE
 | @many n d0 i k j t u hw hn h g ih1 ih2 =>
  intro E d W
  have e1 : ∀ a : Nat,a + 1 + d = a + d + 1:=fun a=>by omega
  have e2 : ∀ a : Nat,a + 2 + d = a + d + 2:=fun a=>by omega
  have e3 : ∀ a : Nat,a + 3 + d = a + d + 3:=fun a=>by omega
  have i_h:=dv_in h
  have j_h:=i_h.1
  have i_g:=dv_in g
  have j_g:=i_g.1
  have s1:=ih1 E d (W.sub (k:=i + 1) (m:=k) (by omega) (by omega))
  have s2:=ih2 E d (W.sub (k:=k) (m:=j) (by omega) (by omega))
  simp only [fs1,fs2,fs3,fs4,fs5,fs6,fs7,fs8,fs9,fs10,fs11,fs12,shift_one,an_shift,ant_shift,num_shift,nil_shift,Fo.shift_app,e1,e2,e3] at s1 s2 ⊢
  exact .many (W.wd hw (by omega) (by omega)) hn s1 s2
 | @lit d0 i hk hi h0 =>
  intro E d W
  have e1 : ∀ a : Nat,a + 1 + d = a + d + 1:=fun a=>by omega
  have el:=W.lits (Nat.le_refl i) (by omega)
  simp only [fs7,shift_one,num_shift,nil_shift,e1]
  have:=Dv.lit (C:=E) (d:=d0) (i:=i + d) (W.lit hk (Nat.le_refl _) (by omega)) (by have:=W.in_;omega) (by rw [el];exact h0)
  rw [el] at this
  exact this
 | @paren d0 i j t hk hw h h1 ih =>
  intro E d W
  have e1 : ∀ a : Nat,a + 1 + d = a + d + 1:=fun a=>by omega
  have e2 : ∀ a : Nat,a + 2 + d = a + d + 2:=fun a=>by omega
  have e3 : ∀ a : Nat,a + 3 + d = a + d + 3:=fun a=>by omega
  have i_h:=dv_in h
  have j_h:=i_h.1
  have s1:=ih E d (W.sub (k:=i + 1) (m:=j) (by omega) (by omega))
  simp only [fs1,fs2,fs3,fs4,fs5,fs6,fs7,fs8,fs9,fs10,fs11,fs12,shift_one,an_shift,ant_shift,num_shift,nil_shift,Fo.shift_app,e1,e2,e3] at s1 ⊢
  exact .paren (W.nolit hk (by omega) (by omega)) (W.wd hw (by omega) (by omega)) s1 (W.wd h1 (by omega) (by omega))
 | @const d0 i x hk hw hx =>
  intro E d W
  have e1 : ∀ a : Nat,a + 1 + d = a + d + 1:=fun a=>by omega
  have e2 : ∀ a : Nat,a + 2 + d = a + d + 2:=fun a=>by omega
  have e3 : ∀ a : Nat,a + 3 + d = a + d + 3:=fun a=>by omega
  simp only [fs1,fs2,fs3,fs4,fs5,fs6,fs7,fs8,fs9,fs10,fs11,fs12,shift_one,an_shift,ant_shift,num_shift,nil_shift,Fo.shift_app,e1,e2,e3] at ⊢
  exact .const (W.nolit hk (by omega) (by omega)) (W.wd hw (by omega) (by omega)) hx
 | @wrap d0 i j t x hk hw hx h1 h h2 ih =>
  intro E d W
  have e1 : ∀ a : Nat,a + 1 + d = a + d + 1:=fun a=>by omega
  have e2 : ∀ a : Nat,a + 2 + d = a + d + 2:=fun a=>by omega
  have e3 : ∀ a : Nat,a + 3 + d = a + d + 3:=fun a=>by omega
  have i_h:=dv_in h
  have j_h:=i_h.1
  have s1:=ih E d (W.sub (k:=i + 2) (m:=j) (by omega) (by omega))
  simp only [fs1,fs2,fs3,fs4,fs5,fs6,fs7,fs8,fs9,fs10,fs11,fs12,shift_one,an_shift,ant_shift,num_shift,nil_shift,Fo.shift_app,e1,e2,e3] at s1 ⊢
  exact .wrap (W.nolit hk (by omega) (by omega)) (W.wd hw (by omega) (by omega)) hx (W.wd1 h1 (by omega) (by omega)) s1 (W.wd h2 (by omega) (by omega))
 | @input d0 i hk hw h1 h2 =>
  intro E d W
  have e1 : ∀ a : Nat,a + 1 + d = a + d + 1:=fun a=>by omega
  have e2 : ∀ a : Nat,a + 2 + d = a + d + 2:=fun a=>by omega
  have e3 : ∀ a : Nat,a + 3 + d = a + d + 3:=fun a=>by omega
  simp only [fs1,fs2,fs3,fs4,fs5,fs6,fs7,fs8,fs9,fs10,fs11,fs12,shift_one,an_shift,ant_shift,num_shift,nil_shift,Fo.shift_app,e1,e2,e3] at ⊢
  exact .input (W.nolit hk (by omega) (by omega)) (W.wd hw (by omega) (by omega)) (W.wd1 h1 (by omega) (by omega)) (W.wd2 h2 (by omega) (by omega))
 | @cast d0 i k j y t hk hw h1 ht h2 h3 h h4 ih =>
  intro E d W
  have e1 : ∀ a : Nat,a + 1 + d = a + d + 1:=fun a=>by omega
  have e2 : ∀ a : Nat,a + 2 + d = a + d + 2:=fun a=>by omega
  have e3 : ∀ a : Nat,a + 3 + d = a + d + 3:=fun a=>by omega
  have i_h:=dv_in h
  have j_h:=i_h.1
  have i_ht:=typed_in ht
  have s1:=ih E d (W.sub (k:=k + 2) (m:=j) (by omega) (by omega))
  have ty:=typed_shift ht (W.sub (k:=i + 2) (m:=k) (by omega) (by omega))
  try simp only [e1,e2] at ty
  simp only [fs1,fs2,fs3,fs4,fs5,fs6,fs7,fs8,fs9,fs10,fs11,fs12,shift_one,an_shift,ant_shift,num_shift,nil_shift,Fo.shift_app,e1,e2,e3] at s1 ⊢
  exact .cast (W.nolit hk (by omega) (by omega)) (W.wd hw (by omega) (by omega)) (W.wd1 h1 (by omega) (by omega)) ty (W.wd h2 (by omega) (by omega)) (W.wd1 h3 (by omega) (by omega)) s1 (W.wd h4 (by omega) (by omega))
 | @newA d0 i k j y t hk hw ht h1 h0 h h2 ih =>
  intro E d W
  have e1 : ∀ a : Nat,a + 1 + d = a + d + 1:=fun a=>by omega
  have e2 : ∀ a : Nat,a + 2 + d = a + d + 2:=fun a=>by omega
  have e3 : ∀ a : Nat,a + 3 + d = a + d + 3:=fun a=>by omega
  have i_h:=dv_in h
  have j_h:=i_h.1
  have i_ht:=inner_in ht
  have s1:=ih E d (W.sub (k:=k + 1) (m:=j) (by omega) (by omega))
  have ty:=inner_shift ht (W.sub (k:=i + 1) (m:=k) (by omega) (by omega))
  try simp only [e1,e2] at ty
  simp only [fs1,fs2,fs3,fs4,fs5,fs6,fs7,fs8,fs9,fs10,fs11,fs12,shift_one,an_shift,ant_shift,num_shift,nil_shift,Fo.shift_app,e1,e2,e3] at s1 ⊢
  exact .newA (W.nolit hk (by omega) (by omega)) (W.wd hw (by omega) (by omega)) ty (W.wd h1 (by omega) (by omega)) (W.nw1 h0 (by omega) (by omega)) s1 (W.wd h2 (by omega) (by omega))
 | @newO d0 i k j y t hk hw ht ha h ih =>
  intro E d W
  have e1 : ∀ a : Nat,a + 1 + d = a + d + 1:=fun a=>by omega
  have e2 : ∀ a : Nat,a + 2 + d = a + d + 2:=fun a=>by omega
  have e3 : ∀ a : Nat,a + 3 + d = a + d + 3:=fun a=>by omega
  have i_h:=dv_in h
  have j_h:=i_h.1
  have i_ht:=inner_in ht
  have s1:=ih E d (W.sub (k:=k) (m:=j) (by omega) (by omega))
  have ty:=inner_shift ht (W.sub (k:=i + 1) (m:=k) (by omega) (by omega))
  try simp only [e1,e2] at ty
  simp only [fs1,fs2,fs3,fs4,fs5,fs6,fs7,fs8,fs9,fs10,fs11,fs12,shift_one,an_shift,ant_shift,num_shift,nil_shift,Fo.shift_app,e1,e2,e3] at s1 ⊢
  exact .newO (W.nolit hk (by omega) (by omega)) (W.wd hw (by omega) (by omega)) ty ha s1
 | @var d0 i x hk hw hx hn =>
  intro E d W
  have e1 : ∀ a : Nat,a + 1 + d = a + d + 1:=fun a=>by omega
  have e2 : ∀ a : Nat,a + 2 + d = a + d + 2:=fun a=>by omega
  have e3 : ∀ a : Nat,a + 3 + d = a + d + 3:=fun a=>by omega
  simp only [fs1,fs2,fs3,fs4,fs5,fs6,fs7,fs8,fs9,fs10,fs11,fs12,shift_one,an_shift,ant_shift,num_shift,nil_shift,Fo.shift_app,e1,e2,e3] at ⊢
  exact .var (W.nolit hk (by omega) (by omega)) (W.wd hw (by omega) (by omega)) hx (by rw [W.name];exact hn)
 | @block d0 i j t hw h h1 ih =>
  intro E d W
  have e1 : ∀ a : Nat,a + 1 + d = a + d + 1:=fun a=>by omega
  have e2 : ∀ a : Nat,a + 2 + d = a + d + 2:=fun a=>by omega
  have e3 : ∀ a : Nat,a + 3 + d = a + d + 3:=fun a=>by omega
  have i_h:=dv_in h
  have j_h:=i_h.1
  have s1:=ih E d (W.sub (k:=i + 1) (m:=j) (by omega) (by omega))
  simp only [fs1,fs2,fs3,fs4,fs5,fs6,fs7,fs8,fs9,fs10,fs11,fs12,shift_one,an_shift,ant_shift,num_shift,nil_shift,Fo.shift_app,e1,e2,e3] at s1 ⊢
  exact .block (W.wd hw (by omega) (by omega)) s1 (W.wd h1 (by omega) (by omega))
 | @statsE d0 i =>
  intro E d W
  have e1 : ∀ a : Nat,a + 1 + d = a + d + 1:=fun a=>by omega
  have e2 : ∀ a : Nat,a + 2 + d = a + d + 2:=fun a=>by omega
  have e3 : ∀ a : Nat,a + 3 + d = a + d + 3:=fun a=>by omega
  simp only [fs1,fs2,fs3,fs4,fs5,fs6,fs7,fs8,fs9,fs10,fs11,fs12,shift_one,an_shift,ant_shift,num_shift,nil_shift,Fo.shift_app,e1,e2,e3] at ⊢
  exact .statsE
 | @stats d0 i k j t u hw h g ih1 ih2 =>
  intro E d W
  have e1 : ∀ a : Nat,a + 1 + d = a + d + 1:=fun a=>by omega
  have e2 : ∀ a : Nat,a + 2 + d = a + d + 2:=fun a=>by omega
  have e3 : ∀ a : Nat,a + 3 + d = a + d + 3:=fun a=>by omega
  have i_h:=dv_in h
  have j_h:=i_h.1
  have i_g:=dv_in g
  have j_g:=i_g.1
  have s1:=ih1 E d (W.sub (k:=i) (m:=k) (by omega) (by omega))
  have s2:=ih2 E d (W.sub (k:=k) (m:=j) (by omega) (by omega))
  simp only [fs1,fs2,fs3,fs4,fs5,fs6,fs7,fs8,fs9,fs10,fs11,fs12,shift_one,an_shift,ant_shift,num_shift,nil_shift,Fo.shift_app,e1,e2,e3] at s1 s2 ⊢
  exact .stats (W.nw hw (by omega) (by omega)) s1 s2
 | @sBlock d0 i j t hw h ih =>
  intro E d W
  have e1 : ∀ a : Nat,a + 1 + d = a + d + 1:=fun a=>by omega
  have e2 : ∀ a : Nat,a + 2 + d = a + d + 2:=fun a=>by omega
  have e3 : ∀ a : Nat,a + 3 + d = a + d + 3:=fun a=>by omega
  have i_h:=dv_in h
  have j_h:=i_h.1
  have s1:=ih E d (W.sub (k:=i) (m:=j) (by omega) (by omega))
  simp only [fs1,fs2,fs3,fs4,fs5,fs6,fs7,fs8,fs9,fs10,fs11,fs12,shift_one,an_shift,ant_shift,num_shift,nil_shift,Fo.shift_app,e1,e2,e3] at s1 ⊢
  exact .sBlock (by rw [W.word _ (by omega) (by omega)];exact hw) s1
 | @sIf d0 i k j t u hw h1 h h2 g ih1 ih2 =>
  intro E d W
  have e1 : ∀ a : Nat,a + 1 + d = a + d + 1:=fun a=>by omega
  have e2 : ∀ a : Nat,a + 2 + d = a + d + 2:=fun a=>by omega
  have e3 : ∀ a : Nat,a + 3 + d = a + d + 3:=fun a=>by omega
  have i_h:=dv_in h
  have j_h:=i_h.1
  have i_g:=dv_in g
  have j_g:=i_g.1
  have s1:=ih1 E d (W.sub (k:=i + 2) (m:=k) (by omega) (by omega))
  have s2:=ih2 E d (W.sub (k:=k + 1) (m:=j) (by omega) (by omega))
  simp only [fs1,fs2,fs3,fs4,fs5,fs6,fs7,fs8,fs9,fs10,fs11,fs12,shift_one,an_shift,ant_shift,num_shift,nil_shift,Fo.shift_app,e1,e2,e3] at s1 s2 ⊢
  exact .sIf (W.wd hw (by omega) (by omega)) (W.wd1 h1 (by omega) (by omega)) s1 (W.wd h2 (by omega) (by omega)) s2
 | @sElse d0 i k m j t u v hw h1 h h2 g h3 e ih1 ih2 ih3 =>
  intro E d W
  have e1 : ∀ a : Nat,a + 1 + d = a + d + 1:=fun a=>by omega
  have e2 : ∀ a : Nat,a + 2 + d = a + d + 2:=fun a=>by omega
  have e3 : ∀ a : Nat,a + 3 + d = a + d + 3:=fun a=>by omega
  have i_h:=dv_in h
  have j_h:=i_h.1
  have i_g:=dv_in g
  have j_g:=i_g.1
  have i_e:=dv_in e
  have j_e:=i_e.1
  have s1:=ih1 E d (W.sub (k:=i + 2) (m:=k) (by omega) (by omega))
  have s2:=ih2 E d (W.sub (k:=k + 1) (m:=m) (by omega) (by omega))
  have s3:=ih3 E d (W.sub (k:=m + 1) (m:=j) (by omega) (by omega))
  simp only [fs1,fs2,fs3,fs4,fs5,fs6,fs7,fs8,fs9,fs10,fs11,fs12,shift_one,an_shift,ant_shift,num_shift,nil_shift,Fo.shift_app,e1,e2,e3] at s1 s2 s3 ⊢
  exact .sElse (W.wd hw (by omega) (by omega)) (W.wd1 h1 (by omega) (by omega)) s1 (W.wd h2 (by omega) (by omega)) s2 (W.wd h3 (by omega) (by omega)) s3
 | @sWhile d0 i k j t u hw h1 h h2 g ih1 ih2 =>
  intro E d W
  have e1 : ∀ a : Nat,a + 1 + d = a + d + 1:=fun a=>by omega
  have e2 : ∀ a : Nat,a + 2 + d = a + d + 2:=fun a=>by omega
  have e3 : ∀ a : Nat,a + 3 + d = a + d + 3:=fun a=>by omega
  have i_h:=dv_in h
  have j_h:=i_h.1
  have i_g:=dv_in g
  have j_g:=i_g.1
  have s1:=ih1 E d (W.sub (k:=i + 2) (m:=k) (by omega) (by omega))
  have s2:=ih2 E d (W.sub (k:=k + 1) (m:=j) (by omega) (by omega))
  simp only [fs1,fs2,fs3,fs4,fs5,fs6,fs7,fs8,fs9,fs10,fs11,fs12,shift_one,an_shift,ant_shift,num_shift,nil_shift,Fo.shift_app,e1,e2,e3] at s1 s2 ⊢
  exact .sWhile (W.wd hw (by omega) (by omega)) (W.wd1 h1 (by omega) (by omega)) s1 (W.wd h2 (by omega) (by omega)) s2
 | @sBreak d0 i hw h1 =>
  intro E d W
  have e1 : ∀ a : Nat,a + 1 + d = a + d + 1:=fun a=>by omega
  have e2 : ∀ a : Nat,a + 2 + d = a + d + 2:=fun a=>by omega
  have e3 : ∀ a : Nat,a + 3 + d = a + d + 3:=fun a=>by omega
  simp only [fs1,fs2,fs3,fs4,fs5,fs6,fs7,fs8,fs9,fs10,fs11,fs12,shift_one,an_shift,ant_shift,num_shift,nil_shift,Fo.shift_app,e1,e2,e3] at ⊢
  exact .sBreak (W.wd hw (by omega) (by omega)) (W.wd1 h1 (by omega) (by omega))
 | @sCont d0 i hw h1 =>
  intro E d W
  have e1 : ∀ a : Nat,a + 1 + d = a + d + 1:=fun a=>by omega
  have e2 : ∀ a : Nat,a + 2 + d = a + d + 2:=fun a=>by omega
  have e3 : ∀ a : Nat,a + 3 + d = a + d + 3:=fun a=>by omega
  simp only [fs1,fs2,fs3,fs4,fs5,fs6,fs7,fs8,fs9,fs10,fs11,fs12,shift_one,an_shift,ant_shift,num_shift,nil_shift,Fo.shift_app,e1,e2,e3] at ⊢
  exact .sCont (W.wd hw (by omega) (by omega)) (W.wd1 h1 (by omega) (by omega))
 | @sRet0 d0 i hw h1 =>
  intro E d W
  have e1 : ∀ a : Nat,a + 1 + d = a + d + 1:=fun a=>by omega
  have e2 : ∀ a : Nat,a + 2 + d = a + d + 2:=fun a=>by omega
  have e3 : ∀ a : Nat,a + 3 + d = a + d + 3:=fun a=>by omega
  simp only [fs1,fs2,fs3,fs4,fs5,fs6,fs7,fs8,fs9,fs10,fs11,fs12,shift_one,an_shift,ant_shift,num_shift,nil_shift,Fo.shift_app,e1,e2,e3] at ⊢
  exact .sRet0 (W.wd hw (by omega) (by omega)) (W.wd1 h1 (by omega) (by omega))
 | @sRet d0 i j t hw h0 h h1 ih =>
  intro E d W
  have e1 : ∀ a : Nat,a + 1 + d = a + d + 1:=fun a=>by omega
  have e2 : ∀ a : Nat,a + 2 + d = a + d + 2:=fun a=>by omega
  have e3 : ∀ a : Nat,a + 3 + d = a + d + 3:=fun a=>by omega
  have i_h:=dv_in h
  have j_h:=i_h.1
  have s1:=ih E d (W.sub (k:=i + 1) (m:=j) (by omega) (by omega))
  simp only [fs1,fs2,fs3,fs4,fs5,fs6,fs7,fs8,fs9,fs10,fs11,fs12,shift_one,an_shift,ant_shift,num_shift,nil_shift,Fo.shift_app,e1,e2,e3] at s1 ⊢
  exact .sRet (W.wd hw (by omega) (by omega)) (W.nw1 h0 (by omega) (by omega)) s1 (W.wd h1 (by omega) (by omega))
 | @sPrint d0 i j t hw h1 h h2 h3 ih =>
  intro E d W
  have e1 : ∀ a : Nat,a + 1 + d = a + d + 1:=fun a=>by omega
  have e2 : ∀ a : Nat,a + 2 + d = a + d + 2:=fun a=>by omega
  have e3 : ∀ a : Nat,a + 3 + d = a + d + 3:=fun a=>by omega
  have i_h:=dv_in h
  have j_h:=i_h.1
  have s1:=ih E d (W.sub (k:=i + 2) (m:=j) (by omega) (by omega))
  simp only [fs1,fs2,fs3,fs4,fs5,fs6,fs7,fs8,fs9,fs10,fs11,fs12,shift_one,an_shift,ant_shift,num_shift,nil_shift,Fo.shift_app,e1,e2,e3] at s1 ⊢
  exact .sPrint (W.wd hw (by omega) (by omega)) (W.wd1 h1 (by omega) (by omega)) s1 (W.wd h2 (by omega) (by omega)) (W.wd1 h3 (by omega) (by omega))
 | @sSuper d0 i j t hw h h1 ih =>
  intro E d W
  have e1 : ∀ a : Nat,a + 1 + d = a + d + 1:=fun a=>by omega
  have e2 : ∀ a : Nat,a + 2 + d = a + d + 2:=fun a=>by omega
  have e3 : ∀ a : Nat,a + 3 + d = a + d + 3:=fun a=>by omega
  have i_h:=dv_in h
  have j_h:=i_h.1
  have s1:=ih E d (W.sub (k:=i + 1) (m:=j) (by omega) (by omega))
  simp only [fs1,fs2,fs3,fs4,fs5,fs6,fs7,fs8,fs9,fs10,fs11,fs12,shift_one,an_shift,ant_shift,num_shift,nil_shift,Fo.shift_app,e1,e2,e3] at s1 ⊢
  exact .sSuper (W.wd hw (by omega) (by omega)) s1 (W.wd h1 (by omega) (by omega))
 | @sDecl0 d0 i k y x hp hd ht h1 hn h2 =>
  intro E d W
  have e1 : ∀ a : Nat,a + 1 + d = a + d + 1:=fun a=>by omega
  have e2 : ∀ a : Nat,a + 2 + d = a + d + 2:=fun a=>by omega
  have e3 : ∀ a : Nat,a + 3 + d = a + d + 3:=fun a=>by omega
  have i_ht:=typed_in ht
  have ty:=typed_shift ht (W.sub (k:=i) (m:=k) (by omega) (by omega))
  try simp only [e1,e2] at ty
  simp only [fs1,fs2,fs3,fs4,fs5,fs6,fs7,fs8,fs9,fs10,fs11,fs12,shift_one,an_shift,ant_shift,num_shift,nil_shift,Fo.shift_app,e1,e2,e3] at ⊢
  exact .sDecl0 (by rw [W.word _ (by omega) (by omega)];exact hp) (by rw [W.dec (k:=i) (by omega) (by omega) (fun _=>by omega)];exact hd) ty (W.wd h1 (by omega) (by omega)) (by rw [W.name];exact hn) (W.wd1 h2 (by omega) (by omega))
 | @sDecl d0 i k j y x t hp hd ht h1 hn h2 h h3 ih =>
  intro E d W
  have e1 : ∀ a : Nat,a + 1 + d = a + d + 1:=fun a=>by omega
  have e2 : ∀ a : Nat,a + 2 + d = a + d + 2:=fun a=>by omega
  have e3 : ∀ a : Nat,a + 3 + d = a + d + 3:=fun a=>by omega
  have i_h:=dv_in h
  have j_h:=i_h.1
  have i_ht:=typed_in ht
  have s1:=ih E d (W.sub (k:=k + 2) (m:=j) (by omega) (by omega))
  have ty:=typed_shift ht (W.sub (k:=i) (m:=k) (by omega) (by omega))
  try simp only [e1,e2] at ty
  simp only [fs1,fs2,fs3,fs4,fs5,fs6,fs7,fs8,fs9,fs10,fs11,fs12,shift_one,an_shift,ant_shift,num_shift,nil_shift,Fo.shift_app,e1,e2,e3] at s1 ⊢
  exact .sDecl (by rw [W.word _ (by omega) (by omega)];exact hp) (by rw [W.dec (k:=i) (by omega) (by omega) (fun _=>by omega)];exact hd) ty (W.wd h1 (by omega) (by omega)) (by rw [W.name];exact hn) (W.wd1 h2 (by omega) (by omega)) s1 (W.wd h3 (by omega) (by omega))
 | @sSet d0 i k j t u hp hd h hk h1 g h2 ih1 ih2 =>
  intro E d W
  have e1 : ∀ a : Nat,a + 1 + d = a + d + 1:=fun a=>by omega
  have e2 : ∀ a : Nat,a + 2 + d = a + d + 2:=fun a=>by omega
  have e3 : ∀ a : Nat,a + 3 + d = a + d + 3:=fun a=>by omega
  have i_h:=dv_in h
  have j_h:=i_h.1
  have i_g:=dv_in g
  have j_g:=i_g.1
  have s1:=ih1 E d (W.sub (k:=i) (m:=k) (by omega) (by omega))
  have s2:=ih2 E d (W.sub (k:=k + 1) (m:=j) (by omega) (by omega))
  simp only [fs1,fs2,fs3,fs4,fs5,fs6,fs7,fs8,fs9,fs10,fs11,fs12,shift_one,an_shift,ant_shift,num_shift,nil_shift,Fo.shift_app,e1,e2,e3] at s1 s2 ⊢
  exact .sSet (by rw [W.word _ (by omega) (by omega)];exact hp) (by rw [W.dec (k:=i) (by omega) (by omega) (fun _=>by omega)];exact hd) s1 (by rw [Fo.shift_kind];exact hk) (W.wd h1 (by omega) (by omega)) s2 (W.wd h2 (by omega) (by omega))
 | @sExpr d0 i j t hp hd h hk h1 ih =>
  intro E d W
  have e1 : ∀ a : Nat,a + 1 + d = a + d + 1:=fun a=>by omega
  have e2 : ∀ a : Nat,a + 2 + d = a + d + 2:=fun a=>by omega
  have e3 : ∀ a : Nat,a + 3 + d = a + d + 3:=fun a=>by omega
  have i_h:=dv_in h
  have j_h:=i_h.1
  have s1:=ih E d (W.sub (k:=i) (m:=j) (by omega) (by omega))
  have hb2 : C.word (i + 1) = (⟨#[91]⟩ : ByteArray) -> i + 2 < j + 1:=fun hb=>by
   by_cases hj : j = i + 1
   ·rw [hj] at h1;rw [h1.word] at hb;exact absurd hb (by decide)
   ·omega
  simp only [fs1,fs2,fs3,fs4,fs5,fs6,fs7,fs8,fs9,fs10,fs11,fs12,shift_one,an_shift,ant_shift,num_shift,nil_shift,Fo.shift_app,e1,e2,e3] at s1 ⊢
  exact .sExpr (by rw [W.word _ (by omega) (by omega)];exact hp) (by rw [W.dec (k:=i) (by omega) (by omega) hb2];exact hd) s1 (by rw [Fo.shift_kind];exact hk) (W.wd h1 (by omega) (by omega))
end
end Go.Proofs.YtcllbfijhgiclaaGreatDoor.G
namespace Go.Proofs.YtcllbfijhgiclaaGreatDoor.G
section
variable {C E : PC} {d e i j k n c f m q : Nat} {x : ByteArray} {t u w : Fo} {g : Fn} {y z : Ty} {M : List Nd}
theorem param_shift (h : Param C i j u) (W : Win C E i j d) : Param E (i + d) (j + d) (u.shift d):=by
 obtain ⟨k,y,x,ht,hw,hn,rfl,rfl⟩:=h.is
 have hi:=typed_in ht
 refine ⟨k + d,y.shift d,x,typed_shift ht (W.sub (Nat.le_refl _) (by omega)),W.wd hw (by omega) (by omega),by rw [W.name];exact hn,by omega,?_⟩
 show one (ant 7 x (y.shift d) (i + d) (k + 1 + d)) .nil = _
 rw [show k + 1 + d = k + d + 1 by omega]
theorem paramL_shift (h : ParamL C n i j u) : ∀ (E : PC) (d : Nat),Win C E i j d -> ParamL E n (i + d) (j + d) (u.shift d):=by
 induction h with
 | fin=>intro E d W;exact .fin
 | @more n i k j t u hw hn h g ih =>
  intro E d W
  have i1:=param_in h;have i2:=paramL_in g
  have s1:=param_shift h (W.sub (k:=i + 1) (m:=k) (by omega) (by omega))
  have s2:=ih E d (W.sub (by omega) (Nat.le_refl _))
  rw [show i + 1 + d = i + d + 1 by omega] at s1
  rw [Fo.shift_app]
  exact .more (W.wd hw (by omega) (by omega)) hn s1 s2
theorem params_shift (h : Params C i j u) (W : Win C E i j d) : Params E (i + d) (j + d) (u.shift d):=by
 cases h with
 | none hw h1 =>
  rw [show i + 2 + d = i + d + 2 by omega]
  exact .none (W.wd hw (by omega) (by omega)) (W.wd1 h1 (by omega) (by omega))
 | @some k j t u hw h0 h g h1 =>
  have i1:=param_in h;have i2:=paramL_in g
  have s1:=param_shift h (W.sub (k:=i + 1) (m:=k) (by omega) (by omega))
  have s2:=paramL_shift g E d (W.sub (k:=k) (m:=j) (by omega) (by omega))
  rw [show i + 1 + d = i + d + 1 by omega] at s1
  rw [Fo.shift_app,show j + 1 + d = j + d + 1 by omega]
  exact .some (W.wd hw (by omega) (by omega)) (W.nw1 h0 (by omega) (by omega)) s1 s2 (W.wd h1 (by omega) (by omega))
theorem member_shift (h : Member C i j u) (W : Win C E i j d) : Member E (i + d) (j + d) (u.shift d):=by
 cases h with
 | @init k j t u hw hp hb =>
  have i1:=params_in hp;have i2:=dv_in hb;have i3:=i2.1
  have s1:=params_shift hp (W.sub (k:=i + 1) (m:=k) (by omega) (by omega))
  have s2:=dv_shift hb E d (W.sub (k:=k) (m:=j) (by omega) (by omega))
  rw [show i + 1 + d = i + d + 1 by omega] at s1
  rw [shift_one,Fo.shift_app]
  exact .init (W.wd hw (by omega) (by omega)) s1 s2
 | @method k m j y x t u hw ha h1 hn hp hb =>
  have i0:=answer_in ha;have i1:=params_in hp;have i2:=dv_in hb;have i3:=i2.1
  have s0:=answer_shift ha (W.sub (k:=i) (m:=k) (by omega) (by omega))
  have s1:=params_shift hp (W.sub (k:=k + 1) (m:=m) (by omega) (by omega))
  have s2:=dv_shift hb E d (W.sub (k:=m) (m:=j) (by omega) (by omega))
  rw [show k + 1 + d = k + d + 1 by omega] at s1
  rw [shift_one,Fo.shift_app]
  exact .method (W.nw hw (by omega) (by omega)) s0 (W.wd h1 (by omega) (by omega)) (by rw [W.name];exact hn) s1 s2
 | @field k y x hw ha h1 hn hv h2 =>
  have i0:=answer_in ha
  have s0:=answer_shift ha (W.sub (k:=i) (m:=k) (by omega) (by omega))
  show Member E (i + d) (k + 2 + d) (one (ant 4 x (y.shift d) (i + d) (k + 2 + d)) .nil)
  rw [show k + 2 + d = k + d + 2 by omega]
  exact .field (W.nw hw (by omega) (by omega)) s0 (W.wd h1 (by omega) (by omega)) (by rw [W.name];exact hn) hv (W.wd1 h2 (by omega) (by omega))
theorem members_shift (h : Members C n i j u) : ∀ (E : PC) (d : Nat),Win C E i j d -> Members E n (i + d) (j + d) (u.shift d):=by
 induction h with
 | fin=>intro E d W;exact .fin
 | @more n i k j t u hw hn h g ih =>
  intro E d W
  have i1:=member_in h;have i2:=members_in g
  have s1:=member_shift h (W.sub (k:=i) (m:=k) (by omega) (by omega))
  have s2:=ih E d (W.sub (by omega) (Nat.le_refl _))
  rw [Fo.shift_app]
  exact .more (W.nw hw (by omega) (by omega)) hn s1 s2
theorem class_shift (h : Class C i j u) (W : Win C E i j d) : Class E (i + d) (j + d) (u.shift d):=by
 cases h with
 | @base j x t hw h1 hn h2 h h3 =>
  have i1:=members_in h
  have s1:=members_shift h E d (W.sub (k:=i + 3) (m:=j) (by omega) (by omega))
  rw [show i + 3 + d = i + d + 3 by omega] at s1
  show Class E (i + d) (j + 1 + d) (one (an 2 x (i + d) (j + 1 + d)) (t.shift d))
  rw [show j + 1 + d = j + d + 1 by omega]
  exact .base (W.wd hw (by omega) (by omega)) (W.wd1 h1 (by omega) (by omega)) (by rw [W.name];exact hn) (W.wd2 h2 (by omega) (by omega)) s1 (W.wd h3 (by omega) (by omega))
 | @ext j x y t hw h1 hn h2 h3 hm h4 h h5 =>
  have i1:=members_in h
  have s1:=members_shift h E d (W.sub (k:=i + 5) (m:=j) (by omega) (by omega))
  rw [show i + 5 + d = i + d + 5 by omega] at s1
  have w3:=W.wd h3 (by omega) (by omega)
  have w4:=W.wd h4 (by omega) (by omega)
  rw [show i + 3 + d = i + d + 3 by omega] at w3
  rw [show i + 4 + d = i + d + 4 by omega] at w4
  show Class E (i + d) (j + 1 + d) (one (an 2 x (i + d) (j + 1 + d)) ((one (an 3 y (i + 2 + d) (i + 4 + d)) .nil).app (t.shift d)))
  rw [show j + 1 + d = j + d + 1 by omega,show i + 2 + d = i + d + 2 by omega,show i + 4 + d = i + d + 4 by omega]
  exact .ext (W.wd hw (by omega) (by omega)) (W.wd1 h1 (by omega) (by omega)) (by rw [W.name];exact hn) (W.wd2 h2 (by omega) (by omega)) w3 (by rw [W.name];exact hm) w4 s1 (W.wd h5 (by omega) (by omega))
inductive CSeq (C : PC) : Nat -> Nat -> Fo -> Prop
 | fin {i : Nat} : CSeq C i i .nil
 | more {i k j : Nat} {t u : Fo} (hk : (C.tok i).1 ≠ 0) (h : Class C i k t) (g : CSeq C k j u) : CSeq C i j (t.app u)
theorem class_len (h : Class C i j u) : u.len = 1:=by cases h <;> rfl
theorem cseq_of (h : Classes C n i j u) : CSeq C i j u /\ (C.tok j).1 = 0 /\ (n <= 64 -> n + u.len <= 64):=by
 induction h with
 | fin hk=>exact ⟨.fin,hk,fun h=>h⟩
 | more hk hn h g ih =>
  refine ⟨.more hk h ih.1,ih.2.1,fun h64=>?_⟩
  have:=ih.2.2 (by omega)
  rw [Fo.app_len,class_len h];omega
theorem classes_of (h : CSeq C i j u) (h0 : (C.tok j).1 = 0) : ∀ n,n + u.len <= 64 -> Classes C n i j u:=by
 induction h with
 | fin=>intro n _;exact .fin h0
 | more hk h g ih =>
  intro n hn
  rw [Fo.app_len,class_len h] at hn
  exact .more hk (by omega) h (ih h0 (n + 1) (by omega))
theorem cseq_app (h : CSeq C i k t) (h2 : CSeq C k j u) : CSeq C i j (t.app u):=by
 induction h with
 | fin=>exact h2
 | more hk h g ih=>rw [Fo.app_assoc];exact .more hk h (ih h2)
theorem cseq_in (h : CSeq C i j u) : i <= j /\ (i < C.toks.length -> j < C.toks.length):=by
 induction h with
 | fin=>exact ⟨Nat.le_refl _,id⟩
 | more hk h _ ih=>have:=class_in h;exact ⟨by have:=ih.1;omega,fun _=>ih.2 this.2⟩
theorem cseq_shift (h : CSeq C i j u) : ∀ (E : PC) (d : Nat),Win C E i j d -> CSeq E (i + d) (j + d) (u.shift d):=by
 induction h with
 | fin=>intro E d W;exact .fin
 | @more i k j t u hk h g ih =>
  intro E d W
  have i1:=class_in h;have i2:=cseq_in g
  rw [Fo.shift_app]
  exact .more (by rw [W.kind _ (by omega) (by omega)];exact hk) (class_shift h (W.sub (k:=i) (m:=k) (by omega) (by omega))) (ih E d (W.sub (by omega) (Nat.le_refl _)))
def CntF (g : Fn) (i j : Nat) (u : Fo) : Prop :=
 match g with
 | .joinL _ _ t=>u.size <= t.size + (j - i)
 | .askL _ t=>u.size <= t.size + (j - i)
 | _=>u.size <= j - i
theorem dv_count (h : Dv C g e i j u) : CntF g i j u:=by
 induction h with
 | @value d0 i j t h ih =>
  have q_h:=(dv_in h).1
  have ih : _ <= _:=ih
  show Fo.size _ <= _
  try simp only [one_size,Fo.app_size,Fo.size] at *
  omega
 | @up d0 i j t h ih =>
  have q_h:=(dv_in h).1
  have ih : _ <= _:=ih
  show Fo.size _ <= _
  try simp only [one_size,Fo.app_size,Fo.size] at *
  omega
 | @joined c d0 i k j t u hc h g ih1 ih2 =>
  have q_h:=(dv_in h).1
  have q_g:=(dv_in g).1
  have ih1 : _ <= _:=ih1
  have ih2 : _ <= _:=ih2
  show Fo.size _ <= _
  try simp only [one_size,Fo.app_size,Fo.size] at *
  omega
 | @joinE c f d0 i t =>
  show Fo.size _ <= _
  try simp only [one_size,Fo.app_size,Fo.size] at *
  omega
 | @joinB c f d0 i k j t u v x hw hb hx h g ih1 ih2 =>
  have q_h:=(dv_in h).1
  have q_g:=(dv_in g).1
  have ih1 : _ <= _:=ih1
  have ih2 : _ <= _:=ih2
  show Fo.size _ <= _
  try simp only [one_size,Fo.app_size,Fo.size] at *
  omega
 | @joinS f d0 i j t v hw h1 g ih =>
  have q_g:=(dv_in g).1
  have ih : _ <= _:=ih
  show Fo.size _ <= _
  try simp only [one_size,Fo.app_size,Fo.size] at *
  omega
 | @joinN f d0 i j t v hw h1 g ih =>
  have q_g:=(dv_in g).1
  have ih : _ <= _:=ih
  show Fo.size _ <= _
  try simp only [one_size,Fo.app_size,Fo.size] at *
  omega
 | @neg d0 i j t hw h ih =>
  have q_h:=(dv_in h).1
  have ih : _ <= _:=ih
  show Fo.size _ <= _
  try simp only [one_size,Fo.app_size,Fo.size] at *
  omega
 | @not d0 i j t hw h ih =>
  have q_h:=(dv_in h).1
  have ih : _ <= _:=ih
  show Fo.size _ <= _
  try simp only [one_size,Fo.app_size,Fo.size] at *
  omega
 | @asked d0 i j t h1 h2 h ih =>
  have q_h:=(dv_in h).1
  have ih : _ <= _:=ih
  show Fo.size _ <= _
  try simp only [one_size,Fo.app_size,Fo.size] at *
  omega
 | @ask d0 i k j t u h g ih1 ih2 =>
  have q_h:=(dv_in h).1
  have q_g:=(dv_in g).1
  have ih1 : _ <= _:=ih1
  have ih2 : _ <= _:=ih2
  show Fo.size _ <= _
  try simp only [one_size,Fo.app_size,Fo.size] at *
  omega
 | @askE f d0 i t =>
  show Fo.size _ <= _
  try simp only [one_size,Fo.app_size,Fo.size] at *
  omega
 | @guard f d0 i j t v hw g ih =>
  have q_g:=(dv_in g).1
  have ih : _ <= _:=ih
  show Fo.size _ <= _
  try simp only [one_size,Fo.app_size,Fo.size] at *
  omega
 | @index f d0 i k j t u v hw h h1 g ih1 ih2 =>
  have q_h:=(dv_in h).1
  have q_g:=(dv_in g).1
  have ih1 : _ <= _:=ih1
  have ih2 : _ <= _:=ih2
  show Fo.size _ <= _
  try simp only [one_size,Fo.app_size,Fo.size] at *
  omega
 | @length f d0 i j t v hw h1 g ih =>
  have q_g:=(dv_in g).1
  have ih : _ <= _:=ih
  show Fo.size _ <= _
  try simp only [one_size,Fo.app_size,Fo.size] at *
  omega
 | @val f d0 i j t v hw h1 g ih =>
  have q_g:=(dv_in g).1
  have ih : _ <= _:=ih
  show Fo.size _ <= _
  try simp only [one_size,Fo.app_size,Fo.size] at *
  omega
 | @get f d0 i j t v x hw h1 hl hv hn g ih =>
  have q_g:=(dv_in g).1
  have ih : _ <= _:=ih
  show Fo.size _ <= _
  try simp only [one_size,Fo.app_size,Fo.size] at *
  omega
 | @call f d0 i k j t u v x hw h1 hl hv hn h g ih1 ih2 =>
  have q_h:=(dv_in h).1
  have q_g:=(dv_in g).1
  have ih1 : _ <= _:=ih1
  have ih2 : _ <= _:=ih2
  show Fo.size _ <= _
  try simp only [one_size,Fo.app_size,Fo.size] at *
  omega
 | @args0 d0 i hw h1 =>
  show Fo.size _ <= _
  try simp only [one_size,Fo.app_size,Fo.size] at *
  omega
 | @args d0 i k j t u hw h0 h g h1 ih1 ih2 =>
  have q_h:=(dv_in h).1
  have q_g:=(dv_in g).1
  have ih1 : _ <= _:=ih1
  have ih2 : _ <= _:=ih2
  show Fo.size _ <= _
  try simp only [one_size,Fo.app_size,Fo.size] at *
  omega
 | @manyE n d0 i =>
  show Fo.size _ <= _
  try simp only [one_size,Fo.app_size,Fo.size] at *
  omega
 | @many n d0 i k j t u hw hn h g ih1 ih2 =>
  have q_h:=(dv_in h).1
  have q_g:=(dv_in g).1
  have ih1 : _ <= _:=ih1
  have ih2 : _ <= _:=ih2
  show Fo.size _ <= _
  try simp only [one_size,Fo.app_size,Fo.size] at *
  omega
 | @lit d0 i hk hi h0 =>
  show Fo.size _ <= _
  try simp only [one_size,Fo.app_size,Fo.size] at *
  omega
 | @paren d0 i j t hk hw h h1 ih =>
  have q_h:=(dv_in h).1
  have ih : _ <= _:=ih
  show Fo.size _ <= _
  try simp only [one_size,Fo.app_size,Fo.size] at *
  omega
 | @const d0 i x hk hw hx =>
  show Fo.size _ <= _
  try simp only [one_size,Fo.app_size,Fo.size] at *
  omega
 | @wrap d0 i j t x hk hw hx h1 h h2 ih =>
  have q_h:=(dv_in h).1
  have ih : _ <= _:=ih
  show Fo.size _ <= _
  try simp only [one_size,Fo.app_size,Fo.size] at *
  omega
 | @input d0 i hk hw h1 h2 =>
  show Fo.size _ <= _
  try simp only [one_size,Fo.app_size,Fo.size] at *
  omega
 | @cast d0 i k j y t hk hw h1 ht h2 h3 h h4 ih =>
  have q_h:=(dv_in h).1
  have q_t:=typed_in ht
  have ih : _ <= _:=ih
  show Fo.size _ <= _
  try simp only [one_size,Fo.app_size,Fo.size] at *
  omega
 | @newA d0 i k j y t hk hw ht h1 h0 h h2 ih =>
  have q_h:=(dv_in h).1
  have q_t:=inner_in ht
  have ih : _ <= _:=ih
  show Fo.size _ <= _
  try simp only [one_size,Fo.app_size,Fo.size] at *
  omega
 | @newO d0 i k j y t hk hw ht ha h ih =>
  have q_h:=(dv_in h).1
  have q_t:=inner_in ht
  have ih : _ <= _:=ih
  show Fo.size _ <= _
  try simp only [one_size,Fo.app_size,Fo.size] at *
  omega
 | @var d0 i x hk hw hx hn =>
  show Fo.size _ <= _
  try simp only [one_size,Fo.app_size,Fo.size] at *
  omega
 | @block d0 i j t hw h h1 ih =>
  have q_h:=(dv_in h).1
  have ih : _ <= _:=ih
  show Fo.size _ <= _
  try simp only [one_size,Fo.app_size,Fo.size] at *
  omega
 | @statsE d0 i =>
  show Fo.size _ <= _
  try simp only [one_size,Fo.app_size,Fo.size] at *
  omega
 | @stats d0 i k j t u hw h g ih1 ih2 =>
  have q_h:=(dv_in h).1
  have q_g:=(dv_in g).1
  have ih1 : _ <= _:=ih1
  have ih2 : _ <= _:=ih2
  show Fo.size _ <= _
  try simp only [one_size,Fo.app_size,Fo.size] at *
  omega
 | @sBlock d0 i j t hw h ih =>
  have q_h:=(dv_in h).1
  have ih : _ <= _:=ih
  show Fo.size _ <= _
  try simp only [one_size,Fo.app_size,Fo.size] at *
  omega
 | @sIf d0 i k j t u hw h1 h h2 g ih1 ih2 =>
  have q_h:=(dv_in h).1
  have q_g:=(dv_in g).1
  have ih1 : _ <= _:=ih1
  have ih2 : _ <= _:=ih2
  show Fo.size _ <= _
  try simp only [one_size,Fo.app_size,Fo.size] at *
  omega
 | @sElse d0 i k m j t u v hw h1 h h2 g h3 e ih1 ih2 ih3 =>
  have q_h:=(dv_in h).1
  have q_g:=(dv_in g).1
  have q_e:=(dv_in e).1
  have ih1 : _ <= _:=ih1
  have ih2 : _ <= _:=ih2
  have ih3 : _ <= _:=ih3
  show Fo.size _ <= _
  try simp only [one_size,Fo.app_size,Fo.size] at *
  omega
 | @sWhile d0 i k j t u hw h1 h h2 g ih1 ih2 =>
  have q_h:=(dv_in h).1
  have q_g:=(dv_in g).1
  have ih1 : _ <= _:=ih1
  have ih2 : _ <= _:=ih2
  show Fo.size _ <= _
  try simp only [one_size,Fo.app_size,Fo.size] at *
  omega
 | @sBreak d0 i hw h1 =>
  show Fo.size _ <= _
  try simp only [one_size,Fo.app_size,Fo.size] at *
  omega
 | @sCont d0 i hw h1 =>
  show Fo.size _ <= _
  try simp only [one_size,Fo.app_size,Fo.size] at *
  omega
 | @sRet0 d0 i hw h1 =>
  show Fo.size _ <= _
  try simp only [one_size,Fo.app_size,Fo.size] at *
  omega
 | @sRet d0 i j t hw h0 h h1 ih =>
  have q_h:=(dv_in h).1
  have ih : _ <= _:=ih
  show Fo.size _ <= _
  try simp only [one_size,Fo.app_size,Fo.size] at *
  omega
 | @sPrint d0 i j t hw h1 h h2 h3 ih =>
  have q_h:=(dv_in h).1
  have ih : _ <= _:=ih
  show Fo.size _ <= _
  try simp only [one_size,Fo.app_size,Fo.size] at *
  omega
 | @sSuper d0 i j t hw h h1 ih =>
  have q_h:=(dv_in h).1
  have ih : _ <= _:=ih
  show Fo.size _ <= _
  try simp only [one_size,Fo.app_size,Fo.size] at *
  omega
 | @sDecl0 d0 i k y x hp hd ht h1 hn h2 =>
  have q_t:=typed_in ht
  show Fo.size _ <= _
  try simp only [one_size,Fo.app_size,Fo.size] at *
  omega
 | @sDecl d0 i k j y x t hp hd ht h1 hn h2 h h3 ih =>
  have q_h:=(dv_in h).1
  have q_t:=typed_in ht
  have ih : _ <= _:=ih
  show Fo.size _ <= _
  try simp only [one_size,Fo.app_size,Fo.size] at *
  omega
 | @sSet d0 i k j t u hp hd h hk h1 g h2 ih1 ih2 =>
  have q_h:=(dv_in h).1
  have q_g:=(dv_in g).1
  have ih1 : _ <= _:=ih1
  have ih2 : _ <= _:=ih2
  show Fo.size _ <= _
  try simp only [one_size,Fo.app_size,Fo.size] at *
  omega
 | @sExpr d0 i j t hp hd h hk h1 ih =>
  have q_h:=(dv_in h).1
  have ih : _ <= _:=ih
  show Fo.size _ <= _
  try simp only [one_size,Fo.app_size,Fo.size] at *
  omega
theorem paramL_count (h : ParamL C n i j u) : u.size <= j - i:=by
 induction h with
 | fin=>exact Nat.zero_le _
 | more hw hn h g ih=>have:=param_in h;have:=(paramL_in g).1;rw [Fo.app_size];omega
theorem params_count (h : Params C i j u) : u.size <= j - i:=by
 cases h with
 | none hw h1=>exact Nat.zero_le _
 | some hw h0 h g h1=>have:=param_in h;have:=(paramL_in g).1;have:=paramL_count g;rw [Fo.app_size];omega
theorem member_count (h : Member C i j u) : u.size <= j - i:=by
 cases h with
 | init hw hp hb=>have:=params_in hp;have:=params_count hp;have:=(dv_in hb).1;have h2 : Fo.size _ <= _:=dv_count hb;rw [one_size,Fo.app_size];omega
 | method hw ha h1 hn hp hb=>have:=answer_in ha;have:=params_in hp;have:=params_count hp;have:=(dv_in hb).1;have h2 : Fo.size _ <= _:=dv_count hb;rw [one_size,Fo.app_size];omega
 | field hw ha h1 hn hv h2=>have:=answer_in ha;show 1 <= _;omega
theorem members_count (h : Members C n i j u) : u.size <= j - i:=by
 induction h with
 | fin=>exact Nat.zero_le _
 | more hw hn h g ih=>have:=member_in h;have:=member_count h;have:=(members_in g).1;rw [Fo.app_size];omega
theorem class_count (h : Class C i j u) : u.size <= j - i:=by
 cases h with
 | base hw h1 hn h2 h h3=>have:=members_in h;have:=members_count h;rw [one_size];omega
 | ext hw h1 hn h2 h3 hm h4 h h5=>have:=members_in h;have:=members_count h;rw [one_size,Fo.app_size];show 1 + _ + 1 <= _;omega
theorem cseq_count (h : CSeq C i j u) : u.size <= j - i:=by
 induction h with
 | fin=>exact Nat.zero_le _
 | more hk h g ih=>have:=class_in h;have:=class_count h;have:=(cseq_in g).1;rw [Fo.app_size];omega
theorem class_word (h : Class C i j u) : Wd C i (⟨#[99,108,97,115,115]⟩ : ByteArray):=by
 cases h with
 | base hw=>exact hw
 | ext hw=>exact hw
theorem classes_over (hS : Sz C) (hK : Kw C) (hL : C.toks.length <= 80000) (h : CSeq C i j u) : ∀ (M : List Nd) (n l : Nat) (L : List Nat),n <= 64 -> 64 < n + u.len -> M.length + u.size <= 8192 -> L.length = n -> j - i < l -> L.length + (j - i) <= 90000 -> Bad 2 (classL C (classP C (runG C C.fuel .block)) l L) ⟨i,0,0,M⟩:=by
 induction h with
 | fin=>intro M n l L h1 h2;exact absurd h2 (by show ¬ 64 < n + 0;omega)
 | @more i k j t u hk h g ih =>
  intro M n l L h1 h2 hm hLn hl hb
  rw [Fo.app_size] at hm
  rw [Fo.app_len,class_len h] at h2
  have i1:=class_in h;have i2:=(cseq_in g).1
  obtain ⟨l,rfl⟩ : ∃ k',l = k' + 1:=⟨l - 1,by omega⟩
  have e0 : classL C (classP C (runG C C.fuel .block)) (l + 1) L ⟨i,0,0,M⟩ = bnd (moreP L.length) (fun _=>bnd (classP C (runG C C.fuel .block)) fun a=>classL C (classP C (runG C C.fuel .block)) l (L ++ [a])) ⟨i,0,0,M⟩:=by
   show bnd (capP L) (fun _=>look (kindS C) fun e=>if e = 0 then ret L else bnd (moreP L.length) fun _=>bnd (classP C (runG C C.fuel .block)) fun a=>classL C (classP C (runG C C.fuel .block)) l (L ++ [a])) ⟨i,0,0,M⟩ = _
   rw [bnd_go (capg (by omega))]
   show (if kindS C ⟨i,0,0,M⟩ = 0 then (_ : PM (List Nat)) else _) _ = _
   rw [ite_f (p:=kindS C ⟨i,0,0,M⟩ = 0) hk]
  unfold Bad
  rw [e0]
  by_cases h64 : n = 64
  ·have hw:=class_word h
   have hm2 : moreP L.length ⟨i,0,0,M⟩ = .ok () ⟨i,0,2,M⟩:=by
    show PR.ok () (⟨i,0,if L.length = 64 then 2 else 0,M⟩ : PS) = _
    rw [if_pos (by omega)]
   rw [bnd_go hm2]
   exact bad_bnd (show Bad 2 (classP C (runG C C.fuel .block)) ⟨i,0,2,M⟩ from bad_bnd (want_over (k:=(C.tok i).1) (by decide) ⟨hw.word,rfl,hw.in_⟩))
  ·obtain ⟨a,e1,e2⟩:=classg (M:=M) hS hK hL h (by omega)
   rw [bnd_go (morg (by omega)),bnd_go e1]
   exact ih (M ++ t.post C M.length) (n + 1) l (L ++ [a]) (by omega) (by omega) (by rw [cat_len];omega) (by rw [List.length_append,hLn];rfl) (by omega) (by rw [List.length_append];show L.length + 1 + (j - k) <= 90000;omega)
theorem parse_over (hS : Sz C) (hK : Kw C) (hL : C.toks.length <= 80000) (h0 : 0 < C.toks.length) (h : CSeq C 0 j u) (hn : 64 < u.len) (hm : u.size <= 8192) : ∃ z,parseP C = .bad 2 z:=by
 have i1:=cseq_in h
 have i2:=i1.2 h0
 have:=classes_over hS hK hL h [] 0 C.toks.length [] (by omega) (by omega) (by show 0 + u.size <= _;omega) rfl (by omega) (by show 0 + (j - 0) <= 90000;omega)
 exact bad_bnd this
def Fo.forms (p : Pen) (C : PC) : Fo -> List ByteArray
 | .nil=>[]
 | .cons a k r=>((k.forms p C).foldl (fun s f=>s ++ ⟨#[32]⟩ ++ f) (headS p (a.nd C [])) ++ ⟨#[41]⟩) :: r.forms p C
theorem head_any (p : Pen) (a : An) (l : List Nat) (d : Nat) : headS p ((a.shift d).nd E l) = headS p (a.nd C []):=by
 obtain ⟨k,tx,ty,num,i,j⟩:=a
 cases ty <;> rfl
theorem forms_app (p : Pen) (f g : Fo) : (f.app g).forms p C = f.forms p C ++ g.forms p C:=by
 induction f with
 | nil=>rfl
 | cons a k r _ ih=>show _ :: (r.app g).forms p C = (_ :: r.forms p C) ++ _;rw [ih];rfl
theorem forms_shift (p : Pen) (f : Fo) : (f.shift d).forms p E = f.forms p C:=by
 induction f with
 | nil=>rfl
 | cons a k r ih1 ih2 =>
  show (((k.shift d).forms p E).foldl _ (headS p ((a.shift d).nd E [])) ++ _) :: (r.shift d).forms p E = (_ :: _)
  rw [ih1,ih2,head_any (C:=C)]
theorem forms_len (p : Pen) (f : Fo) : (f.forms p C).length = f.len:=by
 induction f with
 | nil=>rfl
 | cons a k r _ ih=>show (r.forms p C).length + 1 = r.len + 1;rw [ih]
theorem fold_map (F : Nat -> ByteArray) : ∀ (K : List Nat) (h : ByteArray),K.foldl (fun s k=>s ++ ⟨#[32]⟩ ++ F k) h = (K.map F).foldl (fun s f=>s ++ ⟨#[32]⟩ ++ f) h
 | [],h=>rfl
 | k :: K,h=>by rw [List.foldl_cons,List.map_cons,List.foldl_cons,fold_map F K]
theorem kids_nat (a : An) (l : List Nat) : (a.nd C l).kids.map Int.toNat = l:=by rw [nd_kids,List.map_map];exact (List.map_congr_left fun _ _=>rfl).trans (List.map_id l)
theorem form_post (p : Pen) (f : Fo) : ∀ (b fu : Nat) (l : List Nd),(∀ q,q < f.size -> l[b + q]? = (f.post C b)[q]?) -> f.size <= fu -> (f.idx b).map (formF p l fu) = f.forms p C:=by
 induction f with
 | nil=>intro b fu l _ _;rfl
 | cons a k r ihk ihr =>
  intro b fu l hl hfu
  have hfu : k.size + 1 + r.size <= fu:=hfu
  have hl : ∀ q,q < k.size + 1 + r.size -> l[b + q]? = (k.post C b ++ (a.nd C (k.idx b) :: r.post C (b + k.size + 1)))[q]?:=hl
  have lk:=Fo.post_len C k b
  show formF p l fu (b + k.size) :: (r.idx (b + k.size + 1)).map (formF p l fu) = _ :: r.forms p C
  have h1 : l[b + k.size]? = some (a.nd C (k.idx b)):=by
   rw [hl _ (by omega),List.getElem?_append_right (by omega),lk,Nat.sub_self];rfl
  obtain ⟨fu',rfl⟩ : ∃ g,fu = g + 1:=⟨fu - 1,by omega⟩
  congr 1
  ·show (match l[b + k.size]? with | none=>(⟨#[]⟩ : ByteArray) | some x=>(kidsOf l (b + k.size)).foldl (fun (s : ByteArray) k=>s ++ (⟨#[32]⟩ : ByteArray) ++ formF p l fu' k) (headS p x) ++ (⟨#[41]⟩ : ByteArray)) = _
   have hk : kidsOf l (b + k.size) = k.idx b:=by
    unfold kidsOf
    rw [h1]
    exact kids_nat a _
   rw [h1,hk]
   show (k.idx b).foldl _ (headS p (a.nd C (k.idx b))) ++ _ = _
   rw [fold_map,ihk b fu' l (fun q hq=>by rw [hl q (by omega),List.getElem?_append_left (by omega)]) (by omega)]
   have : headS p (a.nd C (k.idx b)) = headS p (a.nd C []):=by
    obtain ⟨k',tx,ty,num,i,j⟩:=a
    cases ty <;> rfl
   rw [this]
  ·refine ihr (b + k.size + 1) (fu' + 1) l (fun q hq=>?_) (by omega)
   rw [show b + k.size + 1 + q = b + (k.size + 1 + q) by omega,hl _ (by omega),List.getElem?_append_right (by omega),lk,show k.size + 1 + q - k.size = q + 1 by omega];rfl
theorem form_at (p : Pen) (f : Fo) : ∀ (b : Nat) (l : List Nd),(∀ q,q < f.size -> l[b + q]? = (f.post C b)[q]?) -> ∀ (i : Nat) (r : Nat),(f.idx b)[i]? = some r -> ∀ fu,r < b + fu -> (f.forms p C)[i]? = some (formF p l fu r):=by
 induction f with
 | nil=>intro b l _ i r h;cases h
 | cons a k R ihk ihr =>
  intro b l hl i r hr fu hfu
  have hl' : ∀ q,q < k.size + 1 + R.size -> l[b + q]? = (k.post C b ++ (a.nd C (k.idx b) :: R.post C (b + k.size + 1)))[q]?:=hl
  have lk:=Fo.post_len C k b
  have hr : ((b + k.size) :: R.idx (b + k.size + 1))[i]? = some r:=hr
  cases i with
  | zero =>
   have hr : b + k.size = r:=Option.some.inj hr
   subst hr
   have h:=form_post (C:=C) p (one a k) b fu l (fun q hq=>by
    have hq : q < k.size + 1:=hq
    rw [hl' q (by omega)]
    show _ = (k.post C b ++ [a.nd C (k.idx b)])[q]?
    by_cases hqk : q < k.size
    ·rw [List.getElem?_append_left (by omega),List.getElem?_append_left (by omega)]
    ·rw [List.getElem?_append_right (by omega),List.getElem?_append_right (by omega),show q - (k.post C b).length = 0 by omega];rfl) (by show k.size + 1 <= fu;omega)
   have h : [formF p l fu (b + k.size)] = [_]:=h
   injection h with h _
   show some _ = some (formF p l fu (b + k.size))
   rw [h]
  | succ i =>
   have hr : (R.idx (b + k.size + 1))[i]? = some r:=hr
   have:=ihr (b + k.size + 1) l (fun q hq=>by
    rw [show b + k.size + 1 + q = b + (k.size + 1 + q) by omega,hl' _ (by omega),List.getElem?_append_right (by omega),lk,show k.size + 1 + q - k.size = q + 1 by omega];rfl) i r hr fu (by omega)
   exact this
theorem form_root (p : Pen) (u : Fo) (x : Nd) (i r : Nat) (hr : (u.idx 0)[i]? = some r) : (u.forms p C)[i]? = some (formS p (u.post C 0 ++ [x]) r) :=
 form_at p u 0 _ (fun q hq=>by rw [Nat.zero_add,List.getElem?_append_left (by rw [Fo.post_len];exact hq)]) i r hr (r + 1) (by omega)
end
end Go.Proofs.YtcllbfijhgiclaaGreatDoor.G
namespace Go.Proofs.YtcllbfijhgiclaaGreatDoor.G
open Go Go.RowKit
section
variable {x a b z : ByteArray}
theorem tok_get {i : Nat} {t : L.Tok} (h : (toksX x)[i]? = some t) : (pcOf x).tok i = t /\ (pcOf x).word i = wordX x t:=by
 refine ⟨?_,by rw [pc_word,h]⟩
 show (toksX x).getD i (0,0,0) = t
 rw [List.getD_eq_getElem?_getD,h];rfl
theorem pc_kw (h : codeX x = 0) : Kw (pcOf x):=by
 have e : ∀ y,(pcOf x).name y = nameF y:=fun y=>name_fast y
 refine ⟨by rw [e];decide +kernel,by rw [e];decide +kernel,by rw [e];decide +kernel,fun i hk hw=>?_⟩
 obtain ⟨hs,l,hl,hn,hok⟩:=toks_of h
 by_cases h1 : i < l.length
 ·have hi : (toksX x)[i]? = some l[i]:=by rw [hl,List.getElem?_append_left h1,List.getElem?_eq_getElem h1]
  obtain ⟨g1,g2⟩:=tok_get hi
  rw [g1] at hk
  rw [g2] at hw
  obtain ⟨q1,q2,q3,q4,q5,q6,q7,q8,q9⟩:=hok i h1
  obtain ⟨er,-,-,-,-⟩:=L.token_facts (g:=L.byS x) (n:=x.size) (i:=l[i].2.1) (by omega) (by rw [q7])
  rw [q7] at er
  have er : L.reachG (L.byS x) x.size l[i].2.1 = (l[i].1,l[i].2.2):=(Prod.mk.inj er).2.symm
  have h0 : L.byS (x.extract l[i].2.1 l[i].2.2) 0 = L.byS x l[i].2.1:=by
   have:=L.byS_extract x l[i].2.1 l[i].2.2 0 q3 (by omega)
   rwa [Nat.add_zero] at this
  have hw : x.extract l[i].2.1 l[i].2.2 = (⟨#[101,108,115,101]⟩ : ByteArray):=hw
  rw [hw] at h0
  have h0 : L.byS x l[i].2.1 = 101:=h0.symm.trans (by decide)
  unfold L.reachG at er
  rw [h0,if_pos (by decide)] at er
  have:=(Prod.mk.inj er).1
  rcases hk with hk | hk | hk <;> omega
 ·have : (pcOf x).tok i = (0,x.size,x.size) \/ (pcOf x).tok i = (0,0,0):=by
   show (toksX x).getD i (0,0,0) = _ \/ (toksX x).getD i (0,0,0) = _
   rw [List.getD_eq_getElem?_getD,hl]
   by_cases h2 : i = l.length
   ·subst h2
    rw [List.getElem?_append_right (Nat.le_refl _),Nat.sub_self];exact .inl rfl
   ·rw [List.getElem?_eq_none (by simp;omega)];exact .inr rfl
  rcases this with e | e <;> (rw [e] at hk;rcases hk with hk | hk | hk <;> simp at hk)
theorem pc_len (h : codeX x = 0) : (pcOf x).toks.length <= 80000 /\ 0 < (pcOf x).toks.length:=by
 have h1 : (toksX x).length <= 16385:=lex_most _ _
 obtain ⟨-,l,hl,-,-⟩:=toks_of h
 exact ⟨by show (toksX x).length <= _;omega,by show 0 < (toksX x).length;rw [hl];simp⟩
structure Cls (x : ByteArray) (u : Fo) (j : Nat) : Prop where
 code : codeX x = 0
 seq : CSeq (pcOf x) 0 j u
 fin : ∃ l : List L.Tok,toksX x = l ++ [(0,x.size,x.size)] /\ l.length = j /\ (∀ k (h : k < l.length),L.TokOk (L.byS x) x.size (L.atK l k) l[k])
 most : u.len <= 64
 is : parsedX x = (u.post (pcOf x) 0 ++ [progN (pcOf x) u j],0,0)
 small : u.size <= x.size
theorem cls_of (h : (parsedX x).2.1 = 0) : ∃ u j,Cls x u j:=by
 have hx : codeX x = 0:=by
  by_cases hc : codeX x = 0
  ·exact hc
  ·rw [parsed_lex hc] at h;exact h
 cases hp : parseP (pcOf x) with
 | bad c z=>rw [parsed_bad hx hp] at h;exact absurd h (parse_code hp)
 | out=>exact absurd hp (parse_ends (pc_cw hx))
 | ok t =>
  rename_i t'
  obtain ⟨u,j,h1,h2,h3⟩:=parse_inv hp
  obtain ⟨c1,c2,c3⟩:=cseq_of h1
  obtain ⟨hs,l,hl,hn,hok⟩:=toks_of hx
  have hlen:=pc_len hx
  have hj:=(cseq_in c1).2 hlen.2
  have hll : (pcOf x).toks.length = l.length + 1:=by show (toksX x).length = _;rw [hl];simp
  have hjl : l.length = j:=by
   by_cases hlt : j < l.length
   ·have hi : (toksX x)[j]? = some l[j]:=by rw [hl,List.getElem?_append_left hlt,List.getElem?_eq_getElem hlt]
    rw [(tok_get hi).1] at c2
    have:=(hok j hlt).2.2.2.1
    omega
   ·omega
  refine ⟨u,j,hx,c1,⟨l,hl,hjl,hok⟩,by have:=c3 (by omega);omega,by rw [parsed_ok hx hp,h2],?_⟩
  have:=cseq_count c1
  omega
theorem byS_left (x y : ByteArray) (k : Nat) (h : k < x.size) : L.byS (x ++ y) k = L.byS x k:=by
 unfold L.byS
 rw [dif_pos (by rw [ByteArray.size_append];omega),dif_pos h,ByteArray.getElem_append_left h]
theorem byS_right (x y : ByteArray) (k : Nat) : L.byS (x ++ y) (x.size + k) = L.byS y k:=by
 unfold L.byS
 by_cases h : k < y.size
 ·rw [dif_pos (by rw [ByteArray.size_append];omega),dif_pos h,ByteArray.getElem_append_right (by omega)]
  congr 2;omega
 ·rw [dif_neg (by rw [ByteArray.size_append];omega),dif_neg h]
theorem part_left (x y : ByteArray) (f t : Nat) (h : t <= x.size) : (x ++ y).extract f t = x.extract f t:=by
 apply ByteArray.ext
 rw [ByteArray.data_extract,ByteArray.data_extract,ByteArray.data_append]
 rw [Array.extract_append]
 have : y.data.extract (f - x.data.size) (t - x.data.size) = #[]:=by
  apply Array.eq_empty_of_size_eq_zero
  have : x.data.size = x.size:=rfl
  rw [Array.size_extract];omega
 rw [this];simp
theorem part_right (x y : ByteArray) (f t : Nat) : (x ++ y).extract (x.size + f) (x.size + t) = y.extract f t:=by
 apply ByteArray.ext
 rw [ByteArray.data_extract,ByteArray.data_extract,ByteArray.data_append]
 rw [Array.extract_append]
 have e : x.data.size = x.size:=rfl
 have : x.data.extract (x.size + f) (x.size + t) = #[]:=by
  apply Array.eq_empty_of_size_eq_zero
  rw [Array.size_extract];omega
 rw [this,e,Nat.add_sub_cancel_left,Nat.add_sub_cancel_left];simp
theorem both_toks {ua ub : Fo} {ja jb : Nat} (ha : Cls a ua ja) (hb : Cls b ub jb) (hz : z = a ++ (⟨#[10]⟩ : ByteArray) ++ b) (hs : a.size <= 1500 /\ b.size <= 1500) : codeX z = 0 /\ Win (pcOf a) (pcOf z) 0 ja 0 /\ Win (pcOf b) (pcOf z) 0 jb ja /\ ((pcOf z).tok (jb + ja)).1 = 0:=by
 obtain ⟨la,hla,rfl,oka⟩:=ha.fin
 obtain ⟨lb,hlb,rfl,okb⟩:=hb.fin
 have e1 : (a ++ (⟨#[10]⟩ : ByteArray)).size = a.size + 1:=by rw [ByteArray.size_append];rfl
 have hzs : z.size = a.size + 1 + b.size:=by rw [hz,ByteArray.size_append,e1]
 have h10 : L.byS z a.size = 10:=by
  rw [hz,byS_left _ _ _ (by rw [e1];omega)]
  have:=byS_right a (⟨#[10]⟩ : ByteArray) 0
  rw [Nat.add_zero] at this
  rw [this];decide
 have key:=L.lex_apart (ga:=L.byS a) (gb:=L.byS b) (gz:=L.byS z) (na:=a.size) (nb:=b.size) (nz:=z.size) hzs (fun j hj=>by rw [hz,byS_left _ _ _ (by rw [e1];omega),byS_left _ _ _ hj]) h10 (fun j hj=>by rw [hz,<- e1,byS_right]) (by omega)
 have ca : (L.lexG (L.byS a) a.size).2.1 = 0:=ha.code
 have cb : (L.lexG (L.byS b) b.size).2.1 = 0:=hb.code
 rw [if_neg (by rw [ca];decide),if_neg (by rw [cb];decide)] at key
 have ta : (L.toksG (L.byS a) a.size (L.gapG (L.byS a) a.size 0) 0).1 = la:=by
  have h : toksX a = (L.toksG (L.byS a) a.size (L.gapG (L.byS a) a.size 0) 0).1 ++ [(0,a.size,a.size)]:=by
   unfold toksX L.lexG
   unfold L.lexG at ca
   split
   ·rename_i h;rw [if_pos h] at ca;cases ca
   ·split
    ·rfl
    ·rename_i h1 h2;rw [if_neg h1,if_neg h2] at ca;exact absurd ca h2
  rw [hla] at h
  exact (List.append_cancel_right h).symm
 have tb : (L.toksG (L.byS b) b.size (L.gapG (L.byS b) b.size 0) 0).1 = lb:=by
  have h : toksX b = (L.toksG (L.byS b) b.size (L.gapG (L.byS b) b.size 0) 0).1 ++ [(0,b.size,b.size)]:=by
   unfold toksX L.lexG
   unfold L.lexG at cb
   split
   ·rename_i h;rw [if_pos h] at cb;cases cb
   ·split
    ·rfl
    ·rename_i h1 h2;rw [if_neg h1,if_neg h2] at cb;exact absurd cb h2
  rw [hlb] at h
  exact (List.append_cancel_right h).symm
 rw [ta,tb] at key
 have hcz : codeX z = 0:=by unfold codeX;rw [key]
 have hzt : toksX z = la ++ (lb ++ [(0,b.size,b.size)]).map (L.moveT (a.size + 1)):=by unfold toksX;rw [key]
 have hlen : (pcOf z).toks.length = la.length + (lb.length + 1):=by show (toksX z).length = _;rw [hzt];simp
 have gA : ∀ k,k < la.length -> (toksX z)[k]? = (toksX a)[k]?:=fun k hk=>by
  rw [hzt,hla,List.getElem?_append_left hk,List.getElem?_append_left hk]
 have gB : ∀ k,(toksX z)[k + la.length]? = ((toksX b)[k]?).map (L.moveT (a.size + 1)):=fun k=>by
  rw [hzt,hlb,List.getElem?_append_right (by omega),show k + la.length - la.length = k by omega,List.getElem?_map]
 refine ⟨hcz,⟨fun k _ hk=>?_,fun k _ hk=>?_,by rw [hlen];omega,rfl,rfl,rfl,rfl⟩,⟨fun k _ hk=>?_,fun k _ hk=>?_,by rw [hlen];omega,rfl,rfl,rfl,rfl⟩,?_⟩
 ·have h1 : (toksX a)[k]? = some la[k]:=by rw [hla,List.getElem?_append_left hk,List.getElem?_eq_getElem hk]
  rw [(tok_get h1).2,Nat.add_zero,(tok_get ((gA k hk).trans h1)).2]
  have:=(oka k hk).2.2.1
  show z.extract la[k].2.1 la[k].2.2 = a.extract la[k].2.1 la[k].2.2
  rw [hz,part_left _ _ _ _ (by rw [e1];omega),part_left _ _ _ _ this]
 ·have h1 : (toksX a)[k]? = some la[k]:=by rw [hla,List.getElem?_append_left hk,List.getElem?_eq_getElem hk]
  rw [(tok_get h1).1,Nat.add_zero,(tok_get ((gA k hk).trans h1)).1]
 ·have h1 : (toksX b)[k]? = some lb[k]:=by rw [hlb,List.getElem?_append_left hk,List.getElem?_eq_getElem hk]
  have h2:=gB k
  rw [h1] at h2
  rw [(tok_get h1).2,(tok_get h2).2]
  show z.extract (a.size + 1 + lb[k].2.1) (a.size + 1 + lb[k].2.2) = b.extract lb[k].2.1 lb[k].2.2
  rw [hz,<- e1,part_right]
 ·have h1 : (toksX b)[k]? = some lb[k]:=by rw [hlb,List.getElem?_append_left hk,List.getElem?_eq_getElem hk]
  have h2:=gB k
  rw [h1] at h2
  rw [(tok_get h1).1,(tok_get h2).1];rfl
 ·have h2:=gB lb.length
  rw [hlb,List.getElem?_append_right (Nat.le_refl _),Nat.sub_self] at h2
  rw [(tok_get h2).1];rfl
theorem both_parsed {ua ub : Fo} {ja jb : Nat} (ha : Cls a ua ja) (hb : Cls b ub jb) (hz : z = a ++ (⟨#[10]⟩ : ByteArray) ++ b) (hs : a.size <= 1500 /\ b.size <= 1500) :
  (ua.len + ub.len <= 64 -> parsedX z = (((ua.shift 0).app (ub.shift ja)).post (pcOf z) 0 ++ [progN (pcOf z) ((ua.shift 0).app (ub.shift ja)) (jb + ja)],0,0)) /\ (64 < ua.len + ub.len -> ∃ y,parsedX z = ([],2,y)):=by
 obtain ⟨hc,wa,wb,hfin⟩:=both_toks ha hb hz hs
 have sa:=cseq_shift ha.seq _ _ wa
 have sb:=cseq_shift hb.seq _ _ wb
 have sa : CSeq (pcOf z) 0 ja (ua.shift 0):=sa
 rw [Nat.zero_add] at sb
 have ss:=cseq_app sa sb
 have el : ((ua.shift 0).app (ub.shift ja)).len = ua.len + ub.len:=by rw [Fo.app_len,Fo.shift_len,Fo.shift_len]
 have es : ((ua.shift 0).app (ub.shift ja)).size = ua.size + ub.size:=by rw [Fo.app_size,Fo.shift_size,Fo.shift_size]
 have q1:=ha.small;have q2:=hb.small
 obtain ⟨p1,p2⟩:=pc_len hc
 refine ⟨fun h=>?_,fun h=>?_⟩
 ·obtain ⟨t,e1,e2⟩:=parse_run (pc_sz hc) (pc_kw hc) p1 p2 (classes_of ss hfin 0 (by omega)) (.inr (by omega))
  rw [parsed_ok hc e1,e2]
 ·obtain ⟨y,e⟩:=parse_over (pc_sz hc) (pc_kw hc) p1 p2 ss (by omega) (by omega)
  exact ⟨y,parsed_bad hc e⟩
end
end Go.Proofs.YtcllbfijhgiclaaGreatDoor.G
