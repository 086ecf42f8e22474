/- For any text and any number,ScopeFinds returns true and leaves its arguments as they were. -/
import Derived.Test.YtfehpdliobapfaaGreatDoorFPaPl
import Derived.Test.YtfehpdliobapfaaGreatDoorFScPl
set_option linter.unusedVariables false
set_option linter.unusedSimpArgs false
namespace Go.Proofs.YtfehpdliobapfaaGreatDoor.G
structure Ty where
 B:Int
 N:ByteArray
 D:Int
 M:ByteArray
 i:Nat
 j:Nat
 e:List Nat
structure An where
 kind:Int
 text:ByteArray
 ty:Option Ty
 num:Int
 i:Nat
 j:Nat
inductive Fo where
 | nil
 | cons (a:An) (kids rest:Fo)
namespace Fo
def size:Fo->Nat
 | nil=>0
 | cons _ k r=>k.size+1+r.size
def app:Fo->Fo->Fo
 | nil,g=>g
 | cons a k r,g=>cons a k (r.app g)
def idx:Fo->Nat->List Nat
 | nil,_=>[]
 | cons _ k r,b=>(b+k.size) :: r.idx (b+k.size+1)
end Fo
def An.nd (C:PC) (a:An) (l:List Nat):Nd :=
 match a.ty with
 | none=>⟨a.kind,(C.tok a.i).2.1,(C.tok (a.j-1)).2.2,l.map Int.ofNat,a.text,0,⟨#[]⟩,0,⟨#[]⟩,a.num,0,0,[]⟩
 | some t=>⟨a.kind,(C.tok a.i).2.1,(C.tok (a.j-1)).2.2,l.map Int.ofNat,a.text,t.B,t.N,t.D,t.M,a.num,(C.tok t.i).2.1,(C.tok (t.j-1)).2.2,t.e.map fun k=>((C.tok k).2.2:Int)⟩
def Fo.post (C:PC):Fo->Nat->List Nd
 | .nil,_=>[]
 | .cons a k r,b=>k.post C b ++ (a.nd C (k.idx b) :: r.post C (b+k.size+1))
def one (a:An) (k:Fo):Fo:=.cons a k .nil
theorem Fo.app_nil (f:Fo):f.app .nil=f:=by
 induction f with
 | nil=>rfl
 | cons a k r _ ih=>show Fo.cons a k (r.app .nil)=_;rw [ih]
theorem Fo.app_assoc (f g h:Fo):(f.app g).app h=f.app (g.app h):=by
 induction f with
 | nil=>rfl
 | cons a k r _ ih=>show Fo.cons a k ((r.app g).app h)=Fo.cons a k (r.app (g.app h));rw [ih]
theorem Fo.app_idx (f g:Fo) (b:Nat):(f.app g).idx b=f.idx b ++ g.idx (b+f.size):=by
 induction f generalizing b with
 | nil=>rfl
 | cons a k r _ ih =>
  show (b+k.size) :: (r.app g).idx (b+k.size+1)=(b+k.size) :: (r.idx (b+k.size+1) ++ g.idx (b+(k.size+1+r.size)))
  rw [ih,show b+k.size+1+r.size=b+(k.size+1+r.size) by omega]
theorem Fo.app_post (C:PC) (f g:Fo) (b:Nat):(f.app g).post C b=f.post C b ++ g.post C (b+f.size):=by
 induction f generalizing b with
 | nil=>rfl
 | cons a k r _ ih =>
  show k.post C b ++ (a.nd C (k.idx b) :: (r.app g).post C (b+k.size+1))=(k.post C b ++ (a.nd C (k.idx b) :: r.post C (b+k.size+1))) ++ g.post C (b+(k.size+1+r.size))
  rw [ih,show b+k.size+1+r.size=b+(k.size+1+r.size) by omega];simp
theorem Fo.post_len (C:PC) (f:Fo) (b:Nat):(f.post C b).length=f.size:=by
 induction f generalizing b with
 | nil=>rfl
 | cons a k r ih1 ih2 =>
  show (k.post C b ++ (a.nd C (k.idx b) :: r.post C (b+k.size+1))).length=k.size+1+r.size
  rw [List.length_append,List.length_cons,ih1,ih2];omega
theorem one_idx (a:An) (k:Fo) (b:Nat):(one a k).idx b=[b+k.size]:=rfl
theorem one_post (C:PC) (a:An) (k:Fo) (b:Nat):(one a k).post C b=k.post C b ++ [a.nd C (k.idx b)]:=rfl
def Ty.free (t:Ty):Bool:=decide (byS t.M t.D.toNat=32) && (decide (0<t.D) || decide (t.B=5))
def Ty.mark (t:Ty) (m:UInt8):Ty:={ t with M:=t.M.extract 0 t.D.toNat ++ ⟨#[m]⟩ }
def Ty.arr (t:Ty) (k:Nat):Ty:={ t with D:=t.D+1,M:=t.M ++ ⟨#[32]⟩,e:=t.e ++ [k] }
def Ty.alone (t:Ty):Bool:=decide (t.B=5) && decide (t.M=⟨#[32]⟩)
structure Wd (C:PC) (i:Nat) (x:ByteArray):Prop where
 word:C.word i=x
 in_:i+1<C.toks.length
inductive TyL (C:PC):Nat->Nat->Ty->Ty->Prop
 | fin {i:Nat} {x:Ty}:TyL C i i x x
 | null {i j:Nat} {x y:Ty} (h:Wd C i (⟨#[63]⟩:ByteArray)) (hf:x.free=true) (t:TyL C (i+1) j (x.mark 63) y):TyL C i j x y
 | arr {i j:Nat} {x y:Ty} (h:Wd C i (⟨#[91]⟩:ByteArray)) (h1:Wd C (i+1) (⟨#[93]⟩:ByteArray)) (hd:x.D≠4) (t:TyL C (i+2) j (x.arr (i+1)) y):TyL C i j x y
def baseT (b:Nat) (x:ByteArray) (i:Nat):Ty:=⟨b,if b=5 then x else ⟨#[]⟩,0,⟨#[32]⟩,i,i+1,[i]⟩
structure Inner (C:PC) (i j:Nat) (t:Ty):Prop where
 in_:i+1<C.toks.length
 name:kindT (C.word i)=5->C.name (C.word i)=true
 rest:∃ y,TyL C (i+1) j (baseT (kindT (C.word i)) (C.word i) i) y/\t={ y with i:=i,j:=j }
inductive Typed (C:PC):Nat->Nat->Ty->Prop
 | inner {i j:Nat} {t:Ty} (hw:C.word i≠(⟨#[79,112,116,105,111,110]⟩:ByteArray)) (h:Inner C i j t):Typed C i j t
 | option {i j:Nat} {t:Ty} (hw:Wd C i (⟨#[79,112,116,105,111,110]⟩:ByteArray)) (h1:Wd C (i+1) (⟨#[60]⟩:ByteArray)) (h:Inner C (i+2) j t) (h2:Wd C j (⟨#[62]⟩:ByteArray)) (hf:t.free=true):Typed C i (j+1) { t.mark 111 with i:=i,j:=j+1 }
inductive Answer (C:PC):Nat->Nat->Ty->Prop
 | void {i:Nat} (hw:Wd C i (⟨#[118,111,105,100]⟩:ByteArray)):Answer C i (i+1) (baseT 6 (C.word i) i)
 | typed {i j:Nat} {t:Ty} (hw:C.word i≠(⟨#[118,111,105,100]⟩:ByteArray)) (h:Typed C i j t):Answer C i j t
inductive Fn where
 | value
 | joined (c:Nat)
 | joinL (c f:Nat) (t:Fo)
 | signed
 | asked
 | askL (f:Nat) (t:Fo)
 | first
 | args
 | many (n:Nat)
 | block
 | stats
 | stat
abbrev litK (k:Nat):Prop:=k=2\/k=3\/k=4
def plainW (x:ByteArray):Prop:=x≠(⟨#[123]⟩:ByteArray)/\x≠(⟨#[105,102]⟩:ByteArray)/\x≠(⟨#[119,104,105,108,101]⟩:ByteArray)/\x≠(⟨#[98,114,101,97,107]⟩:ByteArray)/\x≠(⟨#[99,111,110,116,105,110,117,101]⟩:ByteArray)/\x≠(⟨#[114,101,116,117,114,110]⟩:ByteArray)/\x≠(⟨#[112,114,105,110,116]⟩:ByteArray)/\x≠(⟨#[115,117,112,101,114]⟩:ByteArray)
abbrev constW (x:ByteArray):Prop:=x=(⟨#[116,114,117,101]⟩:ByteArray)\/x=(⟨#[102,97,108,115,101]⟩:ByteArray)\/x=(⟨#[110,117,108,108]⟩:ByteArray)\/x=(⟨#[110,111,110,101]⟩:ByteArray)\/x=(⟨#[116,104,105,115]⟩:ByteArray)
abbrev wrapW (x:ByteArray):Prop:=x=(⟨#[115,111,109,101]⟩:ByteArray)\/x=(⟨#[97,115,107]⟩:ByteArray)\/x=(⟨#[116,111,105,110,116]⟩:ByteArray)\/x=(⟨#[116,111,100,111,117,98,108,101]⟩:ByteArray)
def freeW (x:ByteArray):Prop:=x≠(⟨#[40]⟩:ByteArray)/\¬ constW x/\¬ wrapW x/\x≠(⟨#[105,110,112,117,116]⟩:ByteArray)/\x≠(⟨#[99,97,115,116]⟩:ByteArray)/\x≠(⟨#[110,101,119]⟩:ByteArray)
def decAt (C:PC) (i:Nat):Bool:=declares C ⟨i,0,0,[]⟩
def an (k:Int) (t:ByteArray) (i j:Nat):An:=⟨k,t,none,0,i,j⟩
def ant (k:Int) (t:ByteArray) (ty:Ty) (i j:Nat):An:=⟨k,t,some ty,0,i,j⟩
def Fo.kind:Fo->Int
 | .cons a _ .nil=>a.kind
 | _=>0
inductive Dv (C:PC):Fn->Nat->Nat->Nat->Fo->Prop
 | value {d i j:Nat} {t:Fo} (h:Dv C (.joined 1) d i j t):Dv C .value (d+1) i j t
 | up {d i j:Nat} {t:Fo} (h:Dv C .signed d i j t):Dv C (.joined 7) d i j t
 | joined {c d i k j:Nat} {t u:Fo} (hc:c<=6) (h:Dv C (.joined (c+1)) d i k t) (g:Dv C (.joinL c i t) d k j u):Dv C (.joined c) d i j u
 | joinE {c f d i:Nat} {t:Fo}:Dv C (.joinL c f t) d i i t
 | joinB {c f d i k j:Nat} {t u v:Fo} {x:ByteArray} (hw:Wd C i x) (hb:bindsN x=c) (hx:x≠(⟨#[105,115]⟩:ByteArray)) (h:Dv C (.joined (c+1)) d (i+1) k u) (g:Dv C (.joinL c f (one (an 34 x f k) (t.app u))) d k j v):Dv C (.joinL c f t) d i j v
 | joinS {f d i j:Nat} {t v:Fo} (hw:Wd C i (⟨#[105,115]⟩:ByteArray)) (h1:Wd C (i+1) (⟨#[115,111,109,101]⟩:ByteArray)) (g:Dv C (.joinL 4 f (one (an 43 ⟨#[]⟩ f (i+2)) t)) d (i+2) j v):Dv C (.joinL 4 f t) d i j v
 | joinN {f d i j:Nat} {t v:Fo} (hw:Wd C i (⟨#[105,115]⟩:ByteArray)) (h1:Wd C (i+1) (⟨#[110,111,110,101]⟩:ByteArray)) (g:Dv C (.joinL 4 f (one (an 44 ⟨#[]⟩ f (i+2)) t)) d (i+2) j v):Dv C (.joinL 4 f t) d i j v
 | neg {d i j:Nat} {t:Fo} (hw:Wd C i (⟨#[45]⟩:ByteArray)) (h:Dv C .signed d (i+1) j t):Dv C .signed (d+1) i j (one (an 32 ⟨#[]⟩ i j) t)
 | not {d i j:Nat} {t:Fo} (hw:Wd C i (⟨#[33]⟩:ByteArray)) (h:Dv C .signed d (i+1) j t):Dv C .signed (d+1) i j (one (an 33 ⟨#[]⟩ i j) t)
 | asked {d i j:Nat} {t:Fo} (h1:C.word i≠(⟨#[45]⟩:ByteArray)) (h2:C.word i≠(⟨#[33]⟩:ByteArray)) (h:Dv C .asked d i j t):Dv C .signed d i j t
 | ask {d i k j:Nat} {t u:Fo} (h:Dv C .first d i k t) (g:Dv C (.askL i t) d k j u):Dv C .asked d i j u
 | askE {f d i:Nat} {t:Fo}:Dv C (.askL f t) d i i t
 | guard {f d i j:Nat} {t v:Fo} (hw:Wd C i (⟨#[33]⟩:ByteArray)) (g:Dv C (.askL f (one (an 40 ⟨#[]⟩ f (i+1)) t)) d (i+1) j v):Dv C (.askL f t) d i j v
 | index {f d i k j:Nat} {t u v:Fo} (hw:Wd C i (⟨#[91]⟩:ByteArray)) (h:Dv C .value d (i+1) k u) (h1:Wd C k (⟨#[93]⟩:ByteArray)) (g:Dv C (.askL f (one (an 27 ⟨#[]⟩ f (k+1)) (t.app u))) d (k+1) j v):Dv C (.askL f t) d i j v
 | length {f d i j:Nat} {t v:Fo} (hw:Wd C i (⟨#[46]⟩:ByteArray)) (h1:Wd C (i+1) (⟨#[108,101,110,103,116,104]⟩:ByteArray)) (g:Dv C (.askL f (one (an 28 ⟨#[]⟩ f (i+2)) t)) d (i+2) j v):Dv C (.askL f t) d i j v
 | val {f d i j:Nat} {t v:Fo} (hw:Wd C i (⟨#[46]⟩:ByteArray)) (h1:Wd C (i+1) (⟨#[118,97,108]⟩:ByteArray)) (g:Dv C (.askL f (one (an 45 ⟨#[]⟩ f (i+2)) t)) d (i+2) j v):Dv C (.askL f t) d i j v
 | get {f d i j:Nat} {t v:Fo} {x:ByteArray} (hw:Wd C i (⟨#[46]⟩:ByteArray)) (h1:Wd C (i+1) x) (hl:x≠(⟨#[108,101,110,103,116,104]⟩:ByteArray)) (hv:x≠(⟨#[118,97,108]⟩:ByteArray)) (hn:C.name x=true) (g:Dv C (.askL f (one (an 26 x f (i+2)) t)) d (i+2) j v):Dv C (.askL f t) d i j v
 | call {f d i k j:Nat} {t u v:Fo} {x:ByteArray} (hw:Wd C i (⟨#[46]⟩:ByteArray)) (h1:Wd C (i+1) x) (hl:x≠(⟨#[108,101,110,103,116,104]⟩:ByteArray)) (hv:x≠(⟨#[118,97,108]⟩:ByteArray)) (hn:C.name x=true) (h:Dv C .args d (i+2) k u) (g:Dv C (.askL f (one (an 29 x f k) (t.app u))) d k j v):Dv C (.askL f t) d i j v
 | args0 {d i:Nat} (hw:Wd C i (⟨#[40]⟩:ByteArray)) (h1:Wd C (i+1) (⟨#[41]⟩:ByteArray)):Dv C .args d i (i+2) .nil
 | args {d i k j:Nat} {t u:Fo} (hw:Wd C i (⟨#[40]⟩:ByteArray)) (h0:C.word (i+1)≠(⟨#[41]⟩:ByteArray)) (h:Dv C .value d (i+1) k t) (g:Dv C (.many 1) d k j u) (h1:Wd C j (⟨#[41]⟩:ByteArray)):Dv C .args d i (j+1) (t.app u)
 | manyE {n d i:Nat}:Dv C (.many n) d i i .nil
 | many {n d i k j:Nat} {t u:Fo} (hw:Wd C i (⟨#[44]⟩:ByteArray)) (hn:n≠64) (h:Dv C .value d (i+1) k t) (g:Dv C (.many (n+1)) d k j u):Dv C (.many n) d i j (t.app u)
 | lit {d i:Nat} (hk:litK (C.tok i).1) (hi:i+1<C.toks.length) (h0:(litN C (C.tok i).1 (C.word i)).2=0):Dv C .first d i (i+1) (one ⟨(litN C (C.tok i).1 (C.word i)).1.kind,(litN C (C.tok i).1 (C.word i)).1.text,none,(litN C (C.tok i).1 (C.word i)).1.num,i,i+1⟩ .nil)
 | paren {d i j:Nat} {t:Fo} (hk:¬ litK (C.tok i).1) (hw:Wd C i (⟨#[40]⟩:ByteArray)) (h:Dv C .value d (i+1) j t) (h1:Wd C j (⟨#[41]⟩:ByteArray)):Dv C .first d i (j+1) t
 | const {d i:Nat} {x:ByteArray} (hk:¬ litK (C.tok i).1) (hw:Wd C i x) (hx:constW x):Dv C .first d i (i+1) (one ⟨(constN x).kind,⟨#[]⟩,none,(constN x).num,i,i+1⟩ .nil)
 | wrap {d i j:Nat} {t:Fo} {x:ByteArray} (hk:¬ litK (C.tok i).1) (hw:Wd C i x) (hx:wrapW x) (h1:Wd C (i+1) (⟨#[40]⟩:ByteArray)) (h:Dv C .value d (i+2) j t) (h2:Wd C j (⟨#[41]⟩:ByteArray)):Dv C .first d i (j+1) (one (an (wrapK x) ⟨#[]⟩ i (j+1)) t)
 | input {d i:Nat} (hk:¬ litK (C.tok i).1) (hw:Wd C i (⟨#[105,110,112,117,116]⟩:ByteArray)) (h1:Wd C (i+1) (⟨#[40]⟩:ByteArray)) (h2:Wd C (i+2) (⟨#[41]⟩:ByteArray)):Dv C .first d i (i+3) (one (an 38 ⟨#[]⟩ i (i+3)) .nil)
 | cast {d i k j:Nat} {y:Ty} {t:Fo} (hk:¬ litK (C.tok i).1) (hw:Wd C i (⟨#[99,97,115,116]⟩:ByteArray)) (h1:Wd C (i+1) (⟨#[60]⟩:ByteArray)) (ht:Typed C (i+2) k y) (h2:Wd C k (⟨#[62]⟩:ByteArray)) (h3:Wd C (k+1) (⟨#[40]⟩:ByteArray)) (h:Dv C .value d (k+2) j t) (h4:Wd C j (⟨#[41]⟩:ByteArray)):Dv C .first d i (j+1) (one (ant 35 ⟨#[]⟩ y i (j+1)) t)
 | newA {d i k j:Nat} {y:Ty} {t:Fo} (hk:¬ litK (C.tok i).1) (hw:Wd C i (⟨#[110,101,119]⟩:ByteArray)) (ht:Inner C (i+1) k y) (h1:Wd C k (⟨#[91]⟩:ByteArray)) (h0:C.word (k+1)≠(⟨#[93]⟩:ByteArray)) (h:Dv C .value d (k+1) j t) (h2:Wd C j (⟨#[93]⟩:ByteArray)):Dv C .first d i (j+1) (one (ant 31 ⟨#[]⟩ y i (j+1)) t)
 | newO {d i k j:Nat} {y:Ty} {t:Fo} (hk:¬ litK (C.tok i).1) (hw:Wd C i (⟨#[110,101,119]⟩:ByteArray)) (ht:Inner C (i+1) k y) (ha:y.alone=true) (h:Dv C .args d k j t):Dv C .first d i j (one (ant 30 ⟨#[]⟩ y i j) t)
 | var {d i:Nat} {x:ByteArray} (hk:¬ litK (C.tok i).1) (hw:Wd C i x) (hx:freeW x) (hn:C.name x=true):Dv C .first d i (i+1) (one (an 25 x i (i+1)) .nil)
 | block {d i j:Nat} {t:Fo} (hw:Wd C i (⟨#[123]⟩:ByteArray)) (h:Dv C .stats d (i+1) j t) (h1:Wd C j (⟨#[125]⟩:ByteArray)):Dv C .block (d+1) i (j+1) (one (an 8 ⟨#[]⟩ i (j+1)) t)
 | statsE {d i:Nat}:Dv C .stats d i i .nil
 | stats {d i k j:Nat} {t u:Fo} (hw:C.word i≠(⟨#[125]⟩:ByteArray)) (h:Dv C .stat d i k t) (g:Dv C .stats d k j u):Dv C .stats d i j (t.app u)
 | sBlock {d i j:Nat} {t:Fo} (hw:C.word i=(⟨#[123]⟩:ByteArray)) (h:Dv C .block d i j t):Dv C .stat d i j t
 | sIf {d i k j:Nat} {t u:Fo} (hw:Wd C i (⟨#[105,102]⟩:ByteArray)) (h1:Wd C (i+1) (⟨#[40]⟩:ByteArray)) (h:Dv C .value d (i+2) k t) (h2:Wd C k (⟨#[41]⟩:ByteArray)) (g:Dv C .block d (k+1) j u):Dv C .stat d i j (one (an 11 ⟨#[]⟩ i j) (t.app u))
 | sElse {d i k m j:Nat} {t u v:Fo} (hw:Wd C i (⟨#[105,102]⟩:ByteArray)) (h1:Wd C (i+1) (⟨#[40]⟩:ByteArray)) (h:Dv C .value d (i+2) k t) (h2:Wd C k (⟨#[41]⟩:ByteArray)) (g:Dv C .block d (k+1) m u) (h3:Wd C m (⟨#[101,108,115,101]⟩:ByteArray)) (e:Dv C .block d (m+1) j v):Dv C .stat d i j (one (an 11 ⟨#[]⟩ i j) (t.app (u.app v)))
 | sWhile {d i k j:Nat} {t u:Fo} (hw:Wd C i (⟨#[119,104,105,108,101]⟩:ByteArray)) (h1:Wd C (i+1) (⟨#[40]⟩:ByteArray)) (h:Dv C .value d (i+2) k t) (h2:Wd C k (⟨#[41]⟩:ByteArray)) (g:Dv C .block d (k+1) j u):Dv C .stat d i j (one (an 12 ⟨#[]⟩ i j) (t.app u))
 | sBreak {d i:Nat} (hw:Wd C i (⟨#[98,114,101,97,107]⟩:ByteArray)) (h1:Wd C (i+1) (⟨#[59]⟩:ByteArray)):Dv C .stat d i (i+2) (one (an 13 ⟨#[]⟩ i (i+2)) .nil)
 | sCont {d i:Nat} (hw:Wd C i (⟨#[99,111,110,116,105,110,117,101]⟩:ByteArray)) (h1:Wd C (i+1) (⟨#[59]⟩:ByteArray)):Dv C .stat d i (i+2) (one (an 14 ⟨#[]⟩ i (i+2)) .nil)
 | sRet0 {d i:Nat} (hw:Wd C i (⟨#[114,101,116,117,114,110]⟩:ByteArray)) (h1:Wd C (i+1) (⟨#[59]⟩:ByteArray)):Dv C .stat d i (i+2) (one (an 15 ⟨#[]⟩ i (i+2)) .nil)
 | sRet {d i j:Nat} {t:Fo} (hw:Wd C i (⟨#[114,101,116,117,114,110]⟩:ByteArray)) (h0:C.word (i+1)≠(⟨#[59]⟩:ByteArray)) (h:Dv C .value d (i+1) j t) (h1:Wd C j (⟨#[59]⟩:ByteArray)):Dv C .stat d i (j+1) (one (an 15 ⟨#[]⟩ i (j+1)) t)
 | sPrint {d i j:Nat} {t:Fo} (hw:Wd C i (⟨#[112,114,105,110,116]⟩:ByteArray)) (h1:Wd C (i+1) (⟨#[40]⟩:ByteArray)) (h:Dv C .value d (i+2) j t) (h2:Wd C j (⟨#[41]⟩:ByteArray)) (h3:Wd C (j+1) (⟨#[59]⟩:ByteArray)):Dv C .stat d i (j+2) (one (an 16 ⟨#[]⟩ i (j+2)) t)
 | sSuper {d i j:Nat} {t:Fo} (hw:Wd C i (⟨#[115,117,112,101,114]⟩:ByteArray)) (h:Dv C .args d (i+1) j t) (h1:Wd C j (⟨#[59]⟩:ByteArray)):Dv C .stat d i (j+1) (one (an 17 ⟨#[]⟩ i (j+1)) t)
 | sDecl0 {d i k:Nat} {y:Ty} {x:ByteArray} (hp:plainW (C.word i)) (hd:decAt C i=true) (ht:Typed C i k y) (h1:Wd C k x) (hn:C.name x=true) (h2:Wd C (k+1) (⟨#[59]⟩:ByteArray)):Dv C .stat d i (k+2) (one (ant 9 x y i (k+2)) .nil)
 | sDecl {d i k j:Nat} {y:Ty} {x:ByteArray} {t:Fo} (hp:plainW (C.word i)) (hd:decAt C i=true) (ht:Typed C i k y) (h1:Wd C k x) (hn:C.name x=true) (h2:Wd C (k+1) (⟨#[61]⟩:ByteArray)) (h:Dv C .value d (k+2) j t) (h3:Wd C j (⟨#[59]⟩:ByteArray)):Dv C .stat d i (j+1) (one (ant 9 x y i (j+1)) t)
 | sSet {d i k j:Nat} {t u:Fo} (hp:plainW (C.word i)) (hd:decAt C i=false) (h:Dv C .value d i k t) (hk:t.kind=25\/t.kind=26\/t.kind=27) (h1:Wd C k (⟨#[61]⟩:ByteArray)) (g:Dv C .value d (k+1) j u) (h2:Wd C j (⟨#[59]⟩:ByteArray)):Dv C .stat d i (j+1) (one (an 10 ⟨#[]⟩ i (j+1)) (t.app u))
 | sExpr {d i j:Nat} {t:Fo} (hp:plainW (C.word i)) (hd:decAt C i=false) (h:Dv C .value d i j t) (hk:t.kind=29\/t.kind=30) (h1:Wd C j (⟨#[59]⟩:ByteArray)):Dv C .stat d i (j+1) (one (an 18 ⟨#[]⟩ i (j+1)) t)
structure Param (C:PC) (i j:Nat) (t:Fo):Prop where
 is:∃ (k:Nat) (y:Ty) (x:ByteArray),Typed C i k y/\Wd C k x/\C.name x=true/\j=k+1/\t=one (ant 7 x y i (k+1)) .nil
inductive ParamL (C:PC):Nat->Nat->Nat->Fo->Prop
 | fin {n i:Nat}:ParamL C n i i .nil
 | more {n i k j:Nat} {t u:Fo} (hw:Wd C i (⟨#[44]⟩:ByteArray)) (hn:n≠64) (h:Param C (i+1) k t) (g:ParamL C (n+1) k j u):ParamL C n i j (t.app u)
inductive Params (C:PC):Nat->Nat->Fo->Prop
 | none {i:Nat} (hw:Wd C i (⟨#[40]⟩:ByteArray)) (h1:Wd C (i+1) (⟨#[41]⟩:ByteArray)):Params C i (i+2) .nil
 | some {i k j:Nat} {t u:Fo} (hw:Wd C i (⟨#[40]⟩:ByteArray)) (h0:C.word (i+1)≠(⟨#[41]⟩:ByteArray)) (h:Param C (i+1) k t) (g:ParamL C 1 k j u) (h1:Wd C j (⟨#[41]⟩:ByteArray)):Params C i (j+1) (t.app u)
inductive Member (C:PC):Nat->Nat->Fo->Prop
 | init {i k j:Nat} {t u:Fo} (hw:Wd C i (⟨#[105,110,105,116]⟩:ByteArray)) (hp:Params C (i+1) k t) (hb:Dv C .block 60 k j u):Member C i j (one (an 5 ⟨#[]⟩ i j) (t.app u))
 | method {i k m j:Nat} {y:Ty} {x:ByteArray} {t u:Fo} (hw:C.word i≠(⟨#[105,110,105,116]⟩:ByteArray)) (ha:Answer C i k y) (h1:Wd C k x) (hn:C.name x=true) (hp:Params C (k+1) m t) (hb:Dv C .block 60 m j u):Member C i j (one (ant 6 x y i j) (t.app u))
 | field {i k:Nat} {y:Ty} {x:ByteArray} (hw:C.word i≠(⟨#[105,110,105,116]⟩:ByteArray)) (ha:Answer C i k y) (h1:Wd C k x) (hn:C.name x=true) (hv:y.B≠6) (h2:Wd C (k+1) (⟨#[59]⟩:ByteArray)):Member C i (k+2) (one (ant 4 x y i (k+2)) .nil)
inductive Members (C:PC):Nat->Nat->Nat->Fo->Prop
 | fin {n i:Nat}:Members C n i i .nil
 | more {n i k j:Nat} {t u:Fo} (hw:C.word i≠(⟨#[125]⟩:ByteArray)) (hn:n≠64) (h:Member C i k t) (g:Members C (n+1) k j u):Members C n i j (t.app u)
inductive Class (C:PC):Nat->Nat->Fo->Prop
 | base {i j:Nat} {x:ByteArray} {t:Fo} (hw:Wd C i (⟨#[99,108,97,115,115]⟩:ByteArray)) (h1:Wd C (i+1) x) (hn:C.name x=true) (h2:Wd C (i+2) (⟨#[123]⟩:ByteArray)) (h:Members C 0 (i+3) j t) (h3:Wd C j (⟨#[125]⟩:ByteArray)):Class C i (j+1) (one (an 2 x i (j+1)) t)
 | ext {i j:Nat} {x y:ByteArray} {t:Fo} (hw:Wd C i (⟨#[99,108,97,115,115]⟩:ByteArray)) (h1:Wd C (i+1) x) (hn:C.name x=true) (h2:Wd C (i+2) (⟨#[101,120,116,101,110,100,115]⟩:ByteArray)) (h3:Wd C (i+3) y) (hm:C.name y=true) (h4:Wd C (i+4) (⟨#[123]⟩:ByteArray)) (h:Members C 1 (i+5) j t) (h5:Wd C j (⟨#[125]⟩:ByteArray)):Class C i (j+1) (one (an 2 x i (j+1)) ((one (an 3 y (i+2) (i+4)) .nil).app t))
inductive Classes (C:PC):Nat->Nat->Nat->Fo->Prop
 | fin {n i:Nat} (hk:(C.tok i).1=0):Classes C n i i .nil
 | more {n i k j:Nat} {t u:Fo} (hk:(C.tok i).1≠0) (hn:n≠64) (h:Class C i k t) (g:Classes C (n+1) k j u):Classes C n i j (t.app u)
end Go.Proofs.YtfehpdliobapfaaGreatDoor.G
namespace Go.Proofs.YtfehpdliobapfaaGreatDoor.G
section
variable {α β : Type} {C:PC} {s t v:PS} {l m:List Nat} {u w:Fo} {n f c:Nat} {x:ByteArray}
theorem bnd_inv {m:PM α} {k : α -> PM β} {b : β} (h:bnd m k s = .ok b t):∃ a v,m s = .ok a v/\k a v = .ok b t:=by
 unfold bnd at h
 cases hm:m s with
 | ok a v=>rw [hm] at h;exact ⟨a,v,rfl,h⟩
 | bad c z=>rw [hm] at h;cases h
 | out=>rw [hm] at h;cases h
theorem ite_inv {p:Prop} [Decidable p] {m n:PM α} {r:PR α} (h:(if p then m else n) s=r):(p/\m s=r)\/(¬ p/\n s=r):=by
 by_cases hp:p
 ·rw [if_pos hp] at h;exact .inl ⟨hp,h⟩
 ·rw [if_neg hp] at h;exact .inr ⟨hp,h⟩
theorem ret_inv {a b : α} (h:ret a s = .ok b t):b=a/\t=s:=by
 unfold ret at h
 cases h;exact ⟨rfl,rfl⟩
theorem read_inv (h:readP C s = .ok x t):s.over=0/\s.next+1<C.toks.length/\x=C.word s.next/\t=⟨s.next+1,s.deep,s.over,s.made⟩:=by
 unfold readP at h
 by_cases h1:s.next+1<C.toks.length
 ·rw [if_pos h1] at h
  by_cases h2:s.over=0
  ·rw [if_pos h2] at h;cases h;exact ⟨h2,h1,rfl,rfl⟩
  ·rw [if_neg h2] at h;cases h
 ·rw [if_neg h1] at h;cases h
theorem take_inv {b:Bool} (h:takeP C x s = .ok b t):(b=true/\s.over=0/\Wd C s.next x/\t=⟨s.next+1,s.deep,s.over,s.made⟩)\/(b=false/\C.word s.next≠x/\s=t):=by
 have h:(if sees C x s=true then bnd (readP C) fun _=>ret true else ret false) s = .ok b t:=h
 rcases ite_inv h with ⟨h1,h⟩|⟨h1,h⟩
 ·obtain ⟨a,v,h2,h3⟩:=bnd_inv h
  obtain ⟨rfl,rfl⟩:=ret_inv h3
  obtain ⟨o,i,-,e⟩:=read_inv h2
  exact .inl ⟨rfl,o,⟨of_decide_eq_true h1,i⟩,e⟩
 ·obtain ⟨rfl,rfl⟩:=ret_inv h
  exact .inr ⟨rfl,fun e=>h1 (decide_eq_true e),rfl⟩
theorem want_inv (h:wantP C x s = .ok () t):s.over=0/\Wd C s.next x/\t=⟨s.next+1,s.deep,s.over,s.made⟩:=by
 obtain ⟨b,v,h1,h2⟩:=bnd_inv h
 rcases take_inv h1 with ⟨rfl,o,hw,rfl⟩|⟨rfl,-,rfl⟩
 ·obtain ⟨-,rfl⟩:=ret_inv h2
  exact ⟨o,hw,rfl⟩
 ·cases h2
theorem name_inv (h:nameP C s = .ok x t):s.over=0/\Wd C s.next x/\C.name x=true/\t=⟨s.next+1,s.deep,s.over,s.made⟩:=by
 have h:(if C.name (C.word s.next)=true then readP C else look (fromS C) fun f=>thr 80 f) s = .ok x t:=h
 rcases ite_inv h with ⟨h1,h⟩|⟨h1,h⟩
 ·obtain ⟨o,i,rfl,e⟩:=read_inv h
  exact ⟨o,⟨rfl,i⟩,h1,e⟩
 ·cases h
theorem enter_inv {a:Unit} (h:enterP s = .ok a t):t=⟨s.next,s.deep+1,if s.deep=60 then 6 else s.over,s.made⟩:=by cases h;rfl
theorem leave_inv {a:Unit} (h:leaveP s = .ok a t):t=⟨s.next,s.deep-1,s.over,s.made⟩:=by
 unfold leaveP at h
 by_cases h0:s.deep=0
 ·rw [if_pos h0] at h;cases h
 ·rw [if_neg h0] at h;cases h;rfl
theorem more_inv {a:Unit} (h:moreP n s = .ok a t):t=⟨s.next,s.deep,if n=64 then 2 else s.over,s.made⟩:=by cases h;rfl
theorem cap_inv {a:Unit} (h:capP l s = .ok a t):s=t:=by
 unfold capP at h
 split at h
 ·cases h;rfl
 ·cases h
theorem make_inv {y:Nd} (h:makeP C y f s = .ok n t):n=s.made.length/\t=⟨s.next,s.deep,s.over,s.made ++ [{ y with sf:=f,st:=endS C s }]⟩/\s.made.length≠8192:=by
 unfold makeP at h
 split at h
 ·cases h
 ·split at h
  ·cases h
  ·rename_i h2
   cases h;exact ⟨rfl,rfl,h2⟩
structure Got (C:PC) (s t:PS) (l:List Nat) (u:Fo):Prop where
 o0:s.over=0
 o1:t.over=0
 deep:t.deep=s.deep
 idx:u.idx s.made.length=l
 made:t.made=s.made ++ u.post C s.made.length
theorem Got.refl (h:s.over=0):Got C s s [] .nil:=⟨h,h,rfl,rfl,by show _=s.made ++ [];simp⟩
theorem Got.app (h:Got C s t l u) (g:Got C t v m w):Got C s v (l ++ m) (u.app w):=by
 have e:t.made.length=s.made.length+u.size:=by rw [h.made,List.length_append,Fo.post_len]
 refine ⟨h.o0,g.o1,by rw [g.deep,h.deep],?_,?_⟩
 ·rw [Fo.app_idx,h.idx,<- e,g.idx]
 ·rw [g.made,e,h.made,Fo.app_post,List.append_assoc]
theorem Got.to (h:Got C s t l u) (k:Nat):Got C s ⟨k,t.deep,t.over,t.made⟩ l u:=⟨h.o0,h.o1,h.deep,h.idx,h.made⟩
theorem Got.from_ {k:Nat} (h:Got C ⟨k,s.deep,s.over,s.made⟩ t l u):Got C s t l u:=⟨h.o0,h.o1,h.deep,h.idx,h.made⟩
theorem Got.node {y:Nd} {a:An} (h:Got C s t l u) (hm:makeP C y f t = .ok n v) (hy:{ y with sf:=(f:Int),st:=(endS C t:Int) }=a.nd C l):Got C s v [n] (one a u)/\v.next=t.next:=by
 obtain ⟨rfl,rfl,-⟩:=make_inv hm
 have e:t.made.length=s.made.length+u.size:=by rw [h.made,List.length_append,Fo.post_len]
 refine ⟨⟨h.o0,h.o1,h.deep,?_,?_⟩,rfl⟩
 ·rw [one_idx,e]
 ·show t.made ++ [_]=_
  rw [hy,one_post,h.made,h.idx,List.append_assoc]
def Snd (C:PC) (m:PM Nat) (g:Fn):Prop:=∀ s n t,(s.over=0->s.deep<=60)->m s = .ok n t->∃ u,Dv C g (60-s.deep) s.next t.next u/\Got C s t [n] u
theorem Got.le (h:Got C s t l u) (hd:s.over=0->s.deep<=60):t.over=0->t.deep<=60:=fun _=>by rw [h.deep];exact hd h.o0
def Ty.raw (C:PC) (y:Ty):Nd:=⟨0,0,0,[],⟨#[]⟩,y.B,y.N,y.D,y.M,0,0,0,y.e.map fun k=>((C.tok k).2.2:Int)⟩
def Ty.nd (C:PC) (y:Ty):Nd:={ y.raw C with wf:=(C.tok y.i).2.1,wt:=(C.tok (y.j-1)).2.2 }
theorem base_inv {b:Nat} {y:Nd} (h:baseP C b s = .ok y t):s.over=0/\s.next+1<C.toks.length/\(b=5->C.name (C.word s.next)=true)/\y=(baseT b (C.word s.next) s.next).raw C/\t=⟨s.next+1,s.deep,s.over,s.made⟩:=by
 obtain ⟨z,v,h1,h2⟩:=bnd_inv h
 have h2:PR.ok _ v=PR.ok y t:=h2
 rcases ite_inv h1 with ⟨hb,h1⟩|⟨hb,h1⟩
 ·obtain ⟨o,hw,hn,rfl⟩:=name_inv h1
  injection h2 with e1 e2
  subst e1 e2 hb
  refine ⟨o,hw.in_,fun _=>by rw [hw.word];exact hn,?_,rfl⟩
  rw [hw.word];rfl
 ·obtain ⟨a,v',h3,h4⟩:=bnd_inv h1
  obtain ⟨rfl,rfl⟩:=ret_inv h4
  obtain ⟨o,i,-,rfl⟩:=read_inv h3
  injection h2 with e1 e2
  subst e1 e2
  refine ⟨o,i,fun e=>absurd e hb,?_,rfl⟩
  unfold baseT;rw [if_neg hb];rfl
theorem null_inv {y:Ty} {z:Nd} (h:nullP C (y.raw C) s = .ok z t):s.over=0/\Wd C s.next (⟨#[63]⟩:ByteArray)/\y.free=true/\z=(y.mark 63).raw C/\t=⟨s.next+1,s.deep,s.over,s.made⟩:=by
 have h:(if typeB (y.raw C)=false then stop else if freeB (y.raw C)=false then thr 81 (fromS C s) else bnd (wantP C (⟨#[63]⟩:ByteArray)) fun _=>ret (markT (y.raw C) 63)) s = .ok z t:=h
 rcases ite_inv h with ⟨-,h⟩|⟨-,h⟩
 ·cases h
 ·rcases ite_inv h with ⟨-,h⟩|⟨hf,h⟩
  ·cases h
  ·obtain ⟨_,v,h1,h2⟩:=bnd_inv h
   obtain ⟨o,hw,rfl⟩:=want_inv h1
   obtain ⟨rfl,rfl⟩:=ret_inv h2
   exact ⟨o,hw,(Bool.not_eq_false _).mp hf,rfl,rfl⟩
theorem array_inv {y:Ty} {z:Nd} (h:arrayP C (y.raw C) s = .ok z t):s.over=0/\Wd C s.next (⟨#[91]⟩:ByteArray)/\Wd C (s.next+1) (⟨#[93]⟩:ByteArray)/\y.D≠4/\z=(y.arr (s.next+1)).raw C/\t=⟨s.next+2,s.deep,s.over,s.made⟩:=by
 obtain ⟨_,v,h1,h⟩:=bnd_inv (show bnd (wantP C (⟨#[91]⟩:ByteArray)) _ s = .ok z t from h)
 obtain ⟨_,v',h2,h⟩:=bnd_inv h
 obtain ⟨o,hw,rfl⟩:=want_inv h1
 obtain ⟨-,hw2,rfl⟩:=want_inv h2
 rcases ite_inv h with ⟨-,h⟩|⟨-,h⟩
 ·cases h
 ·rcases ite_inv h with ⟨-,h⟩|⟨hd,h⟩
  ·cases h
  ·have h:PR.ok _ _=PR.ok z t:=h
   injection h with e1 e2
   subst e1 e2
   refine ⟨o,hw,hw2,hd,?_,rfl⟩
   unfold Ty.raw Ty.arr
   simp [endS]
theorem inner_loop_inv {an:Bool} {f:Nat}:∀ (k:Nat) (y:Ty) (s:PS) (z:Nd) (t:PS),s.over=0->innerL C an f k (y.raw C) s = .ok z t->∃ y',TyL C s.next t.next y y'/\z={ y'.raw C with wf:=f,wt:=(C.tok (t.next-1)).2.2 }/\t=⟨t.next,s.deep,s.over,s.made⟩/\C.word t.next≠(⟨#[63]⟩:ByteArray)/\(C.word t.next=(⟨#[91]⟩:ByteArray)->an=true/\C.word (t.next+1)≠(⟨#[93]⟩:ByteArray))
 | 0,y,s,z,t,o,h=>by cases h
 | k+1,y,s,z,t,o,h=>by
  have h:(if C.word s.next=(⟨#[63]⟩:ByteArray) then bnd (nullP C (y.raw C)) fun m=>innerL C an f k m else if C.word s.next=(⟨#[91]⟩:ByteArray)/\¬ (an=true/\C.word (s.next+1)≠(⟨#[93]⟩:ByteArray)) then bnd (arrayP C (y.raw C)) fun m=>innerL C an f k m else look (endS C) fun e=>ret { y.raw C with wf:=f,wt:=e }) s = .ok z t:=h
  rcases ite_inv h with ⟨-,h⟩|⟨h63,h⟩
  ·obtain ⟨a,v,h1,h2⟩:=bnd_inv h
   obtain ⟨-,hw,hf,rfl,rfl⟩:=null_inv h1
   obtain ⟨y',g1,g2,g3,g4⟩:=inner_loop_inv k _ _ _ _ (by exact o) h2
   exact ⟨y',.null hw hf g1,g2,g3,g4⟩
  ·rcases ite_inv h with ⟨-,h⟩|⟨h91,h⟩
   ·obtain ⟨a,v,h1,h2⟩:=bnd_inv h
    obtain ⟨-,hw,hw2,hd,rfl,rfl⟩:=array_inv h1
    obtain ⟨y',g1,g2,g3,g4⟩:=inner_loop_inv k _ _ _ _ (by exact o) h2
    exact ⟨y',.arr hw hw2 hd g1,g2,g3,g4⟩
   ·have h:PR.ok _ _=PR.ok z t:=h
    injection h with e1 e2
    subst e1 e2
    exact ⟨y,.fin,rfl,rfl,h63,fun e=>Classical.not_not.1 fun hh=>h91 ⟨e,hh⟩⟩
theorem inner_inv {an:Bool} {z:Nd} (h:innerP C an s = .ok z t):s.over=0/\∃ y k,Inner C s.next k y/\z=y.nd C/\t=⟨k,s.deep,s.over,s.made⟩/\C.word k≠(⟨#[63]⟩:ByteArray)/\(C.word k=(⟨#[91]⟩:ByteArray)->an=true/\C.word (k+1)≠(⟨#[93]⟩:ByteArray)):=by
 obtain ⟨a,v,h1,h2⟩:=bnd_inv (show bnd (baseP C (kindT (C.word s.next))) (fun n=>innerL C an (fromS C s) C.toks.length n) s = .ok z t from h)
 obtain ⟨o,hi,hn,rfl,rfl⟩:=base_inv h1
 obtain ⟨y,g1,rfl,g3,g4,g5⟩:=inner_loop_inv _ _ _ _ _ (by exact o) h2
 exact ⟨o,_,t.next,⟨hi,hn,y,g1,rfl⟩,rfl,g3,g4,g5⟩
theorem typed_inv {z:Nd} (h:typedP C s = .ok z t):s.over=0/\∃ y k,Typed C s.next k y/\z=y.nd C/\t=⟨k,s.deep,s.over,s.made⟩:=by
 obtain ⟨b,v,h1,h⟩:=bnd_inv (show bnd (takeP C (⟨#[79,112,116,105,111,110]⟩:ByteArray)) _ s = .ok z t from h)
 rcases take_inv h1 with ⟨rfl,o,hw,rfl⟩|⟨rfl,hw,rfl⟩
 ·rw [if_pos rfl] at h
  obtain ⟨_,v,h2,h⟩:=bnd_inv h
  obtain ⟨-,hw2,rfl⟩:=want_inv h2
  obtain ⟨a,v,h3,h⟩:=bnd_inv h
  obtain ⟨-,y,k,hi,rfl,rfl,-⟩:=inner_inv h3
  obtain ⟨_,v',h4,h⟩:=bnd_inv h
  obtain ⟨-,hw3,rfl⟩:=want_inv h4
  rcases ite_inv h with ⟨-,h⟩|⟨-,h⟩
  ·cases h
  ·rcases ite_inv h with ⟨-,h⟩|⟨hf,h⟩
   ·cases h
   ·have h:PR.ok _ _=PR.ok z t:=h
    injection h with e1 e2
    subst e1 e2
    exact ⟨o,_,_,.option hw hw2 hi hw3 ((Bool.not_eq_false _).mp hf),rfl,rfl⟩
 ·rw [if_neg (by simp)] at h
  obtain ⟨o,y,k,hi,rfl,hv,-⟩:=inner_inv h
  exact ⟨o,y,k,.inner hw hi,rfl,hv⟩
theorem answer_inv {z:Nd} (h:answerP C s = .ok z t):s.over=0/\∃ y k,Answer C s.next k y/\z=y.nd C/\t=⟨k,s.deep,s.over,s.made⟩:=by
 have h:(if sees C (⟨#[118,111,105,100]⟩:ByteArray) s=true then look (fromS C) fun f=>bnd (baseP C 6) fun n=>look (endS C) fun e=>ret { n with wf:=f,wt:=e } else typedP C) s = .ok z t:=h
 rcases ite_inv h with ⟨h1,h⟩|⟨h1,h⟩
 ·obtain ⟨a,v,h2,h⟩:=bnd_inv (show bnd (baseP C 6) (fun n=>look (endS C) fun e=>ret { n with wf:=(fromS C s:Int),wt:=e }) s = .ok z t from h)
  obtain ⟨o,hi,-,rfl,rfl⟩:=base_inv h2
  have h:PR.ok _ _=PR.ok z t:=h
  injection h with e1 e2
  subst e1 e2
  exact ⟨o,_,_,.void ⟨of_decide_eq_true h1,hi⟩,rfl,rfl⟩
 ·obtain ⟨o,y,k,hi,rfl,hv⟩:=typed_inv h
  exact ⟨o,y,k,.typed (fun e=>h1 (decide_eq_true e)) hi,rfl,hv⟩
end
end Go.Proofs.YtfehpdliobapfaaGreatDoor.G
namespace Go.Proofs.YtfehpdliobapfaaGreatDoor.G
inductive ManyR (C:PC) (R:Nat->Nat->Fo->Prop):Nat->Nat->Nat->Fo->Prop
 | fin {n i:Nat}:ManyR C R n i i .nil
 | more {n i k j:Nat} {t u:Fo} (hw:Wd C i (⟨#[44]⟩:ByteArray)) (hn:n≠64) (h:R (i+1) k t) (g:ManyR C R (n+1) k j u):ManyR C R n i j (t.app u)
inductive ListR (C:PC) (R:Nat->Nat->Fo->Prop):Nat->Nat->Fo->Prop
 | none {i:Nat} (hw:Wd C i (⟨#[40]⟩:ByteArray)) (h1:Wd C (i+1) (⟨#[41]⟩:ByteArray)):ListR C R i (i+2) .nil
 | some {i k j:Nat} {t u:Fo} (hw:Wd C i (⟨#[40]⟩:ByteArray)) (h0:C.word (i+1)≠(⟨#[41]⟩:ByteArray)) (h:R (i+1) k t) (g:ManyR C R 1 k j u) (h1:Wd C j (⟨#[41]⟩:ByteArray)):ListR C R i (j+1) (t.app u)
section
variable {C:PC} {s t v:PS} {l m:List Nat} {u w:Fo} {n f c d:Nat} {x:ByteArray} {R:Nat->Nat->Fo->Prop} {value block stat part:PM Nat}
theorem many_dv {n i j:Nat} {u:Fo} (h:ManyR C (Dv C .value d) n i j u):Dv C (.many n) d i j u:=by
 induction h with
 | fin=>exact .manyE
 | more hw hn h _ ih=>exact .many hw hn h ih
theorem list_dv {i j:Nat} {u:Fo} (h:ListR C (Dv C .value d) i j u):Dv C .args d i j u:=by
 cases h with
 | none hw h1=>exact .args0 hw h1
 | some hw h0 h g h1=>exact .args hw h0 h (many_dv g) h1
theorem many_par {n i j:Nat} {u:Fo} (h:ManyR C (Param C) n i j u):ParamL C n i j u:=by
 induction h with
 | fin=>exact .fin
 | more hw hn h _ ih=>exact .more hw hn h ih
theorem list_par {i j:Nat} {u:Fo} (h:ListR C (Param C) i j u):Params C i j u:=by
 cases h with
 | none hw h1=>exact .none hw h1
 | some hw h0 h g h1=>exact .some hw h0 h (many_par g) h1
def SndR (C:PC) (d:Nat) (m:PM Nat) (R:Nat->Nat->Fo->Prop):Prop:=∀ s n t,s.deep=d->(s.over=0->d<=60)->m s = .ok n t->∃ u,R s.next t.next u/\Got C s t [n] u
theorem Snd.at_ {g:Fn} {m:PM Nat} (h:Snd C m g) (d:Nat):SndR C d m (Dv C g (60-d)):=fun s n t hd ho hm=>by
 obtain ⟨u,h1,h2⟩:=h s n t (fun o=>by rw [hd];exact ho o) hm
 rw [hd] at h1
 exact ⟨u,h1,h2⟩
theorem many_inv {one:PM Nat} (h1:SndR C d one R) (hd:d<=60):∀ (k:Nat) (l:List Nat) (s0 s:PS) (F:Fo) (r:List Nat) (t:PS),Got C s0 s l F->s.deep=d->manyP C one k l s = .ok r t->∃ u,ManyR C R l.length s.next t.next u/\Got C s0 t r (F.app u)
 | 0,l,s0,s,F,r,t,hg,hs,h=>by cases h
 | k+1,l,s0,s,F,r,t,hg,hs,h=>by
  obtain ⟨_,v,h2,h⟩:=bnd_inv h
  obtain rfl:=cap_inv h2
  obtain ⟨b,v,h3,h⟩:=bnd_inv h
  rcases take_inv h3 with ⟨rfl,o,hw,rfl⟩|⟨rfl,hw,rfl⟩
  ·rw [if_pos rfl] at h
   obtain ⟨_,v,h4,h⟩:=bnd_inv h
   obtain rfl:=more_inv h4
   obtain ⟨a,v',h5,h⟩:=bnd_inv h
   obtain ⟨u,r1,r2⟩:=h1 _ _ _ (by exact hs) (fun _=>hd) h5
   have ho:=r2.o0
   have hn:l.length≠64:=fun e=>by simp [e] at ho
   simp only [if_neg hn] at r2
   have r3:=hg.app (Got.from_ r2)
   obtain ⟨u',r4,r5⟩:=many_inv h1 hd k _ s0 v' _ r t r3 (by rw [r2.deep];exact hs) h
   rw [List.length_append] at r4
   exact ⟨u.app u',.more hw hn r1 r4,by rw [<- Fo.app_assoc];exact r5⟩
  ·rw [if_neg (by simp)] at h
   obtain ⟨rfl,rfl⟩:=ret_inv h
   exact ⟨.nil,.fin,by rw [Fo.app_nil];exact hg⟩
theorem list_inv {one:PM Nat} {r:List Nat} (h1:SndR C s.deep one R) (hd:s.over=0->s.deep<=60) (h:listP C one s = .ok r t):∃ u,ListR C R s.next t.next u/\Got C s t r u:=by
 obtain ⟨_,v,h2,h⟩:=bnd_inv h
 obtain ⟨o,hw,rfl⟩:=want_inv h2
 have hd:=hd o
 obtain ⟨b,v,h3,h⟩:=bnd_inv h
 rcases take_inv h3 with ⟨rfl,-,hw2,rfl⟩|⟨rfl,hw2,rfl⟩
 ·rw [if_pos rfl] at h
  obtain ⟨rfl,rfl⟩:=ret_inv h
  exact ⟨.nil,.none hw hw2,(Got.refl o).to _⟩
 ·rw [if_neg (by simp)] at h
  obtain ⟨a,v,h4,h⟩:=bnd_inv h
  obtain ⟨u,r1,r2⟩:=h1 _ _ _ (by rfl) (fun _=>hd) h4
  obtain ⟨r',v',h5,h⟩:=bnd_inv h
  obtain ⟨u',r3,r4⟩:=many_inv h1 hd _ _ _ _ _ _ _ (Got.from_ r2) (by rw [r2.deep]) h5
  obtain ⟨_,v2,h6,h⟩:=bnd_inv h
  obtain ⟨-,hw3,rfl⟩:=want_inv h6
  obtain ⟨rfl,rfl⟩:=ret_inv h
  exact ⟨_,.some hw hw2 r1 r3 hw3,r4.to _⟩
theorem args_inv {r:List Nat} (hv:Snd C value .value) (hd:s.over=0->s.deep<=60) (h:listP C value s = .ok r t):∃ u,Dv C .args (60-s.deep) s.next t.next u/\Got C s t r u:=by
 obtain ⟨u,h1,h2⟩:=list_inv (hv.at_ s.deep) hd h
 exact ⟨u,list_dv h1,h2⟩
theorem args_at {g:Fn} {i j:Nat} (h:Dv C g d i j u) (hg:g = .args):C.word i=(⟨#[40]⟩:ByteArray):=by
 cases h with
 | args0 hw _=>exact hw.word
 | args hw _ _ _ _=>exact hw.word
 | _=>cases hg
theorem within_inv (hv:Snd C value .value) (hd:s.over=0->s.deep<=60) (h:withinP C value s = .ok n t):∃ u j,Wd C s.next (⟨#[40]⟩:ByteArray)/\Dv C .value (60-s.deep) (s.next+1) j u/\Wd C j (⟨#[41]⟩:ByteArray)/\t.next=j+1/\Got C s t [n] u:=by
 obtain ⟨_,v,h2,h⟩:=bnd_inv h
 obtain ⟨o,hw,rfl⟩:=want_inv h2
 obtain ⟨a,v,h3,h⟩:=bnd_inv h
 obtain ⟨u,r1,r2⟩:=hv _ _ _ (by exact hd) h3
 obtain ⟨_,v',h4,h⟩:=bnd_inv h
 obtain ⟨-,hw2,rfl⟩:=want_inv h4
 obtain ⟨rfl,rfl⟩:=ret_inv h
 exact ⟨u,v.next,hw,r1,hw2,rfl,(Got.from_ r2).to _⟩
theorem literal_inv (hk:litK (C.tok s.next).1) (h:literalP C s = .ok n t):∃ u,Dv C .first (60-s.deep) s.next t.next u/\Got C s t [n] u:=by
 obtain ⟨y,v,h2,h⟩:=bnd_inv (show bnd (readP C) (fun x=>bnd (makeP C (litN C (kindS C s) x).1 (fromS C s)) fun i=>if (litN C (kindS C s) x).2=0 then ret i else thr (litN C (kindS C s) x).2 (fromS C s)) s = .ok n t from h)
 obtain ⟨o,hi,rfl,rfl⟩:=read_inv h2
 obtain ⟨a,v,h3,h⟩:=bnd_inv h
 rcases ite_inv h with ⟨h0,h⟩|⟨-,h⟩
 ·obtain ⟨rfl,rfl⟩:=ret_inv h
  have h0:(litN C (C.tok s.next).1 (C.word s.next)).2=0:=h0
  obtain ⟨r1,r2⟩:=((Got.refl (C:=C) o).to (s.next+1)).node (a:=⟨(litN C (C.tok s.next).1 (C.word s.next)).1.kind,(litN C (C.tok s.next).1 (C.word s.next)).1.text,none,(litN C (C.tok s.next).1 (C.word s.next)).1.num,s.next,s.next+1⟩) h3 (by
   simp only [kindS,fromS,endS,An.nd]
   unfold litN
   split
   ·rfl
   ·split<;>rfl)
  refine ⟨_,?_,r1⟩
  rw [r2]
  exact .lit hk hi h0
 ·cases h
theorem first_inv (hv:Snd C value .value):Snd C (firstP C value) .first:=fun s n t hd h=>by
 have h:(if kindS C s=2\/kindS C s=3\/kindS C s=4 then literalP C else look (wordS C 0) _) s = .ok n t:=h
 rcases ite_inv h with ⟨hk,h⟩|⟨hk,h⟩
 ·exact literal_inv hk h
 have hk:¬ litK (C.tok s.next).1:=hk
 unfold look at h
 have ew:wordS C 0 s=C.word s.next:=rfl
 rw [ew] at h
 rcases ite_inv h with ⟨-,h⟩|⟨h40,h⟩
 ·obtain ⟨u,j,hw,h1,h2,h3,h4⟩:=within_inv hv hd h
  exact ⟨u,by rw [h3];exact .paren hk hw h1 h2,h4⟩
 rcases ite_inv h with ⟨hc,h⟩|⟨hc,h⟩
 ·obtain ⟨_,v,h2,h⟩:=bnd_inv (show bnd (wantP C (C.word s.next)) (fun _=>makeP C (constN (C.word s.next)) (fromS C s)) s = .ok n t from h)
  obtain ⟨o,hw,rfl⟩:=want_inv h2
  obtain ⟨r1,r2⟩:=((Got.refl (C:=C) o).to (s.next+1)).node (a:=⟨(constN (C.word s.next)).kind,⟨#[]⟩,none,(constN (C.word s.next)).num,s.next,s.next+1⟩) h (by
   unfold constN
   split
   ·rfl
   ·split
    ·rfl
    ·split
     ·rfl
     ·split<;>rfl)
  exact ⟨_,by rw [r2];exact .const hk hw hc,r1⟩
 rcases ite_inv h with ⟨hc2,h⟩|⟨hc2,h⟩
 ·obtain ⟨_,v,h2,h⟩:=bnd_inv (show bnd (wantP C (C.word s.next)) (fun _=>bnd (withinP C value) fun k=>makeP C (nd (wrapK (C.word s.next)) ⟨#[]⟩ [k]) (fromS C s)) s = .ok n t from h)
  obtain ⟨o,hw,rfl⟩:=want_inv h2
  obtain ⟨a,v,h3,h⟩:=bnd_inv h
  obtain ⟨u,j,hw1,h4,h5,h6,h7⟩:=within_inv hv (by exact hd) h3
  obtain ⟨r1,r2⟩:=(Got.from_ (s:=s) h7).node (a:=an (wrapK (C.word s.next)) ⟨#[]⟩ s.next v.next) h rfl
  rw [h6] at r1
  exact ⟨_,by rw [r2,h6];exact .wrap hk hw hc2 hw1 h4 h5,r1⟩
 rcases ite_inv h with ⟨hc3,h⟩|⟨hc3,h⟩
 ·obtain ⟨_,v,h2,h⟩:=bnd_inv (show bnd (wantP C (⟨#[105,110,112,117,116]⟩:ByteArray)) _ s = .ok n t from h)
  obtain ⟨o,hw,rfl⟩:=want_inv h2
  obtain ⟨_,v,h2,h⟩:=bnd_inv h
  obtain ⟨-,hw2,rfl⟩:=want_inv h2
  obtain ⟨_,v,h2,h⟩:=bnd_inv h
  obtain ⟨-,hw3,rfl⟩:=want_inv h2
  obtain ⟨r1,r2⟩:=((Got.refl (C:=C) o).to (s.next+3)).node (a:=an 38 ⟨#[]⟩ s.next (s.next+3)) h rfl
  exact ⟨_,by rw [r2];exact .input hk hw hw2 hw3,r1⟩
 rcases ite_inv h with ⟨hc4,h⟩|⟨hc4,h⟩
 ·obtain ⟨_,v,h2,h⟩:=bnd_inv (show bnd (wantP C (⟨#[99,97,115,116]⟩:ByteArray)) _ s = .ok n t from h)
  obtain ⟨o,hw,rfl⟩:=want_inv h2
  obtain ⟨_,v,h2,h⟩:=bnd_inv h
  obtain ⟨-,hw2,rfl⟩:=want_inv h2
  obtain ⟨y,v,h2,h⟩:=bnd_inv h
  obtain ⟨-,y,k,ht,rfl,rfl⟩:=typed_inv h2
  obtain ⟨_,v',h2,h⟩:=bnd_inv h
  obtain ⟨-,hw3,rfl⟩:=want_inv h2
  obtain ⟨a,v',h3,h⟩:=bnd_inv h
  obtain ⟨u,j,hw1,h4,h5,h6,h7⟩:=within_inv hv (by exact hd) h3
  obtain ⟨r1,r2⟩:=(Got.from_ (s:=s) h7).node (a:=ant 35 ⟨#[]⟩ y s.next v'.next) h rfl
  rw [h6] at r1
  exact ⟨_,by rw [r2,h6];exact .cast hk hw hw2 ht hw3 hw1 h4 h5,r1⟩
 rcases ite_inv h with ⟨hc5,h⟩|⟨hc5,h⟩
 ·obtain ⟨_,v,h2,h⟩:=bnd_inv (show bnd (wantP C (⟨#[110,101,119]⟩:ByteArray)) _ s = .ok n t from h)
  obtain ⟨o,hw,rfl⟩:=want_inv h2
  obtain ⟨y,v,h2,h⟩:=bnd_inv h
  obtain ⟨-,y,k,ht,rfl,rfl,hq,hb⟩:=inner_inv h2
  obtain ⟨b,v',h3,h⟩:=bnd_inv h
  rcases take_inv h3 with ⟨rfl,-,hw2,rfl⟩|⟨rfl,hw2,rfl⟩
  ·rw [if_pos rfl] at h
   obtain ⟨a,v',h4,h⟩:=bnd_inv h
   obtain ⟨u,r1,r2⟩:=hv _ _ _ (by exact hd) h4
   obtain ⟨_,v2,h5,h⟩:=bnd_inv h
   obtain ⟨-,hw3,rfl⟩:=want_inv h5
   obtain ⟨r3,r4⟩:=((Got.from_ (s:=s) r2).to (v'.next+1)).node (a:=ant 31 ⟨#[]⟩ y s.next (v'.next+1)) h rfl
   exact ⟨_,by rw [r4];exact .newA hk hw ht hw2 (hb hw2.word).2 r1 hw3,r3⟩
  ·rw [if_neg (by simp)] at h
   have h:(if sees C (⟨#[40]⟩:ByteArray) ⟨k,s.deep,s.over,s.made⟩=true/\aloneB (y.nd C)=false then thr 5 _ else bnd (listP C value) fun l=>makeP C { y.nd C with kind:=30,kids:=l.map Int.ofNat } (fromS C s)) ⟨k,s.deep,s.over,s.made⟩ = .ok n t:=h
   rcases ite_inv h with ⟨-,h⟩|⟨ha,h⟩
   ·cases h
   ·obtain ⟨r,v2,h5,h⟩:=bnd_inv h
    obtain ⟨u,r1,r2⟩:=args_inv hv (by exact hd) h5
    have hp:C.word k=(⟨#[40]⟩:ByteArray):=args_at r1 rfl
    obtain ⟨r3,r4⟩:=(Got.from_ (s:=s) r2).node (a:=ant 30 ⟨#[]⟩ y s.next v2.next) h rfl
    have hal:y.alone=true:=(Bool.not_eq_false _).mp fun e=>ha ⟨decide_eq_true hp,e⟩
    exact ⟨_,by rw [r4];exact .newO hk hw ht hal r1,r3⟩
 ·obtain ⟨y,v,h2,h⟩:=bnd_inv (show bnd (nameP C) (fun t=>makeP C (nd 25 t []) (fromS C s)) s = .ok n t from h)
  obtain ⟨o,hw,hn,rfl⟩:=name_inv h2
  obtain ⟨r1,r2⟩:=((Got.refl (C:=C) o).to (s.next+1)).node (a:=an 25 y s.next (s.next+1)) h rfl
  rw [hw.word] at h40 hc hc2 hc3 hc4 hc5
  exact ⟨_,by rw [r2];exact .var hk hw ⟨h40,hc,hc2,hc3,hc4,hc5⟩ hn,r1⟩
end
end Go.Proofs.YtfehpdliobapfaaGreatDoor.G
namespace Go.Proofs.YtfehpdliobapfaaGreatDoor.G
section
variable {C:PC} {s t v:PS} {l m:List Nat} {u w:Fo} {n f c d:Nat} {x:ByteArray} {value block stat part:PM Nat}
theorem askL_inv (hv:Snd C value .value):∀ (k:Nat) (s0 s:PS) (F:Fo) (n m:Nat) (t:PS),Got C s0 s [n] F->s.deep<=60->askL C value (C.tok s0.next).2.1 k n s = .ok m t->∃ u,Dv C (.askL s0.next F) (60-s.deep) s.next t.next u/\Got C s0 t [m] u
 | 0,s0,s,F,n,m,t,hg,hd,h=>by cases h
 | k+1,s0,s,F,n,m,t,hg,hd,h=>by
  have go:∀ (a:An) (K:Fo) (n':Nat) (v:PS),v.deep=s.deep->Got C s0 v [n'] (one a K)->askL C value (C.tok s0.next).2.1 k n' v = .ok m t->∃ u,Dv C (.askL s0.next (one a K)) (60-s.deep) v.next t.next u/\Got C s0 t [m] u:=fun a K n' v e g h=>by
   have:=askL_inv hv k s0 v _ n' m t g (by rw [e];exact hd) h
   rw [e] at this;exact this
  obtain ⟨b,v,h1,h⟩:=bnd_inv h
  rcases take_inv h1 with ⟨rfl,o,hw,rfl⟩|⟨rfl,hw33,rfl⟩
  ·rw [if_pos rfl] at h
   obtain ⟨n',v,h2,h⟩:=bnd_inv h
   obtain ⟨r1,r2⟩:=(hg.to (s.next+1)).node (a:=an 40 ⟨#[]⟩ s0.next (s.next+1)) h2 rfl
   obtain ⟨u,q1,q2⟩:=go _ _ _ _ (by rw [r1.deep,hg.deep]) r1 h
   rw [r2] at q1
   exact ⟨u,.guard hw q1,q2⟩
  rw [if_neg (by simp)] at h
  obtain ⟨b,v,h1,h⟩:=bnd_inv h
  rcases take_inv h1 with ⟨rfl,o,hw,rfl⟩|⟨rfl,hw91,rfl⟩
  ·rw [if_pos rfl] at h
   obtain ⟨a,v,h2,h⟩:=bnd_inv h
   obtain ⟨u1,p1,p2⟩:=hv _ _ _ (by intro _;exact hd) h2
   obtain ⟨_,v',h3,h⟩:=bnd_inv h
   obtain ⟨-,hw2,rfl⟩:=want_inv h3
   obtain ⟨n',v2,h4,h⟩:=bnd_inv h
   have hg2:=(hg.app (Got.from_ (s:=s) p2)).to (v.next+1)
   obtain ⟨r1,r2⟩:=hg2.node (a:=an 27 ⟨#[]⟩ s0.next (v.next+1)) h4 rfl
   obtain ⟨u,q1,q2⟩:=go _ _ _ _ (by rw [r1.deep,hg.deep]) r1 h
   rw [r2] at q1
   exact ⟨u,.index hw p1 hw2 q1,q2⟩
  rw [if_neg (by simp)] at h
  obtain ⟨b,v,h1,h⟩:=bnd_inv h
  rcases take_inv h1 with ⟨rfl,o,hw,rfl⟩|⟨rfl,hw46,rfl⟩
  ·rw [if_pos rfl] at h
   obtain ⟨n',v2,h2,h⟩:=bnd_inv h
   obtain ⟨b,v,h3,h2⟩:=bnd_inv h2
   rcases take_inv h3 with ⟨rfl,-,hw2,rfl⟩|⟨rfl,hl,rfl⟩
   ·rw [if_pos rfl] at h2
    obtain ⟨r1,r2⟩:=(hg.to (s.next+2)).node (a:=an 28 ⟨#[]⟩ s0.next (s.next+2)) h2 rfl
    obtain ⟨u,q1,q2⟩:=go _ _ _ _ (by rw [r1.deep,hg.deep]) r1 h
    rw [r2] at q1
    exact ⟨u,.length hw hw2 q1,q2⟩
   rw [if_neg (by simp)] at h2
   obtain ⟨b,v,h3,h2⟩:=bnd_inv h2
   rcases take_inv h3 with ⟨rfl,-,hw2,rfl⟩|⟨rfl,hvl,rfl⟩
   ·rw [if_pos rfl] at h2
    obtain ⟨r1,r2⟩:=(hg.to (s.next+2)).node (a:=an 45 ⟨#[]⟩ s0.next (s.next+2)) h2 rfl
    obtain ⟨u,q1,q2⟩:=go _ _ _ _ (by rw [r1.deep,hg.deep]) r1 h
    rw [r2] at q1
    exact ⟨u,.val hw hw2 q1,q2⟩
   rw [if_neg (by simp)] at h2
   obtain ⟨x,v,h3,h2⟩:=bnd_inv h2
   obtain ⟨-,hw2,hn,rfl⟩:=name_inv h3
   rw [hw2.word] at hl hvl
   unfold look at h2
   rcases ite_inv h2 with ⟨-,h2⟩|⟨-,h2⟩
   ·obtain ⟨r,v,h4,h2⟩:=bnd_inv h2
    obtain ⟨u1,p1,p2⟩:=args_inv hv (by intro _;exact hd) h4
    have hg2:=hg.app (Got.from_ (s:=s) p2)
    obtain ⟨r1,r2⟩:=hg2.node (a:=an 29 x s0.next v.next) h2 (by simp [an,nd,An.nd,fromS,endS])
    obtain ⟨u,q1,q2⟩:=go _ _ _ _ (by rw [r1.deep,hg.deep]) r1 h
    rw [r2] at q1
    exact ⟨u,.call hw hw2 hl hvl hn p1 q1,q2⟩
   ·obtain ⟨r1,r2⟩:=(hg.to (s.next+2)).node (a:=an 26 x s0.next (s.next+2)) h2 rfl
    obtain ⟨u,q1,q2⟩:=go _ _ _ _ (by rw [r1.deep,hg.deep]) r1 h
    rw [r2] at q1
    exact ⟨u,.get hw hw2 hl hvl hn q1,q2⟩
  rw [if_neg (by simp)] at h
  obtain ⟨rfl,rfl⟩:=ret_inv h
  exact ⟨F,.askE,hg⟩
theorem asked_inv (hv:Snd C value .value):Snd C (askedP C value) .asked:=fun s n t hd h=>by
 obtain ⟨a,v,h1,h⟩:=bnd_inv (show bnd (firstP C value) (fun n=>askL C value (fromS C s) C.toks.length n) s = .ok n t from h)
 obtain ⟨u,p1,p2⟩:=first_inv hv _ _ _ hd h1
 obtain ⟨u',q1,q2⟩:=askL_inv hv _ s v u a n t p2 (by rw [p2.deep];exact hd p2.o0) h
 rw [p2.deep] at q1
 exact ⟨u',.ask p1 q1,q2⟩
theorem joinL_inv (hp:Snd C part (.joined (c+1))):∀ (k:Nat) (s0 s:PS) (F:Fo) (n m:Nat) (t:PS),Got C s0 s [n] F->s.deep<=60->joinL C part c (C.tok s0.next).2.1 k n s = .ok m t->∃ u,Dv C (.joinL c s0.next F) (60-s.deep) s.next t.next u/\Got C s0 t [m] u
 | 0,s0,s,F,n,m,t,hg,hd,h=>by cases h
 | k+1,s0,s,F,n,m,t,hg,hd,h=>by
  have go:∀ (a:An) (K:Fo) (n':Nat) (v:PS),v.deep=s.deep->Got C s0 v [n'] (one a K)->joinL C part c (C.tok s0.next).2.1 k n' v = .ok m t->∃ u,Dv C (.joinL c s0.next (one a K)) (60-s.deep) v.next t.next u/\Got C s0 t [m] u:=fun a K n' v e g h=>by
   have:=joinL_inv hp k s0 v _ n' m t g (by rw [e];exact hd) h
   rw [e] at this;exact this
  have h:(if bindsN (C.word s.next)=c then bnd (joinP C part n (C.tok s0.next).2.1) fun m=>joinL C part c (C.tok s0.next).2.1 k m else ret n) s = .ok m t:=h
  rcases ite_inv h with ⟨hb,h⟩|⟨hb,h⟩
  ·obtain ⟨n',v2,h1,h⟩:=bnd_inv h
   obtain ⟨x,v,h2,h1⟩:=bnd_inv h1
   obtain ⟨o,hi,rfl,rfl⟩:=read_inv h2
   rcases ite_inv h1 with ⟨hx,h1⟩|⟨hx,h1⟩
   ·obtain ⟨a,v,h3,h1⟩:=bnd_inv h1
    obtain ⟨u1,p1,p2⟩:=hp _ _ _ (by intro _;exact hd) h3
    have hg2:=hg.app (Got.from_ (s:=s) p2)
    obtain ⟨r1,r2⟩:=hg2.node (a:=an 34 (C.word s.next) s0.next v.next) h1 rfl
    obtain ⟨u,q1,q2⟩:=go _ _ _ _ (by rw [r1.deep,hg.deep]) r1 h
    rw [r2] at q1
    exact ⟨u,.joinB ⟨rfl,hi⟩ hb hx p1 q1,q2⟩
   ·have hx:=Classical.not_not.1 hx
    have hc:c=4:=by rw [<- hb,hx];decide
    subst hc
    obtain ⟨b,v,h3,h1⟩:=bnd_inv h1
    rcases take_inv h3 with ⟨rfl,-,hw2,rfl⟩|⟨rfl,-,rfl⟩
    ·rw [if_pos rfl] at h1
     obtain ⟨r1,r2⟩:=(hg.to (s.next+2)).node (a:=an 43 ⟨#[]⟩ s0.next (s.next+2)) h1 rfl
     obtain ⟨u,q1,q2⟩:=go _ _ _ _ (by rw [r1.deep,hg.deep]) r1 h
     rw [r2] at q1
     exact ⟨u,.joinS ⟨hx,hi⟩ hw2 q1,q2⟩
    ·rw [if_neg (by simp)] at h1
     obtain ⟨_,v,h3,h1⟩:=bnd_inv h1
     obtain ⟨-,hw2,rfl⟩:=want_inv h3
     obtain ⟨r1,r2⟩:=(hg.to (s.next+2)).node (a:=an 44 ⟨#[]⟩ s0.next (s.next+2)) h1 rfl
     obtain ⟨u,q1,q2⟩:=go _ _ _ _ (by rw [r1.deep,hg.deep]) r1 h
     rw [r2] at q1
     exact ⟨u,.joinN ⟨hx,hi⟩ hw2 q1,q2⟩
  ·obtain ⟨rfl,rfl⟩:=ret_inv h
   exact ⟨F,.joinE,hg⟩
theorem Got.kind (h:Got C s t [n] u):kindAt n t=u.kind:=by
 have hi:=h.idx
 cases u with
 | nil=>cases hi
 | cons a K R =>
  cases R with
  | cons a' K' R'=>cases hi
  | nil =>
   have hi:[s.made.length+K.size]=[n]:=hi
   injection hi with e
   subst e
   unfold kindAt
   rw [h.made,List.getElem?_append_right (by omega),show s.made.length+K.size-s.made.length=K.size by omega]
   show (match (K.post C s.made.length ++ [a.nd C (K.idx s.made.length)])[K.size]? with|some x=>x.kind|none=>0)=a.kind
   have e:=Fo.post_len C K s.made.length
   rw [List.getElem?_append_right (by omega),show K.size-(K.post C s.made.length).length=0 by omega]
   show (An.nd C a _).kind=a.kind
   unfold An.nd
   split<;>rfl
theorem stat_inv (hv:Snd C value .value) (hb:Snd C block .block):Snd C (statP C value block) .stat:=fun s n t hd h=>by
 unfold statP look at h
 have ew:wordS C 0 s=C.word s.next:=rfl
 rw [ew] at h
 rcases ite_inv h with ⟨hw,h⟩|⟨w1,h⟩
 ·obtain ⟨u,p1,p2⟩:=hb _ _ _ hd h
  exact ⟨u,.sBlock hw p1,p2⟩
 rcases ite_inv h with ⟨hw,h⟩|⟨w2,h⟩
 ·obtain ⟨_,v,h1,h⟩:=bnd_inv (show bnd (wantP C (⟨#[105,102]⟩:ByteArray)) _ s = .ok n t from h)
  obtain ⟨o,hw,rfl⟩:=want_inv h1
  obtain ⟨a,v,h1,h⟩:=bnd_inv h
  obtain ⟨u1,j,hw1,p1,hw2,p3,p4⟩:=within_inv hv (by exact hd) h1
  have g1:=Got.from_ (s:=s) p4
  obtain ⟨b,v2,h1,h⟩:=bnd_inv h
  obtain ⟨u2,q1,q2⟩:=hb _ _ _ (g1.le hd) h1
  have g2:=g1.app q2
  rw [p3,g1.deep] at q1
  obtain ⟨e,v3,h1,h⟩:=bnd_inv h
  rcases take_inv h1 with ⟨rfl,-,hw3,rfl⟩|⟨rfl,hw3,rfl⟩
  ·rw [if_pos rfl] at h
   obtain ⟨b',v4,h1,h⟩:=bnd_inv h
   obtain ⟨u3,e1,e2⟩:=hb _ _ _ (by exact g2.le hd) h1
   have g3:=g2.app (Got.from_ (s:=v2) e2)
   rw [Fo.app_assoc] at g3
   obtain ⟨r1,r2⟩:=g3.node (a:=an 11 ⟨#[]⟩ s.next v4.next) h rfl
   have e1:Dv C .block (60-v2.deep) (v2.next+1) v4.next u3:=e1
   rw [g2.deep] at e1
   exact ⟨_,by rw [r2];exact .sElse hw hw1 p1 hw2 q1 hw3 e1,r1⟩
  ·rw [if_neg (by simp)] at h
   obtain ⟨r1,r2⟩:=g2.node (a:=an 11 ⟨#[]⟩ s.next v2.next) h rfl
   exact ⟨_,by rw [r2];exact .sIf hw hw1 p1 hw2 q1,r1⟩
 rcases ite_inv h with ⟨hw,h⟩|⟨w3,h⟩
 ·obtain ⟨_,v,h1,h⟩:=bnd_inv (show bnd (wantP C (⟨#[119,104,105,108,101]⟩:ByteArray)) _ s = .ok n t from h)
  obtain ⟨o,hw,rfl⟩:=want_inv h1
  obtain ⟨a,v,h1,h⟩:=bnd_inv h
  obtain ⟨u1,j,hw1,p1,hw2,p3,p4⟩:=within_inv hv (by exact hd) h1
  have g1:=Got.from_ (s:=s) p4
  obtain ⟨b,v2,h1,h⟩:=bnd_inv h
  obtain ⟨u2,q1,q2⟩:=hb _ _ _ (g1.le hd) h1
  have g2:=g1.app q2
  rw [p3,g1.deep] at q1
  obtain ⟨r1,r2⟩:=g2.node (a:=an 12 ⟨#[]⟩ s.next v2.next) h rfl
  exact ⟨_,by rw [r2];exact .sWhile hw hw1 p1 hw2 q1,r1⟩
 rcases ite_inv h with ⟨hw,h⟩|⟨w4,h⟩
 ·obtain ⟨x,v,h1,h⟩:=bnd_inv (show bnd (readP C) (fun _=>bnd (wantP C (⟨#[59]⟩:ByteArray)) fun _=>makeP C (nd 13 ⟨#[]⟩ []) (fromS C s)) s = .ok n t from h)
  obtain ⟨o,hi,rfl,rfl⟩:=read_inv h1
  obtain ⟨_,v,h1,h⟩:=bnd_inv h
  obtain ⟨-,hw2,rfl⟩:=want_inv h1
  obtain ⟨r1,r2⟩:=((Got.refl (C:=C) o).to (s.next+2)).node (a:=an 13 ⟨#[]⟩ s.next (s.next+2)) h rfl
  exact ⟨_,by rw [r2];exact .sBreak ⟨hw,hi⟩ hw2,r1⟩
 rcases ite_inv h with ⟨hw,h⟩|⟨w5,h⟩
 ·obtain ⟨x,v,h1,h⟩:=bnd_inv (show bnd (readP C) (fun _=>bnd (wantP C (⟨#[59]⟩:ByteArray)) fun _=>makeP C (nd 14 ⟨#[]⟩ []) (fromS C s)) s = .ok n t from h)
  obtain ⟨o,hi,rfl,rfl⟩:=read_inv h1
  obtain ⟨_,v,h1,h⟩:=bnd_inv h
  obtain ⟨-,hw2,rfl⟩:=want_inv h1
  obtain ⟨r1,r2⟩:=((Got.refl (C:=C) o).to (s.next+2)).node (a:=an 14 ⟨#[]⟩ s.next (s.next+2)) h rfl
  exact ⟨_,by rw [r2];exact .sCont ⟨hw,hi⟩ hw2,r1⟩
 rcases ite_inv h with ⟨hw,h⟩|⟨w6,h⟩
 ·obtain ⟨_,v,h1,h⟩:=bnd_inv (show bnd (wantP C (⟨#[114,101,116,117,114,110]⟩:ByteArray)) _ s = .ok n t from h)
  obtain ⟨o,hw,rfl⟩:=want_inv h1
  unfold look at h
  rcases ite_inv h with ⟨hs,h⟩|⟨hs,h⟩
  ·obtain ⟨_,v,h1,h⟩:=bnd_inv h
   obtain ⟨-,hw2,rfl⟩:=want_inv h1
   obtain ⟨r1,r2⟩:=((Got.refl (C:=C) o).to (s.next+2)).node (a:=an 15 ⟨#[]⟩ s.next (s.next+2)) h rfl
   exact ⟨_,by rw [r2];exact .sRet0 hw hw2,r1⟩
  ·obtain ⟨a,v,h1,h⟩:=bnd_inv h
   obtain ⟨u,p1,p2⟩:=hv _ _ _ (by exact hd) h1
   obtain ⟨_,v',h1,h⟩:=bnd_inv h
   obtain ⟨-,hw2,rfl⟩:=want_inv h1
   obtain ⟨r1,r2⟩:=((Got.from_ (s:=s) p2).to (v.next+1)).node (a:=an 15 ⟨#[]⟩ s.next (v.next+1)) h rfl
   exact ⟨_,by rw [r2];exact .sRet hw (fun e=>hs (decide_eq_true e)) p1 hw2,r1⟩
 rcases ite_inv h with ⟨hw,h⟩|⟨w7,h⟩
 ·obtain ⟨_,v,h1,h⟩:=bnd_inv (show bnd (wantP C (⟨#[112,114,105,110,116]⟩:ByteArray)) _ s = .ok n t from h)
  obtain ⟨o,hw,rfl⟩:=want_inv h1
  obtain ⟨a,v,h1,h⟩:=bnd_inv h
  obtain ⟨u1,j,hw1,p1,hw2,p3,p4⟩:=within_inv hv (by exact hd) h1
  have g1:=Got.from_ (s:=s) p4
  obtain ⟨_,v',h1,h⟩:=bnd_inv h
  obtain ⟨-,hw3,rfl⟩:=want_inv h1
  obtain ⟨r1,r2⟩:=(g1.to (v.next+1)).node (a:=an 16 ⟨#[]⟩ s.next (v.next+1)) h rfl
  rw [p3] at hw3 r1
  refine ⟨_,?_,r1⟩
  rw [r2]
  show Dv C .stat _ _ (v.next+1) _
  rw [p3]
  exact .sPrint hw hw1 p1 hw2 hw3
 rcases ite_inv h with ⟨hw,h⟩|⟨w8,h⟩
 ·obtain ⟨_,v,h1,h⟩:=bnd_inv (show bnd (wantP C (⟨#[115,117,112,101,114]⟩:ByteArray)) _ s = .ok n t from h)
  obtain ⟨o,hw,rfl⟩:=want_inv h1
  obtain ⟨r,v,h1,h⟩:=bnd_inv h
  obtain ⟨u,p1,p2⟩:=args_inv hv (by exact hd) h1
  obtain ⟨_,v',h1,h⟩:=bnd_inv h
  obtain ⟨-,hw2,rfl⟩:=want_inv h1
  obtain ⟨r1,r2⟩:=((Got.from_ (s:=s) p2).to (v.next+1)).node (a:=an 17 ⟨#[]⟩ s.next (v.next+1)) h rfl
  exact ⟨_,by rw [r2];exact .sSuper hw p1 hw2,r1⟩
 have hp:plainW (C.word s.next):=⟨w1,w2,w3,w4,w5,w6,w7,w8⟩
 rcases ite_inv h with ⟨hdc,h⟩|⟨hdc,h⟩
 ·have hdc:decAt C s.next=true:=hdc
  obtain ⟨y,v,h1,h⟩:=bnd_inv (show bnd (typedP C) (fun n=>bnd (nameP C) fun t=>bnd (takeP C (⟨#[61]⟩:ByteArray)) fun b=>if b=true then bnd value fun k=>bnd (wantP C (⟨#[59]⟩:ByteArray)) fun _=>makeP C { n with kind:=9,text:=t,kids:=[(k:Int)] } (fromS C s) else bnd (wantP C (⟨#[59]⟩:ByteArray)) fun _=>makeP C { n with kind:=9,text:=t } (fromS C s)) s = .ok n t from h)
  obtain ⟨o,y,k,ht,rfl,rfl⟩:=typed_inv h1
  obtain ⟨x,v,h1,h⟩:=bnd_inv h
  obtain ⟨-,hw,hn,rfl⟩:=name_inv h1
  obtain ⟨b,v,h1,h⟩:=bnd_inv h
  rcases take_inv h1 with ⟨rfl,-,hw2,rfl⟩|⟨rfl,hw2,rfl⟩
  ·rw [if_pos rfl] at h
   obtain ⟨a,v,h1,h⟩:=bnd_inv h
   obtain ⟨u,p1,p2⟩:=hv _ _ _ (by exact hd) h1
   obtain ⟨_,v',h1,h⟩:=bnd_inv h
   obtain ⟨-,hw3,rfl⟩:=want_inv h1
   obtain ⟨r1,r2⟩:=((Got.from_ (s:=s) p2).to (v.next+1)).node (a:=ant 9 x y s.next (v.next+1)) h rfl
   exact ⟨_,by rw [r2];exact .sDecl hp hdc ht hw hn hw2 p1 hw3,r1⟩
  ·rw [if_neg (by simp)] at h
   obtain ⟨_,v',h1,h⟩:=bnd_inv h
   obtain ⟨-,hw3,rfl⟩:=want_inv h1
   obtain ⟨r1,r2⟩:=((Got.refl (C:=C) o).to (k+2)).node (a:=ant 9 x y s.next (k+2)) h rfl
   exact ⟨_,by rw [r2];exact .sDecl0 hp hdc ht hw hn hw3,r1⟩
 ·have hdc:decAt C s.next=false:=(Bool.not_eq_true _).mp hdc
  obtain ⟨a,v,h1,h⟩:=bnd_inv (show bnd value (fun a=>look (kindAt a) fun k=>look (sees C (⟨#[61]⟩:ByteArray)) fun b=>if b=true then
   if k=25\/k=26\/k=27 then bnd (wantP C (⟨#[61]⟩:ByteArray)) fun _=>bnd value fun v=>bnd (wantP C (⟨#[59]⟩:ByteArray)) fun _=>makeP C (nd 10 ⟨#[]⟩ [a,v]) (fromS C s)
   else look (fromS C) fun g=>thr 132 g
   else bnd (wantP C (⟨#[59]⟩:ByteArray)) fun _=>bnd (makeP C (nd 18 ⟨#[]⟩ [a]) (fromS C s)) fun i=>if k=29\/k=30 then ret i else thr 132 (fromS C s)) s = .ok n t from h)
  obtain ⟨u,p1,p2⟩:=hv _ _ _ hd h1
  unfold look at h
  have hkd:=p2.kind
  rw [hkd] at h
  rcases ite_inv h with ⟨hs,h⟩|⟨hs,h⟩
  ·rcases ite_inv h with ⟨hk,h⟩|⟨hk,h⟩
   ·obtain ⟨_,v',h1,h⟩:=bnd_inv h
    obtain ⟨-,hw2,rfl⟩:=want_inv h1
    obtain ⟨b,v2,h1,h⟩:=bnd_inv h
    obtain ⟨u2,q1,q2⟩:=hv _ _ _ (by exact p2.le hd) h1
    have g2:=p2.app (Got.from_ (s:=v) q2)
    obtain ⟨_,v',h1,h⟩:=bnd_inv h
    obtain ⟨-,hw3,rfl⟩:=want_inv h1
    obtain ⟨r1,r2⟩:=(g2.to (v2.next+1)).node (a:=an 10 ⟨#[]⟩ s.next (v2.next+1)) h rfl
    have q1:Dv C .value (60-v.deep) (v.next+1) v2.next u2:=q1
    rw [p2.deep] at q1
    exact ⟨_,by rw [r2];exact .sSet hp hdc p1 hk hw2 q1 hw3,r1⟩
   ·cases h
  ·obtain ⟨_,v',h1,h⟩:=bnd_inv h
   obtain ⟨-,hw2,rfl⟩:=want_inv h1
   obtain ⟨i,v',h1,h⟩:=bnd_inv h
   rcases ite_inv h with ⟨hk,h⟩|⟨hk,h⟩
   ·obtain ⟨rfl,rfl⟩:=ret_inv h
    obtain ⟨r1,r2⟩:=(p2.to (v.next+1)).node (a:=an 18 ⟨#[]⟩ s.next (v.next+1)) h1 rfl
    exact ⟨_,by rw [r2];exact .sExpr hp hdc p1 hk hw2,r1⟩
   ·cases h
theorem stats_inv (hs:Snd C stat .stat):∀ (k:Nat) (l:List Nat) (s0 s:PS) (F:Fo) (r:List Nat) (t:PS),Got C s0 s l F->s.deep<=60->statL C stat k l s = .ok r t->∃ u j,Dv C .stats (60-s.deep) s.next j u/\Wd C j (⟨#[125]⟩:ByteArray)/\t.next=j+1/\Got C s0 t r (F.app u)
 | 0,l,s0,s,F,r,t,hg,hd,h=>by cases h
 | k+1,l,s0,s,F,r,t,hg,hd,h=>by
  obtain ⟨_,v,h2,h⟩:=bnd_inv h
  obtain rfl:=cap_inv h2
  obtain ⟨b,v,h3,h⟩:=bnd_inv h
  rcases take_inv h3 with ⟨rfl,o,hw,rfl⟩|⟨rfl,hw,rfl⟩
  ·rw [if_pos rfl] at h
   obtain ⟨rfl,rfl⟩:=ret_inv h
   exact ⟨.nil,s.next,.statsE,hw,rfl,by rw [Fo.app_nil];exact hg.to _⟩
  ·rw [if_neg (by simp)] at h
   obtain ⟨a,v,h4,h⟩:=bnd_inv h
   obtain ⟨u,p1,p2⟩:=hs _ _ _ (fun _=>hd) h4
   obtain ⟨u',j,q1,q2,q3,q4⟩:=stats_inv hs k _ s0 v _ r t (hg.app p2) (by rw [p2.deep];exact hd) h
   rw [p2.deep] at q1
   exact ⟨u.app u',j,.stats hw p1 q1,q2,q3,by rw [<- Fo.app_assoc];exact q4⟩
def fnOf:PG->Fn
 | .value=>.value
 | .joined c=>.joined c
 | .signed=>.signed
 | .block=>.block
def okF:PG->Prop
 | .joined c=>c<=7
 | _=>True
theorem run_inv:∀ (k:Nat) (g:PG),okF g->Snd C (runG C k g) (fnOf g)
 | 0,g,hok=>fun s n t hd h=>by cases h
 | k+1,.value,hok=>fun s n t hd h=>by
  obtain ⟨_,v,h1,h⟩:=bnd_inv (show bnd enterP (fun _=>bnd (runG C k (.joined 1)) fun n=>bnd leaveP fun _=>ret n) s = .ok n t from h)
  obtain rfl:=enter_inv h1
  obtain ⟨a,v,h1,h⟩:=bnd_inv h
  have hd2:(if s.deep=60 then 6 else s.over)=0->s.deep+1<=60:=fun e=>by
   split at e
   ·cases e
   ·have:=hd e;omega
  obtain ⟨u,p1,p2⟩:=run_inv k (.joined 1) (by show 1<=7;omega) _ _ _ (by exact hd2) h1
  have ho:=p2.o0
  have h60:=hd2 ho
  obtain ⟨_,v',h1,h⟩:=bnd_inv h
  obtain rfl:=leave_inv h1
  obtain ⟨rfl,rfl⟩:=ret_inv h
  have p1:Dv C (.joined 1) (60-(s.deep+1)) s.next v.next u:=p1
  have ho2:s.over=0:=by
   simp only at ho
   rw [if_neg (by omega)] at ho;exact ho
  refine ⟨u,?_,ho2,p2.o1,?_,p2.idx,p2.made⟩
  ·rw [show 60-s.deep=60-(s.deep+1)+1 by omega];exact .value p1
  ·show v.deep-1=s.deep
   rw [p2.deep];rfl
 | k+1,.joined c,hok=>fun s n t hd h=>by
  have hok:c<=7:=hok
  rcases ite_inv (show (if 6<c then runG C k .signed else look (fromS C) fun f=>bnd (runG C k (.joined (c+1))) fun n=>joinL C (runG C k (.joined (c+1))) c f C.toks.length n) s = .ok n t from h) with ⟨hc,h⟩|⟨hc,h⟩
  ·obtain ⟨u,p1,p2⟩:=run_inv k .signed trivial _ _ _ hd h
   have e:c=7:=by omega
   subst e
   exact ⟨u,.up p1,p2⟩
  ·obtain ⟨a,v,h1,h⟩:=bnd_inv (show bnd (runG C k (.joined (c+1))) (fun n=>joinL C (runG C k (.joined (c+1))) c (fromS C s) C.toks.length n) s = .ok n t from h)
   have hp:=run_inv k (.joined (c+1)) (by show c+1<=7;omega)
   obtain ⟨u,p1,p2⟩:=hp _ _ _ hd h1
   obtain ⟨u',q1,q2⟩:=joinL_inv hp _ s v u a n t p2 (by rw [p2.deep];exact hd p2.o0) h
   rw [p2.deep] at q1
   exact ⟨u',.joined (by omega) p1 q1,q2⟩
 | k+1,.signed,hok=>fun s n t hd h=>by
  rcases ite_inv (show (if C.word s.next=(⟨#[45]⟩:ByteArray)\/C.word s.next=(⟨#[33]⟩:ByteArray) then look (fromS C) fun f=>bnd enterP fun _=>bnd (readP C) fun _=>bnd (runG C k .signed) fun i=>bnd leaveP fun _=>makeP C (nd (if C.word s.next=(⟨#[45]⟩:ByteArray) then 32 else 33) ⟨#[]⟩ [i]) f else askedP C (runG C k .value)) s = .ok n t from h) with ⟨hc,h⟩|⟨hc,h⟩
  ·obtain ⟨_,v,h1,h⟩:=bnd_inv (show bnd enterP (fun _=>bnd (readP C) fun _=>bnd (runG C k .signed) fun i=>bnd leaveP fun _=>makeP C (nd (if C.word s.next=(⟨#[45]⟩:ByteArray) then 32 else 33) ⟨#[]⟩ [i]) (fromS C s)) s = .ok n t from h)
   obtain rfl:=enter_inv h1
   obtain ⟨x,v,h1,h⟩:=bnd_inv h
   obtain ⟨o,hi,rfl,rfl⟩:=read_inv h1
   have hd2:(if s.deep=60 then 6 else s.over)=0->s.deep+1<=60:=fun e=>by
    split at e
    ·cases e
    ·have:=hd e;omega
   have h60:=hd2 o
   have ho2:s.over=0:=by
    simp only at o
    rw [if_neg (by omega)] at o;exact o
   obtain ⟨a,v,h1,h⟩:=bnd_inv h
   obtain ⟨u,p1,p2⟩:=run_inv k .signed trivial _ _ _ (by intro _;exact h60) h1
   obtain ⟨_,v',h1,h⟩:=bnd_inv h
   obtain rfl:=leave_inv h1
   have p1:Dv C .signed (60-(s.deep+1)) (s.next+1) v.next u:=p1
   have g:Got C s ⟨v.next,v.deep-1,v.over,v.made⟩ [a] u:=⟨ho2,p2.o1,by show v.deep-1=s.deep;rw [p2.deep];rfl,p2.idx,p2.made⟩
   have ed:60-s.deep=60-(s.deep+1)+1:=by omega
   by_cases h45:C.word s.next=(⟨#[45]⟩:ByteArray)
   ·rw [if_pos h45] at h
    obtain ⟨r1,r2⟩:=g.node (a:=an 32 ⟨#[]⟩ s.next v.next) h rfl
    exact ⟨_,by rw [r2,ed];exact .neg ⟨h45,hi⟩ p1,r1⟩
   ·rw [if_neg h45] at h
    obtain ⟨r1,r2⟩:=g.node (a:=an 33 ⟨#[]⟩ s.next v.next) h rfl
    exact ⟨_,by rw [r2,ed];exact .not ⟨hc.resolve_left h45,hi⟩ p1,r1⟩
  ·obtain ⟨u,p1,p2⟩:=asked_inv (run_inv k .value trivial) _ _ _ hd h
   exact ⟨u,.asked (fun e=>hc (.inl e)) (fun e=>hc (.inr e)) p1,p2⟩
 | k+1,.block,hok=>fun s n t hd h=>by
  obtain ⟨_,v,h1,h⟩:=bnd_inv (show bnd enterP (fun _=>bnd (wantP C (⟨#[123]⟩:ByteArray)) fun _=>bnd (statL C (statP C (runG C k .value) (runG C k .block)) C.toks.length []) fun l=>bnd leaveP fun _=>makeP C (nd 8 ⟨#[]⟩ l) (fromS C s)) s = .ok n t from h)
  obtain rfl:=enter_inv h1
  obtain ⟨_,v,h1,h⟩:=bnd_inv h
  obtain ⟨o,hw,rfl⟩:=want_inv h1
  have hd2:(if s.deep=60 then 6 else s.over)=0->s.deep+1<=60:=fun e=>by
   split at e
   ·cases e
   ·have:=hd e;omega
  have h60:=hd2 o
  have ho2:s.over=0:=by
   simp only at o
   rw [if_neg (by omega)] at o;exact o
  obtain ⟨r,v,h1,h⟩:=bnd_inv h
  obtain ⟨u,j,p1,p2,p3,p4⟩:=stats_inv (stat_inv (run_inv k .value trivial) (run_inv k .block trivial)) _ _ _ _ _ _ _ (Got.refl (by exact o)) (by exact h60) h1
  obtain ⟨_,v',h1,h⟩:=bnd_inv h
  obtain rfl:=leave_inv h1
  have p1:Dv C .stats (60-(s.deep+1)) (s.next+1) j u:=p1
  have g:Got C s ⟨v.next,v.deep-1,v.over,v.made⟩ r u:=⟨ho2,p4.o1,by show v.deep-1=s.deep;rw [p4.deep];rfl,p4.idx,p4.made⟩
  have ed:60-s.deep=60-(s.deep+1)+1:=by omega
  obtain ⟨r1,r2⟩:=g.node (a:=an 8 ⟨#[]⟩ s.next v.next) h rfl
  rw [p3] at r1
  refine ⟨_,?_,r1⟩
  rw [r2]
  show Dv C .block _ _ v.next _
  rw [p3,ed]
  exact .block hw p1 p2
end
end Go.Proofs.YtfehpdliobapfaaGreatDoor.G
namespace Go.Proofs.YtfehpdliobapfaaGreatDoor.G
section
variable {C:PC} {s t v:PS} {l m:List Nat} {u w:Fo} {n f c d:Nat} {x:ByteArray} {value block stat part:PM Nat}
theorem param_inv (d:Nat):SndR C d (paramP C) (Param C):=fun s n t hs hd h=>by
 obtain ⟨y,v,h1,h⟩:=bnd_inv (show bnd (typedP C) (fun n=>bnd (nameP C) fun t=>makeP C { n with kind:=7,text:=t } (fromS C s)) s = .ok n t from h)
 obtain ⟨o,y,k,ht,rfl,rfl⟩:=typed_inv h1
 obtain ⟨x,v,h1,h⟩:=bnd_inv h
 obtain ⟨-,hw,hn,rfl⟩:=name_inv h1
 obtain ⟨r1,r2⟩:=((Got.refl (C:=C) o).to (k+1)).node (a:=ant 7 x y s.next (k+1)) h rfl
 exact ⟨_,⟨k,y,x,ht,hw,hn,r2,rfl⟩,r1⟩
theorem body_inv (hb:Snd C block .block) {y:Nd} {k:Int} {tx:ByteArray} {ty:Option Ty} {i0:Nat} (h0:s.deep=0) (hi:(∀ l:List Nat,∀ z:PS,{ y with kids:=l.map Int.ofNat,sf:=(f:Int),st:=(endS C z:Int) }=(An.mk k tx ty 0 i0 z.next).nd C l)) (h:bodyP C block y f s = .ok n t):∃ u1 u2 j,Params C s.next j u1/\Dv C .block 60 j t.next u2/\Got C s t [n] (one ⟨k,tx,ty,0,i0,t.next⟩ (u1.app u2)):=by
 obtain ⟨r,v,h1,h⟩:=bnd_inv h
 obtain ⟨u1,p1,p2⟩:=list_inv (param_inv s.deep) (fun _=>by omega) h1
 obtain ⟨b,v2,h1,h⟩:=bnd_inv h
 obtain ⟨u2,q1,q2⟩:=hb _ _ _ (fun _=>by rw [p2.deep];omega) h1
 rw [p2.deep,h0] at q1
 have g:=p2.app q2
 obtain ⟨r1,r2⟩:=g.node (a:=⟨k,tx,ty,0,i0,v2.next⟩) h (by rw [<- hi])
 exact ⟨u1,u2,v.next,list_par p1,by rw [r2];exact q1,by rw [r2];exact r1⟩
theorem member_inv (hb:Snd C block .block) (h0:s.deep=0) (h:memberP C block s = .ok n t):∃ u,Member C s.next t.next u/\Got C s t [n] u:=by
 obtain ⟨b,v,h1,h⟩:=bnd_inv (show bnd (takeP C (⟨#[105,110,105,116]⟩:ByteArray)) (fun b=>if b=true then bodyP C block (nd 5 ⟨#[]⟩ []) (fromS C s) else
  bnd (answerP C) fun n=>bnd (nameP C) fun t=>look (sees C (⟨#[40]⟩:ByteArray)) fun p=>if p=true then bodyP C block { n with text:=t,kind:=6 } (fromS C s)
  else if n.B=6 then thr 80 (fromS C s) else bnd (wantP C (⟨#[59]⟩:ByteArray)) fun _=>makeP C { n with text:=t,kind:=4 } (fromS C s)) s = .ok n t from h)
 rcases take_inv h1 with ⟨rfl,o,hw,rfl⟩|⟨rfl,hw,rfl⟩
 ·rw [if_pos rfl] at h
  obtain ⟨u1,u2,j,p1,p2,p3⟩:=body_inv hb (k:=5) (tx:=⟨#[]⟩) (ty:=none) (i0:=s.next) (by exact h0) (fun _ _=>rfl) h
  exact ⟨_,.init hw p1 p2,Got.from_ (s:=s) p3⟩
 ·rw [if_neg (by simp)] at h
  obtain ⟨y,v,h1,h⟩:=bnd_inv h
  obtain ⟨o,y,k,ha,rfl,rfl⟩:=answer_inv h1
  obtain ⟨x,v,h1,h⟩:=bnd_inv h
  obtain ⟨-,hw1,hn,rfl⟩:=name_inv h1
  unfold look at h
  rcases ite_inv h with ⟨hs,h⟩|⟨hs,h⟩
  ·obtain ⟨u1,u2,j,p1,p2,p3⟩:=body_inv hb (k:=6) (tx:=x) (ty:=some y) (i0:=s.next) (by exact h0) (fun _ _=>rfl) h
   exact ⟨_,.method hw ha hw1 hn p1 p2,Got.from_ (s:=s) p3⟩
  ·rcases ite_inv h with ⟨-,h⟩|⟨hv,h⟩
   ·cases h
   ·obtain ⟨_,v,h1,h⟩:=bnd_inv h
    obtain ⟨-,hw2,rfl⟩:=want_inv h1
    obtain ⟨r1,r2⟩:=((Got.refl (C:=C) o).to (k+2)).node (a:=ant 4 x y s.next (k+2)) h rfl
    exact ⟨_,by rw [r2];exact .field hw ha hw1 hn hv hw2,r1⟩
theorem members_inv (hb:Snd C block .block):∀ (k:Nat) (l:List Nat) (s0 s:PS) (F:Fo) (r:List Nat) (t:PS),Got C s0 s l F->s.deep=0->memberL C (memberP C block) k l s = .ok r t->∃ u j,Members C l.length s.next j u/\Wd C j (⟨#[125]⟩:ByteArray)/\t.next=j+1/\Got C s0 t r (F.app u)
 | 0,l,s0,s,F,r,t,hg,hd,h=>by cases h
 | k+1,l,s0,s,F,r,t,hg,hd,h=>by
  obtain ⟨_,v,h2,h⟩:=bnd_inv h
  obtain rfl:=cap_inv h2
  obtain ⟨b,v,h3,h⟩:=bnd_inv h
  rcases take_inv h3 with ⟨rfl,o,hw,rfl⟩|⟨rfl,hw,rfl⟩
  ·rw [if_pos rfl] at h
   obtain ⟨rfl,rfl⟩:=ret_inv h
   exact ⟨.nil,s.next,.fin,hw,rfl,by rw [Fo.app_nil];exact hg.to _⟩
  ·rw [if_neg (by simp)] at h
   obtain ⟨_,v,h4,h⟩:=bnd_inv h
   obtain rfl:=more_inv h4
   obtain ⟨a,v,h4,h⟩:=bnd_inv h
   obtain ⟨u,p1,p2⟩:=member_inv hb (by exact hd) h4
   have ho:=p2.o0
   have hn:l.length≠64:=fun e=>by simp [e] at ho
   simp only [if_neg hn] at p2
   obtain ⟨u',j,q1,q2,q3,q4⟩:=members_inv hb k _ s0 v _ r t (hg.app (Got.from_ (s:=s) p2)) (by rw [p2.deep];exact hd) h
   rw [List.length_append] at q1
   exact ⟨u.app u',j,.more hw hn p1 q1,q2,q3,by rw [<- Fo.app_assoc];exact q4⟩
theorem class_inv (hb:Snd C block .block) (h0:s.deep=0) (h:classP C block s = .ok n t):∃ u,Class C s.next t.next u/\Got C s t [n] u:=by
 obtain ⟨_,v,h1,h⟩:=bnd_inv (show bnd (wantP C (⟨#[99,108,97,115,115]⟩:ByteArray)) (fun _=>bnd (nameP C) fun t=>look (sees C (⟨#[101,120,116,101,110,100,115]⟩:ByteArray)) fun b =>
  bnd (if b=true then bnd (ancestorP C) fun a=>ret [a] else ret []) fun l=>bnd (wantP C (⟨#[123]⟩:ByteArray)) fun _ =>
  bnd (memberL C (memberP C block) C.toks.length l) fun l=>makeP C (nd 2 t l) (fromS C s)) s = .ok n t from h)
 obtain ⟨o,hw,rfl⟩:=want_inv h1
 obtain ⟨x,v,h1,h⟩:=bnd_inv h
 obtain ⟨-,hw1,hn,rfl⟩:=name_inv h1
 unfold look at h
 obtain ⟨r,v,h1,h⟩:=bnd_inv h
 rcases ite_inv h1 with ⟨he,h1⟩|⟨he,h1⟩
 ·obtain ⟨a,v',h2,h1⟩:=bnd_inv h1
  obtain ⟨rfl,rfl⟩:=ret_inv h1
  obtain ⟨_,v',h3,h2⟩:=bnd_inv (show bnd (wantP C (⟨#[101,120,116,101,110,100,115]⟩:ByteArray)) (fun _=>bnd (nameP C) fun t=>makeP C (nd 3 t []) (fromS C ⟨s.next+2,s.deep,s.over,s.made⟩)) (⟨s.next+2,s.deep,s.over,s.made⟩:PS) = .ok a v from h2)
  obtain ⟨-,hw2,rfl⟩:=want_inv h3
  obtain ⟨y,v',h3,h2⟩:=bnd_inv h2
  obtain ⟨-,hw3,hm,rfl⟩:=name_inv h3
  obtain ⟨r1,r2⟩:=((Got.refl (C:=C) o).to (s.next+4)).node (a:=an 3 y (s.next+2) (s.next+4)) h2 rfl
  obtain ⟨_,v',h3,h⟩:=bnd_inv h
  obtain ⟨-,hw4,rfl⟩:=want_inv h3
  rw [r2] at hw4
  obtain ⟨r',v',h3,h⟩:=bnd_inv h
  obtain ⟨u,j,p1,p2,p3,p4⟩:=members_inv hb _ _ s _ _ _ _ (r1.to (v.next+1)) (by show v.deep=0;rw [r1.deep];exact h0) h3
  obtain ⟨q1,q2⟩:=p4.node (a:=an 2 x s.next v'.next) h rfl
  rw [p3] at q1
  refine ⟨_,?_,q1⟩
  rw [q2,p3]
  have p1:Members C 1 (v.next+1) j u:=p1
  rw [r2] at p1
  exact .ext hw hw1 hn hw2 hw3 hm hw4 p1 p2
 ·obtain ⟨rfl,rfl⟩:=ret_inv h1
  obtain ⟨_,v',h3,h⟩:=bnd_inv h
  obtain ⟨-,hw4,rfl⟩:=want_inv h3
  obtain ⟨r',v',h3,h⟩:=bnd_inv h
  obtain ⟨u,j,p1,p2,p3,p4⟩:=members_inv hb _ _ s _ .nil _ _ ((Got.refl (C:=C) o).to (s.next+3)) (by exact h0) h3
  have p4:Got C s v' r' u:=p4
  obtain ⟨q1,q2⟩:=p4.node (a:=an 2 x s.next v'.next) h rfl
  rw [p3] at q1
  refine ⟨_,?_,q1⟩
  rw [q2,p3]
  exact .base hw hw1 hn hw4 p1 p2
theorem classes_inv (hb:Snd C block .block):∀ (k:Nat) (l:List Nat) (s0 s:PS) (F:Fo) (r:List Nat) (t:PS),Got C s0 s l F->s.deep=0->classL C (classP C block) k l s = .ok r t->∃ u,Classes C l.length s.next t.next u/\Got C s0 t r (F.app u)
 | 0,l,s0,s,F,r,t,hg,hd,h=>by cases h
 | k+1,l,s0,s,F,r,t,hg,hd,h=>by
  obtain ⟨_,v,h2,h⟩:=bnd_inv h
  obtain rfl:=cap_inv h2
  unfold look at h
  rcases ite_inv h with ⟨hk,h⟩|⟨hk,h⟩
  ·obtain ⟨rfl,rfl⟩:=ret_inv h
   exact ⟨.nil,.fin hk,by rw [Fo.app_nil];exact hg⟩
  ·obtain ⟨_,v,h4,h⟩:=bnd_inv h
   obtain rfl:=more_inv h4
   obtain ⟨a,v,h4,h⟩:=bnd_inv h
   obtain ⟨u,p1,p2⟩:=class_inv hb (by exact hd) h4
   have ho:=p2.o0
   have hn:l.length≠64:=fun e=>by simp [e] at ho
   simp only [if_neg hn] at p2
   obtain ⟨u',q1,q2⟩:=classes_inv hb k _ s0 v _ r t (hg.app (Got.from_ (s:=s) p2)) (by rw [p2.deep];exact hd) h
   rw [List.length_append] at q1
   exact ⟨u.app u',.more hk hn p1 q1,by rw [<- Fo.app_assoc];exact q2⟩
def progN (C:PC) (u:Fo) (j:Nat):Nd :=
 match u with
 | .nil=>nd 1 ⟨#[]⟩ []
 | u=>(an 1 ⟨#[]⟩ 0 j).nd C (u.idx 0)
theorem parse_inv (h:parseP C = .ok () t):∃ u j,Classes C 0 0 j u/\t.made=u.post C 0 ++ [progN C u j]/\(u = .nil\/u.size<8192\/8192<u.size):=by
 obtain ⟨r,v,h1,h⟩:=bnd_inv (show bnd (classL C (classP C (runG C C.fuel .block)) C.toks.length []) (fun l=>if l.length=0 then fun s=>.ok () { s with made:=s.made ++ [nd 1 ⟨#[]⟩ []] } else bnd (makeP C (nd 1 ⟨#[]⟩ l) (fromS C ⟨0,0,0,[]⟩)) fun _=>ret ()) (⟨0,0,0,[]⟩:PS) = .ok () t from h)
 obtain ⟨u,p1,p2⟩:=classes_inv (run_inv C.fuel .block trivial) _ _ _ _ .nil _ _ (Got.refl rfl) rfl h1
 have p2:Got C ⟨0,0,0,[]⟩ v r u:=p2
 have hm:v.made=u.post C 0:=by rw [p2.made];rfl
 have hi:u.idx 0=r:=p2.idx
 rcases ite_inv h with ⟨h0,h⟩|⟨h0,h⟩
 ·have h:PR.ok () (⟨v.next,v.deep,v.over,v.made ++ [nd 1 ⟨#[]⟩ []]⟩:PS) = .ok () t:=h
  cases h
  cases u with
  | cons a k R=>rw [<- hi] at h0;cases h0
  | nil=>exact ⟨.nil,v.next,p1,by show v.made ++ _=_;rw [hm];rfl,.inl rfl⟩
 ·obtain ⟨i,v',h1,h⟩:=bnd_inv h
  obtain ⟨-,rfl⟩:=ret_inv h
  obtain ⟨-,rfl,h8⟩:=make_inv h1
  cases u with
  | nil=>rw [<- hi] at h0;exact absurd rfl h0
  | cons a k R =>
   refine ⟨_,v.next,p1,?_,?_⟩
   ·show v.made ++ [_]=_
    rw [hm,<- hi];rfl
   ·rw [hm,Fo.post_len] at h8;omega
end
end Go.Proofs.YtfehpdliobapfaaGreatDoor.G
namespace Go.Proofs.YtfehpdliobapfaaGreatDoor.G
namespace Fo
def len:Fo->Nat
 | nil=>0
 | cons _ _ r=>r.len+1
def All (P:An->Fo->Prop):Fo->Prop
 | nil=>True
 | cons a k r=>P a k/\k.All P/\r.All P
theorem app_len (f g:Fo):(f.app g).len=f.len+g.len:=by
 induction f with
 | nil=>show g.len=0+g.len;omega
 | cons a k r _ ih=>show (r.app g).len+1=r.len+1+g.len;rw [ih];omega
theorem idx_len (f:Fo) (b:Nat):(f.idx b).length=f.len:=by
 induction f generalizing b with
 | nil=>rfl
 | cons a k r _ ih=>show (r.idx _).length+1=r.len+1;rw [ih]
theorem All.app {P:An->Fo->Prop} {f g:Fo} (h:f.All P) (h':g.All P):(f.app g).All P:=by
 induction f with
 | nil=>exact h'
 | cons a k r _ ih=>exact ⟨h.1,h.2.1,ih h.2.2⟩
theorem len_size (f:Fo):f.len<=f.size:=by
 induction f with
 | nil=>exact Nat.le_refl _
 | cons a k r _ ih=>show r.len+1<=k.size+1+r.size;omega
end Fo
theorem one_all {P:An->Fo->Prop} {a:An} {k:Fo} (h:P a k) (hk:k.All P):(one a k).All P:=⟨h,hk,trivial⟩
structure Sz (C:PC):Prop where
 word:∀ i,(C.word i).size<=256
 unq:∀ y,(C.unq y).1.size<=y.size
 name:∀ y,C.name y=true->y.size≠0/\y.size<=64
 int:∀ y,(C.int y).2=0->0<=(C.int y).1/\(C.int y).1<=9223372036854775807
 flt:∀ y,-9223372036854775808<=(C.flt y).1/\(C.flt y).1<=9223372036854775807
structure TyR (t:Ty):Prop where
 base:1<=t.B/\t.B<=6
 name:t.B=5 ↔ t.N.size≠0
 small:t.N.size<=64
 dims:0<=t.D/\t.D<=4
 void:t.B=6->t.D=0
 size:t.M.size=t.D.toNat+1
 first:t.B=5\/byS t.M 0=32
 inner:∀ i,i<t.D.toNat->byS t.M i=32\/byS t.M i=63
 last:byS t.M t.D.toNat=32\/byS t.M t.D.toNat=63\/byS t.M t.D.toNat=111
 ends:t.e.length=t.D.toNat+1
theorem TyR.right {t:Ty} (h:TyR t):rightB t.B t.N t.D t.M=true:=by
 unfold rightB marksB innerM lastM
 simp only [Bool.and_eq_true,Bool.or_eq_true,decide_eq_true_eq]
 exact ⟨⟨⟨h.base,h.name⟩,⟨h.dims.1,h.dims.2,h.void⟩⟩,⟨⟨⟨h.size,h.first⟩,h.inner⟩,h.last⟩⟩
def NoO (t:Ty):Prop:=byS t.M t.D.toNat=32\/byS t.M t.D.toNat=63
section
variable {C:PC} {t:Ty} {m:UInt8} {d i j k n:Nat} {x:ByteArray} {u w:Fo} {g:Fn} {a:An}
theorem free_facts (h:t.free=true):byS t.M t.D.toNat=32/\(0<t.D\/t.B=5):=by
 unfold Ty.free at h
 simpa using h
theorem mark_bytes (h:TyR t) (m:UInt8):(t.mark m).M.size=t.D.toNat+1/\(∀ i,i<t.D.toNat->byS (t.mark m).M i=byS t.M i)/\byS (t.mark m).M t.D.toNat=m.toNat:=by
 have hs:=h.size
 have e:(t.M.extract 0 t.D.toNat).size=t.D.toNat:=by rw [ByteArray.size_extract];omega
 have e1:(⟨#[m]⟩:ByteArray).size=1:=rfl
 refine ⟨?_,fun i hi=>?_,?_⟩
 ·show (t.M.extract 0 t.D.toNat ++ ⟨#[m]⟩).size=_
  rw [ByteArray.size_append,e,e1]
 ·show byS (t.M.extract 0 t.D.toNat ++ ⟨#[m]⟩) i=_
  rw [byS_app,e,if_pos hi,byS_extract _ _ _ _ (by omega) (by omega),Nat.zero_add]
 ·show byS (t.M.extract 0 t.D.toNat ++ ⟨#[m]⟩) t.D.toNat=_
  rw [byS_app,e,if_neg (by omega),Nat.sub_self,byS_get _ 0 (by rw [e1];omega)];rfl
theorem TyR.mark (h:TyR t) (hf:t.free=true) (hm:m.toNat=63\/m.toNat=111):TyR (t.mark m):=by
 obtain ⟨h1,h2⟩:=free_facts hf
 obtain ⟨b1,b2,b3⟩:=mark_bytes h m
 refine ⟨h.base,h.name,h.small,h.dims,h.void,b1,?_,fun i hi=>?_,?_,h.ends⟩
 ·rcases h2 with h2|h2
  ·rcases h.first with h3|h3
   ·exact .inl h3
   ·have hd:0<t.D.toNat:=by omega
    exact .inr (by rw [b2 0 hd];exact h3)
  ·exact .inl h2
 ·have hi:i<t.D.toNat:=hi
  rw [b2 i hi];exact h.inner i hi
 ·have:byS (t.mark m).M (t.mark m).D.toNat=m.toNat:=b3
  rw [this];exact .inr hm
theorem TyR.arr (h:TyR t) (ho:NoO t) (hd:t.D≠4) (hv:t.B≠6) (k:Nat):TyR (t.arr k)/\NoO (t.arr k):=by
 have hs:=h.size
 obtain ⟨d0,d4⟩:=h.dims
 have eD:(t.arr k).D.toNat=t.D.toNat+1:=by show (t.D+1).toNat=_;omega
 have e1:(⟨#[32]⟩:ByteArray).size=1:=rfl
 have old:∀ i,i<t.D.toNat+1->byS (t.arr k).M i=byS t.M i:=fun i hi=>by
  show byS (t.M ++ ⟨#[32]⟩) i=_
  rw [byS_app,if_pos (by omega)]
 have new:byS (t.arr k).M (t.D.toNat+1)=32:=by
  show byS (t.M ++ ⟨#[32]⟩) _=_
  rw [byS_app,if_neg (by omega),hs,Nat.sub_self,byS_get _ 0 (by decide)];rfl
 refine ⟨⟨h.base,h.name,h.small,?_,fun e=>absurd e hv,?_,?_,fun i hi=>?_,?_,?_⟩,?_⟩
 ·show 0<=t.D+1/\t.D+1<=4;omega
 ·show (t.M ++ ⟨#[32]⟩).size=_
  rw [ByteArray.size_append,e1,hs,eD]
 ·exact h.first.imp id fun e=>by rw [old 0 (by omega)];exact e
 ·rw [eD] at hi
  rw [old i hi]
  by_cases hi2:i<t.D.toNat
  ·exact h.inner i hi2
  ·rw [show i=t.D.toNat by omega];exact ho
 ·rw [eD,new];exact .inl rfl
 ·show (t.e ++ [k]).length=_
  rw [List.length_append,h.ends,eD];rfl
 ·unfold NoO;rw [eD,new];exact .inl rfl
theorem base_right {b:Nat} (hS:Sz C) (hb:1<=b/\b<=6) (hn:b=5->C.name x=true):TyR (baseT b x i)/\NoO (baseT b x i):=by
 have m0:byS (⟨#[32]⟩:ByteArray) 0=32:=by decide
 refine ⟨⟨?_,?_,?_,?_,fun _=>rfl,rfl,.inr m0,fun i hi=>?_,.inl m0,rfl⟩,.inl m0⟩
 ·show (1:Int)<=(b:Int)/\(b:Int)<=6;omega
 ·show (b:Int)=5 ↔ (if b=5 then x else ⟨#[]⟩:ByteArray).size≠0
  by_cases h5:b=5
  ·rw [if_pos h5]
   have:=hS.name x (hn h5)
   constructor
   ·intro _;exact this.1
   ·intro _;omega
  ·rw [if_neg h5]
   constructor
   ·intro e;omega
   ·intro e;exact absurd rfl e
 ·show (if b=5 then x else ⟨#[]⟩:ByteArray).size<=64
  by_cases h5:b=5
  ·rw [if_pos h5];exact (hS.name x (hn h5)).2
  ·rw [if_neg h5];exact Nat.zero_le _
 ·exact ⟨Int.le_refl _,by show (0:Int)<=4;omega⟩
 ·exact absurd hi (by show ¬ i<0;omega)
theorem tyl_right {y z:Ty} (h:TyL C i j y z) (hy:TyR y) (ho:NoO y) (hb:y.B≠6):TyR z/\NoO z/\z.B=y.B:=by
 induction h with
 | fin=>exact ⟨hy,ho,rfl⟩
 | null hw hf _ ih =>
  refine ih (hy.mark hf (.inl rfl)) ?_ hb
  have:=(mark_bytes hy 63).2.2
  exact .inr this
 | arr hw h1 hd _ ih =>
  obtain ⟨q1,q2⟩:=hy.arr ho hd hb _
  exact ih q1 q2 hb
theorem kindT_in (x:ByteArray):1<=kindT x/\kindT x<=5:=by
 unfold kindT
 repeat (first|split|omega)
theorem inner_right (hS:Sz C) (h:Inner C i j t):TyR t/\NoO t:=by
 obtain ⟨y,h1,rfl⟩:=h.rest
 have hk:=kindT_in (C.word i)
 obtain ⟨b1,b2⟩:=base_right (C:=C) (x:=C.word i) (i:=i) hS (b:=kindT (C.word i)) (by omega) h.name
 obtain ⟨q1,q2,-⟩:=tyl_right h1 b1 b2 (by show (kindT (C.word i):Int)≠6;omega)
 exact ⟨⟨q1.base,q1.name,q1.small,q1.dims,q1.void,q1.size,q1.first,q1.inner,q1.last,q1.ends⟩,q2⟩
theorem typed_right (hS:Sz C) (h:Typed C i j t):TyR t:=by
 cases h with
 | inner hw h=>exact (inner_right hS h).1
 | option hw h1 h h2 hf =>
  have q1:=(inner_right hS h).1.mark (m:=111) hf (.inr rfl)
  exact ⟨q1.base,q1.name,q1.small,q1.dims,q1.void,q1.size,q1.first,q1.inner,q1.last,q1.ends⟩
theorem answer_right (hS:Sz C) (h:Answer C i j t):TyR t:=by
 cases h with
 | void hw=>exact (base_right hS (by omega) (fun e=>by omega)).1
 | typed hw h=>exact typed_right hS h
structure AnOk (a:An) (n:Nat):Prop where
 known:knownB a.kind=true
 least:(shp a.kind).least<=n
 most:overB (shp a.kind) n=false
 text:a.text.size<=260
 notext:(shp a.kind).text=false->a.text.size=0
 type:∀ y,a.ty=some y->TyR y
 typed:(shp a.kind).typ=a.ty.isSome
 num : -9223372036854775808<=a.num/\a.num<=9223372036854775807
theorem AnOk.shaped (h:AnOk a n) {l:List Nat} (hl:l.length=n):shapedE (a.nd C l)=0:=by
 have hk:=h.known
 have h1:=h.least
 have h2:=h.most
 have h3:=h.notext
 have h4:=h.typed
 have h5:=h.type
 have lm:(l.map Int.ofNat).length=n:=by simpa using hl
 obtain ⟨k,tx,ty,num,i,j⟩:=a
 cases ty with
 | none =>
  have h4:(shp k).typ=false:=h4
  unfold shapedE
  show (if knownB k=false then (3:Int) else if (decide ((l.map Int.ofNat).length<(shp k).least) || overB (shp k) (l.map Int.ofNat).length)=true then 131 else if ((decide (tx.size≠0) && !(shp k).text) || (!(decide ((0:Int)=0/\(⟨#[]⟩:ByteArray).size=0/\(0:Int)=0/\(⟨#[]⟩:ByteArray).size=0)) && !(shp k).typ) || ((shp k).typ && !rightB 0 ⟨#[]⟩ 0 ⟨#[]⟩))=true then 5 else 0)=0
  rw [if_neg (by rw [hk];decide),lm,if_neg (by rw [h2];simp;exact h1),if_neg]
  rw [h4]
  cases ht:(shp k).text with
  | true=>simp;decide
  | false =>
   have:tx.size=0:=h3 ht
   simp [this];decide
 | some y =>
  have h4:(shp k).typ=true:=h4
  have hr:=(h5 y rfl).right
  unfold shapedE
  show (if knownB k=false then (3:Int) else if (decide ((l.map Int.ofNat).length<(shp k).least) || overB (shp k) (l.map Int.ofNat).length)=true then 131 else if ((decide (tx.size≠0) && !(shp k).text) || (!(decide (y.B=0/\y.N.size=0/\y.D=0/\y.M.size=0)) && !(shp k).typ) || ((shp k).typ && !rightB y.B y.N y.D y.M))=true then 5 else 0)=0
  rw [if_neg (by rw [hk];decide),lm,if_neg (by rw [h2];simp;exact h1),if_neg]
  rw [h4,hr]
  cases ht:(shp k).text with
  | true=>simp
  | false =>
   have:tx.size=0:=h3 ht
   simp [this]
def Ok (f:Fo):Prop:=f.All fun a k=>AnOk a k.len
def fitsN (k:Int) (n:Nat):Bool:=knownB k && decide ((shp k).least<=n) && !overB (shp k) n
theorem fits_many {k:Int} (m:Nat) (h:(knownB k && decide ((shp k).least<=m) && (shp k).most.isNone)=true) (hn:m<=n):fitsN k n=true:=by
 simp only [Bool.and_eq_true,decide_eq_true_eq] at h
 obtain ⟨⟨h1,h2⟩,h3⟩:=h
 have h4:overB (shp k) n=false:=by
  unfold overB
  cases hm:(shp k).most with
  | none=>rfl
  | some z=>rw [hm] at h3;cases h3
 unfold fitsN
 rw [h1,h4,decide_eq_true (show (shp k).least<=n by omega)];rfl
theorem ok_num {k num:Int} {x:ByteArray} (n:Nat) (h:fitsN k n=true) (ht:(shp k).text=true\/x.size=0) (hy:(shp k).typ=false) (hx:x.size<=256) (hn : -9223372036854775808<=num/\num<=9223372036854775807):AnOk ⟨k,x,none,num,i,j⟩ n:=by
 unfold fitsN at h
 simp only [Bool.and_eq_true,decide_eq_true_eq,Bool.not_eq_true'] at h
 obtain ⟨⟨h1,h2⟩,h3⟩:=h
 exact ⟨h1,h2,h3,(by show x.size<=260;omega),(fun e=>ht.resolve_left (by have e:(shp k).text=false:=e;rw [e];decide)),(fun y e=>by cases e),hy,hn⟩
theorem ok_an {k:Int} {x:ByteArray} (n:Nat) (h:fitsN k n=true) (ht:(shp k).text=true\/x.size=0) (hy:(shp k).typ=false) (hx:x.size<=256):AnOk (an k x i j) n:=ok_num n h ht hy hx (by omega)
theorem ok_ant {k:Int} {x:ByteArray} {y:Ty} (n:Nat) (hr:TyR y) (h:fitsN k n=true) (ht:(shp k).text=true\/x.size=0) (hy:(shp k).typ=true) (hx:x.size<=256):AnOk (ant k x y i j) n:=by
 unfold fitsN at h
 simp only [Bool.and_eq_true,decide_eq_true_eq,Bool.not_eq_true'] at h
 obtain ⟨⟨h1,h2⟩,h3⟩:=h
 exact ⟨h1,h2,h3,(by show x.size<=260;omega),(fun e=>ht.resolve_left (by have e:(shp k).text=false:=e;rw [e];decide)),(fun z e=>by cases e;exact hr),hy,(by show (-9223372036854775808:Int)<=0/\(0:Int)<=_;omega)⟩
def OkF (g:Fn) (u:Fo):Prop :=
 match g with
 | .joinL _ _ t=>Ok t->t.len=1->Ok u/\u.len=1
 | .askL _ t=>Ok t->t.len=1->Ok u/\u.len=1
 | .args=>Ok u
 | .many _=>Ok u
 | .stats=>Ok u
 | _=>Ok u/\u.len=1
theorem lit_ok (hS:Sz C) {K:Nat} (hk:litK K) (hx:x.size<=256) (h0:(litN C K x).2=0):AnOk ⟨(litN C K x).1.kind,(litN C K x).1.text,none,(litN C K x).1.num,i,j⟩ 0:=by
 unfold litN at h0 ⊢
 by_cases k2:K=2
 ·rw [if_pos k2] at h0 ⊢
  have:=hS.int x h0
  exact ok_num (k:=19) (x:=⟨#[]⟩) (num:=(C.int x).1) 0 (by decide) (.inr rfl) (by decide) (by decide) (by omega)
 ·rw [if_neg k2] at h0 ⊢
  by_cases k3:K=3
  ·rw [if_pos k3] at h0 ⊢
   exact ok_num (k:=20) (x:=x) (num:=(C.flt x).1) 0 (by decide) (.inl (by decide)) (by decide) hx (hS.flt x)
  ·rw [if_neg k3] at h0 ⊢
   have:=hS.unq x
   exact ok_num (k:=22) (x:=(C.unq x).1) (num:=0) 0 (by decide) (.inl (by decide)) (by decide) (by omega) (by omega)
theorem const_ok (x:ByteArray):AnOk ⟨(constN x).kind,⟨#[]⟩,none,(constN x).num,i,j⟩ 0:=by
 have e0:(⟨#[]⟩:ByteArray).size<=256:=by decide
 unfold constN
 repeat' split
 ·exact ok_num (k:=21) (num:=1) 0 (by decide) (.inr rfl) (by decide) e0 (by omega)
 ·exact ok_num (k:=23) (num:=0) 0 (by decide) (.inr rfl) (by decide) e0 (by omega)
 ·exact ok_num (k:=42) (num:=0) 0 (by decide) (.inr rfl) (by decide) e0 (by omega)
 ·exact ok_num (k:=24) (num:=0) 0 (by decide) (.inr rfl) (by decide) e0 (by omega)
 ·exact ok_num (k:=21) (num:=0) 0 (by decide) (.inr rfl) (by decide) e0 (by omega)
theorem wrap_ok (x:ByteArray):AnOk (an (wrapK x) ⟨#[]⟩ i j) 1:=by
 unfold wrapK
 repeat' split
 all_goals exact ok_an 1 (by decide) (.inr rfl) (by decide) (by decide)
theorem Ok.app {f g:Fo} (h:Ok f) (h':Ok g):Ok (f.app g):=Fo.All.app h h'
theorem Ok.one {k:Fo} (h:AnOk a k.len) (hk:Ok k):Ok (one a k):=one_all h hk
theorem wd_size (hS:Sz C) (h:Wd C i x):x.size<=256:=by rw [<- h.word];exact hS.word i
theorem dv_ok (hS:Sz C) (h:Dv C g d i j u):OkF g u:=by
 have e0:(⟨#[]⟩:ByteArray).size<=256:=by decide
 induction h with
 | value _ ih=>exact ih
 | up _ ih=>exact ih
 | joined hc _ _ ih1 ih2=>exact ih2 ih1.1 ih1.2
 | joinE=>exact fun h1 h2=>⟨h1,h2⟩
 | joinB hw hb hx _ _ ih1 ih2=>exact fun h1 h2=>ih2 (.one (by rw [Fo.app_len,h2,ih1.2];exact ok_an 2 (by decide) (.inl (by decide)) (by decide) (wd_size hS hw)) (h1.app ih1.1)) rfl
 | joinS hw h1 _ ih=>exact fun h1 h2=>ih (.one (by rw [h2];exact ok_an 1 (by decide) (.inr rfl) (by decide) e0) h1) rfl
 | joinN hw h1 _ ih=>exact fun h1 h2=>ih (.one (by rw [h2];exact ok_an 1 (by decide) (.inr rfl) (by decide) e0) h1) rfl
 | neg hw _ ih=>exact ⟨.one (by rw [ih.2];exact ok_an 1 (by decide) (.inr rfl) (by decide) e0) ih.1,rfl⟩
 | not hw _ ih=>exact ⟨.one (by rw [ih.2];exact ok_an 1 (by decide) (.inr rfl) (by decide) e0) ih.1,rfl⟩
 | asked h1 h2 _ ih=>exact ih
 | ask _ _ ih1 ih2=>exact ih2 ih1.1 ih1.2
 | askE=>exact fun h1 h2=>⟨h1,h2⟩
 | guard hw _ ih=>exact fun h1 h2=>ih (.one (by rw [h2];exact ok_an 1 (by decide) (.inr rfl) (by decide) e0) h1) rfl
 | index hw _ hw2 _ ih1 ih2=>exact fun h1 h2=>ih2 (.one (by rw [Fo.app_len,h2,ih1.2];exact ok_an 2 (by decide) (.inr rfl) (by decide) e0) (h1.app ih1.1)) rfl
 | length hw hw2 _ ih=>exact fun h1 h2=>ih (.one (by rw [h2];exact ok_an 1 (by decide) (.inr rfl) (by decide) e0) h1) rfl
 | val hw hw2 _ ih=>exact fun h1 h2=>ih (.one (by rw [h2];exact ok_an 1 (by decide) (.inr rfl) (by decide) e0) h1) rfl
 | get hw hw2 hl hv hn _ ih=>exact fun h1 h2=>ih (.one (by rw [h2];exact ok_an 1 (by decide) (.inl (by decide)) (by decide) (wd_size hS hw2)) h1) rfl
 | call hw hw2 hl hv hn _ _ ih1 ih2=>exact fun h1 h2=>ih2 (.one (by rw [Fo.app_len,h2];exact ok_an _ (by first|exact fits_many 0 (by decide) (by omega)|exact fits_many 1 (by decide) (by omega)) (.inl (by decide)) (by decide) (wd_size hS hw2)) (h1.app ih1)) rfl
 | args0 hw h1=>exact trivial
 | args hw h0 _ _ hw2 ih1 ih2=>exact ih1.1.app ih2
 | manyE=>exact trivial
 | many hw hn _ _ ih1 ih2=>exact ih1.1.app ih2
 | lit hk hi h0=>exact ⟨.one (lit_ok hS hk (hS.word _) h0) trivial,rfl⟩
 | paren hk hw _ h1 ih=>exact ih
 | const hk hw hx=>exact ⟨.one (const_ok _) trivial,rfl⟩
 | wrap hk hw hx h1 _ h2 ih=>exact ⟨.one (by rw [ih.2];exact wrap_ok _) ih.1,rfl⟩
 | input hk hw h1 h2=>exact ⟨.one (ok_an 0 (by decide) (.inr rfl) (by decide) e0) trivial,rfl⟩
 | cast hk hw h1 ht h2 h3 _ h4 ih=>exact ⟨.one (by rw [ih.2];exact ok_ant 1 (typed_right hS ht) (by decide) (.inr rfl) (by decide) e0) ih.1,rfl⟩
 | newA hk hw ht h1 h0 _ h2 ih=>exact ⟨.one (by rw [ih.2];exact ok_ant 1 (inner_right hS ht).1 (by decide) (.inr rfl) (by decide) e0) ih.1,rfl⟩
 | newO hk hw ht ha _ ih=>exact ⟨.one (ok_ant _ (inner_right hS ht).1 (by first|exact fits_many 0 (by decide) (by omega)|exact fits_many 1 (by decide) (by omega)) (.inr rfl) (by decide) e0) ih,rfl⟩
 | var hk hw hx hn=>exact ⟨.one (ok_an 0 (by decide) (.inl (by decide)) (by decide) (wd_size hS hw)) trivial,rfl⟩
 | block hw _ h1 ih=>exact ⟨.one (ok_an _ (by first|exact fits_many 0 (by decide) (by omega)|exact fits_many 1 (by decide) (by omega)) (.inr rfl) (by decide) e0) ih,rfl⟩
 | statsE=>exact trivial
 | stats hw _ _ ih1 ih2=>exact ih1.1.app ih2
 | sBlock hw _ ih=>exact ih
 | sIf hw h1 _ h2 _ ih1 ih2=>exact ⟨.one (by rw [Fo.app_len,ih1.2,ih2.2];exact ok_an 2 (by decide) (.inr rfl) (by decide) e0) (ih1.1.app ih2.1),rfl⟩
 | sElse hw h1 _ h2 _ h3 _ ih1 ih2 ih3=>exact ⟨.one (by rw [Fo.app_len,Fo.app_len,ih1.2,ih2.2,ih3.2];exact ok_an 3 (by decide) (.inr rfl) (by decide) e0) (ih1.1.app (ih2.1.app ih3.1)),rfl⟩
 | sWhile hw h1 _ h2 _ ih1 ih2=>exact ⟨.one (by rw [Fo.app_len,ih1.2,ih2.2];exact ok_an 2 (by decide) (.inr rfl) (by decide) e0) (ih1.1.app ih2.1),rfl⟩
 | sBreak hw h1=>exact ⟨.one (ok_an 0 (by decide) (.inr rfl) (by decide) e0) trivial,rfl⟩
 | sCont hw h1=>exact ⟨.one (ok_an 0 (by decide) (.inr rfl) (by decide) e0) trivial,rfl⟩
 | sRet0 hw h1=>exact ⟨.one (ok_an 0 (by decide) (.inr rfl) (by decide) e0) trivial,rfl⟩
 | sRet hw h0 _ h1 ih=>exact ⟨.one (by rw [ih.2];exact ok_an 1 (by decide) (.inr rfl) (by decide) e0) ih.1,rfl⟩
 | sPrint hw h1 _ h2 h3 ih=>exact ⟨.one (by rw [ih.2];exact ok_an 1 (by decide) (.inr rfl) (by decide) e0) ih.1,rfl⟩
 | sSuper hw _ h1 ih=>exact ⟨.one (ok_an _ (by first|exact fits_many 0 (by decide) (by omega)|exact fits_many 1 (by decide) (by omega)) (.inr rfl) (by decide) e0) ih,rfl⟩
 | sDecl0 hp hd ht h1 hn h2=>exact ⟨.one (ok_ant 0 (typed_right hS ht) (by decide) (.inl (by decide)) (by decide) (wd_size hS h1)) trivial,rfl⟩
 | sDecl hp hd ht h1 hn h2 _ h3 ih=>exact ⟨.one (by rw [ih.2];exact ok_ant 1 (typed_right hS ht) (by decide) (.inl (by decide)) (by decide) (wd_size hS h1)) ih.1,rfl⟩
 | sSet hp hd _ hk h1 _ h2 ih1 ih2=>exact ⟨.one (by rw [Fo.app_len,ih1.2,ih2.2];exact ok_an 2 (by decide) (.inr rfl) (by decide) e0) (ih1.1.app ih2.1),rfl⟩
 | sExpr hp hd _ hk h1 ih=>exact ⟨.one (by rw [ih.2];exact ok_an 1 (by decide) (.inr rfl) (by decide) e0) ih.1,rfl⟩
theorem param_ok (hS:Sz C) (h:Param C i j u):Ok u/\u.len=1:=by
 obtain ⟨k,y,x,ht,hw,hn,rfl,rfl⟩:=h.is
 exact ⟨.one (ok_ant 0 (typed_right hS ht) (by decide) (.inl (by decide)) (by decide) (wd_size hS hw)) trivial,rfl⟩
theorem params_ok (hS:Sz C) (h:Params C i j u):Ok u:=by
 have key:∀ n i j u,ParamL C n i j u->Ok u:=fun n i j u h=>by
  induction h with
  | fin=>exact trivial
  | more hw hn h _ ih=>exact (param_ok hS h).1.app ih
 cases h with
 | none hw h1=>exact trivial
 | some hw h0 h g h1=>exact (param_ok hS h).1.app (key _ _ _ _ g)
theorem block_ok (hS:Sz C) (h:Dv C .block d i j u):Ok u/\u.len=1:=dv_ok hS h
theorem member_ok (hS:Sz C) (h:Member C i j u):Ok u/\u.len=1:=by
 have e0:(⟨#[]⟩:ByteArray).size<=256:=by decide
 cases h with
 | init hw hp hb =>
  have hb:=block_ok hS hb
  exact ⟨.one (by rw [Fo.app_len,hb.2];exact ok_an _ (by first|exact fits_many 0 (by decide) (by omega)|exact fits_many 1 (by decide) (by omega)) (.inr rfl) (by decide) e0) ((params_ok hS hp).app hb.1),rfl⟩
 | method hw ha h1 hn hp hb =>
  have hb:=block_ok hS hb
  exact ⟨.one (by rw [Fo.app_len,hb.2];exact ok_ant _ (answer_right hS ha) (by first|exact fits_many 0 (by decide) (by omega)|exact fits_many 1 (by decide) (by omega)) (.inl (by decide)) (by decide) (wd_size hS h1)) ((params_ok hS hp).app hb.1),rfl⟩
 | field hw ha h1 hn hv h2=>exact ⟨.one (ok_ant 0 (answer_right hS ha) (by decide) (.inl (by decide)) (by decide) (wd_size hS h1)) trivial,rfl⟩
theorem members_ok (hS:Sz C) (h:Members C n i j u):Ok u:=by
 induction h with
 | fin=>exact trivial
 | more hw hn h _ ih=>exact (member_ok hS h).1.app ih
theorem class_ok (hS:Sz C) (h:Class C i j u):Ok u/\u.len=1:=by
 cases h with
 | base hw h1 hn h2 h h3=>exact ⟨.one (ok_an _ (by first|exact fits_many 0 (by decide) (by omega)|exact fits_many 1 (by decide) (by omega)) (.inl (by decide)) (by decide) (wd_size hS h1)) (members_ok hS h),rfl⟩
 | ext hw h1 hn h2 h3 hm h4 h h5=>exact ⟨.one (ok_an _ (by first|exact fits_many 0 (by decide) (by omega)|exact fits_many 1 (by decide) (by omega)) (.inl (by decide)) (by decide) (wd_size hS h1)) (Ok.app (.one (ok_an 0 (by decide) (.inl (by decide)) (by decide) (wd_size hS h3)) trivial) (members_ok hS h)),rfl⟩
theorem classes_ok (hS:Sz C) (h:Classes C n i j u):Ok u:=by
 induction h with
 | fin=>exact trivial
 | more hk hn h _ ih=>exact (class_ok hS h).1.app ih
end
end Go.Proofs.YtfehpdliobapfaaGreatDoor.G
namespace Go.Proofs.YtfehpdliobapfaaGreatDoor.G
section
variable {C E:PC} {d i j k n:Nat} {x:ByteArray} {u w:Fo}
theorem take_all (i:Nat):∀ (l:List Nat) (U:List Nat),(∀ k ∈ l,k<i/\k ∉ U)->l.Nodup->takeE i (l.map Int.ofNat) U=(0,l.reverse ++ U)
 | [],U,_,_=>rfl
 | k :: l,U,h,hn=>by
  obtain ⟨h1,h2⟩:=h k List.mem_cons_self
  obtain ⟨n1,n2⟩:=List.nodup_cons.1 hn
  show (if (Int.ofNat k)<0\/(i:Int)<=Int.ofNat k then _ else if (Int.ofNat k).toNat ∈ U then _ else takeE i (l.map Int.ofNat) ((Int.ofNat k).toNat :: U))=_
  rw [if_neg (by simp;omega),if_neg (by simpa using h2),take_all i l _ (fun q hq=>⟨(h q (List.mem_cons_of_mem _ hq)).1,fun e=>by
   rcases List.mem_cons.1 e with e|e
   ·have e:q=k:=by simpa using e
    subst e;exact n1 hq
   ·exact (h q (List.mem_cons_of_mem _ hq)).2 e⟩) n2]
  simp
theorem idx_in (f:Fo):∀ b,∀ k ∈ f.idx b,b<=k/\k<b+f.size:=by
 induction f with
 | nil=>intro b k h;cases h
 | cons a K r _ ih =>
  intro b k h
  have h:k ∈ (b+K.size) :: r.idx (b+K.size+1):=h
  show b<=k/\k<b+(K.size+1+r.size)
  rcases List.mem_cons.1 h with rfl|h
  ·omega
  ·have:=ih _ _ h;omega
theorem idx_nodup (f:Fo):∀ b,(f.idx b).Nodup:=by
 induction f with
 | nil=>intro b;exact List.nodup_nil
 | cons a K r _ ih =>
  intro b
  show ((b+K.size) :: r.idx (b+K.size+1)).Nodup
  refine List.nodup_cons.2 ⟨fun h=>?_,ih _⟩
  have:=idx_in r _ _ h;omega
theorem check_app:∀ (l m:List Nd) (i:Nat) (U:List Nat),(checkL l i U).1=0->checkL (l ++ m) i U=checkL m (i+l.length) (checkL l i U).2
 | [],m,i,U,_=>rfl
 | x :: l,m,i,U,h=>by
  have h:(if shapedE x≠0 then (shapedE x,U) else if (takeE i x.kids U).1≠0 then takeE i x.kids U else checkL l (i+1) (takeE i x.kids U).2).1=0:=h
  show (if shapedE x≠0 then (shapedE x,U) else if (takeE i x.kids U).1≠0 then takeE i x.kids U else checkL (l ++ m) (i+1) (takeE i x.kids U).2)=checkL m (i+(l.length+1)) (if shapedE x≠0 then (shapedE x,U) else if (takeE i x.kids U).1≠0 then takeE i x.kids U else checkL l (i+1) (takeE i x.kids U).2).2
  by_cases h1:shapedE x≠0
  ·rw [if_pos h1] at h;exact absurd h h1
  ·rw [if_neg h1] at h ⊢
   rw [if_neg h1]
   by_cases h2:(takeE i x.kids U).1≠0
   ·rw [if_pos h2] at h;exact absurd h h2
   ·rw [if_neg h2] at h ⊢
    rw [if_neg h2,check_app l m _ _ h,show i+1+l.length=i+(l.length+1) by omega]
theorem nd_kids (a:An) (l:List Nat):(a.nd C l).kids=l.map Int.ofNat:=by unfold An.nd;split<;>rfl
theorem post_check (f:Fo):∀ (b:Nat) (U:List Nat),Ok f->(∀ j ∈ U,j<b)->(checkL (f.post C b) b U).1=0/\∀ j,j ∈ (checkL (f.post C b) b U).2 ↔ (j ∈ U\/(b<=j/\j<b+f.size/\j ∉ f.idx b)):=by
 induction f with
 | nil=>intro b U _ _;exact ⟨rfl,fun j=>⟨.inl,fun h=>h.elim id fun h=>by have h2:j<b+0:=h.2.1;omega⟩⟩
 | cons a K r ihk ihr =>
  intro b U ho hU
  obtain ⟨o1,o2,o3⟩:=ho
  obtain ⟨k1,k2⟩:=ihk b U o2 hU
  have hl:=Fo.post_len C K b
  show (checkL (K.post C b ++ (a.nd C (K.idx b) :: r.post C (b+K.size+1))) b U).1=0/\∀ j,j ∈ (checkL (K.post C b ++ (a.nd C (K.idx b) :: r.post C (b+K.size+1))) b U).2 ↔ _
  rw [check_app _ _ _ _ k1,hl]
  generalize (checkL (K.post C b) b U).2=U1 at *
  have hs:shapedE (a.nd C (K.idx b))=0:=o1.shaped (Fo.idx_len K b)
  have ht:=take_all (b+K.size) (K.idx b) U1 (fun k hk=>by
   have q:=idx_in K b k hk
   refine ⟨by omega,fun e=>?_⟩
   rcases (k2 k).1 e with e|e
   ·have:=hU k e;omega
   ·exact e.2.2 hk) (idx_nodup K b)
  have e1:∀ m,checkL (a.nd C (K.idx b) :: m) (b+K.size) U1=checkL m (b+K.size+1) ((K.idx b).reverse ++ U1):=fun m=>by
   show (if shapedE (a.nd C (K.idx b))≠0 then _ else if (takeE (b+K.size) (a.nd C (K.idx b)).kids U1).1≠0 then _ else checkL m _ (takeE (b+K.size) (a.nd C (K.idx b)).kids U1).2)=_
   rw [nd_kids,ht,if_neg (by rw [hs];decide),if_neg (fun e=>e rfl)]
  rw [e1]
  have hU2:∀ j,j ∈ (K.idx b).reverse ++ U1 ↔ (j ∈ U\/(b<=j/\j<b+K.size)):=fun j=>by
   rw [List.mem_append,List.mem_reverse,k2]
   constructor
   ·rintro (h|h|h)
    ·exact .inr (idx_in K b j h)
    ·exact .inl h
    ·exact .inr ⟨h.1,h.2.1⟩
   ·rintro (h|h)
    ·exact .inr (.inl h)
    ·by_cases hj:j ∈ K.idx b
     ·exact .inl hj
     ·exact .inr (.inr ⟨h.1,h.2,hj⟩)
  obtain ⟨r1,r2⟩:=ihr (b+K.size+1) ((K.idx b).reverse ++ U1) o3 (fun j hj=>by
   rcases (hU2 j).1 hj with h|h
   ·have:=hU j h;omega
   ·omega)
  refine ⟨r1,fun j=>?_⟩
  rw [r2,hU2]
  show _ ↔ (j ∈ U\/(b<=j/\j<b+(K.size+1+r.size)/\j ∉ (b+K.size) :: r.idx (b+K.size+1)))
  rw [List.mem_cons]
  constructor
  ·rintro ((h|h)|h)
   ·exact .inl h
   ·refine .inr ⟨h.1,by omega,fun e=>?_⟩
    rcases e with e|e
    ·omega
    ·have:=idx_in r _ _ e;omega
   ·refine .inr ⟨by omega,by omega,fun e=>?_⟩
    rcases e with e|e
    ·omega
    ·exact h.2.2 e
  ·rintro (h|⟨h1,h2,h3⟩)
   ·exact .inl (.inl h)
   ·by_cases hj:j<b+K.size
    ·exact .inl (.inr ⟨h1,hj⟩)
    ·refine .inr ⟨?_,by omega,fun e=>h3 (.inr e)⟩
     have:j≠b+K.size:=fun e=>h3 (.inl e)
     omega
theorem prog_facts (u:Fo) (j:Nat):(progN C u j).kids=(u.idx 0).map Int.ofNat/\(progN C u j).kind=1/\shapedE (progN C u j)=0:=by
 cases u with
 | nil=>exact ⟨rfl,rfl,by show shapedE (nd 1 ⟨#[]⟩ [])=0;decide⟩
 | cons a K r =>
  refine ⟨nd_kids _ _,rfl,?_⟩
  exact (ok_an (i:=0) (j:=j) (k:=1) (x:=⟨#[]⟩) _ (fits_many 0 (by decide) (Nat.zero_le _)) (.inr rfl) (by decide) (by decide)).shaped rfl
theorem prog_check (hu:Ok u) (hs:u.size<=16383):checkE (u.post C 0 ++ [progN C u j]) (((u.post C 0 ++ [progN C u j]).length:Int)-1)=0:=by
 obtain ⟨p1,p2,p3⟩:=prog_facts (C:=C) u j
 obtain ⟨c1,c2⟩:=post_check (C:=C) u 0 [] hu (fun j h=>by cases h)
 have hl:(u.post C 0 ++ [progN C u j]).length=u.size+1:=by rw [List.length_append,Fo.post_len];rfl
 have ht:=take_all u.size (u.idx 0) (checkL (u.post C 0) 0 []).2 (fun k hk=>by
  have q:=idx_in u 0 k hk
  refine ⟨by omega,fun e=>?_⟩
  rcases (c2 k).1 e with e|e
  ·cases e
  ·exact e.2.2 hk) (idx_nodup u 0)
 have e:checkL (u.post C 0 ++ [progN C u j]) 0 []=(0,(u.idx 0).reverse ++ (checkL (u.post C 0) 0 []).2):=by
  rw [check_app _ _ _ _ c1,Fo.post_len,Nat.zero_add]
  show (if shapedE (progN C u j)≠0 then _ else if (takeE u.size (progN C u j).kids _).1≠0 then _ else checkL [] _ (takeE u.size (progN C u j).kids _).2)=_
  rw [p1,ht,if_neg (by rw [p3];decide),if_neg (fun e=>e rfl)]
  rfl
 unfold checkE
 rw [hl,if_neg (by omega),if_neg,e,if_neg (fun e=>e rfl),if_pos]
 ·intro q hq
  have hq:q<u.size:=by omega
  show q ∈ (u.idx 0).reverse ++ _
  rw [List.mem_append,List.mem_reverse,c2]
  by_cases h:q ∈ u.idx 0
  ·exact .inl h
  ·exact .inr (.inr ⟨Nat.zero_le _,by omega,h⟩)
 ·rintro (h|h|h)
  ·omega
  ·exact h rfl
  ·rw [List.getLast?_append,List.getLast?_singleton] at h
   apply h
   show some (progN C u j).kind=some 1
   rw [p2]
structure NdB (n:Nat) (x:Nd):Prop where
 num : -9223372036854775808<=x.num/\x.num<=9223372036854775807
 text:x.text.size<=260
 N:x.N.size<=64
 M:x.M.size<=5
 kids:x.kids.length<=n
 ends:x.ends.length<=5
theorem an_b {a:An} {m:Nat} (h:AnOk a m) (l:List Nat) (hl:l.length<=n):NdB n (a.nd C l):=by
 have h1:=h.num
 have h2:=h.text
 have h3:=h.type
 obtain ⟨k,tx,ty,num,i,j⟩:=a
 cases ty with
 | none=>exact ⟨h1,h2,by show (0:Nat)<=_;omega,by show (0:Nat)<=_;omega,by show (l.map Int.ofNat).length<=n;simpa using hl,by show (0:Nat)<=_;omega⟩
 | some y =>
  have hy:=h3 y rfl
  have:=hy.size;have:=hy.dims;have:=hy.ends;have:=hy.small
  exact ⟨h1,h2,by show y.N.size<=_;omega,by show y.M.size<=_;omega,by show (l.map Int.ofNat).length<=n;simpa using hl,by show (y.e.map _).length<=5;rw [List.length_map];omega⟩
theorem post_b (f:Fo):∀ b,Ok f->f.size<=n->∀ x ∈ f.post C b,NdB n x:=by
 induction f with
 | nil=>intro b _ _ x hx;cases hx
 | cons a K r ih1 ih2 =>
  intro b ho hn x hx
  obtain ⟨o1,o2,o3⟩:=ho
  have hn:K.size+1+r.size<=n:=hn
  have hx:x ∈ K.post C b ++ (a.nd C (K.idx b) :: r.post C (b+K.size+1)):=hx
  rcases List.mem_append.1 hx with hx|hx
  ·exact ih1 b o2 (by omega) x hx
  ·rcases List.mem_cons.1 hx with rfl|hx
   ·refine an_b o1 _ ?_
    rw [Fo.idx_len]
    have:=K.len_size;omega
   ·exact ih2 _ o3 (by omega) x hx
theorem prog_b (u:Fo) (j:Nat) (hn:u.size<=n):NdB n (progN C u j):=by
 have h0:(-9223372036854775808:Int)<=0/\(0:Int)<=9223372036854775807:=by omega
 have hl:=u.len_size
 have hi:=Fo.idx_len u 0
 cases u with
 | nil=>exact ⟨h0,by show (0:Nat)<=_;omega,by show (0:Nat)<=_;omega,by show (0:Nat)<=_;omega,Nat.zero_le _,by show (0:Nat)<=_;omega⟩
 | cons a K r=>exact ⟨h0,by show (0:Nat)<=_;omega,by show (0:Nat)<=_;omega,by show (0:Nat)<=_;omega,by show (((Fo.cons a K r).idx 0).map Int.ofNat).length<=n;rw [List.length_map];omega,by show (0:Nat)<=_;omega⟩
theorem parse_right {t:PS} (hS:Sz C) (h:parseP C = .ok () t) (hl:t.made.length<=16384):checkE t.made ((t.made.length:Int)-1)=0/\(∀ x ∈ t.made,NdB 16384 x)/\∃ u j,Classes C 0 0 j u/\Ok u/\t.made=u.post C 0 ++ [progN C u j]:=by
 obtain ⟨u,j,h1,h2,-⟩:=parse_inv h
 have hu:=classes_ok hS h1
 have hn:u.size<=16383:=by
  rw [h2,List.length_append,Fo.post_len] at hl
  have hl:u.size+1<=16384:=hl
  omega
 refine ⟨by rw [h2];exact prog_check hu hn,fun x hx=>?_,u,j,h1,hu,h2⟩
 rw [h2] at hx
 rcases List.mem_append.1 hx with hx|hx
 ·exact post_b u 0 hu (by omega) x hx
 ·rw [List.mem_singleton] at hx
  subst hx
  exact prog_b u j (by omega)
end
section
variable {l m:List Nd}
end
end Go.Proofs.YtfehpdliobapfaaGreatDoor.G
namespace Go.Proofs.YtfehpdliobapfaaGreatDoor.S
def locB (l:List Nd) (a:Nat):Bool:=decide (kndS l a=7\/kndS l a=9)
def locL (l:List Nd) (V:List Nat):List Nat:=V.filter (locB l)
theorem locL_app (l:List Nd) (A B:List Nat):locL l (A ++ B)=locL l A ++ locL l B:=by unfold locL;rw [List.filter_append]
def Means (l:List Nd) (V:List Nat) (x d:Nat):Prop:=d ∈ V/\locB l d=true/\txtS l d=txtS l x/\(kndS l d=7\/∃ p,d ∈ kidsOf l p/\x ∈ walkS l p)
open Classical in
noncomputable def stepE (l:List Nd) (V:List Nat) (x:Nat):Option (Int × Int) :=
 if kndS l x=25/\¬ ∃ d,Means l V x d then some (3,sfrS l x)
 else if locB l x=true then (if ∃ d ∈ locL l V,txtS l d=txtS l x then some (4,sfrS l x) else if 64<=(locL l V).length then some (2,sfrS l x) else none)
 else none
noncomputable def foldE (l:List Nd):List Nat->List Nat->Option (Int × Int)
 | _,[]=>none
 | V,x :: xs=>match stepE l V x with
  | some e=>some e
  | none=>foldE l (V ++ [x]) xs
theorem foldE_app (l:List Nd):∀ (A B V:List Nat),foldE l V (A ++ B)=(match foldE l V A with|some e=>some e|none=>foldE l (V ++ A) B)
 | [],B,V=>by show foldE l V B=foldE l (V ++ []) B;rw [List.append_nil]
 | x :: A,B,V=>by
  show (match stepE l V x with|some e=>some e|none=>foldE l (V ++ [x]) (A ++ B))=(match (match stepE l V x with|some e=>some e|none=>foldE l (V ++ [x]) A) with|some e=>some e|none=>foldE l (V ++ x :: A) B)
  cases h:stepE l V x with
  | some e=>rfl
  | none =>
   show foldE l (V ++ [x]) (A ++ B)=_
   rw [foldE_app l A B (V ++ [x]),List.append_assoc]
   rfl
theorem foldE_one (l:List Nd) (V:List Nat) (x:Nat):foldE l V [x]=stepE l V x:=by
 show (match stepE l V x with|some e=>some e|none=>none)=_
 cases stepE l V x<;>rfl
def Loc (l:List Nd) (c:Nat) (s:Sc):Prop:=∀ k,k ∈ s.op ↔ ∃ d p,s.lc[k]? = some d/\kndS l d=9/\d ∈ kidsOf l p/\c ∈ walkS l p
def UsOk (l:List Nd) (V:List Nat) (s:Sc):Prop:=∀ A x B,V=A ++ x :: B->kndS l x=25->∃ d k,Means l A x d/\s.us x=some k/\s.lc[k]? = some d
structure ScW (l:List Nd) (V:List Nat) (c:Nat) (s:Sc):Prop where
 lc:s.lc=locL l V
 names:(s.lc.map (txtS l)).Nodup
 few:s.lc.length<=64
 loc:Loc l c s
 us:UsOk l V s
def Housed (l:List Nd):Prop:=∀ p x,x ∈ kidsOf l p->kndS l x=9->kndS l p=8
theorem loc_down {l:List Nd} {root:Int} (P:ProgOk l root) {V:List Nat} {c a:Nat} {s:Sc} (hc:c<l.length) (ha:a ∈ kidsOf l c) (W:ScW l V c s) (hn:∀ x ∈ V,x ∉ walkS l a):Loc l a s:=by
 intro k
 rw [W.loc k]
 have hal:=kidsOf_lt P hc ha
 constructor
 ·rintro ⟨d,p,h1,h2,h3,h4⟩
  have hp:p<l.length:=by
   apply Classical.byContradiction
   intro hq
   unfold kidsOf at h3
   rw [List.getElem?_eq_none (by omega)] at h3
   cases h3
  exact ⟨d,p,h1,h2,h3,walk_kid P p hp c h4 a ha⟩
 ·rintro ⟨d,p,h1,h2,h3,h4⟩
  have hp:p<l.length:=by
   apply Classical.byContradiction
   intro hq
   unfold kidsOf at h3
   rw [List.getElem?_eq_none (by omega)] at h3
   cases h3
  refine ⟨d,p,h1,h2,h3,?_⟩
  rcases walk_parent P p hp a h4 with e|⟨q,hq,haq⟩
  ·exfalso
   rw [<- e] at h3
   have hd:d ∈ V:=by
    have:=List.mem_of_getElem? h1
    rw [W.lc] at this
    exact (List.mem_filter.1 this).1
   exact hn d hd (walk_kid P a (by omega) a (walk_self P (by omega)) d h3)
  ·rw [<- one_parent l P.once q c a haq ha];exact hq
theorem loc_up {l:List Nd} {root:Int} (P:ProgOk l root) (H:Housed l) {c a:Nat} {s:Sc} (hc:c<l.length) (ha:a ∈ kidsOf l c) (h8:kndS l a≠8) (L:Loc l a s):Loc l c s:=by
 intro k
 rw [L k]
 constructor
 ·rintro ⟨d,p,h1,h2,h3,h4⟩
  have hp:p<l.length:=by
   apply Classical.byContradiction
   intro hq
   unfold kidsOf at h3
   rw [List.getElem?_eq_none (by omega)] at h3
   cases h3
  refine ⟨d,p,h1,h2,h3,?_⟩
  rcases walk_parent P p hp a h4 with e|⟨q,hq,haq⟩
  ·rw [<- e] at h3;exact absurd (H a d h3 h2) h8
  ·rw [<- one_parent l P.once q c a haq ha];exact hq
 ·rintro ⟨d,p,h1,h2,h3,h4⟩
  have hp:p<l.length:=by
   apply Classical.byContradiction
   intro hq
   unfold kidsOf at h3
   rw [List.getElem?_eq_none (by omega)] at h3
   cases h3
  exact ⟨d,p,h1,h2,h3,walk_kid P p hp c h4 a ha⟩
theorem us_more {l:List Nd} {V:List Nat} {a:Nat} {s:Sc} (U:UsOk l V s) (h:kndS l a≠25) (lc':List Nat) (hl:∀ (k d:Nat),s.lc[k]? = some d->lc'[k]? = some d) (ss':Nat->Option Nat) (op':List Nat):UsOk l (V ++ [a]) ⟨lc',s.us,ss',op'⟩:=by
 intro A x B e hx
 rcases List.eq_nil_or_concat B with rfl|⟨B',b,rfl⟩
 ·have:=List.append_inj_right' e (by simp)
  simp at this
  rw [this] at h
  exact absurd hx h
 ·rw [List.concat_eq_append,<- List.cons_append,<- List.append_assoc] at e
  obtain ⟨d,k,h1,h2,h3⟩:=U A x B' (List.append_inj_left' e (by simp)) hx
  exact ⟨d,k,h1,h2,hl k d h3⟩
def Walked (l:List Nd) (V:List Nat) (c:Nat) (xs:List Nat) (r:ScR):Prop:=match r with
 | .error e=>foldE l V xs=some e
 | .ok s'=>foldE l V xs=none/\ScW l (V ++ xs) c s'
theorem locL_one (l:List Nd) (V:List Nat) (a:Nat):locL l (V ++ [a])=if locB l a=true then locL l V ++ [a] else locL l V:=by
 rw [locL_app]
 show _ ++ List.filter (locB l) [a]=_
 by_cases h:locB l a=true
 ·rw [if_pos h];simp [h]
 ·rw [if_neg h];simp [h]
theorem self_decl {l:List Nd} {root:Int} (P:ProgOk l root) (H:Housed l) {V:List Nat} {c a:Nat} {h:Bool} {s:Sc} (hc:c<l.length) (ha:a ∈ kidsOf l c) (W:ScW l V a s) (h7:kndS l a=7\/kndS l a=9) (hh:kndS l c=8->h=true):Walked l V c [a] (declG l h a s):=by
 have hb:locB l a=true:=by unfold locB;simpa using h7
 have L':=loc_up P H hc ha (by omega) W.loc
 have hE:foldE l V [a]=(if ∃ d ∈ locL l V,txtS l d=txtS l a then some (4,sfrS l a) else if 64<=(locL l V).length then some (2,sfrS l a) else none):=by
  rw [foldE_one];unfold stepE;rw [if_neg (fun q=>by omega),if_pos hb]
 unfold Walked declG
 cases hf:findS l s.lc (txtS l a) with
 | some k =>
  obtain ⟨hk,ht⟩:=findS_some hf
  show foldE l V [a]=some (4,sfrS l a)
  rw [hE,if_pos]
  exact ⟨s.lc[k],by rw [<- W.lc];exact List.getElem_mem hk,ht⟩
 | none =>
  have hno:=findS_none hf
  rw [if_neg (by
   rintro ⟨d,hd,e⟩
   rw [<- W.lc] at hd
   exact hno d hd e),<- W.lc] at hE
  have hfew:=W.few
  by_cases h64:s.lc.length=64
  ·simp only [if_pos h64]
   rw [hE,if_pos (by omega)]
  ·simp only [if_neg h64]
   rw [if_neg (by omega)] at hE
   have getL:∀ (k x:Nat),s.lc[k]? = some x->(s.lc ++ [a])[k]? = some x:=fun k x hx=>by
    rw [List.getElem?_append_left (List.getElem?_eq_some_iff.1 hx).1];exact hx
   have getK:∀ (k x:Nat),(s.lc ++ [a])[k]? = some x->(s.lc[k]? = some x)\/(k=s.lc.length/\x=a):=by
    intro k x hx
    by_cases hlt:k<s.lc.length
    ·rw [List.getElem?_append_left hlt] at hx;exact .inl hx
    ·rw [List.getElem?_append_right (by omega)] at hx
     by_cases h0:k-s.lc.length=0
     ·rw [h0] at hx
      simp at hx
      exact .inr ⟨by omega,hx.symm⟩
     ·rw [List.getElem?_eq_none (by simp;omega)] at hx;cases hx
   refine ⟨hE,⟨?_,?_,?_,?_,?_⟩⟩
   ·show s.lc ++ [a]=_
    rw [locL_one,if_pos hb,<- W.lc]
   ·show ((s.lc ++ [a]).map (txtS l)).Nodup
    rw [List.map_append,List.nodup_append]
    refine ⟨W.names,by simp,fun x hx y hy hxy=>?_⟩
    obtain ⟨b,hb,rfl⟩:=List.mem_map.1 hx
    simp at hy
    exact hno b hb (by rw [hxy,hy])
   ·show (s.lc ++ [a]).length<=64
    simp;omega
   ·intro k
    show k ∈ (if h=true/\kndS l a≠7 then s.op ++ [s.lc.length] else s.op) ↔ ∃ (d p:Nat),(s.lc ++ [a])[k]? = some d/\_
    constructor
    ·intro hk
     have hold:k ∈ s.op->∃ (d p:Nat),(s.lc ++ [a])[k]? = some d/\kndS l d=9/\d ∈ kidsOf l p/\c ∈ walkS l p:=fun hk=>by
      obtain ⟨d,p,q1,q2⟩:=(L' k).1 hk
      exact ⟨d,p,getL _ _ q1,q2⟩
     split at hk
     ·rename_i hq
      rcases List.mem_append.1 hk with hk|hk
      ·exact hold hk
      ·rw [List.mem_singleton.1 hk]
       exact ⟨a,c,by simp,by omega,ha,walk_self P hc⟩
     ·exact hold hk
    ·rintro ⟨d,p,q1,q2,q3⟩
     rcases getK k d q1 with q1|⟨rfl,rfl⟩
     ·have:=(L' k).2 ⟨d,p,q1,q2,q3⟩
      split
      ·exact List.mem_append_left _ this
      ·exact this
     ·have h8:=H c d ha q2
      rw [if_pos ⟨hh h8,by omega⟩]
      simp
   ·exact us_more W.us (by omega) _ getL _ _
theorem names_one {l:List Nd} {L:List Nat} (hn:(L.map (txtS l)).Nodup) {i k:Nat} {a b:Nat} (h1:L[i]? = some a) (h2:L[k]? = some b) (h:txtS l a=txtS l b):i=k:=by
 obtain ⟨hi,e1⟩:=List.getElem?_eq_some_iff.1 h1
 obtain ⟨hk,e2⟩:=List.getElem?_eq_some_iff.1 h2
 rcases Nat.lt_trichotomy i k with q|q|q
 ·have:=List.pairwise_iff_getElem.1 hn i k (by simpa using hi) (by simpa using hk) q
  simp [e1,e2] at this
  exact absurd h this
 ·exact q
 ·have:=List.pairwise_iff_getElem.1 hn k i (by simpa using hk) (by simpa using hi) q
  simp [e1,e2] at this
  exact absurd h.symm this
theorem self_mean {l:List Nd} {root:Int} (P:ProgOk l root) (H:Housed l) {V:List Nat} {c a:Nat} {s:Sc} (hc:c<l.length) (ha:a ∈ kidsOf l c) (W:ScW l V a s) (h25:kndS l a=25):Walked l V c [a] (meanG l a s):=by
 have hb:locB l a=false:=by unfold locB;simp;omega
 have L':=loc_up P H hc ha (by omega) W.loc
 have hE1:(¬ ∃ d,Means l V a d)->foldE l V [a]=some (3,sfrS l a):=fun h=>by
  rw [foldE_one];unfold stepE;rw [if_pos ⟨h25,h⟩]
 have hE2:(∃ d,Means l V a d)->foldE l V [a]=none:=fun h=>by
  rw [foldE_one];unfold stepE;rw [if_neg (fun q=>q.2 h),if_neg (by rw [hb];simp)]
 have inLc:∀ d,Means l V a d->d ∈ s.lc:=fun d h=>by rw [W.lc];exact List.mem_filter.2 ⟨h.1,h.2.1⟩
 unfold Walked meanG
 cases hf:findS l s.lc (txtS l a) with
 | none =>
  refine hE1 ?_
  rintro ⟨d,hd⟩
  exact findS_none hf d (inLc d hd) hd.2.2.1
 | some k =>
  obtain ⟨hk,ht⟩:=findS_some hf
  have hg:s.lc.getD k 0=s.lc[k]:=by rw [List.getD_eq_getElem?_getD,List.getElem?_eq_getElem hk];rfl
  have hin:s.lc[k] ∈ V/\locB l s.lc[k]=true:=by
   have e:∀ x,x ∈ s.lc->x ∈ locL l V:=fun x hx=>by rw [<- W.lc];exact hx
   exact List.mem_filter.1 (e _ (List.getElem_mem hk))
  simp only [hg]
  by_cases hq:kndS l s.lc[k]=7\/k ∈ s.op
  ·simp only [if_pos hq]
   have hm:Means l V a s.lc[k]:=by
    refine ⟨hin.1,hin.2,ht,?_⟩
    rcases hq with hq|hq
    ·exact .inl hq
    ·obtain ⟨d,p,q1,q2,q3,q4⟩:=(W.loc k).1 hq
     rw [List.getElem?_eq_getElem hk] at q1
     cases q1
     exact .inr ⟨p,q3,q4⟩
   refine ⟨hE2 ⟨_,hm⟩,⟨?_,W.names,W.few,L',?_⟩⟩
   ·show s.lc=_
    rw [locL_one,if_neg (by rw [hb];simp),<- W.lc]
   ·intro A x B e hx
    show ∃ d k',Means l A x d/\putN s.us a k x=some k'/\s.lc[k']? = some d
    rcases List.eq_nil_or_concat B with rfl|⟨B',b,rfl⟩
    ·have e1:=List.append_inj_right' e (by simp)
     have e2:=List.append_inj_left' e (by simp)
     simp at e1
     subst e1;subst e2
     exact ⟨s.lc[k],k,hm,putN_same _ _ _,List.getElem?_eq_getElem hk⟩
    ·rw [List.concat_eq_append,<- List.cons_append,<- List.append_assoc] at e
     obtain ⟨d,k',h1,h2,h3⟩:=W.us A x B' (List.append_inj_left' e (by simp)) hx
     by_cases hxa:x=a
     ·subst hxa
      refine ⟨d,k,h1,putN_same _ _ _,?_⟩
      have:k=k':=names_one W.names (List.getElem?_eq_getElem hk) h3 (by rw [ht,h1.2.2.1])
      rw [this];exact h3
     ·exact ⟨d,k',h1,by rw [putN_other _ _ _ hxa];exact h2,h3⟩
  ·simp only [if_neg hq]
   refine hE1 ?_
   rintro ⟨d,hd⟩
   obtain ⟨j,hj,hjd⟩:=List.getElem_of_mem (inLc d hd)
   have:k=j:=names_one W.names (List.getElem?_eq_getElem hk) (by rw [List.getElem?_eq_getElem hj,hjd]) (by rw [ht,hd.2.2.1])
   subst this
   apply hq
   rcases hd.2.2.2 with h7|⟨p,q3,q4⟩
   ·left;rw [hjd];exact h7
   ·by_cases h7:kndS l d=7
    ·left;rw [hjd];exact h7
    ·right
     have hdb:=hd.2.1
     unfold locB at hdb
     simp at hdb
     exact (W.loc k).2 ⟨d,p,by rw [List.getElem?_eq_getElem hj,hjd],by omega,q3,q4⟩
theorem self_rest {l:List Nd} {root:Int} (P:ProgOk l root) (H:Housed l) {V:List Nat} {c a:Nat} {s:Sc} (hc:c<l.length) (ha:a ∈ kidsOf l c) (W:ScW l V a s) (h8:kndS l a≠8) (h7:¬ (kndS l a=7\/kndS l a=9)) (h25:kndS l a≠25) (ss':Nat->Option Nat):Walked l V c [a] (.ok { s with ss:=ss' }):=by
 have hb:locB l a=false:=by unfold locB;simpa using h7
 refine ⟨?_,⟨?_,W.names,W.few,loc_up P H hc ha h8 W.loc,us_more W.us h25 _ (fun _ _ h=>h) _ _⟩⟩
 ·rw [foldE_one];unfold stepE;rw [if_neg (fun q=>h25 q.1),if_neg (by rw [hb];simp)]
 ·show s.lc=_
  rw [locL_one,if_neg (by rw [hb];simp),<- W.lc]
theorem self_walk {l:List Nd} {root:Int} (P:ProgOk l root) (H:Housed l) {V:List Nat} {c a n:Nat} {h:Bool} {s:Sc} (hc:c<l.length) (ha:a ∈ kidsOf l c) (W:ScW l V a s) (h8:kndS l a≠8) (hh:kndS l c=8->h=true):Walked l V c [a] (selfG l h a n s):=by
 unfold selfG
 rw [if_neg h8]
 by_cases h7:kndS l a=7\/kndS l a=9
 ·rw [if_pos h7];exact self_decl P H hc ha W h7 hh
 rw [if_neg h7]
 by_cases h25:kndS l a=25
 ·rw [if_pos h25];exact self_mean P H hc ha W h25
 rw [if_neg h25]
 by_cases h10:kndS l a=10
 ·rw [if_pos h10]
  unfold assG
  split
  ·exact self_rest P H hc ha W h8 h7 h25 _
  ·exact self_rest P H hc ha W h8 h7 h25 _
 ·rw [if_neg h10];exact self_rest P H hc ha W h8 h7 h25 _
theorem walked_then {l:List Nd} {V:List Nat} {c a:Nat} {A B:List Nat} {r:ScR} {g:Sc->ScR} (h1:Walked l V c A r) (h2:∀ s',r = .ok s'->ScW l (V ++ A) c s'->Walked l (V ++ A) a B (g s')):Walked l V a (A ++ B) (thenG r g):=by
 cases r with
 | error e =>
  show foldE l V (A ++ B)=some e
  have:foldE l V A=some e:=h1
  rw [foldE_app,this]
 | ok s' =>
  obtain ⟨q1,q2⟩:=h1
  have:=h2 s' rfl q2
  show Walked l V a (A ++ B) (g s')
  unfold Walked at this ⊢
  cases hg:g s' with
  | error e =>
   rw [hg] at this
   show foldE l V (A ++ B)=some e
   rw [foldE_app,q1];exact this
  | ok s2 =>
   rw [hg] at this
   exact ⟨by rw [foldE_app,q1];exact this.1,by rw [<- List.append_assoc];exact this.2⟩
theorem kids_walk {l:List Nd} {c:Nat} {F:Nat->Sc->ScR}:∀ (ks:List Nat) (V:List Nat) (s:Sc),(V ++ ks.flatMap (postS l)).Nodup->(∀ k ∈ ks,∀ V s,ScW l V c s->(V ++ postS l k).Nodup->Walked l V c (postS l k) (F k s))->ScW l V c s->Walked l V c (ks.flatMap (postS l)) (kidsG F ks s)
 | [],V,s,_,_,W=>⟨rfl,by simpa using W⟩
 | k :: ks,V,s,hn,h,W=>by
  rw [List.flatMap_cons] at hn ⊢
  rw [<- List.append_assoc] at hn
  refine walked_then (r:=F k s) (g:=kidsG F ks) (h k List.mem_cons_self V s W (hn.sublist (List.sublist_append_left _ _))) ?_
  intro s' _ W'
  exact kids_walk ks _ s' hn (fun x hx=>h x (List.mem_cons_of_mem _ hx)) W'
theorem sc_walk {l:List Nd} {root:Int} (P:ProgOk l root) (H:Housed l):∀ (a:Nat) (c:Nat),c<l.length->a ∈ kidsOf l c->∀ h V s,(kndS l c=8->h=true)->ScW l V c s->(V ++ postS l a).Nodup->Walked l V c (postS l a) (scS l h a s):=by
 intro a
 induction a using Nat.strongRecOn with
 | _ a ih =>
  intro c hc ha h V s hh W hn
  have hac:=kidsOf_lt P hc ha
  have hal:a<l.length:=by omega
  have hdis:∀ x ∈ V,x ∉ walkS l a:=fun x hx hxa=>by
   rw [List.nodup_append] at hn
   exact hn.2.2 x hx x ((post_perm P a hal).mem_iff.2 hxa) rfl
  have hpe:=post_eq P hal
  rw [sc_eq P hal]
  have hW:ScW l V a s:=⟨W.lc,W.names,W.few,loc_down P hc ha W hdis,W.us⟩
  rw [hpe,<- List.append_assoc] at hn
  have hK:=kids_walk (c:=a) (F:=scS l (h || decide (kndS l a=8))) (kidsOf l a) V s (hn.sublist (List.sublist_append_left _ _)) (fun k hk V s W hn=>ih k (kidsOf_lt P hal hk) a hal hk _ V s (fun h8=>by simp [h8]) W hn) hW
  rw [hpe]
  refine walked_then hK ?_
  intro s' he W'
  by_cases h8:kndS l a=8
  ·unfold selfG
   rw [if_pos h8]
   obtain ⟨o1,o2⟩:=kids_op (F:=scS l (h || decide (kndS l a=8))) (kidsOf l a) s s' (fun k hk s s'=>sc_op P k (by have:=kidsOf_lt P hal hk;omega) _ s s') he
   rw [o1]
   have hb:locB l a=false:=by unfold locB;simp;omega
   have hlc:s'.lc=s.lc ++ locL l ((kidsOf l a).flatMap (postS l)):=by rw [W'.lc,locL_app,<- W.lc]
   refine ⟨?_,⟨?_,W'.names,W'.few,?_,us_more W'.us (by omega) _ (fun _ _ h=>h) _ _⟩⟩
   ·rw [foldE_one];unfold stepE;rw [if_neg (fun q=>by omega),if_neg (by rw [hb];simp)]
   ·show s'.lc=_
    rw [locL_one,if_neg (by rw [hb];simp),<- W'.lc]
   ·intro k
    show k ∈ s.op ↔ ∃ (d p:Nat),s'.lc[k]? = some d/\_
    rw [W.loc k]
    constructor
    ·rintro ⟨d,p,q1,q2⟩
     exact ⟨d,p,by rw [hlc,List.getElem?_append_left (List.getElem?_eq_some_iff.1 q1).1];exact q1,q2⟩
    ·rintro ⟨d,p,q1,q2,q3,q4⟩
     rw [hlc] at q1
     by_cases hlt:k<s.lc.length
     ·rw [List.getElem?_append_left hlt] at q1
      exact ⟨d,p,q1,q2,q3,q4⟩
     ·exfalso
      rw [List.getElem?_append_right (by omega)] at q1
      have hd:=(List.mem_filter.1 (List.mem_of_getElem? q1)).1
      obtain ⟨k0,hk0,hdk⟩:=List.mem_flatMap.1 hd
      have hk0l:=kidsOf_lt P hal hk0
      have hdw:d ∈ walkS l k0:=(post_perm P k0 (by omega)).mem_iff.1 hdk
      have hpa:p<=a:=by
       rcases walk_parent P k0 (by omega) d hdw with e|⟨q,hq,hdq⟩
       ·rw [e] at q3
        rw [one_parent l P.once p a k0 q3 hk0];exact Nat.le_refl _
       ·rw [one_parent l P.once p q d q3 hdq]
        have:=walk_le P k0 (by omega) q hq
        omega
      have:=walk_le P p (by omega) c q4
      omega
  ·exact self_walk P H hc ha W' h8 hh
end Go.Proofs.YtfehpdliobapfaaGreatDoor.S
namespace Go.Proofs.YtfehpdliobapfaaGreatDoor.G
open Go.Proofs.YtfehpdliobapfaaGreatDoor.S (kndS txtS sfrS)
def Fo.kinds:Fo->List Int
 | nil=>[]
 | cons a _ r=>a.kind :: r.kinds
theorem kinds_app (f g:Fo):(f.app g).kinds=f.kinds ++ g.kinds:=by
 induction f with
 | nil=>rfl
 | cons a k r _ ih=>show a.kind :: (r.app g).kinds=_;rw [ih];rfl
def inK (p k:Int):Prop:=(k=9->p=8)/\(k=7->p=5\/p=6)/\(k=2->p=1)/\(k=3\/k=4\/k=5\/k=6->p=2)/\k≠1
def Kd (f:Fo):Prop:=f.All fun a k=>∀ x ∈ k.kinds,inK a.kind x
def VK (f:Fo):Prop:=Kd f/\∀ x ∈ f.kinds,19<=x
def StK (f:Fo):Prop:=Kd f/\∀ x ∈ f.kinds,8<=x/\x<=18
def BlK (f:Fo):Prop:=Kd f/\∀ x ∈ f.kinds,x=8
section
variable {C:PC} {d i j k n:Nat} {x:ByteArray} {u w f g':Fo} {g:Fn} {a:An}
theorem VK.app (h:VK f) (h':VK g'):VK (f.app g'):=⟨Fo.All.app h.1 h'.1,fun x hx=>by rw [kinds_app] at hx;exact (List.mem_append.1 hx).elim (h.2 x) (h'.2 x)⟩
theorem StK.app (h:StK f) (h':StK g'):StK (f.app g'):=⟨Fo.All.app h.1 h'.1,fun x hx=>by rw [kinds_app] at hx;exact (List.mem_append.1 hx).elim (h.2 x) (h'.2 x)⟩
theorem VK.nil:VK .nil:=⟨trivial,fun x hx=>by cases hx⟩
theorem StK.nil:StK .nil:=⟨trivial,fun x hx=>by cases hx⟩
theorem in_value {p k:Int} (h:19<=k):inK p k:=⟨fun e=>by omega,fun e=>by omega,fun e=>by omega,fun e=>by omega,by omega⟩
theorem in_block {p k:Int} (h:k=8):inK p k:=⟨fun e=>by omega,fun e=>by omega,fun e=>by omega,fun e=>by omega,by omega⟩
theorem in_stat {k:Int} (h:8<=k/\k<=18):inK 8 k:=⟨fun _=>rfl,fun e=>by omega,fun e=>by omega,fun e=>by omega,by omega⟩
theorem VK.made (h:VK f) (ha:19<=a.kind):VK (one a f):=⟨one_all (fun x hx=>in_value (h.2 x hx)) h.1,fun x hx=>by
 have hx:x ∈ [a.kind]:=hx
 rw [List.mem_singleton.1 hx];exact ha⟩
theorem VK.stat (h:VK f) (ha:8<=a.kind/\a.kind<=18):StK (one a f):=⟨one_all (fun x hx=>in_value (h.2 x hx)) h.1,fun x hx=>by
 have hx:x ∈ [a.kind]:=hx
 rw [List.mem_singleton.1 hx];exact ha⟩
theorem VK.branch (h:VK f) (h':BlK g') (ha:8<=a.kind/\a.kind<=18):StK (one a (f.app g')):=⟨one_all (fun x hx=>by
 rw [kinds_app] at hx
 rcases List.mem_append.1 hx with hx|hx
 ·exact in_value (h.2 x hx)
 ·exact in_block (h'.2 x hx)) (Fo.All.app h.1 h'.1),fun x hx=>by
 have hx:x ∈ [a.kind]:=hx
 rw [List.mem_singleton.1 hx];exact ha⟩
theorem BlK.app (h:BlK f) (h':BlK g'):BlK (f.app g'):=⟨Fo.All.app h.1 h'.1,fun x hx=>by rw [kinds_app] at hx;exact (List.mem_append.1 hx).elim (h.2 x) (h'.2 x)⟩
def KdF (g:Fn) (u:Fo):Prop :=
 match g with
 | .joinL _ _ t=>VK t->VK u
 | .askL _ t=>VK t->VK u
 | .block=>BlK u
 | .stats=>StK u
 | .stat=>StK u
 | _=>VK u
theorem lit_kind {K:Nat} (hk:litK K):19<=(litN C K x).1.kind:=by
 unfold litN
 repeat' split
 all_goals (first|exact (show (19:Int)<=19 by omega)|exact (show (19:Int)<=20 by omega)|exact (show (19:Int)<=22 by omega))
theorem const_kind (x:ByteArray):19<=(constN x).kind:=by
 unfold constN
 repeat' split
 all_goals (show (19:Int)<=_;decide)
theorem wrap_kind (x:ByteArray):19<=wrapK x:=by
 unfold wrapK
 repeat' split
 all_goals decide
theorem dv_kd (h:Dv C g d i j u):KdF g u:=by
 induction h with
 | value _ ih=>exact ih
 | up _ ih=>exact ih
 | joined hc _ _ ih1 ih2=>exact ih2 ih1
 | joinE=>exact id
 | joinB hw hb hx _ _ ih1 ih2=>exact fun h=>ih2 ((h.app ih1).made (of_decide_eq_true rfl))
 | joinS hw h1 _ ih=>exact fun h=>ih (h.made (of_decide_eq_true rfl))
 | joinN hw h1 _ ih=>exact fun h=>ih (h.made (of_decide_eq_true rfl))
 | neg hw _ ih=>exact VK.made ih (of_decide_eq_true rfl)
 | not hw _ ih=>exact VK.made ih (of_decide_eq_true rfl)
 | asked h1 h2 _ ih=>exact ih
 | ask _ _ ih1 ih2=>exact ih2 ih1
 | askE=>exact id
 | guard hw _ ih=>exact fun h=>ih (h.made (of_decide_eq_true rfl))
 | index hw _ hw2 _ ih1 ih2=>exact fun h=>ih2 ((h.app ih1).made (of_decide_eq_true rfl))
 | length hw hw2 _ ih=>exact fun h=>ih (h.made (of_decide_eq_true rfl))
 | val hw hw2 _ ih=>exact fun h=>ih (h.made (of_decide_eq_true rfl))
 | get hw hw2 hl hv hn _ ih=>exact fun h=>ih (h.made (by show (19:Int)<=26;decide))
 | call hw hw2 hl hv hn _ _ ih1 ih2=>exact fun h=>ih2 ((h.app ih1).made (by show (19:Int)<=29;decide))
 | args0 hw h1=>exact VK.nil
 | args hw h0 _ _ hw2 ih1 ih2=>exact VK.app ih1 ih2
 | manyE=>exact VK.nil
 | many hw hn _ _ ih1 ih2=>exact VK.app ih1 ih2
 | lit hk hi h0=>exact VK.nil.made (lit_kind hk)
 | paren hk hw _ h1 ih=>exact ih
 | const hk hw hx=>exact VK.nil.made (const_kind _)
 | wrap hk hw hx h1 _ h2 ih=>exact VK.made ih (wrap_kind _)
 | input hk hw h1 h2=>exact VK.nil.made (of_decide_eq_true rfl)
 | cast hk hw h1 ht h2 h3 _ h4 ih=>exact VK.made ih (by show (19:Int)<=35;decide)
 | newA hk hw ht h1 h0 _ h2 ih=>exact VK.made ih (by show (19:Int)<=31;decide)
 | newO hk hw ht ha _ ih=>exact VK.made ih (by show (19:Int)<=30;decide)
 | var hk hw hx hn=>exact VK.nil.made (by show (19:Int)<=25;decide)
 | block hw _ h1 ih=>exact ⟨one_all (fun x hx=>in_stat (ih.2 x hx)) ih.1,fun x hx=>List.mem_singleton.1 hx⟩
 | statsE=>exact StK.nil
 | stats hw _ _ ih1 ih2=>exact StK.app ih1 ih2
 | sBlock hw _ ih=>exact ⟨ih.1,fun x hx=>by have:=ih.2 x hx;omega⟩
 | sIf hw h1 _ h2 _ ih1 ih2=>exact VK.branch ih1 ih2 (of_decide_eq_true rfl)
 | sElse hw h1 _ h2 _ h3 _ ih1 ih2 ih3=>exact VK.branch ih1 (BlK.app ih2 ih3) (of_decide_eq_true rfl)
 | sWhile hw h1 _ h2 _ ih1 ih2=>exact VK.branch ih1 ih2 (of_decide_eq_true rfl)
 | sBreak hw h1=>exact VK.nil.stat (of_decide_eq_true rfl)
 | sCont hw h1=>exact VK.nil.stat (of_decide_eq_true rfl)
 | sRet0 hw h1=>exact VK.nil.stat (of_decide_eq_true rfl)
 | sRet hw h0 _ h1 ih=>exact VK.stat ih (of_decide_eq_true rfl)
 | sPrint hw h1 _ h2 h3 ih=>exact VK.stat ih (of_decide_eq_true rfl)
 | sSuper hw _ h1 ih=>exact VK.stat ih (of_decide_eq_true rfl)
 | sDecl0 hp hd ht h1 hn h2=>exact VK.nil.stat (by show (8:Int)<=9/\(9:Int)<=18;decide)
 | sDecl hp hd ht h1 hn h2 _ h3 ih=>exact VK.stat ih (by show (8:Int)<=9/\(9:Int)<=18;decide)
 | sSet hp hd _ hk h1 _ h2 ih1 ih2=>exact VK.stat (VK.app ih1 ih2) (of_decide_eq_true rfl)
 | sExpr hp hd _ hk h1 ih=>exact VK.stat ih (of_decide_eq_true rfl)
def PaK (f:Fo):Prop:=Kd f/\∀ x ∈ f.kinds,x=7
theorem param_kd (h:Param C i j u):PaK u:=by
 obtain ⟨k,y,x,ht,hw,hn,rfl,rfl⟩:=h.is
 exact ⟨one_all (fun x hx=>by cases hx) trivial,fun x hx=>List.mem_singleton.1 hx⟩
theorem PaK.app (h:PaK f) (h':PaK g'):PaK (f.app g'):=⟨Fo.All.app h.1 h'.1,fun x hx=>by rw [kinds_app] at hx;exact (List.mem_append.1 hx).elim (h.2 x) (h'.2 x)⟩
theorem params_kd (h:Params C i j u):PaK u:=by
 have key:∀ n i j u,ParamL C n i j u->PaK u:=fun n i j u h=>by
  induction h with
  | fin=>exact ⟨trivial,fun x hx=>by cases hx⟩
  | more hw hn h _ ih=>exact (param_kd h).app ih
 cases h with
 | none hw h1=>exact ⟨trivial,fun x hx=>by cases hx⟩
 | some hw h0 h g h1=>exact (param_kd h).app (key _ _ _ _ g)
def MeK (f:Fo):Prop:=Kd f/\∀ x ∈ f.kinds,x=4\/x=5\/x=6
theorem body_kd (h:PaK f) (h':BlK g') (ha:a.kind=5\/a.kind=6):MeK (one a (f.app g')):=⟨one_all (fun x hx=>by
 rw [kinds_app] at hx
 rcases List.mem_append.1 hx with hx|hx
 ·have:=h.2 x hx
  exact ⟨fun e=>by omega,fun _=>ha,fun e=>by omega,fun e=>by omega,by omega⟩
 ·exact in_block (h'.2 x hx)) (Fo.All.app h.1 h'.1),fun x hx=>by
 have hx:x ∈ [a.kind]:=hx
 rw [List.mem_singleton.1 hx];omega⟩
theorem member_kd (h:Member C i j u):MeK u:=by
 cases h with
 | init hw hp hb=>exact body_kd (params_kd hp) (dv_kd hb) (.inl rfl)
 | method hw ha h1 hn hp hb=>exact body_kd (params_kd hp) (dv_kd hb) (.inr rfl)
 | field hw ha h1 hn hv h2=>exact ⟨one_all (fun x hx=>by cases hx) trivial,fun x hx=>.inl (List.mem_singleton.1 hx)⟩
theorem members_kd (h:Members C n i j u):MeK u:=by
 induction h with
 | fin=>exact ⟨trivial,fun x hx=>by cases hx⟩
 | more hw hn h _ ih =>
  have h1:=member_kd h
  exact ⟨Fo.All.app h1.1 ih.1,fun x hx=>by rw [kinds_app] at hx;exact (List.mem_append.1 hx).elim (h1.2 x) (ih.2 x)⟩
def ClK (f:Fo):Prop:=Kd f/\∀ x ∈ f.kinds,x=2
theorem class_kd (h:Class C i j u):ClK u:=by
 have mem:∀ {x:Int},x=4\/x=5\/x=6->inK 2 x:=fun h=>⟨fun e=>by omega,fun e=>by omega,fun e=>by omega,fun _=>rfl,by omega⟩
 cases h with
 | base hw h1 hn h2 h h3 =>
  have hm:=members_kd h
  exact ⟨one_all (fun x hx=>mem (hm.2 x hx)) hm.1,fun x hx=>List.mem_singleton.1 hx⟩
 | ext hw h1 hn h2 h3 hk h4 h h5 =>
  have hm:=members_kd h
  refine ⟨one_all (fun x hx=>?_) (Fo.All.app (one_all (fun x hx=>by cases hx) trivial) hm.1),fun x hx=>List.mem_singleton.1 hx⟩
  rw [kinds_app] at hx
  rcases List.mem_append.1 hx with hx|hx
  ·have hx:x ∈ [(3:Int)]:=hx
   have:=List.mem_singleton.1 hx
   exact ⟨fun e=>by omega,fun e=>by omega,fun e=>by omega,fun _=>rfl,by omega⟩
  ·exact mem (hm.2 x hx)
theorem classes_kd (h:Classes C n i j u):ClK u:=by
 induction h with
 | fin=>exact ⟨trivial,fun x hx=>by cases hx⟩
 | more hk hn h _ ih =>
  have h1:=class_kd h
  exact ⟨Fo.All.app h1.1 ih.1,fun x hx=>by rw [kinds_app] at hx;exact (List.mem_append.1 hx).elim (h1.2 x) (ih.2 x)⟩
end
theorem nd_kind (C:PC) (a:An) (L:List Nat):(a.nd C L).kind=a.kind:=by unfold An.nd;split<;>rfl
def Lies (C:PC) (l:List Nd) (f:Fo) (b:Nat):Prop:=∀ q,q<f.size->l[b+q]? = (f.post C b)[q]?
theorem lies_parts {C:PC} {l:List Nd} {a:An} {k r:Fo} {b:Nat} (h:Lies C l (.cons a k r) b):Lies C l k b/\l[b+k.size]? = some (a.nd C (k.idx b))/\Lies C l r (b+k.size+1):=by
 have hk:=Fo.post_len C k b
 have hr:=Fo.post_len C r (b+k.size+1)
 have h:∀ q,q<k.size+1+r.size->l[b+q]? = (k.post C b ++ (a.nd C (k.idx b) :: r.post C (b+k.size+1)))[q]?:=h
 refine ⟨fun q hq=>?_,?_,fun q hq=>?_⟩
 ·rw [h q (by omega),List.getElem?_append_left (by omega)]
 ·rw [h k.size (by omega),List.getElem?_append_right (by omega),hk,Nat.sub_self];rfl
 ·have:=h (k.size+1+q) (by omega)
  rw [List.getElem?_append_right (by omega),hk,show k.size+1+q-k.size=q+1 by omega,List.getElem?_cons_succ] at this
  rw [<- this]
  congr 1;omega
theorem lies_kind {C:PC} {l:List Nd} (f:Fo):∀ b,Lies C l f b->∀ x ∈ f.idx b,kndS l x ∈ f.kinds:=by
 induction f with
 | nil=>intro b _ x hx;cases hx
 | cons a k r _ ih =>
  intro b h x hx
  obtain ⟨h1,h2,h3⟩:=lies_parts h
  have hx:x ∈ (b+k.size) :: r.idx (b+k.size+1):=hx
  show _ ∈ a.kind :: r.kinds
  rcases List.mem_cons.1 hx with rfl|hx
  ·have:kndS l (b+k.size)=a.kind:=by unfold kndS;rw [h2];exact nd_kind C a _
   rw [this];exact List.mem_cons_self
  ·exact List.mem_cons_of_mem _ (ih _ h3 x hx)
theorem lies_kids {C:PC} {l:List Nd} {a:An} {L:List Nat} {p:Nat} (h:l[p]? = some (a.nd C L)):kidsOf l p=L:=by
 unfold kidsOf
 rw [h]
 show (((a.nd C L).kids)).map Int.toNat=L
 rw [nd_kids,List.map_map]
 exact (List.map_congr_left (fun x _=>by rfl)).trans (List.map_id L)
theorem lies_in {C:PC} {l:List Nd} (f:Fo):∀ b,Lies C l f b->Kd f->∀ p,b<=p->p<b+f.size->∀ x ∈ kidsOf l p,inK (kndS l p) (kndS l x):=by
 induction f with
 | nil=>intro b _ _ p h1 h2;exact absurd h2 (by show ¬ p<b+0;omega)
 | cons a k r ihk ihr =>
  intro b h hK p hp1 hp2 x hx
  obtain ⟨h1,h2,h3⟩:=lies_parts h
  obtain ⟨k1,k2,k3⟩:=hK
  have hp2:p<b+(k.size+1+r.size):=hp2
  by_cases hlt:p<b+k.size
  ·exact ihk b h1 k2 p hp1 hlt x hx
  ·by_cases he:p=b+k.size
   ·subst he
    rw [lies_kids h2] at hx
    have hq:=k1 _ (lies_kind k b h1 x hx)
    have:kndS l (b+k.size)=a.kind:=by unfold kndS;rw [h2];exact nd_kind C a _
    rw [this];exact hq
   ·exact ihr _ h3 k3 p (by omega) (by omega) x hx
theorem read_in {C:PC} {u:Fo} {n i j:Nat} (h:Classes C n i j u):∀ p x,x ∈ kidsOf (u.post C 0 ++ [progN C u j]) p->inK (kndS (u.post C 0 ++ [progN C u j]) p) (kndS (u.post C 0 ++ [progN C u j]) x):=by
 intro p x hx
 obtain ⟨p1,p2,p3⟩:=prog_facts (C:=C) u j
 have hl:=Fo.post_len C u 0
 obtain ⟨c1,c2⟩:=classes_kd h
 have hL:Lies C (u.post C 0 ++ [progN C u j]) u 0:=fun q hq=>by rw [Nat.zero_add,List.getElem?_append_left (by omega)]
 by_cases hp:p<u.size
 ·exact lies_in u 0 hL c1 p (Nat.zero_le _) (by omega) x hx
 ·by_cases he:p=u.size
  ·have hg:(u.post C 0 ++ [progN C u j])[p]? = some (progN C u j):=by
    rw [List.getElem?_append_right (by omega),hl,he,Nat.sub_self];rfl
   have hk:kidsOf (u.post C 0 ++ [progN C u j]) p=u.idx 0:=by
    unfold kidsOf
    rw [hg]
    show ((progN C u j).kids).map Int.toNat=_
    rw [p1,List.map_map]
    exact (List.map_congr_left (fun x _=>by rfl)).trans (List.map_id _)
   rw [hk] at hx
   have h2:=c2 _ (lies_kind u 0 hL x hx)
   have h1:kndS (u.post C 0 ++ [progN C u j]) p=1:=by unfold kndS;rw [hg];exact p2
   rw [h1,h2]
   exact ⟨fun e=>by omega,fun e=>by omega,fun _=>rfl,fun e=>by omega,by omega⟩
  ·unfold kidsOf at hx
   rw [List.getElem?_eq_none (by rw [List.length_append,hl];show u.size+1<=p;omega)] at hx
   cases hx
end Go.Proofs.YtfehpdliobapfaaGreatDoor.G
namespace Go.Proofs.YtfehpdliobapfaaGreatDoor.S
def KindsIn (l:List Nd):Prop:=∀ p x,x ∈ kidsOf l p->G.inK (kndS l p) (kndS l x)
theorem KindsIn.housed {l:List Nd} (h:KindsIn l):Housed l:=fun p x hx h9=>(h p x hx).1 h9
def inBG:List Nd->Nat->Nat->Bool
 | [],_,_=>false
 | x :: xs,a,i=>if (a:Int) ∈ x.kids then (if x.kind=8 then true else inBG xs i (i+1)) else inBG xs a (i+1)
def start:Sc:=⟨[],fun _=>none,fun _=>none,[]⟩
theorem scope_fold {l:List Nd} {root:Int} (P:ProgOk l root) (H:Housed l) {m:Nat} (hm:m<l.length) (hk:kndS l m=5\/kndS l m=6) (h:Bool) :
  match scS l h m start with
  | .error e=>foldE l [] (postS l m)=some e
  | .ok s=>foldE l [] (postS l m)=none/\s.lc=locL l (postS l m)/\(s.lc.map (txtS l)).Nodup/\UsOk l (postS l m) s:=by
 have hn:=(post_perm P m hm).nodup_iff.2 (walk_once P m hm)
 have hb:locB l m=false:=by unfold locB;simp;omega
 rw [sc_eq P hm]
 rw [post_eq P hm] at hn ⊢
 have W:ScW l [] m start:=⟨rfl,List.nodup_nil,Nat.zero_le _,fun k=>⟨fun h=>(by cases h),fun ⟨d,p,h1,_⟩=>(by simp [start] at h1)⟩,fun A x B e=>(by simp at e)⟩
 have K:=kids_walk (c:=m) (F:=scS l (h || decide (kndS l m=8))) (kidsOf l m) [] start (by rw [List.nil_append];exact hn.sublist (List.sublist_append_left _ _)) (fun k hk V s W hn=>sc_walk P H k m hm hk _ V s (fun h8=>by omega) W hn) W
 have hE:∀ V,foldE l V [m]=none:=fun V=>by
  rw [foldE_one];unfold stepE;rw [if_neg (fun q=>by omega),if_neg (by rw [hb];simp)]
 cases hs:kidsG (scS l (h || decide (kndS l m=8))) (kidsOf l m) start with
 | error e =>
  rw [hs] at K
  have K:foldE l [] ((kidsOf l m).flatMap (postS l))=some e:=K
  show foldE l [] ((kidsOf l m).flatMap (postS l) ++ [m])=some e
  rw [foldE_app,K]
 | ok s =>
  rw [hs] at K
  obtain ⟨K1,K2⟩:=K
  rw [List.nil_append] at K2
  have e:selfG l h m start.op.length s = .ok s:=by
   unfold selfG
   rw [if_neg (by omega),if_neg (by omega),if_neg (by omega),if_neg (by omega)]
  show match selfG l h m start.op.length s with
   | .error e=>foldE l [] ((kidsOf l m).flatMap (postS l) ++ [m])=some e
   | .ok s=>foldE l [] ((kidsOf l m).flatMap (postS l) ++ [m])=none/\s.lc=locL l ((kidsOf l m).flatMap (postS l) ++ [m])/\(s.lc.map (txtS l)).Nodup/\UsOk l ((kidsOf l m).flatMap (postS l) ++ [m]) s
  rw [e]
  refine ⟨by rw [foldE_app,K1];exact hE _,?_,K2.names,us_more K2.us (by omega) _ (fun _ _ h=>h) _ _⟩
  rw [locL_one,if_neg (by rw [hb];simp),<- K2.lc]
end Go.Proofs.YtfehpdliobapfaaGreatDoor.S
