/- For any text and any numbers,ScopeBlocks,ScopeUses and ScopeMany return true and leave their arguments as they were. -/
import Derived.Test.YtfehpdliobapfaaGreatDoorKPaPl
import Derived.Test.YtfehpdliobapfaaGreatDoorKScPl
set_option linter.unusedVariables false
set_option linter.unusedSimpArgs false
namespace Go.Proofs.YtfehpdliobapfaaGreatDoor.G
structure Ty where
 B:Int
 N:ByteArray
 D:Int
 M:ByteArray
 i:Nat
 j:Nat
 e:List Nat
structure An where
 kind:Int
 text:ByteArray
 ty:Option Ty
 num:Int
 i:Nat
 j:Nat
inductive Fo where
 | nil
 | cons (a:An) (kids rest:Fo)
namespace Fo
def size:Fo->Nat
 | nil=>0
 | cons _ k r=>k.size+1+r.size
def app:Fo->Fo->Fo
 | nil,g=>g
 | cons a k r,g=>cons a k (r.app g)
def idx:Fo->Nat->List Nat
 | nil,_=>[]
 | cons _ k r,b=>(b+k.size) :: r.idx (b+k.size+1)
end Fo
def An.nd (C:PC) (a:An) (l:List Nat):Nd :=
 match a.ty with
 | none=>⟨a.kind,(C.tok a.i).2.1,(C.tok (a.j-1)).2.2,l.map Int.ofNat,a.text,0,⟨#[]⟩,0,⟨#[]⟩,a.num,0,0,[]⟩
 | some t=>⟨a.kind,(C.tok a.i).2.1,(C.tok (a.j-1)).2.2,l.map Int.ofNat,a.text,t.B,t.N,t.D,t.M,a.num,(C.tok t.i).2.1,(C.tok (t.j-1)).2.2,t.e.map fun k=>((C.tok k).2.2:Int)⟩
def Fo.post (C:PC):Fo->Nat->List Nd
 | .nil,_=>[]
 | .cons a k r,b=>k.post C b ++ (a.nd C (k.idx b) :: r.post C (b+k.size+1))
def one (a:An) (k:Fo):Fo:=.cons a k .nil
theorem Fo.app_nil (f:Fo):f.app .nil=f:=by
 induction f with
 | nil=>rfl
 | cons a k r _ ih=>show Fo.cons a k (r.app .nil)=_;rw [ih]
theorem Fo.app_assoc (f g h:Fo):(f.app g).app h=f.app (g.app h):=by
 induction f with
 | nil=>rfl
 | cons a k r _ ih=>show Fo.cons a k ((r.app g).app h)=Fo.cons a k (r.app (g.app h));rw [ih]
theorem Fo.app_size (f g:Fo):(f.app g).size=f.size+g.size:=by
 induction f with
 | nil=>show g.size=0+g.size;omega
 | cons a k r _ ih=>show k.size+1+(r.app g).size=k.size+1+r.size+g.size;rw [ih];omega
theorem Fo.app_idx (f g:Fo) (b:Nat):(f.app g).idx b=f.idx b ++ g.idx (b+f.size):=by
 induction f generalizing b with
 | nil=>rfl
 | cons a k r _ ih =>
  show (b+k.size) :: (r.app g).idx (b+k.size+1)=(b+k.size) :: (r.idx (b+k.size+1) ++ g.idx (b+(k.size+1+r.size)))
  rw [ih,show b+k.size+1+r.size=b+(k.size+1+r.size) by omega]
theorem Fo.app_post (C:PC) (f g:Fo) (b:Nat):(f.app g).post C b=f.post C b ++ g.post C (b+f.size):=by
 induction f generalizing b with
 | nil=>rfl
 | cons a k r _ ih =>
  show k.post C b ++ (a.nd C (k.idx b) :: (r.app g).post C (b+k.size+1))=(k.post C b ++ (a.nd C (k.idx b) :: r.post C (b+k.size+1))) ++ g.post C (b+(k.size+1+r.size))
  rw [ih,show b+k.size+1+r.size=b+(k.size+1+r.size) by omega];simp
theorem Fo.post_len (C:PC) (f:Fo) (b:Nat):(f.post C b).length=f.size:=by
 induction f generalizing b with
 | nil=>rfl
 | cons a k r ih1 ih2 =>
  show (k.post C b ++ (a.nd C (k.idx b) :: r.post C (b+k.size+1))).length=k.size+1+r.size
  rw [List.length_append,List.length_cons,ih1,ih2];omega
theorem one_size (a:An) (k:Fo):(one a k).size=k.size+1:=rfl
theorem one_idx (a:An) (k:Fo) (b:Nat):(one a k).idx b=[b+k.size]:=rfl
theorem one_post (C:PC) (a:An) (k:Fo) (b:Nat):(one a k).post C b=k.post C b ++ [a.nd C (k.idx b)]:=rfl
def Ty.free (t:Ty):Bool:=decide (byS t.M t.D.toNat=32) && (decide (0<t.D) || decide (t.B=5))
def Ty.mark (t:Ty) (m:UInt8):Ty:={ t with M:=t.M.extract 0 t.D.toNat ++ ⟨#[m]⟩ }
def Ty.arr (t:Ty) (k:Nat):Ty:={ t with D:=t.D+1,M:=t.M ++ ⟨#[32]⟩,e:=t.e ++ [k] }
def Ty.alone (t:Ty):Bool:=decide (t.B=5) && decide (t.M=⟨#[32]⟩)
structure Wd (C:PC) (i:Nat) (x:ByteArray):Prop where
 word:C.word i=x
 in_:i+1<C.toks.length
inductive TyL (C:PC):Nat->Nat->Ty->Ty->Prop
 | fin {i:Nat} {x:Ty}:TyL C i i x x
 | null {i j:Nat} {x y:Ty} (h:Wd C i (⟨#[63]⟩:ByteArray)) (hf:x.free=true) (t:TyL C (i+1) j (x.mark 63) y):TyL C i j x y
 | arr {i j:Nat} {x y:Ty} (h:Wd C i (⟨#[91]⟩:ByteArray)) (h1:Wd C (i+1) (⟨#[93]⟩:ByteArray)) (hd:x.D≠4) (t:TyL C (i+2) j (x.arr (i+1)) y):TyL C i j x y
def baseT (b:Nat) (x:ByteArray) (i:Nat):Ty:=⟨b,if b=5 then x else ⟨#[]⟩,0,⟨#[32]⟩,i,i+1,[i]⟩
structure Inner (C:PC) (i j:Nat) (t:Ty):Prop where
 in_:i+1<C.toks.length
 name:kindT (C.word i)=5->C.name (C.word i)=true
 rest:∃ y,TyL C (i+1) j (baseT (kindT (C.word i)) (C.word i) i) y/\t={ y with i:=i,j:=j }
inductive Typed (C:PC):Nat->Nat->Ty->Prop
 | inner {i j:Nat} {t:Ty} (hw:C.word i≠(⟨#[79,112,116,105,111,110]⟩:ByteArray)) (h:Inner C i j t):Typed C i j t
 | option {i j:Nat} {t:Ty} (hw:Wd C i (⟨#[79,112,116,105,111,110]⟩:ByteArray)) (h1:Wd C (i+1) (⟨#[60]⟩:ByteArray)) (h:Inner C (i+2) j t) (h2:Wd C j (⟨#[62]⟩:ByteArray)) (hf:t.free=true):Typed C i (j+1) { t.mark 111 with i:=i,j:=j+1 }
inductive Answer (C:PC):Nat->Nat->Ty->Prop
 | void {i:Nat} (hw:Wd C i (⟨#[118,111,105,100]⟩:ByteArray)):Answer C i (i+1) (baseT 6 (C.word i) i)
 | typed {i j:Nat} {t:Ty} (hw:C.word i≠(⟨#[118,111,105,100]⟩:ByteArray)) (h:Typed C i j t):Answer C i j t
inductive Fn where
 | value
 | joined (c:Nat)
 | joinL (c f:Nat) (t:Fo)
 | signed
 | asked
 | askL (f:Nat) (t:Fo)
 | first
 | args
 | many (n:Nat)
 | block
 | stats
 | stat
abbrev litK (k:Nat):Prop:=k=2\/k=3\/k=4
def plainW (x:ByteArray):Prop:=x≠(⟨#[123]⟩:ByteArray)/\x≠(⟨#[105,102]⟩:ByteArray)/\x≠(⟨#[119,104,105,108,101]⟩:ByteArray)/\x≠(⟨#[98,114,101,97,107]⟩:ByteArray)/\x≠(⟨#[99,111,110,116,105,110,117,101]⟩:ByteArray)/\x≠(⟨#[114,101,116,117,114,110]⟩:ByteArray)/\x≠(⟨#[112,114,105,110,116]⟩:ByteArray)/\x≠(⟨#[115,117,112,101,114]⟩:ByteArray)
abbrev constW (x:ByteArray):Prop:=x=(⟨#[116,114,117,101]⟩:ByteArray)\/x=(⟨#[102,97,108,115,101]⟩:ByteArray)\/x=(⟨#[110,117,108,108]⟩:ByteArray)\/x=(⟨#[110,111,110,101]⟩:ByteArray)\/x=(⟨#[116,104,105,115]⟩:ByteArray)
abbrev wrapW (x:ByteArray):Prop:=x=(⟨#[115,111,109,101]⟩:ByteArray)\/x=(⟨#[97,115,107]⟩:ByteArray)\/x=(⟨#[116,111,105,110,116]⟩:ByteArray)\/x=(⟨#[116,111,100,111,117,98,108,101]⟩:ByteArray)
def freeW (x:ByteArray):Prop:=x≠(⟨#[40]⟩:ByteArray)/\¬ constW x/\¬ wrapW x/\x≠(⟨#[105,110,112,117,116]⟩:ByteArray)/\x≠(⟨#[99,97,115,116]⟩:ByteArray)/\x≠(⟨#[110,101,119]⟩:ByteArray)
def decAt (C:PC) (i:Nat):Bool:=declares C ⟨i,0,0,[]⟩
def an (k:Int) (t:ByteArray) (i j:Nat):An:=⟨k,t,none,0,i,j⟩
def ant (k:Int) (t:ByteArray) (ty:Ty) (i j:Nat):An:=⟨k,t,some ty,0,i,j⟩
def Fo.kind:Fo->Int
 | .cons a _ .nil=>a.kind
 | _=>0
inductive Dv (C:PC):Fn->Nat->Nat->Nat->Fo->Prop
 | value {d i j:Nat} {t:Fo} (h:Dv C (.joined 1) d i j t):Dv C .value (d+1) i j t
 | up {d i j:Nat} {t:Fo} (h:Dv C .signed d i j t):Dv C (.joined 7) d i j t
 | joined {c d i k j:Nat} {t u:Fo} (hc:c<=6) (h:Dv C (.joined (c+1)) d i k t) (g:Dv C (.joinL c i t) d k j u):Dv C (.joined c) d i j u
 | joinE {c f d i:Nat} {t:Fo}:Dv C (.joinL c f t) d i i t
 | joinB {c f d i k j:Nat} {t u v:Fo} {x:ByteArray} (hw:Wd C i x) (hb:bindsN x=c) (hx:x≠(⟨#[105,115]⟩:ByteArray)) (h:Dv C (.joined (c+1)) d (i+1) k u) (g:Dv C (.joinL c f (one (an 34 x f k) (t.app u))) d k j v):Dv C (.joinL c f t) d i j v
 | joinS {f d i j:Nat} {t v:Fo} (hw:Wd C i (⟨#[105,115]⟩:ByteArray)) (h1:Wd C (i+1) (⟨#[115,111,109,101]⟩:ByteArray)) (g:Dv C (.joinL 4 f (one (an 43 ⟨#[]⟩ f (i+2)) t)) d (i+2) j v):Dv C (.joinL 4 f t) d i j v
 | joinN {f d i j:Nat} {t v:Fo} (hw:Wd C i (⟨#[105,115]⟩:ByteArray)) (h1:Wd C (i+1) (⟨#[110,111,110,101]⟩:ByteArray)) (g:Dv C (.joinL 4 f (one (an 44 ⟨#[]⟩ f (i+2)) t)) d (i+2) j v):Dv C (.joinL 4 f t) d i j v
 | neg {d i j:Nat} {t:Fo} (hw:Wd C i (⟨#[45]⟩:ByteArray)) (h:Dv C .signed d (i+1) j t):Dv C .signed (d+1) i j (one (an 32 ⟨#[]⟩ i j) t)
 | not {d i j:Nat} {t:Fo} (hw:Wd C i (⟨#[33]⟩:ByteArray)) (h:Dv C .signed d (i+1) j t):Dv C .signed (d+1) i j (one (an 33 ⟨#[]⟩ i j) t)
 | asked {d i j:Nat} {t:Fo} (h1:C.word i≠(⟨#[45]⟩:ByteArray)) (h2:C.word i≠(⟨#[33]⟩:ByteArray)) (h:Dv C .asked d i j t):Dv C .signed d i j t
 | ask {d i k j:Nat} {t u:Fo} (h:Dv C .first d i k t) (g:Dv C (.askL i t) d k j u):Dv C .asked d i j u
 | askE {f d i:Nat} {t:Fo}:Dv C (.askL f t) d i i t
 | guard {f d i j:Nat} {t v:Fo} (hw:Wd C i (⟨#[33]⟩:ByteArray)) (g:Dv C (.askL f (one (an 40 ⟨#[]⟩ f (i+1)) t)) d (i+1) j v):Dv C (.askL f t) d i j v
 | index {f d i k j:Nat} {t u v:Fo} (hw:Wd C i (⟨#[91]⟩:ByteArray)) (h:Dv C .value d (i+1) k u) (h1:Wd C k (⟨#[93]⟩:ByteArray)) (g:Dv C (.askL f (one (an 27 ⟨#[]⟩ f (k+1)) (t.app u))) d (k+1) j v):Dv C (.askL f t) d i j v
 | length {f d i j:Nat} {t v:Fo} (hw:Wd C i (⟨#[46]⟩:ByteArray)) (h1:Wd C (i+1) (⟨#[108,101,110,103,116,104]⟩:ByteArray)) (g:Dv C (.askL f (one (an 28 ⟨#[]⟩ f (i+2)) t)) d (i+2) j v):Dv C (.askL f t) d i j v
 | val {f d i j:Nat} {t v:Fo} (hw:Wd C i (⟨#[46]⟩:ByteArray)) (h1:Wd C (i+1) (⟨#[118,97,108]⟩:ByteArray)) (g:Dv C (.askL f (one (an 45 ⟨#[]⟩ f (i+2)) t)) d (i+2) j v):Dv C (.askL f t) d i j v
 | get {f d i j:Nat} {t v:Fo} {x:ByteArray} (hw:Wd C i (⟨#[46]⟩:ByteArray)) (h1:Wd C (i+1) x) (hl:x≠(⟨#[108,101,110,103,116,104]⟩:ByteArray)) (hv:x≠(⟨#[118,97,108]⟩:ByteArray)) (hn:C.name x=true) (g:Dv C (.askL f (one (an 26 x f (i+2)) t)) d (i+2) j v):Dv C (.askL f t) d i j v
 | call {f d i k j:Nat} {t u v:Fo} {x:ByteArray} (hw:Wd C i (⟨#[46]⟩:ByteArray)) (h1:Wd C (i+1) x) (hl:x≠(⟨#[108,101,110,103,116,104]⟩:ByteArray)) (hv:x≠(⟨#[118,97,108]⟩:ByteArray)) (hn:C.name x=true) (h:Dv C .args d (i+2) k u) (g:Dv C (.askL f (one (an 29 x f k) (t.app u))) d k j v):Dv C (.askL f t) d i j v
 | args0 {d i:Nat} (hw:Wd C i (⟨#[40]⟩:ByteArray)) (h1:Wd C (i+1) (⟨#[41]⟩:ByteArray)):Dv C .args d i (i+2) .nil
 | args {d i k j:Nat} {t u:Fo} (hw:Wd C i (⟨#[40]⟩:ByteArray)) (h0:C.word (i+1)≠(⟨#[41]⟩:ByteArray)) (h:Dv C .value d (i+1) k t) (g:Dv C (.many 1) d k j u) (h1:Wd C j (⟨#[41]⟩:ByteArray)):Dv C .args d i (j+1) (t.app u)
 | manyE {n d i:Nat}:Dv C (.many n) d i i .nil
 | many {n d i k j:Nat} {t u:Fo} (hw:Wd C i (⟨#[44]⟩:ByteArray)) (hn:n≠64) (h:Dv C .value d (i+1) k t) (g:Dv C (.many (n+1)) d k j u):Dv C (.many n) d i j (t.app u)
 | lit {d i:Nat} (hk:litK (C.tok i).1) (hi:i+1<C.toks.length) (h0:(litN C (C.tok i).1 (C.word i)).2=0):Dv C .first d i (i+1) (one ⟨(litN C (C.tok i).1 (C.word i)).1.kind,(litN C (C.tok i).1 (C.word i)).1.text,none,(litN C (C.tok i).1 (C.word i)).1.num,i,i+1⟩ .nil)
 | paren {d i j:Nat} {t:Fo} (hk:¬ litK (C.tok i).1) (hw:Wd C i (⟨#[40]⟩:ByteArray)) (h:Dv C .value d (i+1) j t) (h1:Wd C j (⟨#[41]⟩:ByteArray)):Dv C .first d i (j+1) t
 | const {d i:Nat} {x:ByteArray} (hk:¬ litK (C.tok i).1) (hw:Wd C i x) (hx:constW x):Dv C .first d i (i+1) (one ⟨(constN x).kind,⟨#[]⟩,none,(constN x).num,i,i+1⟩ .nil)
 | wrap {d i j:Nat} {t:Fo} {x:ByteArray} (hk:¬ litK (C.tok i).1) (hw:Wd C i x) (hx:wrapW x) (h1:Wd C (i+1) (⟨#[40]⟩:ByteArray)) (h:Dv C .value d (i+2) j t) (h2:Wd C j (⟨#[41]⟩:ByteArray)):Dv C .first d i (j+1) (one (an (wrapK x) ⟨#[]⟩ i (j+1)) t)
 | input {d i:Nat} (hk:¬ litK (C.tok i).1) (hw:Wd C i (⟨#[105,110,112,117,116]⟩:ByteArray)) (h1:Wd C (i+1) (⟨#[40]⟩:ByteArray)) (h2:Wd C (i+2) (⟨#[41]⟩:ByteArray)):Dv C .first d i (i+3) (one (an 38 ⟨#[]⟩ i (i+3)) .nil)
 | cast {d i k j:Nat} {y:Ty} {t:Fo} (hk:¬ litK (C.tok i).1) (hw:Wd C i (⟨#[99,97,115,116]⟩:ByteArray)) (h1:Wd C (i+1) (⟨#[60]⟩:ByteArray)) (ht:Typed C (i+2) k y) (h2:Wd C k (⟨#[62]⟩:ByteArray)) (h3:Wd C (k+1) (⟨#[40]⟩:ByteArray)) (h:Dv C .value d (k+2) j t) (h4:Wd C j (⟨#[41]⟩:ByteArray)):Dv C .first d i (j+1) (one (ant 35 ⟨#[]⟩ y i (j+1)) t)
 | newA {d i k j:Nat} {y:Ty} {t:Fo} (hk:¬ litK (C.tok i).1) (hw:Wd C i (⟨#[110,101,119]⟩:ByteArray)) (ht:Inner C (i+1) k y) (h1:Wd C k (⟨#[91]⟩:ByteArray)) (h0:C.word (k+1)≠(⟨#[93]⟩:ByteArray)) (h:Dv C .value d (k+1) j t) (h2:Wd C j (⟨#[93]⟩:ByteArray)):Dv C .first d i (j+1) (one (ant 31 ⟨#[]⟩ y i (j+1)) t)
 | newO {d i k j:Nat} {y:Ty} {t:Fo} (hk:¬ litK (C.tok i).1) (hw:Wd C i (⟨#[110,101,119]⟩:ByteArray)) (ht:Inner C (i+1) k y) (ha:y.alone=true) (h:Dv C .args d k j t):Dv C .first d i j (one (ant 30 ⟨#[]⟩ y i j) t)
 | var {d i:Nat} {x:ByteArray} (hk:¬ litK (C.tok i).1) (hw:Wd C i x) (hx:freeW x) (hn:C.name x=true):Dv C .first d i (i+1) (one (an 25 x i (i+1)) .nil)
 | block {d i j:Nat} {t:Fo} (hw:Wd C i (⟨#[123]⟩:ByteArray)) (h:Dv C .stats d (i+1) j t) (h1:Wd C j (⟨#[125]⟩:ByteArray)):Dv C .block (d+1) i (j+1) (one (an 8 ⟨#[]⟩ i (j+1)) t)
 | statsE {d i:Nat}:Dv C .stats d i i .nil
 | stats {d i k j:Nat} {t u:Fo} (hw:C.word i≠(⟨#[125]⟩:ByteArray)) (h:Dv C .stat d i k t) (g:Dv C .stats d k j u):Dv C .stats d i j (t.app u)
 | sBlock {d i j:Nat} {t:Fo} (hw:C.word i=(⟨#[123]⟩:ByteArray)) (h:Dv C .block d i j t):Dv C .stat d i j t
 | sIf {d i k j:Nat} {t u:Fo} (hw:Wd C i (⟨#[105,102]⟩:ByteArray)) (h1:Wd C (i+1) (⟨#[40]⟩:ByteArray)) (h:Dv C .value d (i+2) k t) (h2:Wd C k (⟨#[41]⟩:ByteArray)) (g:Dv C .block d (k+1) j u):Dv C .stat d i j (one (an 11 ⟨#[]⟩ i j) (t.app u))
 | sElse {d i k m j:Nat} {t u v:Fo} (hw:Wd C i (⟨#[105,102]⟩:ByteArray)) (h1:Wd C (i+1) (⟨#[40]⟩:ByteArray)) (h:Dv C .value d (i+2) k t) (h2:Wd C k (⟨#[41]⟩:ByteArray)) (g:Dv C .block d (k+1) m u) (h3:Wd C m (⟨#[101,108,115,101]⟩:ByteArray)) (e:Dv C .block d (m+1) j v):Dv C .stat d i j (one (an 11 ⟨#[]⟩ i j) (t.app (u.app v)))
 | sWhile {d i k j:Nat} {t u:Fo} (hw:Wd C i (⟨#[119,104,105,108,101]⟩:ByteArray)) (h1:Wd C (i+1) (⟨#[40]⟩:ByteArray)) (h:Dv C .value d (i+2) k t) (h2:Wd C k (⟨#[41]⟩:ByteArray)) (g:Dv C .block d (k+1) j u):Dv C .stat d i j (one (an 12 ⟨#[]⟩ i j) (t.app u))
 | sBreak {d i:Nat} (hw:Wd C i (⟨#[98,114,101,97,107]⟩:ByteArray)) (h1:Wd C (i+1) (⟨#[59]⟩:ByteArray)):Dv C .stat d i (i+2) (one (an 13 ⟨#[]⟩ i (i+2)) .nil)
 | sCont {d i:Nat} (hw:Wd C i (⟨#[99,111,110,116,105,110,117,101]⟩:ByteArray)) (h1:Wd C (i+1) (⟨#[59]⟩:ByteArray)):Dv C .stat d i (i+2) (one (an 14 ⟨#[]⟩ i (i+2)) .nil)
 | sRet0 {d i:Nat} (hw:Wd C i (⟨#[114,101,116,117,114,110]⟩:ByteArray)) (h1:Wd C (i+1) (⟨#[59]⟩:ByteArray)):Dv C .stat d i (i+2) (one (an 15 ⟨#[]⟩ i (i+2)) .nil)
 | sRet {d i j:Nat} {t:Fo} (hw:Wd C i (⟨#[114,101,116,117,114,110]⟩:ByteArray)) (h0:C.word (i+1)≠(⟨#[59]⟩:ByteArray)) (h:Dv C .value d (i+1) j t) (h1:Wd C j (⟨#[59]⟩:ByteArray)):Dv C .stat d i (j+1) (one (an 15 ⟨#[]⟩ i (j+1)) t)
 | sPrint {d i j:Nat} {t:Fo} (hw:Wd C i (⟨#[112,114,105,110,116]⟩:ByteArray)) (h1:Wd C (i+1) (⟨#[40]⟩:ByteArray)) (h:Dv C .value d (i+2) j t) (h2:Wd C j (⟨#[41]⟩:ByteArray)) (h3:Wd C (j+1) (⟨#[59]⟩:ByteArray)):Dv C .stat d i (j+2) (one (an 16 ⟨#[]⟩ i (j+2)) t)
 | sSuper {d i j:Nat} {t:Fo} (hw:Wd C i (⟨#[115,117,112,101,114]⟩:ByteArray)) (h:Dv C .args d (i+1) j t) (h1:Wd C j (⟨#[59]⟩:ByteArray)):Dv C .stat d i (j+1) (one (an 17 ⟨#[]⟩ i (j+1)) t)
 | sDecl0 {d i k:Nat} {y:Ty} {x:ByteArray} (hp:plainW (C.word i)) (hd:decAt C i=true) (ht:Typed C i k y) (h1:Wd C k x) (hn:C.name x=true) (h2:Wd C (k+1) (⟨#[59]⟩:ByteArray)):Dv C .stat d i (k+2) (one (ant 9 x y i (k+2)) .nil)
 | sDecl {d i k j:Nat} {y:Ty} {x:ByteArray} {t:Fo} (hp:plainW (C.word i)) (hd:decAt C i=true) (ht:Typed C i k y) (h1:Wd C k x) (hn:C.name x=true) (h2:Wd C (k+1) (⟨#[61]⟩:ByteArray)) (h:Dv C .value d (k+2) j t) (h3:Wd C j (⟨#[59]⟩:ByteArray)):Dv C .stat d i (j+1) (one (ant 9 x y i (j+1)) t)
 | sSet {d i k j:Nat} {t u:Fo} (hp:plainW (C.word i)) (hd:decAt C i=false) (h:Dv C .value d i k t) (hk:t.kind=25\/t.kind=26\/t.kind=27) (h1:Wd C k (⟨#[61]⟩:ByteArray)) (g:Dv C .value d (k+1) j u) (h2:Wd C j (⟨#[59]⟩:ByteArray)):Dv C .stat d i (j+1) (one (an 10 ⟨#[]⟩ i (j+1)) (t.app u))
 | sExpr {d i j:Nat} {t:Fo} (hp:plainW (C.word i)) (hd:decAt C i=false) (h:Dv C .value d i j t) (hk:t.kind=29\/t.kind=30) (h1:Wd C j (⟨#[59]⟩:ByteArray)):Dv C .stat d i (j+1) (one (an 18 ⟨#[]⟩ i (j+1)) t)
structure Param (C:PC) (i j:Nat) (t:Fo):Prop where
 is:∃ (k:Nat) (y:Ty) (x:ByteArray),Typed C i k y/\Wd C k x/\C.name x=true/\j=k+1/\t=one (ant 7 x y i (k+1)) .nil
inductive ParamL (C:PC):Nat->Nat->Nat->Fo->Prop
 | fin {n i:Nat}:ParamL C n i i .nil
 | more {n i k j:Nat} {t u:Fo} (hw:Wd C i (⟨#[44]⟩:ByteArray)) (hn:n≠64) (h:Param C (i+1) k t) (g:ParamL C (n+1) k j u):ParamL C n i j (t.app u)
inductive Params (C:PC):Nat->Nat->Fo->Prop
 | none {i:Nat} (hw:Wd C i (⟨#[40]⟩:ByteArray)) (h1:Wd C (i+1) (⟨#[41]⟩:ByteArray)):Params C i (i+2) .nil
 | some {i k j:Nat} {t u:Fo} (hw:Wd C i (⟨#[40]⟩:ByteArray)) (h0:C.word (i+1)≠(⟨#[41]⟩:ByteArray)) (h:Param C (i+1) k t) (g:ParamL C 1 k j u) (h1:Wd C j (⟨#[41]⟩:ByteArray)):Params C i (j+1) (t.app u)
inductive Member (C:PC):Nat->Nat->Fo->Prop
 | init {i k j:Nat} {t u:Fo} (hw:Wd C i (⟨#[105,110,105,116]⟩:ByteArray)) (hp:Params C (i+1) k t) (hb:Dv C .block 60 k j u):Member C i j (one (an 5 ⟨#[]⟩ i j) (t.app u))
 | method {i k m j:Nat} {y:Ty} {x:ByteArray} {t u:Fo} (hw:C.word i≠(⟨#[105,110,105,116]⟩:ByteArray)) (ha:Answer C i k y) (h1:Wd C k x) (hn:C.name x=true) (hp:Params C (k+1) m t) (hb:Dv C .block 60 m j u):Member C i j (one (ant 6 x y i j) (t.app u))
 | field {i k:Nat} {y:Ty} {x:ByteArray} (hw:C.word i≠(⟨#[105,110,105,116]⟩:ByteArray)) (ha:Answer C i k y) (h1:Wd C k x) (hn:C.name x=true) (hv:y.B≠6) (h2:Wd C (k+1) (⟨#[59]⟩:ByteArray)):Member C i (k+2) (one (ant 4 x y i (k+2)) .nil)
inductive Members (C:PC):Nat->Nat->Nat->Fo->Prop
 | fin {n i:Nat}:Members C n i i .nil
 | more {n i k j:Nat} {t u:Fo} (hw:C.word i≠(⟨#[125]⟩:ByteArray)) (hn:n≠64) (h:Member C i k t) (g:Members C (n+1) k j u):Members C n i j (t.app u)
inductive Class (C:PC):Nat->Nat->Fo->Prop
 | base {i j:Nat} {x:ByteArray} {t:Fo} (hw:Wd C i (⟨#[99,108,97,115,115]⟩:ByteArray)) (h1:Wd C (i+1) x) (hn:C.name x=true) (h2:Wd C (i+2) (⟨#[123]⟩:ByteArray)) (h:Members C 0 (i+3) j t) (h3:Wd C j (⟨#[125]⟩:ByteArray)):Class C i (j+1) (one (an 2 x i (j+1)) t)
 | ext {i j:Nat} {x y:ByteArray} {t:Fo} (hw:Wd C i (⟨#[99,108,97,115,115]⟩:ByteArray)) (h1:Wd C (i+1) x) (hn:C.name x=true) (h2:Wd C (i+2) (⟨#[101,120,116,101,110,100,115]⟩:ByteArray)) (h3:Wd C (i+3) y) (hm:C.name y=true) (h4:Wd C (i+4) (⟨#[123]⟩:ByteArray)) (h:Members C 1 (i+5) j t) (h5:Wd C j (⟨#[125]⟩:ByteArray)):Class C i (j+1) (one (an 2 x i (j+1)) ((one (an 3 y (i+2) (i+4)) .nil).app t))
inductive Classes (C:PC):Nat->Nat->Nat->Fo->Prop
 | fin {n i:Nat} (hk:(C.tok i).1=0):Classes C n i i .nil
 | more {n i k j:Nat} {t u:Fo} (hk:(C.tok i).1≠0) (hn:n≠64) (h:Class C i k t) (g:Classes C (n+1) k j u):Classes C n i j (t.app u)
end Go.Proofs.YtfehpdliobapfaaGreatDoor.G
namespace Go.Proofs.YtfehpdliobapfaaGreatDoor.G
section
variable {α β : Type} {C:PC} {s t v:PS} {l m:List Nat} {u w:Fo} {n f c:Nat} {x:ByteArray}
theorem bnd_inv {m:PM α} {k : α -> PM β} {b : β} (h:bnd m k s = .ok b t):∃ a v,m s = .ok a v/\k a v = .ok b t:=by
 unfold bnd at h
 cases hm:m s with
 | ok a v=>rw [hm] at h;exact ⟨a,v,rfl,h⟩
 | bad c z=>rw [hm] at h;cases h
 | out=>rw [hm] at h;cases h
structure Got (C:PC) (s t:PS) (l:List Nat) (u:Fo):Prop where
 o0:s.over=0
 o1:t.over=0
 deep:t.deep=s.deep
 idx:u.idx s.made.length=l
 made:t.made=s.made ++ u.post C s.made.length
def Ty.raw (C:PC) (y:Ty):Nd:=⟨0,0,0,[],⟨#[]⟩,y.B,y.N,y.D,y.M,0,0,0,y.e.map fun k=>((C.tok k).2.2:Int)⟩
def Ty.nd (C:PC) (y:Ty):Nd:={ y.raw C with wf:=(C.tok y.i).2.1,wt:=(C.tok (y.j-1)).2.2 }
end
end Go.Proofs.YtfehpdliobapfaaGreatDoor.G
namespace Go.Proofs.YtfehpdliobapfaaGreatDoor.G
inductive ManyR (C:PC) (R:Nat->Nat->Fo->Prop):Nat->Nat->Nat->Fo->Prop
 | fin {n i:Nat}:ManyR C R n i i .nil
 | more {n i k j:Nat} {t u:Fo} (hw:Wd C i (⟨#[44]⟩:ByteArray)) (hn:n≠64) (h:R (i+1) k t) (g:ManyR C R (n+1) k j u):ManyR C R n i j (t.app u)
section
variable {C:PC} {s t v:PS} {l m:List Nat} {u w:Fo} {n f c d:Nat} {x:ByteArray} {R:Nat->Nat->Fo->Prop} {value block stat part:PM Nat}
theorem args_at {g:Fn} {i j:Nat} (h:Dv C g d i j u) (hg:g = .args):C.word i=(⟨#[40]⟩:ByteArray):=by
 cases h with
 | args0 hw _=>exact hw.word
 | args hw _ _ _ _=>exact hw.word
 | _=>cases hg
end
end Go.Proofs.YtfehpdliobapfaaGreatDoor.G
namespace Go.Proofs.YtfehpdliobapfaaGreatDoor.G
section
variable {C:PC} {s t v:PS} {l m:List Nat} {u w:Fo} {n f c d:Nat} {x:ByteArray} {value block stat part:PM Nat}
theorem Got.kind (h:Got C s t [n] u):kindAt n t=u.kind:=by
 have hi:=h.idx
 cases u with
 | nil=>cases hi
 | cons a K R =>
  cases R with
  | cons a' K' R'=>cases hi
  | nil =>
   have hi:[s.made.length+K.size]=[n]:=hi
   injection hi with e
   subst e
   unfold kindAt
   rw [h.made,List.getElem?_append_right (by omega),show s.made.length+K.size-s.made.length=K.size by omega]
   show (match (K.post C s.made.length ++ [a.nd C (K.idx s.made.length)])[K.size]? with|some x=>x.kind|none=>0)=a.kind
   have e:=Fo.post_len C K s.made.length
   rw [List.getElem?_append_right (by omega),show K.size-(K.post C s.made.length).length=0 by omega]
   show (An.nd C a _).kind=a.kind
   unfold An.nd
   split<;>rfl
end
end Go.Proofs.YtfehpdliobapfaaGreatDoor.G
namespace Go.Proofs.YtfehpdliobapfaaGreatDoor.G
section
variable {C:PC} {s t v:PS} {l m:List Nat} {u w:Fo} {n f c d:Nat} {x:ByteArray} {value block stat part:PM Nat}
def progN (C:PC) (u:Fo) (j:Nat):Nd :=
 match u with
 | .nil=>nd 1 ⟨#[]⟩ []
 | u=>(an 1 ⟨#[]⟩ 0 j).nd C (u.idx 0)
end
end Go.Proofs.YtfehpdliobapfaaGreatDoor.G
namespace Go.Proofs.YtfehpdliobapfaaGreatDoor.G
namespace Fo
def len:Fo->Nat
 | nil=>0
 | cons _ _ r=>r.len+1
def All (P:An->Fo->Prop):Fo->Prop
 | nil=>True
 | cons a k r=>P a k/\k.All P/\r.All P
theorem app_len (f g:Fo):(f.app g).len=f.len+g.len:=by
 induction f with
 | nil=>show g.len=0+g.len;omega
 | cons a k r _ ih=>show (r.app g).len+1=r.len+1+g.len;rw [ih];omega
theorem idx_len (f:Fo) (b:Nat):(f.idx b).length=f.len:=by
 induction f generalizing b with
 | nil=>rfl
 | cons a k r _ ih=>show (r.idx _).length+1=r.len+1;rw [ih]
theorem All.app {P:An->Fo->Prop} {f g:Fo} (h:f.All P) (h':g.All P):(f.app g).All P:=by
 induction f with
 | nil=>exact h'
 | cons a k r _ ih=>exact ⟨h.1,h.2.1,ih h.2.2⟩
theorem len_size (f:Fo):f.len<=f.size:=by
 induction f with
 | nil=>exact Nat.le_refl _
 | cons a k r _ ih=>show r.len+1<=k.size+1+r.size;omega
end Fo
theorem one_all {P:An->Fo->Prop} {a:An} {k:Fo} (h:P a k) (hk:k.All P):(one a k).All P:=⟨h,hk,trivial⟩
structure Sz (C:PC):Prop where
 word:∀ i,(C.word i).size<=256
 unq:∀ y,(C.unq y).1.size<=y.size
 name:∀ y,C.name y=true->y.size≠0/\y.size<=64
 int:∀ y,(C.int y).2=0->0<=(C.int y).1/\(C.int y).1<=9223372036854775807
 flt:∀ y,-9223372036854775808<=(C.flt y).1/\(C.flt y).1<=9223372036854775807
structure TyR (t:Ty):Prop where
 base:1<=t.B/\t.B<=6
 name:t.B=5 ↔ t.N.size≠0
 small:t.N.size<=64
 dims:0<=t.D/\t.D<=4
 void:t.B=6->t.D=0
 size:t.M.size=t.D.toNat+1
 first:t.B=5\/byS t.M 0=32
 inner:∀ i,i<t.D.toNat->byS t.M i=32\/byS t.M i=63
 last:byS t.M t.D.toNat=32\/byS t.M t.D.toNat=63\/byS t.M t.D.toNat=111
 ends:t.e.length=t.D.toNat+1
theorem TyR.right {t:Ty} (h:TyR t):rightB t.B t.N t.D t.M=true:=by
 unfold rightB marksB innerM lastM
 simp only [Bool.and_eq_true,Bool.or_eq_true,decide_eq_true_eq]
 exact ⟨⟨⟨h.base,h.name⟩,⟨h.dims.1,h.dims.2,h.void⟩⟩,⟨⟨⟨h.size,h.first⟩,h.inner⟩,h.last⟩⟩
def NoO (t:Ty):Prop:=byS t.M t.D.toNat=32\/byS t.M t.D.toNat=63
section
variable {C:PC} {t:Ty} {m:UInt8} {d i j k n:Nat} {x:ByteArray} {u w:Fo} {g:Fn} {a:An}
theorem free_facts (h:t.free=true):byS t.M t.D.toNat=32/\(0<t.D\/t.B=5):=by
 unfold Ty.free at h
 simpa using h
theorem mark_bytes (h:TyR t) (m:UInt8):(t.mark m).M.size=t.D.toNat+1/\(∀ i,i<t.D.toNat->byS (t.mark m).M i=byS t.M i)/\byS (t.mark m).M t.D.toNat=m.toNat:=by
 have hs:=h.size
 have e:(t.M.extract 0 t.D.toNat).size=t.D.toNat:=by rw [ByteArray.size_extract];omega
 have e1:(⟨#[m]⟩:ByteArray).size=1:=rfl
 refine ⟨?_,fun i hi=>?_,?_⟩
 ·show (t.M.extract 0 t.D.toNat ++ ⟨#[m]⟩).size=_
  rw [ByteArray.size_append,e,e1]
 ·show byS (t.M.extract 0 t.D.toNat ++ ⟨#[m]⟩) i=_
  rw [byS_app,e,if_pos hi,byS_extract _ _ _ _ (by omega) (by omega),Nat.zero_add]
 ·show byS (t.M.extract 0 t.D.toNat ++ ⟨#[m]⟩) t.D.toNat=_
  rw [byS_app,e,if_neg (by omega),Nat.sub_self,byS_get _ 0 (by rw [e1];omega)];rfl
theorem TyR.mark (h:TyR t) (hf:t.free=true) (hm:m.toNat=63\/m.toNat=111):TyR (t.mark m):=by
 obtain ⟨h1,h2⟩:=free_facts hf
 obtain ⟨b1,b2,b3⟩:=mark_bytes h m
 refine ⟨h.base,h.name,h.small,h.dims,h.void,b1,?_,fun i hi=>?_,?_,h.ends⟩
 ·rcases h2 with h2|h2
  ·rcases h.first with h3|h3
   ·exact .inl h3
   ·have hd:0<t.D.toNat:=by omega
    exact .inr (by rw [b2 0 hd];exact h3)
  ·exact .inl h2
 ·have hi:i<t.D.toNat:=hi
  rw [b2 i hi];exact h.inner i hi
 ·have:byS (t.mark m).M (t.mark m).D.toNat=m.toNat:=b3
  rw [this];exact .inr hm
theorem TyR.arr (h:TyR t) (ho:NoO t) (hd:t.D≠4) (hv:t.B≠6) (k:Nat):TyR (t.arr k)/\NoO (t.arr k):=by
 have hs:=h.size
 obtain ⟨d0,d4⟩:=h.dims
 have eD:(t.arr k).D.toNat=t.D.toNat+1:=by show (t.D+1).toNat=_;omega
 have e1:(⟨#[32]⟩:ByteArray).size=1:=rfl
 have old:∀ i,i<t.D.toNat+1->byS (t.arr k).M i=byS t.M i:=fun i hi=>by
  show byS (t.M ++ ⟨#[32]⟩) i=_
  rw [byS_app,if_pos (by omega)]
 have new:byS (t.arr k).M (t.D.toNat+1)=32:=by
  show byS (t.M ++ ⟨#[32]⟩) _=_
  rw [byS_app,if_neg (by omega),hs,Nat.sub_self,byS_get _ 0 (by decide)];rfl
 refine ⟨⟨h.base,h.name,h.small,?_,fun e=>absurd e hv,?_,?_,fun i hi=>?_,?_,?_⟩,?_⟩
 ·show 0<=t.D+1/\t.D+1<=4;omega
 ·show (t.M ++ ⟨#[32]⟩).size=_
  rw [ByteArray.size_append,e1,hs,eD]
 ·exact h.first.imp id fun e=>by rw [old 0 (by omega)];exact e
 ·rw [eD] at hi
  rw [old i hi]
  by_cases hi2:i<t.D.toNat
  ·exact h.inner i hi2
  ·rw [show i=t.D.toNat by omega];exact ho
 ·rw [eD,new];exact .inl rfl
 ·show (t.e ++ [k]).length=_
  rw [List.length_append,h.ends,eD];rfl
 ·unfold NoO;rw [eD,new];exact .inl rfl
theorem base_right {b:Nat} (hS:Sz C) (hb:1<=b/\b<=6) (hn:b=5->C.name x=true):TyR (baseT b x i)/\NoO (baseT b x i):=by
 have m0:byS (⟨#[32]⟩:ByteArray) 0=32:=by decide
 refine ⟨⟨?_,?_,?_,?_,fun _=>rfl,rfl,.inr m0,fun i hi=>?_,.inl m0,rfl⟩,.inl m0⟩
 ·show (1:Int)<=(b:Int)/\(b:Int)<=6;omega
 ·show (b:Int)=5 ↔ (if b=5 then x else ⟨#[]⟩:ByteArray).size≠0
  by_cases h5:b=5
  ·rw [if_pos h5]
   have:=hS.name x (hn h5)
   constructor
   ·intro _;exact this.1
   ·intro _;omega
  ·rw [if_neg h5]
   constructor
   ·intro e;omega
   ·intro e;exact absurd rfl e
 ·show (if b=5 then x else ⟨#[]⟩:ByteArray).size<=64
  by_cases h5:b=5
  ·rw [if_pos h5];exact (hS.name x (hn h5)).2
  ·rw [if_neg h5];exact Nat.zero_le _
 ·exact ⟨Int.le_refl _,by show (0:Int)<=4;omega⟩
 ·exact absurd hi (by show ¬ i<0;omega)
theorem tyl_right {y z:Ty} (h:TyL C i j y z) (hy:TyR y) (ho:NoO y) (hb:y.B≠6):TyR z/\NoO z/\z.B=y.B:=by
 induction h with
 | fin=>exact ⟨hy,ho,rfl⟩
 | null hw hf _ ih =>
  refine ih (hy.mark hf (.inl rfl)) ?_ hb
  have:=(mark_bytes hy 63).2.2
  exact .inr this
 | arr hw h1 hd _ ih =>
  obtain ⟨q1,q2⟩:=hy.arr ho hd hb _
  exact ih q1 q2 hb
theorem kindT_in (x:ByteArray):1<=kindT x/\kindT x<=5:=by
 unfold kindT
 repeat (first|split|omega)
theorem inner_right (hS:Sz C) (h:Inner C i j t):TyR t/\NoO t:=by
 obtain ⟨y,h1,rfl⟩:=h.rest
 have hk:=kindT_in (C.word i)
 obtain ⟨b1,b2⟩:=base_right (C:=C) (x:=C.word i) (i:=i) hS (b:=kindT (C.word i)) (by omega) h.name
 obtain ⟨q1,q2,-⟩:=tyl_right h1 b1 b2 (by show (kindT (C.word i):Int)≠6;omega)
 exact ⟨⟨q1.base,q1.name,q1.small,q1.dims,q1.void,q1.size,q1.first,q1.inner,q1.last,q1.ends⟩,q2⟩
theorem typed_right (hS:Sz C) (h:Typed C i j t):TyR t:=by
 cases h with
 | inner hw h=>exact (inner_right hS h).1
 | option hw h1 h h2 hf =>
  have q1:=(inner_right hS h).1.mark (m:=111) hf (.inr rfl)
  exact ⟨q1.base,q1.name,q1.small,q1.dims,q1.void,q1.size,q1.first,q1.inner,q1.last,q1.ends⟩
theorem answer_right (hS:Sz C) (h:Answer C i j t):TyR t:=by
 cases h with
 | void hw=>exact (base_right hS (by omega) (fun e=>by omega)).1
 | typed hw h=>exact typed_right hS h
structure AnOk (a:An) (n:Nat):Prop where
 known:knownB a.kind=true
 least:(shp a.kind).least<=n
 most:overB (shp a.kind) n=false
 text:a.text.size<=260
 notext:(shp a.kind).text=false->a.text.size=0
 type:∀ y,a.ty=some y->TyR y
 typed:(shp a.kind).typ=a.ty.isSome
 num : -9223372036854775808<=a.num/\a.num<=9223372036854775807
theorem AnOk.shaped (h:AnOk a n) {l:List Nat} (hl:l.length=n):shapedE (a.nd C l)=0:=by
 have hk:=h.known
 have h1:=h.least
 have h2:=h.most
 have h3:=h.notext
 have h4:=h.typed
 have h5:=h.type
 have lm:(l.map Int.ofNat).length=n:=by simpa using hl
 obtain ⟨k,tx,ty,num,i,j⟩:=a
 cases ty with
 | none =>
  have h4:(shp k).typ=false:=h4
  unfold shapedE
  show (if knownB k=false then (3:Int) else if (decide ((l.map Int.ofNat).length<(shp k).least) || overB (shp k) (l.map Int.ofNat).length)=true then 131 else if ((decide (tx.size≠0) && !(shp k).text) || (!(decide ((0:Int)=0/\(⟨#[]⟩:ByteArray).size=0/\(0:Int)=0/\(⟨#[]⟩:ByteArray).size=0)) && !(shp k).typ) || ((shp k).typ && !rightB 0 ⟨#[]⟩ 0 ⟨#[]⟩))=true then 5 else 0)=0
  rw [if_neg (by rw [hk];decide),lm,if_neg (by rw [h2];simp;exact h1),if_neg]
  rw [h4]
  cases ht:(shp k).text with
  | true=>simp;decide
  | false =>
   have:tx.size=0:=h3 ht
   simp [this];decide
 | some y =>
  have h4:(shp k).typ=true:=h4
  have hr:=(h5 y rfl).right
  unfold shapedE
  show (if knownB k=false then (3:Int) else if (decide ((l.map Int.ofNat).length<(shp k).least) || overB (shp k) (l.map Int.ofNat).length)=true then 131 else if ((decide (tx.size≠0) && !(shp k).text) || (!(decide (y.B=0/\y.N.size=0/\y.D=0/\y.M.size=0)) && !(shp k).typ) || ((shp k).typ && !rightB y.B y.N y.D y.M))=true then 5 else 0)=0
  rw [if_neg (by rw [hk];decide),lm,if_neg (by rw [h2];simp;exact h1),if_neg]
  rw [h4,hr]
  cases ht:(shp k).text with
  | true=>simp
  | false =>
   have:tx.size=0:=h3 ht
   simp [this]
def Ok (f:Fo):Prop:=f.All fun a k=>AnOk a k.len
def fitsN (k:Int) (n:Nat):Bool:=knownB k && decide ((shp k).least<=n) && !overB (shp k) n
theorem fits_many {k:Int} (m:Nat) (h:(knownB k && decide ((shp k).least<=m) && (shp k).most.isNone)=true) (hn:m<=n):fitsN k n=true:=by
 simp only [Bool.and_eq_true,decide_eq_true_eq] at h
 obtain ⟨⟨h1,h2⟩,h3⟩:=h
 have h4:overB (shp k) n=false:=by
  unfold overB
  cases hm:(shp k).most with
  | none=>rfl
  | some z=>rw [hm] at h3;cases h3
 unfold fitsN
 rw [h1,h4,decide_eq_true (show (shp k).least<=n by omega)];rfl
theorem ok_num {k num:Int} {x:ByteArray} (n:Nat) (h:fitsN k n=true) (ht:(shp k).text=true\/x.size=0) (hy:(shp k).typ=false) (hx:x.size<=256) (hn : -9223372036854775808<=num/\num<=9223372036854775807):AnOk ⟨k,x,none,num,i,j⟩ n:=by
 unfold fitsN at h
 simp only [Bool.and_eq_true,decide_eq_true_eq,Bool.not_eq_true'] at h
 obtain ⟨⟨h1,h2⟩,h3⟩:=h
 exact ⟨h1,h2,h3,(by show x.size<=260;omega),(fun e=>ht.resolve_left (by have e:(shp k).text=false:=e;rw [e];decide)),(fun y e=>by cases e),hy,hn⟩
theorem ok_an {k:Int} {x:ByteArray} (n:Nat) (h:fitsN k n=true) (ht:(shp k).text=true\/x.size=0) (hy:(shp k).typ=false) (hx:x.size<=256):AnOk (an k x i j) n:=ok_num n h ht hy hx (by omega)
theorem ok_ant {k:Int} {x:ByteArray} {y:Ty} (n:Nat) (hr:TyR y) (h:fitsN k n=true) (ht:(shp k).text=true\/x.size=0) (hy:(shp k).typ=true) (hx:x.size<=256):AnOk (ant k x y i j) n:=by
 unfold fitsN at h
 simp only [Bool.and_eq_true,decide_eq_true_eq,Bool.not_eq_true'] at h
 obtain ⟨⟨h1,h2⟩,h3⟩:=h
 exact ⟨h1,h2,h3,(by show x.size<=260;omega),(fun e=>ht.resolve_left (by have e:(shp k).text=false:=e;rw [e];decide)),(fun z e=>by cases e;exact hr),hy,(by show (-9223372036854775808:Int)<=0/\(0:Int)<=_;omega)⟩
def OkF (g:Fn) (u:Fo):Prop :=
 match g with
 | .joinL _ _ t=>Ok t->t.len=1->Ok u/\u.len=1
 | .askL _ t=>Ok t->t.len=1->Ok u/\u.len=1
 | .args=>Ok u
 | .many _=>Ok u
 | .stats=>Ok u
 | _=>Ok u/\u.len=1
theorem lit_ok (hS:Sz C) {K:Nat} (hk:litK K) (hx:x.size<=256) (h0:(litN C K x).2=0):AnOk ⟨(litN C K x).1.kind,(litN C K x).1.text,none,(litN C K x).1.num,i,j⟩ 0:=by
 unfold litN at h0 ⊢
 by_cases k2:K=2
 ·rw [if_pos k2] at h0 ⊢
  have:=hS.int x h0
  exact ok_num (k:=19) (x:=⟨#[]⟩) (num:=(C.int x).1) 0 (by decide) (.inr rfl) (by decide) (by decide) (by omega)
 ·rw [if_neg k2] at h0 ⊢
  by_cases k3:K=3
  ·rw [if_pos k3] at h0 ⊢
   exact ok_num (k:=20) (x:=x) (num:=(C.flt x).1) 0 (by decide) (.inl (by decide)) (by decide) hx (hS.flt x)
  ·rw [if_neg k3] at h0 ⊢
   have:=hS.unq x
   exact ok_num (k:=22) (x:=(C.unq x).1) (num:=0) 0 (by decide) (.inl (by decide)) (by decide) (by omega) (by omega)
theorem const_ok (x:ByteArray):AnOk ⟨(constN x).kind,⟨#[]⟩,none,(constN x).num,i,j⟩ 0:=by
 have e0:(⟨#[]⟩:ByteArray).size<=256:=by decide
 unfold constN
 repeat' split
 ·exact ok_num (k:=21) (num:=1) 0 (by decide) (.inr rfl) (by decide) e0 (by omega)
 ·exact ok_num (k:=23) (num:=0) 0 (by decide) (.inr rfl) (by decide) e0 (by omega)
 ·exact ok_num (k:=42) (num:=0) 0 (by decide) (.inr rfl) (by decide) e0 (by omega)
 ·exact ok_num (k:=24) (num:=0) 0 (by decide) (.inr rfl) (by decide) e0 (by omega)
 ·exact ok_num (k:=21) (num:=0) 0 (by decide) (.inr rfl) (by decide) e0 (by omega)
theorem wrap_ok (x:ByteArray):AnOk (an (wrapK x) ⟨#[]⟩ i j) 1:=by
 unfold wrapK
 repeat' split
 all_goals exact ok_an 1 (by decide) (.inr rfl) (by decide) (by decide)
theorem Ok.app {f g:Fo} (h:Ok f) (h':Ok g):Ok (f.app g):=Fo.All.app h h'
theorem Ok.one {k:Fo} (h:AnOk a k.len) (hk:Ok k):Ok (one a k):=one_all h hk
theorem wd_size (hS:Sz C) (h:Wd C i x):x.size<=256:=by rw [<- h.word];exact hS.word i
theorem dv_ok (hS:Sz C) (h:Dv C g d i j u):OkF g u:=by
 have e0:(⟨#[]⟩:ByteArray).size<=256:=by decide
 induction h with
 | value _ ih=>exact ih
 | up _ ih=>exact ih
 | joined hc _ _ ih1 ih2=>exact ih2 ih1.1 ih1.2
 | joinE=>exact fun h1 h2=>⟨h1,h2⟩
 | joinB hw hb hx _ _ ih1 ih2=>exact fun h1 h2=>ih2 (.one (by rw [Fo.app_len,h2,ih1.2];exact ok_an 2 (by decide) (.inl (by decide)) (by decide) (wd_size hS hw)) (h1.app ih1.1)) rfl
 | joinS hw h1 _ ih=>exact fun h1 h2=>ih (.one (by rw [h2];exact ok_an 1 (by decide) (.inr rfl) (by decide) e0) h1) rfl
 | joinN hw h1 _ ih=>exact fun h1 h2=>ih (.one (by rw [h2];exact ok_an 1 (by decide) (.inr rfl) (by decide) e0) h1) rfl
 | neg hw _ ih=>exact ⟨.one (by rw [ih.2];exact ok_an 1 (by decide) (.inr rfl) (by decide) e0) ih.1,rfl⟩
 | not hw _ ih=>exact ⟨.one (by rw [ih.2];exact ok_an 1 (by decide) (.inr rfl) (by decide) e0) ih.1,rfl⟩
 | asked h1 h2 _ ih=>exact ih
 | ask _ _ ih1 ih2=>exact ih2 ih1.1 ih1.2
 | askE=>exact fun h1 h2=>⟨h1,h2⟩
 | guard hw _ ih=>exact fun h1 h2=>ih (.one (by rw [h2];exact ok_an 1 (by decide) (.inr rfl) (by decide) e0) h1) rfl
 | index hw _ hw2 _ ih1 ih2=>exact fun h1 h2=>ih2 (.one (by rw [Fo.app_len,h2,ih1.2];exact ok_an 2 (by decide) (.inr rfl) (by decide) e0) (h1.app ih1.1)) rfl
 | length hw hw2 _ ih=>exact fun h1 h2=>ih (.one (by rw [h2];exact ok_an 1 (by decide) (.inr rfl) (by decide) e0) h1) rfl
 | val hw hw2 _ ih=>exact fun h1 h2=>ih (.one (by rw [h2];exact ok_an 1 (by decide) (.inr rfl) (by decide) e0) h1) rfl
 | get hw hw2 hl hv hn _ ih=>exact fun h1 h2=>ih (.one (by rw [h2];exact ok_an 1 (by decide) (.inl (by decide)) (by decide) (wd_size hS hw2)) h1) rfl
 | call hw hw2 hl hv hn _ _ ih1 ih2=>exact fun h1 h2=>ih2 (.one (by rw [Fo.app_len,h2];exact ok_an _ (by first|exact fits_many 0 (by decide) (by omega)|exact fits_many 1 (by decide) (by omega)) (.inl (by decide)) (by decide) (wd_size hS hw2)) (h1.app ih1)) rfl
 | args0 hw h1=>exact trivial
 | args hw h0 _ _ hw2 ih1 ih2=>exact ih1.1.app ih2
 | manyE=>exact trivial
 | many hw hn _ _ ih1 ih2=>exact ih1.1.app ih2
 | lit hk hi h0=>exact ⟨.one (lit_ok hS hk (hS.word _) h0) trivial,rfl⟩
 | paren hk hw _ h1 ih=>exact ih
 | const hk hw hx=>exact ⟨.one (const_ok _) trivial,rfl⟩
 | wrap hk hw hx h1 _ h2 ih=>exact ⟨.one (by rw [ih.2];exact wrap_ok _) ih.1,rfl⟩
 | input hk hw h1 h2=>exact ⟨.one (ok_an 0 (by decide) (.inr rfl) (by decide) e0) trivial,rfl⟩
 | cast hk hw h1 ht h2 h3 _ h4 ih=>exact ⟨.one (by rw [ih.2];exact ok_ant 1 (typed_right hS ht) (by decide) (.inr rfl) (by decide) e0) ih.1,rfl⟩
 | newA hk hw ht h1 h0 _ h2 ih=>exact ⟨.one (by rw [ih.2];exact ok_ant 1 (inner_right hS ht).1 (by decide) (.inr rfl) (by decide) e0) ih.1,rfl⟩
 | newO hk hw ht ha _ ih=>exact ⟨.one (ok_ant _ (inner_right hS ht).1 (by first|exact fits_many 0 (by decide) (by omega)|exact fits_many 1 (by decide) (by omega)) (.inr rfl) (by decide) e0) ih,rfl⟩
 | var hk hw hx hn=>exact ⟨.one (ok_an 0 (by decide) (.inl (by decide)) (by decide) (wd_size hS hw)) trivial,rfl⟩
 | block hw _ h1 ih=>exact ⟨.one (ok_an _ (by first|exact fits_many 0 (by decide) (by omega)|exact fits_many 1 (by decide) (by omega)) (.inr rfl) (by decide) e0) ih,rfl⟩
 | statsE=>exact trivial
 | stats hw _ _ ih1 ih2=>exact ih1.1.app ih2
 | sBlock hw _ ih=>exact ih
 | sIf hw h1 _ h2 _ ih1 ih2=>exact ⟨.one (by rw [Fo.app_len,ih1.2,ih2.2];exact ok_an 2 (by decide) (.inr rfl) (by decide) e0) (ih1.1.app ih2.1),rfl⟩
 | sElse hw h1 _ h2 _ h3 _ ih1 ih2 ih3=>exact ⟨.one (by rw [Fo.app_len,Fo.app_len,ih1.2,ih2.2,ih3.2];exact ok_an 3 (by decide) (.inr rfl) (by decide) e0) (ih1.1.app (ih2.1.app ih3.1)),rfl⟩
 | sWhile hw h1 _ h2 _ ih1 ih2=>exact ⟨.one (by rw [Fo.app_len,ih1.2,ih2.2];exact ok_an 2 (by decide) (.inr rfl) (by decide) e0) (ih1.1.app ih2.1),rfl⟩
 | sBreak hw h1=>exact ⟨.one (ok_an 0 (by decide) (.inr rfl) (by decide) e0) trivial,rfl⟩
 | sCont hw h1=>exact ⟨.one (ok_an 0 (by decide) (.inr rfl) (by decide) e0) trivial,rfl⟩
 | sRet0 hw h1=>exact ⟨.one (ok_an 0 (by decide) (.inr rfl) (by decide) e0) trivial,rfl⟩
 | sRet hw h0 _ h1 ih=>exact ⟨.one (by rw [ih.2];exact ok_an 1 (by decide) (.inr rfl) (by decide) e0) ih.1,rfl⟩
 | sPrint hw h1 _ h2 h3 ih=>exact ⟨.one (by rw [ih.2];exact ok_an 1 (by decide) (.inr rfl) (by decide) e0) ih.1,rfl⟩
 | sSuper hw _ h1 ih=>exact ⟨.one (ok_an _ (by first|exact fits_many 0 (by decide) (by omega)|exact fits_many 1 (by decide) (by omega)) (.inr rfl) (by decide) e0) ih,rfl⟩
 | sDecl0 hp hd ht h1 hn h2=>exact ⟨.one (ok_ant 0 (typed_right hS ht) (by decide) (.inl (by decide)) (by decide) (wd_size hS h1)) trivial,rfl⟩
 | sDecl hp hd ht h1 hn h2 _ h3 ih=>exact ⟨.one (by rw [ih.2];exact ok_ant 1 (typed_right hS ht) (by decide) (.inl (by decide)) (by decide) (wd_size hS h1)) ih.1,rfl⟩
 | sSet hp hd _ hk h1 _ h2 ih1 ih2=>exact ⟨.one (by rw [Fo.app_len,ih1.2,ih2.2];exact ok_an 2 (by decide) (.inr rfl) (by decide) e0) (ih1.1.app ih2.1),rfl⟩
 | sExpr hp hd _ hk h1 ih=>exact ⟨.one (by rw [ih.2];exact ok_an 1 (by decide) (.inr rfl) (by decide) e0) ih.1,rfl⟩
theorem param_ok (hS:Sz C) (h:Param C i j u):Ok u/\u.len=1:=by
 obtain ⟨k,y,x,ht,hw,hn,rfl,rfl⟩:=h.is
 exact ⟨.one (ok_ant 0 (typed_right hS ht) (by decide) (.inl (by decide)) (by decide) (wd_size hS hw)) trivial,rfl⟩
theorem params_ok (hS:Sz C) (h:Params C i j u):Ok u:=by
 have key:∀ n i j u,ParamL C n i j u->Ok u:=fun n i j u h=>by
  induction h with
  | fin=>exact trivial
  | more hw hn h _ ih=>exact (param_ok hS h).1.app ih
 cases h with
 | none hw h1=>exact trivial
 | some hw h0 h g h1=>exact (param_ok hS h).1.app (key _ _ _ _ g)
theorem block_ok (hS:Sz C) (h:Dv C .block d i j u):Ok u/\u.len=1:=dv_ok hS h
theorem member_ok (hS:Sz C) (h:Member C i j u):Ok u/\u.len=1:=by
 have e0:(⟨#[]⟩:ByteArray).size<=256:=by decide
 cases h with
 | init hw hp hb =>
  have hb:=block_ok hS hb
  exact ⟨.one (by rw [Fo.app_len,hb.2];exact ok_an _ (by first|exact fits_many 0 (by decide) (by omega)|exact fits_many 1 (by decide) (by omega)) (.inr rfl) (by decide) e0) ((params_ok hS hp).app hb.1),rfl⟩
 | method hw ha h1 hn hp hb =>
  have hb:=block_ok hS hb
  exact ⟨.one (by rw [Fo.app_len,hb.2];exact ok_ant _ (answer_right hS ha) (by first|exact fits_many 0 (by decide) (by omega)|exact fits_many 1 (by decide) (by omega)) (.inl (by decide)) (by decide) (wd_size hS h1)) ((params_ok hS hp).app hb.1),rfl⟩
 | field hw ha h1 hn hv h2=>exact ⟨.one (ok_ant 0 (answer_right hS ha) (by decide) (.inl (by decide)) (by decide) (wd_size hS h1)) trivial,rfl⟩
theorem members_ok (hS:Sz C) (h:Members C n i j u):Ok u:=by
 induction h with
 | fin=>exact trivial
 | more hw hn h _ ih=>exact (member_ok hS h).1.app ih
theorem class_ok (hS:Sz C) (h:Class C i j u):Ok u/\u.len=1:=by
 cases h with
 | base hw h1 hn h2 h h3=>exact ⟨.one (ok_an _ (by first|exact fits_many 0 (by decide) (by omega)|exact fits_many 1 (by decide) (by omega)) (.inl (by decide)) (by decide) (wd_size hS h1)) (members_ok hS h),rfl⟩
 | ext hw h1 hn h2 h3 hm h4 h h5=>exact ⟨.one (ok_an _ (by first|exact fits_many 0 (by decide) (by omega)|exact fits_many 1 (by decide) (by omega)) (.inl (by decide)) (by decide) (wd_size hS h1)) (Ok.app (.one (ok_an 0 (by decide) (.inl (by decide)) (by decide) (wd_size hS h3)) trivial) (members_ok hS h)),rfl⟩
theorem classes_ok (hS:Sz C) (h:Classes C n i j u):Ok u:=by
 induction h with
 | fin=>exact trivial
 | more hk hn h _ ih=>exact (class_ok hS h).1.app ih
end
end Go.Proofs.YtfehpdliobapfaaGreatDoor.G
namespace Go.Proofs.YtfehpdliobapfaaGreatDoor.G
section
variable {C E:PC} {d i j k n:Nat} {x:ByteArray} {u w:Fo}
theorem take_all (i:Nat):∀ (l:List Nat) (U:List Nat),(∀ k ∈ l,k<i/\k ∉ U)->l.Nodup->takeE i (l.map Int.ofNat) U=(0,l.reverse ++ U)
 | [],U,_,_=>rfl
 | k :: l,U,h,hn=>by
  obtain ⟨h1,h2⟩:=h k List.mem_cons_self
  obtain ⟨n1,n2⟩:=List.nodup_cons.1 hn
  show (if (Int.ofNat k)<0\/(i:Int)<=Int.ofNat k then _ else if (Int.ofNat k).toNat ∈ U then _ else takeE i (l.map Int.ofNat) ((Int.ofNat k).toNat :: U))=_
  rw [if_neg (by simp;omega),if_neg (by simpa using h2),take_all i l _ (fun q hq=>⟨(h q (List.mem_cons_of_mem _ hq)).1,fun e=>by
   rcases List.mem_cons.1 e with e|e
   ·have e:q=k:=by simpa using e
    subst e;exact n1 hq
   ·exact (h q (List.mem_cons_of_mem _ hq)).2 e⟩) n2]
  simp
theorem idx_in (f:Fo):∀ b,∀ k ∈ f.idx b,b<=k/\k<b+f.size:=by
 induction f with
 | nil=>intro b k h;cases h
 | cons a K r _ ih =>
  intro b k h
  have h:k ∈ (b+K.size) :: r.idx (b+K.size+1):=h
  show b<=k/\k<b+(K.size+1+r.size)
  rcases List.mem_cons.1 h with rfl|h
  ·omega
  ·have:=ih _ _ h;omega
theorem idx_nodup (f:Fo):∀ b,(f.idx b).Nodup:=by
 induction f with
 | nil=>intro b;exact List.nodup_nil
 | cons a K r _ ih =>
  intro b
  show ((b+K.size) :: r.idx (b+K.size+1)).Nodup
  refine List.nodup_cons.2 ⟨fun h=>?_,ih _⟩
  have:=idx_in r _ _ h;omega
theorem check_app:∀ (l m:List Nd) (i:Nat) (U:List Nat),(checkL l i U).1=0->checkL (l ++ m) i U=checkL m (i+l.length) (checkL l i U).2
 | [],m,i,U,_=>rfl
 | x :: l,m,i,U,h=>by
  have h:(if shapedE x≠0 then (shapedE x,U) else if (takeE i x.kids U).1≠0 then takeE i x.kids U else checkL l (i+1) (takeE i x.kids U).2).1=0:=h
  show (if shapedE x≠0 then (shapedE x,U) else if (takeE i x.kids U).1≠0 then takeE i x.kids U else checkL (l ++ m) (i+1) (takeE i x.kids U).2)=checkL m (i+(l.length+1)) (if shapedE x≠0 then (shapedE x,U) else if (takeE i x.kids U).1≠0 then takeE i x.kids U else checkL l (i+1) (takeE i x.kids U).2).2
  by_cases h1:shapedE x≠0
  ·rw [if_pos h1] at h;exact absurd h h1
  ·rw [if_neg h1] at h ⊢
   rw [if_neg h1]
   by_cases h2:(takeE i x.kids U).1≠0
   ·rw [if_pos h2] at h;exact absurd h h2
   ·rw [if_neg h2] at h ⊢
    rw [if_neg h2,check_app l m _ _ h,show i+1+l.length=i+(l.length+1) by omega]
theorem nd_kids (a:An) (l:List Nat):(a.nd C l).kids=l.map Int.ofNat:=by unfold An.nd;split<;>rfl
theorem post_check (f:Fo):∀ (b:Nat) (U:List Nat),Ok f->(∀ j ∈ U,j<b)->(checkL (f.post C b) b U).1=0/\∀ j,j ∈ (checkL (f.post C b) b U).2 ↔ (j ∈ U\/(b<=j/\j<b+f.size/\j ∉ f.idx b)):=by
 induction f with
 | nil=>intro b U _ _;exact ⟨rfl,fun j=>⟨.inl,fun h=>h.elim id fun h=>by have h2:j<b+0:=h.2.1;omega⟩⟩
 | cons a K r ihk ihr =>
  intro b U ho hU
  obtain ⟨o1,o2,o3⟩:=ho
  obtain ⟨k1,k2⟩:=ihk b U o2 hU
  have hl:=Fo.post_len C K b
  show (checkL (K.post C b ++ (a.nd C (K.idx b) :: r.post C (b+K.size+1))) b U).1=0/\∀ j,j ∈ (checkL (K.post C b ++ (a.nd C (K.idx b) :: r.post C (b+K.size+1))) b U).2 ↔ _
  rw [check_app _ _ _ _ k1,hl]
  generalize (checkL (K.post C b) b U).2=U1 at *
  have hs:shapedE (a.nd C (K.idx b))=0:=o1.shaped (Fo.idx_len K b)
  have ht:=take_all (b+K.size) (K.idx b) U1 (fun k hk=>by
   have q:=idx_in K b k hk
   refine ⟨by omega,fun e=>?_⟩
   rcases (k2 k).1 e with e|e
   ·have:=hU k e;omega
   ·exact e.2.2 hk) (idx_nodup K b)
  have e1:∀ m,checkL (a.nd C (K.idx b) :: m) (b+K.size) U1=checkL m (b+K.size+1) ((K.idx b).reverse ++ U1):=fun m=>by
   show (if shapedE (a.nd C (K.idx b))≠0 then _ else if (takeE (b+K.size) (a.nd C (K.idx b)).kids U1).1≠0 then _ else checkL m _ (takeE (b+K.size) (a.nd C (K.idx b)).kids U1).2)=_
   rw [nd_kids,ht,if_neg (by rw [hs];decide),if_neg (fun e=>e rfl)]
  rw [e1]
  have hU2:∀ j,j ∈ (K.idx b).reverse ++ U1 ↔ (j ∈ U\/(b<=j/\j<b+K.size)):=fun j=>by
   rw [List.mem_append,List.mem_reverse,k2]
   constructor
   ·rintro (h|h|h)
    ·exact .inr (idx_in K b j h)
    ·exact .inl h
    ·exact .inr ⟨h.1,h.2.1⟩
   ·rintro (h|h)
    ·exact .inr (.inl h)
    ·by_cases hj:j ∈ K.idx b
     ·exact .inl hj
     ·exact .inr (.inr ⟨h.1,h.2,hj⟩)
  obtain ⟨r1,r2⟩:=ihr (b+K.size+1) ((K.idx b).reverse ++ U1) o3 (fun j hj=>by
   rcases (hU2 j).1 hj with h|h
   ·have:=hU j h;omega
   ·omega)
  refine ⟨r1,fun j=>?_⟩
  rw [r2,hU2]
  show _ ↔ (j ∈ U\/(b<=j/\j<b+(K.size+1+r.size)/\j ∉ (b+K.size) :: r.idx (b+K.size+1)))
  rw [List.mem_cons]
  constructor
  ·rintro ((h|h)|h)
   ·exact .inl h
   ·refine .inr ⟨h.1,by omega,fun e=>?_⟩
    rcases e with e|e
    ·omega
    ·have:=idx_in r _ _ e;omega
   ·refine .inr ⟨by omega,by omega,fun e=>?_⟩
    rcases e with e|e
    ·omega
    ·exact h.2.2 e
  ·rintro (h|⟨h1,h2,h3⟩)
   ·exact .inl (.inl h)
   ·by_cases hj:j<b+K.size
    ·exact .inl (.inr ⟨h1,hj⟩)
    ·refine .inr ⟨?_,by omega,fun e=>h3 (.inr e)⟩
     have:j≠b+K.size:=fun e=>h3 (.inl e)
     omega
theorem prog_facts (u:Fo) (j:Nat):(progN C u j).kids=(u.idx 0).map Int.ofNat/\(progN C u j).kind=1/\shapedE (progN C u j)=0:=by
 cases u with
 | nil=>exact ⟨rfl,rfl,by show shapedE (nd 1 ⟨#[]⟩ [])=0;decide⟩
 | cons a K r =>
  refine ⟨nd_kids _ _,rfl,?_⟩
  exact (ok_an (i:=0) (j:=j) (k:=1) (x:=⟨#[]⟩) _ (fits_many 0 (by decide) (Nat.zero_le _)) (.inr rfl) (by decide) (by decide)).shaped rfl
theorem prog_check (hu:Ok u) (hs:u.size<=16383):checkE (u.post C 0 ++ [progN C u j]) (((u.post C 0 ++ [progN C u j]).length:Int)-1)=0:=by
 obtain ⟨p1,p2,p3⟩:=prog_facts (C:=C) u j
 obtain ⟨c1,c2⟩:=post_check (C:=C) u 0 [] hu (fun j h=>by cases h)
 have hl:(u.post C 0 ++ [progN C u j]).length=u.size+1:=by rw [List.length_append,Fo.post_len];rfl
 have ht:=take_all u.size (u.idx 0) (checkL (u.post C 0) 0 []).2 (fun k hk=>by
  have q:=idx_in u 0 k hk
  refine ⟨by omega,fun e=>?_⟩
  rcases (c2 k).1 e with e|e
  ·cases e
  ·exact e.2.2 hk) (idx_nodup u 0)
 have e:checkL (u.post C 0 ++ [progN C u j]) 0 []=(0,(u.idx 0).reverse ++ (checkL (u.post C 0) 0 []).2):=by
  rw [check_app _ _ _ _ c1,Fo.post_len,Nat.zero_add]
  show (if shapedE (progN C u j)≠0 then _ else if (takeE u.size (progN C u j).kids _).1≠0 then _ else checkL [] _ (takeE u.size (progN C u j).kids _).2)=_
  rw [p1,ht,if_neg (by rw [p3];decide),if_neg (fun e=>e rfl)]
  rfl
 unfold checkE
 rw [hl,if_neg (by omega),if_neg,e,if_neg (fun e=>e rfl),if_pos]
 ·intro q hq
  have hq:q<u.size:=by omega
  show q ∈ (u.idx 0).reverse ++ _
  rw [List.mem_append,List.mem_reverse,c2]
  by_cases h:q ∈ u.idx 0
  ·exact .inl h
  ·exact .inr (.inr ⟨Nat.zero_le _,by omega,h⟩)
 ·rintro (h|h|h)
  ·omega
  ·exact h rfl
  ·rw [List.getLast?_append,List.getLast?_singleton] at h
   apply h
   show some (progN C u j).kind=some 1
   rw [p2]
end
section
variable {l m:List Nd}
end
end Go.Proofs.YtfehpdliobapfaaGreatDoor.G
namespace Go.Proofs.YtfehpdliobapfaaGreatDoor.G
open Go.Proofs.YtfehpdliobapfaaGreatDoor.S (kndS txtS sfrS)
section
variable {C:PC} {d i j k n:Nat} {x:ByteArray} {u w f g':Fo} {g:Fn} {a:An}
end
theorem nd_kind (C:PC) (a:An) (L:List Nat):(a.nd C L).kind=a.kind:=by unfold An.nd;split<;>rfl
def Lies (C:PC) (l:List Nd) (f:Fo) (b:Nat):Prop:=∀ q,q<f.size->l[b+q]? = (f.post C b)[q]?
theorem lies_parts {C:PC} {l:List Nd} {a:An} {k r:Fo} {b:Nat} (h:Lies C l (.cons a k r) b):Lies C l k b/\l[b+k.size]? = some (a.nd C (k.idx b))/\Lies C l r (b+k.size+1):=by
 have hk:=Fo.post_len C k b
 have hr:=Fo.post_len C r (b+k.size+1)
 have h:∀ q,q<k.size+1+r.size->l[b+q]? = (k.post C b ++ (a.nd C (k.idx b) :: r.post C (b+k.size+1)))[q]?:=h
 refine ⟨fun q hq=>?_,?_,fun q hq=>?_⟩
 ·rw [h q (by omega),List.getElem?_append_left (by omega)]
 ·rw [h k.size (by omega),List.getElem?_append_right (by omega),hk,Nat.sub_self];rfl
 ·have:=h (k.size+1+q) (by omega)
  rw [List.getElem?_append_right (by omega),hk,show k.size+1+q-k.size=q+1 by omega,List.getElem?_cons_succ] at this
  rw [<- this]
  congr 1;omega
theorem lies_kids {C:PC} {l:List Nd} {a:An} {L:List Nat} {p:Nat} (h:l[p]? = some (a.nd C L)):kidsOf l p=L:=by
 unfold kidsOf
 rw [h]
 show (((a.nd C L).kids)).map Int.toNat=L
 rw [nd_kids,List.map_map]
 exact (List.map_congr_left (fun x _=>by rfl)).trans (List.map_id L)
end Go.Proofs.YtfehpdliobapfaaGreatDoor.G
namespace Go.Proofs.YtfehpdliobapfaaGreatDoor.S
def inBG:List Nd->Nat->Nat->Bool
 | [],_,_=>false
 | x :: xs,a,i=>if (a:Int) ∈ x.kids then (if x.kind=8 then true else inBG xs i (i+1)) else inBG xs a (i+1)
def start:Sc:=⟨[],fun _=>none,fun _=>none,[]⟩
end Go.Proofs.YtfehpdliobapfaaGreatDoor.S
