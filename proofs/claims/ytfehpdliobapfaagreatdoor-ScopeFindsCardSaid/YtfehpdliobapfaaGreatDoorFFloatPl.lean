/- For any text and any number,ScopeFinds returns true and leaves its arguments as they were. -/
import Ieee.Arith
import Derived.Laws.FloatBits
import Derived.Laws.FloatArith
namespace Go.Proofs.YtfehpdliobapfaaGreatDoor.L
open Ieee
abbrev RW (a:Nat):Nat:=a % 9223372036854775808
abbrev SG (a:Nat):Bool:=a / 9223372036854775808 % 2 == 1
def magN (r:Nat):Nat:=if r<4503599627370496 then r else (4503599627370496+r % 4503599627370496)*2 ^ (r / 4503599627370496-1)
theorem read_eq (a:Nat):Ieee.double.read a =
  if RW a<4503599627370496 then .number (SG a) (RW a) (-1074)
  else if RW a<9218868437227405312 then .number (SG a) (4503599627370496+RW a % 4503599627370496) (-1074+(RW a / 4503599627370496-1:Nat))
  else if RW a=9218868437227405312 then .infinity (SG a) else .nan (SG a) (RW a-9218868437227405312):=by
 rfl
theorem magN_mono {r s:Nat} (h:r<s):magN r<magN s:=by
 unfold magN
 by_cases hs:s<4503599627370496
 ·rw [if_pos (by omega),if_pos hs];exact h
 ·rw [if_neg hs]
  have p1:1<=2 ^ (s / 4503599627370496-1):=Nat.one_le_two_pow
  by_cases hr:r<4503599627370496
  ·rw [if_pos hr]
   calc r<4503599627370496*1:=by omega
    _<=(4503599627370496+s % 4503599627370496)*2 ^ (s / 4503599627370496-1):=Nat.mul_le_mul (by omega) p1
  ·rw [if_neg hr]
   by_cases hq:r / 4503599627370496=s / 4503599627370496
   ·rw [hq]
    exact Nat.mul_lt_mul_of_pos_right (by omega) p1
   ·have hlt:r / 4503599627370496<s / 4503599627370496:=by omega
    obtain ⟨d,hd⟩:∃ d,s / 4503599627370496-1=(r / 4503599627370496-1)+1+d:=⟨s / 4503599627370496-r / 4503599627370496-1,by omega⟩
    have p2:0<2 ^ (r / 4503599627370496-1):=Nat.two_pow_pos _
    have p3:1<=2 ^ d:=Nat.one_le_two_pow
    calc (4503599627370496+r % 4503599627370496)*2 ^ (r / 4503599627370496-1)
      < (4503599627370496*2)*2 ^ (r / 4503599627370496-1):=Nat.mul_lt_mul_of_pos_right (by omega) p2
     _=4503599627370496*2 ^ ((r / 4503599627370496-1)+1):=by rw [Nat.pow_succ,Nat.mul_assoc,Nat.mul_comm 2]
     _=4503599627370496*(2 ^ ((r / 4503599627370496-1)+1)*1):=by rw [Nat.mul_one]
     _<=4503599627370496*(2 ^ ((r / 4503599627370496-1)+1)*2 ^ d):=Nat.mul_le_mul_left _ (Nat.mul_le_mul_left _ p3)
     _=4503599627370496*2 ^ (s / 4503599627370496-1):=by rw [<- Nat.pow_add,hd]
     _<=(4503599627370496+s % 4503599627370496)*2 ^ (s / 4503599627370496-1):=Nat.mul_le_mul_right _ (by omega)
def svI (a:Nat):Int:=if SG a then -(magN (RW a):Int) else (magN (RW a):Int)
abbrev isNaN (a:Nat):Prop:=9218868437227405312<RW a
theorem read_fin (a:Nat) (h:RW a<9218868437227405312):∃ m p,Ieee.double.read a = .number (SG a) m (-1074+(p:Nat))/\magN (RW a)=m*2 ^ p/\m<9007199254740992:=by
 rw [read_eq]
 unfold magN
 by_cases h1:RW a<4503599627370496
 ·rw [if_pos h1,if_pos h1];exact ⟨RW a,0,by simp,by simp,by omega⟩
 ·rw [if_neg h1,if_pos h,if_neg h1];exact ⟨_,_,rfl,rfl,by omega⟩
theorem read_inf (a:Nat) (h:RW a=9218868437227405312):Ieee.double.read a = .infinity (SG a):=by
 rw [read_eq,if_neg (by omega),if_neg (by omega),if_pos h]
theorem read_nan (a:Nat) (h:isNaN a):∃ n,Ieee.double.read a = .nan (SG a) n:=by
 unfold isNaN at h
 rw [read_eq,if_neg (by omega),if_neg (by omega),if_neg (by omega)];exact ⟨_,rfl⟩
theorem shl_eq (m p:Nat):m <<< p=m*2 ^ p:=Nat.shiftLeft_eq m p
theorem compare_mul {x y:Int} {k:Int} (hk:0<k):compare (x*k) (y*k)=compare x y:=by
 have h1:x*k<y*k ↔ x<y:=⟨fun h=>Int.lt_of_mul_lt_mul_right h (by omega),fun h=>Int.mul_lt_mul_of_pos_right h hk⟩
 have h2:x*k=y*k ↔ x=y:=⟨fun h=>Int.eq_of_mul_eq_mul_right (by omega) h,fun h=>by rw [h]⟩
 simp only [compare,compareOfLessAndEq,h1,h2]
theorem signed_eq (s:Bool) (m p:Nat):signed s m p=(if s then -((m*2 ^ p:Nat):Int) else ((m*2 ^ p:Nat):Int)):=by
 unfold signed;rw [shl_eq]
theorem signed_scale (s:Bool) (m p b:Nat) (h:b<=p):signed s m (p-b)*((2 ^ b:Nat):Int)=(if s then -((m*2 ^ p:Nat):Int) else ((m*2 ^ p:Nat):Int)):=by
 rw [signed_eq]
 have e:m*2 ^ (p-b)*2 ^ b=m*2 ^ p:=by rw [Nat.mul_assoc,<- Nat.pow_add,Nat.sub_add_cancel h]
 cases s
 ·simp only [Bool.false_eq_true,if_false];rw [<- Int.natCast_mul,e]
 ·simp only [if_true];rw [Int.neg_mul,<- Int.natCast_mul,e]
theorem order_fin (a b:Nat) (ha:RW a<9218868437227405312) (hb:RW b<9218868437227405312):Ieee.double.order a b=some (compare (svI a) (svI b)):=by
 obtain ⟨m,p,e1,v1,_⟩:=read_fin a ha
 obtain ⟨n,q,e2,v2,_⟩:=read_fin b hb
 unfold Format.order
 rw [e1,e2]
 simp only [Datum.order]
 congr 1
 have hb2:min (-1074+(p:Int)) (-1074+(q:Int)) = -1074+((min p q:Nat):Int):=by omega
 rw [hb2]
 have h1:(-1074+(p:Int)-(-1074+((min p q:Nat):Int))).toNat=p-min p q:=by omega
 have h2:(-1074+(q:Int)-(-1074+((min p q:Nat):Int))).toNat=q-min p q:=by omega
 rw [h1,h2]
 have hk:(0:Int)<((2 ^ (min p q):Nat):Int):=by exact_mod_cast Nat.two_pow_pos _
 rw [<- compare_mul hk,signed_scale _ _ _ _ (Nat.min_le_left p q),signed_scale _ _ _ _ (Nat.min_le_right p q)]
 unfold svI
 rw [v1,v2]
theorem magN_inf_lt {r:Nat} (h:r<9218868437227405312):magN r<magN 9218868437227405312:=magN_mono h
theorem compare_lt {x y:Int} (h:x<y):compare x y = .lt:=by simp [compare,compareOfLessAndEq,h]
theorem compare_gt {x y:Int} (h:y<x):compare x y = .gt:=by
 have h1:¬ x<y:=by omega
 have h2:¬ x=y:=by omega
 simp [compare,compareOfLessAndEq,h1,h2]
theorem order_eq (a b:Nat) (ha:¬ isNaN a) (hb:¬ isNaN b):Ieee.double.order a b=some (compare (svI a) (svI b)):=by
 unfold isNaN at ha hb
 by_cases h1:RW a<9218868437227405312
 ·by_cases h2:RW b<9218868437227405312
  ·exact order_fin a b h1 h2
  ·have h3:RW b=9218868437227405312:=by omega
   obtain ⟨m,p,e1,v1,_⟩:=read_fin a h1
   have hm:=magN_inf_lt h1
   unfold Format.order
   rw [e1,read_inf b h3]
   simp only [Datum.order]
   unfold svI
   rw [h3]
   cases SG b<;>cases SG a<;>simp only [Bool.false_eq_true,if_false,if_true]
   ·rw [compare_lt (by omega)]
   ·rw [compare_lt (by omega)]
   ·rw [compare_gt (by omega)]
   ·rw [compare_gt (by omega)]
 ·have h1':RW a=9218868437227405312:=by omega
  by_cases h2:RW b<9218868437227405312
  ·obtain ⟨m,p,e1,v1,_⟩:=read_fin b h2
   have hm:=magN_inf_lt h2
   unfold Format.order
   rw [e1,read_inf a h1']
   simp only [Datum.order]
   unfold svI
   rw [h1']
   cases SG a<;>cases SG b<;>simp only [Bool.false_eq_true,if_false,if_true]
   ·rw [compare_gt (by omega)]
   ·rw [compare_gt (by omega)]
   ·rw [compare_lt (by omega)]
   ·rw [compare_lt (by omega)]
  ·have h3:RW b=9218868437227405312:=by omega
   have hm:0<magN 9218868437227405312:=by have:=magN_mono (show 0<9218868437227405312 by decide);omega
   unfold Format.order
   rw [read_inf a h1',read_inf b h3]
   simp only [Datum.order]
   unfold svI
   rw [h1',h3]
   generalize magN 9218868437227405312=M at hm
   cases SG a<;>cases SG b<;>simp only [Bool.false_eq_true,if_false,if_true]
   ·simp [compare,compareOfLessAndEq]
   ·rw [compare_gt (by omega)];rfl
   ·rw [compare_lt (by omega)];rfl
   ·simp [compare,compareOfLessAndEq]
theorem order_nan_left (a b:Nat) (h:isNaN a):Ieee.double.order a b=none:=by
 obtain ⟨n,e⟩:=read_nan a h
 unfold Format.order;rw [e];rfl
theorem order_self (a:Nat):(Ieee.double.order a a != some .eq)=decide (isNaN a):=by
 by_cases h:isNaN a
 ·rw [order_nan_left a a h];simp [h]
 ·rw [order_eq a a h h];simp [h,compare,compareOfLessAndEq]
theorem log2_bounds {n:Nat} (h:0<n):2 ^ n.log2<=n/\n<2 ^ (n.log2+1):=⟨Nat.log2_self_le (by omega),Nat.lt_log2_self⟩
theorem log2_of {n k:Nat} (h1:2 ^ k<=n) (h2:n<2 ^ (k+1)):n.log2=k:=by
 have hn:n≠0:=by have:=Nat.two_pow_pos k;omega
 have a:=(Nat.le_log2 hn (k:=k)).2 h1
 have b:=(Nat.log2_lt hn (k:=k+1)).2 h2
 omega
theorem log2_mul_pow {n:Nat} (h:0<n) (k:Nat):(n*2 ^ k).log2=n.log2+k:=by
 obtain ⟨a,b⟩:=log2_bounds h
 apply log2_of
 ·rw [Nat.pow_add];exact Nat.mul_le_mul_right _ a
 ·rw [show n.log2+k+1=n.log2+1+k by omega,Nat.pow_add];exact Nat.mul_lt_mul_of_pos_right b (Nat.two_pow_pos k)
theorem cut_zero (s:Bool) (n:Nat):Toward.even.cut s n 0=n:=by
 unfold Toward.cut
 simp [Nat.mod_one]
theorem cut_exact (s:Bool) (m d:Nat) (hm:0<m):Toward.even.cut s (m*2 ^ d) d=m:=by
 unfold Toward.cut
 have hl:=log2_mul_pow hm d
 have h1:min d ((m*2 ^ d).log2+2)=d:=by omega
 have hp:0<2 ^ d:=Nat.two_pow_pos d
 simp only [h1,shl_eq,Nat.one_mul,Nat.mul_div_cancel _ hp,Nat.mul_mod_left]
 have h2:decide (2 ^ d<2*0)=false:=decide_eq_false (by omega)
 have h3:(2 ^ d == 2*0)=false:=by simp
 simp
theorem nearest_exact (s:Bool) (mag r:Nat) (p:Nat) (hm:0<mag) (hr:r<9218868437227405312) (h:magN r=mag*2 ^ p) :
  Ieee.double.nearest s mag (-1074+(p:Int))=Ieee.double.word s r:=by
 have hl:(mag*2 ^ p).log2=mag.log2+p:=log2_mul_pow hm p
 unfold Format.nearest
 rw [if_neg (by omega)]
 have hfb:(Ieee.double.fractionBits:Int)=52:=rfl
 have hlp:Ieee.double.leastPlace = -1074:=rfl
 have hbi:Ieee.double.binade=4503599627370496:=rfl
 have hin:Ieee.double.infRung=9218868437227405312:=rfl
 simp only [hfb,hlp,hbi,hin]
 unfold magN at h
 by_cases h1:r<4503599627370496
 ·rw [if_pos h1] at h
  have hlr:r.log2<52:=(Nat.log2_lt (by rw [h];exact Nat.ne_of_gt (Nat.mul_pos hm (Nat.two_pow_pos p)))).2 (by simpa using h1)
  rw [h,hl] at hlr
  have hlast:max (-1074+(p:Int)+(mag.log2:Int)-52) (-1074) = -1074:=by omega
  rw [hlast]
  have e1:(-1074+(p:Int) - -1074).toNat=p:=by omega
  have e2:(-1074-(-1074+(p:Int))).toNat=0:=by omega
  have e3:((-1074:Int) - -1074).toNat=0:=by omega
  rw [e1,e2,e3,cut_zero,shl_eq,<- h,Nat.zero_mul,Nat.zero_add,Nat.min_eq_left (by omega)]
 ·rw [if_neg h1] at h
  obtain ⟨M,hM⟩:∃ M,M=4503599627370496+r % 4503599627370496:=⟨_,rfl⟩
  obtain ⟨q,hq⟩:∃ q,q=r / 4503599627370496-1:=⟨_,rfl⟩
  rw [<- hM,<- hq] at h
  have e52:(2:Nat) ^ 52=4503599627370496:=by decide
  have e53:(2:Nat) ^ (52+1)=9007199254740992:=by decide
  have hM1:2 ^ 52<=M:=by rw [e52,hM];omega
  have hM2:M<2 ^ (52+1):=by rw [e53,hM];omega
  have hM0:0<M:=by omega
  have hlM:(M*2 ^ q).log2=52+q:=by rw [log2_mul_pow hM0,log2_of hM1 hM2]
  rw [h,hl] at hlM
  have hlast:max (-1074+(p:Int)+(mag.log2:Int)-52) (-1074) = -1074+(q:Int):=by omega
  rw [hlast]
  have e3:((-1074:Int)+(q:Int) - -1074).toNat=q:=by omega
  rw [e3]
  have key:Toward.even.cut s (mag <<< (-1074+(p:Int)-(-1074+(q:Int))).toNat) (-1074+(q:Int)-(-1074+(p:Int))).toNat=M:=by
   by_cases hpq:q<=p
   ·have e1:(-1074+(p:Int)-(-1074+(q:Int))).toNat=p-q:=by omega
    have e2:(-1074+(q:Int)-(-1074+(p:Int))).toNat=0:=by omega
    rw [e1,e2,cut_zero,shl_eq]
    have:mag*2 ^ (p-q)*2 ^ q=M*2 ^ q:=by rw [Nat.mul_assoc,<- Nat.pow_add,Nat.sub_add_cancel hpq,h]
    exact Nat.eq_of_mul_eq_mul_right (Nat.two_pow_pos q) this
   ·have e1:(-1074+(p:Int)-(-1074+(q:Int))).toNat=0:=by omega
    have e2:(-1074+(q:Int)-(-1074+(p:Int))).toNat=q-p:=by omega
    have hmag:mag=M*2 ^ (q-p):=by
     have:mag*2 ^ p=M*2 ^ (q-p)*2 ^ p:=by rw [Nat.mul_assoc,<- Nat.pow_add,Nat.sub_add_cancel (by omega),h]
     exact Nat.eq_of_mul_eq_mul_right (Nat.two_pow_pos p) this
    rw [e1,e2,shl_eq,Nat.pow_zero,Nat.mul_one,hmag,cut_exact _ _ _ hM0]
  rw [key]
  congr 1
  have hr2:q*4503599627370496+M=r:=by omega
  rw [hr2]
  exact Nat.min_eq_left (by omega)
theorem word_eq (s:Bool) (r:Nat):Ieee.double.word s r=if s then 9223372036854775808+r else r:=rfl
theorem rw_word (s:Bool) (r:Nat) (h:r<9223372036854775808):RW (Ieee.double.word s r)=r:=by
 rw [word_eq];unfold RW;cases s<;>simp<;>omega
theorem sg_word (s:Bool) (r:Nat) (h:r<9223372036854775808):SG (Ieee.double.word s r)=s:=by
 rw [word_eq];unfold SG;cases s
 ·have:r / 9223372036854775808=0:=by omega
  simp [this]
 ·have:(9223372036854775808+r) / 9223372036854775808=1:=by omega
  simp [this]
theorem magN_zero:magN 0=0:=rfl
theorem magN_pos {r:Nat} (h:0<r):0<magN r:=by have:=magN_mono h;rw [magN_zero] at this;exact this
theorem write_of (s:Bool) (mag r p:Nat) (hr:r<9218868437227405312) (h:magN r=mag*2 ^ p):Ieee.double.write (.number s mag (-1074+(p:Int)))=Ieee.double.word s r:=by
 show Ieee.double.nearest s mag _=_
 rcases Nat.eq_zero_or_pos mag with h0|h0
 ·subst h0
  have:r=0:=by
   rcases Nat.eq_zero_or_pos r with h1|h1
   ·exact h1
   ·have:=magN_pos h1;rw [h,Nat.zero_mul] at this;omega
  subst this
  unfold Format.nearest;rw [if_pos rfl]
 ·exact nearest_exact s mag r p h0 hr h
def rungOf (n:Nat):Nat:=if n=0 then 0 else (n.log2+1022)*4503599627370496+n*2 ^ 52 / 2 ^ n.log2
theorem rungOf_spec (n p:Nat) (h:n<=9007199254740992) (hp:p=52+1022):rungOf n<9218868437227405312/\magN (rungOf n)=n*2 ^ p/\rungOf n<4850376798678024192:=by
 unfold rungOf
 rcases Nat.eq_zero_or_pos n with h0|h0
 ·have hz:∀ x:Nat,magN 0=0*x:=fun x=>by rw [Nat.zero_mul,magN_zero]
  subst h0;rw [if_pos rfl];exact ⟨by decide,hz (2 ^ p),by decide⟩
 ·rw [if_neg (by omega)]
  obtain ⟨b1,b2⟩:=log2_bounds h0
  obtain ⟨k,hk⟩:∃ k,k=n.log2:=⟨_,rfl⟩
  rw [<- hk] at b1 b2 ⊢
  have hk53:k<=53:=by
   have e:(2:Nat) ^ 54=18014398509481984:=by decide
   have:n.log2<54:=(Nat.log2_lt (by omega)).2 (by rw [e];omega)
   omega
  -- n*2^52=M*2^k
  obtain ⟨M,hM⟩:∃ M,n*2 ^ 52=M*2 ^ k:=by
   by_cases hle:k<=52
   ·exact ⟨n*2 ^ (52-k),by rw [Nat.mul_assoc,<- Nat.pow_add,Nat.sub_add_cancel hle]⟩
   ·have hk':k=53:=by omega
    have e53:(2:Nat) ^ 53=9007199254740992:=by decide
    rw [hk',e53] at b1
    have hn:n=9007199254740992:=by omega
    subst hn
    exact ⟨2 ^ 52,by rw [hk']⟩
  rw [hM,Nat.mul_div_cancel _ (Nat.two_pow_pos k)]
  have m1:4503599627370496<=M:=by
   have:2 ^ k*4503599627370496<=2 ^ k*M:=by
    calc 2 ^ k*4503599627370496<=n*4503599627370496:=Nat.mul_le_mul_right _ b1
     _=n*2 ^ 52:=rfl
     _=2 ^ k*M:=by rw [hM,Nat.mul_comm]
   exact Nat.le_of_mul_le_mul_left this (Nat.two_pow_pos k)
  have m2:M<9007199254740992:=by
   have:2 ^ k*M<2 ^ k*9007199254740992:=by
    calc 2 ^ k*M=n*2 ^ 52:=by rw [hM,Nat.mul_comm]
     _<2 ^ (k+1)*2 ^ 52:=Nat.mul_lt_mul_of_pos_right b2 (Nat.two_pow_pos 52)
     _=2 ^ k*9007199254740992:=by rw [Nat.pow_succ,Nat.mul_assoc]
   exact Nat.lt_of_mul_lt_mul_left this
  refine ⟨by omega,?_,by omega⟩
  unfold magN
  rw [if_neg (by omega)]
  have d1:((k+1022)*4503599627370496+M) / 4503599627370496=k+1023:=by omega
  have d2:4503599627370496+((k+1022)*4503599627370496+M) % 4503599627370496=M:=by omega
  rw [d1,d2]
  obtain ⟨c,hc⟩:∃ c,c=1022:=⟨_,rfl⟩
  have e1:k+1023-1=k+c:=by omega
  have e2:p=52+c:=by omega
  clear hp
  subst e2
  rw [e1,Nat.pow_add 2 52,<- Nat.mul_assoc,hM,Nat.mul_assoc,<- Nat.pow_add]
theorem nearest_int (s:Bool) (n:Nat) (h:n<=9007199254740992):Ieee.double.nearest s n 0=Ieee.double.word s (rungOf n):=by
 obtain ⟨p,hp⟩:∃ p:Nat,p=52+1022:=⟨_,rfl⟩
 obtain ⟨h1,h2,_⟩:=rungOf_spec n p h hp
 have e:(0:Int) = -1074+(p:Int):=by omega
 rw [e]
 exact write_of s n (rungOf n) p h1 h2
theorem notNaN_word (s:Bool) (r:Nat) (h:r<=9218868437227405312):¬ isNaN (Ieee.double.word s r):=by
 unfold isNaN;rw [rw_word s r (by omega)];omega
theorem nearest_form (s:Bool) (m:Nat) (p:Int):∃ r,r<=9218868437227405312/\Ieee.double.nearest s m p=Ieee.double.word s r:=by
 unfold Format.nearest
 by_cases h:m=0
 ·rw [if_pos h];exact ⟨0,by decide,rfl⟩
 ·rw [if_neg h];exact ⟨_,Nat.min_le_right _ _,rfl⟩
theorem write_lt (d:Datum):Ieee.double.write d<18446744073709551616:=Ieee.double.write_lt d
def fMul (a b:Nat):Nat:=(Ieee.double.mul a b).getD 9221120237041090561
def fDiv (a b:Nat):Nat:=(Ieee.double.div a b).getD 9221120237041090561
theorem getD_lt {o:Option Datum}:(o.map Ieee.double.write).getD 9221120237041090561<18446744073709551616:=by
 cases o with
 | none=>decide
 | some d=>exact write_lt d
theorem fDiv_lt (a b:Nat):fDiv a b<18446744073709551616:=getD_lt
def norm (a:Nat):Nat:=if 9218868437227405312<RW a then 9221120237041090561 else a
theorem norm_of {a:Nat} (h:¬ isNaN a):norm a=a:=by unfold norm;exact if_neg h
theorem norm_nan {a:Nat} (h:isNaN a):norm a=9221120237041090561:=by unfold norm;exact if_pos h
def intN (r:Nat):Nat :=
 if r / 4503599627370496<1023 then 0
 else if 1075<=r / 4503599627370496 then (r % 4503599627370496+4503599627370496)*2 ^ (r / 4503599627370496-1075)
 else (r % 4503599627370496+4503599627370496) / 2 ^ (1075-r / 4503599627370496)
theorem intN_eq (r u:Nat) (hu:u=1074):magN r / 2 ^ u=intN r:=by
 unfold magN intN
 by_cases h:r<4503599627370496
 ·rw [if_pos h,if_pos (by omega)]
  have e52:(2:Nat) ^ 52=4503599627370496:=by decide
  have:(2:Nat) ^ 52<=2 ^ u:=Nat.pow_le_pow_right (by decide) (by omega)
  exact Nat.div_eq_of_lt (by omega)
 ·rw [if_neg h]
  obtain ⟨e,he⟩:∃ e,e=r / 4503599627370496:=⟨_,rfl⟩
  obtain ⟨M,hM⟩:∃ M,M=r % 4503599627370496+4503599627370496:=⟨_,rfl⟩
  have he1:1<=e:=by omega
  have hM2:M<9007199254740992:=by omega
  rw [Nat.add_comm 4503599627370496 (r % 4503599627370496),<- he,<- hM]
  by_cases h1:e<1023
  ·rw [if_pos h1]
   have e53:(2:Nat) ^ 53=9007199254740992:=by decide
   have h2:M*2 ^ (e-1)<2 ^ 53*2 ^ (e-1):=Nat.mul_lt_mul_of_pos_right (by omega) (Nat.two_pow_pos _)
   have h3:2 ^ (53+(e-1))<=2 ^ u:=Nat.pow_le_pow_right (by decide) (by omega)
   rw [Nat.pow_add] at h3
   exact Nat.div_eq_of_lt (by omega)
  ·rw [if_neg h1]
   by_cases h2:1075<=e
   ·rw [if_pos h2,show e-1=(e-1075)+u by omega,Nat.pow_add,<- Nat.mul_assoc,Nat.mul_div_cancel _ (Nat.two_pow_pos u)]
   ·rw [if_neg h2,show u=(1075-e)+(e-1) by omega,Nat.pow_add,Nat.mul_div_mul_right _ _ (Nat.two_pow_pos _)]
abbrev sgn (s:Bool) (n:Nat):Int:=if s then -(n:Int) else (n:Int)
def toI (a:Nat):Int :=
 if 9218868437227405312<RW a then 0
 else if 4890909195324358656<=RW a then (if SG a then -9223372036854775808 else 9223372036854775807)
 else sgn (SG a) (intN (RW a))
def toF (n:Int):Nat:=Ieee.double.nearest (decide (n<0)) n.natAbs 0
theorem floatOfInt_eq (n:Int):floatOfInt .f64 n=toF n:=rfl
theorem toF_small (n:Int) (h:n.natAbs<=9007199254740992):toF n=Ieee.double.word (decide (n<0)) (rungOf n.natAbs):=nearest_int _ _ h
theorem intN_rungOf (n:Nat) (h:n<=9007199254740992):intN (rungOf n)=n:=by
 obtain ⟨u,hu⟩:∃ u:Nat,u=52+1022:=⟨_,rfl⟩
 obtain ⟨_,h2,_⟩:=rungOf_spec n u h hu
 rw [<- intN_eq _ u (by omega),h2,Nat.mul_div_cancel _ (Nat.two_pow_pos u)]
theorem toI_toF (n:Int) (h:n.natAbs<=9007199254740992):toI (toF n)=n:=by
 obtain ⟨u,hu⟩:∃ u:Nat,u=52+1022:=⟨_,rfl⟩
 obtain ⟨h1,_,h3⟩:=rungOf_spec n.natAbs u h hu
 rw [toF_small n h]
 unfold toI
 rw [rw_word _ _ (by omega),sg_word _ _ (by omega),if_neg (by omega),if_neg (by omega),intN_rungOf _ h]
 unfold sgn
 by_cases hn:n<0
 ·rw [decide_eq_true hn,if_pos rfl];omega
 ·rw [decide_eq_false hn,if_neg (by decide)];omega
theorem svI_toF (n:Int) (h:n.natAbs<=9007199254740992) (u:Nat) (hu:u=52+1022):svI (toF n)=n*((2 ^ u:Nat):Int)/\RW (toF n)<9218868437227405312/\magN (RW (toF n))=n.natAbs*2 ^ u/\SG (toF n)=decide (n<0):=by
 obtain ⟨h1,h2,_⟩:=rungOf_spec n.natAbs u h hu
 rw [toF_small n h]
 refine ⟨?_,?_,?_,?_⟩
 ·unfold svI
  rw [rw_word _ _ (by omega),sg_word _ _ (by omega),h2]
  by_cases hn:n<0
  ·rw [decide_eq_true hn,if_pos rfl,Int.natCast_mul,<- Int.neg_mul];congr 1;omega
  ·rw [decide_eq_false hn,if_neg (by decide),Int.natCast_mul];congr 1;omega
 ·rw [rw_word _ _ (by omega)];exact h1
 ·rw [rw_word _ _ (by omega)];exact h2
 ·rw [sg_word _ _ (by omega)]
abbrev isZero (a:Nat):Prop:=RW a=0
theorem read_num (a:Nat) (h:RW a<9218868437227405312) (h0:¬ isZero a):∃ m p,Ieee.double.read a = .number (SG a) m p/\0<m:=by
 obtain ⟨m,p,e,v,_⟩:=read_fin a h
 refine ⟨m,_,e,?_⟩
 rcases Nat.eq_zero_or_pos m with hm|hm
 ·rw [hm,Nat.zero_mul] at v
  have:=magN_pos (show 0<RW a by unfold isZero at h0;omega)
  omega
 ·exact hm
theorem div_fin (a b:Nat) (ha:RW a<9218868437227405312) (hb:RW b<9218868437227405312) (h:¬ isZero b):∃ r,r<=9218868437227405312/\Ieee.double.div a b=some (Ieee.double.word (SG a ^^ SG b) r):=by
 obtain ⟨m,p,e1,_⟩:=read_fin a ha
 obtain ⟨n,q,e2,hn⟩:=read_num b hb h
 unfold Format.div
 rw [e1,e2]
 simp only [Datum.quotient]
 rw [if_neg (by omega)]
 simp only [Option.map_some]
 obtain ⟨r,hr,e⟩:=nearest_form (SG a ^^ SG b) (2*(m <<< (Ieee.double.fractionBits+2+n.log2-m.log2) / n)+(m <<< (Ieee.double.fractionBits+2+n.log2-m.log2) % n != 0).toNat) ((-1074+(p:Int))-q-((Ieee.double.fractionBits+2+n.log2-m.log2:Nat):Int)-1)
 exact ⟨r,hr,congrArg some e⟩
end Go.Proofs.YtfehpdliobapfaaGreatDoor.L
