/- For any text and any number,ScopeFinds returns true and leaves its arguments as they were. -/
import Derived.Test.YtfehpdliobapfaaGreatDoorFLexB
import Derived.OneCell
import Derived.Outline
set_option maxHeartbeats 4000000
set_option linter.unusedVariables false
namespace Go.Proofs.YtfehpdliobapfaaGreatDoor.L
open Go.RowKit
theorem com_prefix (s:ByteArray) (a:Nat) (ha:a<=s.size):Lib.hasPrefix (s.extract a s.size).data.toList (⟨#[47,47]⟩:ByteArray).data.toList=comB (byS s) s.size a:=by
 have e:(s.extract a s.size).data.toList=s.data.toList.drop a:=by
  rw [ByteArray.data_extract,Array.toList_extract,List.extract_eq_take_drop]
  exact List.take_of_length_le (by simp)
 have hl:s.data.toList.length=s.size:=by simp
 rw [e]
 unfold Lib.hasPrefix
 show List.isPrefixOf [47,47] (s.data.toList.drop a)=_
 by_cases h1:a<s.size
 ·have e1:s.data.toList.drop a=s[a] :: s.data.toList.drop (a+1):=by rw [List.drop_eq_getElem_cons (by omega)];rfl
  by_cases h2:a+1<s.size
  ·have e2:s.data.toList.drop (a+1)=s[a+1] :: s.data.toList.drop (a+1+1):=by rw [List.drop_eq_getElem_cons (by omega)];rfl
   rw [e1,e2]
   unfold comB
   rw [byS_get s a h1,byS_get s (a+1) h2,decide_eq_true h2]
   have u:∀ c:UInt8,((47:UInt8) == c)=decide (c.toNat=47):=fun c=>by
    rw [Bool.eq_iff_iff,beq_iff_eq,decide_eq_true_iff]
    constructor
    ·intro h;rw [<- h];rfl
    ·intro h;exact UInt8.toNat_inj.1 (by rw [h];rfl)
   simp [List.isPrefixOf,u]
  ·have e2:s.data.toList.drop (a+1)=[]:=List.drop_eq_nil_of_le (by omega)
   rw [e1,e2]
   unfold comB
   rw [decide_eq_false h2]
   simp [List.isPrefixOf]
 ·have e1:s.data.toList.drop a=[]:=List.drop_eq_nil_of_le (by omega)
  rw [e1]
  unfold comB
  rw [decide_eq_false (by omega)]
  rfl
theorem prefix_any (s:ByteArray) (a:Nat) (ha:a<=s.size) (w:World) :
  Calls Tryz.prog 102 #[.string (s.extract a s.size),.string ⟨#[47,47]⟩] w fun e w'=>e = .returned (.bool (comB (byS s) s.size a))/\w=w' :=
 (Tryz.strings_HasPrefix (s.extract a s.size) ⟨#[47,47]⟩ w).mono fun e w' h=>⟨by rw [h.1,com_prefix s a ha],h.2.symm⟩
theorem gap_any (s:ByteArray) (i:Nat) (w:World) (hs:s.size<=maxLen) (hi:i<=s.size) :
  Calls Tryz.prog 107 #[.string s,.int .i64 (i:Nat)] w fun e w'=>e = .returned (.int .i64 (gapG (byS s) s.size i:Nat))/\w=w':=by
 have hm:=hs
 have HM:=Lib.hid hm
 unfold maxLen at hs
 clear hm
 go_enter Tryz.func107,Tryz.ntmps107
 go_wp2_with fail
 go_loop [1] (fun t=>∃ j:Nat,j<=s.size/\t = .int .i64 j/\gapG (byS s) s.size j=gapG (byS s) s.size i) (fun t=>s.size-(intOf t).toNat)
 case atStart=>exact ⟨i,hi,rfl,rfl⟩
 case round =>
  obtain ⟨j,hj,rfl,hk⟩:=hrel
  have HK:=Lib.hid hk
  clear hk
  have ha:=skip_ge blankB (byS s) hj
  have hal:=skip_le blankB (byS s) hj
  have HS:=Lib.hid (fun w=>skip_blank s j w HM.out hj)
  have HC:=Lib.hid (gap_com (g:=byS s) hj)
  have HT:=Lib.hid (gap_stop (g:=byS s) hj)
  generalize skipG blankB (byS s) s.size j=a at *
  have HP:=Lib.hid (fun w=>prefix_any s a hal w)
  have HL:=Lib.hid (fun w=>skip_line s a w HM.out hal)
  cases hc:comB (byS s) s.size a
  ·have E:=Lib.hid (show gapG (byS s) s.size i=a by rw [<- HK.out];exact HT.out hc)
   rw [hc] at HP
   clear hc
   go_wp2_with (first|(go_at_call 140;refine (HS.out _).mono ?_;rintro e w1 ⟨rfl,rfl⟩)|(go_at_call 102;refine (HP.out _).mono ?_;rintro e w1 ⟨rfl,rfl⟩))
   go_ret
   exact ⟨ret_i (by rw [E.out]),rfl⟩
  ·have hb:=line_past hc
   have E:=Lib.hid ((HC.out hc).symm.trans HK.out)
   rw [hc] at HP
   clear hc
   generalize skipG lineB (byS s) s.size a=b at *
   go_wp2_with fail
   refine (HS.out _).mono ?_
   rintro e w1 ⟨rfl,rfl⟩
   go_wp2_with fail
   refine (HP.out _).mono ?_
   rintro e w1 ⟨rfl,rfl⟩
   go_wp2_with fail
   refine (HL.out _).mono ?_
   rintro e w1 ⟨rfl,rfl⟩
   go_wp2_with fail
   go_round
   case rel=>exact ⟨b,by omega,rfl,E.out⟩
   case measure=>simp [intOf];omega
theorem number_any (s:ByteArray) (i:Nat) (w:World) (hs:s.size<=65536) (hi:i<s.size) :
  Calls Tryz.prog 175 #[.string s,.int .i64 (i:Nat)] w fun e w'=>e = .returned (.tuple #[.int .i64 ((numberG (byS s) s.size i).1:Nat),.int .i64 ((numberG (byS s) s.size i).2:Nat)])/\w=w':=by
 have hm:s.size<=maxLen:=by unfold maxLen;omega
 have HM:=Lib.hid hm
 clear hm
 have ha:=skip_ge digitB (byS s) (show i<=s.size by omega)
 have hal:=skip_le digitB (byS s) (show i<=s.size by omega)
 have HS:=Lib.hid (fun w=>skip_digit s i w HM.out (by omega))
 have HN:Hid (numberG (byS s) s.size i=if skipG digitB (byS s) s.size i+1<s.size/\byS s (skipG digitB (byS s) s.size i)=46/\digitB (byS s (skipG digitB (byS s) s.size i+1))=true then (3,skipG digitB (byS s) s.size (skipG digitB (byS s) s.size i+1)) else (2,skipG digitB (byS s) s.size i)):=Lib.hid rfl
 generalize skipG digitB (byS s) s.size i=a at *
 by_cases h1:a+1<s.size
 ·have HB:=Lib.hid (byS_get s a (by omega))
  have HB1:=Lib.hid (byS_get s (a+1) h1)
  have i1:(a:Int)+1<(s.size:Int):=by omega
  by_cases h2:s[a].toNat=46
  ·have t2:((s[a].toNat:Int) == 46)=true:=by rw [h2];rfl
   have HD:=Lib.hid (fun w=>digit_any s[a+1].toNat w)
   cases h3:digitB s[a+1].toNat
   ·have E:=Lib.hid (show numberG (byS s) s.size i=(2,a) by rw [HN.out,if_neg];rintro ⟨_,_,h⟩;rw [HB1.out,h3] at h;cases h)
    rw [h3] at HD
    clear h2 h3
    go_enter Tryz.func175,Tryz.ntmps175
    go_wp2_with (first|(go_at_call 140;refine (HS.out _).mono ?_;rintro e w1 ⟨rfl,rfl⟩)|(go_at_call 174;refine (HD.out _).mono ?_;rintro e w1 ⟨rfl,rfl⟩))
    go_ret2
    exact ⟨by rw [E.out];rfl,rfl⟩
   ·have E:=Lib.hid (show numberG (byS s) s.size i=(3,skipG digitB (byS s) s.size (a+1)) by rw [HN.out,if_pos];exact ⟨h1,by rw [HB.out];exact h2,by rw [HB1.out];exact h3⟩)
    rw [h3] at HD
    have HS2:=Lib.hid (fun w=>skip_digit s (a+1) w HM.out (by omega))
    clear h2 h3
    go_enter Tryz.func175,Tryz.ntmps175
    go_wp2_with fail
    refine (HS.out _).mono ?_
    rintro e w1 ⟨rfl,rfl⟩
    go_wp2_with (first|(go_at_call 174;refine (HD.out _).mono ?_;rintro e w1 ⟨rfl,rfl⟩))
    refine (HS2.out _).mono ?_
    rintro e w1 ⟨rfl,rfl⟩
    go_wp2_with fail
    go_ret2
    exact ⟨by rw [E.out];rfl,rfl⟩
  ·have t2:((s[a].toNat:Int) == 46)=false:=by simp;omega
   have E:=Lib.hid (show numberG (byS s) s.size i=(2,a) by rw [HN.out,if_neg];rintro ⟨_,h,_⟩;rw [HB.out] at h;exact h2 h)
   clear h2
   go_enter Tryz.func175,Tryz.ntmps175
   go_wp2_with (first|(go_at_call 140;refine (HS.out _).mono ?_;rintro e w1 ⟨rfl,rfl⟩))
   go_ret2
   exact ⟨by rw [E.out];rfl,rfl⟩
 ·have i1:¬ (a:Int)+1<(s.size:Int):=by omega
  have E:=Lib.hid (show numberG (byS s) s.size i=(2,a) by rw [HN.out,if_neg];rintro ⟨h,_⟩;exact h1 h)
  go_enter Tryz.func175,Tryz.ntmps175
  go_wp2_with (first|(go_at_call 140;refine (HS.out _).mono ?_;rintro e w1 ⟨rfl,rfl⟩))
  go_ret2
  exact ⟨by rw [E.out];rfl,rfl⟩
def idxOne (k:Nat):Int:=Lib.indexByte (⟨#[123,125,40,41,91,93,59,44,46,61,60,62,43,45,42,47,37,33,63]⟩:ByteArray).data.toList k.toUInt8
theorem idxOne_all:∀ k,k<256->(oneS k=true->0<=idxOne k)/\(oneS k=false->idxOne k<0):=by decide +kernel
theorem one_any (k:Nat) (w:World) :
  Calls Tryz.prog 179 #[.string ⟨#[123,125,40,41,91,93,59,44,46,61,60,62,43,45,42,47,37,33,63]⟩,.int .u8 (k:Int)] w fun e w'=>e = .returned (.int .i64 (idxOne k))/\w=w' :=
 (Tryz.strings_IndexByte ⟨#[123,125,40,41,91,93,59,44,46,61,60,62,43,45,42,47,37,33,63]⟩ (k:Int) w).mono fun e w' h=>⟨by rw [h.1];rfl,h.2.symm⟩
theorem list_two (x:ByteArray) (h:2<=x.size):(x.extract 0 2).toList=[x[0]'(by omega),x[1]'(by omega)]:=by
 have e:(x.extract 0 2).toList=x.data.toList.take 2:=by
  rw [ByteArray.toList_eq,ByteArray.data_extract,Array.toList_extract,List.extract_eq_take_drop]
  rfl
 have hl:x.data.toList.length=x.size:=by simp
 rw [e,List.take_succ_eq_append_getElem (by omega),List.take_succ_eq_append_getElem (by omega)]
 rfl
theorem list_one (x:ByteArray) (h:x.size=1):(x.extract 0 1).toList=[x[0]'(by omega)]:=by
 have e:(x.extract 0 1).toList=x.data.toList.take 1:=by
  rw [ByteArray.toList_eq,ByteArray.data_extract,Array.toList_extract,List.extract_eq_take_drop]
  rfl
 have hl:x.data.toList.length=x.size:=by simp
 rw [e,List.take_succ_eq_append_getElem (by omega)]
 rfl
theorem two_eq (a b:UInt8) (m n:UInt8):([a,b] == [m,n])=(decide (a.toNat=m.toNat) && decide (b.toNat=n.toNat)):=by
 rw [Bool.eq_iff_iff]
 simp [UInt8.toNat_inj]
theorem sign_two (x:ByteArray) (w:World) (hs:x.size<=65536) (h2:2<=x.size) :
  Calls Tryz.prog 177 #[.string x] w fun e w'=>e = .returned (.int .i64 (signG (byS x) x.size 0:Nat))/\w=w':=by
 have hm:min (2:Int) (x.size:Int)=((2:Nat):Int):=by omega
 have h0:0<x.size:=by omega
 have hl:=list_two x h2
 have f1:=two_eq x[0] x[1] 61 61
 have f2:=two_eq x[0] x[1] 33 61
 have f3:=two_eq x[0] x[1] 60 61
 have f4:=two_eq x[0] x[1] 62 61
 have f5:=two_eq x[0] x[1] 38 38
 have f6:=two_eq x[0] x[1] 124 124
 rw [<- hl] at f1 f2 f3 f4 f5 f6
 have hx:x[0].toNat<256:=UInt8.toNat_lt _
 have HP:Hid (signG (byS x) x.size 0=if pairS x[0].toNat x[1].toNat=true then 2 else if oneS x[0].toNat=true then 1 else 0):=Lib.hid (by
  unfold signG;rw [byS_get x 0 h0,byS_get x (0+1) h2]
  by_cases hp:pairS x[0].toNat x[1].toNat=true
  ·rw [if_pos ⟨by omega,hp⟩,if_pos hp]
  ·rw [if_neg (fun h=>hp h.2),if_neg hp])
 clear hl
 cases hp:pairS x[0].toNat x[1].toNat
 ·unfold pairS at hp
  simp only [decide_eq_false_iff_not,not_or,not_and] at hp
  have n1:((x.extract 0 2).toList == [61,61])=false:=by rw [f1];simp;exact hp.1
  have n2:((x.extract 0 2).toList == [33,61])=false:=by rw [f2];simp;exact hp.2.1
  have n3:((x.extract 0 2).toList == [60,61])=false:=by rw [f3];simp;exact hp.2.2.1
  have n4:((x.extract 0 2).toList == [62,61])=false:=by rw [f4];simp;exact hp.2.2.2.1
  have n5:((x.extract 0 2).toList == [38,38])=false:=by rw [f5];simp;exact hp.2.2.2.2.1
  have n6:((x.extract 0 2).toList == [124,124])=false:=by rw [f6];simp;exact hp.2.2.2.2.2
  have hp':pairS x[0].toNat x[1].toNat=false:=by unfold pairS;simp only [decide_eq_false_iff_not,not_or,not_and];exact hp
  have HO:=Lib.hid (idxOne_all _ hx)
  have HI:=Lib.hid (fun w=>one_any x[0].toNat w)
  clear f1 f2 f3 f4 f5 f6 hp
  cases ho:oneS x[0].toNat
  ·have hneg:=HO.out.2 ho
   have E:=Lib.hid (show signG (byS x) x.size 0=0 by rw [HP.out,if_neg (by simp [hp']),if_neg (by simp [ho])])
   clear hp' ho
   generalize idxOne x[0].toNat=v at *
   go_enter Tryz.func177,Tryz.ntmps177
   go_wp2_with (go_at_call 179;refine (HI.out _).mono ?_;rintro e w1 ⟨rfl,rfl⟩)
   go_ret
   exact ⟨ret_i (by rw [E.out];rfl),rfl⟩
  ·have hpos:=HO.out.1 ho
   have E:=Lib.hid (show signG (byS x) x.size 0=1 by rw [HP.out,if_neg (by simp [hp']),if_pos ho])
   clear hp' ho
   generalize idxOne x[0].toNat=v at *
   go_enter Tryz.func177,Tryz.ntmps177
   go_wp2_with (go_at_call 179;refine (HI.out _).mono ?_;rintro e w1 ⟨rfl,rfl⟩)
   go_ret
   exact ⟨ret_i (by rw [E.out];rfl),rfl⟩
 ·have E:=Lib.hid (show signG (byS x) x.size 0=2 by rw [HP.out,if_pos hp])
  have hp':=hp
  unfold pairS at hp'
  rw [decide_eq_true_iff] at hp'
  clear hp
  rcases hp' with ⟨a,b⟩|⟨a,b⟩|⟨a,b⟩|⟨a,b⟩|⟨a,b⟩|⟨a,b⟩
  all_goals
   rw [a,b] at f1 f2 f3 f4 f5 f6
   first|(have g1:((x.extract 0 2).toList == [61,61])=true:=f1.trans rfl)|(have g1:((x.extract 0 2).toList == [61,61])=false:=f1.trans rfl)
   first|(have g2:((x.extract 0 2).toList == [33,61])=true:=f2.trans rfl)|(have g2:((x.extract 0 2).toList == [33,61])=false:=f2.trans rfl)
   first|(have g3:((x.extract 0 2).toList == [60,61])=true:=f3.trans rfl)|(have g3:((x.extract 0 2).toList == [60,61])=false:=f3.trans rfl)
   first|(have g4:((x.extract 0 2).toList == [62,61])=true:=f4.trans rfl)|(have g4:((x.extract 0 2).toList == [62,61])=false:=f4.trans rfl)
   first|(have g5:((x.extract 0 2).toList == [38,38])=true:=f5.trans rfl)|(have g5:((x.extract 0 2).toList == [38,38])=false:=f5.trans rfl)
   first|(have g6:((x.extract 0 2).toList == [124,124])=true:=f6.trans rfl)|(have g6:((x.extract 0 2).toList == [124,124])=false:=f6.trans rfl)
   clear f1 f2 f3 f4 f5 f6 a b
   go_enter Tryz.func177,Tryz.ntmps177
   go_wp2_with fail
   go_ret
   exact ⟨ret_i (by rw [E.out];rfl),rfl⟩
theorem one_eq (a m n:UInt8):([a] == [m,n])=false:=by
 rw [Bool.eq_false_iff];simp
theorem sign_one (x:ByteArray) (w:World) (h1:x.size=1) :
  Calls Tryz.prog 177 #[.string x] w fun e w'=>e = .returned (.int .i64 (signG (byS x) x.size 0:Nat))/\w=w':=by
 have h0:0<x.size:=by omega
 have hl:=list_one x h1
 have n1:=one_eq x[0] 61 61
 have n2:=one_eq x[0] 33 61
 have n3:=one_eq x[0] 60 61
 have n4:=one_eq x[0] 62 61
 have n5:=one_eq x[0] 38 38
 have n6:=one_eq x[0] 124 124
 rw [<- hl] at n1 n2 n3 n4 n5 n6
 have hx:x[0].toNat<256:=UInt8.toNat_lt _
 have HP:Hid (signG (byS x) x.size 0=if oneS x[0].toNat=true then 1 else 0):=Lib.hid (by
  unfold signG;rw [byS_get x 0 h0,if_neg (fun h=>by omega)])
 have H1:=Lib.hid h1
 have hz:x.size<=1:=by omega
 have HO:=Lib.hid (idxOne_all _ hx)
 have HI:=Lib.hid (fun w=>one_any x[0].toNat w)
 have hm:min (2:Int) (x.size:Int)=((1:Nat):Int):=by omega
 clear hl h1
 cases ho:oneS x[0].toNat
 ·have hneg:=HO.out.2 ho
  have E:=Lib.hid (show signG (byS x) x.size 0=0 by rw [HP.out,if_neg (by simp [ho])])
  clear ho
  generalize idxOne x[0].toNat=v at *
  go_enter Tryz.func177,Tryz.ntmps177
  go_wp2_with (go_at_call 179;refine (HI.out _).mono ?_;rintro e w1 ⟨rfl,rfl⟩)
  go_ret
  exact ⟨ret_i (by rw [E.out];rfl),rfl⟩
 ·have hpos:=HO.out.1 ho
  have E:=Lib.hid (show signG (byS x) x.size 0=1 by rw [HP.out,if_pos ho])
  clear ho
  generalize idxOne x[0].toNat=v at *
  go_enter Tryz.func177,Tryz.ntmps177
  go_wp2_with (go_at_call 179;refine (HI.out _).mono ?_;rintro e w1 ⟨rfl,rfl⟩)
  go_ret
  exact ⟨ret_i (by rw [E.out];rfl),rfl⟩
theorem sign_any (x:ByteArray) (w:World) (hs:x.size<=65536) (h0:0<x.size) :
  Calls Tryz.prog 177 #[.string x] w fun e w'=>e = .returned (.int .i64 (signG (byS x) x.size 0:Nat))/\w=w':=by
 by_cases h:x.size=1
 ·exact sign_one x w h
 ·exact sign_two x w hs (by omega)
theorem byS_extract (s:ByteArray) (a b i:Nat) (hb:b<=s.size) (h:i<b-a):byS (s.extract a b) i=byS s (a+i):=by
 have h1:i<(s.extract a b).size:=by simp;omega
 rw [byS_get _ i h1,byS_get s (a+i) (by omega)]
 congr 1
 simp [ByteArray.getElem_extract]
theorem sign_rest (s:ByteArray) (a:Nat) (w:World) (hs:s.size<=65536) (h:a<s.size) :
  Calls Tryz.prog 177 #[.string (s.extract a s.size)] w fun e w'=>e = .returned (.int .i64 (signG (byS s) s.size a:Nat))/\w=w':=by
 have hz:(s.extract a s.size).size=s.size-a:=by simp
 refine (sign_any (s.extract a s.size) w (by omega) (by omega)).mono ?_
 rintro e w' ⟨rfl,rfl⟩
 refine ⟨ret_i ?_,rfl⟩
 congr 1
 unfold signG
 rw [hz,byS_extract s a s.size 0 (Nat.le_refl _) (by omega)]
 by_cases h2:0+1<s.size-a
 ·rw [byS_extract s a s.size (0+1) (Nat.le_refl _) (by omega),Nat.zero_add]
  have:(1<s.size-a)=(a+1<s.size):=propext ⟨fun h=>by omega,fun h=>by omega⟩
  simp only [this,Nat.add_zero]
 ·rw [if_neg (fun h=>h2 h.1),if_neg (fun h:a+1<s.size/\_=>h2 (by omega))]
  simp only [Nat.add_zero]
theorem longest_any (k:Nat) (w:World) (h1:1<=k) (h5:k<=5) :
  Calls Tryz.prog 144 #[.int .i64 (k:Nat)] w fun e w'=>e = .returned (.int .i64 (longG k:Nat))/\w=w':=by
 have:k=1\/k=2\/k=3\/k=4\/k=5:=by omega
 rcases this with rfl|rfl|rfl|rfl|rfl
 all_goals
  go_enter Tryz.func144,Tryz.ntmps144
  go_wp2_with fail
  go_ret
  exact ⟨rfl,rfl⟩
def stopB (c:Nat) (b:Bool):Bool:=decide (c=10) || (decide (c=34) && !b)
theorem stopB_iff {c:Nat} {b:Bool}:stopB c b=true ↔ c=10\/(c=34/\b=false):=by unfold stopB;cases b<;>simp
def PairPost (w:World) (B c:Nat) (b:Bool) (e:Ending) (w':World):Prop:=(stopB c b=true->e = .returned (.bool false)/\w=w')/\(stopB c b=false->e = .returned (.bool true)/\w.setCell ⟨B,0,none⟩ (.bool (decide (c=92) && !b))=w')
theorem paired_any (c B:Nat) (b:Bool) (w:World) (hB:w.heap[B]? = some (.cells #[.bool b] 4 (0,0))) :
  Calls Tryz.prog 202 #[.int .u8 (c:Int),.pointer (some ⟨B,0,none⟩)] w (PairPost w B c b):=by
 have hc:=cell_of_one hB
 have hf:=free_of_one hB
 by_cases h10:c=10
 ·have t1:((c:Int) == 10)=true:=by simp;omega
  have HS:=Lib.hid (show stopB c b=true from stopB_iff.2 (.inl h10))
  clear h10
  go_enter Tryz.func202,Tryz.ntmps202
  go_wp2_with fail
  go_ret
  exact ⟨fun _=>⟨rfl,rfl⟩,fun h=>(by rw [HS.out] at h;cases h)⟩
 ·have t1:((c:Int) == 10)=false:=by simp;omega
  by_cases h34:c=34
  ·have t2:((c:Int) == 34)=true:=by simp;omega
   have t3:((c:Int) == 92)=false:=by simp;omega
   cases b
   ·have HS:=Lib.hid (show stopB c false=true from stopB_iff.2 (.inr ⟨h34,rfl⟩))
    clear h10 h34
    go_enter Tryz.func202,Tryz.ntmps202
    go_wp2_with fail
    go_ret
    exact ⟨fun _=>⟨rfl,rfl⟩,fun h=>(by rw [HS.out] at h;cases h)⟩
   ·have HS:Hid (stopB c true=false):=Lib.hid (by unfold stopB;simp;omega)
    have HD:=Lib.hid (show decide (c=92)=false from decide_eq_false (by omega))
    clear h10 h34
    go_enter Tryz.func202,Tryz.ntmps202
    go_wp2_with fail
    go_ret
    exact ⟨fun h=>(by rw [HS.out] at h;cases h),fun _=>⟨rfl,by rw [HD.out];rfl⟩⟩
  ·have t2:((c:Int) == 34)=false:=by simp;omega
   have HS:Hid (stopB c b=false):=Lib.hid (by unfold stopB;simp;omega)
   by_cases h92:c=92
   ·have t3:((c:Int) == 92)=true:=by simp;omega
    have HD:=Lib.hid (show decide (c=92)=true from decide_eq_true h92)
    clear h10 h34 h92
    go_enter Tryz.func202,Tryz.ntmps202
    go_wp2_with fail
    go_ret
    exact ⟨fun h=>(by rw [HS.out] at h;cases h),fun _=>⟨rfl,by rw [HD.out];rfl⟩⟩
   ·have t3:((c:Int) == 92)=false:=by simp;omega
    have HD:=Lib.hid (show decide (c=92)=false from decide_eq_false h92)
    clear h10 h34 h92
    go_enter Tryz.func202,Tryz.ntmps202
    go_wp2_with fail
    go_ret
    exact ⟨fun h=>(by rw [HS.out] at h;cases h),fun _=>⟨rfl,by rw [HD.out];rfl⟩⟩
theorem skip_paired (s:ByteArray) (i B:Nat) (b:Bool) (w:World) (hs:s.size<=maxLen) (hi:i<=s.size) (hB:w.heap[B]? = some (.cells #[.bool b] 4 (0,0))) :
  Calls Tryz.prog 140 #[.string s,.int .i64 (i:Nat),.func (.func 202) #[] #[.pointer (some ⟨B,0,none⟩)]] w fun e w'=>e = .returned (.int .i64 (qskip (byS s) s.size i b:Nat))/\Below B w w':=by
 unfold maxLen at hs
 have HB0:=Lib.hid hB
 clear hB
 go_enter Tryz.func140,Tryz.ntmps140
 go_wp2_with fail
 go_loopw [12] (fun t wr=>∃ (j:Nat) (b':Bool),i+j<=s.size/\t = .int .i64 j/\qskip (byS s) s.size (i+j) b'=qskip (byS s) s.size i b/\wr.heap[B]? = some (.cells #[.bool b'] 4 (0,0))/\Below B w wr) (fun t _=>s.size-i-(intOf t).toNat)
 case atStart=>exact ⟨0,b,by omega,rfl,rfl,HB0.out,Below.refl _ _⟩
 case round =>
  obtain ⟨j,b',hj,rfl,hk,hbk,hbel⟩:=hrel
  have HK:=Lib.hid hk
  have HBK:=Lib.hid hbk
  have HBEL:=Lib.hid hbel
  clear hk hbk hbel
  by_cases hlt:i+j<s.size
  ·have i1:(j:Int)<(s.size:Int)-(i:Int):=by omega
   have HB:=Lib.hid (byS_get s (i+j) hlt)
   cases hp:stopB s[i+j].toNat b'
   ·have E:=Lib.hid (show qskip (byS s) s.size (i+(j+1)) (decide (s[i+j].toNat=92) && !b')=qskip (byS s) s.size i b by
     rw [<- HK.out,<- Nat.add_assoc,qskip_go (n:=s.size) hlt (by rw [HB.out];intro h;rw [stopB_iff.2 h] at hp;cases hp),HB.out])
    have HP:=Lib.hid hp
    clear hp
    go_wp2_with fail
    refine (paired_any _ B b' _ HBK.out).mono ?_
    rintro e w1 ⟨-,h2⟩
    obtain ⟨rfl,rfl⟩:=h2 HP.out
    have HN:=Lib.hid (one_setCell (u:=.bool (decide (s[i+j].toNat=92) && !b')) HBK.out)
    clear h2
    go_wp2_with fail
    go_roundw
    case rel=>exact ⟨j+1,_,by omega,by go_num,E.out,HN.out,HBEL.out.setCell (Nat.le_refl _) _⟩
    case measure=>simp [intOf];omega
   ·have E:=Lib.hid (show qskip (byS s) s.size i b=i+j by rw [<- HK.out,qskip_stop (by rw [HB.out];exact stopB_iff.1 hp)])
    have HP:=Lib.hid hp
    clear hp
    go_wp2_with fail
    refine (paired_any _ B b' _ HBK.out).mono ?_
    rintro e w1 ⟨h1,-⟩
    obtain ⟨rfl,rfl⟩:=h1 HP.out
    clear h1
    go_wp2_with fail
    go_ret
    exact ⟨ret_i (by rw [E.out];omega),HBEL.out⟩
  ·have i1:¬ (j:Int)<(s.size:Int)-(i:Int):=by omega
   have E:=Lib.hid (show qskip (byS s) s.size i b=s.size by rw [<- HK.out,qskip_end (by omega)];omega)
   go_wp2_with fail
   go_ret
   exact ⟨ret_i (by rw [E.out]),HBEL.out⟩
theorem quoted_any (s:ByteArray) (i:Nat) (w:World) (hs:s.size<=65536) (hi:i<s.size) :
  Calls Tryz.prog 176 #[.string s,.int .i64 (i:Nat)] w fun e w'=>e = .returned (.int .i64 (quotedG (byS s) s.size i:Nat))/\Below w.heap.size w w':=by
 have hb0:(w.alloc (.cells #[.bool false] 4)).heap[w.heap.size]? = some (.cells #[.bool false] 4 (0,0)):=heap_alloc_new _ _
 have HS:=Lib.hid (skip_paired s (i+1) w.heap.size false _ (by unfold maxLen;omega) (by omega) hb0)
 obtain ⟨k1,k2,k3,k4⟩:=qskip_facts (g:=byS s) (n:=s.size) _ (i+1) false rfl (by omega)
 have HQ:Hid (quotedG (byS s) s.size i=if qskip (byS s) s.size (i+1) false<s.size/\byS s (qskip (byS s) s.size (i+1) false)=34 then qskip (byS s) s.size (i+1) false+1 else qskip (byS s) s.size (i+1) false):=Lib.hid rfl
 clear hb0 k3 k4
 generalize qskip (byS s) s.size (i+1) false=a at *
 have hmf:∀ (fn:Fn) (first cap:Array Value) (w:World),(Instr.makeFunc fn first cap).run Tryz.prog w = .ok (.func fn first cap) w:=fun _ _ _ _=>rfl
 by_cases h1:a<s.size
 ·have i1:(a:Int)<(s.size:Int):=by omega
  have HB:=Lib.hid (byS_get s a h1)
  by_cases h2:s[a].toNat=34
  ·have t2:((s[a].toNat:Int) == 34)=true:=by rw [h2];rfl
   have E:=Lib.hid (show quotedG (byS s) s.size i=a+1 by rw [HQ.out,if_pos ⟨h1,by rw [HB.out];exact h2⟩])
   clear h2
   go_enter Tryz.func176,Tryz.ntmps176
   go_wp2_with fail
   refine HS.out.mono ?_
   rintro e w1 ⟨rfl,h01⟩
   have H1:=Lib.hid h01
   clear h01
   go_wp2_with fail
   go_ret
   exact ⟨ret_i (by rw [E.out];omega),((Below.refl _ _).alloc (Nat.le_refl _) _).trans H1.out⟩
  ·have t2:((s[a].toNat:Int) == 34)=false:=by simp;omega
   have E:=Lib.hid (show quotedG (byS s) s.size i=a by rw [HQ.out,if_neg (fun h=>h2 (by rw [<- HB.out];exact h.2))])
   clear h2
   go_enter Tryz.func176,Tryz.ntmps176
   go_wp2_with fail
   refine HS.out.mono ?_
   rintro e w1 ⟨rfl,h01⟩
   have H1:=Lib.hid h01
   clear h01
   go_wp2_with fail
   go_ret
   exact ⟨ret_i (by rw [E.out]),((Below.refl _ _).alloc (Nat.le_refl _) _).trans H1.out⟩
 ·have i1:¬ (a:Int)<(s.size:Int):=by omega
  have E:=Lib.hid (show quotedG (byS s) s.size i=a by rw [HQ.out,if_neg (fun h=>h1 h.1)])
  go_enter Tryz.func176,Tryz.ntmps176
  go_wp2_with fail
  refine HS.out.mono ?_
  rintro e w1 ⟨rfl,h01⟩
  have H1:=Lib.hid h01
  clear h01
  go_wp2_with fail
  go_ret
  exact ⟨ret_i (by rw [E.out]),((Below.refl _ _).alloc (Nat.le_refl _) _).trans H1.out⟩
theorem reach_any (s:ByteArray) (i:Nat) (w:World) (hs:s.size<=65536) (hi:i<s.size) :
  Calls Tryz.prog 143 #[.string s,.int .i64 (i:Nat)] w fun e w'=>e = .returned (.tuple #[.int .i64 ((reachG (byS s) s.size i).1:Nat),.int .i64 ((reachG (byS s) s.size i).2:Nat)])/\Below w.heap.size w w':=by
 have hm:s.size<=maxLen:=by unfold maxLen;omega
 have HL:=Lib.hid (fun w=>letter_any s[i].toNat w)
 have HD:=Lib.hid (fun w=>digit_any s[i].toNat w)
 have HW:=Lib.hid (fun w=>skip_word s i w hm (by omega))
 have HN:=Lib.hid (fun w=>number_any s i w hs hi)
 have HQ:=Lib.hid (fun w=>quoted_any s i w hs hi)
 have HS:=Lib.hid (fun w=>sign_rest s i w hs hi)
 have hsl:=sign_le (g:=byS s) hi
 have HR:Hid (reachG (byS s) s.size i=if letterB s[i].toNat=true then (1,skipG inWordB (byS s) s.size i) else if digitB s[i].toNat=true then numberG (byS s) s.size i else if s[i].toNat=34 then (4,quotedG (byS s) s.size i) else (5,i+signG (byS s) s.size i)):=Lib.hid (by unfold reachG;rw [byS_get s i hi])
 clear hm
 cases h1:letterB s[i].toNat
 ·rw [h1] at HL
  cases h2:digitB s[i].toNat
  ·rw [h2] at HD
   by_cases h3:s[i].toNat=34
   ·have t3:((s[i].toNat:Int) == 34)=true:=by rw [h3];rfl
    have E:=Lib.hid (show reachG (byS s) s.size i=(4,quotedG (byS s) s.size i) by rw [HR.out,if_neg (by simp [h1]),if_neg (by simp [h2]),if_pos h3])
    clear h1 h2 h3
    generalize quotedG (byS s) s.size i=a at *
    go_enter Tryz.func143,Tryz.ntmps143
    go_wp2_with (first|(go_at_call 172;refine (HL.out _).mono ?_;rintro e w1 ⟨rfl,rfl⟩)|(go_at_call 174;refine (HD.out _).mono ?_;rintro e w1 ⟨rfl,rfl⟩))
    refine (HQ.out _).mono ?_
    rintro e w1 ⟨rfl,h01⟩
    have H1:=Lib.hid h01
    clear h01
    go_wp2_with fail
    go_ret2
    exact ⟨by rw [E.out];rfl,H1.out⟩
   ·have t3:((s[i].toNat:Int) == 34)=false:=by simp;omega
    have E:=Lib.hid (show reachG (byS s) s.size i=(5,i+signG (byS s) s.size i) by rw [HR.out,if_neg (by simp [h1]),if_neg (by simp [h2]),if_neg h3])
    clear h1 h2 h3
    generalize signG (byS s) s.size i=a at *
    go_enter Tryz.func143,Tryz.ntmps143
    go_wp2_with (first|(go_at_call 172;refine (HL.out _).mono ?_;rintro e w1 ⟨rfl,rfl⟩)|(go_at_call 174;refine (HD.out _).mono ?_;rintro e w1 ⟨rfl,rfl⟩))
    refine (HS.out _).mono ?_
    rintro e w1 ⟨rfl,rfl⟩
    go_wp2_with fail
    go_ret2
    exact ⟨by rw [E.out];rfl,Below.refl _ _⟩
  ·rw [h2] at HD
   have E:=Lib.hid (show reachG (byS s) s.size i=numberG (byS s) s.size i by rw [HR.out,if_neg (by simp [h1]),if_pos h2])
   clear h1 h2
   generalize numberG (byS s) s.size i=a at *
   go_enter Tryz.func143,Tryz.ntmps143
   go_wp2_with (first|(go_at_call 172;refine (HL.out _).mono ?_;rintro e w1 ⟨rfl,rfl⟩)|(go_at_call 174;refine (HD.out _).mono ?_;rintro e w1 ⟨rfl,rfl⟩))
   refine (HN.out _).mono ?_
   rintro e w1 ⟨rfl,rfl⟩
   go_wp2_with fail
   go_ret2
   exact ⟨by rw [E.out];rfl,Below.refl _ _⟩
 ·rw [h1] at HL
  have E:=Lib.hid (show reachG (byS s) s.size i=(1,skipG inWordB (byS s) s.size i) by rw [HR.out,if_pos h1])
  clear h1
  generalize skipG inWordB (byS s) s.size i=a at *
  go_enter Tryz.func143,Tryz.ntmps143
  go_wp2_with (first|(go_at_call 172;refine (HL.out _).mono ?_;rintro e w1 ⟨rfl,rfl⟩)|(go_at_call 174;refine (HD.out _).mono ?_;rintro e w1 ⟨rfl,rfl⟩))
  refine (HW.out _).mono ?_
  rintro e w1 ⟨rfl,rfl⟩
  go_wp2_with fail
  go_ret2
  exact ⟨by rw [E.out];rfl,Below.refl _ _⟩
end Go.Proofs.YtfehpdliobapfaaGreatDoor.L
