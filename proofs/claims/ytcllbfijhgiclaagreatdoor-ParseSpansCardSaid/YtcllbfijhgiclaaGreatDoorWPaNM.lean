/- ParseSpans -/
import Derived.Test.YtcllbfijhgiclaaGreatDoorWPaNL
import Derived.Test.YtcllbfijhgiclaaGreatDoorWTrFrame
set_option maxRecDepth 100000
set_option maxHeartbeats 4000000
set_option linter.unusedVariables false
set_option linter.unusedSimpArgs false
namespace Go.Proofs.YtcllbfijhgiclaaGreatDoor.G
open Go Go.RowKit
theorem node_cells {w : World} {b off : Nat} {l : List Nd} {i : Nat} (h : NdsAt w b off l) (hi : i < l.length) : ∃ (ks : Option Addr) (kc : Nat) (es : Option Addr) (ec : Nat),NumsIn w ks l[i].kids /\ NumsIn w es l[i].ends /\ NdAt w b (off + i * 13) l[i] (.slice ks l[i].kids.length kc) (.slice es l[i].ends.length ec):=by
 obtain ⟨kv,ev,h1⟩:=h i hi
 obtain ⟨ks,kc,rfl,hk⟩:=h1.kids
 obtain ⟨es,ec,rfl,he⟩:=h1.ends
 exact ⟨ks,kc,es,ec,hk,he,h1⟩
theorem kids_drop {l : List Nd} {T : Int} {K : List Int} {j : Nat} {at_ : Int} (h : KidsIn l T at_ (K.drop j)) (hj : j < K.length) : ∃ z,0 <= K[j] /\ l[K[j].toNat]? = some z /\ at_ <= z.sf /\ z.st <= T /\ KidsIn l T z.st (K.drop (j + 1)):=by
 rw [List.drop_eq_getElem_cons hj] at h
 exact h
theorem ends_drop {T : Int} {K : List Int} {j : Nat} {at_ : Int} (h : EndsIn T at_ (K.drop j)) (hj : j < K.length) : at_ < K[j] /\ K[j] <= T /\ EndsIn T K[j] (K.drop (j + 1)):=by
 rw [List.drop_eq_getElem_cons hj] at h
 exact h
def CNds (x : ByteArray) (l : List Nd) : Prop:=∀ w : World,Calls Tryz.prog 14 #[.string x] w fun e w'=>Below w.heap.size w w' /\ ∃ s c,e = .returned (.tuple #[.agg #[.slice s l.length c,.int .i64 ((l.length : Int) - 1)],.agg #[.int .i64 0,.int .i64 0]]) /\ NdsV w' (.slice s l.length c) l /\ l.length <= 8193
theorem spans_core (s : ByteArray) (hs : s.size <= 2000) {l : List Nd} (ok : ∀ y ∈ l,SpanOk l s.size (Asked (L.byS s) s.size) y) (sm : l.length <= 8193 -> ∀ y ∈ l,NdSm y) (cS : CNds s l) (w : World) (hT : Tabs w) (hmx : ∃ mx,w.cell? ⟨0,0,none⟩ = some (.int .i64 mx) /\ 0 < w.heap.size) : Calls Tryz.prog 4 #[.string s] w fun e w'=>e = .returned (.bool true) /\ Below w.heap.size w w':=by
 have HR:=Lib.hid (reads_any w hT)
 have PS:=Lib.hid cS
 have OK:=Lib.hid ok
 have MX:=Lib.hid hmx
 have s1 : ¬ (2000 : Int) < (s.size : Int):=by omega
 have s2 : ¬ 2000 < s.size:=by omega
 have s3 : decide ((2000 : Int) < (s.size : Int)) = false:=decide_eq_false s1
 have s4 : decide (2000 < s.size) = false:=decide_eq_false s2
 clear hT cS ok hs hmx
 go_enter Tryz.func4,Tryz.ntmps4
 go_wp2_with fail
 refine HR.out.mono ?_
 rintro e w1 ⟨rfl,hb1⟩
 have B1:=Lib.hid hb1
 clear hb1 HR
 go_wp2_with fail
 refine (PS.out _).mono ?_
 rintro e w2 ⟨hb2,src,cap,rfl,hn,hl⟩
 have HL:=Lib.hid hl
 have SM:=Lib.hid (sm hl)
 clear hl sm
 have B2:=Lib.hid (after B1.out hb2)
 clear hb2 PS
 obtain ⟨n,hnl⟩ : ∃ n,n = l.length:=⟨_,rfl⟩
 have HN:=Lib.hid hnl
 rw [<- hnl] at hn ⊢
 have hn8 : n <= 8193:=by rw [hnl];exact HL.out
 clear hnl
 obtain ⟨hb3,X1,X2⟩:=new_two (w:=w2) (T:=47) (T':=27) (cs:=#[.slice src n cap,.int .i64 ((n : Int) - 1)]) (rs:=#[.int .i64 0,.int .i64 0]) (Below.refl _ _)
 have B3:=Lib.hid (after B2.out hb3)
 have N3:=Lib.hid (hn.step hb3)
 have a0:=X1.cell 0
 have f0:=X2.cell 0
 have al:=X1.lt
 have fl:=X2.lt
 simp only [List.getElem?_cons_zero,List.getElem?_cons_succ] at a0 f0
 have Y1:=Lib.hid X1
 clear hb3 hn X1 X2
 go_wp2_with fail
 generalize ((w2.alloc (.cells #[.slice src n cap,.int .i64 ((n : Int) - 1)] 47)).alloc (.cells #[.int .i64 0,.int .i64 0] 27)) = w3 at *
 generalize w2.heap.size = xT at *
 clear a0 f0 al fl B1
 go_loopg [29] n (fun k iv wr=>∃ i : Nat,iv = .int .i64 (i : Nat) /\ i + k = n /\ Below w3.heap.size w3 wr)
 case atStart=>exact ⟨0,rfl,by omega,by first | exact Below.refl _ _ | exact (Below.refl _ _).drew⟩
 case round =>
  obtain ⟨i,rfl,hik,hbr⟩:=hrel
  have BR:=Lib.hid hbr
  have NR:=Lib.hid (N3.out.step hbr)
  clear hbr
  cases gk with
  | zero =>
   have hd : decide ((i : Int) < (n : Int)) = false:=decide_eq_false (by omega)
   have hd2 : ¬ (i : Int) < (n : Int):=by omega
   have hd3 : ¬ i < n:=by omega
   have hd4 : decide (i < n) = false:=decide_eq_false hd3
   go_wp2_with fail
   go_ret
   exact ⟨rfl,after B3.out BR.out⟩
  | succ gq =>
   have hd : decide ((i : Int) < (n : Int)) = true:=decide_eq_true (by omega)
   have hd2 : (i : Int) < (n : Int):=by omega
   have hd3 : decide (i < n) = true:=decide_eq_true (by omega)
   have j0 : (0 : Int) <= (i : Int):=by omega
   have hil : i < l.length:=by rw [<- HN.out];omega
   obtain ⟨src',cap',hsv,hin⟩:=NR.out
   rw [HN.out] at hsv
   injection hsv with hs1 hs2 hs3
   subst hs1 hs3
   obtain ⟨b,off,rfl,hbw,hat⟩:=hin (by omega)
   obtain ⟨ks,kc,es,ec,hks,hes,ha⟩:=node_cells hat hil
   have SO:=Lib.hid (OK.out l[i] (List.getElem_mem hil))
   have sk:=(SM.out l[i] (List.getElem_mem hil)).kids
   have se:=(SM.out l[i] (List.getElem_mem hil)).ends
   have HAT:=Lib.hid hat
   have HKS:=Lib.hid hks
   have HES:=Lib.hid hes
   have A:=Lib.hid ha
   generalize l[i] = y at *
   obtain ⟨kind,sf,st,kids,text,B,N,D,M,num,wf,wt,ends⟩:=y
   simp only at sk se
   have c0:=A.out.c0
   have c1:=A.out.c1
   have c2:=A.out.c2
   have c3:=A.out.c3
   have c4:=A.out.c4
   have c5:=A.out.c5
   have c6:=A.out.c6
   have c7:=A.out.c7
   have c8:=A.out.c8
   have c9:=A.out.c9
   have c10:=A.out.c10
   have c11:=A.out.c11
   have c12:=A.out.c12
   simp only at c0 c1 c2 c3 c4 c5 c6 c7 c8 c9 c10 c11 c12
   have YR:=Lib.hid (Y1.out.keep BR.out)
   have a0:=YR.out.cell 0
   have al:=YR.out.lt
   simp only [List.getElem?_cons_zero,List.getElem?_cons_succ] at a0
   have k1 : 0 <= sf:=SO.out.from_
   have k2 : sf <= st:=SO.out.le
   have k3 : st <= (s.size : Nat):=SO.out.to_
   have p1 : decide (sf < 0) = false:=decide_eq_false (by omega)
   have p2 : decide (st < sf) = false:=decide_eq_false (by omega)
   have p3 : decide ((s.size : Int) < st) = false:=decide_eq_false (by omega)
   clear ha hks hes hin
   have W5 : ∃ w5,w5 = wr.alloc (.cells #[.int .i64 kind,.int .i64 sf,.int .i64 st,.slice ks kids.length kc,.string text,.int .i64 B,.string N,.int .i64 D,.string M,.int .i64 num,.int .i64 wf,.int .i64 wt,.slice es ends.length ec] 56):=⟨_,rfl⟩
   obtain ⟨w5,hw5⟩:=W5
   have hb5 : Below wr.heap.size wr w5:=by rw [hw5];exact (Below.refl _ _).alloc (Nat.le_refl _) _
   have Y5 : Hid (Bx 56 w5 wr.heap.size [.int .i64 kind,.int .i64 sf,.int .i64 st,.slice ks kids.length kc,.string text,.int .i64 B,.string N,.int .i64 D,.string M,.int .i64 num,.int .i64 wf,.int .i64 wt,.slice es ends.length ec]):=Lib.hid (by rw [hw5];exact Bx.new 56 wr #[.int .i64 kind,.int .i64 sf,.int .i64 st,.slice ks kids.length kc,.string text,.int .i64 B,.string N,.int .i64 D,.string M,.int .i64 num,.int .i64 wf,.int .i64 wt,.slice es ends.length ec])
   have B5:=Lib.hid (BR.out.trans (hb5.mono BR.out.size))
   have HAT5:=Lib.hid (hat.step hbw hb5)
   have HKS5:=Lib.hid (HKS.out.step hb5)
   have HES5:=Lib.hid (HES.out.step hb5)
   have YT5:=Lib.hid (YR.out.keep hb5)
   have hbw5 : b < w5.heap.size:=Nat.lt_of_lt_of_le hbw hb5.size
   have HBW:=Lib.hid hbw5
   clear hb5 hat hbw5
   go_wp2_with fail
   rw [<- hw5]
   generalize wr.heap.size = xN at *
   clear c0 c1 c2 c3 c4 c5 c6 c7 c8 c9 c10 c11 c12 a0 al hw5 A HKS HES YR hbw HAT
   have HK0:=Lib.hid (show KidsIn l st sf (kids.drop 0) from SO.out.kids)
   go_loopg [60,7] kids.length (fun k iv av wr=>∃ (j : Nat) (at_ : Int),iv = .int .i64 (j : Nat) /\ av = .int .i64 at_ /\ j + k = kids.length /\ KidsIn l st at_ (kids.drop j) /\ Below w5.heap.size w5 wr)
   case atStart=>exact ⟨0,sf,rfl,rfl,by omega,HK0.out,by first | exact Below.refl _ _ | exact (Below.refl _ _).drew⟩
   case round =>
    clear HK0
    obtain ⟨j,at_,rfl,rfl,hjk,hkj,hbx⟩:=hrel
    have BX:=Lib.hid hbx
    have HKJ:=Lib.hid hkj
    have TX:=Lib.hid (YT5.out.keep hbx)
    have NX:=Lib.hid (Y5.out.keep hbx)
    clear hbx hkj
    cases gk with
    | zero =>
     have d1 : decide ((j : Int) < (kids.length : Int)) = false:=decide_eq_false (by omega)
     have d2 : ¬ (j : Int) < (kids.length : Int):=by omega
     have d3 : decide (j < kids.length) = false:=decide_eq_false (by omega)
     have BX3:=Lib.hid (B5.out.trans (BX.out.mono B5.out.size))
     have HESX:=Lib.hid (HES5.out.step BX.out)
     obtain ⟨m0,m1,m2,m3,m4,m5,m6,m7,m8,m9,m10,m11,m12⟩ : wr.cell? ⟨xN,0,none⟩ = some (.int .i64 kind) /\ wr.cell? ⟨xN,1,none⟩ = some (.int .i64 sf) /\ wr.cell? ⟨xN,2,none⟩ = some (.int .i64 st) /\ wr.cell? ⟨xN,3,none⟩ = some (.slice ks kids.length kc) /\ wr.cell? ⟨xN,4,none⟩ = some (.string text) /\ wr.cell? ⟨xN,5,none⟩ = some (.int .i64 B) /\ wr.cell? ⟨xN,6,none⟩ = some (.string N) /\ wr.cell? ⟨xN,7,none⟩ = some (.int .i64 D) /\ wr.cell? ⟨xN,8,none⟩ = some (.string M) /\ wr.cell? ⟨xN,9,none⟩ = some (.int .i64 num) /\ wr.cell? ⟨xN,10,none⟩ = some (.int .i64 wf) /\ wr.cell? ⟨xN,11,none⟩ = some (.int .i64 wt) /\ wr.cell? ⟨xN,12,none⟩ = some (.slice es ends.length ec):=⟨NX.out.cell 0,NX.out.cell 1,NX.out.cell 2,NX.out.cell 3,NX.out.cell 4,NX.out.cell 5,NX.out.cell 6,NX.out.cell 7,NX.out.cell 8,NX.out.cell 9,NX.out.cell 10,NX.out.cell 11,NX.out.cell 12⟩
     have nl:=NX.out.lt
     have gq3 : IntKind.i64.wrap ((i : Int) + 1) = (i : Int) + 1:=IntWalk.i64_in _ ⟨by omega,by omega⟩
     have TY:=Lib.hid SO.out.ty
     clear HKJ HAT5 HKS5 YT5 Y5 TX
     rcases TY.out with ⟨t1,t2,t3,t4,t5⟩ | ⟨t1,t2,t3,t4,t5,t6,t7⟩
     ·simp only at t1 t2 t3 t4 t5
      subst t1 t2 t3 t4 t5
      go_wp2_with fail
      go_roundg gq
      case measure=>omega
      case rel=>exact ⟨i + 1,rfl,by omega,BX3.out⟩
     ·simp only at t1 t2 t3 t4 t5 t6 t7
      obtain ⟨dn,hdn⟩ : ∃ dn : Nat,D = (dn : Int):=⟨D.toNat,by omega⟩
      subst hdn
      have e1 : ends.length = dn + 1:=by omega
      have e2 : IntKind.i64.wrap ((dn : Int) + 1) = (dn : Int) + 1:=IntWalk.i64_in _ ⟨by omega,by omega⟩
      have e3 : ((ends.length : Int) != (dn : Int) + 1) = false:=by simp;omega
      have e4 : decide ((ends.length : Int) = (dn : Int) + 1) = true:=decide_eq_true (by omega)
      have hM1 : ¬ M = ⟨#[]⟩:=fun h=>by rw [h] at t1;have t1 : 0 = ends.length:=t1;omega
      have hM2 : decide (M = ⟨#[]⟩) = false:=decide_eq_false hM1
      have hM3 : ¬ M.toList = []:=fun h=>ba_nil M h (by omega)
      have hM4 : decide (M.toList = []) = false:=decide_eq_false hM3
      have u1 : decide (wf < sf) = false:=decide_eq_false (by omega)
      have u2 : decide (st < wt) = false:=decide_eq_false (by omega)
      have T6:=Lib.hid (show EndsIn wt wf (ends.drop 0) from t6)
      have T7:=Lib.hid t7
      have T1:=Lib.hid t1
      have wf0 : 0 <= wf:=by omega
      have wtn : wt <= (s.size : Nat):=by omega
      clear t1 t2 t6 t7
      go_wp2_with fail
      go_loopg [127,7] ends.length (fun k iv av wy=>∃ (j : Nat) (at_ : Int),iv = .int .i64 (j : Nat) /\ av = .int .i64 at_ /\ j + k = ends.length /\ 0 <= at_ /\ EndsIn wt at_ (ends.drop j) /\ Below wr.heap.size wr wy)
      case atStart=>exact ⟨0,wf,rfl,rfl,by omega,wf0,T6.out,by first | exact Below.refl _ _ | exact (Below.refl _ _).drew⟩
      case round =>
       clear T6
       obtain ⟨r,ar,rfl,rfl,hrk,har,hej,hby⟩:=hrel
       have BY:=Lib.hid hby
       have NY:=Lib.hid (NX.out.keep hby)
       have EJ:=Lib.hid hej
       have EY:=Lib.hid (HESX.out.step hby)
       clear hby hej m0 m1 m2 m3 m4 m5 m6 m7 m8 m9 m10 m11 m12 nl
       cases gk with
       | zero =>
        have d5 : decide ((r : Int) < (ends.length : Int)) = false:=decide_eq_false (by omega)
        have d6 : ¬ (r : Int) < (ends.length : Int):=by omega
        go_wp2_with fail
        go_roundg gq
        case measure=>omega
        case rel=>exact ⟨i + 1,rfl,by omega,BX3.out.trans (BY.out.mono BX3.out.size)⟩
       | succ gk =>
        have hrl : r < ends.length:=by omega
        have d5 : decide ((r : Int) < (ends.length : Int)) = true:=decide_eq_true (by omega)
        have d6 : (r : Int) < (ends.length : Int):=by omega
        have d7 : (0 : Int) <= (r : Int):=by omega
        obtain ⟨v1,v2,v3⟩:=ends_drop EJ.out hrl
        have E3:=Lib.hid v3
        obtain ⟨ve,oe,rfl,hve,hce⟩:=EY.out (by omega)
        have ce:=hce r hrl
        obtain ⟨q,hq⟩ : ∃ q : Nat,ends[r] = (q : Int):=⟨ends[r].toNat,by omega⟩
        have hgq : ends[r]? = some (q : Int):=by rw [List.getElem?_eq_getElem hrl,hq]
        have T7r:=Lib.hid (T7.out r _ hgq)
        rw [hq] at ce v1 v2 E3
        have hqs : q <= s.size:=by omega
        have hqs2 : (q : Int) <= (s.size : Int):=by omega
        have q0 : (0 : Int) <= (q : Int):=by omega
        have p8 : decide ((q : Int) <= ar) = false:=decide_eq_false (by omega)
        have p9 : decide (wt < (q : Int)) = false:=decide_eq_false (by omega)
        have hrM : r < M.size:=by have:=T1.out;omega
        have hrM2 : (r : Int) < (M.size : Int):=by omega
        have l6:=NY.out.cell 6
        have l11:=NY.out.cell 11
        have l8:=NY.out.cell 8
        have l12:=NY.out.cell 12
        have nl:=NY.out.lt
        simp only [List.getElem?_cons_zero,List.getElem?_cons_succ] at l6 l8 l11 l12
        clear hce v3 hq hgq EJ
        by_cases hmk : byS M r = 63
        ·obtain ⟨m,hm,hask⟩:=T7r.out hmk
         obtain rfl : q = m:=by omega
         have hat:=asked_text hask
         have hbt : M[r].toNat = 63:=by rw [<- byS_get M r hrM];exact hmk
         have hbt2 : ((M[r].toNat : Nat) : Int) = 63:=by rw [hbt];rfl
         have hbt3 : M[r] = 63:=UInt8.toNat_inj.1 hbt
         obtain ⟨tr,htr⟩ : ∃ tr : ByteArray,tr = ⟨(Lib.trimLeftS (s.extract q s.size).data.toList [32,9,13,10]).toArray⟩:=⟨_,rfl⟩
         obtain ⟨hp,hhp⟩ : ∃ hp,hp = Lib.hasPrefix tr.data.toList [63]:=⟨_,rfl⟩
         obtain ⟨ct,hct⟩ : ∃ ct,ct = Lib.contains (s.extract q s.size).data.toList [47,47]:=⟨_,rfl⟩
         have hat : hp = true \/ ct = true:=by rw [hhp,hct,htr];exact hat
         have TL : Hid (∀ w2 : World,Calls Tryz.prog 18 #[.string (s.extract q s.size),.string ⟨#[32,9,13,10]⟩] w2 fun e w'=>e = .returned (.string tr) /\ Below w2.heap.size w2 w'):=Lib.hid (fun w2=>by
          rw [htr];exact Any.strings_TrimLeft_laid Tryz.lays161 (by kernel_rfl) (s.extract q s.size) ⟨#[32,9,13,10]⟩ w2 (by decide) (ascii_of_all (by decide)))
         have PF : Hid (∀ w2 : World,Calls Tryz.prog 17 #[.string tr,.string ⟨#[63]⟩] w2 fun e w'=>e = .returned (.bool hp) /\ w' = w2):=Lib.hid (fun w2=>by
          rw [hhp];exact Tryz.strings_HasPrefix tr ⟨#[63]⟩ w2)
         have CT : Hid (∀ (w2 : World) (mx : Int),w2.cell? ⟨0,0,none⟩ = some (.int .i64 mx) -> Calls Tryz.prog 19 #[.string (s.extract q s.size),.string ⟨#[47,47]⟩] w2 fun e w'=>e = .returned (.bool ct) /\ w' = w2):=Lib.hid (fun w2 mx h=>by
          rw [hct];exact Tryz.strings_Contains (s.extract q s.size) ⟨#[47,47]⟩ mx w2 (by rw [ByteArray.size_extract];omega) h)
         clear htr hhp hct
         have HC : Hid (∃ mx,wr.cell? ⟨0,0,none⟩ = some (.int .i64 mx) /\ 0 < wr.heap.size):=by
          obtain ⟨mx,h1,h2⟩:=MX.out
          have q:=after B3.out (BX3.out.trans (BY.out.mono BX3.out.size))
          exact Lib.hid ⟨mx,keep q h2 h1,Nat.lt_of_lt_of_le h2 q.size⟩
         clear hask
         go_wp2_with fail
         refine (TL.out _).mono ?_
         rintro e w8 ⟨rfl,hb8⟩
         have B8:=Lib.hid (after BY.out hb8)
         obtain ⟨mx,hmx,hml⟩:=HC.out
         have HMX:=Lib.hid (keep hb8 hml hmx)
         clear hb8 hmx hml l6 l11 l8 l12 hbt hbt2 hbt3
         go_wp2_with fail
         refine (PF.out _).mono ?_
         rintro e w9 ⟨rfl,rfl⟩
         cases hp with
         | true =>
          clear hat
          go_wp2_with fail
          go_roundg gk
          case measure=>omega
          case rel=>exact ⟨r + 1,(q : Int),rfl,rfl,by omega,by omega,E3.out,B8.out⟩
         | false =>
          obtain rfl : ct = true:=by rcases hat with h | h;cases h;exact h
          clear hat
          go_wp2_with fail
          refine (CT.out _ _ HMX.out).mono ?_
          rintro e w10 ⟨rfl,rfl⟩
          go_wp2_with fail
          go_roundg gk
          case measure=>omega
          case rel=>exact ⟨r + 1,(q : Int),rfl,rfl,by omega,by omega,E3.out,B8.out⟩
        ·have hbt:=byS_get M r hrM
         go_wp2_with fail
         go_roundg gk
         case measure=>omega
         case rel=>exact ⟨r + 1,(q : Int),rfl,rfl,by omega,by omega,E3.out,BY.out⟩
    | succ gk =>
     have hjl : j < kids.length:=by omega
     have d1 : decide ((j : Int) < (kids.length : Int)) = true:=decide_eq_true (by omega)
     have d2 : (j : Int) < (kids.length : Int):=by omega
     have d3 : decide (j < kids.length) = true:=decide_eq_true hjl
     have d4 : (0 : Int) <= (j : Int):=by omega
     obtain ⟨z,z0,z1,z2,z3,z4⟩:=kids_drop HKJ.out hjl
     obtain ⟨vk,offk,rfl,hvk,hck⟩:=(HKS5.out.step BX.out) (by omega)
     have ck:=hck j hjl
     obtain ⟨q,hq⟩ : ∃ q : Nat,kids[j] = (q : Int):=⟨kids[j].toNat,by omega⟩
     rw [hq] at z1 ck
     have z1 : l[q]? = some z:=z1
     obtain ⟨hql,hqz⟩:=List.getElem?_eq_some_iff.1 z1
     obtain ⟨ks',kc',es',ec',-,-,hz⟩:=node_cells (HAT5.out.step HBW.out BX.out) hql
     rw [hqz] at hz
     have Z4:=Lib.hid z4
     have hqn : q < n:=by rw [HN.out];exact hql
     have n1 : (0 : Int) <= (q : Int):=by omega
     have n2 : (q : Int) < (n : Int):=by omega
     obtain ⟨-,-,c0,c1,c2,c3,c4,c5,c6,c7,c8,c9,c10,c11,c12⟩:=hz
     obtain ⟨zk,zsf,zst,zkids,ztext,zB,zN,zD,zM,znum,zwf,zwt,zends⟩:=z
     simp only at c0 c1 c2 c3 c4 c5 c6 c7 c8 c9 c10 c11 c12 z2 z3
     have a0:=TX.out.cell 0
     have al:=TX.out.lt
     have m2:=NX.out.cell 2
     have nl:=NX.out.lt
     simp only [List.getElem?_cons_zero,List.getElem?_cons_succ] at a0 m2
     have p4 : decide (zsf < at_) = false:=decide_eq_false (by omega)
     have p5 : decide (st < zst) = false:=decide_eq_false (by omega)
     clear hck z4 hq z1 hqz hql HKJ
     go_wp2_with fail
     go_roundg gk
     case measure=>omega
     case rel=>exact ⟨j + 1,zst,rfl,rfl,by omega,Z4.out,BX.out.alloc BX.out.size _⟩
theorem cell_lt {w : World} {a : Addr} {v : Value} (h : w.cell? a = some v) : a.block < w.heap.size:=by
 by_cases hn : a.block < w.heap.size
 ·exact hn
 ·have h0 : w.heap[a.block]? = none:=Array.getElem?_eq_none (by omega)
  simp [World.cell?,h0] at h
theorem spans_out (s : ByteArray) (hs : 2000 < s.size) (w : World) (hT : Tabs w) : Calls Tryz.prog 4 #[.string s] w fun e w'=>e = .returned (.bool true) /\ Below w.heap.size w w':=by
 have HR:=Lib.hid (reads_any w hT)
 have s1 : (2000 : Int) < (s.size : Int):=by omega
 have s3 : decide ((2000 : Int) < (s.size : Int)) = true:=decide_eq_true s1
 have s4 : decide (2000 < s.size) = true:=decide_eq_true hs
 clear hT
 go_enter Tryz.func4,Tryz.ntmps4
 go_wp2_with fail
 refine HR.out.mono ?_
 rintro e w1 ⟨rfl,hb1⟩
 have B1:=Lib.hid hb1
 clear hb1
 go_wp2_with fail
 go_ret
 exact ⟨rfl,B1.out⟩
theorem spans_bad (s : ByteArray) (hs : s.size <= 2000) {c : Nat} {z : Int} (hc : c ≠ 0) (cS : ∀ w : World,Calls Tryz.prog 14 #[.string s] w fun e w'=>Below w.heap.size w w' /\ e = .returned (.tuple #[.agg #[.slice none 0 0,.int .i64 0],.agg #[.int .i64 (c : Nat),.int .i64 z]])) (w : World) (hT : Tabs w) : Calls Tryz.prog 4 #[.string s] w fun e w'=>e = .returned (.bool true) /\ Below w.heap.size w w':=by
 have HR:=Lib.hid (reads_any w hT)
 have PS:=Lib.hid cS
 have s1 : ¬ (2000 : Int) < (s.size : Int):=by omega
 have s2 : ¬ 2000 < s.size:=by omega
 have s3 : decide ((2000 : Int) < (s.size : Int)) = false:=decide_eq_false s1
 have s4 : decide (2000 < s.size) = false:=decide_eq_false s2
 have e1 : ((c : Int) != 0) = true:=by simp;omega
 have e2 : decide ((c : Int) = 0) = false:=decide_eq_false (by omega)
 have e3 : ¬ (c : Int) = 0:=by omega
 have e4 : ((c : Int) == 0) = false:=by simp;omega
 clear hT cS hs hc
 go_enter Tryz.func4,Tryz.ntmps4
 go_wp2_with fail
 refine HR.out.mono ?_
 rintro e w1 ⟨rfl,hb1⟩
 have B1:=Lib.hid hb1
 clear hb1 HR
 go_wp2_with fail
 refine (PS.out _).mono ?_
 rintro e w2 ⟨hb2,rfl⟩
 have B2:=Lib.hid (after B1.out hb2)
 clear hb2 PS
 obtain ⟨hb3,X1,X2⟩:=new_two (w:=w2) (T:=47) (T':=27) (cs:=#[.slice none 0 0,.int .i64 0]) (rs:=#[.int .i64 (c : Nat),.int .i64 z]) (Below.refl _ _)
 have B3:=Lib.hid (after B2.out hb3)
 have f0:=X2.cell 0
 have fl:=X2.lt
 simp only [List.getElem?_cons_zero,List.getElem?_cons_succ] at f0
 clear hb3 X1 X2
 go_wp2_with fail
 go_ret
 exact ⟨rfl,B3.out⟩
theorem spans_any (s : ByteArray) (hm : s.size <= maxLen) (w : World) (hT : Tabs w) (hmx : ∃ mx,w.cell? ⟨0,0,none⟩ = some (.int .i64 mx) /\ 0 < w.heap.size) : Calls Tryz.prog 4 #[.string s] w fun e w'=>e = .returned (.bool true) /\ Below w.heap.size w w':=by
 by_cases hs : 2000 < s.size
 ·exact spans_out s hs w hT
 ·have hs : s.size <= 2000:=by omega
  by_cases hc : (parsedX s).2.1 = 0
  ·have hx : codeX s = 0:=by
    by_cases h0 : codeX s = 0
    ·exact h0
    ·rw [parsed_lex h0] at hc;exact hc
   cases hp : parseP (pcOf s) with
   | bad c z=>rw [parsed_bad hx hp] at hc;exact absurd hc (parse_code hp)
   | out=>exact absurd hp (parse_ends (pc_cw hx))
   | ok t =>
    rename_i t'
    have e2 : (parsedX s).2 = (0,0):=by rw [parsed_ok hx hp]
    refine spans_core s hs (read_spans hc) (fun hl y hy=>?_) (fun w2=>(parse_yes s w2 hm e2).mono fun e w' ⟨h1,sv,c,h2,h3,h4⟩=>⟨h1,sv,c,h2,h3.nds,h4⟩) w hT hmx
    have e1 : (parsedX s).1 = t'.made:=by rw [parsed_ok hx hp]
    rw [e1] at hl hy
    have hb:=(parse_right (pc_sz hx) hp (by omega)).2.1 y hy
    exact ⟨hb.num,hb.text,Nat.le_trans hb.N (by omega),Nat.le_trans hb.M (by omega),Nat.le_trans hb.kids (by omega),Nat.le_trans hb.ends (by omega)⟩
  ·exact spans_bad s hs hc (fun w2=>parse_no s w2 hm (c:=(parsedX s).2.1) (z:=(parsedX s).2.2) rfl hc) w hT
end Go.Proofs.YtcllbfijhgiclaaGreatDoor.G
namespace Go.Proofs.YtcllbfijhgiclaaGreatDoor
open Go.ChangeShapes Go.WideShapes Go.ChangeAt Go.RowKit
open Go.ChangeMaps (open_string shut_string)
theorem parseSpans_contract (H : Type) (enc : TypeId × Value -> H) (W : World) (base : Nat) (args : Array Value) (ds gs : List (DataW H)) (before : List MemPlace)
  (hval0 : ∀ (j : Nat) t v,Tryz.f4.params[j]? = some t -> args[j]? = some v -> Value.okWide Tryz.prog W .any base t v)
  (hW : DataW.Whole enc Tryz.prog Tryz.f4.params.toList Rows.parseSpansSpec.vars false W args.toList ds gs before) (hL : laidMetH Tryz.prog Rows.parseSpansRow.laid W) (hmx : ∃ mx,W.cell? ⟨0,0,none⟩ = some (.int .i64 mx) /\ 0 < W.heap.size) :
  Calls Tryz.prog 4 args W fun e W'=>∃ v,e = .returned v /\ Rows.parseSpansSpec.post enc Tryz.prog Tryz.f4 false true false false W args v W':=by
 have hval : ∀ (j : Nat) t v,Tryz.f4.params[j]? = some t -> args[j]? = some v -> Value.okWide Tryz.prog W .any base t v:=hval0
 have hW':=hW
 obtain ⟨p,q,hA0,hV,rfl,hfz,hnd⟩:=hW
 have hA : DataW.TrodAll enc Tryz.prog W 0 (fun _=>true) true Tryz.f4.params.toList args.toList ds p:=hA0
 rw [Tryz.params4] at hA hval
 obtain ⟨v0,vs0,d0,ds0,p0,q0,hargs,rfl,rfl,h0,r0⟩:=trodAll_cons hA
 obtain ⟨rfl,rfl,rfl⟩:=trodAll_nil r0
 obtain rfl : args = #[v0]:=by cases args;simp_all
 obtain ⟨rfl,rfl⟩:=trodVars_none hV
 obtain ⟨a0,rfl,rfl,rfl,w0⟩:=open_string Tryz.underlying9 (hval 0 9 v0 rfl rfl) h0
 clear hA0 hval0
 refine (G.spans_any a0 w0 W (tabs_of (by rw [MakeChecks.laidMetH_plain _ _ _ (by kernel_rfl)] at hL;exact hL)) hmx).mono fun e W' ⟨he,bel⟩=>?_
 subst he
 exact ⟨_,rfl,_,_,_,[],_,[],hW',trodAll_mk1 (shut_bool Tryz.underlying4 _),(trodAll_cons_mk (shut_string Tryz.underlying9 w0) trodAll_mk0),rfl,bel.frame _,fun h=>by cases h⟩
theorem parseSpans_lifted (os : Os) (started : os.Started) (H : Type) (enc : TypeId × Value -> H) :
  ReturnsInHanded {} Tryz.checked os 4 .any (fun w args=>(Rows.parseSpansSpec.pre enc Tryz.prog Tryz.f4 Rows.parseSpansRow.domain false w args /\ laidMetH Tryz.prog Rows.parseSpansRow.laid w) /\ sizedMet enc Tryz.prog Tryz.f4 (OpenSpec.ofChange Rows.parseSpansSpec) false w args)
   (Rows.parseSpansSpec.post enc Tryz.prog Tryz.f4 false true false false):=by
 refine returnsInHanded_of_calls (C:=Tryz.checked) own started (by kernel_rfl)
  (ChangeSpec.witness_shaped (enc:=enc) (C:=Tryz.checked) (os:=os) (X:=fun w _=>laidMetH Tryz.prog Rows.parseSpansRow.laid w) false (World.laidAll Tryz.prog os laidL) #[.string ⟨#[]⟩] 8 (World.laidAll_os _ _ _)
   (World.shaped_of_ZipB (by kernel_rfl) (by kernel_rfl)) (by kernel_rfl) (by kernel_rfl) (by kernel_rfl)
   (by rw [MakeChecks.laidMetH_plain _ _ _ (by kernel_rfl)];exact laidMet_laidAll _ (by kernel_rfl) (by kernel_rfl))) ?_
 intro w tape i _ hsh _ hok hpre hholds
 obtain ⟨_,_,_,fn',hfn',_,_,_,_,hval⟩:=hok
 obtain rfl : fn' = Tryz.f4:=Option.some.inj (hfn'.symm.trans Tryz.func4)
 obtain ⟨⟨⟨ds,gs,before,hw,hc⟩,hx⟩,hz⟩:=hpre
 have hw2:=DataW.Whole.of_heap (w':=w.forCall tape i) (by rfl) hw
 obtain ⟨mx,hm⟩:=Tryz.laysM144.s1_3 _ hsh
 refine (parseSpans_contract H enc (w.forCall tape i) w.heap.size i.args ds gs before hval hw2 (hx.of_heap (by rfl)) ⟨mx,hm,G.cell_lt hm⟩).mono fun e W' ⟨v,he,hp⟩=>?_
 subst he
 exact ChangeSpec.post_blind hp
theorem parseSpans_said : Rows.ParseSpansSaid :=
 OpenClaim.holds_of_wide 4 Tryz.f4 rfl rfl rfl rfl rfl rfl rfl ⟨rfl,rfl,rfl,rfl,rfl⟩ rfl rfl rfl rfl rfl (by kernel_rfl) Tryz.func4 (by kernel_rfl)
  (of_decide_eq_true (by kernel_rfl)) (by unfold Func.isWrapper;first | (rw [if_pos (by decide +kernel)];kernel_rfl) | (rw [if_neg (by decide +kernel)];exact ⟨rfl,rfl⟩))
  (fun os started H enc _=>parseSpans_lifted os started H enc)
theorem parseSpans_plain (f : FuncId) (fn : Func) (hf : Tryz.pinned.checked.prog.funcNamed "caulker/caulkerlaw08.ParseSpans" = some f) (hfn : Tryz.pinned.checked.prog.funcs[f]? = some fn) :
  true = Tryz.pinned.checked.prog.looks [] /\ ∀ (j : Nat) t,fn.params[j]? = some t -> Tryz.pinned.checked.prog.wantsStandIn t = false:=by
 obtain rfl : f = 4 := Option.some.inj ((show Tryz.prog.funcNamed "caulker/caulkerlaw08.ParseSpans" = some 4 by kernel_rfl).symm.trans hf) |>.symm
 obtain rfl : fn = Tryz.f4:=(Option.some.inj (Tryz.func4.symm.trans hfn)).symm
 refine ⟨by kernel_rfl,fun j t ht=>?_⟩
 rw [Tryz.params4] at ht
 have hm:=Array.mem_of_getElem? ht
 simp only [List.mem_toArray,List.mem_cons,List.not_mem_nil,or_false] at hm
 rcases hm with rfl
 ·exact (show Tryz.prog.wantsStandIn 9 = false by kernel_rfl)
theorem parseSpans_proved : Rows.ParseSpansCardSaid :=
 Claim7.holds_tied_plain_at .later [] _ _ _ _ parseSpans_said (fun _ h=>by cases h) (by kernel_rfl) (fun _ h=>by cases h) parseSpans_row_tie rfl ⟨rfl,rfl⟩ (by kernel_rfl) rfl parseSpans_plain (by kernel_rfl)
end Go.Proofs.YtcllbfijhgiclaaGreatDoor
