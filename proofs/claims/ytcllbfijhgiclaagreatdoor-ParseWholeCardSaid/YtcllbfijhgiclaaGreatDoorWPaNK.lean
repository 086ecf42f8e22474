/- ParseWhole -/
import Derived.Test.YtcllbfijhgiclaaGreatDoorWPaNJ
import Derived.Test.YtcllbfijhgiclaaGreatDoorWTrFrame
set_option maxRecDepth 100000
set_option maxHeartbeats 4000000
set_option linter.unusedVariables false
set_option linter.unusedSimpArgs false
namespace Go.Proofs.YtcllbfijhgiclaaGreatDoor.G
open Go Go.RowKit
theorem nd_sm2 {y : Nd} (h : NdB 16384 y) : NdSm y:=⟨h.num,h.text,Nat.le_trans h.N (by omega),Nat.le_trans h.M (by omega),Nat.le_trans h.kids (by omega),Nat.le_trans h.ends (by omega)⟩
structure Tre (w : World) (g r : Nat) (l : List Nd) (ks : Option Addr) (kc : Nat) (K : List Nat) : Prop where
 nds : NdsV w (.slice (some ⟨g,0,none⟩) (r + 1) (r + 1)) l
 len : l.length = r + 1
 lt : g < w.heap.size
 cell : w.cell? ⟨g,r * 13 + 3,none⟩ = some (.slice ks K.length kc)
 kids : NumsIn w ks (K.map Int.ofNat)
theorem Tre.step {w w' : World} {g r kc : Nat} {l : List Nd} {ks : Option Addr} {K : List Nat} (h : Tre w g r l ks kc K) (hb : Below w.heap.size w w') : Tre w' g r l ks kc K :=
 ⟨h.nds.step hb,h.len,Nat.lt_of_lt_of_le h.lt hb.size,keep hb h.lt h.cell,h.kids.step hb⟩
structure Prg (l : List Nd) (r : Nat) (K : List Nat) : Prop where
 len : l.length = r + 1
 check : checkE l (r : Nat) = 0
 small : ∀ y ∈ l,NdSm y
 most : r <= 8191
 in_ : ∀ k ∈ K,k < r
 few : K.length <= 8191
theorem prg_of {C : PC} {u : Fo} {j : Nat} (hu : Ok u) (hs : u.size <= 8191) : Prg (u.post C 0 ++ [progN C u j]) u.size (u.idx 0):=by
 have hl : (u.post C 0 ++ [progN C u j]).length = u.size + 1:=by rw [List.length_append,Fo.post_len];rfl
 refine ⟨hl,?_,fun y hy=>?_,hs,fun k hk=>by have:=idx_in u 0 k hk;omega,by rw [Fo.idx_len];have:=u.len_size;omega⟩
 ·have:=prog_check (C:=C) (j:=j) hu (by omega)
  rw [hl] at this
  rwa [show ((u.size + 1 : Nat) : Int) - 1 = (u.size : Nat) by omega] at this
 ·rcases List.mem_append.1 hy with hy | hy
  ·exact nd_sm2 (post_b (n:=16384) u 0 hu (by omega) y hy)
  ·rw [List.mem_singleton] at hy
   subst hy
   exact nd_sm2 (prog_b (n:=16384) u j (by omega))
theorem parse_tre {x : ByteArray} {u : Fo} {j : Nat} (hm : x.size <= maxLen) (hp : parsedX x = (u.post (pcOf x) 0 ++ [progN (pcOf x) u j],0,0)) (w : World) : Calls Tryz.prog 14 #[.string x] w fun e w'=>Below w.heap.size w w' /\ ∃ g ks kc,e = .returned (.tuple #[.agg #[.slice (some ⟨g,0,none⟩) (u.size + 1) (u.size + 1),.int .i64 (u.size : Nat)],.agg #[.int .i64 0,.int .i64 0]]) /\ Tre w' g u.size (u.post (pcOf x) 0 ++ [progN (pcOf x) u j]) ks kc (u.idx 0):=by
 refine (parse_yes x w hm (by rw [hp])).mono ?_
 rintro e w' ⟨hb,s,c,rfl,hn,hl⟩
 rw [hp] at hn hl ⊢
 have hlen : (u.post (pcOf x) 0 ++ [progN (pcOf x) u j]).length = u.size + 1:=by rw [List.length_append,Fo.post_len];rfl
 simp only at hn hl ⊢
 rw [hlen] at hn ⊢
 have hn0:=hn
 rcases hn with ⟨h1,-⟩ | ⟨h0,g,R,h1,h2,h3,h4,h5⟩
 ·rw [h1] at hlen;cases hlen
 ·rw [hlen] at h1
  injection h1 with e1 e2 e3
  subst e1 e3
  have hR : R.length = u.size + 1:=by rw [<- hlen,<- h3,List.length_map]
  have hr : u.size < R.length:=by omega
  have hlast : R[u.size].1 = progN (pcOf x) u j:=by
   have e : (R.map (·.1))[u.size]? = (u.post (pcOf x) 0 ++ [progN (pcOf x) u j])[u.size]?:=by rw [h3]
   rw [List.getElem?_map,List.getElem?_eq_getElem hr,List.getElem?_append_right (by rw [Fo.post_len];exact Nat.le_refl _),Fo.post_len,Nat.sub_self] at e
   exact Option.some.inj e
  obtain ⟨nk,-⟩:=h5 R[u.size] (List.getElem_mem hr)
  have hkids : R[u.size].1.kids = (u.idx 0).map Int.ofNat:=by rw [hlast];exact (prog_facts u j).1
  obtain ⟨ks,kc,hkv,hki⟩:=nk.nums
  rw [hkids] at hkv hki
  rw [List.length_map] at hkv
  have hc : w'.cell? ⟨g,u.size * 13 + 3,none⟩ = some (.slice ks (u.idx 0).length kc):=by
   rw [h4.cell,flatN_at R u.size hr 3 (by omega)]
   show some R[u.size].2.1 = _
   rw [hkv]
  refine ⟨hb,g,ks,kc,?_,hn0.nds,hlen,h4.lt,hc,hki⟩
  rw [show ((u.size + 1 : Nat) : Int) - 1 = (u.size : Nat) by omega]
theorem form_is {l : List Nd} {r k : Nat} {K : List Nat} (h : Prg l r K) (hk : k < r) : FormS goPen l (r : Nat) (k : Nat) = formS goPen l k:=by
 unfold FormS
 rw [if_pos ⟨by omega,by rw [h.len];omega,h.check⟩];rfl
theorem whole_forms {A B Z : PC} {ua ub : Fo} {j1 j2 j3 d : Nat} (oa : Ok ua) (ob : Ok ub) (oz : Ok ((ua.shift 0).app (ub.shift d))) (hs : ua.size + ub.size <= 8191) (i kz : Nat) (hz : (((ua.shift 0).app (ub.shift d)).idx 0)[i]? = some kz) :
  (∀ kx,(ua.idx 0)[i]? = some kx -> FormS goPen (((ua.shift 0).app (ub.shift d)).post Z 0 ++ [progN Z ((ua.shift 0).app (ub.shift d)) j3]) ((((ua.shift 0).app (ub.shift d)).size : Nat) : Int) (kz : Nat) = FormS goPen (ua.post A 0 ++ [progN A ua j1]) (ua.size : Nat) (kx : Nat)) /\
  (∀ ky,ua.len <= i -> (ub.idx 0)[i - ua.len]? = some ky -> FormS goPen (((ua.shift 0).app (ub.shift d)).post Z 0 ++ [progN Z ((ua.shift 0).app (ub.shift d)) j3]) ((((ua.shift 0).app (ub.shift d)).size : Nat) : Int) (kz : Nat) = FormS goPen (ub.post B 0 ++ [progN B ub j2]) (ub.size : Nat) (ky : Nat)):=by
 have es : ((ua.shift 0).app (ub.shift d)).size = ua.size + ub.size:=by rw [Fo.app_size,Fo.shift_size,Fo.shift_size]
 have pz:=prg_of (C:=Z) (j:=j3) oz (by omega)
 have pa:=prg_of (C:=A) (j:=j1) oa (by omega)
 have pb:=prg_of (C:=B) (j:=j2) ob (by omega)
 have fz:=form_root (C:=Z) goPen ((ua.shift 0).app (ub.shift d)) (progN Z ((ua.shift 0).app (ub.shift d)) j3) i kz hz
 rw [forms_app,forms_shift (C:=A),forms_shift (C:=B)] at fz
 have kzi:=pz.in_ kz (List.mem_of_getElem? hz)
 refine ⟨fun kx hx=>?_,fun ky hi hy=>?_⟩
 ·have fa:=form_root (C:=A) goPen ua (progN A ua j1) i kx hx
  have hlt:=(List.getElem?_eq_some_iff.1 fa).1
  rw [List.getElem?_append_left hlt,fa] at fz
  rw [form_is pz kzi,form_is pa (pa.in_ kx (List.mem_of_getElem? hx))]
  exact (Option.some.inj fz).symm
 ·have fb:=form_root (C:=B) goPen ub (progN B ub j2) (i - ua.len) ky hy
  have e:=forms_len (C:=A) goPen ua
  rw [List.getElem?_append_right (by omega),e,fb] at fz
  rw [form_is pz kzi,form_is pb (pb.in_ ky (List.mem_of_getElem? hy))]
  exact (Option.some.inj fz).symm
def CTre (x : ByteArray) (l : List Nd) (r : Nat) (K : List Nat) : Prop:=∀ w : World,Calls Tryz.prog 14 #[.string x] w fun e w'=>Below w.heap.size w w' /\ ∃ g ks kc,e = .returned (.tuple #[.agg #[.slice (some ⟨g,0,none⟩) (r + 1) (r + 1),.int .i64 (r : Nat)],.agg #[.int .i64 0,.int .i64 0]]) /\ Tre w' g r l ks kc K
theorem form_tre {w : World} {g r kc : Nat} {l : List Nd} {ks : Option Addr} {K : List Nat} (h : Tre w g r l ks kc K) (p : Prg l r K) (hT : Tabs w) (k : Nat) : Calls Tryz.prog 23 #[.agg #[.slice (some ⟨g,0,none⟩) (r + 1) (r + 1),.int .i64 (r : Nat)],.int .i64 (k : Nat)] w fun e w'=>e = .returned (.string (FormS goPen l (r : Nat) (k : Nat))) /\ Below w.heap.size w w' :=
 Form_any l _ (r : Nat) (k : Nat) w hT h.nds (by rw [h.len];have:=p.most;omega) p.small
theorem whole_core (a b : ByteArray) (hsa : a.size <= 1500) (hsb : b.size <= 1500) {RA RB : List Nd} {rA rB : Nat} {KA KB : List Nat} (pA : Prg RA rA KA) (pB : Prg RB rB KB) (cA : CTre a RA rA KA) (cB : CTre b RB rB KB) {RZ : List Nd} {rZ : Nat} {KZ : List Nat} (pZ : Prg RZ rZ KZ) (cZ : CTre (a ++ (⟨#[10]⟩ : ByteArray) ++ b) RZ rZ KZ) (hl : KZ.length = KA.length + KB.length) (h64 : KA.length + KB.length <= 64) (hf : ∀ i kz,KZ[i]? = some kz -> (∀ kx,KA[i]? = some kx -> FormS goPen RZ (rZ : Nat) (kz : Nat) = FormS goPen RA (rA : Nat) (kx : Nat)) /\ (∀ ky,KA.length <= i -> KB[i - KA.length]? = some ky -> FormS goPen RZ (rZ : Nat) (kz : Nat) = FormS goPen RB (rB : Nat) (ky : Nat))) (w : World) (hT : Tabs w) : Calls Tryz.prog 8 #[.string a,.string b] w fun e w'=>e = .returned (.bool true) /\ Below w.heap.size w w':=by
 have HR:=Lib.hid (reads_any w hT)
 have HT:=Lib.hid hT
 have PA:=Lib.hid cA
 have PB:=Lib.hid cB
 have GA:=Lib.hid pA
 have GB:=Lib.hid pB
 have s1 : ¬ (1500 : Int) < (a.size : Int):=by omega
 have s2 : ¬ 1500 < a.size:=by omega
 have s3 : decide ((1500 : Int) < (a.size : Int)) = false:=decide_eq_false s1
 have s4 : decide (1500 < a.size) = false:=decide_eq_false s2
 have t1 : ¬ (1500 : Int) < (b.size : Int):=by omega
 have t2 : ¬ 1500 < b.size:=by omega
 have t3 : decide ((1500 : Int) < (b.size : Int)) = false:=decide_eq_false t1
 have t4 : decide (1500 < b.size) = false:=decide_eq_false t2
 have z1 : ¬ 9223372036854775807 < a.size + 1:=by omega
 have z2 : ¬ 9223372036854775807 < a.size + 1 + b.size:=by omega
 clear hT cA cB pA pB hsa hsb
 go_enter Tryz.func8,Tryz.ntmps8
 go_wp2_with fail
 refine HR.out.mono ?_
 rintro e w1 ⟨rfl,hb1⟩
 have B1:=Lib.hid hb1
 clear hb1 HR
 go_wp2_with fail
 refine (PA.out _).mono ?_
 rintro e w2 ⟨hb2,gA,sA,cA,rfl,tA⟩
 have B2:=Lib.hid (after B1.out hb2)
 clear hb2
 obtain ⟨hb3,X1,X2⟩:=new_two (w:=w2) (T:=47) (T':=27) (cs:=#[.slice (some ⟨gA,0,none⟩) (rA + 1) (rA + 1),.int .i64 (rA : Nat)]) (rs:=#[.int .i64 0,.int .i64 0]) (Below.refl _ _)
 go_wp2_with fail
 have B3:=Lib.hid (after B2.out hb3)
 have TA3:=Lib.hid (tA.step hb3)
 have Y1:=Lib.hid X1
 have Y2:=Lib.hid X2
 have q2 : w2.heap.size + 1 < ((w2.alloc (.cells #[.slice (some ⟨gA,0,none⟩) (rA + 1) (rA + 1),.int .i64 (rA : Nat)] 47)).alloc (.cells #[.int .i64 0,.int .i64 0] 27)).heap.size:=by simp
 clear hb3 X1 X2 tA
 generalize ((w2.alloc (.cells #[.slice (some ⟨gA,0,none⟩) (rA + 1) (rA + 1),.int .i64 (rA : Nat)] 47)).alloc (.cells #[.int .i64 0,.int .i64 0] 27)) = w3 at *
 have Q2:=Lib.hid q2
 clear q2
 refine (PB.out _).mono ?_
 rintro e w4 ⟨hb4,gB,sB,cB,rfl,tB⟩
 have B4:=Lib.hid (after B3.out hb4)
 have TA4:=Lib.hid (TA3.out.step hb4)
 have X1:=Y1.out.keep hb4
 have X2:=Y2.out.keep hb4
 have q3 : w2.heap.size + 1 < w4.heap.size:=Nat.lt_of_lt_of_le Q2.out hb4.size
 clear hb4 Y1 Y2
 obtain ⟨hb5,X3,X4⟩:=new_two (w:=w4) (T:=47) (T':=27) (cs:=#[.slice (some ⟨gB,0,none⟩) (rB + 1) (rB + 1),.int .i64 (rB : Nat)]) (rs:=#[.int .i64 0,.int .i64 0]) (Below.refl _ _)
 have B5:=Lib.hid (after B4.out hb5)
 have TA5:=Lib.hid (TA4.out.step hb5)
 have TB5:=Lib.hid (tB.step hb5)
 have X1:=X1.keep hb5
 have X2:=X2.keep hb5
 have c2:=X2.cell 0
 have c4:=X4.cell 0
 have l2:=X2.lt
 have l4:=X4.lt
 simp only [List.getElem?_cons_zero,List.getElem?_cons_succ] at c2 c4
 have Y1:=Lib.hid X1
 have Y2:=Lib.hid X2
 have Y3:=Lib.hid X3
 have Y4:=Lib.hid X4
 clear hb5 X1 X2 X3 X4 tB TA3 TA4 B1 B2 B3 B4 Q2
 go_wp2_with fail
 have HH:=Lib.hid h64
 have HF:=Lib.hid hf
 have HL:=Lib.hid hl
 have PZ:=Lib.hid cZ
 have GZ:=Lib.hid pZ
 clear h64 hf hl cZ pZ
 refine (PZ.out _).mono ?_
 rintro e w6 ⟨hb6,gZ,sZ,kcZ,rfl,tZ⟩
 have B6:=Lib.hid (after B5.out hb6)
 obtain ⟨hb7,X5,X6⟩:=new_two (w:=w6) (T:=47) (T':=27) (cs:=#[.slice (some ⟨gZ,0,none⟩) (rZ + 1) (rZ + 1),.int .i64 (rZ : Nat)]) (rs:=#[.int .i64 0,.int .i64 0]) (Below.refl _ _)
 have B7:=Lib.hid (after B6.out hb7)
 have TA7:=Lib.hid ((TA5.out.step hb6).step hb7)
 have TB7:=Lib.hid ((TB5.out.step hb6).step hb7)
 have TZ7:=Lib.hid (tZ.step hb7)
 have X1:=(Y1.out.keep hb6).keep hb7
 have X3:=(Y3.out.keep hb6).keep hb7
 have a0:=X1.cell 0
 have a1:=X1.cell 1
 have b0:=X3.cell 0
 have b1:=X3.cell 1
 have d0:=X5.cell 0
 have d1:=X5.cell 1
 have f0:=X6.cell 0
 have la:=X1.lt
 have lb:=X3.lt
 have ld:=X5.lt
 have lf:=X6.lt
 simp only [List.getElem?_cons_zero,List.getElem?_cons_succ] at a0 a1 b0 b1 d0 d1 f0
 have Y1:=Lib.hid X1
 have Y3:=Lib.hid X3
 have Y5:=Lib.hid X5
 clear hb6 hb7 X1 X3 X5 X6 tZ Y2 Y4 TA5 TB5 B5 B6 c2 c4 l2 l4
 obtain ⟨n,hn⟩ : ∃ n,n = KA.length:=⟨_,rfl⟩
 obtain ⟨m,hm⟩ : ∃ m,m = KB.length:=⟨_,rfl⟩
 have tac:=TA7.out.cell
 have tbc:=TB7.out.cell
 have tzc:=TZ7.out.cell
 have tal:=TA7.out.lt
 have tbl:=TB7.out.lt
 have tzl:=TZ7.out.lt
 rw [HL.out] at tzc
 have hnm : n + m <= 64:=by rw [hn,hm];exact HH.out
 have HN:=Lib.hid hn
 have HM:=Lib.hid hm
 rw [<- hn] at tac tzc
 rw [<- hm] at tbc tzc
 clear hn hm
 have i1 : (0 : Int) <= (rA : Int):=by omega
 have i2 : (rA : Int) < ((rA + 1 : Nat) : Int):=by omega
 have i3 : (0 : Int) <= (rB : Int):=by omega
 have i4 : (rB : Int) < ((rB + 1 : Nat) : Int):=by omega
 have i5 : (0 : Int) <= (rZ : Int):=by omega
 have i6 : (rZ : Int) < ((rZ + 1 : Nat) : Int):=by omega
 have i7 : (rA : Int) < (rA : Int) + 1:=by omega
 have i8 : (rB : Int) < (rB : Int) + 1:=by omega
 go_wp2_with fail
 go_region
 go_wp2_with fail
 generalize ((w6.alloc (.cells #[.slice (some ⟨gZ,0,none⟩) (rZ + 1) (rZ + 1),.int .i64 (rZ : Nat)] 47)).alloc (.cells #[.int .i64 0,.int .i64 0] 27)) = W7 at *
 generalize w2.heap.size = xA at *
 generalize w4.heap.size = xB at *
 generalize w6.heap.size = xZ at *
 clear a0 a1 b0 b1 d0 d1 f0 la lb ld lf tac tbc tzc tal tbl tzl PA PB PZ
 go_loopg [107] (n + m) (fun k iv wr=>∃ i : Nat,iv = .int .i64 (i : Nat) /\ i + k = n + m /\ Below W7.heap.size W7 wr)
 case atStart=>exact ⟨0,rfl,by omega,(Below.refl _ _).drew⟩
 case round =>
  obtain ⟨i,rfl,hik,hbr⟩:=hrel
  have BR:=Lib.hid hbr
  have TZr:=Lib.hid (TZ7.out.step hbr)
  have YZr:=Lib.hid (Y5.out.keep hbr)
  clear hbr
  cases gk with
  | zero =>
   have hd : decide ((i : Int) < (n : Int) + (m : Int)) = false:=decide_eq_false (by omega)
   have hd2 : ¬ (i : Int) < (n : Int) + (m : Int):=by omega
   have hd3 : ¬ i < n + m:=by omega
   have hd4 : decide (i < n + m) = false:=decide_eq_false hd3
   have hd5 : ¬ (i : Int) < ((n + m : Nat) : Int):=by omega
   go_wp2_with fail
   go_ret
   exact ⟨rfl,after B7.out BR.out⟩
  | succ gk =>
   have hd : decide ((i : Int) < (n : Int) + (m : Int)) = true:=decide_eq_true (by omega)
   have hd2 : (i : Int) < (n : Int) + (m : Int):=by omega
   have hd3 : decide (i < n + m) = true:=decide_eq_true (by omega)
   have hd5 : (i : Int) < ((n + m : Nat) : Int):=by omega
   have j0 : (0 : Int) <= (i : Int):=by omega
   have j3 : IntKind.i64.wrap ((i : Int) + 1) = (i : Int) + 1:=IntWalk.i64_in _ ⟨by omega,by omega⟩
   have hiZ : i < KZ.length:=by rw [HL.out,<- HN.out,<- HM.out];omega
   obtain ⟨vZ,offZ,rfl,hvZ,hcZ⟩:=TZr.out.kids (by rw [List.length_map];omega)
   have cz:=hcZ i (by rw [List.length_map];omega)
   clear hcZ
   rw [List.getElem_map] at cz
   have hkz : KZ[i]? = some KZ[i]:=List.getElem?_eq_getElem hiZ
   generalize KZ[i] = kz at *
   have cz : wr.cell? ⟨vZ,offZ + i,none⟩ = some (.int .i64 (kz : Nat)):=cz
   have HTr:=Lib.hid ((HT.out.step B7.out).step BR.out)
   have TAr:=Lib.hid (TA7.out.step BR.out)
   have TBr:=Lib.hid (TB7.out.step BR.out)
   have YAr:=Lib.hid (Y1.out.keep BR.out)
   have YBr:=Lib.hid (Y3.out.keep BR.out)
   by_cases hin : i < n
   ·have e1 : decide ((i : Int) < (n : Int)) = true:=decide_eq_true (by omega)
    have e2 : (i : Int) < (n : Int):=by omega
    have e3 : decide (i < n) = true:=decide_eq_true hin
    have hiX : i < KA.length:=by rw [<- HN.out];exact hin
    obtain ⟨vA,offA,rfl,hvA,hcA⟩:=TAr.out.kids (by rw [List.length_map];omega)
    have cx:=hcA i (by rw [List.length_map];omega)
    clear hcA
    rw [List.getElem_map] at cx
    have hkx : KA[i]? = some KA[i]:=List.getElem?_eq_getElem hiX
    generalize KA[i] = kx at *
    have cx : wr.cell? ⟨vA,offA + i,none⟩ = some (.int .i64 (kx : Nat)):=cx
    have feq:=(HF.out i kz hkz).1 kx hkx
    have FX:=Lib.hid (fun (W' : World) (h : Below wr.heap.size wr W')=>form_tre (TAr.out.step h) GA.out (HTr.out.step h) kx)
    have FZ:=Lib.hid (fun (W' : World) (h : Below wr.heap.size wr W')=>form_tre (TZr.out.step h) GZ.out (HTr.out.step h) kz)
    rw [feq] at FZ
    generalize FormS goPen RA (rA : Nat) (kx : Nat) = fx at *
    have tac:=TAr.out.cell
    rw [<- HN.out] at tac
    have KEEP : Hid (∀ W',Below wr.heap.size wr W' -> W'.cell? ⟨xA,0,none⟩ = some (.slice (some ⟨gA,0,none⟩) (rA + 1) (rA + 1)) /\ W'.cell? ⟨xA,1,none⟩ = some (.int .i64 (rA : Nat)) /\ W'.cell? ⟨gA,rA * 13 + 3,none⟩ = some (.slice (some ⟨vA,offA,none⟩) n cA) /\ W'.cell? ⟨vA,offA + i,none⟩ = some (.int .i64 (kx : Nat)) /\ Below wr.heap.size wr W'):=Lib.hid (fun W' h=>by
     have q:=YAr.out.keep h
     exact ⟨q.cell 0,q.cell 1,keep h TAr.out.lt tac,keep h hvA cx,h⟩)
    have xl:=YAr.out.lt
    clear feq hkx hkz tac
    go_wp2_with fail
    go_region_held3 (fun W'=>W'.cell? ⟨xA,0,none⟩ = some (.slice (some ⟨gA,0,none⟩) (rA + 1) (rA + 1)) /\ W'.cell? ⟨xA,1,none⟩ = some (.int .i64 (rA : Nat)) /\ W'.cell? ⟨gA,rA * 13 + 3,none⟩ = some (.slice (some ⟨vA,offA,none⟩) n cA) /\ W'.cell? ⟨vA,offA + i,none⟩ = some (.int .i64 (kx : Nat)) /\ Below wr.heap.size wr W') (first | exact KEEP.out _ (Below.refl _ _) | exact KEEP.out _ (Below.refl _ _).drew | exact KEEP.out _ (after (by assumption) hb9)) (first | (go_at_call 23;go_split_ands;refine (FX.out _ (by assumption)).mono ?_;rintro e w9 ⟨rfl,hb9⟩))
    all_goals go_split_ands
    all_goals
     have hbz : Below wr.heap.size wr w9:=by assumption
     have y0:=(YZr.out.keep hbz).cell 0
     have y1:=(YZr.out.keep hbz).cell 1
     have yl:=(YZr.out.keep hbz).lt
     simp only [List.getElem?_cons_zero,List.getElem?_cons_succ] at y0 y1
     have BQ:=Lib.hid hbz
     clear hb9
     go_wp2_with fail
     refine (FZ.out _ BQ.out).mono ?_
     rintro e w10 ⟨rfl,hb10⟩
     have BT:=Lib.hid (BR.out.trans ((after BQ.out hb10).mono BR.out.size))
     clear hbz hb10 y0 y1
     go_wp2_with fail
     go_roundg gk
     case measure=>omega
     case rel=>exact ⟨i + 1,rfl,by omega,BT.out⟩
   ·have e1 : decide ((i : Int) < (n : Int)) = false:=decide_eq_false (by omega)
    have e2 : ¬ (i : Int) < (n : Int):=by omega
    have e3 : decide (i < n) = false:=decide_eq_false hin
    obtain ⟨ib,hib⟩ : ∃ ib,ib = i - n:=⟨_,rfl⟩
    have hib2 : i - n = ib:=hib.symm
    have q1 : IntKind.i64.wrap ((i : Int) - (n : Int)) = (ib : Nat):=by rw [IntWalk.i64_in _ ⟨by omega,by omega⟩];omega
    have q6 : (i : Int) - (n : Int) = (ib : Nat):=by omega
    have q7 : IntKind.i64.wrap (ib : Nat) = (ib : Nat):=IntWalk.i64_in _ ⟨by omega,by omega⟩
    have q4 : (0 : Int) <= (ib : Int):=by omega
    have q5 : (ib : Int) < (m : Int):=by omega
    have hiX : ib < KB.length:=by rw [<- HM.out];omega
    obtain ⟨vB,offB,rfl,hvB,hcB⟩:=TBr.out.kids (by rw [List.length_map];omega)
    have cx:=hcB ib (by rw [List.length_map];omega)
    clear hcB
    rw [List.getElem_map] at cx
    have hkx : KB[ib]? = some KB[ib]:=List.getElem?_eq_getElem hiX
    generalize KB[ib] = kx at *
    have cx : wr.cell? ⟨vB,offB + ib,none⟩ = some (.int .i64 (kx : Nat)):=cx
    have feq:=(HF.out i kz hkz).2 kx (by rw [<- HN.out];omega) (by rw [<- HN.out,hib2];exact hkx)
    have FX:=Lib.hid (fun (W' : World) (h : Below wr.heap.size wr W')=>form_tre (TBr.out.step h) GB.out (HTr.out.step h) kx)
    have FZ:=Lib.hid (fun (W' : World) (h : Below wr.heap.size wr W')=>form_tre (TZr.out.step h) GZ.out (HTr.out.step h) kz)
    rw [feq] at FZ
    generalize FormS goPen RB (rB : Nat) (kx : Nat) = fx at *
    have tac:=TBr.out.cell
    rw [<- HM.out] at tac
    have KEEP : Hid (∀ W',Below wr.heap.size wr W' -> W'.cell? ⟨xB,0,none⟩ = some (.slice (some ⟨gB,0,none⟩) (rB + 1) (rB + 1)) /\ W'.cell? ⟨xB,1,none⟩ = some (.int .i64 (rB : Nat)) /\ W'.cell? ⟨gB,rB * 13 + 3,none⟩ = some (.slice (some ⟨vB,offB,none⟩) m cB) /\ W'.cell? ⟨vB,offB + ib,none⟩ = some (.int .i64 (kx : Nat)) /\ Below wr.heap.size wr W'):=Lib.hid (fun W' h=>by
     have q:=YBr.out.keep h
     exact ⟨q.cell 0,q.cell 1,keep h TBr.out.lt tac,keep h hvB cx,h⟩)
    have xl:=YBr.out.lt
    clear feq hkx hkz tac hib hib2 q6 q7 hiX
    go_wp2_with fail
    go_region_held3 (fun W'=>W'.cell? ⟨xB,0,none⟩ = some (.slice (some ⟨gB,0,none⟩) (rB + 1) (rB + 1)) /\ W'.cell? ⟨xB,1,none⟩ = some (.int .i64 (rB : Nat)) /\ W'.cell? ⟨gB,rB * 13 + 3,none⟩ = some (.slice (some ⟨vB,offB,none⟩) m cB) /\ W'.cell? ⟨vB,offB + ib,none⟩ = some (.int .i64 (kx : Nat)) /\ Below wr.heap.size wr W') (first | exact KEEP.out _ (Below.refl _ _) | exact KEEP.out _ (Below.refl _ _).drew | exact KEEP.out _ (after (by assumption) hb9)) (first | (go_at_call 23;go_split_ands;refine (FX.out _ (by assumption)).mono ?_;rintro e w9 ⟨rfl,hb9⟩))
    all_goals go_split_ands
    all_goals
     have hbz : Below wr.heap.size wr w9:=by assumption
     have y0:=(YZr.out.keep hbz).cell 0
     have y1:=(YZr.out.keep hbz).cell 1
     have yl:=(YZr.out.keep hbz).lt
     simp only [List.getElem?_cons_zero,List.getElem?_cons_succ] at y0 y1
     have BQ:=Lib.hid hbz
     clear hb9
     go_wp2_with fail
     refine (FZ.out _ BQ.out).mono ?_
     rintro e w10 ⟨rfl,hb10⟩
     have BT:=Lib.hid (BR.out.trans ((after BQ.out hb10).mono BR.out.size))
     clear hbz hb10 y0 y1
     go_wp2_with fail
     go_roundg gk
     case measure=>omega
     case rel=>exact ⟨i + 1,rfl,by omega,BT.out⟩
def CPar (x : ByteArray) (c : Nat) : Prop:=∀ w : World,Calls Tryz.prog 14 #[.string x] w fun e w'=>Below w.heap.size w w' /\ ∃ s l k r y,e = .returned (.tuple #[.agg #[.slice s l k,.int .i64 r],.agg #[.int .i64 (c : Nat),.int .i64 y]])
theorem whole_many (a b : ByteArray) (hsa : a.size <= 1500) (hsb : b.size <= 1500) {RA RB : List Nd} {rA rB : Nat} {KA KB : List Nat} (pA : Prg RA rA KA) (pB : Prg RB rB KB) (cA : CTre a RA rA KA) (cB : CTre b RB rB KB) {c : Nat} {y : Int} (hc : c = 2) (cZ : ∀ w : World,Calls Tryz.prog 14 #[.string (a ++ (⟨#[10]⟩ : ByteArray) ++ b)] w fun e w'=>Below w.heap.size w w' /\ e = .returned (.tuple #[.agg #[.slice none 0 0,.int .i64 0],.agg #[.int .i64 (c : Nat),.int .i64 y]])) (h64 : 64 < KA.length + KB.length) (w : World) (hT : Tabs w) : Calls Tryz.prog 8 #[.string a,.string b] w fun e w'=>e = .returned (.bool true) /\ Below w.heap.size w w':=by
 have HR:=Lib.hid (reads_any w hT)
 have HT:=Lib.hid hT
 have PA:=Lib.hid cA
 have PB:=Lib.hid cB
 have GA:=Lib.hid pA
 have GB:=Lib.hid pB
 have s1 : ¬ (1500 : Int) < (a.size : Int):=by omega
 have s2 : ¬ 1500 < a.size:=by omega
 have s3 : decide ((1500 : Int) < (a.size : Int)) = false:=decide_eq_false s1
 have s4 : decide (1500 < a.size) = false:=decide_eq_false s2
 have t1 : ¬ (1500 : Int) < (b.size : Int):=by omega
 have t2 : ¬ 1500 < b.size:=by omega
 have t3 : decide ((1500 : Int) < (b.size : Int)) = false:=decide_eq_false t1
 have t4 : decide (1500 < b.size) = false:=decide_eq_false t2
 have z1 : ¬ 9223372036854775807 < a.size + 1:=by omega
 have z2 : ¬ 9223372036854775807 < a.size + 1 + b.size:=by omega
 clear hT cA cB pA pB hsa hsb
 go_enter Tryz.func8,Tryz.ntmps8
 go_wp2_with fail
 refine HR.out.mono ?_
 rintro e w1 ⟨rfl,hb1⟩
 have B1:=Lib.hid hb1
 clear hb1 HR
 go_wp2_with fail
 refine (PA.out _).mono ?_
 rintro e w2 ⟨hb2,gA,sA,cA,rfl,tA⟩
 have B2:=Lib.hid (after B1.out hb2)
 clear hb2
 obtain ⟨hb3,X1,X2⟩:=new_two (w:=w2) (T:=47) (T':=27) (cs:=#[.slice (some ⟨gA,0,none⟩) (rA + 1) (rA + 1),.int .i64 (rA : Nat)]) (rs:=#[.int .i64 0,.int .i64 0]) (Below.refl _ _)
 go_wp2_with fail
 have B3:=Lib.hid (after B2.out hb3)
 have TA3:=Lib.hid (tA.step hb3)
 have Y1:=Lib.hid X1
 have Y2:=Lib.hid X2
 have q2 : w2.heap.size + 1 < ((w2.alloc (.cells #[.slice (some ⟨gA,0,none⟩) (rA + 1) (rA + 1),.int .i64 (rA : Nat)] 47)).alloc (.cells #[.int .i64 0,.int .i64 0] 27)).heap.size:=by simp
 clear hb3 X1 X2 tA
 generalize ((w2.alloc (.cells #[.slice (some ⟨gA,0,none⟩) (rA + 1) (rA + 1),.int .i64 (rA : Nat)] 47)).alloc (.cells #[.int .i64 0,.int .i64 0] 27)) = w3 at *
 have Q2:=Lib.hid q2
 clear q2
 refine (PB.out _).mono ?_
 rintro e w4 ⟨hb4,gB,sB,cB,rfl,tB⟩
 have B4:=Lib.hid (after B3.out hb4)
 have TA4:=Lib.hid (TA3.out.step hb4)
 have X1:=Y1.out.keep hb4
 have X2:=Y2.out.keep hb4
 have q3 : w2.heap.size + 1 < w4.heap.size:=Nat.lt_of_lt_of_le Q2.out hb4.size
 clear hb4 Y1 Y2
 obtain ⟨hb5,X3,X4⟩:=new_two (w:=w4) (T:=47) (T':=27) (cs:=#[.slice (some ⟨gB,0,none⟩) (rB + 1) (rB + 1),.int .i64 (rB : Nat)]) (rs:=#[.int .i64 0,.int .i64 0]) (Below.refl _ _)
 have B5:=Lib.hid (after B4.out hb5)
 have TA5:=Lib.hid (TA4.out.step hb5)
 have TB5:=Lib.hid (tB.step hb5)
 have X1:=X1.keep hb5
 have X2:=X2.keep hb5
 have c2:=X2.cell 0
 have c4:=X4.cell 0
 have l2:=X2.lt
 have l4:=X4.lt
 simp only [List.getElem?_cons_zero,List.getElem?_cons_succ] at c2 c4
 have Y1:=Lib.hid X1
 have Y2:=Lib.hid X2
 have Y3:=Lib.hid X3
 have Y4:=Lib.hid X4
 clear hb5 X1 X2 X3 X4 tB TA3 TA4 B1 B2 B3 B4 Q2
 go_wp2_with fail
 have HH:=Lib.hid h64
 have PZ:=Lib.hid cZ
 have HC:=Lib.hid hc
 clear h64 cZ hc
 refine (PZ.out _).mono ?_
 rintro e w6 ⟨hb6,rfl⟩
 have B6:=Lib.hid (after B5.out hb6)
 obtain ⟨hb7,X5,X6⟩:=new_two (w:=w6) (T:=47) (T':=27) (cs:=#[.slice none 0 0,.int .i64 0]) (rs:=#[.int .i64 (c : Nat),.int .i64 y]) (Below.refl _ _)
 have B7:=Lib.hid (after B6.out hb7)
 have TA7:=Lib.hid ((TA5.out.step hb6).step hb7)
 have TB7:=Lib.hid ((TB5.out.step hb6).step hb7)
 have X1:=(Y1.out.keep hb6).keep hb7
 have X3:=(Y3.out.keep hb6).keep hb7
 have a0:=X1.cell 0
 have a1:=X1.cell 1
 have b0:=X3.cell 0
 have b1:=X3.cell 1
 have f0:=X6.cell 0
 have la:=X1.lt
 have lb:=X3.lt
 have lf:=X6.lt
 simp only [List.getElem?_cons_zero,List.getElem?_cons_succ] at a0 a1 b0 b1 f0
 clear hb6 hb7 X1 X3 X5 X6 Y1 Y2 Y3 Y4 TA5 TB5 B5 B6 c2 c4 l2 l4
 obtain ⟨n,hn⟩ : ∃ n,n = KA.length:=⟨_,rfl⟩
 obtain ⟨m,hm⟩ : ∃ m,m = KB.length:=⟨_,rfl⟩
 have tac:=TA7.out.cell
 have tbc:=TB7.out.cell
 have tal:=TA7.out.lt
 have tbl:=TB7.out.lt
 have hnm : 64 < n + m:=by rw [hn,hm];exact HH.out
 have mA : n <= 8191:=by rw [hn];exact GA.out.few
 have mB : m <= 8191:=by rw [hm];exact GB.out.few
 rw [<- hn] at tac
 rw [<- hm] at tbc
 have e1 : ((c : Int) == 2) = true:=by rw [HC.out];rfl
 have e2 : decide ((c : Int) = 2) = true:=by rw [HC.out];rfl
 have e3 : decide (c = 2) = true:=by rw [HC.out];rfl
 have e4 : (c == 2) = true:=by rw [HC.out];rfl
 clear hn hm
 have i1 : (0 : Int) <= (rA : Int):=by omega
 have i2 : (rA : Int) < ((rA + 1 : Nat) : Int):=by omega
 have i3 : (0 : Int) <= (rB : Int):=by omega
 have i4 : (rB : Int) < ((rB + 1 : Nat) : Int):=by omega
 have i7 : (rA : Int) < (rA : Int) + 1:=by omega
 have i8 : (rB : Int) < (rB : Int) + 1:=by omega
 go_wp2_with fail
 go_region
 go_wp2_with fail
 go_ret
 exact ⟨rfl,B7.out.drew⟩
theorem whole_bad1 (a b : ByteArray) (hsa : a.size <= 1500) (hsb : b.size <= 1500) {ca cb : Nat} (c1 : ca ≠ 0) (cA : CPar a ca) (cB : CPar b cb) (w : World) (hT : Tabs w) : Calls Tryz.prog 8 #[.string a,.string b] w fun e w'=>e = .returned (.bool true) /\ Below w.heap.size w w':=by
 have HR:=Lib.hid (reads_any w hT)
 have PA:=Lib.hid cA
 have PB:=Lib.hid cB
 have s1 : ¬ (1500 : Int) < (a.size : Int):=by omega
 have s2 : ¬ 1500 < a.size:=by omega
 have s3 : decide ((1500 : Int) < (a.size : Int)) = false:=decide_eq_false s1
 have s4 : decide (1500 < a.size) = false:=decide_eq_false s2
 have t1 : ¬ (1500 : Int) < (b.size : Int):=by omega
 have t2 : ¬ 1500 < b.size:=by omega
 have t3 : decide ((1500 : Int) < (b.size : Int)) = false:=decide_eq_false t1
 have t4 : decide (1500 < b.size) = false:=decide_eq_false t2
 have e1 : ((ca : Int) != 0) = true:=by simp;omega
 have e2 : decide ((ca : Int) = 0) = false:=decide_eq_false (by omega)
 have e3 : ¬ (ca : Int) = 0:=by omega
 have e4 : ((ca : Int) == 0) = false:=by simp;omega
 clear hT cA cB hsa hsb c1
 go_enter Tryz.func8,Tryz.ntmps8
 go_wp2_with fail
 refine HR.out.mono ?_
 rintro e w1 ⟨rfl,hb1⟩
 have B1:=Lib.hid hb1
 clear hb1 HR
 go_wp2_with fail
 refine (PA.out _).mono ?_
 rintro e w2 ⟨hb2,sA,lA,kA,rA,yA,rfl⟩
 have B2:=Lib.hid (after B1.out hb2)
 clear hb2
 obtain ⟨hb3,X1,X2⟩:=new_two (w:=w2) (T:=47) (T':=27) (cs:=#[.slice sA lA kA,.int .i64 rA]) (rs:=#[.int .i64 (ca : Nat),.int .i64 yA]) (Below.refl _ _)
 go_wp2_with fail
 have B3:=Lib.hid (after B2.out hb3)
 have Y2:=Lib.hid X2
 clear hb3 X1 X2
 generalize ((w2.alloc (.cells #[.slice sA lA kA,.int .i64 rA] 47)).alloc (.cells #[.int .i64 (ca : Nat),.int .i64 yA] 27)) = w3 at *
 refine (PB.out _).mono ?_
 rintro e w4 ⟨hb4,sB,lB,kB,rB,yB,rfl⟩
 have B4:=Lib.hid (after B3.out hb4)
 obtain ⟨hb5,X3,X4⟩:=new_two (w:=w4) (T:=47) (T':=27) (cs:=#[.slice sB lB kB,.int .i64 rB]) (rs:=#[.int .i64 (cb : Nat),.int .i64 yB]) (Below.refl _ _)
 have B5:=Lib.hid (after B4.out hb5)
 have X2:=(Y2.out.keep hb4).keep hb5
 have c2:=X2.cell 0
 have c4:=X4.cell 0
 have l2:=X2.lt
 have l4:=X4.lt
 simp only [List.getElem?_cons_zero,List.getElem?_cons_succ] at c2 c4
 clear hb4 hb5 X2 X3 X4
 go_wp2_with fail
 go_ret
 exact ⟨rfl,B5.out⟩
theorem whole_bad2 (a b : ByteArray) (hsa : a.size <= 1500) (hsb : b.size <= 1500) {ca cb : Nat} (c1 : ca = 0) (c2 : cb ≠ 0) (cA : CPar a ca) (cB : CPar b cb) (w : World) (hT : Tabs w) : Calls Tryz.prog 8 #[.string a,.string b] w fun e w'=>e = .returned (.bool true) /\ Below w.heap.size w w':=by
 have HR:=Lib.hid (reads_any w hT)
 have PA:=Lib.hid cA
 have PB:=Lib.hid cB
 have s1 : ¬ (1500 : Int) < (a.size : Int):=by omega
 have s2 : ¬ 1500 < a.size:=by omega
 have s3 : decide ((1500 : Int) < (a.size : Int)) = false:=decide_eq_false s1
 have s4 : decide (1500 < a.size) = false:=decide_eq_false s2
 have t1 : ¬ (1500 : Int) < (b.size : Int):=by omega
 have t2 : ¬ 1500 < b.size:=by omega
 have t3 : decide ((1500 : Int) < (b.size : Int)) = false:=decide_eq_false t1
 have t4 : decide (1500 < b.size) = false:=decide_eq_false t2
 subst c1
 have e1 : ((cb : Int) != 0) = true:=by simp;omega
 have e2 : decide ((cb : Int) = 0) = false:=decide_eq_false (by omega)
 have e3 : ¬ (cb : Int) = 0:=by omega
 have e4 : ((cb : Int) == 0) = false:=by simp;omega
 clear hT cA cB hsa hsb c2
 go_enter Tryz.func8,Tryz.ntmps8
 go_wp2_with fail
 refine HR.out.mono ?_
 rintro e w1 ⟨rfl,hb1⟩
 have B1:=Lib.hid hb1
 clear hb1 HR
 go_wp2_with fail
 refine (PA.out _).mono ?_
 rintro e w2 ⟨hb2,sA,lA,kA,rA,yA,rfl⟩
 have B2:=Lib.hid (after B1.out hb2)
 clear hb2
 obtain ⟨hb3,X1,X2⟩:=new_two (w:=w2) (T:=47) (T':=27) (cs:=#[.slice sA lA kA,.int .i64 rA]) (rs:=#[.int .i64 ((0 : Nat) : Int),.int .i64 yA]) (Below.refl _ _)
 go_wp2_with fail
 have B3:=Lib.hid (after B2.out hb3)
 have Y2:=Lib.hid X2
 clear hb3 X1 X2
 generalize ((w2.alloc (.cells #[.slice sA lA kA,.int .i64 rA] 47)).alloc (.cells #[.int .i64 ((0 : Nat) : Int),.int .i64 yA] 27)) = w3 at *
 refine (PB.out _).mono ?_
 rintro e w4 ⟨hb4,sB,lB,kB,rB,yB,rfl⟩
 have B4:=Lib.hid (after B3.out hb4)
 obtain ⟨hb5,X3,X4⟩:=new_two (w:=w4) (T:=47) (T':=27) (cs:=#[.slice sB lB kB,.int .i64 rB]) (rs:=#[.int .i64 (cb : Nat),.int .i64 yB]) (Below.refl _ _)
 have B5:=Lib.hid (after B4.out hb5)
 have X2:=(Y2.out.keep hb4).keep hb5
 have c2:=X2.cell 0
 have c4:=X4.cell 0
 have l2:=X2.lt
 have l4:=X4.lt
 simp only [List.getElem?_cons_zero,List.getElem?_cons_succ] at c2 c4
 clear hb4 hb5 X2 X3 X4
 go_wp2_with fail
 go_ret
 exact ⟨rfl,B5.out⟩
theorem whole_out (a b : ByteArray) (w : World) (hT : Tabs w) (hs : 1500 < a.size \/ 1500 < b.size) : Calls Tryz.prog 8 #[.string a,.string b] w fun e w'=>e = .returned (.bool true) /\ Below w.heap.size w w':=by
 have HR:=Lib.hid (reads_any w hT)
 clear hT
 by_cases s2 : 1500 < a.size
 ·have s1 : (1500 : Int) < (a.size : Int):=by omega
  have s3 : decide ((1500 : Int) < (a.size : Int)) = true:=decide_eq_true s1
  have s4 : decide (1500 < a.size) = true:=decide_eq_true s2
  clear hs
  go_enter Tryz.func8,Tryz.ntmps8
  go_wp2_with fail
  refine HR.out.mono ?_
  rintro e w1 ⟨rfl,hb1⟩
  have B1:=Lib.hid hb1
  clear hb1
  go_wp2_with fail
  go_ret
  exact ⟨rfl,B1.out⟩
 ·have s1 : ¬ (1500 : Int) < (a.size : Int):=by omega
  have s3 : decide ((1500 : Int) < (a.size : Int)) = false:=decide_eq_false s1
  have s4 : decide (1500 < a.size) = false:=decide_eq_false s2
  have g1 : (1500 : Int) < (b.size : Int):=by omega
  have g2 : 1500 < b.size:=by omega
  have g3 : decide ((1500 : Int) < (b.size : Int)) = true:=decide_eq_true g1
  have g4 : decide (1500 < b.size) = true:=decide_eq_true g2
  clear hs
  go_enter Tryz.func8,Tryz.ntmps8
  go_wp2_with fail
  refine HR.out.mono ?_
  rintro e w1 ⟨rfl,hb1⟩
  have B1:=Lib.hid hb1
  clear hb1
  go_wp2_with fail
  go_ret
  exact ⟨rfl,B1.out⟩
theorem cseq_ok {C : PC} {i j : Nat} {u : Fo} (hS : Sz C) (h : CSeq C i j u) : Ok u:=by
 induction h with
 | fin=>exact trivial
 | more hk h g ih=>exact (class_ok hS h).1.app ih
theorem cpar_any (x : ByteArray) (hm : x.size <= maxLen) : CPar x (parsedX x).2.1:=by
 intro w
 by_cases h : (parsedX x).2.1 = 0
 ·obtain ⟨u,j,hc⟩:=cls_of h
  refine (parse_yes x w hm (by rw [hc.is])).mono ?_
  rintro e w' ⟨hb,s,c,rfl,-,-⟩
  rw [h]
  exact ⟨hb,_,_,_,_,_,rfl⟩
 ·refine (parse_no x w hm (c:=(parsedX x).2.1) (z:=(parsedX x).2.2) rfl h).mono ?_
  rintro e w' ⟨hb,rfl⟩
  exact ⟨hb,_,_,_,_,_,rfl⟩
theorem whole_any (a : ByteArray) (ha : a.size <= maxLen) (b : ByteArray) (hb : b.size <= maxLen) (w : World) (hT : Tabs w) : Calls Tryz.prog 8 #[.string a,.string b] w fun e w'=>e = .returned (.bool true) /\ Below w.heap.size w w':=by
 by_cases h : 1500 < a.size \/ 1500 < b.size
 ·exact whole_out a b w hT h
 ·have sa : a.size <= 1500:=by omega
  have sb : b.size <= 1500:=by omega
  by_cases ca : (parsedX a).2.1 = 0
  ·by_cases cb : (parsedX b).2.1 = 0
   ·obtain ⟨ua,ja,ka⟩:=cls_of ca
    obtain ⟨ub,jb,kb⟩:=cls_of cb
    obtain ⟨z,hz⟩ : ∃ z,z = a ++ (⟨#[10]⟩ : ByteArray) ++ b:=⟨_,rfl⟩
    have zs : z.size = a.size + 1 + b.size:=by rw [hz,ByteArray.size_append,ByteArray.size_append];rfl
    have zm : z.size <= maxLen:=by unfold maxLen;omega
    have oa:=cseq_ok (pc_sz ka.code) ka.seq
    have ob:=cseq_ok (pc_sz kb.code) kb.seq
    have qa:=ka.small
    have qb:=kb.small
    obtain ⟨p1,p2⟩:=both_parsed ka kb hz ⟨sa,sb⟩
    have la:=Fo.idx_len ua 0
    have lb:=Fo.idx_len ub 0
    by_cases h64 : ua.len + ub.len <= 64
    ·obtain ⟨hc,wa,wb,hfin⟩:=both_toks ka kb hz ⟨sa,sb⟩
     have s1 : CSeq (pcOf z) 0 ja (ua.shift 0):=cseq_shift ka.seq _ _ wa
     have s2:=cseq_shift kb.seq _ _ wb
     rw [Nat.zero_add] at s2
     have oz:=cseq_ok (pc_sz hc) (cseq_app s1 s2)
     have es : ((ua.shift 0).app (ub.shift ja)).size = ua.size + ub.size:=by rw [Fo.app_size,Fo.shift_size,Fo.shift_size]
     have el : ((ua.shift 0).app (ub.shift ja)).len = ua.len + ub.len:=by rw [Fo.app_len,Fo.shift_len,Fo.shift_len]
     have lz:=Fo.idx_len ((ua.shift 0).app (ub.shift ja)) 0
     have cz : CTre z _ _ _:=fun w2=>parse_tre zm (p1 h64) w2
     rw [hz] at cz
     refine whole_core a b sa sb (prg_of (C:=pcOf a) (j:=ja) oa (by omega)) (prg_of (C:=pcOf b) (j:=jb) ob (by omega)) (fun w2=>parse_tre ha ka.is w2) (fun w2=>parse_tre hb kb.is w2) (prg_of oz (by omega)) cz (by rw [la,lb,lz,el]) (by rw [la,lb];exact h64) ?_ w hT
     intro i kz hkz
     have hf:=whole_forms (A:=pcOf a) (B:=pcOf b) (Z:=pcOf (a ++ (⟨#[10]⟩ : ByteArray) ++ b)) (j1:=ja) (j2:=jb) (j3:=jb + ja) oa ob oz (by omega) i kz hkz
     refine ⟨hf.1,fun ky h1 h2=>?_⟩
     rw [la] at h1 h2
     exact hf.2 ky h1 h2
    ·obtain ⟨y,e⟩:=p2 (by omega)
     refine whole_many a b sa sb (prg_of (C:=pcOf a) (j:=ja) oa (by omega)) (prg_of (C:=pcOf b) (j:=jb) ob (by omega)) (fun w2=>parse_tre ha ka.is w2) (fun w2=>parse_tre hb kb.is w2) (c:=2) (y:=y) rfl (fun w2=>?_) (by rw [la,lb];omega) w hT
     rw [<- hz]
     exact parse_no z w2 zm (c:=2) (z:=y) (by rw [e]) (by decide)
   ·exact whole_bad2 a b sa sb ca cb (cpar_any a ha) (cpar_any b hb) w hT
  ·exact whole_bad1 a b sa sb ca (cpar_any a ha) (cpar_any b hb) w hT
end Go.Proofs.YtcllbfijhgiclaaGreatDoor.G
namespace Go.Proofs.YtcllbfijhgiclaaGreatDoor
open Go.ChangeShapes Go.WideShapes Go.ChangeAt Go.RowKit
open Go.ChangeMaps (open_string shut_string)
theorem parseWhole_contract (H : Type) (enc : TypeId × Value -> H) (W : World) (base : Nat) (args : Array Value) (ds gs : List (DataW H)) (before : List MemPlace)
  (hval0 : ∀ (j : Nat) t v,Tryz.f8.params[j]? = some t -> args[j]? = some v -> Value.okWide Tryz.prog W .any base t v)
  (hW : DataW.Whole enc Tryz.prog Tryz.f8.params.toList Rows.parseWholeSpec.vars false W args.toList ds gs before) (hL : laidMetH Tryz.prog Rows.parseWholeRow.laid W) :
  Calls Tryz.prog 8 args W fun e W'=>∃ v,e = .returned v /\ Rows.parseWholeSpec.post enc Tryz.prog Tryz.f8 false true false false W args v W':=by
 have hval : ∀ (j : Nat) t v,Tryz.f8.params[j]? = some t -> args[j]? = some v -> Value.okWide Tryz.prog W .any base t v:=hval0
 have hW':=hW
 obtain ⟨p,q,hA0,hV,rfl,hfz,hnd⟩:=hW
 have hA : DataW.TrodAll enc Tryz.prog W 0 (fun _=>true) true Tryz.f8.params.toList args.toList ds p:=hA0
 rw [Tryz.params8] at hA hval
 obtain ⟨v0,vs0,d0,ds0,p0,q0,hargs,rfl,rfl,h0,r0⟩:=trodAll_cons hA
 obtain ⟨v1,vs1,d1,ds1,p1,q1,rfl,rfl,rfl,h1,r1⟩:=trodAll_cons r0
 obtain ⟨rfl,rfl,rfl⟩:=trodAll_nil r1
 obtain rfl : args = #[v0,v1]:=by cases args;simp_all
 obtain ⟨rfl,rfl⟩:=trodVars_none hV
 obtain ⟨a0,rfl,rfl,rfl,w0⟩:=open_string Tryz.underlying9 (hval 0 9 v0 rfl rfl) h0
 obtain ⟨a1,rfl,rfl,rfl,w1⟩:=open_string Tryz.underlying9 (hval 1 9 v1 rfl rfl) h1
 clear hA0 hval0
 refine (G.whole_any a0 w0 a1 w1 W (tabs_of (by rw [MakeChecks.laidMetH_plain _ _ _ (by kernel_rfl)] at hL;exact hL))).mono fun e W' ⟨he,bel⟩=>?_
 subst he
 exact ⟨_,rfl,_,_,_,[],_,[],hW',trodAll_mk1 (shut_bool Tryz.underlying4 _),(trodAll_cons_mk (shut_string Tryz.underlying9 w0) (trodAll_cons_mk (shut_string Tryz.underlying9 w1) trodAll_mk0)),rfl,bel.frame _,fun h=>by cases h⟩
theorem parseWhole_lifted (os : Os) (started : os.Started) (H : Type) (enc : TypeId × Value -> H) :
  ReturnsInHanded {} Tryz.checked os 8 .any (fun w args=>(Rows.parseWholeSpec.pre enc Tryz.prog Tryz.f8 Rows.parseWholeRow.domain false w args /\ laidMetH Tryz.prog Rows.parseWholeRow.laid w) /\ sizedMet enc Tryz.prog Tryz.f8 (OpenSpec.ofChange Rows.parseWholeSpec) false w args)
   (Rows.parseWholeSpec.post enc Tryz.prog Tryz.f8 false true false false):=by
 refine returnsInHanded_of_change_and (C:=Tryz.checked) (X:=fun w _=>laidMetH Tryz.prog Rows.parseWholeRow.laid w) (fun _ _ _ hh h=>h.of_heap hh) own started (by kernel_rfl) Tryz.func8
  (ChangeSpec.witness_shaped (enc:=enc) (C:=Tryz.checked) (os:=os) (X:=fun w _=>laidMetH Tryz.prog Rows.parseWholeRow.laid w) false (World.laidAll Tryz.prog os laidL) #[.string ⟨#[]⟩,.string ⟨#[]⟩] 8 (World.laidAll_os _ _ _)
   (World.shaped_of_ZipB (by kernel_rfl) (by kernel_rfl)) (by kernel_rfl) (by kernel_rfl) (by kernel_rfl)
   (by rw [MakeChecks.laidMetH_plain _ _ _ (by kernel_rfl)];exact laidMet_laidAll _ (by kernel_rfl) (by kernel_rfl))) ?_
 intro W base args ds gs before hval hW _ _ hL _
 exact parseWhole_contract H enc W base args ds gs before hval hW hL
theorem parseWhole_said : Rows.ParseWholeSaid :=
 OpenClaim.holds_of_wide 8 Tryz.f8 rfl rfl rfl rfl rfl rfl rfl ⟨rfl,rfl,rfl,rfl,rfl⟩ rfl rfl rfl rfl rfl (by kernel_rfl) Tryz.func8 (by kernel_rfl)
  (of_decide_eq_true (by kernel_rfl)) (by unfold Func.isWrapper;first | (rw [if_pos (by decide +kernel)];kernel_rfl) | (rw [if_neg (by decide +kernel)];exact ⟨rfl,rfl⟩))
  (fun os started H enc _=>parseWhole_lifted os started H enc)
theorem parseWhole_plain (f : FuncId) (fn : Func) (hf : Tryz.pinned.checked.prog.funcNamed "caulker/caulkerlaw08.ParseWhole" = some f) (hfn : Tryz.pinned.checked.prog.funcs[f]? = some fn) :
  true = Tryz.pinned.checked.prog.looks [] /\ ∀ (j : Nat) t,fn.params[j]? = some t -> Tryz.pinned.checked.prog.wantsStandIn t = false:=by
 obtain rfl : f = 8 := Option.some.inj ((show Tryz.prog.funcNamed "caulker/caulkerlaw08.ParseWhole" = some 8 by kernel_rfl).symm.trans hf) |>.symm
 obtain rfl : fn = Tryz.f8:=(Option.some.inj (Tryz.func8.symm.trans hfn)).symm
 refine ⟨by kernel_rfl,fun j t ht=>?_⟩
 rw [Tryz.params8] at ht
 have hm:=Array.mem_of_getElem? ht
 simp only [List.mem_toArray,List.mem_cons,List.not_mem_nil,or_false] at hm
 rcases hm with rfl | rfl
 ·exact (show Tryz.prog.wantsStandIn 9 = false by kernel_rfl)
 ·exact (show Tryz.prog.wantsStandIn 9 = false by kernel_rfl)
theorem parseWhole_proved : Rows.ParseWholeCardSaid :=
 Claim7.holds_tied_plain_at .later [] _ _ _ _ parseWhole_said (fun _ h=>by cases h) (by kernel_rfl) (fun _ h=>by cases h) parseWhole_row_tie rfl ⟨rfl,rfl⟩ (by kernel_rfl) rfl parseWhole_plain (by kernel_rfl)
end Go.Proofs.YtcllbfijhgiclaaGreatDoor
