/- ParseWhole -/
import Derived.Test.YtcllbfijhgiclaaGreatDoorWTrPen
import Derived.Test.YtcllbfijhgiclaaGreatDoorWTrType
set_option maxRecDepth 100000
set_option maxHeartbeats 4000000
set_option linter.unusedVariables false
set_option linter.unusedSimpArgs false
namespace Go.Proofs.YtcllbfijhgiclaaGreatDoor
open Go Go.RowKit
def FormPost (W0 : World) (b : Nat) (s : ByteArray) (e : Ending) (w' : World) : Prop:=e = .returned (.tuple #[]) /\ BdInv W0 b s w'
def kidsTo (F : Nat -> ByteArray) (K : List Nat) (h : ByteArray) (j : Nat) : ByteArray:=(K.take j).foldl (fun s k=>s ++ ⟨#[32]⟩ ++ F k) h
theorem kidsTo_succ (F : Nat -> ByteArray) (K : List Nat) (h : ByteArray) (j : Nat) (hj : j < K.length) : kidsTo F K h (j + 1) = kidsTo F K h j ++ ⟨#[32]⟩ ++ F K[j]:=by
 unfold kidsTo
 rw [List.take_succ_eq_append_getElem hj,List.foldl_append];rfl
theorem kidsTo_all (F : Nat -> ByteArray) (K : List Nat) (h : ByteArray) : kidsTo F K h K.length = K.foldl (fun s k=>s ++ ⟨#[32]⟩ ++ F k) h:=by unfold kidsTo;rw [List.take_length]
theorem fold_ge (F : Nat -> ByteArray) : ∀ (K : List Nat) (h : ByteArray),h.size <= (K.foldl (fun s k=>s ++ ⟨#[32]⟩ ++ F k) h).size
 | [],h=>Nat.le_refl _
 | k :: K,h=>by
  have:=fold_ge F K (h ++ ⟨#[32]⟩ ++ F k)
  rw [List.foldl_cons]
  simp only [ByteArray.size_append] at this ⊢
  omega
theorem kidsTo_le (F : Nat -> ByteArray) (K : List Nat) (h : ByteArray) (j : Nat) : (kidsTo F K h j).size <= (kidsTo F K h K.length).size:=by
 have e : kidsTo F K h K.length = (K.drop j).foldl (fun s k=>s ++ ⟨#[32]⟩ ++ F k) (kidsTo F K h j):=by
  rw [kidsTo_all]
  unfold kidsTo
  rw [<- List.foldl_append,List.take_append_drop]
 rw [e]
 exact fold_ge F _ _
theorem kidsTo_leI (F : Nat -> ByteArray) (K : List Int) (h : ByteArray) (j : Nat) : (kidsTo F (K.map Int.toNat) h j).size <= (kidsTo F (K.map Int.toNat) h K.length).size:=by
 have:=kidsTo_le F (K.map Int.toNat) h j
 rwa [List.length_map] at this
theorem ttS_yes2 {B : Int} {N : ByteArray} {D : Int} {M : ByteArray} (h : rightB B N D M = true) : ttS B N D M = typeS B N M /\ True:=⟨by unfold ttS;rw [h];rfl,trivial⟩
theorem lit1 : (⟨#[32]⟩ : ByteArray).size = 1 /\ (⟨#[40]⟩ : ByteArray).size = 1 /\ (⟨#[41]⟩ : ByteArray).size = 1:=⟨rfl,rfl,rfl⟩
structure FormKids (W0 : World) (b : Nat) (nv : Value) (F : Nat -> ByteArray) (K : List Int) (s h : ByteArray) : Prop where
 nat : ∀ k ∈ K,0 <= k
 len : K.length <= 17592186044416
 size : s.size + (kidsTo F (K.map Int.toNat) h K.length).size + 1 <= 70368744177664
 recu : ∀ k ∈ K,∀ (s' : ByteArray) (w : World),BdInv W0 b s' w -> s'.size + (F k.toNat).size <= 70368744177664 -> Calls Tryz.prog 42 #[.pointer (some ⟨b,0,none⟩),nv,.int .i64 k] w (FormPost W0 b (s' ++ F k.toNat))
theorem writeSp_any (W0 : World) (b : Nat) (s : ByteArray) (w : World) (h : BdInv W0 b s w) (hl : s.size + 1 <= 140737488355328) :
  Calls Tryz.prog 12 #[.pointer (some ⟨b,0,none⟩),.int .u8 32] w fun e w'=>e = .returned .nilIface /\ BdInv W0 b (s ++ ⟨#[32]⟩) w':=writeB_any W0 b s 32 w h hl
theorem writeCl_any (W0 : World) (b : Nat) (s : ByteArray) (w : World) (h : BdInv W0 b s w) (hl : s.size + 1 <= 140737488355328) :
  Calls Tryz.prog 12 #[.pointer (some ⟨b,0,none⟩),.int .u8 41] w fun e w'=>e = .returned .nilIface /\ BdInv W0 b (s ++ ⟨#[41]⟩) w':=writeB_any W0 b s 41 w h hl
theorem two_alloc (w : World) (o1 o2 : Obj) : Below w.heap.size w ((w.alloc o1).alloc o2):=((Below.refl _ _).alloc (Nat.le_refl _) _).alloc (by simp) _
theorem two_boxes (w : World) (cs rs : Array Value) (T T' : TypeId) : Bx T ((w.alloc (.cells cs T)).alloc (.cells rs T')) w.heap.size cs.toList /\ Bx T' ((w.alloc (.cells cs T)).alloc (.cells rs T')) (w.heap.size + 1) rs.toList:=by
 refine ⟨(Bx.new T w cs).alloc _,?_⟩
 have h2:=Bx.new T' (w.alloc (.cells cs T)) rs
 simp only [World.size_alloc] at h2
 exact h2
theorem Bx.five {T : TypeId} {w : World} {b : Nat} {v0 v1 v2 v3 v4 : Value} (h : Bx T w b [v0,v1,v2,v3,v4]) : w.cell? ⟨b,0,none⟩ = some v0 /\ w.cell? ⟨b,3,none⟩ = some v3 /\ w.cell? ⟨b,4,none⟩ = some v4 /\ b < w.heap.size:=⟨h.cell 0,h.cell 3,h.cell 4,h.lt⟩
theorem Bx.thirteen {w : World} {b : Nat} {v0 v1 v2 v3 v4 v5 v6 v7 v8 v9 v10 v11 v12 : Value} (h : Bx 56 w b [v0,v1,v2,v3,v4,v5,v6,v7,v8,v9,v10,v11,v12]) :
  w.cell? ⟨b,0,none⟩ = some v0 /\ w.cell? ⟨b,3,none⟩ = some v3 /\ w.cell? ⟨b,4,none⟩ = some v4 /\ w.cell? ⟨b,5,none⟩ = some v5 /\ w.cell? ⟨b,6,none⟩ = some v6 /\ w.cell? ⟨b,7,none⟩ = some v7 /\ w.cell? ⟨b,8,none⟩ = some v8 /\ w.cell? ⟨b,9,none⟩ = some v9 /\ b < w.heap.size:=⟨h.cell 0,h.cell 3,h.cell 4,h.cell 5,h.cell 6,h.cell 7,h.cell 8,h.cell 9,h.lt⟩
theorem form_ff (W0 : World) (b nb noff nn ncap : Nat) (F : Nat -> ByteArray) (a k : Nat) (sf st : Int) (ks : Option Addr) (K : List Int) (kc : Nat) (text : ByteArray) (B : Int) (N : ByteArray) (D : Int) (M : ByteArray) (num wf wt : Int) (es : Option Addr) (en ec : Nat) (nm : ByteArray) (le : Nat) (mo : Int) (tx ty : Bool) (s h : ByteArray) (w : World)
  (c0 : w.cell? ⟨nb,noff + a * 13,none⟩ = some (.int .i64 (k : Int))) (c1 : w.cell? ⟨nb,noff + a * 13 + 1,none⟩ = some (.int .i64 sf)) (c2 : w.cell? ⟨nb,noff + a * 13 + 2,none⟩ = some (.int .i64 st)) (c3 : w.cell? ⟨nb,noff + a * 13 + 3,none⟩ = some (.slice ks K.length kc)) (c4 : w.cell? ⟨nb,noff + a * 13 + 4,none⟩ = some (.string text)) (c5 : w.cell? ⟨nb,noff + a * 13 + 5,none⟩ = some (.int .i64 B)) (c6 : w.cell? ⟨nb,noff + a * 13 + 6,none⟩ = some (.string N)) (c7 : w.cell? ⟨nb,noff + a * 13 + 7,none⟩ = some (.int .i64 D)) (c8 : w.cell? ⟨nb,noff + a * 13 + 8,none⟩ = some (.string M)) (c9 : w.cell? ⟨nb,noff + a * 13 + 9,none⟩ = some (.int .i64 num)) (c10 : w.cell? ⟨nb,noff + a * 13 + 10,none⟩ = some (.int .i64 wf)) (c11 : w.cell? ⟨nb,noff + a * 13 + 11,none⟩ = some (.int .i64 wt)) (c12 : w.cell? ⟨nb,noff + a * 13 + 12,none⟩ = some (.slice es en ec)) (cl : nb < w.heap.size)
  (s0 : w.cell? ⟨1,k * 5,none⟩ = some (.string nm)) (s1 : w.cell? ⟨1,k * 5 + 1,none⟩ = some (.int .i64 (le : Nat))) (s2 : w.cell? ⟨1,k * 5 + 2,none⟩ = some (.int .i64 mo)) (s3 : w.cell? ⟨1,k * 5 + 3,none⟩ = some (.bool tx)) (s4 : w.cell? ⟨1,k * 5 + 4,none⟩ = some (.bool ty)) (sl : 1 < w.heap.size)
  (ha : a < nn) (hks : NumsIn W0 ks K) (hT : Tabs W0) (h0 : 0 < k) (h1 : k < 46) (hbw : W0.heap.size <= b) (hnm : nm.size <= 20) (hss : s.size <= 70368744177664) (hk : FormKids W0 b (.slice (some ⟨nb,noff,none⟩) nn ncap) F K s h) (hinv : BdInv W0 b s w)
  (htx : tx = false) (hty : ty = false) (hn19 : ¬ k = 19) (hn21 : ¬ k = 21) (hh : h = (⟨#[40]⟩ ++ nm)) :
  Calls Tryz.prog 42 #[.pointer (some ⟨b,0,none⟩),.slice (some ⟨nb,noff,none⟩) nn ncap,.int .i64 (a : Nat)] w (FormPost W0 b (s ++ (kidsTo F (K.map Int.toNat) h K.length ++ ⟨#[41]⟩))):=by
 have HI:=Lib.hid hinv
 have HT : Hid (∀ w2 : World,Below W0.heap.size W0 w2 -> Tabs w2):=Lib.hid (fun w2 h2=>hT.step h2)
 have HH:=Lib.hid hh
 have HK:=Lib.hid hk
 have HKS:=Lib.hid hks
 have hwb:=hinv.lt
 have hle:=kidsTo_leI F K h 0
 have hz0 : (kidsTo F (K.map Int.toNat) h 0).size = h.size:=rfl
 have hsz:=hk.size
 have hkl:=hk.len
 have n1 : ¬ 9223372036854775807 < 1 + nm.size:=by omega
 have g0 : s.size + h.size <= 70368744177664:=by omega
 have HSZ:=Lib.hid g0
 subst htx hty
 have k19 : ((k : Int) == 19) = false:=by simp;omega
 have k21 : ((k : Int) == 21) = false:=by simp;omega
 obtain ⟨lt1,lt2,lt3⟩:=lit1
 have HP : Hid (h.size = (1 + nm.size)):=Lib.hid (by rw [hh];simp only [ByteArray.size_append,lt1,lt2])
 clear hinv hT hh hk hks hle hz0 hsz
 go_enter Tryz.func42,Tryz.ntmps42
 go_wp2_with fail
 obtain ⟨x1,y1⟩:=two_boxes w #[.int .i64 (k : Int),.int .i64 sf,.int .i64 st,.slice ks K.length kc,.string text,.int .i64 B,.string N,.int .i64 D,.string M,.int .i64 num,.int .i64 wf,.int .i64 wt,.slice es en ec] #[.string nm,.int .i64 (le : Nat),.int .i64 mo,.bool false,.bool false] 56 126
 have z1 : s.size + ((⟨#[40]⟩ : ByteArray) ++ nm).size <= 140737488355328:=by rw [ByteArray.size_append,lt2];have:=HP.out;omega
 have hx:=fun w2 (h2 : Below w.heap.size w w2)=>write_any W0 b s (⟨#[40]⟩ ++ nm) w2 (HI.out.step h2) z1
 refine (hx _ (two_alloc _ _ _)).mono ?_
 rintro e w1 ⟨rfl,i1,j1⟩
 have I1:=Lib.hid i1
 have N1:=Lib.hid (box_kept x1 (by decide) (by omega) j1)
 have S1:=Lib.hid (box_kept y1 (by decide) (by omega) j1)
 clear hx z1 x1 y1 i1 j1 HI c0 c1 c2 c3 c4 c5 c6 c7 c8 c9 c10 c11 c12 s0 s1 s2 s3 s4 cl sl
 obtain ⟨a0,a3,a4,a5,a6,a7,a8,a9,al⟩:=Bx.thirteen N1.out
 obtain ⟨p0,p3,p4,pl⟩:=Bx.five S1.out
 go_wp2_with fail
 have IH : Hid (BdInv W0 b (s ++ kidsTo F (K.map Int.toNat) h 0) w1):=Lib.hid (by
  have e : s ++ kidsTo F (K.map Int.toNat) h 0 = (s ++ (⟨#[40]⟩ ++ nm)):=by
   show s ++ h = _
   rw [HH.out]
   try simp only [ByteArray.append_assoc]
  rw [e];exact I1.out)
 clear a0 a3 a4 a5 a6 a7 a8 a9 al p0 p3 p4 pl
 clear I1 N1 S1
 go_loopw [56] (fun i wr=>∃ j : Nat,j <= K.length /\ i = .int .i64 j /\ BdInv W0 b (s ++ kidsTo F (K.map Int.toNat) h j) wr) (fun i _=>K.length - (intOf i).toNat)
 case atStart=>exact ⟨0,Nat.zero_le _,rfl,IH.out⟩
 case round =>
  clear IH
  obtain ⟨j,hj,rfl,hi⟩:=hrel
  have HJ:=Lib.hid hi
  clear hi
  have hle:=kidsTo_leI F K h j
  have HSJ : Hid (s.size + (kidsTo F (K.map Int.toNat) h j).size + 1 <= 70368744177664):=Lib.hid (by have:=HK.out.size;omega)
  clear hle
  by_cases hlt : j < K.length
  ·obtain ⟨kb,koff,rfl,hkb,hkrow⟩:=HKS.out (by omega)
   have e0:=keep HJ.out.bel hkb (hkrow j hlt)
   have hnat:=HK.out.nat _ (List.getElem_mem hlt)
   have HREC:=Lib.hid (HK.out.recu _ (List.getElem_mem hlt))
   have HST : Hid (kidsTo F (K.map Int.toNat) h (j + 1) = kidsTo F (K.map Int.toNat) h j ++ ⟨#[32]⟩ ++ F K[j].toNat):=Lib.hid (by
    rw [kidsTo_succ F _ h j (by simpa using hlt)];simp)
   have HS2 : Hid (s.size + (kidsTo F (K.map Int.toNat) h j).size + 1 + (F K[j].toNat).size <= 70368744177664):=Lib.hid (by
    have h1:=kidsTo_leI F K h (j + 1)
    have h2:=HK.out.size
    rw [HST.out] at h1
    simp only [ByteArray.size_append,lt1] at h1
    omega)
   clear hkrow
   generalize K[j] = kj at *
   have z20 : (s ++ kidsTo F (K.map Int.toNat) h j).size + 1 <= 140737488355328:=by rw [ByteArray.size_append];have:=HSJ.out;omega
   have z21 : (s ++ kidsTo F (K.map Int.toNat) h j ++ (⟨#[32]⟩ : ByteArray)).size + (F kj.toNat).size <= 70368744177664:=by simp only [ByteArray.size_append,lt1];have:=HS2.out;omega
   have Z21:=Lib.hid z21
   have HWS:=Lib.hid (writeSp_any W0 b _ wr HJ.out z20)
   clear z20 z21
   go_wp2_with fail
   refine HWS.out.mono ?_
   rintro e w20 ⟨rfl,i20⟩
   have I20:=Lib.hid i20
   clear i20
   go_wp2_with fail
   refine (HREC.out _ _ I20.out Z21.out).mono ?_
   rintro e w21 ⟨rfl,i21⟩
   have I21:=Lib.hid i21
   clear i21 HREC
   go_wp2_with fail
   go_roundw
   case rel=>exact ⟨j + 1,by omega,by go_num,by rw [HST.out];simpa only [ByteArray.append_assoc] using I21.out⟩
   case measure=>simp [intOf];omega
  ·have hj' : j = K.length:=by omega
   subst hj'
   go_wp2_with fail
   have z20 : (s ++ kidsTo F (K.map Int.toNat) h K.length).size + 1 <= 140737488355328:=by rw [ByteArray.size_append];have:=HSJ.out;omega
   refine (writeCl_any W0 b _ _ HJ.out z20).mono ?_
   rintro e w20 ⟨rfl,i20⟩
   have I20:=Lib.hid i20
   clear i20
   go_wp2_with fail
   go_end0
   exact ⟨rfl,by simpa only [ByteArray.append_assoc] using I20.out⟩
theorem form_f19 (W0 : World) (b nb noff nn ncap : Nat) (F : Nat -> ByteArray) (a : Nat) (sf st : Int) (ks : Option Addr) (K : List Int) (kc : Nat) (text : ByteArray) (B : Int) (N : ByteArray) (D : Int) (M : ByteArray) (num wf wt : Int) (es : Option Addr) (en ec : Nat) (nm : ByteArray) (le : Nat) (mo : Int) (tx ty : Bool) (s h : ByteArray) (w : World)
  (c0 : w.cell? ⟨nb,noff + a * 13,none⟩ = some (.int .i64 19)) (c1 : w.cell? ⟨nb,noff + a * 13 + 1,none⟩ = some (.int .i64 sf)) (c2 : w.cell? ⟨nb,noff + a * 13 + 2,none⟩ = some (.int .i64 st)) (c3 : w.cell? ⟨nb,noff + a * 13 + 3,none⟩ = some (.slice ks K.length kc)) (c4 : w.cell? ⟨nb,noff + a * 13 + 4,none⟩ = some (.string text)) (c5 : w.cell? ⟨nb,noff + a * 13 + 5,none⟩ = some (.int .i64 B)) (c6 : w.cell? ⟨nb,noff + a * 13 + 6,none⟩ = some (.string N)) (c7 : w.cell? ⟨nb,noff + a * 13 + 7,none⟩ = some (.int .i64 D)) (c8 : w.cell? ⟨nb,noff + a * 13 + 8,none⟩ = some (.string M)) (c9 : w.cell? ⟨nb,noff + a * 13 + 9,none⟩ = some (.int .i64 num)) (c10 : w.cell? ⟨nb,noff + a * 13 + 10,none⟩ = some (.int .i64 wf)) (c11 : w.cell? ⟨nb,noff + a * 13 + 11,none⟩ = some (.int .i64 wt)) (c12 : w.cell? ⟨nb,noff + a * 13 + 12,none⟩ = some (.slice es en ec)) (cl : nb < w.heap.size)
  (s0 : w.cell? ⟨1,95,none⟩ = some (.string nm)) (s1 : w.cell? ⟨1,96,none⟩ = some (.int .i64 (le : Nat))) (s2 : w.cell? ⟨1,97,none⟩ = some (.int .i64 mo)) (s3 : w.cell? ⟨1,98,none⟩ = some (.bool tx)) (s4 : w.cell? ⟨1,99,none⟩ = some (.bool ty)) (sl : 1 < w.heap.size)
  (ha : a < nn) (hks : NumsIn W0 ks K) (hT : Tabs W0) (hbw : W0.heap.size <= b) (hnm : nm.size <= 20) (hss : s.size <= 70368744177664) (hk : FormKids W0 b (.slice (some ⟨nb,noff,none⟩) nn ncap) F K s h) (hinv : BdInv W0 b s w)
  (htx : tx = false) (hty : ty = false) (hnum : -9223372036854775808 <= num /\ num <= 9223372036854775807) (hh : h = (⟨#[40]⟩ ++ nm) ++ (⟨#[32]⟩ ++ goPen.dec num)) :
  Calls Tryz.prog 42 #[.pointer (some ⟨b,0,none⟩),.slice (some ⟨nb,noff,none⟩) nn ncap,.int .i64 (a : Nat)] w (FormPost W0 b (s ++ (kidsTo F (K.map Int.toNat) h K.length ++ ⟨#[41]⟩))):=by
 have HI:=Lib.hid hinv
 have HT : Hid (∀ w2 : World,Below W0.heap.size W0 w2 -> Tabs w2):=Lib.hid (fun w2 h2=>hT.step h2)
 have HH:=Lib.hid hh
 have HK:=Lib.hid hk
 have HKS:=Lib.hid hks
 have hwb:=hinv.lt
 have hle:=kidsTo_leI F K h 0
 have hz0 : (kidsTo F (K.map Int.toNat) h 0).size = h.size:=rfl
 have hsz:=hk.size
 have hkl:=hk.len
 have n1 : ¬ 9223372036854775807 < 1 + nm.size:=by omega
 have g0 : s.size + h.size <= 70368744177664:=by omega
 have HSZ:=Lib.hid g0
 subst htx hty
 obtain ⟨lt1,lt2,lt3⟩:=lit1
 have HP : Hid (h.size = (1 + nm.size) + (1 + (goPen.dec num).size)):=Lib.hid (by rw [hh];simp only [ByteArray.size_append,lt1,lt2])
 have HD:=Lib.hid (fun w2 h2=>dec_any num w2 (HT.out w2 h2) hnum.1 hnum.2)
 generalize goPen.dec num = dt at *
 clear hinv hT hh hk hks hle hz0 hsz
 go_enter Tryz.func42,Tryz.ntmps42
 go_wp2_with fail
 obtain ⟨x1,y1⟩:=two_boxes w #[.int .i64 19,.int .i64 sf,.int .i64 st,.slice ks K.length kc,.string text,.int .i64 B,.string N,.int .i64 D,.string M,.int .i64 num,.int .i64 wf,.int .i64 wt,.slice es en ec] #[.string nm,.int .i64 (le : Nat),.int .i64 mo,.bool false,.bool false] 56 126
 have z1 : s.size + ((⟨#[40]⟩ : ByteArray) ++ nm).size <= 140737488355328:=by rw [ByteArray.size_append,lt2];have:=HP.out;omega
 have hx:=fun w2 (h2 : Below w.heap.size w w2)=>write_any W0 b s (⟨#[40]⟩ ++ nm) w2 (HI.out.step h2) z1
 refine (hx _ (two_alloc _ _ _)).mono ?_
 rintro e w1 ⟨rfl,i1,j1⟩
 have I1:=Lib.hid i1
 have N1:=Lib.hid (box_kept x1 (by decide) (by omega) j1)
 have S1:=Lib.hid (box_kept y1 (by decide) (by omega) j1)
 clear hx z1 x1 y1 i1 j1 HI c0 c1 c2 c3 c4 c5 c6 c7 c8 c9 c10 c11 c12 s0 s1 s2 s3 s4 cl sl
 obtain ⟨a0,a3,a4,a5,a6,a7,a8,a9,al⟩:=Bx.thirteen N1.out
 obtain ⟨p0,p3,p4,pl⟩:=Bx.five S1.out
 go_wp2_with fail
 refine (HD.out _ I1.out.bel).mono ?_
 rintro e w2 ⟨rfl,q2⟩
 have I2:=Lib.hid (I1.out.step q2)
 have N2:=Lib.hid (N1.out.keep q2)
 have S2:=Lib.hid (S1.out.keep q2)
 clear a0 a3 a4 a5 a6 a7 a8 a9 al p0 p3 p4 pl
 clear q2
 obtain ⟨a0,a3,a4,a5,a6,a7,a8,a9,al⟩:=Bx.thirteen N2.out
 obtain ⟨p0,p3,p4,pl⟩:=Bx.five S2.out
 have m2 : ¬ 9223372036854775807 < 1 + (dt).size:=by have:=HP.out;omega
 go_wp2_with fail
 have z2 : ((s ++ (⟨#[40]⟩ ++ nm)) : ByteArray).size + ((⟨#[32]⟩ : ByteArray) ++ dt).size <= 140737488355328:=by simp only [ByteArray.size_append,lt1,lt2];have:=HP.out;omega
 refine (write_any W0 b _ _ _ I2.out z2).mono ?_
 rintro e w3 ⟨rfl,i3,j3⟩
 have I3:=Lib.hid i3
 have N3:=Lib.hid (box_kept N2.out (by decide) (by omega) j3)
 have S3:=Lib.hid (box_kept S2.out (by decide) (by omega) j3)
 clear a0 a3 a4 a5 a6 a7 a8 a9 al p0 p3 p4 pl
 clear i3 j3 m2 z2
 obtain ⟨a0,a3,a4,a5,a6,a7,a8,a9,al⟩:=Bx.thirteen N3.out
 obtain ⟨p0,p3,p4,pl⟩:=Bx.five S3.out
 go_wp2_with fail
 have IH : Hid (BdInv W0 b (s ++ kidsTo F (K.map Int.toNat) h 0) w3):=Lib.hid (by
  have e : s ++ kidsTo F (K.map Int.toNat) h 0 = ((s ++ (⟨#[40]⟩ ++ nm)) ++ (⟨#[32]⟩ ++ dt)):=by
   show s ++ h = _
   rw [HH.out]
   try simp only [ByteArray.append_assoc]
  rw [e];exact I3.out)
 clear a0 a3 a4 a5 a6 a7 a8 a9 al p0 p3 p4 pl
 clear I1 N1 S1 I2 N2 S2 I3 N3 S3
 go_loopw [56] (fun i wr=>∃ j : Nat,j <= K.length /\ i = .int .i64 j /\ BdInv W0 b (s ++ kidsTo F (K.map Int.toNat) h j) wr) (fun i _=>K.length - (intOf i).toNat)
 case atStart=>exact ⟨0,Nat.zero_le _,rfl,IH.out⟩
 case round =>
  clear IH
  obtain ⟨j,hj,rfl,hi⟩:=hrel
  have HJ:=Lib.hid hi
  clear hi
  have hle:=kidsTo_leI F K h j
  have HSJ : Hid (s.size + (kidsTo F (K.map Int.toNat) h j).size + 1 <= 70368744177664):=Lib.hid (by have:=HK.out.size;omega)
  clear hle
  by_cases hlt : j < K.length
  ·obtain ⟨kb,koff,rfl,hkb,hkrow⟩:=HKS.out (by omega)
   have e0:=keep HJ.out.bel hkb (hkrow j hlt)
   have hnat:=HK.out.nat _ (List.getElem_mem hlt)
   have HREC:=Lib.hid (HK.out.recu _ (List.getElem_mem hlt))
   have HST : Hid (kidsTo F (K.map Int.toNat) h (j + 1) = kidsTo F (K.map Int.toNat) h j ++ ⟨#[32]⟩ ++ F K[j].toNat):=Lib.hid (by
    rw [kidsTo_succ F _ h j (by simpa using hlt)];simp)
   have HS2 : Hid (s.size + (kidsTo F (K.map Int.toNat) h j).size + 1 + (F K[j].toNat).size <= 70368744177664):=Lib.hid (by
    have h1:=kidsTo_leI F K h (j + 1)
    have h2:=HK.out.size
    rw [HST.out] at h1
    simp only [ByteArray.size_append,lt1] at h1
    omega)
   clear hkrow
   generalize K[j] = kj at *
   have z20 : (s ++ kidsTo F (K.map Int.toNat) h j).size + 1 <= 140737488355328:=by rw [ByteArray.size_append];have:=HSJ.out;omega
   have z21 : (s ++ kidsTo F (K.map Int.toNat) h j ++ (⟨#[32]⟩ : ByteArray)).size + (F kj.toNat).size <= 70368744177664:=by simp only [ByteArray.size_append,lt1];have:=HS2.out;omega
   have Z21:=Lib.hid z21
   have HWS:=Lib.hid (writeSp_any W0 b _ wr HJ.out z20)
   clear z20 z21
   go_wp2_with fail
   refine HWS.out.mono ?_
   rintro e w20 ⟨rfl,i20⟩
   have I20:=Lib.hid i20
   clear i20
   go_wp2_with fail
   refine (HREC.out _ _ I20.out Z21.out).mono ?_
   rintro e w21 ⟨rfl,i21⟩
   have I21:=Lib.hid i21
   clear i21 HREC
   go_wp2_with fail
   go_roundw
   case rel=>exact ⟨j + 1,by omega,by go_num,by rw [HST.out];simpa only [ByteArray.append_assoc] using I21.out⟩
   case measure=>simp [intOf];omega
  ·have hj' : j = K.length:=by omega
   subst hj'
   go_wp2_with fail
   have z20 : (s ++ kidsTo F (K.map Int.toNat) h K.length).size + 1 <= 140737488355328:=by rw [ByteArray.size_append];have:=HSJ.out;omega
   refine (writeCl_any W0 b _ _ HJ.out z20).mono ?_
   rintro e w20 ⟨rfl,i20⟩
   have I20:=Lib.hid i20
   clear i20
   go_wp2_with fail
   go_end0
   exact ⟨rfl,by simpa only [ByteArray.append_assoc] using I20.out⟩
theorem form_f21 (W0 : World) (b nb noff nn ncap : Nat) (F : Nat -> ByteArray) (a : Nat) (sf st : Int) (ks : Option Addr) (K : List Int) (kc : Nat) (text : ByteArray) (B : Int) (N : ByteArray) (D : Int) (M : ByteArray) (num wf wt : Int) (es : Option Addr) (en ec : Nat) (nm : ByteArray) (le : Nat) (mo : Int) (tx ty : Bool) (s h : ByteArray) (w : World)
  (c0 : w.cell? ⟨nb,noff + a * 13,none⟩ = some (.int .i64 21)) (c1 : w.cell? ⟨nb,noff + a * 13 + 1,none⟩ = some (.int .i64 sf)) (c2 : w.cell? ⟨nb,noff + a * 13 + 2,none⟩ = some (.int .i64 st)) (c3 : w.cell? ⟨nb,noff + a * 13 + 3,none⟩ = some (.slice ks K.length kc)) (c4 : w.cell? ⟨nb,noff + a * 13 + 4,none⟩ = some (.string text)) (c5 : w.cell? ⟨nb,noff + a * 13 + 5,none⟩ = some (.int .i64 B)) (c6 : w.cell? ⟨nb,noff + a * 13 + 6,none⟩ = some (.string N)) (c7 : w.cell? ⟨nb,noff + a * 13 + 7,none⟩ = some (.int .i64 D)) (c8 : w.cell? ⟨nb,noff + a * 13 + 8,none⟩ = some (.string M)) (c9 : w.cell? ⟨nb,noff + a * 13 + 9,none⟩ = some (.int .i64 num)) (c10 : w.cell? ⟨nb,noff + a * 13 + 10,none⟩ = some (.int .i64 wf)) (c11 : w.cell? ⟨nb,noff + a * 13 + 11,none⟩ = some (.int .i64 wt)) (c12 : w.cell? ⟨nb,noff + a * 13 + 12,none⟩ = some (.slice es en ec)) (cl : nb < w.heap.size)
  (s0 : w.cell? ⟨1,105,none⟩ = some (.string nm)) (s1 : w.cell? ⟨1,106,none⟩ = some (.int .i64 (le : Nat))) (s2 : w.cell? ⟨1,107,none⟩ = some (.int .i64 mo)) (s3 : w.cell? ⟨1,108,none⟩ = some (.bool tx)) (s4 : w.cell? ⟨1,109,none⟩ = some (.bool ty)) (sl : 1 < w.heap.size)
  (ha : a < nn) (hks : NumsIn W0 ks K) (hT : Tabs W0) (hbw : W0.heap.size <= b) (hnm : nm.size <= 20) (hss : s.size <= 70368744177664) (hk : FormKids W0 b (.slice (some ⟨nb,noff,none⟩) nn ncap) F K s h) (hinv : BdInv W0 b s w)
  (htx : tx = false) (hty : ty = false) (hnum : -9223372036854775808 <= num /\ num <= 9223372036854775807) (hh : h = (⟨#[40]⟩ ++ nm) ++ (⟨#[32]⟩ ++ goPen.dec num)) :
  Calls Tryz.prog 42 #[.pointer (some ⟨b,0,none⟩),.slice (some ⟨nb,noff,none⟩) nn ncap,.int .i64 (a : Nat)] w (FormPost W0 b (s ++ (kidsTo F (K.map Int.toNat) h K.length ++ ⟨#[41]⟩))):=by
 have HI:=Lib.hid hinv
 have HT : Hid (∀ w2 : World,Below W0.heap.size W0 w2 -> Tabs w2):=Lib.hid (fun w2 h2=>hT.step h2)
 have HH:=Lib.hid hh
 have HK:=Lib.hid hk
 have HKS:=Lib.hid hks
 have hwb:=hinv.lt
 have hle:=kidsTo_leI F K h 0
 have hz0 : (kidsTo F (K.map Int.toNat) h 0).size = h.size:=rfl
 have hsz:=hk.size
 have hkl:=hk.len
 have n1 : ¬ 9223372036854775807 < 1 + nm.size:=by omega
 have g0 : s.size + h.size <= 70368744177664:=by omega
 have HSZ:=Lib.hid g0
 subst htx hty
 obtain ⟨lt1,lt2,lt3⟩:=lit1
 have HP : Hid (h.size = (1 + nm.size) + (1 + (goPen.dec num).size)):=Lib.hid (by rw [hh];simp only [ByteArray.size_append,lt1,lt2])
 have HD:=Lib.hid (fun w2 h2=>dec_any num w2 (HT.out w2 h2) hnum.1 hnum.2)
 generalize goPen.dec num = dt at *
 clear hinv hT hh hk hks hle hz0 hsz
 go_enter Tryz.func42,Tryz.ntmps42
 go_wp2_with fail
 obtain ⟨x1,y1⟩:=two_boxes w #[.int .i64 21,.int .i64 sf,.int .i64 st,.slice ks K.length kc,.string text,.int .i64 B,.string N,.int .i64 D,.string M,.int .i64 num,.int .i64 wf,.int .i64 wt,.slice es en ec] #[.string nm,.int .i64 (le : Nat),.int .i64 mo,.bool false,.bool false] 56 126
 have z1 : s.size + ((⟨#[40]⟩ : ByteArray) ++ nm).size <= 140737488355328:=by rw [ByteArray.size_append,lt2];have:=HP.out;omega
 have hx:=fun w2 (h2 : Below w.heap.size w w2)=>write_any W0 b s (⟨#[40]⟩ ++ nm) w2 (HI.out.step h2) z1
 refine (hx _ (two_alloc _ _ _)).mono ?_
 rintro e w1 ⟨rfl,i1,j1⟩
 have I1:=Lib.hid i1
 have N1:=Lib.hid (box_kept x1 (by decide) (by omega) j1)
 have S1:=Lib.hid (box_kept y1 (by decide) (by omega) j1)
 clear hx z1 x1 y1 i1 j1 HI c0 c1 c2 c3 c4 c5 c6 c7 c8 c9 c10 c11 c12 s0 s1 s2 s3 s4 cl sl
 obtain ⟨a0,a3,a4,a5,a6,a7,a8,a9,al⟩:=Bx.thirteen N1.out
 obtain ⟨p0,p3,p4,pl⟩:=Bx.five S1.out
 go_wp2_with fail
 refine (HD.out _ I1.out.bel).mono ?_
 rintro e w2 ⟨rfl,q2⟩
 have I2:=Lib.hid (I1.out.step q2)
 have N2:=Lib.hid (N1.out.keep q2)
 have S2:=Lib.hid (S1.out.keep q2)
 clear a0 a3 a4 a5 a6 a7 a8 a9 al p0 p3 p4 pl
 clear q2
 obtain ⟨a0,a3,a4,a5,a6,a7,a8,a9,al⟩:=Bx.thirteen N2.out
 obtain ⟨p0,p3,p4,pl⟩:=Bx.five S2.out
 have m2 : ¬ 9223372036854775807 < 1 + (dt).size:=by have:=HP.out;omega
 go_wp2_with fail
 have z2 : ((s ++ (⟨#[40]⟩ ++ nm)) : ByteArray).size + ((⟨#[32]⟩ : ByteArray) ++ dt).size <= 140737488355328:=by simp only [ByteArray.size_append,lt1,lt2];have:=HP.out;omega
 refine (write_any W0 b _ _ _ I2.out z2).mono ?_
 rintro e w3 ⟨rfl,i3,j3⟩
 have I3:=Lib.hid i3
 have N3:=Lib.hid (box_kept N2.out (by decide) (by omega) j3)
 have S3:=Lib.hid (box_kept S2.out (by decide) (by omega) j3)
 clear a0 a3 a4 a5 a6 a7 a8 a9 al p0 p3 p4 pl
 clear i3 j3 m2 z2
 obtain ⟨a0,a3,a4,a5,a6,a7,a8,a9,al⟩:=Bx.thirteen N3.out
 obtain ⟨p0,p3,p4,pl⟩:=Bx.five S3.out
 go_wp2_with fail
 have IH : Hid (BdInv W0 b (s ++ kidsTo F (K.map Int.toNat) h 0) w3):=Lib.hid (by
  have e : s ++ kidsTo F (K.map Int.toNat) h 0 = ((s ++ (⟨#[40]⟩ ++ nm)) ++ (⟨#[32]⟩ ++ dt)):=by
   show s ++ h = _
   rw [HH.out]
   try simp only [ByteArray.append_assoc]
  rw [e];exact I3.out)
 clear a0 a3 a4 a5 a6 a7 a8 a9 al p0 p3 p4 pl
 clear I1 N1 S1 I2 N2 S2 I3 N3 S3
 go_loopw [56] (fun i wr=>∃ j : Nat,j <= K.length /\ i = .int .i64 j /\ BdInv W0 b (s ++ kidsTo F (K.map Int.toNat) h j) wr) (fun i _=>K.length - (intOf i).toNat)
 case atStart=>exact ⟨0,Nat.zero_le _,rfl,IH.out⟩
 case round =>
  clear IH
  obtain ⟨j,hj,rfl,hi⟩:=hrel
  have HJ:=Lib.hid hi
  clear hi
  have hle:=kidsTo_leI F K h j
  have HSJ : Hid (s.size + (kidsTo F (K.map Int.toNat) h j).size + 1 <= 70368744177664):=Lib.hid (by have:=HK.out.size;omega)
  clear hle
  by_cases hlt : j < K.length
  ·obtain ⟨kb,koff,rfl,hkb,hkrow⟩:=HKS.out (by omega)
   have e0:=keep HJ.out.bel hkb (hkrow j hlt)
   have hnat:=HK.out.nat _ (List.getElem_mem hlt)
   have HREC:=Lib.hid (HK.out.recu _ (List.getElem_mem hlt))
   have HST : Hid (kidsTo F (K.map Int.toNat) h (j + 1) = kidsTo F (K.map Int.toNat) h j ++ ⟨#[32]⟩ ++ F K[j].toNat):=Lib.hid (by
    rw [kidsTo_succ F _ h j (by simpa using hlt)];simp)
   have HS2 : Hid (s.size + (kidsTo F (K.map Int.toNat) h j).size + 1 + (F K[j].toNat).size <= 70368744177664):=Lib.hid (by
    have h1:=kidsTo_leI F K h (j + 1)
    have h2:=HK.out.size
    rw [HST.out] at h1
    simp only [ByteArray.size_append,lt1] at h1
    omega)
   clear hkrow
   generalize K[j] = kj at *
   have z20 : (s ++ kidsTo F (K.map Int.toNat) h j).size + 1 <= 140737488355328:=by rw [ByteArray.size_append];have:=HSJ.out;omega
   have z21 : (s ++ kidsTo F (K.map Int.toNat) h j ++ (⟨#[32]⟩ : ByteArray)).size + (F kj.toNat).size <= 70368744177664:=by simp only [ByteArray.size_append,lt1];have:=HS2.out;omega
   have Z21:=Lib.hid z21
   have HWS:=Lib.hid (writeSp_any W0 b _ wr HJ.out z20)
   clear z20 z21
   go_wp2_with fail
   refine HWS.out.mono ?_
   rintro e w20 ⟨rfl,i20⟩
   have I20:=Lib.hid i20
   clear i20
   go_wp2_with fail
   refine (HREC.out _ _ I20.out Z21.out).mono ?_
   rintro e w21 ⟨rfl,i21⟩
   have I21:=Lib.hid i21
   clear i21 HREC
   go_wp2_with fail
   go_roundw
   case rel=>exact ⟨j + 1,by omega,by go_num,by rw [HST.out];simpa only [ByteArray.append_assoc] using I21.out⟩
   case measure=>simp [intOf];omega
  ·have hj' : j = K.length:=by omega
   subst hj'
   go_wp2_with fail
   have z20 : (s ++ kidsTo F (K.map Int.toNat) h K.length).size + 1 <= 140737488355328:=by rw [ByteArray.size_append];have:=HSJ.out;omega
   refine (writeCl_any W0 b _ _ HJ.out z20).mono ?_
   rintro e w20 ⟨rfl,i20⟩
   have I20:=Lib.hid i20
   clear i20
   go_wp2_with fail
   go_end0
   exact ⟨rfl,by simpa only [ByteArray.append_assoc] using I20.out⟩
theorem form_tf (W0 : World) (b nb noff nn ncap : Nat) (F : Nat -> ByteArray) (a k : Nat) (sf st : Int) (ks : Option Addr) (K : List Int) (kc : Nat) (text : ByteArray) (B : Int) (N : ByteArray) (D : Int) (M : ByteArray) (num wf wt : Int) (es : Option Addr) (en ec : Nat) (nm : ByteArray) (le : Nat) (mo : Int) (tx ty : Bool) (s h : ByteArray) (w : World)
  (c0 : w.cell? ⟨nb,noff + a * 13,none⟩ = some (.int .i64 (k : Int))) (c1 : w.cell? ⟨nb,noff + a * 13 + 1,none⟩ = some (.int .i64 sf)) (c2 : w.cell? ⟨nb,noff + a * 13 + 2,none⟩ = some (.int .i64 st)) (c3 : w.cell? ⟨nb,noff + a * 13 + 3,none⟩ = some (.slice ks K.length kc)) (c4 : w.cell? ⟨nb,noff + a * 13 + 4,none⟩ = some (.string text)) (c5 : w.cell? ⟨nb,noff + a * 13 + 5,none⟩ = some (.int .i64 B)) (c6 : w.cell? ⟨nb,noff + a * 13 + 6,none⟩ = some (.string N)) (c7 : w.cell? ⟨nb,noff + a * 13 + 7,none⟩ = some (.int .i64 D)) (c8 : w.cell? ⟨nb,noff + a * 13 + 8,none⟩ = some (.string M)) (c9 : w.cell? ⟨nb,noff + a * 13 + 9,none⟩ = some (.int .i64 num)) (c10 : w.cell? ⟨nb,noff + a * 13 + 10,none⟩ = some (.int .i64 wf)) (c11 : w.cell? ⟨nb,noff + a * 13 + 11,none⟩ = some (.int .i64 wt)) (c12 : w.cell? ⟨nb,noff + a * 13 + 12,none⟩ = some (.slice es en ec)) (cl : nb < w.heap.size)
  (s0 : w.cell? ⟨1,k * 5,none⟩ = some (.string nm)) (s1 : w.cell? ⟨1,k * 5 + 1,none⟩ = some (.int .i64 (le : Nat))) (s2 : w.cell? ⟨1,k * 5 + 2,none⟩ = some (.int .i64 mo)) (s3 : w.cell? ⟨1,k * 5 + 3,none⟩ = some (.bool tx)) (s4 : w.cell? ⟨1,k * 5 + 4,none⟩ = some (.bool ty)) (sl : 1 < w.heap.size)
  (ha : a < nn) (hks : NumsIn W0 ks K) (hT : Tabs W0) (h0 : 0 < k) (h1 : k < 46) (hbw : W0.heap.size <= b) (hnm : nm.size <= 20) (hss : s.size <= 70368744177664) (hk : FormKids W0 b (.slice (some ⟨nb,noff,none⟩) nn ncap) F K s h) (hinv : BdInv W0 b s w)
  (htx : tx = true) (hty : ty = false) (htext : text.size <= 260) (hn19 : ¬ k = 19) (hn21 : ¬ k = 21) (hh : h = (⟨#[40]⟩ ++ nm) ++ (⟨#[32]⟩ ++ goPen.quote text)) :
  Calls Tryz.prog 42 #[.pointer (some ⟨b,0,none⟩),.slice (some ⟨nb,noff,none⟩) nn ncap,.int .i64 (a : Nat)] w (FormPost W0 b (s ++ (kidsTo F (K.map Int.toNat) h K.length ++ ⟨#[41]⟩))):=by
 have HI:=Lib.hid hinv
 have HT : Hid (∀ w2 : World,Below W0.heap.size W0 w2 -> Tabs w2):=Lib.hid (fun w2 h2=>hT.step h2)
 have HH:=Lib.hid hh
 have HK:=Lib.hid hk
 have HKS:=Lib.hid hks
 have hwb:=hinv.lt
 have hle:=kidsTo_leI F K h 0
 have hz0 : (kidsTo F (K.map Int.toNat) h 0).size = h.size:=rfl
 have hsz:=hk.size
 have hkl:=hk.len
 have n1 : ¬ 9223372036854775807 < 1 + nm.size:=by omega
 have g0 : s.size + h.size <= 70368744177664:=by omega
 have HSZ:=Lib.hid g0
 subst htx hty
 have k19 : ((k : Int) == 19) = false:=by simp;omega
 have k21 : ((k : Int) == 21) = false:=by simp;omega
 obtain ⟨lt1,lt2,lt3⟩:=lit1
 have HP : Hid (h.size = (1 + nm.size) + (1 + (goPen.quote text).size)):=Lib.hid (by rw [hh];simp only [ByteArray.size_append,lt1,lt2])
 have HQ:=Lib.hid (fun w2 h2=>quote_any text w2 (HT.out w2 h2) (by omega))
 generalize goPen.quote text = qt at *
 clear hinv hT hh hk hks hle hz0 hsz
 go_enter Tryz.func42,Tryz.ntmps42
 go_wp2_with fail
 obtain ⟨x1,y1⟩:=two_boxes w #[.int .i64 (k : Int),.int .i64 sf,.int .i64 st,.slice ks K.length kc,.string text,.int .i64 B,.string N,.int .i64 D,.string M,.int .i64 num,.int .i64 wf,.int .i64 wt,.slice es en ec] #[.string nm,.int .i64 (le : Nat),.int .i64 mo,.bool true,.bool false] 56 126
 have z1 : s.size + ((⟨#[40]⟩ : ByteArray) ++ nm).size <= 140737488355328:=by rw [ByteArray.size_append,lt2];have:=HP.out;omega
 have hx:=fun w2 (h2 : Below w.heap.size w w2)=>write_any W0 b s (⟨#[40]⟩ ++ nm) w2 (HI.out.step h2) z1
 refine (hx _ (two_alloc _ _ _)).mono ?_
 rintro e w1 ⟨rfl,i1,j1⟩
 have I1:=Lib.hid i1
 have N1:=Lib.hid (box_kept x1 (by decide) (by omega) j1)
 have S1:=Lib.hid (box_kept y1 (by decide) (by omega) j1)
 clear hx z1 x1 y1 i1 j1 HI c0 c1 c2 c3 c4 c5 c6 c7 c8 c9 c10 c11 c12 s0 s1 s2 s3 s4 cl sl
 obtain ⟨a0,a3,a4,a5,a6,a7,a8,a9,al⟩:=Bx.thirteen N1.out
 obtain ⟨p0,p3,p4,pl⟩:=Bx.five S1.out
 go_wp2_with fail
 refine (HQ.out _ I1.out.bel).mono ?_
 rintro e w2 ⟨rfl,q2⟩
 have I2:=Lib.hid (I1.out.step q2)
 have N2:=Lib.hid (N1.out.keep q2)
 have S2:=Lib.hid (S1.out.keep q2)
 clear a0 a3 a4 a5 a6 a7 a8 a9 al p0 p3 p4 pl
 clear q2
 obtain ⟨a0,a3,a4,a5,a6,a7,a8,a9,al⟩:=Bx.thirteen N2.out
 obtain ⟨p0,p3,p4,pl⟩:=Bx.five S2.out
 have m2 : ¬ 9223372036854775807 < 1 + (qt).size:=by have:=HP.out;omega
 go_wp2_with fail
 have z2 : ((s ++ (⟨#[40]⟩ ++ nm)) : ByteArray).size + ((⟨#[32]⟩ : ByteArray) ++ qt).size <= 140737488355328:=by simp only [ByteArray.size_append,lt1,lt2];have:=HP.out;omega
 refine (write_any W0 b _ _ _ I2.out z2).mono ?_
 rintro e w3 ⟨rfl,i3,j3⟩
 have I3:=Lib.hid i3
 have N3:=Lib.hid (box_kept N2.out (by decide) (by omega) j3)
 have S3:=Lib.hid (box_kept S2.out (by decide) (by omega) j3)
 clear a0 a3 a4 a5 a6 a7 a8 a9 al p0 p3 p4 pl
 clear i3 j3 m2 z2
 obtain ⟨a0,a3,a4,a5,a6,a7,a8,a9,al⟩:=Bx.thirteen N3.out
 obtain ⟨p0,p3,p4,pl⟩:=Bx.five S3.out
 go_wp2_with fail
 have IH : Hid (BdInv W0 b (s ++ kidsTo F (K.map Int.toNat) h 0) w3):=Lib.hid (by
  have e : s ++ kidsTo F (K.map Int.toNat) h 0 = ((s ++ (⟨#[40]⟩ ++ nm)) ++ (⟨#[32]⟩ ++ qt)):=by
   show s ++ h = _
   rw [HH.out]
   try simp only [ByteArray.append_assoc]
  rw [e];exact I3.out)
 clear a0 a3 a4 a5 a6 a7 a8 a9 al p0 p3 p4 pl
 clear I1 N1 S1 I2 N2 S2 I3 N3 S3
 go_loopw [56] (fun i wr=>∃ j : Nat,j <= K.length /\ i = .int .i64 j /\ BdInv W0 b (s ++ kidsTo F (K.map Int.toNat) h j) wr) (fun i _=>K.length - (intOf i).toNat)
 case atStart=>exact ⟨0,Nat.zero_le _,rfl,IH.out⟩
 case round =>
  clear IH
  obtain ⟨j,hj,rfl,hi⟩:=hrel
  have HJ:=Lib.hid hi
  clear hi
  have hle:=kidsTo_leI F K h j
  have HSJ : Hid (s.size + (kidsTo F (K.map Int.toNat) h j).size + 1 <= 70368744177664):=Lib.hid (by have:=HK.out.size;omega)
  clear hle
  by_cases hlt : j < K.length
  ·obtain ⟨kb,koff,rfl,hkb,hkrow⟩:=HKS.out (by omega)
   have e0:=keep HJ.out.bel hkb (hkrow j hlt)
   have hnat:=HK.out.nat _ (List.getElem_mem hlt)
   have HREC:=Lib.hid (HK.out.recu _ (List.getElem_mem hlt))
   have HST : Hid (kidsTo F (K.map Int.toNat) h (j + 1) = kidsTo F (K.map Int.toNat) h j ++ ⟨#[32]⟩ ++ F K[j].toNat):=Lib.hid (by
    rw [kidsTo_succ F _ h j (by simpa using hlt)];simp)
   have HS2 : Hid (s.size + (kidsTo F (K.map Int.toNat) h j).size + 1 + (F K[j].toNat).size <= 70368744177664):=Lib.hid (by
    have h1:=kidsTo_leI F K h (j + 1)
    have h2:=HK.out.size
    rw [HST.out] at h1
    simp only [ByteArray.size_append,lt1] at h1
    omega)
   clear hkrow
   generalize K[j] = kj at *
   have z20 : (s ++ kidsTo F (K.map Int.toNat) h j).size + 1 <= 140737488355328:=by rw [ByteArray.size_append];have:=HSJ.out;omega
   have z21 : (s ++ kidsTo F (K.map Int.toNat) h j ++ (⟨#[32]⟩ : ByteArray)).size + (F kj.toNat).size <= 70368744177664:=by simp only [ByteArray.size_append,lt1];have:=HS2.out;omega
   have Z21:=Lib.hid z21
   have HWS:=Lib.hid (writeSp_any W0 b _ wr HJ.out z20)
   clear z20 z21
   go_wp2_with fail
   refine HWS.out.mono ?_
   rintro e w20 ⟨rfl,i20⟩
   have I20:=Lib.hid i20
   clear i20
   go_wp2_with fail
   refine (HREC.out _ _ I20.out Z21.out).mono ?_
   rintro e w21 ⟨rfl,i21⟩
   have I21:=Lib.hid i21
   clear i21 HREC
   go_wp2_with fail
   go_roundw
   case rel=>exact ⟨j + 1,by omega,by go_num,by rw [HST.out];simpa only [ByteArray.append_assoc] using I21.out⟩
   case measure=>simp [intOf];omega
  ·have hj' : j = K.length:=by omega
   subst hj'
   go_wp2_with fail
   have z20 : (s ++ kidsTo F (K.map Int.toNat) h K.length).size + 1 <= 140737488355328:=by rw [ByteArray.size_append];have:=HSJ.out;omega
   refine (writeCl_any W0 b _ _ HJ.out z20).mono ?_
   rintro e w20 ⟨rfl,i20⟩
   have I20:=Lib.hid i20
   clear i20
   go_wp2_with fail
   go_end0
   exact ⟨rfl,by simpa only [ByteArray.append_assoc] using I20.out⟩
theorem form_ft (W0 : World) (b nb noff nn ncap : Nat) (F : Nat -> ByteArray) (a k : Nat) (sf st : Int) (ks : Option Addr) (K : List Int) (kc : Nat) (text : ByteArray) (B : Int) (N : ByteArray) (D : Int) (M : ByteArray) (num wf wt : Int) (es : Option Addr) (en ec : Nat) (nm : ByteArray) (le : Nat) (mo : Int) (tx ty : Bool) (s h : ByteArray) (w : World)
  (c0 : w.cell? ⟨nb,noff + a * 13,none⟩ = some (.int .i64 (k : Int))) (c1 : w.cell? ⟨nb,noff + a * 13 + 1,none⟩ = some (.int .i64 sf)) (c2 : w.cell? ⟨nb,noff + a * 13 + 2,none⟩ = some (.int .i64 st)) (c3 : w.cell? ⟨nb,noff + a * 13 + 3,none⟩ = some (.slice ks K.length kc)) (c4 : w.cell? ⟨nb,noff + a * 13 + 4,none⟩ = some (.string text)) (c5 : w.cell? ⟨nb,noff + a * 13 + 5,none⟩ = some (.int .i64 B)) (c6 : w.cell? ⟨nb,noff + a * 13 + 6,none⟩ = some (.string N)) (c7 : w.cell? ⟨nb,noff + a * 13 + 7,none⟩ = some (.int .i64 D)) (c8 : w.cell? ⟨nb,noff + a * 13 + 8,none⟩ = some (.string M)) (c9 : w.cell? ⟨nb,noff + a * 13 + 9,none⟩ = some (.int .i64 num)) (c10 : w.cell? ⟨nb,noff + a * 13 + 10,none⟩ = some (.int .i64 wf)) (c11 : w.cell? ⟨nb,noff + a * 13 + 11,none⟩ = some (.int .i64 wt)) (c12 : w.cell? ⟨nb,noff + a * 13 + 12,none⟩ = some (.slice es en ec)) (cl : nb < w.heap.size)
  (s0 : w.cell? ⟨1,k * 5,none⟩ = some (.string nm)) (s1 : w.cell? ⟨1,k * 5 + 1,none⟩ = some (.int .i64 (le : Nat))) (s2 : w.cell? ⟨1,k * 5 + 2,none⟩ = some (.int .i64 mo)) (s3 : w.cell? ⟨1,k * 5 + 3,none⟩ = some (.bool tx)) (s4 : w.cell? ⟨1,k * 5 + 4,none⟩ = some (.bool ty)) (sl : 1 < w.heap.size)
  (ha : a < nn) (hks : NumsIn W0 ks K) (hT : Tabs W0) (h0 : 0 < k) (h1 : k < 46) (hbw : W0.heap.size <= b) (hnm : nm.size <= 20) (hss : s.size <= 70368744177664) (hk : FormKids W0 b (.slice (some ⟨nb,noff,none⟩) nn ncap) F K s h) (hinv : BdInv W0 b s w)
  (htx : tx = false) (hty : ty = true) (hNs : N.size <= 200) (hMs : M.size <= 60) (hR : rightB B N D M = true) (hn19 : ¬ k = 19) (hn21 : ¬ k = 21) (hh : h = (⟨#[40]⟩ ++ nm) ++ (⟨#[32]⟩ ++ typeS B N M)) :
  Calls Tryz.prog 42 #[.pointer (some ⟨b,0,none⟩),.slice (some ⟨nb,noff,none⟩) nn ncap,.int .i64 (a : Nat)] w (FormPost W0 b (s ++ (kidsTo F (K.map Int.toNat) h K.length ++ ⟨#[41]⟩))):=by
 have HI:=Lib.hid hinv
 have HT : Hid (∀ w2 : World,Below W0.heap.size W0 w2 -> Tabs w2):=Lib.hid (fun w2 h2=>hT.step h2)
 have HH:=Lib.hid hh
 have HK:=Lib.hid hk
 have HKS:=Lib.hid hks
 have hwb:=hinv.lt
 have hle:=kidsTo_leI F K h 0
 have hz0 : (kidsTo F (K.map Int.toNat) h 0).size = h.size:=rfl
 have hsz:=hk.size
 have hkl:=hk.len
 have n1 : ¬ 9223372036854775807 < 1 + nm.size:=by omega
 have g0 : s.size + h.size <= 70368744177664:=by omega
 have HSZ:=Lib.hid g0
 subst htx hty
 have k19 : ((k : Int) == 19) = false:=by simp;omega
 have k21 : ((k : Int) == 21) = false:=by simp;omega
 obtain ⟨lt1,lt2,lt3⟩:=lit1
 have HP : Hid (h.size = (1 + nm.size) + (1 + (typeS B N M).size)):=Lib.hid (by rw [hh];simp only [ByteArray.size_append,lt1,lt2])
 have HY:=Lib.hid (fun w2=>typeText2_any B N D M w2 (by omega) hMs)
 rw [(ttS_yes2 hR).1] at HY
 generalize typeS B N M = yt at *
 clear hinv hT hh hk hks hle hz0 hsz
 go_enter Tryz.func42,Tryz.ntmps42
 go_wp2_with fail
 obtain ⟨x1,y1⟩:=two_boxes w #[.int .i64 (k : Int),.int .i64 sf,.int .i64 st,.slice ks K.length kc,.string text,.int .i64 B,.string N,.int .i64 D,.string M,.int .i64 num,.int .i64 wf,.int .i64 wt,.slice es en ec] #[.string nm,.int .i64 (le : Nat),.int .i64 mo,.bool false,.bool true] 56 126
 have z1 : s.size + ((⟨#[40]⟩ : ByteArray) ++ nm).size <= 140737488355328:=by rw [ByteArray.size_append,lt2];have:=HP.out;omega
 have hx:=fun w2 (h2 : Below w.heap.size w w2)=>write_any W0 b s (⟨#[40]⟩ ++ nm) w2 (HI.out.step h2) z1
 refine (hx _ (two_alloc _ _ _)).mono ?_
 rintro e w1 ⟨rfl,i1,j1⟩
 have I1:=Lib.hid i1
 have N1:=Lib.hid (box_kept x1 (by decide) (by omega) j1)
 have S1:=Lib.hid (box_kept y1 (by decide) (by omega) j1)
 clear hx z1 x1 y1 i1 j1 HI c0 c1 c2 c3 c4 c5 c6 c7 c8 c9 c10 c11 c12 s0 s1 s2 s3 s4 cl sl
 obtain ⟨a0,a3,a4,a5,a6,a7,a8,a9,al⟩:=Bx.thirteen N1.out
 obtain ⟨p0,p3,p4,pl⟩:=Bx.five S1.out
 go_wp2_with fail
 refine (HY.out _).mono ?_
 rintro e w2 ⟨rfl,q2⟩
 have I2:=Lib.hid (I1.out.step q2)
 have N2:=Lib.hid (N1.out.keep q2)
 have S2:=Lib.hid (S1.out.keep q2)
 clear a0 a3 a4 a5 a6 a7 a8 a9 al p0 p3 p4 pl
 clear q2
 obtain ⟨a0,a3,a4,a5,a6,a7,a8,a9,al⟩:=Bx.thirteen N2.out
 obtain ⟨p0,p3,p4,pl⟩:=Bx.five S2.out
 have m2 : ¬ 9223372036854775807 < 1 + (yt).size:=by have:=HP.out;omega
 go_wp2_with fail
 have z2 : ((s ++ (⟨#[40]⟩ ++ nm)) : ByteArray).size + ((⟨#[32]⟩ : ByteArray) ++ yt).size <= 140737488355328:=by simp only [ByteArray.size_append,lt1,lt2];have:=HP.out;omega
 refine (write_any W0 b _ _ _ I2.out z2).mono ?_
 rintro e w3 ⟨rfl,i3,j3⟩
 have I3:=Lib.hid i3
 have N3:=Lib.hid (box_kept N2.out (by decide) (by omega) j3)
 have S3:=Lib.hid (box_kept S2.out (by decide) (by omega) j3)
 clear a0 a3 a4 a5 a6 a7 a8 a9 al p0 p3 p4 pl
 clear i3 j3 m2 z2
 obtain ⟨a0,a3,a4,a5,a6,a7,a8,a9,al⟩:=Bx.thirteen N3.out
 obtain ⟨p0,p3,p4,pl⟩:=Bx.five S3.out
 go_wp2_with fail
 have IH : Hid (BdInv W0 b (s ++ kidsTo F (K.map Int.toNat) h 0) w3):=Lib.hid (by
  have e : s ++ kidsTo F (K.map Int.toNat) h 0 = ((s ++ (⟨#[40]⟩ ++ nm)) ++ (⟨#[32]⟩ ++ yt)):=by
   show s ++ h = _
   rw [HH.out]
   try simp only [ByteArray.append_assoc]
  rw [e];exact I3.out)
 clear a0 a3 a4 a5 a6 a7 a8 a9 al p0 p3 p4 pl
 clear I1 N1 S1 I2 N2 S2 I3 N3 S3
 go_loopw [56] (fun i wr=>∃ j : Nat,j <= K.length /\ i = .int .i64 j /\ BdInv W0 b (s ++ kidsTo F (K.map Int.toNat) h j) wr) (fun i _=>K.length - (intOf i).toNat)
 case atStart=>exact ⟨0,Nat.zero_le _,rfl,IH.out⟩
 case round =>
  clear IH
  obtain ⟨j,hj,rfl,hi⟩:=hrel
  have HJ:=Lib.hid hi
  clear hi
  have hle:=kidsTo_leI F K h j
  have HSJ : Hid (s.size + (kidsTo F (K.map Int.toNat) h j).size + 1 <= 70368744177664):=Lib.hid (by have:=HK.out.size;omega)
  clear hle
  by_cases hlt : j < K.length
  ·obtain ⟨kb,koff,rfl,hkb,hkrow⟩:=HKS.out (by omega)
   have e0:=keep HJ.out.bel hkb (hkrow j hlt)
   have hnat:=HK.out.nat _ (List.getElem_mem hlt)
   have HREC:=Lib.hid (HK.out.recu _ (List.getElem_mem hlt))
   have HST : Hid (kidsTo F (K.map Int.toNat) h (j + 1) = kidsTo F (K.map Int.toNat) h j ++ ⟨#[32]⟩ ++ F K[j].toNat):=Lib.hid (by
    rw [kidsTo_succ F _ h j (by simpa using hlt)];simp)
   have HS2 : Hid (s.size + (kidsTo F (K.map Int.toNat) h j).size + 1 + (F K[j].toNat).size <= 70368744177664):=Lib.hid (by
    have h1:=kidsTo_leI F K h (j + 1)
    have h2:=HK.out.size
    rw [HST.out] at h1
    simp only [ByteArray.size_append,lt1] at h1
    omega)
   clear hkrow
   generalize K[j] = kj at *
   have z20 : (s ++ kidsTo F (K.map Int.toNat) h j).size + 1 <= 140737488355328:=by rw [ByteArray.size_append];have:=HSJ.out;omega
   have z21 : (s ++ kidsTo F (K.map Int.toNat) h j ++ (⟨#[32]⟩ : ByteArray)).size + (F kj.toNat).size <= 70368744177664:=by simp only [ByteArray.size_append,lt1];have:=HS2.out;omega
   have Z21:=Lib.hid z21
   have HWS:=Lib.hid (writeSp_any W0 b _ wr HJ.out z20)
   clear z20 z21
   go_wp2_with fail
   refine HWS.out.mono ?_
   rintro e w20 ⟨rfl,i20⟩
   have I20:=Lib.hid i20
   clear i20
   go_wp2_with fail
   refine (HREC.out _ _ I20.out Z21.out).mono ?_
   rintro e w21 ⟨rfl,i21⟩
   have I21:=Lib.hid i21
   clear i21 HREC
   go_wp2_with fail
   go_roundw
   case rel=>exact ⟨j + 1,by omega,by go_num,by rw [HST.out];simpa only [ByteArray.append_assoc] using I21.out⟩
   case measure=>simp [intOf];omega
  ·have hj' : j = K.length:=by omega
   subst hj'
   go_wp2_with fail
   have z20 : (s ++ kidsTo F (K.map Int.toNat) h K.length).size + 1 <= 140737488355328:=by rw [ByteArray.size_append];have:=HSJ.out;omega
   refine (writeCl_any W0 b _ _ HJ.out z20).mono ?_
   rintro e w20 ⟨rfl,i20⟩
   have I20:=Lib.hid i20
   clear i20
   go_wp2_with fail
   go_end0
   exact ⟨rfl,by simpa only [ByteArray.append_assoc] using I20.out⟩
theorem form_tt (W0 : World) (b nb noff nn ncap : Nat) (F : Nat -> ByteArray) (a k : Nat) (sf st : Int) (ks : Option Addr) (K : List Int) (kc : Nat) (text : ByteArray) (B : Int) (N : ByteArray) (D : Int) (M : ByteArray) (num wf wt : Int) (es : Option Addr) (en ec : Nat) (nm : ByteArray) (le : Nat) (mo : Int) (tx ty : Bool) (s h : ByteArray) (w : World)
  (c0 : w.cell? ⟨nb,noff + a * 13,none⟩ = some (.int .i64 (k : Int))) (c1 : w.cell? ⟨nb,noff + a * 13 + 1,none⟩ = some (.int .i64 sf)) (c2 : w.cell? ⟨nb,noff + a * 13 + 2,none⟩ = some (.int .i64 st)) (c3 : w.cell? ⟨nb,noff + a * 13 + 3,none⟩ = some (.slice ks K.length kc)) (c4 : w.cell? ⟨nb,noff + a * 13 + 4,none⟩ = some (.string text)) (c5 : w.cell? ⟨nb,noff + a * 13 + 5,none⟩ = some (.int .i64 B)) (c6 : w.cell? ⟨nb,noff + a * 13 + 6,none⟩ = some (.string N)) (c7 : w.cell? ⟨nb,noff + a * 13 + 7,none⟩ = some (.int .i64 D)) (c8 : w.cell? ⟨nb,noff + a * 13 + 8,none⟩ = some (.string M)) (c9 : w.cell? ⟨nb,noff + a * 13 + 9,none⟩ = some (.int .i64 num)) (c10 : w.cell? ⟨nb,noff + a * 13 + 10,none⟩ = some (.int .i64 wf)) (c11 : w.cell? ⟨nb,noff + a * 13 + 11,none⟩ = some (.int .i64 wt)) (c12 : w.cell? ⟨nb,noff + a * 13 + 12,none⟩ = some (.slice es en ec)) (cl : nb < w.heap.size)
  (s0 : w.cell? ⟨1,k * 5,none⟩ = some (.string nm)) (s1 : w.cell? ⟨1,k * 5 + 1,none⟩ = some (.int .i64 (le : Nat))) (s2 : w.cell? ⟨1,k * 5 + 2,none⟩ = some (.int .i64 mo)) (s3 : w.cell? ⟨1,k * 5 + 3,none⟩ = some (.bool tx)) (s4 : w.cell? ⟨1,k * 5 + 4,none⟩ = some (.bool ty)) (sl : 1 < w.heap.size)
  (ha : a < nn) (hks : NumsIn W0 ks K) (hT : Tabs W0) (h0 : 0 < k) (h1 : k < 46) (hbw : W0.heap.size <= b) (hnm : nm.size <= 20) (hss : s.size <= 70368744177664) (hk : FormKids W0 b (.slice (some ⟨nb,noff,none⟩) nn ncap) F K s h) (hinv : BdInv W0 b s w)
  (htx : tx = true) (hty : ty = true) (htext : text.size <= 260) (hNs : N.size <= 200) (hMs : M.size <= 60) (hR : rightB B N D M = true) (hn19 : ¬ k = 19) (hn21 : ¬ k = 21) (hh : h = (⟨#[40]⟩ ++ nm) ++ (⟨#[32]⟩ ++ goPen.quote text) ++ (⟨#[32]⟩ ++ typeS B N M)) :
  Calls Tryz.prog 42 #[.pointer (some ⟨b,0,none⟩),.slice (some ⟨nb,noff,none⟩) nn ncap,.int .i64 (a : Nat)] w (FormPost W0 b (s ++ (kidsTo F (K.map Int.toNat) h K.length ++ ⟨#[41]⟩))):=by
 have HI:=Lib.hid hinv
 have HT : Hid (∀ w2 : World,Below W0.heap.size W0 w2 -> Tabs w2):=Lib.hid (fun w2 h2=>hT.step h2)
 have HH:=Lib.hid hh
 have HK:=Lib.hid hk
 have HKS:=Lib.hid hks
 have hwb:=hinv.lt
 have hle:=kidsTo_leI F K h 0
 have hz0 : (kidsTo F (K.map Int.toNat) h 0).size = h.size:=rfl
 have hsz:=hk.size
 have hkl:=hk.len
 have n1 : ¬ 9223372036854775807 < 1 + nm.size:=by omega
 have g0 : s.size + h.size <= 70368744177664:=by omega
 have HSZ:=Lib.hid g0
 subst htx hty
 have k19 : ((k : Int) == 19) = false:=by simp;omega
 have k21 : ((k : Int) == 21) = false:=by simp;omega
 obtain ⟨lt1,lt2,lt3⟩:=lit1
 have HP : Hid (h.size = (1 + nm.size) + (1 + (goPen.quote text).size) + (1 + (typeS B N M).size)):=Lib.hid (by rw [hh];simp only [ByteArray.size_append,lt1,lt2])
 have HQ:=Lib.hid (fun w2 h2=>quote_any text w2 (HT.out w2 h2) (by omega))
 generalize goPen.quote text = qt at *
 have HY:=Lib.hid (fun w2=>typeText2_any B N D M w2 (by omega) hMs)
 rw [(ttS_yes2 hR).1] at HY
 generalize typeS B N M = yt at *
 clear hinv hT hh hk hks hle hz0 hsz
 go_enter Tryz.func42,Tryz.ntmps42
 go_wp2_with fail
 obtain ⟨x1,y1⟩:=two_boxes w #[.int .i64 (k : Int),.int .i64 sf,.int .i64 st,.slice ks K.length kc,.string text,.int .i64 B,.string N,.int .i64 D,.string M,.int .i64 num,.int .i64 wf,.int .i64 wt,.slice es en ec] #[.string nm,.int .i64 (le : Nat),.int .i64 mo,.bool true,.bool true] 56 126
 have z1 : s.size + ((⟨#[40]⟩ : ByteArray) ++ nm).size <= 140737488355328:=by rw [ByteArray.size_append,lt2];have:=HP.out;omega
 have hx:=fun w2 (h2 : Below w.heap.size w w2)=>write_any W0 b s (⟨#[40]⟩ ++ nm) w2 (HI.out.step h2) z1
 refine (hx _ (two_alloc _ _ _)).mono ?_
 rintro e w1 ⟨rfl,i1,j1⟩
 have I1:=Lib.hid i1
 have N1:=Lib.hid (box_kept x1 (by decide) (by omega) j1)
 have S1:=Lib.hid (box_kept y1 (by decide) (by omega) j1)
 clear hx z1 x1 y1 i1 j1 HI c0 c1 c2 c3 c4 c5 c6 c7 c8 c9 c10 c11 c12 s0 s1 s2 s3 s4 cl sl
 obtain ⟨a0,a3,a4,a5,a6,a7,a8,a9,al⟩:=Bx.thirteen N1.out
 obtain ⟨p0,p3,p4,pl⟩:=Bx.five S1.out
 go_wp2_with fail
 refine (HQ.out _ I1.out.bel).mono ?_
 rintro e w2 ⟨rfl,q2⟩
 have I2:=Lib.hid (I1.out.step q2)
 have N2:=Lib.hid (N1.out.keep q2)
 have S2:=Lib.hid (S1.out.keep q2)
 clear a0 a3 a4 a5 a6 a7 a8 a9 al p0 p3 p4 pl
 clear q2
 obtain ⟨a0,a3,a4,a5,a6,a7,a8,a9,al⟩:=Bx.thirteen N2.out
 obtain ⟨p0,p3,p4,pl⟩:=Bx.five S2.out
 have m2 : ¬ 9223372036854775807 < 1 + (qt).size:=by have:=HP.out;omega
 go_wp2_with fail
 have z2 : ((s ++ (⟨#[40]⟩ ++ nm)) : ByteArray).size + ((⟨#[32]⟩ : ByteArray) ++ qt).size <= 140737488355328:=by simp only [ByteArray.size_append,lt1,lt2];have:=HP.out;omega
 refine (write_any W0 b _ _ _ I2.out z2).mono ?_
 rintro e w3 ⟨rfl,i3,j3⟩
 have I3:=Lib.hid i3
 have N3:=Lib.hid (box_kept N2.out (by decide) (by omega) j3)
 have S3:=Lib.hid (box_kept S2.out (by decide) (by omega) j3)
 clear a0 a3 a4 a5 a6 a7 a8 a9 al p0 p3 p4 pl
 clear i3 j3 m2 z2
 obtain ⟨a0,a3,a4,a5,a6,a7,a8,a9,al⟩:=Bx.thirteen N3.out
 obtain ⟨p0,p3,p4,pl⟩:=Bx.five S3.out
 go_wp2_with fail
 refine (HY.out _).mono ?_
 rintro e w4 ⟨rfl,q4⟩
 have I4:=Lib.hid (I3.out.step q4)
 have N4:=Lib.hid (N3.out.keep q4)
 have S4:=Lib.hid (S3.out.keep q4)
 clear a0 a3 a4 a5 a6 a7 a8 a9 al p0 p3 p4 pl
 clear q4
 obtain ⟨a0,a3,a4,a5,a6,a7,a8,a9,al⟩:=Bx.thirteen N4.out
 obtain ⟨p0,p3,p4,pl⟩:=Bx.five S4.out
 have m4 : ¬ 9223372036854775807 < 1 + (yt).size:=by have:=HP.out;omega
 go_wp2_with fail
 have z4 : (((s ++ (⟨#[40]⟩ ++ nm)) ++ (⟨#[32]⟩ ++ qt)) : ByteArray).size + ((⟨#[32]⟩ : ByteArray) ++ yt).size <= 140737488355328:=by simp only [ByteArray.size_append,lt1,lt2];have:=HP.out;omega
 refine (write_any W0 b _ _ _ I4.out z4).mono ?_
 rintro e w5 ⟨rfl,i5,j5⟩
 have I5:=Lib.hid i5
 have N5:=Lib.hid (box_kept N4.out (by decide) (by omega) j5)
 have S5:=Lib.hid (box_kept S4.out (by decide) (by omega) j5)
 clear a0 a3 a4 a5 a6 a7 a8 a9 al p0 p3 p4 pl
 clear i5 j5 m4 z4
 obtain ⟨a0,a3,a4,a5,a6,a7,a8,a9,al⟩:=Bx.thirteen N5.out
 obtain ⟨p0,p3,p4,pl⟩:=Bx.five S5.out
 go_wp2_with fail
 have IH : Hid (BdInv W0 b (s ++ kidsTo F (K.map Int.toNat) h 0) w5):=Lib.hid (by
  have e : s ++ kidsTo F (K.map Int.toNat) h 0 = (((s ++ (⟨#[40]⟩ ++ nm)) ++ (⟨#[32]⟩ ++ qt)) ++ (⟨#[32]⟩ ++ yt)):=by
   show s ++ h = _
   rw [HH.out]
   try simp only [ByteArray.append_assoc]
  rw [e];exact I5.out)
 clear a0 a3 a4 a5 a6 a7 a8 a9 al p0 p3 p4 pl
 clear I1 N1 S1 I2 N2 S2 I3 N3 S3 I4 N4 S4 I5 N5 S5
 go_loopw [56] (fun i wr=>∃ j : Nat,j <= K.length /\ i = .int .i64 j /\ BdInv W0 b (s ++ kidsTo F (K.map Int.toNat) h j) wr) (fun i _=>K.length - (intOf i).toNat)
 case atStart=>exact ⟨0,Nat.zero_le _,rfl,IH.out⟩
 case round =>
  clear IH
  obtain ⟨j,hj,rfl,hi⟩:=hrel
  have HJ:=Lib.hid hi
  clear hi
  have hle:=kidsTo_leI F K h j
  have HSJ : Hid (s.size + (kidsTo F (K.map Int.toNat) h j).size + 1 <= 70368744177664):=Lib.hid (by have:=HK.out.size;omega)
  clear hle
  by_cases hlt : j < K.length
  ·obtain ⟨kb,koff,rfl,hkb,hkrow⟩:=HKS.out (by omega)
   have e0:=keep HJ.out.bel hkb (hkrow j hlt)
   have hnat:=HK.out.nat _ (List.getElem_mem hlt)
   have HREC:=Lib.hid (HK.out.recu _ (List.getElem_mem hlt))
   have HST : Hid (kidsTo F (K.map Int.toNat) h (j + 1) = kidsTo F (K.map Int.toNat) h j ++ ⟨#[32]⟩ ++ F K[j].toNat):=Lib.hid (by
    rw [kidsTo_succ F _ h j (by simpa using hlt)];simp)
   have HS2 : Hid (s.size + (kidsTo F (K.map Int.toNat) h j).size + 1 + (F K[j].toNat).size <= 70368744177664):=Lib.hid (by
    have h1:=kidsTo_leI F K h (j + 1)
    have h2:=HK.out.size
    rw [HST.out] at h1
    simp only [ByteArray.size_append,lt1] at h1
    omega)
   clear hkrow
   generalize K[j] = kj at *
   have z20 : (s ++ kidsTo F (K.map Int.toNat) h j).size + 1 <= 140737488355328:=by rw [ByteArray.size_append];have:=HSJ.out;omega
   have z21 : (s ++ kidsTo F (K.map Int.toNat) h j ++ (⟨#[32]⟩ : ByteArray)).size + (F kj.toNat).size <= 70368744177664:=by simp only [ByteArray.size_append,lt1];have:=HS2.out;omega
   have Z21:=Lib.hid z21
   have HWS:=Lib.hid (writeSp_any W0 b _ wr HJ.out z20)
   clear z20 z21
   go_wp2_with fail
   refine HWS.out.mono ?_
   rintro e w20 ⟨rfl,i20⟩
   have I20:=Lib.hid i20
   clear i20
   go_wp2_with fail
   refine (HREC.out _ _ I20.out Z21.out).mono ?_
   rintro e w21 ⟨rfl,i21⟩
   have I21:=Lib.hid i21
   clear i21 HREC
   go_wp2_with fail
   go_roundw
   case rel=>exact ⟨j + 1,by omega,by go_num,by rw [HST.out];simpa only [ByteArray.append_assoc] using I21.out⟩
   case measure=>simp [intOf];omega
  ·have hj' : j = K.length:=by omega
   subst hj'
   go_wp2_with fail
   have z20 : (s ++ kidsTo F (K.map Int.toNat) h K.length).size + 1 <= 140737488355328:=by rw [ByteArray.size_append];have:=HSJ.out;omega
   refine (writeCl_any W0 b _ _ HJ.out z20).mono ?_
   rintro e w20 ⟨rfl,i20⟩
   have I20:=Lib.hid i20
   clear i20
   go_wp2_with fail
   go_end0
   exact ⟨rfl,by simpa only [ByteArray.append_assoc] using I20.out⟩
end Go.Proofs.YtcllbfijhgiclaaGreatDoor
