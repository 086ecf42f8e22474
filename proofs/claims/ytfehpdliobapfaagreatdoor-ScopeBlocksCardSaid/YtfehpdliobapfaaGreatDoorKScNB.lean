/- For any text and any numbers,ScopeBlocks,ScopeUses and ScopeMany return true and leave their arguments as they were. -/
import Derived.Test.YtfehpdliobapfaaGreatDoorKScMW
import Derived.Test.YtfehpdliobapfaaGreatDoorKScMR
set_option maxRecDepth 100000
set_option maxHeartbeats 400000000
set_option linter.unusedVariables false
set_option linter.unusedSimpArgs false
namespace Go.Proofs.YtfehpdliobapfaaGreatDoor.S
open Go Go.RowKit
theorem blk_way0:∀ d,d<21->blkOk 0 d=true:=by decide +kernel
theorem blk_way1:∀ d,d<21->blkOk 1 d=true:=by decide +kernel
theorem blk_way2:∀ d,d<21->blkOk 2 d=true:=by decide +kernel
theorem blk_way3:∀ d,d<21->blkOk 3 d=true:=by decide +kernel
theorem blk_all (a:Nat) (ha:a<4) (d:Nat) (hd:d<21):blkOk a d=true:=by
 rcases (by omega:a=0\/a=1\/a=2\/a=3) with rfl|rfl|rfl|rfl
 ·exact blk_way0 d hd
 ·exact blk_way1 d hd
 ·exact blk_way2 d hd
 ·exact blk_way3 d hd
theorem blk_text0 (n:Nat):((⟨#[99,108,97,115,115,32,65,32,123,32,118,111,105,100,32,102,40,41,32]⟩:ByteArray) ++ ((⟨#[123,32,105,110,116,32,120,32,61,32,49,59,32]⟩:ByteArray) ++ runL 123 n ++ (⟨#[32,112,114,105,110,116,40,120,41,59,32]⟩:ByteArray) ++ runL 125 n ++ (⟨#[32,125]⟩:ByteArray)) ++ (⟨#[32,125]⟩:ByteArray))=⟨(blkL 0 n).toArray⟩:=by
 apply ByteArray.ext
 simp only [ByteArray.data_append]
 apply Array.ext'
 simp only [Array.toList_append]
 unfold runL blkL
 simp only [List.append_assoc]
theorem blk_text1 (n:Nat):((⟨#[99,108,97,115,115,32,65,32,123,32,118,111,105,100,32,102,40,41,32]⟩:ByteArray) ++ ((⟨#[123,32]⟩:ByteArray) ++ runL 123 n ++ (⟨#[32,112,114,105,110,116,40,120,41,59,32]⟩:ByteArray) ++ runL 125 n ++ (⟨#[32,105,110,116,32,120,32,61,32,49,59,32,125]⟩:ByteArray)) ++ (⟨#[32,125]⟩:ByteArray))=⟨(blkL 1 n).toArray⟩:=by
 apply ByteArray.ext
 simp only [ByteArray.data_append]
 apply Array.ext'
 simp only [Array.toList_append]
 unfold runL blkL
 simp only [List.append_assoc]
theorem blk_text2 (n:Nat):((⟨#[99,108,97,115,115,32,65,32,123,32,118,111,105,100,32,102,40,41,32]⟩:ByteArray) ++ ((⟨#[123,32]⟩:ByteArray) ++ runL 123 n ++ (⟨#[32,105,110,116,32,120,32,61,32,49,59,32]⟩:ByteArray) ++ runL 125 n ++ (⟨#[32,112,114,105,110,116,40,120,41,59,32,125]⟩:ByteArray)) ++ (⟨#[32,125]⟩:ByteArray))=⟨(blkL 2 n).toArray⟩:=by
 apply ByteArray.ext
 simp only [ByteArray.data_append]
 apply Array.ext'
 simp only [Array.toList_append]
 unfold runL blkL
 simp only [List.append_assoc]
theorem blk_text3 (n:Nat):((⟨#[99,108,97,115,115,32,65,32,123,32,118,111,105,100,32,102,40,41,32]⟩:ByteArray) ++ ((⟨#[123,32,105,110,116,32,120,32,61,32,120,59,32]⟩:ByteArray) ++ runL 123 n ++ runL 125 n ++ (⟨#[32,125]⟩:ByteArray)) ++ (⟨#[32,125]⟩:ByteArray))=⟨(blkL 3 n).toArray⟩:=by
 apply ByteArray.ext
 simp only [ByteArray.data_append]
 apply Array.ext'
 simp only [Array.toList_append]
 unfold runL blkL
 simp only [List.append_assoc]
structure BlkR (x:ByteArray) (good:Bool):Prop where
 size:x.size<=maxLen
 is:∃ l,parsedX x=(l,0,0)/\(∀ y ∈ l,NdFit y)/\(good=true->∃ s,ofS l ((l.length:Int)-1) (methS l 0) = .ok s)/\(good=false->∃ z,ofS l ((l.length:Int)-1) (methS l 0) = .error (3,z))
theorem blk_of {x:ByteArray} {a d:Nat} (hx:x=⟨(blkL a d).toArray⟩) (ha:a<4) (hd:d<21):BlkR x (goodB a d):=by
 have h:=blk_all a ha d hd
 unfold blkOk at h
 rw [<- hx,<- parsed_fast] at h
 constructor
 ·have e:x.size=(blkL a d).length:=by rw [hx];rfl
  rw [e]
  unfold blkL maxLen
  split<;>simp<;>omega
 ·generalize parsedX x=R at h ⊢
  obtain ⟨l,c,z⟩:=R
  dsimp only at h ⊢
  simp only [Bool.and_eq_true,decide_eq_true_eq] at h
  obtain ⟨⟨⟨h1,h2⟩,h3⟩,h4⟩:=h
  refine ⟨l,by rw [h1,h2],fit_of h3,fun hg=>?_,fun hg=>?_⟩
  ·cases ho:ofS l ((l.length:Int)-1) (methS l 0) with
   | ok s=>exact ⟨s,rfl⟩
   | error e=>rw [ho] at h4;simp [hg] at h4
  ·cases ho:ofS l ((l.length:Int)-1) (methS l 0) with
   | ok s=>rw [ho] at h4;simp [hg] at h4
   | error e =>
    obtain ⟨c,z⟩:=e
    rw [ho] at h4
    simp at h4
    exact ⟨z,by rw [h4.2]⟩
theorem bel_alloc {W w:World} (h:Below W.heap.size W w) (o:Obj):Below W.heap.size W (w.alloc o):=h.alloc h.size o
theorem bel_set {W w:World} {p:Addr} (h:Below W.heap.size W w) (v:Value) (hp:W.heap.size<=p.block):Below W.heap.size W (w.setCell p v):=h.setCell hp v
theorem new_boxd {w w1:World} {T:TypeId} {cs:Array Value} (h:Below (w.alloc (.cells cs T)).drew.heap.size (w.alloc (.cells cs T)).drew w1):Bx T w1 w.heap.size cs.toList :=
 ((Bx.new T w cs).keep ((Below.refl _ _).drew)).keep h
theorem index4s_0 (a b c d:ByteArray) (w:World):Sem.run Tryz.prog (Instr.index 97 (.agg #[.string a,.string b,.string c,.string d]) (.int .i64 0)) w=Result.ok (.string a) w:=by kernel_rfl
theorem index4s_1 (a b c d:ByteArray) (w:World):Sem.run Tryz.prog (Instr.index 97 (.agg #[.string a,.string b,.string c,.string d]) (.int .i64 1)) w=Result.ok (.string b) w:=by kernel_rfl
theorem index4s_2 (a b c d:ByteArray) (w:World):Sem.run Tryz.prog (Instr.index 97 (.agg #[.string a,.string b,.string c,.string d]) (.int .i64 2)) w=Result.ok (.string c) w:=by kernel_rfl
theorem index4s_3 (a b c d:ByteArray) (w:World):Sem.run Tryz.prog (Instr.index 97 (.agg #[.string a,.string b,.string c,.string d]) (.int .i64 3)) w=Result.ok (.string d) w:=by kernel_rfl
theorem blk_out (n way:Int) (w:World) (hT:ShTab w) (h:n<0\/20<n\/way<0\/3<way):Calls Tryz.prog 12 #[.int .i64 n,.int .i64 way] w fun e w'=>e = .returned (.bool true)/\Below w.heap.size w w':=by
 have HR:=Lib.hid (means_any w hT)
 have HH:=Lib.hid h
 clear h
 by_cases h0:n<0
 ·have p0:decide (n<0)=true:=decide_eq_true h0
  clear h0 hT
  go_enter Tryz.func12,Tryz.ntmps12
  go_wp2_with fail
  refine HR.out.mono ?_
  rintro e w1 ⟨rfl,hb⟩
  have B1:=Lib.hid hb
  clear hb
  go_wp2_with fail
  go_ret
  exact ⟨rfl,B1.out⟩
 have p0:decide (n<0)=false:=decide_eq_false h0
 by_cases h1:20<n
 ·have p1:decide (20<n)=true:=decide_eq_true h1
  clear h0 h1 hT
  go_enter Tryz.func12,Tryz.ntmps12
  go_wp2_with fail
  refine HR.out.mono ?_
  rintro e w1 ⟨rfl,hb⟩
  have B1:=Lib.hid hb
  clear hb
  go_wp2_with fail
  go_ret
  exact ⟨rfl,B1.out⟩
 have p1:decide (20<n)=false:=decide_eq_false h1
 by_cases h2:way<0
 ·have p2:decide (way<0)=true:=decide_eq_true h2
  clear h0 h1 h2 hT
  go_enter Tryz.func12,Tryz.ntmps12
  go_wp2_with fail
  refine HR.out.mono ?_
  rintro e w1 ⟨rfl,hb⟩
  have B1:=Lib.hid hb
  clear hb
  go_wp2_with fail
  go_ret
  exact ⟨rfl,B1.out⟩
 have p2:decide (way<0)=false:=decide_eq_false h2
 have p3:decide (3<way)=true:=decide_eq_true (by have:=HH.out;omega)
 clear h0 h1 h2 hT
 go_enter Tryz.func12,Tryz.ntmps12
 go_wp2_with fail
 refine HR.out.mono ?_
 rintro e w1 ⟨rfl,hb⟩
 have B1:=Lib.hid hb
 clear hb
 go_wp2_with fail
 go_ret
 exact ⟨rfl,B1.out⟩
theorem blk_0y (n:Nat) (hn:n<=20) (w:World) (hT:ShTab w):Calls Tryz.prog 12 #[.int .i64 (n:Nat),.int .i64 0] w fun e w'=>e = .returned (.bool true)/\Below w.heap.size w w':=by
 have HR:=Lib.hid (means_any w hT)
 have HT:=Lib.hid hT
 have hB:=blk_of (blk_text0 n) (by decide) (show n<21 by omega)
 obtain ⟨l,hl,hfit,hyes,hno⟩:=hB.is
 obtain ⟨s,hs⟩:=hyes (by unfold goodB;simp)
 have HPS:=Lib.hid (fun (w2:World)=>parse_yes _ w2 hB.size (by rw [hl]))
 rw [hl] at HPS
 have HOF:=Lib.hid hs
 have HFT:=Lib.hid hfit
 have HP0:=Lib.hid (fun (w2:World)=>repL_any 123 n w2 (by omega))
 have HP1:=Lib.hid (fun (w2:World)=>repL_any 125 n w2 (by omega))
 have sz0:¬ 9223372036854775807<13+(runL 123 n).size:=by simp only [runL_size];omega
 have sz1:¬ 9223372036854775807<13+(runL 123 n).size+11:=by simp only [runL_size];omega
 have sz2:¬ 9223372036854775807<13+(runL 123 n).size+11+(runL 125 n).size:=by simp only [runL_size];omega
 have sz3:¬ 9223372036854775807<13+(runL 123 n).size+11+(runL 125 n).size+2:=by simp only [runL_size];omega
 have sz4:¬ 9223372036854775807<2+(runL 123 n).size:=by simp only [runL_size];omega
 have sz5:¬ 9223372036854775807<2+(runL 123 n).size+11:=by simp only [runL_size];omega
 have sz6:¬ 9223372036854775807<2+(runL 123 n).size+11+(runL 125 n).size:=by simp only [runL_size];omega
 have sz7:¬ 9223372036854775807<2+(runL 123 n).size+11+(runL 125 n).size+13:=by simp only [runL_size];omega
 have sz8:¬ 9223372036854775807<2+(runL 123 n).size+12:=by simp only [runL_size];omega
 have sz9:¬ 9223372036854775807<2+(runL 123 n).size+12+(runL 125 n).size:=by simp only [runL_size];omega
 have sz10:¬ 9223372036854775807<2+(runL 123 n).size+12+(runL 125 n).size+12:=by simp only [runL_size];omega
 have sz11:¬ 9223372036854775807<13+(runL 123 n).size+(runL 125 n).size:=by simp only [runL_size];omega
 have sz12:¬ 9223372036854775807<13+(runL 123 n).size+(runL 125 n).size+2:=by simp only [runL_size];omega
 have sz13:¬ 9223372036854775807<19+(13+(runL 123 n).size+11+(runL 125 n).size+2):=by simp only [runL_size];omega
 have sz14:¬ 9223372036854775807<19+(13+(runL 123 n).size+11+(runL 125 n).size+2)+2:=by simp only [runL_size];omega
 have z0:(0:Int)<=(n:Int):=by omega
 have p1:decide ((n:Int)<0)=false:=decide_eq_false (by omega)
 have p2:decide ((20:Int)<(n:Int))=false:=decide_eq_false (by omega)
 have hix:=index4s_0
 clear hT hs hl hfit hyes hno hB
 go_enter Tryz.func12,Tryz.ntmps12
 go_wp2_with fail
 refine HR.out.mono ?_
 rintro e w1 ⟨rfl,hb⟩
 have B1:=Lib.hid hb
 clear hb
 go_wp2_with fail
 refine (HP0.out _).mono ?_
 rintro e w2 ⟨rfl,hb⟩
 have B2:=Lib.hid (after B1.out hb)
 clear hb B1
 go_wp2_with fail
 refine (HP1.out _).mono ?_
 rintro e w3 ⟨rfl,hb⟩
 have B3:=Lib.hid (after B2.out hb)
 clear hb B2
 go_wp2_with fail
 refine (HPS.out _).mono ?_
 rintro e w4 ⟨hb,s1,c1,rfl,hn1,hl1⟩
 have B4:=Lib.hid (after B3.out hb)
 have N4:=Lib.hid hn1
 have L4:=Lib.hid hl1
 clear hb hn1 hl1 B3 HPS
 clear sz0;clear sz1;clear sz2;clear sz3;clear sz4;clear sz5;clear sz6;clear sz7;clear sz8;clear sz9;clear sz10;clear sz11;clear sz12;clear sz13;clear sz14
 have T13:Hid (Bx 25 ((w4.alloc (.cells #[.slice s1 l.length c1,.int .i64 ((l.length:Int)-1)] 25)).alloc (.cells #[.int .i64 0,.int .i64 0] 28)) w4.heap.size [.slice s1 l.length c1,.int .i64 ((l.length:Int)-1)]):=Lib.hid ((Bx.new 25 w4 #[.slice s1 l.length c1,.int .i64 ((l.length:Int)-1)]).alloc _)
 have F13:Hid (Bx 28 ((w4.alloc (.cells #[.slice s1 l.length c1,.int .i64 ((l.length:Int)-1)] 25)).alloc (.cells #[.int .i64 0,.int .i64 0] 28)) (w4.heap.size+1) [.int .i64 0,.int .i64 0]):=Lib.hid (by
  have:=Bx.new 28 (w4.alloc (.cells #[.slice s1 l.length c1,.int .i64 ((l.length:Int)-1)] 25)) #[.int .i64 0,.int .i64 0]
  simpa using this)
 have BT2:Hid (Below w4.heap.size w4 ((w4.alloc (.cells #[.slice s1 l.length c1,.int .i64 ((l.length:Int)-1)] 25)).alloc (.cells #[.int .i64 0,.int .i64 0] 28))):=Lib.hid (by repeat (first|exact Below.refl _ _|apply Below.setCell _ (by first|omega|(simp<;>omega))|apply Below.alloc _ (by first|omega|(simp<;>omega))))
 go_wp2_with fail
 generalize ((w4.alloc (.cells #[.slice s1 l.length c1,.int .i64 ((l.length:Int)-1)] 25)).alloc (.cells #[.int .i64 0,.int .i64 0] 28))=w13 at *
 have B13:=Lib.hid (after B4.out BT2.out)
 have HME:=Lib.hid (fun (W:World) (hb:Below w13.heap.size w13 W)=>method_any l (.slice s1 l.length c1) ((l.length:Int)-1) 0 W (N4.out.nds.step (after BT2.out hb)) (by have:=L4.out;omega) (by unfold In64;omega))
 have HO:=Lib.hid (fun (W:World) (hb:Below w13.heap.size w13 W)=>of_any l (.slice s1 l.length c1) ((l.length:Int)-1) (methS l 0) W (HT.out.step (after B13.out hb)) (N4.out.nds.step (after BT2.out hb)) (by have:=L4.out;omega) HFT.out)
 have HOE:Hid (∀ W:World,Below w13.heap.size w13 W->Calls Tryz.prog 45 #[.agg #[.slice s1 l.length c1,.int .i64 ((l.length:Int)-1)],.int .i64 (methS l 0)] W fun e w'=>∃ sb,e = .returned (.tuple #[.pointer (some ⟨sb,0,none⟩),.agg #[.int .i64 0,.int .i64 0]])/\Below W.heap.size W w'):=Lib.hid (fun W hb=>(HO.out W hb).mono (by
  rintro e w' ⟨hb',⟨k,z',hr,he,-⟩|⟨s,S,hr,he,-⟩⟩
  ·rw [HOF.out] at hr;cases hr
  ·exact ⟨_,he,hb'⟩))
 clear HO
 generalize methS l 0=m2 at *
 obtain ⟨n2,hnn2⟩:∃ n2,l.length=n2:=⟨_,rfl⟩
 rw [hnn2] at HME HOE T13 ⊢
 have HALL:Hid (∀ W:World,Below w13.heap.size w13 W->W.cell? ⟨w4.heap.size,0,none⟩=some (.slice s1 n2 c1)/\W.cell? ⟨w4.heap.size,1,none⟩=some (.int .i64 ((n2:Int)-1))/\W.cell? ⟨w4.heap.size+1,0,none⟩=some (.int .i64 0)/\w13.heap.size<=W.heap.size/\Below w13.heap.size w13 W):=Lib.hid (fun W h=>⟨(T13.out.keep h).cell 0,(T13.out.keep h).cell 1,(F13.out.keep h).cell 0,h.size,h⟩)
 clear hnn2
 go_region_held3 (fun W=>W.cell? ⟨w4.heap.size,0,none⟩=some (.slice s1 n2 c1)/\W.cell? ⟨w4.heap.size,1,none⟩=some (.int .i64 ((n2:Int)-1))/\W.cell? ⟨w4.heap.size+1,0,none⟩=some (.int .i64 0)/\w13.heap.size<=W.heap.size/\Below w13.heap.size w13 W) (first|exact HALL.out _ ((Below.refl _ _).drew)|exact HALL.out _ ((bel_alloc (Below.refl _ _) _).drew)|exact HALL.out _ (after (by assumption) hb2)|(go_split_ands;exact HALL.out _ (bel_alloc (by assumption) _))|exact HALL.out _ (bel_alloc (after (by assumption) hb2) _)|(go_split_ands;exact HALL.out _ (bel_set (bel_set (by assumption) _ (by first|assumption|exact Nat.le_refl _|omega)) _ (by first|assumption|exact Nat.le_refl _|omega)))|(go_split_ands;exact HALL.out _ (bel_set (bel_set (after (by assumption) hb2) _ (by first|assumption|exact Nat.le_refl _|omega)) _ (by first|assumption|exact Nat.le_refl _|omega)))) (first|(go_at_call 44;go_split_ands;refine (HME.out _ (by assumption)).mono ?_;rintro e w5 ⟨rfl,hb2⟩;have hs5:=(after (show Below w13.heap.size w13 _ from by assumption) hb2).size;(first|(have hX5:=(new_box hb2).2)|(have hX5:=new_boxd hb2)|skip))|(go_at_call 45;go_split_ands;refine (HOE.out _ (by assumption)).mono ?_;rintro e w6 ⟨sb,rfl,hb2⟩;(first|(have hX6:=hX5.keep hb2)|(have hX6:=(new_box hb2).2)|skip);(first|(have x0:=hX6.two.1;have x1:=hX6.two.2.1;have xl:=hX6.two.2.2.1;have xf:=hX6.two.2.2.2)|skip)))
 all_goals
  go_split_ands
  go_wp2_with fail
  go_ret
  exact ⟨rfl,after B13.out (by assumption)⟩
theorem blk_1n (n:Nat) (hn:n<=20) (w:World) (hT:ShTab w):Calls Tryz.prog 12 #[.int .i64 (n:Nat),.int .i64 1] w fun e w'=>e = .returned (.bool true)/\Below w.heap.size w w':=by
 have HR:=Lib.hid (means_any w hT)
 have HT:=Lib.hid hT
 have hB:=blk_of (blk_text1 n) (by decide) (show n<21 by omega)
 obtain ⟨l,hl,hfit,hyes,hno⟩:=hB.is
 obtain ⟨z,hs⟩:=hno (by unfold goodB;simp)
 have HPS:=Lib.hid (fun (w2:World)=>parse_yes _ w2 hB.size (by rw [hl]))
 rw [hl] at HPS
 have HOF:=Lib.hid hs
 have HFT:=Lib.hid hfit
 have HP0:=Lib.hid (fun (w2:World)=>repL_any 123 n w2 (by omega))
 have HP1:=Lib.hid (fun (w2:World)=>repL_any 125 n w2 (by omega))
 have sz0:¬ 9223372036854775807<13+(runL 123 n).size:=by simp only [runL_size];omega
 have sz1:¬ 9223372036854775807<13+(runL 123 n).size+11:=by simp only [runL_size];omega
 have sz2:¬ 9223372036854775807<13+(runL 123 n).size+11+(runL 125 n).size:=by simp only [runL_size];omega
 have sz3:¬ 9223372036854775807<13+(runL 123 n).size+11+(runL 125 n).size+2:=by simp only [runL_size];omega
 have sz4:¬ 9223372036854775807<2+(runL 123 n).size:=by simp only [runL_size];omega
 have sz5:¬ 9223372036854775807<2+(runL 123 n).size+11:=by simp only [runL_size];omega
 have sz6:¬ 9223372036854775807<2+(runL 123 n).size+11+(runL 125 n).size:=by simp only [runL_size];omega
 have sz7:¬ 9223372036854775807<2+(runL 123 n).size+11+(runL 125 n).size+13:=by simp only [runL_size];omega
 have sz8:¬ 9223372036854775807<2+(runL 123 n).size+12:=by simp only [runL_size];omega
 have sz9:¬ 9223372036854775807<2+(runL 123 n).size+12+(runL 125 n).size:=by simp only [runL_size];omega
 have sz10:¬ 9223372036854775807<2+(runL 123 n).size+12+(runL 125 n).size+12:=by simp only [runL_size];omega
 have sz11:¬ 9223372036854775807<13+(runL 123 n).size+(runL 125 n).size:=by simp only [runL_size];omega
 have sz12:¬ 9223372036854775807<13+(runL 123 n).size+(runL 125 n).size+2:=by simp only [runL_size];omega
 have sz13:¬ 9223372036854775807<19+(2+(runL 123 n).size+11+(runL 125 n).size+13):=by simp only [runL_size];omega
 have sz14:¬ 9223372036854775807<19+(2+(runL 123 n).size+11+(runL 125 n).size+13)+2:=by simp only [runL_size];omega
 have z0:(0:Int)<=(n:Int):=by omega
 have p1:decide ((n:Int)<0)=false:=decide_eq_false (by omega)
 have p2:decide ((20:Int)<(n:Int))=false:=decide_eq_false (by omega)
 have hix:=index4s_1
 clear hT hs hl hfit hyes hno hB
 go_enter Tryz.func12,Tryz.ntmps12
 go_wp2_with fail
 refine HR.out.mono ?_
 rintro e w1 ⟨rfl,hb⟩
 have B1:=Lib.hid hb
 clear hb
 go_wp2_with fail
 refine (HP0.out _).mono ?_
 rintro e w2 ⟨rfl,hb⟩
 have B2:=Lib.hid (after B1.out hb)
 clear hb B1
 go_wp2_with fail
 refine (HP1.out _).mono ?_
 rintro e w3 ⟨rfl,hb⟩
 have B3:=Lib.hid (after B2.out hb)
 clear hb B2
 go_wp2_with fail
 refine (HPS.out _).mono ?_
 rintro e w4 ⟨hb,s1,c1,rfl,hn1,hl1⟩
 have B4:=Lib.hid (after B3.out hb)
 have N4:=Lib.hid hn1
 have L4:=Lib.hid hl1
 clear hb hn1 hl1 B3 HPS
 clear sz0;clear sz1;clear sz2;clear sz3;clear sz4;clear sz5;clear sz6;clear sz7;clear sz8;clear sz9;clear sz10;clear sz11;clear sz12;clear sz13;clear sz14
 have T13:Hid (Bx 25 ((w4.alloc (.cells #[.slice s1 l.length c1,.int .i64 ((l.length:Int)-1)] 25)).alloc (.cells #[.int .i64 0,.int .i64 0] 28)) w4.heap.size [.slice s1 l.length c1,.int .i64 ((l.length:Int)-1)]):=Lib.hid ((Bx.new 25 w4 #[.slice s1 l.length c1,.int .i64 ((l.length:Int)-1)]).alloc _)
 have F13:Hid (Bx 28 ((w4.alloc (.cells #[.slice s1 l.length c1,.int .i64 ((l.length:Int)-1)] 25)).alloc (.cells #[.int .i64 0,.int .i64 0] 28)) (w4.heap.size+1) [.int .i64 0,.int .i64 0]):=Lib.hid (by
  have:=Bx.new 28 (w4.alloc (.cells #[.slice s1 l.length c1,.int .i64 ((l.length:Int)-1)] 25)) #[.int .i64 0,.int .i64 0]
  simpa using this)
 have BT2:Hid (Below w4.heap.size w4 ((w4.alloc (.cells #[.slice s1 l.length c1,.int .i64 ((l.length:Int)-1)] 25)).alloc (.cells #[.int .i64 0,.int .i64 0] 28))):=Lib.hid (by repeat (first|exact Below.refl _ _|apply Below.setCell _ (by first|omega|(simp<;>omega))|apply Below.alloc _ (by first|omega|(simp<;>omega))))
 go_wp2_with fail
 generalize ((w4.alloc (.cells #[.slice s1 l.length c1,.int .i64 ((l.length:Int)-1)] 25)).alloc (.cells #[.int .i64 0,.int .i64 0] 28))=w13 at *
 have B13:=Lib.hid (after B4.out BT2.out)
 have HME:=Lib.hid (fun (W:World) (hb:Below w13.heap.size w13 W)=>method_any l (.slice s1 l.length c1) ((l.length:Int)-1) 0 W (N4.out.nds.step (after BT2.out hb)) (by have:=L4.out;omega) (by unfold In64;omega))
 have HO:=Lib.hid (fun (W:World) (hb:Below w13.heap.size w13 W)=>of_any l (.slice s1 l.length c1) ((l.length:Int)-1) (methS l 0) W (HT.out.step (after B13.out hb)) (N4.out.nds.step (after BT2.out hb)) (by have:=L4.out;omega) HFT.out)
 have HOE:Hid (∀ W:World,Below w13.heap.size w13 W->Calls Tryz.prog 45 #[.agg #[.slice s1 l.length c1,.int .i64 ((l.length:Int)-1)],.int .i64 (methS l 0)] W fun e w'=>e = .returned (.tuple #[.pointer none,.agg #[.int .i64 3,.int .i64 z]])/\Below W.heap.size W w'):=Lib.hid (fun W hb=>(HO.out W hb).mono (by
  rintro e w' ⟨hb',⟨k,z',hr,he,-⟩|⟨s,S,hr,he,-⟩⟩
  ·rw [HOF.out] at hr;cases hr;exact ⟨he,hb'⟩
  ·rw [HOF.out] at hr;cases hr))
 clear HO
 generalize methS l 0=m2 at *
 obtain ⟨n2,hnn2⟩:∃ n2,l.length=n2:=⟨_,rfl⟩
 rw [hnn2] at HME HOE T13 ⊢
 have HALL:Hid (∀ W:World,Below w13.heap.size w13 W->W.cell? ⟨w4.heap.size,0,none⟩=some (.slice s1 n2 c1)/\W.cell? ⟨w4.heap.size,1,none⟩=some (.int .i64 ((n2:Int)-1))/\W.cell? ⟨w4.heap.size+1,0,none⟩=some (.int .i64 0)/\w13.heap.size<=W.heap.size/\Below w13.heap.size w13 W):=Lib.hid (fun W h=>⟨(T13.out.keep h).cell 0,(T13.out.keep h).cell 1,(F13.out.keep h).cell 0,h.size,h⟩)
 clear hnn2
 go_region_held3 (fun W=>W.cell? ⟨w4.heap.size,0,none⟩=some (.slice s1 n2 c1)/\W.cell? ⟨w4.heap.size,1,none⟩=some (.int .i64 ((n2:Int)-1))/\W.cell? ⟨w4.heap.size+1,0,none⟩=some (.int .i64 0)/\w13.heap.size<=W.heap.size/\Below w13.heap.size w13 W) (first|exact HALL.out _ ((Below.refl _ _).drew)|exact HALL.out _ ((bel_alloc (Below.refl _ _) _).drew)|exact HALL.out _ (after (by assumption) hb2)|(go_split_ands;exact HALL.out _ (bel_alloc (by assumption) _))|exact HALL.out _ (bel_alloc (after (by assumption) hb2) _)|(go_split_ands;exact HALL.out _ (bel_set (bel_set (by assumption) _ (by first|assumption|exact Nat.le_refl _|omega)) _ (by first|assumption|exact Nat.le_refl _|omega)))|(go_split_ands;exact HALL.out _ (bel_set (bel_set (after (by assumption) hb2) _ (by first|assumption|exact Nat.le_refl _|omega)) _ (by first|assumption|exact Nat.le_refl _|omega)))) (first|(go_at_call 44;go_split_ands;refine (HME.out _ (by assumption)).mono ?_;rintro e w5 ⟨rfl,hb2⟩;have hs5:=(after (show Below w13.heap.size w13 _ from by assumption) hb2).size;(first|(have hX5:=(new_box hb2).2)|(have hX5:=new_boxd hb2)|skip))|(go_at_call 45;go_split_ands;refine (HOE.out _ (by assumption)).mono ?_;rintro e w6 ⟨rfl,hb2⟩;(first|(have hX6:=hX5.keep hb2)|(have hX6:=(new_box hb2).2)|skip);(first|(have x0:=hX6.two.1;have x1:=hX6.two.2.1;have xl:=hX6.two.2.2.1;have xf:=hX6.two.2.2.2)|skip)))
 all_goals
  go_split_ands
  go_wp2_with fail
  go_ret
  exact ⟨rfl,after B13.out (by assumption)⟩
theorem blk_2y (n:Nat) (hn:n<=20) (hg:n=0) (w:World) (hT:ShTab w):Calls Tryz.prog 12 #[.int .i64 (n:Nat),.int .i64 2] w fun e w'=>e = .returned (.bool true)/\Below w.heap.size w w':=by
 have HR:=Lib.hid (means_any w hT)
 have HT:=Lib.hid hT
 have hB:=blk_of (blk_text2 n) (by decide) (show n<21 by omega)
 obtain ⟨l,hl,hfit,hyes,hno⟩:=hB.is
 obtain ⟨s,hs⟩:=hyes (by unfold goodB;simp [hg])
 have HPS:=Lib.hid (fun (w2:World)=>parse_yes _ w2 hB.size (by rw [hl]))
 rw [hl] at HPS
 have HOF:=Lib.hid hs
 have HFT:=Lib.hid hfit
 have HP0:=Lib.hid (fun (w2:World)=>repL_any 123 n w2 (by omega))
 have HP1:=Lib.hid (fun (w2:World)=>repL_any 125 n w2 (by omega))
 have sz0:¬ 9223372036854775807<13+(runL 123 n).size:=by simp only [runL_size];omega
 have sz1:¬ 9223372036854775807<13+(runL 123 n).size+11:=by simp only [runL_size];omega
 have sz2:¬ 9223372036854775807<13+(runL 123 n).size+11+(runL 125 n).size:=by simp only [runL_size];omega
 have sz3:¬ 9223372036854775807<13+(runL 123 n).size+11+(runL 125 n).size+2:=by simp only [runL_size];omega
 have sz4:¬ 9223372036854775807<2+(runL 123 n).size:=by simp only [runL_size];omega
 have sz5:¬ 9223372036854775807<2+(runL 123 n).size+11:=by simp only [runL_size];omega
 have sz6:¬ 9223372036854775807<2+(runL 123 n).size+11+(runL 125 n).size:=by simp only [runL_size];omega
 have sz7:¬ 9223372036854775807<2+(runL 123 n).size+11+(runL 125 n).size+13:=by simp only [runL_size];omega
 have sz8:¬ 9223372036854775807<2+(runL 123 n).size+12:=by simp only [runL_size];omega
 have sz9:¬ 9223372036854775807<2+(runL 123 n).size+12+(runL 125 n).size:=by simp only [runL_size];omega
 have sz10:¬ 9223372036854775807<2+(runL 123 n).size+12+(runL 125 n).size+12:=by simp only [runL_size];omega
 have sz11:¬ 9223372036854775807<13+(runL 123 n).size+(runL 125 n).size:=by simp only [runL_size];omega
 have sz12:¬ 9223372036854775807<13+(runL 123 n).size+(runL 125 n).size+2:=by simp only [runL_size];omega
 have sz13:¬ 9223372036854775807<19+(2+(runL 123 n).size+12+(runL 125 n).size+12):=by simp only [runL_size];omega
 have sz14:¬ 9223372036854775807<19+(2+(runL 123 n).size+12+(runL 125 n).size+12)+2:=by simp only [runL_size];omega
 have z0:(0:Int)<=(n:Int):=by omega
 have p1:decide ((n:Int)<0)=false:=decide_eq_false (by omega)
 have p2:decide ((20:Int)<(n:Int))=false:=decide_eq_false (by omega)
 have p3:((n:Int) == 0)=true:=by simp;omega
 have p4:decide ((n:Int)=0)=true:=decide_eq_true (by omega)
 have hix:=index4s_2
 clear hT hs hl hfit hyes hno hB hg
 go_enter Tryz.func12,Tryz.ntmps12
 go_wp2_with fail
 refine HR.out.mono ?_
 rintro e w1 ⟨rfl,hb⟩
 have B1:=Lib.hid hb
 clear hb
 go_wp2_with fail
 refine (HP0.out _).mono ?_
 rintro e w2 ⟨rfl,hb⟩
 have B2:=Lib.hid (after B1.out hb)
 clear hb B1
 go_wp2_with fail
 refine (HP1.out _).mono ?_
 rintro e w3 ⟨rfl,hb⟩
 have B3:=Lib.hid (after B2.out hb)
 clear hb B2
 go_wp2_with fail
 refine (HPS.out _).mono ?_
 rintro e w4 ⟨hb,s1,c1,rfl,hn1,hl1⟩
 have B4:=Lib.hid (after B3.out hb)
 have N4:=Lib.hid hn1
 have L4:=Lib.hid hl1
 clear hb hn1 hl1 B3 HPS
 clear sz0;clear sz1;clear sz2;clear sz3;clear sz4;clear sz5;clear sz6;clear sz7;clear sz8;clear sz9;clear sz10;clear sz11;clear sz12;clear sz13;clear sz14
 have T13:Hid (Bx 25 ((w4.alloc (.cells #[.slice s1 l.length c1,.int .i64 ((l.length:Int)-1)] 25)).alloc (.cells #[.int .i64 0,.int .i64 0] 28)) w4.heap.size [.slice s1 l.length c1,.int .i64 ((l.length:Int)-1)]):=Lib.hid ((Bx.new 25 w4 #[.slice s1 l.length c1,.int .i64 ((l.length:Int)-1)]).alloc _)
 have F13:Hid (Bx 28 ((w4.alloc (.cells #[.slice s1 l.length c1,.int .i64 ((l.length:Int)-1)] 25)).alloc (.cells #[.int .i64 0,.int .i64 0] 28)) (w4.heap.size+1) [.int .i64 0,.int .i64 0]):=Lib.hid (by
  have:=Bx.new 28 (w4.alloc (.cells #[.slice s1 l.length c1,.int .i64 ((l.length:Int)-1)] 25)) #[.int .i64 0,.int .i64 0]
  simpa using this)
 have BT2:Hid (Below w4.heap.size w4 ((w4.alloc (.cells #[.slice s1 l.length c1,.int .i64 ((l.length:Int)-1)] 25)).alloc (.cells #[.int .i64 0,.int .i64 0] 28))):=Lib.hid (by repeat (first|exact Below.refl _ _|apply Below.setCell _ (by first|omega|(simp<;>omega))|apply Below.alloc _ (by first|omega|(simp<;>omega))))
 go_wp2_with fail
 generalize ((w4.alloc (.cells #[.slice s1 l.length c1,.int .i64 ((l.length:Int)-1)] 25)).alloc (.cells #[.int .i64 0,.int .i64 0] 28))=w13 at *
 have B13:=Lib.hid (after B4.out BT2.out)
 have HME:=Lib.hid (fun (W:World) (hb:Below w13.heap.size w13 W)=>method_any l (.slice s1 l.length c1) ((l.length:Int)-1) 0 W (N4.out.nds.step (after BT2.out hb)) (by have:=L4.out;omega) (by unfold In64;omega))
 have HO:=Lib.hid (fun (W:World) (hb:Below w13.heap.size w13 W)=>of_any l (.slice s1 l.length c1) ((l.length:Int)-1) (methS l 0) W (HT.out.step (after B13.out hb)) (N4.out.nds.step (after BT2.out hb)) (by have:=L4.out;omega) HFT.out)
 have HOE:Hid (∀ W:World,Below w13.heap.size w13 W->Calls Tryz.prog 45 #[.agg #[.slice s1 l.length c1,.int .i64 ((l.length:Int)-1)],.int .i64 (methS l 0)] W fun e w'=>∃ sb,e = .returned (.tuple #[.pointer (some ⟨sb,0,none⟩),.agg #[.int .i64 0,.int .i64 0]])/\Below W.heap.size W w'):=Lib.hid (fun W hb=>(HO.out W hb).mono (by
  rintro e w' ⟨hb',⟨k,z',hr,he,-⟩|⟨s,S,hr,he,-⟩⟩
  ·rw [HOF.out] at hr;cases hr
  ·exact ⟨_,he,hb'⟩))
 clear HO
 generalize methS l 0=m2 at *
 obtain ⟨n2,hnn2⟩:∃ n2,l.length=n2:=⟨_,rfl⟩
 rw [hnn2] at HME HOE T13 ⊢
 have HALL:Hid (∀ W:World,Below w13.heap.size w13 W->W.cell? ⟨w4.heap.size,0,none⟩=some (.slice s1 n2 c1)/\W.cell? ⟨w4.heap.size,1,none⟩=some (.int .i64 ((n2:Int)-1))/\W.cell? ⟨w4.heap.size+1,0,none⟩=some (.int .i64 0)/\w13.heap.size<=W.heap.size/\Below w13.heap.size w13 W):=Lib.hid (fun W h=>⟨(T13.out.keep h).cell 0,(T13.out.keep h).cell 1,(F13.out.keep h).cell 0,h.size,h⟩)
 clear hnn2
 go_region_held3 (fun W=>W.cell? ⟨w4.heap.size,0,none⟩=some (.slice s1 n2 c1)/\W.cell? ⟨w4.heap.size,1,none⟩=some (.int .i64 ((n2:Int)-1))/\W.cell? ⟨w4.heap.size+1,0,none⟩=some (.int .i64 0)/\w13.heap.size<=W.heap.size/\Below w13.heap.size w13 W) (first|exact HALL.out _ ((Below.refl _ _).drew)|exact HALL.out _ ((bel_alloc (Below.refl _ _) _).drew)|exact HALL.out _ (after (by assumption) hb2)|(go_split_ands;exact HALL.out _ (bel_alloc (by assumption) _))|exact HALL.out _ (bel_alloc (after (by assumption) hb2) _)|(go_split_ands;exact HALL.out _ (bel_set (bel_set (by assumption) _ (by first|assumption|exact Nat.le_refl _|omega)) _ (by first|assumption|exact Nat.le_refl _|omega)))|(go_split_ands;exact HALL.out _ (bel_set (bel_set (after (by assumption) hb2) _ (by first|assumption|exact Nat.le_refl _|omega)) _ (by first|assumption|exact Nat.le_refl _|omega)))) (first|(go_at_call 44;go_split_ands;refine (HME.out _ (by assumption)).mono ?_;rintro e w5 ⟨rfl,hb2⟩;have hs5:=(after (show Below w13.heap.size w13 _ from by assumption) hb2).size;(first|(have hX5:=(new_box hb2).2)|(have hX5:=new_boxd hb2)|skip))|(go_at_call 45;go_split_ands;refine (HOE.out _ (by assumption)).mono ?_;rintro e w6 ⟨sb,rfl,hb2⟩;(first|(have hX6:=hX5.keep hb2)|(have hX6:=(new_box hb2).2)|skip);(first|(have x0:=hX6.two.1;have x1:=hX6.two.2.1;have xl:=hX6.two.2.2.1;have xf:=hX6.two.2.2.2)|skip)))
 all_goals
  go_split_ands
  go_wp2_with fail
  go_ret
  exact ⟨rfl,after B13.out (by assumption)⟩
theorem blk_2n (n:Nat) (hn:n<=20) (hg:n≠0) (w:World) (hT:ShTab w):Calls Tryz.prog 12 #[.int .i64 (n:Nat),.int .i64 2] w fun e w'=>e = .returned (.bool true)/\Below w.heap.size w w':=by
 have HR:=Lib.hid (means_any w hT)
 have HT:=Lib.hid hT
 have hB:=blk_of (blk_text2 n) (by decide) (show n<21 by omega)
 obtain ⟨l,hl,hfit,hyes,hno⟩:=hB.is
 obtain ⟨z,hs⟩:=hno (by unfold goodB;simp [hg])
 have HPS:=Lib.hid (fun (w2:World)=>parse_yes _ w2 hB.size (by rw [hl]))
 rw [hl] at HPS
 have HOF:=Lib.hid hs
 have HFT:=Lib.hid hfit
 have HP0:=Lib.hid (fun (w2:World)=>repL_any 123 n w2 (by omega))
 have HP1:=Lib.hid (fun (w2:World)=>repL_any 125 n w2 (by omega))
 have sz0:¬ 9223372036854775807<13+(runL 123 n).size:=by simp only [runL_size];omega
 have sz1:¬ 9223372036854775807<13+(runL 123 n).size+11:=by simp only [runL_size];omega
 have sz2:¬ 9223372036854775807<13+(runL 123 n).size+11+(runL 125 n).size:=by simp only [runL_size];omega
 have sz3:¬ 9223372036854775807<13+(runL 123 n).size+11+(runL 125 n).size+2:=by simp only [runL_size];omega
 have sz4:¬ 9223372036854775807<2+(runL 123 n).size:=by simp only [runL_size];omega
 have sz5:¬ 9223372036854775807<2+(runL 123 n).size+11:=by simp only [runL_size];omega
 have sz6:¬ 9223372036854775807<2+(runL 123 n).size+11+(runL 125 n).size:=by simp only [runL_size];omega
 have sz7:¬ 9223372036854775807<2+(runL 123 n).size+11+(runL 125 n).size+13:=by simp only [runL_size];omega
 have sz8:¬ 9223372036854775807<2+(runL 123 n).size+12:=by simp only [runL_size];omega
 have sz9:¬ 9223372036854775807<2+(runL 123 n).size+12+(runL 125 n).size:=by simp only [runL_size];omega
 have sz10:¬ 9223372036854775807<2+(runL 123 n).size+12+(runL 125 n).size+12:=by simp only [runL_size];omega
 have sz11:¬ 9223372036854775807<13+(runL 123 n).size+(runL 125 n).size:=by simp only [runL_size];omega
 have sz12:¬ 9223372036854775807<13+(runL 123 n).size+(runL 125 n).size+2:=by simp only [runL_size];omega
 have sz13:¬ 9223372036854775807<19+(2+(runL 123 n).size+12+(runL 125 n).size+12):=by simp only [runL_size];omega
 have sz14:¬ 9223372036854775807<19+(2+(runL 123 n).size+12+(runL 125 n).size+12)+2:=by simp only [runL_size];omega
 have z0:(0:Int)<=(n:Int):=by omega
 have p1:decide ((n:Int)<0)=false:=decide_eq_false (by omega)
 have p2:decide ((20:Int)<(n:Int))=false:=decide_eq_false (by omega)
 have p3:((n:Int) == 0)=false:=by simp;omega
 have p4:decide ((n:Int)=0)=false:=decide_eq_false (by omega)
 have hix:=index4s_2
 clear hT hs hl hfit hyes hno hB hg
 go_enter Tryz.func12,Tryz.ntmps12
 go_wp2_with fail
 refine HR.out.mono ?_
 rintro e w1 ⟨rfl,hb⟩
 have B1:=Lib.hid hb
 clear hb
 go_wp2_with fail
 refine (HP0.out _).mono ?_
 rintro e w2 ⟨rfl,hb⟩
 have B2:=Lib.hid (after B1.out hb)
 clear hb B1
 go_wp2_with fail
 refine (HP1.out _).mono ?_
 rintro e w3 ⟨rfl,hb⟩
 have B3:=Lib.hid (after B2.out hb)
 clear hb B2
 go_wp2_with fail
 refine (HPS.out _).mono ?_
 rintro e w4 ⟨hb,s1,c1,rfl,hn1,hl1⟩
 have B4:=Lib.hid (after B3.out hb)
 have N4:=Lib.hid hn1
 have L4:=Lib.hid hl1
 clear hb hn1 hl1 B3 HPS
 clear sz0;clear sz1;clear sz2;clear sz3;clear sz4;clear sz5;clear sz6;clear sz7;clear sz8;clear sz9;clear sz10;clear sz11;clear sz12;clear sz13;clear sz14
 have T13:Hid (Bx 25 ((w4.alloc (.cells #[.slice s1 l.length c1,.int .i64 ((l.length:Int)-1)] 25)).alloc (.cells #[.int .i64 0,.int .i64 0] 28)) w4.heap.size [.slice s1 l.length c1,.int .i64 ((l.length:Int)-1)]):=Lib.hid ((Bx.new 25 w4 #[.slice s1 l.length c1,.int .i64 ((l.length:Int)-1)]).alloc _)
 have F13:Hid (Bx 28 ((w4.alloc (.cells #[.slice s1 l.length c1,.int .i64 ((l.length:Int)-1)] 25)).alloc (.cells #[.int .i64 0,.int .i64 0] 28)) (w4.heap.size+1) [.int .i64 0,.int .i64 0]):=Lib.hid (by
  have:=Bx.new 28 (w4.alloc (.cells #[.slice s1 l.length c1,.int .i64 ((l.length:Int)-1)] 25)) #[.int .i64 0,.int .i64 0]
  simpa using this)
 have BT2:Hid (Below w4.heap.size w4 ((w4.alloc (.cells #[.slice s1 l.length c1,.int .i64 ((l.length:Int)-1)] 25)).alloc (.cells #[.int .i64 0,.int .i64 0] 28))):=Lib.hid (by repeat (first|exact Below.refl _ _|apply Below.setCell _ (by first|omega|(simp<;>omega))|apply Below.alloc _ (by first|omega|(simp<;>omega))))
 go_wp2_with fail
 generalize ((w4.alloc (.cells #[.slice s1 l.length c1,.int .i64 ((l.length:Int)-1)] 25)).alloc (.cells #[.int .i64 0,.int .i64 0] 28))=w13 at *
 have B13:=Lib.hid (after B4.out BT2.out)
 have HME:=Lib.hid (fun (W:World) (hb:Below w13.heap.size w13 W)=>method_any l (.slice s1 l.length c1) ((l.length:Int)-1) 0 W (N4.out.nds.step (after BT2.out hb)) (by have:=L4.out;omega) (by unfold In64;omega))
 have HO:=Lib.hid (fun (W:World) (hb:Below w13.heap.size w13 W)=>of_any l (.slice s1 l.length c1) ((l.length:Int)-1) (methS l 0) W (HT.out.step (after B13.out hb)) (N4.out.nds.step (after BT2.out hb)) (by have:=L4.out;omega) HFT.out)
 have HOE:Hid (∀ W:World,Below w13.heap.size w13 W->Calls Tryz.prog 45 #[.agg #[.slice s1 l.length c1,.int .i64 ((l.length:Int)-1)],.int .i64 (methS l 0)] W fun e w'=>e = .returned (.tuple #[.pointer none,.agg #[.int .i64 3,.int .i64 z]])/\Below W.heap.size W w'):=Lib.hid (fun W hb=>(HO.out W hb).mono (by
  rintro e w' ⟨hb',⟨k,z',hr,he,-⟩|⟨s,S,hr,he,-⟩⟩
  ·rw [HOF.out] at hr;cases hr;exact ⟨he,hb'⟩
  ·rw [HOF.out] at hr;cases hr))
 clear HO
 generalize methS l 0=m2 at *
 obtain ⟨n2,hnn2⟩:∃ n2,l.length=n2:=⟨_,rfl⟩
 rw [hnn2] at HME HOE T13 ⊢
 have HALL:Hid (∀ W:World,Below w13.heap.size w13 W->W.cell? ⟨w4.heap.size,0,none⟩=some (.slice s1 n2 c1)/\W.cell? ⟨w4.heap.size,1,none⟩=some (.int .i64 ((n2:Int)-1))/\W.cell? ⟨w4.heap.size+1,0,none⟩=some (.int .i64 0)/\w13.heap.size<=W.heap.size/\Below w13.heap.size w13 W):=Lib.hid (fun W h=>⟨(T13.out.keep h).cell 0,(T13.out.keep h).cell 1,(F13.out.keep h).cell 0,h.size,h⟩)
 clear hnn2
 go_region_held3 (fun W=>W.cell? ⟨w4.heap.size,0,none⟩=some (.slice s1 n2 c1)/\W.cell? ⟨w4.heap.size,1,none⟩=some (.int .i64 ((n2:Int)-1))/\W.cell? ⟨w4.heap.size+1,0,none⟩=some (.int .i64 0)/\w13.heap.size<=W.heap.size/\Below w13.heap.size w13 W) (first|exact HALL.out _ ((Below.refl _ _).drew)|exact HALL.out _ ((bel_alloc (Below.refl _ _) _).drew)|exact HALL.out _ (after (by assumption) hb2)|(go_split_ands;exact HALL.out _ (bel_alloc (by assumption) _))|exact HALL.out _ (bel_alloc (after (by assumption) hb2) _)|(go_split_ands;exact HALL.out _ (bel_set (bel_set (by assumption) _ (by first|assumption|exact Nat.le_refl _|omega)) _ (by first|assumption|exact Nat.le_refl _|omega)))|(go_split_ands;exact HALL.out _ (bel_set (bel_set (after (by assumption) hb2) _ (by first|assumption|exact Nat.le_refl _|omega)) _ (by first|assumption|exact Nat.le_refl _|omega)))) (first|(go_at_call 44;go_split_ands;refine (HME.out _ (by assumption)).mono ?_;rintro e w5 ⟨rfl,hb2⟩;have hs5:=(after (show Below w13.heap.size w13 _ from by assumption) hb2).size;(first|(have hX5:=(new_box hb2).2)|(have hX5:=new_boxd hb2)|skip))|(go_at_call 45;go_split_ands;refine (HOE.out _ (by assumption)).mono ?_;rintro e w6 ⟨rfl,hb2⟩;(first|(have hX6:=hX5.keep hb2)|(have hX6:=(new_box hb2).2)|skip);(first|(have x0:=hX6.two.1;have x1:=hX6.two.2.1;have xl:=hX6.two.2.2.1;have xf:=hX6.two.2.2.2)|skip)))
 all_goals
  go_split_ands
  go_wp2_with fail
  go_ret
  exact ⟨rfl,after B13.out (by assumption)⟩
theorem blk_3n (n:Nat) (hn:n<=20) (w:World) (hT:ShTab w):Calls Tryz.prog 12 #[.int .i64 (n:Nat),.int .i64 3] w fun e w'=>e = .returned (.bool true)/\Below w.heap.size w w':=by
 have HR:=Lib.hid (means_any w hT)
 have HT:=Lib.hid hT
 have hB:=blk_of (blk_text3 n) (by decide) (show n<21 by omega)
 obtain ⟨l,hl,hfit,hyes,hno⟩:=hB.is
 obtain ⟨z,hs⟩:=hno (by unfold goodB;simp)
 have HPS:=Lib.hid (fun (w2:World)=>parse_yes _ w2 hB.size (by rw [hl]))
 rw [hl] at HPS
 have HOF:=Lib.hid hs
 have HFT:=Lib.hid hfit
 have HP0:=Lib.hid (fun (w2:World)=>repL_any 123 n w2 (by omega))
 have HP1:=Lib.hid (fun (w2:World)=>repL_any 125 n w2 (by omega))
 have sz0:¬ 9223372036854775807<13+(runL 123 n).size:=by simp only [runL_size];omega
 have sz1:¬ 9223372036854775807<13+(runL 123 n).size+11:=by simp only [runL_size];omega
 have sz2:¬ 9223372036854775807<13+(runL 123 n).size+11+(runL 125 n).size:=by simp only [runL_size];omega
 have sz3:¬ 9223372036854775807<13+(runL 123 n).size+11+(runL 125 n).size+2:=by simp only [runL_size];omega
 have sz4:¬ 9223372036854775807<2+(runL 123 n).size:=by simp only [runL_size];omega
 have sz5:¬ 9223372036854775807<2+(runL 123 n).size+11:=by simp only [runL_size];omega
 have sz6:¬ 9223372036854775807<2+(runL 123 n).size+11+(runL 125 n).size:=by simp only [runL_size];omega
 have sz7:¬ 9223372036854775807<2+(runL 123 n).size+11+(runL 125 n).size+13:=by simp only [runL_size];omega
 have sz8:¬ 9223372036854775807<2+(runL 123 n).size+12:=by simp only [runL_size];omega
 have sz9:¬ 9223372036854775807<2+(runL 123 n).size+12+(runL 125 n).size:=by simp only [runL_size];omega
 have sz10:¬ 9223372036854775807<2+(runL 123 n).size+12+(runL 125 n).size+12:=by simp only [runL_size];omega
 have sz11:¬ 9223372036854775807<13+(runL 123 n).size+(runL 125 n).size:=by simp only [runL_size];omega
 have sz12:¬ 9223372036854775807<13+(runL 123 n).size+(runL 125 n).size+2:=by simp only [runL_size];omega
 have sz13:¬ 9223372036854775807<19+(13+(runL 123 n).size+(runL 125 n).size+2):=by simp only [runL_size];omega
 have sz14:¬ 9223372036854775807<19+(13+(runL 123 n).size+(runL 125 n).size+2)+2:=by simp only [runL_size];omega
 have z0:(0:Int)<=(n:Int):=by omega
 have p1:decide ((n:Int)<0)=false:=decide_eq_false (by omega)
 have p2:decide ((20:Int)<(n:Int))=false:=decide_eq_false (by omega)
 have hix:=index4s_3
 clear hT hs hl hfit hyes hno hB
 go_enter Tryz.func12,Tryz.ntmps12
 go_wp2_with fail
 refine HR.out.mono ?_
 rintro e w1 ⟨rfl,hb⟩
 have B1:=Lib.hid hb
 clear hb
 go_wp2_with fail
 refine (HP0.out _).mono ?_
 rintro e w2 ⟨rfl,hb⟩
 have B2:=Lib.hid (after B1.out hb)
 clear hb B1
 go_wp2_with fail
 refine (HP1.out _).mono ?_
 rintro e w3 ⟨rfl,hb⟩
 have B3:=Lib.hid (after B2.out hb)
 clear hb B2
 go_wp2_with fail
 refine (HPS.out _).mono ?_
 rintro e w4 ⟨hb,s1,c1,rfl,hn1,hl1⟩
 have B4:=Lib.hid (after B3.out hb)
 have N4:=Lib.hid hn1
 have L4:=Lib.hid hl1
 clear hb hn1 hl1 B3 HPS
 clear sz0;clear sz1;clear sz2;clear sz3;clear sz4;clear sz5;clear sz6;clear sz7;clear sz8;clear sz9;clear sz10;clear sz11;clear sz12;clear sz13;clear sz14
 have T13:Hid (Bx 25 ((w4.alloc (.cells #[.slice s1 l.length c1,.int .i64 ((l.length:Int)-1)] 25)).alloc (.cells #[.int .i64 0,.int .i64 0] 28)) w4.heap.size [.slice s1 l.length c1,.int .i64 ((l.length:Int)-1)]):=Lib.hid ((Bx.new 25 w4 #[.slice s1 l.length c1,.int .i64 ((l.length:Int)-1)]).alloc _)
 have F13:Hid (Bx 28 ((w4.alloc (.cells #[.slice s1 l.length c1,.int .i64 ((l.length:Int)-1)] 25)).alloc (.cells #[.int .i64 0,.int .i64 0] 28)) (w4.heap.size+1) [.int .i64 0,.int .i64 0]):=Lib.hid (by
  have:=Bx.new 28 (w4.alloc (.cells #[.slice s1 l.length c1,.int .i64 ((l.length:Int)-1)] 25)) #[.int .i64 0,.int .i64 0]
  simpa using this)
 have BT2:Hid (Below w4.heap.size w4 ((w4.alloc (.cells #[.slice s1 l.length c1,.int .i64 ((l.length:Int)-1)] 25)).alloc (.cells #[.int .i64 0,.int .i64 0] 28))):=Lib.hid (by repeat (first|exact Below.refl _ _|apply Below.setCell _ (by first|omega|(simp<;>omega))|apply Below.alloc _ (by first|omega|(simp<;>omega))))
 go_wp2_with fail
 generalize ((w4.alloc (.cells #[.slice s1 l.length c1,.int .i64 ((l.length:Int)-1)] 25)).alloc (.cells #[.int .i64 0,.int .i64 0] 28))=w13 at *
 have B13:=Lib.hid (after B4.out BT2.out)
 have HME:=Lib.hid (fun (W:World) (hb:Below w13.heap.size w13 W)=>method_any l (.slice s1 l.length c1) ((l.length:Int)-1) 0 W (N4.out.nds.step (after BT2.out hb)) (by have:=L4.out;omega) (by unfold In64;omega))
 have HO:=Lib.hid (fun (W:World) (hb:Below w13.heap.size w13 W)=>of_any l (.slice s1 l.length c1) ((l.length:Int)-1) (methS l 0) W (HT.out.step (after B13.out hb)) (N4.out.nds.step (after BT2.out hb)) (by have:=L4.out;omega) HFT.out)
 have HOE:Hid (∀ W:World,Below w13.heap.size w13 W->Calls Tryz.prog 45 #[.agg #[.slice s1 l.length c1,.int .i64 ((l.length:Int)-1)],.int .i64 (methS l 0)] W fun e w'=>e = .returned (.tuple #[.pointer none,.agg #[.int .i64 3,.int .i64 z]])/\Below W.heap.size W w'):=Lib.hid (fun W hb=>(HO.out W hb).mono (by
  rintro e w' ⟨hb',⟨k,z',hr,he,-⟩|⟨s,S,hr,he,-⟩⟩
  ·rw [HOF.out] at hr;cases hr;exact ⟨he,hb'⟩
  ·rw [HOF.out] at hr;cases hr))
 clear HO
 generalize methS l 0=m2 at *
 obtain ⟨n2,hnn2⟩:∃ n2,l.length=n2:=⟨_,rfl⟩
 rw [hnn2] at HME HOE T13 ⊢
 have HALL:Hid (∀ W:World,Below w13.heap.size w13 W->W.cell? ⟨w4.heap.size,0,none⟩=some (.slice s1 n2 c1)/\W.cell? ⟨w4.heap.size,1,none⟩=some (.int .i64 ((n2:Int)-1))/\W.cell? ⟨w4.heap.size+1,0,none⟩=some (.int .i64 0)/\w13.heap.size<=W.heap.size/\Below w13.heap.size w13 W):=Lib.hid (fun W h=>⟨(T13.out.keep h).cell 0,(T13.out.keep h).cell 1,(F13.out.keep h).cell 0,h.size,h⟩)
 clear hnn2
 go_region_held3 (fun W=>W.cell? ⟨w4.heap.size,0,none⟩=some (.slice s1 n2 c1)/\W.cell? ⟨w4.heap.size,1,none⟩=some (.int .i64 ((n2:Int)-1))/\W.cell? ⟨w4.heap.size+1,0,none⟩=some (.int .i64 0)/\w13.heap.size<=W.heap.size/\Below w13.heap.size w13 W) (first|exact HALL.out _ ((Below.refl _ _).drew)|exact HALL.out _ ((bel_alloc (Below.refl _ _) _).drew)|exact HALL.out _ (after (by assumption) hb2)|(go_split_ands;exact HALL.out _ (bel_alloc (by assumption) _))|exact HALL.out _ (bel_alloc (after (by assumption) hb2) _)|(go_split_ands;exact HALL.out _ (bel_set (bel_set (by assumption) _ (by first|assumption|exact Nat.le_refl _|omega)) _ (by first|assumption|exact Nat.le_refl _|omega)))|(go_split_ands;exact HALL.out _ (bel_set (bel_set (after (by assumption) hb2) _ (by first|assumption|exact Nat.le_refl _|omega)) _ (by first|assumption|exact Nat.le_refl _|omega)))) (first|(go_at_call 44;go_split_ands;refine (HME.out _ (by assumption)).mono ?_;rintro e w5 ⟨rfl,hb2⟩;have hs5:=(after (show Below w13.heap.size w13 _ from by assumption) hb2).size;(first|(have hX5:=(new_box hb2).2)|(have hX5:=new_boxd hb2)|skip))|(go_at_call 45;go_split_ands;refine (HOE.out _ (by assumption)).mono ?_;rintro e w6 ⟨rfl,hb2⟩;(first|(have hX6:=hX5.keep hb2)|(have hX6:=(new_box hb2).2)|skip);(first|(have x0:=hX6.two.1;have x1:=hX6.two.2.1;have xl:=hX6.two.2.2.1;have xf:=hX6.two.2.2.2)|skip)))
 all_goals
  go_split_ands
  go_wp2_with fail
  go_ret
  exact ⟨rfl,after B13.out (by assumption)⟩
theorem blk_any (n way:Int) (wn:(Lit.int .i64 n).wf=true) (ww:(Lit.int .i64 way).wf=true) (w:World) (hT:ShTab w):Calls Tryz.prog 12 #[.int .i64 n,.int .i64 way] w fun e w'=>e = .returned (.bool true)/\Below w.heap.size w w':=by
 by_cases h:n<0\/20<n\/way<0\/3<way
 ·exact blk_out n way w hT h
 ·obtain ⟨m,rfl⟩:∃ m:Nat,n=m:=⟨n.toNat,by omega⟩
  have hw:way=0\/way=1\/way=2\/way=3:=by omega
  rcases hw with rfl|rfl|rfl|rfl
  ·exact blk_0y m (by omega) w hT
  ·exact blk_1n m (by omega) w hT
  ·by_cases hg:m=0
   ·exact blk_2y m (by omega) hg w hT
   ·exact blk_2n m (by omega) hg w hT
  ·exact blk_3n m (by omega) w hT
end Go.Proofs.YtfehpdliobapfaaGreatDoor.S
