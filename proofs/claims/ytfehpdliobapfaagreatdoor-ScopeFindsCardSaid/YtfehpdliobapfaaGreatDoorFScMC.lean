/- For any text and any number,ScopeFinds returns true and leaves its arguments as they were. -/
import Derived.Test.YtfehpdliobapfaaGreatDoorFScMB
import Derived.Test.YtfehpdliobapfaaGreatDoorFPaNG
set_option maxRecDepth 100000
set_option maxHeartbeats 8000000
set_option linter.unusedVariables false
set_option linter.unusedSimpArgs false
namespace Go.Proofs.YtfehpdliobapfaaGreatDoor.S
open Go Go.RowKit
theorem natI_mem {L:List Nat} {k:Nat}:(k:Int) ∈ natI L ↔ k ∈ L:=by
 unfold natI
 rw [List.mem_map]
 constructor
 ·rintro ⟨x,hx,e⟩
  have:x=k:=by omega
  rw [<- this];exact hx
 ·intro h;exact ⟨k,h,rfl⟩
section
variable {l:List Nd} {root:Int} {W0 w:World} {B:Nat} {nv:Value} {S:ScV} {wb:Nat} {ov:Value} {held:Bool} {s:Sc} {c:Nat}
theorem mean_none (P:ProgOk l root) (hn:NdsB W0 B nv l) {a:Nat} (ha:a<l.length) (h:ScM l W0 w B nv S wb ov held s c) (hk:findS l s.lc (txtS l a)=none) :
  Calls Tryz.prog 132 #[(.pointer (some ⟨wb,0,none⟩)),.int .i64 (a:Nat)] w fun e w'=>e = .returned (.agg #[.int .i64 3,.int .i64 (sfrS l a)])/\Below w.heap.size w w':=by
 have hP:=P.long
 obtain ⟨nb,off,cap,rfl,hnb,kv,ev,hx⟩:=hn.node ha
 obtain ⟨sb,ub,mb,lv⟩:=S
 have HM:=Lib.hid h
 have HBW:Hid (B<=w.heap.size):=Lib.hid h.size
 rw [txtS_get ha] at hk
 have HFA:=Lib.hid (fun (w2:World) (h2:ScM l W0 w2 B (.slice (some ⟨nb,off,none⟩) l.length cap) ⟨sb,ub,mb,lv⟩ wb ov held s c)=>wfault_any h2 hn ha 3 hP)
 have HFI:=Lib.hid (fun (w2:World) (h2:ScM l W0 w2 B (.slice (some ⟨nb,off,none⟩) l.length cap) ⟨sb,ub,mb,lv⟩ wb ov held s c)=>scfind_any (S:=⟨sb,ub,mb,lv⟩) h2.sc l[a].text)
 rw [hk,show idxI none=(-1:Int) from rfl] at HFI
 generalize sfrS l a=z at *
 have HX:=Lib.hid (fun (w2:World) (h2:ScM l W0 w2 B (.slice (some ⟨nb,off,none⟩) l.length cap) ⟨sb,ub,mb,lv⟩ wb ov held s c)=>(hx w2 h2.bel).c4)
 clear h hx hn hk
 have HAL:=Lib.hid ha
 have HNB:=Lib.hid hnb
 have HP:=Lib.hid hP
 obtain ⟨n,hnn⟩:∃ n,l.length=n:=⟨_,rfl⟩
 have HNN:=Lib.hid hnn
 have i0:(0:Int)<=(a:Int):=by omega
 have i1:(a:Int)<(n:Int):=by omega
 have i2:a<n:=by omega
 generalize l[a].text=tx at *
 clear hP ha hnb P
 go_enter Tryz.func132,Tryz.ntmps132
 go_wp2_with fail
 obtain ⟨W2,hW2⟩:∃ W2,W2=w.alloc (.cells #[.int .i64 0,.int .i64 0] 28):=⟨_,rfl⟩
 have R2:Hid (Bx 28 W2 w.heap.size [.int .i64 0,.int .i64 0]):=Lib.hid (by rw [hW2];exact Bx.new 28 w #[.int .i64 0,.int .i64 0])
 have HB2:Hid (Below w.heap.size w W2):=Lib.hid (by rw [hW2];repeat (first|exact Below.refl _ _|apply Below.setCell _ (by first|omega|(simp<;>omega))|apply Below.alloc _ (by first|omega|(simp<;>omega))))
 have H2:=Lib.hid (HM.out.step HB2.out HM.out.size)
 rw [<- hW2]
 clear hW2 HM
 have KEEP:Hid (∀ W',Below W2.heap.size W2 W'->W'.cell? ⟨wb,0,none⟩=some (.pointer (some ⟨sb,0,none⟩))/\W'.cell? ⟨wb,1,none⟩=some (.slice (some ⟨nb,off,none⟩) n cap)/\W'.cell? ⟨nb,off+a*13+4,none⟩=some (.string tx)/\Below W2.heap.size W2 W'):=Lib.hid (fun W' h=>by
  have q:=H2.out.step h H2.out.size
  have q1:=q.cells.2.1
  rw [hnn] at q1
  exact ⟨q.cells.1,q1,HX.out W' q,h⟩)
 have HFI2:=Lib.hid (fun (W':World) (h:Below W2.heap.size W2 W')=>HFI.out W' (H2.out.step h H2.out.size))
 have wl:=H2.out.cells.2.2.2.2.1
 have nl:nb<W2.heap.size:=Nat.lt_of_lt_of_le HNB.out H2.out.bel.size
 clear HFI hnn
 go_region_held3 (fun W'=>W'.cell? ⟨wb,0,none⟩=some (.pointer (some ⟨sb,0,none⟩))/\W'.cell? ⟨wb,1,none⟩=some (.slice (some ⟨nb,off,none⟩) n cap)/\W'.cell? ⟨nb,off+a*13+4,none⟩=some (.string tx)/\Below W2.heap.size W2 W') (first|exact KEEP.out _ (Below.refl _ _)|exact KEEP.out _ (Below.refl _ _).drew|exact KEEP.out _ (after (by assumption) hb9)) (first|(go_at_call 51;go_split_ands;refine (HFI2.out _ (by assumption)).mono ?_;rintro e w9 ⟨rfl,hb9⟩))
 all_goals go_split_ands
 all_goals
  have hb9':Below W2.heap.size W2 w9:=by assumption
  have H9:=Lib.hid (H2.out.step hb9' H2.out.size)
  have BQ:=Lib.hid (after HB2.out hb9')
  have R9:=Lib.hid (R2.out.keep hb9')
  clear hb9 hb9' H2 R2 KEEP HFI2 wl nl
 all_goals
  go_wp2_with fail
  refine (HFA.out _ H9.out).mono ?_
  rintro e w10 ⟨rfl,hb10⟩
  have HB10:=Lib.hid (after BQ.out hb10)
  obtain ⟨r0,r1,rl,rf⟩:=(R9.out.keep hb10).two
  clear hb10 H9 R9
  go_wp2_with fail
  refine bodyPost_ret (v:=.agg #[.int .i64 3,.int .i64 z]) (by simp [results,Tryz.results132,go_sem,r0,r1]) rfl ?_
  exact ⟨rfl,(HB10.out.setCell (p:=⟨w.heap.size,0,none⟩) (Nat.le_refl _) _).setCell (p:=⟨w.heap.size,1,none⟩) (Nat.le_refl _) _⟩
theorem mean_shut (P:ProgOk l root) (hn:NdsB W0 B nv l) {a:Nat} (ha:a<l.length) (h:ScM l W0 w B nv S wb ov held s c) {k:Nat} (hk:findS l s.lc (txtS l a)=some k) (hpar:kndS l (s.lc.getD k 0)≠7) (hop:s.op.length<=64) (hopn:k ∉ s.op) :
  Calls Tryz.prog 132 #[(.pointer (some ⟨wb,0,none⟩)),.int .i64 (a:Nat)] w fun e w'=>e = .returned (.agg #[.int .i64 3,.int .i64 (sfrS l a)])/\Below w.heap.size w w':=by
 have hP:=P.long
 obtain ⟨nb,off,cap,rfl,hnb,kv,ev,hx⟩:=hn.node ha
 obtain ⟨sb,ub,mb,lv⟩:=S
 have HM:=Lib.hid h
 have HBW:Hid (B<=w.heap.size):=Lib.hid h.size
 rw [txtS_get ha] at hk
 obtain ⟨vs,vc,rfl⟩:∃ vs vc,lv = .slice vs s.lc.length vc:=own_any_shape h.sc.row
 obtain ⟨hk0,-⟩:=findS_some hk
 have HLV:=Lib.hid (fun (w2:World) (h2:ScM l W0 w2 B (.slice (some ⟨nb,off,none⟩) l.length cap) ⟨sb,ub,mb,.slice vs s.lc.length vc⟩ wb ov held s c)=>LocV.of_row h2.sc.row)
 have HFI:=Lib.hid (fun (w2:World) (h2:ScM l W0 w2 B (.slice (some ⟨nb,off,none⟩) l.length cap) ⟨sb,ub,mb,.slice vs s.lc.length vc⟩ wb ov held s c)=>scfind_any (S:=⟨sb,ub,mb,.slice vs s.lc.length vc⟩) h2.sc l[a].text)
 rw [hk,show idxI (some k)=(k:Int) from rfl] at HFI
 have HLEN:=Lib.hid h.sc.few
 have hgd:s.lc.getD k 0=s.lc[k]:=by rw [List.getD_eq_getElem?_getD,List.getElem?_eq_getElem hk0];rfl
 rw [hgd] at hpar
 have HPAR:=Lib.hid (locC_param l s.lc[k])
 have HFA:=Lib.hid (fun (w2:World) (h2:ScM l W0 w2 B (.slice (some ⟨nb,off,none⟩) l.length cap) ⟨sb,ub,mb,.slice vs s.lc.length vc⟩ wb ov held s c)=>wfault_any h2 hn ha 3 hP)
 have HPV:Hid (decide (kndS l s.lc[k]=7)=false):=Lib.hid (decide_eq_false hpar)
 have HCO:=Lib.hid (fun (w2:World) (h2:ScM l W0 w2 B (.slice (some ⟨nb,off,none⟩) l.length cap) ⟨sb,ub,mb,.slice vs s.lc.length vc⟩ wb ov held s c)=>containsI_any (natI s.op) ov w2 h2.opn.nums (by rw [natI_len];omega) (k:Int))
 rw [show decide ((k:Int) ∈ natI s.op)=false from decide_eq_false (fun q=>hopn (natI_mem.1 q))] at HCO
 have HK0:=Lib.hid hk0
 generalize sfrS l a=z at *
 clear hgd hpar hop hopn
 have HX:=Lib.hid (fun (w2:World) (h2:ScM l W0 w2 B (.slice (some ⟨nb,off,none⟩) l.length cap) ⟨sb,ub,mb,.slice vs s.lc.length vc⟩ wb ov held s c)=>(hx w2 h2.bel).c4)
 clear h hx hn hk
 have HAL:=Lib.hid ha
 have HNB:=Lib.hid hnb
 have HP:=Lib.hid hP
 obtain ⟨n,hnn⟩:∃ n,l.length=n:=⟨_,rfl⟩
 have HNN:=Lib.hid hnn
 have i0:(0:Int)<=(a:Int):=by omega
 have i1:(a:Int)<(n:Int):=by omega
 have i2:a<n:=by omega
 generalize l[a].text=tx at *
 clear hP ha hnb P
 go_enter Tryz.func132,Tryz.ntmps132
 go_wp2_with fail
 obtain ⟨W2,hW2⟩:∃ W2,W2=w.alloc (.cells #[.int .i64 0,.int .i64 0] 28):=⟨_,rfl⟩
 have R2:Hid (Bx 28 W2 w.heap.size [.int .i64 0,.int .i64 0]):=Lib.hid (by rw [hW2];exact Bx.new 28 w #[.int .i64 0,.int .i64 0])
 have HB2:Hid (Below w.heap.size w W2):=Lib.hid (by rw [hW2];repeat (first|exact Below.refl _ _|apply Below.setCell _ (by first|omega|(simp<;>omega))|apply Below.alloc _ (by first|omega|(simp<;>omega))))
 have H2:=Lib.hid (HM.out.step HB2.out HM.out.size)
 rw [<- hW2]
 clear hW2 HM
 have KEEP:Hid (∀ W',Below W2.heap.size W2 W'->W'.cell? ⟨wb,0,none⟩=some (.pointer (some ⟨sb,0,none⟩))/\W'.cell? ⟨wb,1,none⟩=some (.slice (some ⟨nb,off,none⟩) n cap)/\W'.cell? ⟨nb,off+a*13+4,none⟩=some (.string tx)/\Below W2.heap.size W2 W'):=Lib.hid (fun W' h=>by
  have q:=H2.out.step h H2.out.size
  have q1:=q.cells.2.1
  rw [hnn] at q1
  exact ⟨q.cells.1,q1,HX.out W' q,h⟩)
 have HFI2:=Lib.hid (fun (W':World) (h:Below W2.heap.size W2 W')=>HFI.out W' (H2.out.step h H2.out.size))
 have wl:=H2.out.cells.2.2.2.2.1
 have nl:nb<W2.heap.size:=Nat.lt_of_lt_of_le HNB.out H2.out.bel.size
 clear HFI hnn
 go_region_held3 (fun W'=>W'.cell? ⟨wb,0,none⟩=some (.pointer (some ⟨sb,0,none⟩))/\W'.cell? ⟨wb,1,none⟩=some (.slice (some ⟨nb,off,none⟩) n cap)/\W'.cell? ⟨nb,off+a*13+4,none⟩=some (.string tx)/\Below W2.heap.size W2 W') (first|exact KEEP.out _ (Below.refl _ _)|exact KEEP.out _ (Below.refl _ _).drew|exact KEEP.out _ (after (by assumption) hb9)) (first|(go_at_call 51;go_split_ands;refine (HFI2.out _ (by assumption)).mono ?_;rintro e w9 ⟨rfl,hb9⟩))
 all_goals go_split_ands
 all_goals
  have hb9':Below W2.heap.size W2 w9:=by assumption
  have H9:=Lib.hid (H2.out.step hb9' H2.out.size)
  have BQ:=Lib.hid (after HB2.out hb9')
  have R9:=Lib.hid (R2.out.keep hb9')
  clear hb9 hb9' H2 R2 KEEP HFI2 wl nl
 all_goals
  obtain ⟨src,lcap,hlv,hat⟩:=HLV.out _ H9.out
  simp only [Value.slice.injEq] at hlv
  obtain ⟨rfl,-,-⟩:=hlv
  obtain ⟨lg,loff,rfl,hlg,hcell⟩:=hat k HK0.out
  have p6:w9.cell? ⟨lg,loff+k*7+6,none⟩=some (.bool false):=(hcell 6 (by omega)).trans (by rw [HPAR.out];exact congrArg (fun b=>some (Value.bool b)) HPV.out)
  obtain ⟨c0,-,c2,-,cl,-⟩:=H9.out.cells
  obtain ⟨e0,e1,-,el,-⟩:=H9.out.sc.cells
  clear hat hcell
  have j0:(0:Int)<=(k:Int):=by omega
  have j1:decide ((k:Int)<0)=false:=decide_eq_false (by omega)
  have j2:(k:Int)<(s.lc.length:Int):=by have:=HK0.out;omega
  have j3:k<s.lc.length:=HK0.out
  go_wp2_with fail
  refine (HCO.out _ H9.out).mono ?_
  rintro e w12 ⟨rfl,rfl⟩
  clear c0 c2 cl e0 e1 el p6 hlg
  go_wp2_with fail
  refine (HFA.out _ H9.out).mono ?_
  rintro e w10 ⟨rfl,hb10⟩
  have HB10:=Lib.hid (after BQ.out hb10)
  obtain ⟨r0,r1,rl,rf⟩:=(R9.out.keep hb10).two
  clear hb10 H9 R9
  go_wp2_with fail
  refine bodyPost_ret (v:=.agg #[.int .i64 3,.int .i64 z]) (by simp [results,Tryz.results132,go_sem,r0,r1]) rfl ?_
  exact ⟨rfl,(HB10.out.setCell (p:=⟨w.heap.size,0,none⟩) (Nat.le_refl _) _).setCell (p:=⟨w.heap.size,1,none⟩) (Nat.le_refl _) _⟩
theorem mean_param (P:ProgOk l root) (hn:NdsB W0 B nv l) {a:Nat} (ha:a<l.length) (h:ScM l W0 w B nv S wb ov held s c) (hc:c<16384) {k:Nat} (hk:findS l s.lc (txtS l a)=some k) (hpar:kndS l (s.lc.getD k 0)=7) :
  Calls Tryz.prog 132 #[(.pointer (some ⟨wb,0,none⟩)),.int .i64 (a:Nat)] w (WPost l W0 w B nv S.sb S.ub S.mb wb held (.ok { s with us:=putN s.us a k }) (c+1)):=by
 have hP:=P.long
 obtain ⟨nb,off,cap,rfl,hnb,kv,ev,hx⟩:=hn.node ha
 obtain ⟨sb,ub,mb,lv⟩:=S
 have HM:=Lib.hid h
 have HBW:Hid (B<=w.heap.size):=Lib.hid h.size
 rw [txtS_get ha] at hk
 obtain ⟨vs,vc,rfl⟩:∃ vs vc,lv = .slice vs s.lc.length vc:=own_any_shape h.sc.row
 obtain ⟨hk0,-⟩:=findS_some hk
 have HLV:=Lib.hid (fun (w2:World) (h2:ScM l W0 w2 B (.slice (some ⟨nb,off,none⟩) l.length cap) ⟨sb,ub,mb,.slice vs s.lc.length vc⟩ wb ov held s c)=>LocV.of_row h2.sc.row)
 have HFI:=Lib.hid (fun (w2:World) (h2:ScM l W0 w2 B (.slice (some ⟨nb,off,none⟩) l.length cap) ⟨sb,ub,mb,.slice vs s.lc.length vc⟩ wb ov held s c)=>scfind_any (S:=⟨sb,ub,mb,.slice vs s.lc.length vc⟩) h2.sc l[a].text)
 rw [hk,show idxI (some k)=(k:Int) from rfl] at HFI
 have HLEN:=Lib.hid h.sc.few
 have hgd:s.lc.getD k 0=s.lc[k]:=by rw [List.getD_eq_getElem?_getD,List.getElem?_eq_getElem hk0];rfl
 rw [hgd] at hpar
 have HPAR:=Lib.hid (locC_param l s.lc[k])
 have HPV:Hid (decide (kndS l s.lc[k]=7)=true):=Lib.hid (decide_eq_true hpar)
 have HK0:=Lib.hid hk0
 clear hgd hpar
 have HX:=Lib.hid (fun (w2:World) (h2:ScM l W0 w2 B (.slice (some ⟨nb,off,none⟩) l.length cap) ⟨sb,ub,mb,.slice vs s.lc.length vc⟩ wb ov held s c)=>(hx w2 h2.bel).c4)
 clear h hx hn hk
 have HAL:=Lib.hid ha
 have HNB:=Lib.hid hnb
 have HP:=Lib.hid hP
 obtain ⟨n,hnn⟩:∃ n,l.length=n:=⟨_,rfl⟩
 have HNN:=Lib.hid hnn
 have i0:(0:Int)<=(a:Int):=by omega
 have i1:(a:Int)<(n:Int):=by omega
 have i2:a<n:=by omega
 generalize l[a].text=tx at *
 clear hP ha hnb P
 go_enter Tryz.func132,Tryz.ntmps132
 go_wp2_with fail
 obtain ⟨W2,hW2⟩:∃ W2,W2=w.alloc (.cells #[.int .i64 0,.int .i64 0] 28):=⟨_,rfl⟩
 have R2:Hid (Bx 28 W2 w.heap.size [.int .i64 0,.int .i64 0]):=Lib.hid (by rw [hW2];exact Bx.new 28 w #[.int .i64 0,.int .i64 0])
 have HB2:Hid (Below w.heap.size w W2):=Lib.hid (by rw [hW2];repeat (first|exact Below.refl _ _|apply Below.setCell _ (by first|omega|(simp<;>omega))|apply Below.alloc _ (by first|omega|(simp<;>omega))))
 have H2:=Lib.hid (HM.out.step HB2.out HM.out.size)
 rw [<- hW2]
 clear hW2 HM
 have KEEP:Hid (∀ W',Below W2.heap.size W2 W'->W'.cell? ⟨wb,0,none⟩=some (.pointer (some ⟨sb,0,none⟩))/\W'.cell? ⟨wb,1,none⟩=some (.slice (some ⟨nb,off,none⟩) n cap)/\W'.cell? ⟨nb,off+a*13+4,none⟩=some (.string tx)/\Below W2.heap.size W2 W'):=Lib.hid (fun W' h=>by
  have q:=H2.out.step h H2.out.size
  have q1:=q.cells.2.1
  rw [hnn] at q1
  exact ⟨q.cells.1,q1,HX.out W' q,h⟩)
 have HFI2:=Lib.hid (fun (W':World) (h:Below W2.heap.size W2 W')=>HFI.out W' (H2.out.step h H2.out.size))
 have wl:=H2.out.cells.2.2.2.2.1
 have nl:nb<W2.heap.size:=Nat.lt_of_lt_of_le HNB.out H2.out.bel.size
 clear HFI hnn
 go_region_held3 (fun W'=>W'.cell? ⟨wb,0,none⟩=some (.pointer (some ⟨sb,0,none⟩))/\W'.cell? ⟨wb,1,none⟩=some (.slice (some ⟨nb,off,none⟩) n cap)/\W'.cell? ⟨nb,off+a*13+4,none⟩=some (.string tx)/\Below W2.heap.size W2 W') (first|exact KEEP.out _ (Below.refl _ _)|exact KEEP.out _ (Below.refl _ _).drew|exact KEEP.out _ (after (by assumption) hb9)) (first|(go_at_call 51;go_split_ands;refine (HFI2.out _ (by assumption)).mono ?_;rintro e w9 ⟨rfl,hb9⟩))
 all_goals go_split_ands
 all_goals
  have hb9':Below W2.heap.size W2 w9:=by assumption
  have H9:=Lib.hid (H2.out.step hb9' H2.out.size)
  have BQ:=Lib.hid (after HB2.out hb9')
  have R9:=Lib.hid (R2.out.keep hb9')
  clear hb9 hb9' H2 R2 KEEP HFI2 wl nl
 all_goals
  obtain ⟨src,lcap,hlv,hat⟩:=HLV.out _ H9.out
  simp only [Value.slice.injEq] at hlv
  obtain ⟨rfl,-,-⟩:=hlv
  obtain ⟨lg,loff,rfl,hlg,hcell⟩:=hat k HK0.out
  have p6:w9.cell? ⟨lg,loff+k*7+6,none⟩=some (.bool true):=(hcell 6 (by omega)).trans (by rw [HPAR.out];exact congrArg (fun b=>some (Value.bool b)) HPV.out)
  obtain ⟨c0,-,c2,-,cl,-⟩:=H9.out.cells
  obtain ⟨e0,e1,-,el,-⟩:=H9.out.sc.cells
  clear hat hcell
  have j0:(0:Int)<=(k:Int):=by omega
  have j1:decide ((k:Int)<0)=false:=decide_eq_false (by omega)
  have j2:(k:Int)<(s.lc.length:Int):=by have:=HK0.out;omega
  have j3:k<s.lc.length:=HK0.out
  obtain ⟨W6,hup,h6,hg6⟩:=H9.out.put_use (k:=k) hc (a:=a) (by have:=HAL.out;have:=HP.out;omega)
  have H6:=Lib.hid h6
  have K6:=Lib.hid ((Kept.of_below BQ.out).trans (Kept.map hg6 H9.out.sc.uses))
  have R6:Hid (Bx 28 W6 w.heap.size [.int .i64 0,.int .i64 0]):=Lib.hid (R9.out.at_ (hg6.block _ R9.out.lt (fun e=>H9.out.sc.uses.ne_cells R9.out (Option.some.inj e).symm)))
  obtain ⟨r0,r1,rl,rf⟩:=R6.out.two
  clear h6 hg6
  go_wp2_with fail
  refine bodyPost_ret (v:=.agg #[.int .i64 0,.int .i64 0]) (by simp [results,Tryz.results132,go_sem,r0,r1]) rfl ?_
  refine .inr ⟨_,.slice (some ⟨lg,loff,none⟩) s.lc.length vc,ov,rfl,rfl,?_,(K6.out.fresh (Nat.le_refl _) 0 _).fresh (Nat.le_refl _) 1 _⟩
  exact (H6.out.far R6.out HBW.out (by decide) (by decide) (by decide) (by decide) 0 _).far (R6.out.set 0 _) HBW.out (by decide) (by decide) (by decide) (by decide) 1 _
theorem mean_open (P:ProgOk l root) (hn:NdsB W0 B nv l) {a:Nat} (ha:a<l.length) (h:ScM l W0 w B nv S wb ov held s c) (hc:c<16384) {k:Nat} (hk:findS l s.lc (txtS l a)=some k) (hpar:kndS l (s.lc.getD k 0)≠7) (hop:s.op.length<=64) (hopn:k ∈ s.op) :
  Calls Tryz.prog 132 #[(.pointer (some ⟨wb,0,none⟩)),.int .i64 (a:Nat)] w (WPost l W0 w B nv S.sb S.ub S.mb wb held (.ok { s with us:=putN s.us a k }) (c+1)):=by
 have hP:=P.long
 obtain ⟨nb,off,cap,rfl,hnb,kv,ev,hx⟩:=hn.node ha
 obtain ⟨sb,ub,mb,lv⟩:=S
 have HM:=Lib.hid h
 have HBW:Hid (B<=w.heap.size):=Lib.hid h.size
 rw [txtS_get ha] at hk
 obtain ⟨vs,vc,rfl⟩:∃ vs vc,lv = .slice vs s.lc.length vc:=own_any_shape h.sc.row
 obtain ⟨hk0,-⟩:=findS_some hk
 have HLV:=Lib.hid (fun (w2:World) (h2:ScM l W0 w2 B (.slice (some ⟨nb,off,none⟩) l.length cap) ⟨sb,ub,mb,.slice vs s.lc.length vc⟩ wb ov held s c)=>LocV.of_row h2.sc.row)
 have HFI:=Lib.hid (fun (w2:World) (h2:ScM l W0 w2 B (.slice (some ⟨nb,off,none⟩) l.length cap) ⟨sb,ub,mb,.slice vs s.lc.length vc⟩ wb ov held s c)=>scfind_any (S:=⟨sb,ub,mb,.slice vs s.lc.length vc⟩) h2.sc l[a].text)
 rw [hk,show idxI (some k)=(k:Int) from rfl] at HFI
 have HLEN:=Lib.hid h.sc.few
 have hgd:s.lc.getD k 0=s.lc[k]:=by rw [List.getD_eq_getElem?_getD,List.getElem?_eq_getElem hk0];rfl
 rw [hgd] at hpar
 have HPAR:=Lib.hid (locC_param l s.lc[k])
 have HPV:Hid (decide (kndS l s.lc[k]=7)=false):=Lib.hid (decide_eq_false hpar)
 have HCO:=Lib.hid (fun (w2:World) (h2:ScM l W0 w2 B (.slice (some ⟨nb,off,none⟩) l.length cap) ⟨sb,ub,mb,.slice vs s.lc.length vc⟩ wb ov held s c)=>containsI_any (natI s.op) ov w2 h2.opn.nums (by rw [natI_len];omega) (k:Int))
 rw [show decide ((k:Int) ∈ natI s.op)=true from decide_eq_true (natI_mem.2 hopn)] at HCO
 have HK0:=Lib.hid hk0
 clear hgd hpar hop hopn
 have HX:=Lib.hid (fun (w2:World) (h2:ScM l W0 w2 B (.slice (some ⟨nb,off,none⟩) l.length cap) ⟨sb,ub,mb,.slice vs s.lc.length vc⟩ wb ov held s c)=>(hx w2 h2.bel).c4)
 clear h hx hn hk
 have HAL:=Lib.hid ha
 have HNB:=Lib.hid hnb
 have HP:=Lib.hid hP
 obtain ⟨n,hnn⟩:∃ n,l.length=n:=⟨_,rfl⟩
 have HNN:=Lib.hid hnn
 have i0:(0:Int)<=(a:Int):=by omega
 have i1:(a:Int)<(n:Int):=by omega
 have i2:a<n:=by omega
 generalize l[a].text=tx at *
 clear hP ha hnb P
 go_enter Tryz.func132,Tryz.ntmps132
 go_wp2_with fail
 obtain ⟨W2,hW2⟩:∃ W2,W2=w.alloc (.cells #[.int .i64 0,.int .i64 0] 28):=⟨_,rfl⟩
 have R2:Hid (Bx 28 W2 w.heap.size [.int .i64 0,.int .i64 0]):=Lib.hid (by rw [hW2];exact Bx.new 28 w #[.int .i64 0,.int .i64 0])
 have HB2:Hid (Below w.heap.size w W2):=Lib.hid (by rw [hW2];repeat (first|exact Below.refl _ _|apply Below.setCell _ (by first|omega|(simp<;>omega))|apply Below.alloc _ (by first|omega|(simp<;>omega))))
 have H2:=Lib.hid (HM.out.step HB2.out HM.out.size)
 rw [<- hW2]
 clear hW2 HM
 have KEEP:Hid (∀ W',Below W2.heap.size W2 W'->W'.cell? ⟨wb,0,none⟩=some (.pointer (some ⟨sb,0,none⟩))/\W'.cell? ⟨wb,1,none⟩=some (.slice (some ⟨nb,off,none⟩) n cap)/\W'.cell? ⟨nb,off+a*13+4,none⟩=some (.string tx)/\Below W2.heap.size W2 W'):=Lib.hid (fun W' h=>by
  have q:=H2.out.step h H2.out.size
  have q1:=q.cells.2.1
  rw [hnn] at q1
  exact ⟨q.cells.1,q1,HX.out W' q,h⟩)
 have HFI2:=Lib.hid (fun (W':World) (h:Below W2.heap.size W2 W')=>HFI.out W' (H2.out.step h H2.out.size))
 have wl:=H2.out.cells.2.2.2.2.1
 have nl:nb<W2.heap.size:=Nat.lt_of_lt_of_le HNB.out H2.out.bel.size
 clear HFI hnn
 go_region_held3 (fun W'=>W'.cell? ⟨wb,0,none⟩=some (.pointer (some ⟨sb,0,none⟩))/\W'.cell? ⟨wb,1,none⟩=some (.slice (some ⟨nb,off,none⟩) n cap)/\W'.cell? ⟨nb,off+a*13+4,none⟩=some (.string tx)/\Below W2.heap.size W2 W') (first|exact KEEP.out _ (Below.refl _ _)|exact KEEP.out _ (Below.refl _ _).drew|exact KEEP.out _ (after (by assumption) hb9)) (first|(go_at_call 51;go_split_ands;refine (HFI2.out _ (by assumption)).mono ?_;rintro e w9 ⟨rfl,hb9⟩))
 all_goals go_split_ands
 all_goals
  have hb9':Below W2.heap.size W2 w9:=by assumption
  have H9:=Lib.hid (H2.out.step hb9' H2.out.size)
  have BQ:=Lib.hid (after HB2.out hb9')
  have R9:=Lib.hid (R2.out.keep hb9')
  clear hb9 hb9' H2 R2 KEEP HFI2 wl nl
 all_goals
  obtain ⟨src,lcap,hlv,hat⟩:=HLV.out _ H9.out
  simp only [Value.slice.injEq] at hlv
  obtain ⟨rfl,-,-⟩:=hlv
  obtain ⟨lg,loff,rfl,hlg,hcell⟩:=hat k HK0.out
  have p6:w9.cell? ⟨lg,loff+k*7+6,none⟩=some (.bool false):=(hcell 6 (by omega)).trans (by rw [HPAR.out];exact congrArg (fun b=>some (Value.bool b)) HPV.out)
  obtain ⟨c0,-,c2,-,cl,-⟩:=H9.out.cells
  obtain ⟨e0,e1,-,el,-⟩:=H9.out.sc.cells
  clear hat hcell
  have j0:(0:Int)<=(k:Int):=by omega
  have j1:decide ((k:Int)<0)=false:=decide_eq_false (by omega)
  have j2:(k:Int)<(s.lc.length:Int):=by have:=HK0.out;omega
  have j3:k<s.lc.length:=HK0.out
  go_wp2_with fail
  refine (HCO.out _ H9.out).mono ?_
  rintro e w12 ⟨rfl,rfl⟩
  obtain ⟨W6,hup,h6,hg6⟩:=H9.out.put_use (k:=k) hc (a:=a) (by have:=HAL.out;have:=HP.out;omega)
  have H6:=Lib.hid h6
  have K6:=Lib.hid ((Kept.of_below BQ.out).trans (Kept.map hg6 H9.out.sc.uses))
  have R6:Hid (Bx 28 W6 w.heap.size [.int .i64 0,.int .i64 0]):=Lib.hid (R9.out.at_ (hg6.block _ R9.out.lt (fun e=>H9.out.sc.uses.ne_cells R9.out (Option.some.inj e).symm)))
  obtain ⟨r0,r1,rl,rf⟩:=R6.out.two
  clear h6 hg6
  go_wp2_with fail
  refine bodyPost_ret (v:=.agg #[.int .i64 0,.int .i64 0]) (by simp [results,Tryz.results132,go_sem,r0,r1]) rfl ?_
  refine .inr ⟨_,.slice (some ⟨lg,loff,none⟩) s.lc.length vc,ov,rfl,rfl,?_,(K6.out.fresh (Nat.le_refl _) 0 _).fresh (Nat.le_refl _) 1 _⟩
  exact (H6.out.far R6.out HBW.out (by decide) (by decide) (by decide) (by decide) 0 _).far (R6.out.set 0 _) HBW.out (by decide) (by decide) (by decide) (by decide) 1 _
theorem mean_any (P:ProgOk l root) (hn:NdsB W0 B nv l) {a:Nat} (ha:a<l.length) (h:ScM l W0 w B nv S wb ov held s c) (hc:c<16384) (hop:s.op.length<=64) :
  Calls Tryz.prog 132 #[(.pointer (some ⟨wb,0,none⟩)),.int .i64 (a:Nat)] w (WPost l W0 w B nv S.sb S.ub S.mb wb held (meanG l a s) (c+1)):=by
 unfold meanG
 cases hk:findS l s.lc (txtS l a) with
 | none =>
  refine (mean_none P hn ha h hk).mono ?_
  rintro e w' ⟨rfl,hb⟩
  exact .inl ⟨3,sfrS l a,rfl,rfl,by decide,h.bel.trans (hb.mono h.size),Kept.of_below hb⟩
 | some k =>
  show Calls _ _ _ _ (WPost l W0 w B nv S.sb S.ub S.mb wb held (if kndS l (s.lc.getD k 0)=7\/k ∈ s.op then .ok { s with us:=putN s.us a k } else .error (3,sfrS l a)) (c+1))
  by_cases h7:kndS l (s.lc.getD k 0)=7
  ·rw [if_pos (.inl h7)];exact mean_param P hn ha h hc hk h7
  ·by_cases ho:k ∈ s.op
   ·rw [if_pos (.inr ho)];exact mean_open P hn ha h hc hk h7 hop ho
   ·rw [if_neg (fun q=>q.elim h7 ho)]
    refine (mean_shut P hn ha h hk h7 hop ho).mono ?_
    rintro e w' ⟨rfl,hb⟩
    exact .inl ⟨3,sfrS l a,rfl,rfl,by decide,h.bel.trans (hb.mono h.size),Kept.of_below hb⟩
end
end Go.Proofs.YtfehpdliobapfaaGreatDoor.S
namespace Go.Proofs.YtfehpdliobapfaaGreatDoor.S
open Go Go.RowKit
theorem Kept.alloc {w0 w:World} (h:Kept w0 w) (o:Obj):Kept w0 (w.alloc o):=h.trans (Kept.of_below ((Below.refl _ _).alloc (Nat.le_refl _) _))
theorem self_opn {l:List Nd} {h:Bool} {a n:Nat} {s s':Sc} (e:selfG l h a n s = .ok s') (hs:s.op.length<=s.lc.length):s'.op.length<=s'.lc.length:=by
 unfold selfG at e
 by_cases h8:kndS l a=8
 ·rw [if_pos h8] at e;cases e
  show (s.op.take n).length<=s.lc.length
  rw [List.length_take];omega
 rw [if_neg h8] at e
 by_cases h7:kndS l a=7\/kndS l a=9
 ·rw [if_pos h7] at e
  unfold declG at e
  split at e
  ·cases e
  by_cases h64:s.lc.length=64
  ·rw [if_pos h64] at e;cases e
  rw [if_neg h64] at e;cases e
  show ((if _ then s.op ++ [_] else s.op):List Nat).length<=(s.lc ++ [a]).length
  split
  ·simp;omega
  ·simp;omega
 rw [if_neg h7] at e
 by_cases h25:kndS l a=25
 ·rw [if_pos h25] at e
  unfold meanG at e
  split at e
  ·cases e
  ·split at e
   ·cases e;exact hs
   ·cases e
 rw [if_neg h25] at e
 by_cases h10:kndS l a=10
 ·rw [if_pos h10] at e;cases e
  unfold assG
  split
  ·exact hs
  ·exact hs
 rw [if_neg h10] at e;cases e;exact hs
theorem kids_opn {F:Nat->Sc->ScR}:∀ (ks:List Nat) (s s':Sc),(∀ k ∈ ks,∀ s s',F k s = .ok s'->s.op.length<=s.lc.length->s'.op.length<=s'.lc.length)->kidsG F ks s = .ok s'->s.op.length<=s.lc.length->s'.op.length<=s'.lc.length
 | [],s,s',_,e,hs=>by cases e;exact hs
 | k :: ks,s,s',h,e,hs=>by
  have e':thenG (F k s) (kidsG F ks)=Except.ok s':=e
  cases hk:F k s with
  | error q=>rw [hk] at e';cases e'
  | ok s1 =>
   rw [hk] at e'
   exact kids_opn ks s1 s' (fun x hx=>h x (List.mem_cons_of_mem _ hx)) e' (h k List.mem_cons_self s s1 hk hs)
theorem sc_opn {l:List Nd} {root:Int} (P:ProgOk l root):∀ (a:Nat),a<l.length->∀ h s s',scS l h a s = .ok s'->s.op.length<=s.lc.length->s'.op.length<=s'.lc.length:=by
 intro a
 induction a using Nat.strongRecOn with
 | _ a ih =>
  intro ha h s s' e hs
  rw [sc_eq P ha] at e
  cases hk:kidsG (scS l (h || decide (kndS l a=8))) (kidsOf l a) s with
  | error q=>rw [hk] at e;cases e
  | ok s1 =>
   rw [hk] at e
   exact self_opn e (kids_opn _ s s1 (fun k hkk s s'=>by
    have hk':=kidsOf_lt P ha hkk
    exact ih k hk' (by omega) _ s s') hk hs)
theorem kidsG_app {F:Nat->Sc->ScR}:∀ (A B:List Nat) (s:Sc),kidsG F (A ++ B) s=thenG (kidsG F A s) (kidsG F B)
 | [],B,s=>rfl
 | k :: A,B,s=>by
  show thenG (F k s) (kidsG F (A ++ B))=thenG (thenG (F k s) (kidsG F A)) (kidsG F B)
  cases F k s with
  | error e=>rfl
  | ok s1=>exact kidsG_app A B s1
theorem OpM.cap {w:World} {B m cap:Nat} {g:Option Addr} {L:List Int} (h:OpM w B (.slice g m cap) L):L.length<=cap:=by
 rcases h with ⟨_,⟨hv,h0⟩|⟨g',cap',cur,hv,h1,h2,h3,_⟩⟩|⟨g',cur,hv,_⟩
 ·have:L.length=0:=h0
  omega
 ·simp only [Value.slice.injEq] at hv
  omega
 ·simp only [Value.slice.injEq] at hv
  omega
section
variable {l:List Nd} {root:Int} {W0 w:World} {B:Nat} {nv:Value} {S:ScV} {wb:Nat} {ov:Value} {held:Bool} {s:Sc} {c:Nat}
def metL (l:List Nd) (ks:List Nat):Nat:=(ks.flatMap (walkS l)).length
theorem metL_snoc (l:List Nd) (ks:List Nat) (k:Nat):metL l (ks ++ [k])=metL l ks+(walkS l k).length:=by unfold metL;rw [List.flatMap_append,List.length_append];simp
theorem swalk_any (P:ProgOk l root) (hn:NdsB W0 B nv l) (hf:∀ x ∈ l,NdFit x):∀ (a:Nat),a<l.length->∀ (held:Bool) (s:Sc) (S:ScV) (ov:Value) (w:World) (c:Nat),ScM l W0 w B nv S wb ov held s c->s.op.length<=s.lc.length->c+(walkS l a).length<=16384 ->
  Calls Tryz.prog 92 #[(.pointer (some ⟨wb,0,none⟩)),.int .i64 (a:Nat)] w (WPost l W0 w B nv S.sb S.ub S.mb wb held (scS l held a s) (c+(walkS l a).length)):=by
 have HNDS:=Lib.hid hn
 have HFIT:=Lib.hid hf
 have HPR:=Lib.hid P
 intro a
 induction a using Nat.strongRecOn with
 | _ a ih =>
  intro ha held s S ov w c h hso hcw
  have hP:=P.long
  obtain ⟨nb,off,cap,hnv,hnb,kv,ev,hx⟩:=hn.node ha
  subst hnv
  obtain ⟨sb,ub,mb,lv⟩:=S
  obtain ⟨osrc,ocap,hov,-⟩:=h.opn.nums
  rw [natI_len] at hov
  subst hov
  obtain ⟨ks,kc,hkv,hks⟩:=(hx w h.bel).kids
  subst hkv
  obtain ⟨es,ec,hev,-⟩:=(hx w h.bel).ends
  subst hev
  have HM:=Lib.hid h
  have HIH:=Lib.hid ih
  have HBW:Hid (B<=w.heap.size):=Lib.hid h.size
  have HWL:Hid (wb<w.heap.size):=Lib.hid h.wbox.lt
  have HSO:=Lib.hid hso
  have HCW:=Lib.hid hcw
  have HEQ:=Lib.hid (sc_eq P ha held s)
  have HKO:=Lib.hid (kidsOf_get l a ha)
  have HWK:=Lib.hid (walk_eq P ha)
  have HAH:=Lib.hid (P.ahead a ha)
  have HKN:=Lib.hid (kndS_get ha)
  have HKIDS:Hid (∀ W',Below B W0 W'->∃ kv',kv'=Value.slice ks l[a].kids.length kc/\NumsV W' kv' l[a].kids):=Lib.hid (fun W' hW=>⟨_,rfl,(hx W' hW).kids⟩)
  have d:=hx w h.bel
  obtain ⟨-,-,d0,d1,d2,d3,d4,d5,d6,d7,d8,d9,d10,d11,d12⟩:=d
  obtain ⟨c0,c1,c2,c3,cl,-⟩:=h.cells
  have hnl:nb<w.heap.size:=Nat.lt_of_lt_of_le hnb h.bel.size
  have HAL:=Lib.hid ha
  have HKB:=Lib.hid (hf _ (List.getElem_mem ha)).kids
  clear h hx hks ih hso hcw
  generalize l[a]=x at *
  clear ha
  obtain ⟨n,hnn⟩:∃ n,l.length=n:=⟨_,rfl⟩
  have HNN:=Lib.hid hnn
  rw [hnn] at c1
  have i0:(0:Int)<=(a:Int):=by omega
  have i1:(a:Int)<(n:Int):=by have:=HAL.out;omega
  have i2:a<n:=by have:=HAL.out;omega
  have HP:=Lib.hid hP
  clear hnn hP hn hf P hnb
  go_enter Tryz.func92,Tryz.ntmps92
  go_wp2_with fail
  obtain ⟨W2,hW2⟩:∃ W2,W2=(w.alloc (.cells #[.int .i64 0,.int .i64 0] 28)).alloc (.cells #[.int .i64 x.kind,.int .i64 x.sf,.int .i64 x.st,.slice ks x.kids.length kc,.string x.text,.int .i64 x.B,.string x.N,.int .i64 x.D,.string x.M,.int .i64 x.num,.int .i64 x.wf,.int .i64 x.wt,.slice es x.ends.length ec] 61):=⟨_,rfl⟩
  have R2:Hid (Bx 28 W2 w.heap.size [.int .i64 0,.int .i64 0]):=Lib.hid (by rw [hW2];exact (Bx.new 28 w #[.int .i64 0,.int .i64 0]).alloc _)
  have X2:Hid (Bx 61 W2 (w.heap.size+1) (Array.toList #[.int .i64 x.kind,.int .i64 x.sf,.int .i64 x.st,.slice ks x.kids.length kc,.string x.text,.int .i64 x.B,.string x.N,.int .i64 x.D,.string x.M,.int .i64 x.num,.int .i64 x.wf,.int .i64 x.wt,.slice es x.ends.length ec])):=Lib.hid (by
   rw [hW2]
   have:=Bx.new 61 (w.alloc (.cells #[.int .i64 0,.int .i64 0] 28)) #[.int .i64 x.kind,.int .i64 x.sf,.int .i64 x.st,.slice ks x.kids.length kc,.string x.text,.int .i64 x.B,.string x.N,.int .i64 x.D,.string x.M,.int .i64 x.num,.int .i64 x.wf,.int .i64 x.wt,.slice es x.ends.length ec]
   simpa using this)
  have HB2:Hid (Below w.heap.size w W2):=Lib.hid (by rw [hW2];repeat (first|exact Below.refl _ _|apply Below.setCell _ (by first|omega|(simp<;>omega))|apply Below.alloc _ (by first|omega|(simp<;>omega))))
  have H2:=Lib.hid (HM.out.step HB2.out HM.out.size)
  rw [<- hW2]
  clear hW2 HM c0 c1 c2 c3 cl d0 d1 d2 d3 d4 d5 d6 d7 d8 d9 d10 d11 d12 hnl
  obtain ⟨c0,c1,c2,c3,cl,cf⟩:=H2.out.cells
  go_quiet (fail)
  have H3:=Lib.hid (H2.out.drew nq)
  have R3:Hid (Bx 28 (W2.drewN nq) w.heap.size [.int .i64 0,.int .i64 0]):=R2
  have X3:Hid (Bx 61 (W2.drewN nq) (w.heap.size+1) (Array.toList #[.int .i64 x.kind,.int .i64 x.sf,.int .i64 x.st,.slice ks x.kids.length kc,.string x.text,.int .i64 x.B,.string x.N,.int .i64 x.D,.string x.M,.int .i64 x.num,.int .i64 x.wf,.int .i64 x.wt,.slice es x.ends.length ec])):=X2
  have KP3:Hid (Kept w (W2.drewN nq)):=Lib.hid (Kept.of_below (after HB2.out (below_drewN (Below.refl _ _) nq)))
  clear c0 c1 c2 c3 cl cf H2 R2 X2 HB2
  generalize W2.drewN nq=W3 at *
  obtain ⟨c0,c1,c2,c3,cl,cf⟩:=H3.out.cells
  have xl:=X3.out.lt
  obtain ⟨hb,hhb⟩:∃ hb,hb=(held || decide (x.kind=8)):=⟨_,rfl⟩
  have HHB:=Lib.hid hhb
  go_upto_region 3 with fail
  go_cut [33] from 27 to 35 (fun s33 wx=>wx=W3.setCell ⟨wb,3,none⟩ (.bool hb))
  case first =>
   have a0:=X3.out.cell 0
   simp only [List.getElem?_cons_zero] at a0
   cases held with
   | true =>
    have e:hb=true:=HHB.out
    have E:=Lib.hid e
    clear e hhb
    go_wp2_with fail
    go_meet
    rw [E.out]
   | false =>
    by_cases h8:x.kind=8
    ·have e:hb=true:=by rw [HHB.out];simp [h8]
     have q8:(x.kind == 8)=true:=by simp [h8]
     have q9:decide (x.kind=8)=true:=decide_eq_true h8
     have E:=Lib.hid e
     clear e hhb h8
     go_wp2_with fail
     go_meet
     rw [E.out]
    ·have e:hb=false:=by rw [HHB.out];simp [h8]
     have q8:(x.kind == 8)=false:=by simp [h8]
     have q9:decide (x.kind=8)=false:=decide_eq_false h8
     have E:=Lib.hid e
     clear e hhb h8
     go_wp2_with fail
     go_meet
     rw [E.out]
  case rest =>
   have hnwb:w.heap.size≠wb/\w.heap.size+1≠wb:=by have:=HWL.out;omega
   have H4:Hid (ScM l W0 wc B (.slice (some ⟨nb,off,none⟩) l.length cap) ⟨sb,ub,mb,lv⟩ wb (.slice osrc s.op.length ocap) hb s c):=Lib.hid (by rw [hcut];exact H3.out.wset hb)
   have R4:Hid (Bx 28 wc w.heap.size [.int .i64 0,.int .i64 0]):=Lib.hid (by rw [hcut];exact R3.out.other hnwb.1 3 _)
   have X4:Hid (Bx 61 wc (w.heap.size+1) (Array.toList #[.int .i64 x.kind,.int .i64 x.sf,.int .i64 x.st,.slice ks x.kids.length kc,.string x.text,.int .i64 x.B,.string x.N,.int .i64 x.D,.string x.M,.int .i64 x.num,.int .i64 x.wf,.int .i64 x.wt,.slice es x.ends.length ec])):=Lib.hid (by rw [hcut];exact X3.out.other hnwb.2 3 _)
   have KP4:Hid (Kept w wc):=Lib.hid (by rw [hcut];exact KP3.out.trans (Kept.set_t H3.out.wbox (.inr rfl) 3 _))
   clear hcut hnwb c0 c1 c2 c3 cl cf xl H3 R3 X3 KP3 hhb
   obtain ⟨m,hm⟩:∃ m,m=x.kids.length:=⟨_,rfl⟩
   have HMM:=Lib.hid hm
   have a3:=X4.out.cell 3
   simp only [List.getElem?_cons_zero,List.getElem?_cons_succ] at a3
   rw [<- hm] at a3
   have xl:=X4.out.lt
   have HPRE:Hid (∀ j,j<m->∃ q:Nat,q<a/\(∃ hj:j<x.kids.length,x.kids[j]=(q:Int))/\(kidsOf l a).take (j+1)=(kidsOf l a).take j ++ [q]/\kidsOf l a=(kidsOf l a).take j ++ (q :: (kidsOf l a).drop (j+1))):=Lib.hid (fun j hj=>by
    have hjl:j<x.kids.length:=by rw [<- hm];exact hj
    obtain ⟨h0,h1⟩:=HAH.out _ (List.getElem_mem hjl)
    have hkl:j<(kidsOf l a).length:=by rw [HKO.out];simpa using hjl
    have hq:(kidsOf l a)[j]=(x.kids[j]).toNat:=by simp [HKO.out]
    refine ⟨(x.kids[j]).toNat,by omega,⟨hjl,by omega⟩,?_,?_⟩
    ·rw [List.take_succ_eq_append_getElem hkl,hq]
    ·rw [<- hq,List.getElem_cons_drop,List.take_append_drop])
   have HMET:Hid (∀ j,c+metL l ((kidsOf l a).take j)+1<=c+(walkS l a).length):=Lib.hid (fun j=>by
    rw [HWK.out]
    have e:(kidsOf l a).flatMap (walkS l)=((kidsOf l a).take j).flatMap (walkS l) ++ ((kidsOf l a).drop j).flatMap (walkS l):=by rw [<- List.flatMap_append,List.take_append_drop]
    rw [e]
    unfold metL
    simp
    omega)
   have HHB2:Hid ((held || decide (kndS l a=8))=hb):=Lib.hid (by rw [HKN.out,HHB.out])
   have HERR:Hid (∀ (j q:Nat) (s':Sc) (z:Int × Int),kidsG (scS l hb) ((kidsOf l a).take j) s = .ok s'->kidsOf l a=(kidsOf l a).take j ++ (q :: (kidsOf l a).drop (j+1))->scS l hb q s' = .error z->scS l held a s = .error z):=Lib.hid (fun j q s' z h1 h2 h3=>by
    rw [HEQ.out,HHB2.out,h2,kidsG_app,h1]
    show thenG (thenG (scS l hb q s') _) _=_
    rw [h3];rfl)
   have HFIN:Hid (∀ s',kidsG (scS l hb) (kidsOf l a) s = .ok s'->scS l held a s=selfG l held a s.op.length s'/\s.op.length<=s'.op.length):=Lib.hid (fun s' h1=>⟨by
    rw [HEQ.out,HHB2.out,h1];rfl,(kids_op (kidsOf l a) s s' (fun k hk s s'=>sc_op HPR.out k (by have:=kidsOf_lt HPR.out HAL.out hk;have:=HAL.out;omega) hb s s') h1).2⟩)
   clear hm
   go_wp2_with fail
   clear a3
   go_loopw [39] (fun i wr=>∃ (j:Nat) (s':Sc) (lv' ov':Value),j<=m/\i = .int .i64 j/\kidsG (scS l hb) ((kidsOf l a).take j) s = .ok s'/\ScM l W0 wr B (.slice (some ⟨nb,off,none⟩) l.length cap) ⟨sb,ub,mb,lv'⟩ wb ov' hb s' (c+metL l ((kidsOf l a).take j))/\s'.op.length<=s'.lc.length/\Kept wc wr) (fun i _=>m-(intOf i).toNat)
   case atStart=>exact ⟨0,s,lv,_,Nat.zero_le _,rfl,rfl,by simpa [metL] using H4.out,HSO.out,Kept.refl _⟩
   case round =>
    obtain ⟨j,s',lv',ov',hj,rfl,hkg,hM,hso',hK⟩:=hrel
    have HKG:=Lib.hid hkg
    have HMJ:=Lib.hid hM
    have HSJ:=Lib.hid hso'
    have HKJ:=Lib.hid hK
    clear hkg hM hso' hK
    by_cases hlt:j<m
    ·obtain ⟨q,hqa,⟨hjl,hkq⟩,htk,hspl⟩:=HPRE.out j hlt
     have HTK:=Lib.hid htk
     have HSPL:=Lib.hid hspl
     obtain ⟨kv',hkv',ksrc,kcap,hkv2,hkin⟩:=HKIDS.out wr HMJ.out.bel
     rw [hkv'] at hkv2
     simp only [Value.slice.injEq] at hkv2
     obtain ⟨rfl,-,rfl⟩:=hkv2
     obtain ⟨kb,koff,rfl,hkb,hkat⟩:=hkin (by omega)
     have k0:=hkat j hjl
     rw [hkq] at k0
     have i3:(0:Int)<=(j:Int):=by omega
     have i4:(j:Int)<(m:Int):=by omega
     have i6:IntKind.i64.wrap ((j:Int)+1)=(j:Int)+1:=IntWalk.i64_in _ ⟨by omega,by have:=HKB.out;have:=HMM.out;omega⟩
     have HC:=Lib.hid (HIH.out q hqa (Nat.lt_trans hqa HAL.out) hb s' ⟨sb,ub,mb,lv'⟩ ov' wr _ HMJ.out HSJ.out (by
      have h1:=HMET.out (j+1)
      have h2:=HCW.out
      rw [htk,metL_snoc] at h1
      omega))
     have hwl:=HMJ.out.wbox.lt
     clear htk hspl hkat hkin hkv' hkq
     go_wp2_with fail
     refine HC.out.mono ?_
     rintro e w5 (⟨z1,z2,hr,rfl,hz,hbz,hkz⟩|⟨s2,lv2,ov2,hr,rfl,hM2,hk2⟩)
     ·have q1:(z1 == 0)=false:=by simp [hz]
      have q2:(z1 != 0)=true:=by simp [hz]
      have q3:decide (z1=0)=false:=decide_eq_false hz
      have HR:=Lib.hid (HERR.out j q s' (z1,z2) HKG.out HSPL.out hr)
      have R5:=Lib.hid ((HKJ.out.trans hkz).box R4.out (by decide) (by decide) (by decide) (by decide))
      have KP5:=Lib.hid ((KP4.out.trans HKJ.out).trans hkz)
      have BB5:=Lib.hid hbz
      have SZ5:Hid (B<=w5.heap.size):=Lib.hid (by have:=R5.out.lt;have:=HBW.out;omega)
      have HZ:=Lib.hid hz
      obtain ⟨r0,r1,rl,rf⟩:=R5.out.two
      clear hz hr hbz hkz hwl k0 hkb
      go_wp2_with fail
      refine bodyPost_ret (v:=.agg #[.int .i64 z1,.int .i64 z2]) (by simp [results,Tryz.results92,go_sem,r0,r1,rl]) rfl ?_
      refine .inl ⟨z1,z2,HR.out,rfl,HZ.out,?_,?_⟩
      ·repeat (first|exact BB5.out|refine Below.setCell ?_ HBW.out _|refine Below.alloc ?_ (by first|exact SZ5.out|(simp;exact SZ5.out)) _)
      ·repeat (first|exact KP5.out|refine Kept.fresh ?_ (by omega) _ _|refine Kept.alloc ?_ _)
     ·have HK2:Hid (kidsG (scS l hb) ((kidsOf l a).take (j+1)) s = .ok s2):=Lib.hid (by
       rw [HTK.out,kidsG_app,HKG.out]
       show thenG (scS l hb q s') _=_
       rw [hr];rfl)
      have HM2:=Lib.hid hM2
      have HKP2:=Lib.hid hk2
      have HS2:=Lib.hid (sc_opn HPR.out q (Nat.lt_trans hqa HAL.out) hb s' s2 hr HSJ.out)
      clear hr hM2 hk2 hwl k0 hkb
      go_wp2_with fail
      go_roundw
      case rel =>
       refine ⟨j+1,s2,lv2,ov2,by omega,by go_num,HK2.out,?_,HS2.out,(HKJ.out.trans HKP2.out).trans (Kept.of_below (by repeat (first|exact Below.refl _ _|apply Below.setCell _ (by first|omega|(simp<;>omega))|apply Below.alloc _ (by first|omega|(simp<;>omega)))))⟩
       have h1:=HM2.out.step (w':=w5.alloc (.cells #[.int .i64 0,.int .i64 0] 28)) (by repeat (first|exact Below.refl _ _|apply Below.setCell _ (by first|omega|(simp<;>omega))|apply Below.alloc _ (by first|omega|(simp<;>omega)))) HM2.out.size
       rw [HTK.out,metL_snoc,<- Nat.add_assoc]
       exact h1
      case measure=>simp [intOf];omega
    ·have hjm:j=m:=by omega
     subst hjm
     have htake:(kidsOf l a).take j=kidsOf l a:=List.take_of_length_le (by rw [HKO.out];simp [HMM.out])
     rw [htake] at HKG HMJ
     have HF:=Lib.hid (HFIN.out s' HKG.out)
     have HCC:Hid (c+metL l (kidsOf l a)+1=c+(walkS l a).length):=Lib.hid (by rw [HWK.out];unfold metL;simp;omega)
     have HCB:Hid (c+metL l (kidsOf l a)<16384):=Lib.hid (by have:=HCC.out;have:=HCW.out;omega)
     obtain ⟨os2,oc2,hos2,-⟩:=HMJ.out.opn.nums
     subst hos2
     rw [natI_len] at HMJ
     have HOC:Hid (s'.op.length<=oc2):=Lib.hid (by have:=HMJ.out.opn.cap;rwa [natI_len] at this)
     have HO64:Hid (s'.op.length<=64):=Lib.hid (Nat.le_trans HSJ.out HMJ.out.sc.few)
     obtain ⟨c0,c1,c2,c3,cl,cf⟩:=HMJ.out.cells
     clear htake HKG HPRE HERR HFIN HMET
     go_upto_region 12 with fail
     obtain ⟨W7,hW7⟩:∃ W7,W7=wr.setCell ⟨wb,3,none⟩ (.bool held):=⟨_,rfl⟩
     have hnwb:w.heap.size≠wb/\w.heap.size+1≠wb:=by have:=HWL.out;omega
     have H7:Hid (ScM l W0 W7 B (.slice (some ⟨nb,off,none⟩) l.length cap) ⟨sb,ub,mb,lv'⟩ wb (.slice os2 s'.op.length oc2) held s' (c+metL l (kidsOf l a))):=Lib.hid (by rw [hW7];exact HMJ.out.wset held)
     have R7:Hid (Bx 28 W7 w.heap.size [.int .i64 0,.int .i64 0]):=Lib.hid (by rw [hW7];exact (HKJ.out.box R4.out (by decide) (by decide) (by decide) (by decide)).other hnwb.1 3 _)
     have X7:Hid (Bx 61 W7 (w.heap.size+1) (Array.toList #[.int .i64 x.kind,.int .i64 x.sf,.int .i64 x.st,.slice ks x.kids.length kc,.string x.text,.int .i64 x.B,.string x.N,.int .i64 x.D,.string x.M,.int .i64 x.num,.int .i64 x.wf,.int .i64 x.wt,.slice es x.ends.length ec])):=Lib.hid (by rw [hW7];exact (HKJ.out.box X4.out (by decide) (by decide) (by decide) (by decide)).other hnwb.2 3 _)
     have KP7:Hid (Kept w W7):=Lib.hid (by rw [hW7];exact (KP4.out.trans HKJ.out).trans (Kept.set_t HMJ.out.wbox (.inr rfl) 3 _))
     rw [<- hW7]
     clear hW7 hnwb c0 c1 c2 c3 cl cf HMJ R4 X4 KP4 HKJ H4
     obtain ⟨c0,c1,c2,c3,cl,cf⟩:=H7.out.cells
     have a0:=X7.out.cell 0
     have xl7:=X7.out.lt
     simp only [List.getElem?_cons_zero] at a0
     obtain ⟨r0,r1,rl,rf⟩:=R7.out.two
     by_cases h8:x.kind=8
     ·have q8:(x.kind == 8)=true:=by simp [h8]
      have HS:Hid (scS l held a s = .ok { s' with op:=s'.op.take s.op.length }):=Lib.hid (by
       rw [HF.out.1];unfold selfG;rw [if_pos (by rw [HKN.out];exact h8)])
      have t0:(0:Int)<=(s.op.length:Int):=by omega
      have t1:(s.op.length:Int)<=(oc2:Int):=by have:=HF.out.2;have:=HOC.out;omega
      have t2:s.op.length<=oc2:=by omega
      have H8:Hid (ScM l W0 (W7.setCell ⟨wb,2,none⟩ (.slice os2 s.op.length s.op.length)) B (.slice (some ⟨nb,off,none⟩) l.length cap) ⟨sb,ub,mb,lv'⟩ wb (.slice os2 s.op.length s.op.length) held { s' with op:=s'.op.take s.op.length } (c+metL l (kidsOf l a))):=Lib.hid (by
       refine H7.out.wcut ?_
       have:=H7.out.opn.cut (n:=s.op.length) (by rw [natI_len];exact HF.out.2)
       rwa [natI_take] at this)
      have R8:Hid (Bx 28 (W7.setCell ⟨wb,2,none⟩ (.slice os2 s.op.length s.op.length)) w.heap.size [.int .i64 0,.int .i64 0]):=Lib.hid (R7.out.other (by have:=HWL.out;omega) 2 _)
      have KP8:=Lib.hid (KP7.out.trans (Kept.set_t H7.out.wbox (.inr rfl) 2 (.slice os2 s.op.length s.op.length)))
      clear h8
      go_wp2_with fail
      refine bodyPost_ret (v:=.agg #[.int .i64 0,.int .i64 0]) (by simp [results,Tryz.results92,go_sem,r0,r1]) rfl ?_
      refine .inr ⟨_,lv',.slice os2 s.op.length s.op.length,HS.out,rfl,?_,(KP8.out.fresh (Nat.le_refl _) 0 _).fresh (Nat.le_refl _) 1 _⟩
      exact ((H8.out.far R8.out HBW.out (by decide) (by decide) (by decide) (by decide) 0 _).far (R8.out.set 0 _) HBW.out (by decide) (by decide) (by decide) (by decide) 1 _).mono (by have:=HCC.out;omega)
     ·have q8:(x.kind == 8)=false:=by simp [h8]
      by_cases h7:x.kind=7
      ·have q7:(x.kind == 7)=true:=by simp [h7]
       have HS:Hid (scS l held a s=declG l held a s'):=Lib.hid (by
        rw [HF.out.1];unfold selfG;rw [if_neg (by rw [HKN.out];exact h8),if_pos (by rw [HKN.out];exact .inl h7)])
       have HC:=Lib.hid (declare_any HPR.out HNDS.out HFIT.out HAL.out H7.out HCB.out HO64.out)
       clear h7 h8
       go_wp2_with fail
       refine HC.out.mono ?_
       rintro e w8 (⟨z1,z2,hr,rfl,hz,hbz,hkz⟩|⟨s2,lv2,ov2,hr,rfl,hM2,hk2⟩)
       ·have HR:=Lib.hid (HS.out.trans hr)
        have R8:=Lib.hid (hkz.box R7.out (by decide) (by decide) (by decide) (by decide))
        have KP8:=Lib.hid (KP7.out.trans hkz)
        have BB8:=Lib.hid hbz
        have HZ:=Lib.hid hz
        clear hr hz hbz hkz r0 r1 rl rf
        obtain ⟨r0,r1,rl,rf⟩:=R8.out.two
        go_wp2_with fail
        refine bodyPost_ret (v:=.agg #[.int .i64 z1,.int .i64 z2]) (by simp [results,Tryz.results92,go_sem,r0,r1]) rfl ?_
        exact .inl ⟨z1,z2,HR.out,rfl,HZ.out,(BB8.out.setCell (p:=⟨w.heap.size,0,none⟩) HBW.out _).setCell (p:=⟨w.heap.size,1,none⟩) HBW.out _,(KP8.out.fresh (Nat.le_refl _) 0 _).fresh (Nat.le_refl _) 1 _⟩
       ·have HR:=Lib.hid (HS.out.trans hr)
        have R8:=Lib.hid (hk2.box R7.out (by decide) (by decide) (by decide) (by decide))
        have KP8:=Lib.hid (KP7.out.trans hk2)
        have M8:=Lib.hid hM2
        clear hr hM2 hk2 r0 r1 rl rf
        obtain ⟨r0,r1,rl,rf⟩:=R8.out.two
        go_wp2_with fail
        refine bodyPost_ret (v:=.agg #[.int .i64 0,.int .i64 0]) (by simp [results,Tryz.results92,go_sem,r0,r1]) rfl ?_
        refine .inr ⟨_,lv2,ov2,HR.out,rfl,?_,(KP8.out.fresh (Nat.le_refl _) 0 _).fresh (Nat.le_refl _) 1 _⟩
        exact ((M8.out.far R8.out HBW.out (by decide) (by decide) (by decide) (by decide) 0 _).far (R8.out.set 0 _) HBW.out (by decide) (by decide) (by decide) (by decide) 1 _).mono (by have:=HCC.out;omega)
      ·have q7:(x.kind == 7)=false:=by simp [h7]
       by_cases h9:x.kind=9
       ·have q9:(x.kind == 9)=true:=by simp [h9]
        have HS:Hid (scS l held a s=declG l held a s'):=Lib.hid (by
         rw [HF.out.1];unfold selfG;rw [if_neg (by rw [HKN.out];exact h8),if_pos (by rw [HKN.out];exact .inr h9)])
        have HC:=Lib.hid (declare_any HPR.out HNDS.out HFIT.out HAL.out H7.out HCB.out HO64.out)
        clear h7 h8 h9
        go_wp2_with fail
        refine HC.out.mono ?_
        rintro e w8 (⟨z1,z2,hr,rfl,hz,hbz,hkz⟩|⟨s2,lv2,ov2,hr,rfl,hM2,hk2⟩)
        ·have HR:=Lib.hid (HS.out.trans hr)
         have R8:=Lib.hid (hkz.box R7.out (by decide) (by decide) (by decide) (by decide))
         have KP8:=Lib.hid (KP7.out.trans hkz)
         have BB8:=Lib.hid hbz
         have HZ:=Lib.hid hz
         clear hr hz hbz hkz r0 r1 rl rf
         obtain ⟨r0,r1,rl,rf⟩:=R8.out.two
         go_wp2_with fail
         refine bodyPost_ret (v:=.agg #[.int .i64 z1,.int .i64 z2]) (by simp [results,Tryz.results92,go_sem,r0,r1]) rfl ?_
         exact .inl ⟨z1,z2,HR.out,rfl,HZ.out,(BB8.out.setCell (p:=⟨w.heap.size,0,none⟩) HBW.out _).setCell (p:=⟨w.heap.size,1,none⟩) HBW.out _,(KP8.out.fresh (Nat.le_refl _) 0 _).fresh (Nat.le_refl _) 1 _⟩
        ·have HR:=Lib.hid (HS.out.trans hr)
         have R8:=Lib.hid (hk2.box R7.out (by decide) (by decide) (by decide) (by decide))
         have KP8:=Lib.hid (KP7.out.trans hk2)
         have M8:=Lib.hid hM2
         clear hr hM2 hk2 r0 r1 rl rf
         obtain ⟨r0,r1,rl,rf⟩:=R8.out.two
         go_wp2_with fail
         refine bodyPost_ret (v:=.agg #[.int .i64 0,.int .i64 0]) (by simp [results,Tryz.results92,go_sem,r0,r1]) rfl ?_
         refine .inr ⟨_,lv2,ov2,HR.out,rfl,?_,(KP8.out.fresh (Nat.le_refl _) 0 _).fresh (Nat.le_refl _) 1 _⟩
         exact ((M8.out.far R8.out HBW.out (by decide) (by decide) (by decide) (by decide) 0 _).far (R8.out.set 0 _) HBW.out (by decide) (by decide) (by decide) (by decide) 1 _).mono (by have:=HCC.out;omega)
       ·have q9:(x.kind == 9)=false:=by simp [h9]
        have n79:¬ (kndS l a=7\/kndS l a=9):=by rw [HKN.out];omega
        by_cases h25:x.kind=25
        ·have q25:(x.kind == 25)=true:=by simp [h25]
         have HS:Hid (scS l held a s=meanG l a s'):=Lib.hid (by
          rw [HF.out.1];unfold selfG;rw [if_neg (by rw [HKN.out];exact h8),if_neg n79,if_pos (by rw [HKN.out];exact h25)])
         have HC:=Lib.hid (mean_any HPR.out HNDS.out HAL.out H7.out HCB.out HO64.out)
         clear h7 h8 h9 h25 n79
         go_wp2_with fail
         refine HC.out.mono ?_
         rintro e w8 (⟨z1,z2,hr,rfl,hz,hbz,hkz⟩|⟨s2,lv2,ov2,hr,rfl,hM2,hk2⟩)
         ·have HR:=Lib.hid (HS.out.trans hr)
          have R8:=Lib.hid (hkz.box R7.out (by decide) (by decide) (by decide) (by decide))
          have KP8:=Lib.hid (KP7.out.trans hkz)
          have BB8:=Lib.hid hbz
          have HZ:=Lib.hid hz
          clear hr hz hbz hkz r0 r1 rl rf
          obtain ⟨r0,r1,rl,rf⟩:=R8.out.two
          go_wp2_with fail
          refine bodyPost_ret (v:=.agg #[.int .i64 z1,.int .i64 z2]) (by simp [results,Tryz.results92,go_sem,r0,r1]) rfl ?_
          exact .inl ⟨z1,z2,HR.out,rfl,HZ.out,(BB8.out.setCell (p:=⟨w.heap.size,0,none⟩) HBW.out _).setCell (p:=⟨w.heap.size,1,none⟩) HBW.out _,(KP8.out.fresh (Nat.le_refl _) 0 _).fresh (Nat.le_refl _) 1 _⟩
         ·have HR:=Lib.hid (HS.out.trans hr)
          have R8:=Lib.hid (hk2.box R7.out (by decide) (by decide) (by decide) (by decide))
          have KP8:=Lib.hid (KP7.out.trans hk2)
          have M8:=Lib.hid hM2
          clear hr hM2 hk2 r0 r1 rl rf
          obtain ⟨r0,r1,rl,rf⟩:=R8.out.two
          go_wp2_with fail
          refine bodyPost_ret (v:=.agg #[.int .i64 0,.int .i64 0]) (by simp [results,Tryz.results92,go_sem,r0,r1]) rfl ?_
          refine .inr ⟨_,lv2,ov2,HR.out,rfl,?_,(KP8.out.fresh (Nat.le_refl _) 0 _).fresh (Nat.le_refl _) 1 _⟩
          exact ((M8.out.far R8.out HBW.out (by decide) (by decide) (by decide) (by decide) 0 _).far (R8.out.set 0 _) HBW.out (by decide) (by decide) (by decide) (by decide) 1 _).mono (by have:=HCC.out;omega)
        ·have q25:(x.kind == 25)=false:=by simp [h25]
         by_cases h10:x.kind=10
         ·have q10:(x.kind == 10)=true:=by simp [h10]
          have HS:Hid (scS l held a s = .ok (assG l a s')):=Lib.hid (by
           rw [HF.out.1];unfold selfG;rw [if_neg (by rw [HKN.out];exact h8),if_neg n79,if_neg (by rw [HKN.out];exact h25),if_pos (by rw [HKN.out];exact h10)])
          have HC:=Lib.hid (assign_any HPR.out HNDS.out HAL.out H7.out HCB.out (by rw [HKN.out];exact h10))
          clear h7 h8 h9 h25 n79 h10
          go_wp2_with fail
          refine HC.out.mono ?_
          rintro e w8 ⟨rfl,hm8,hk8⟩
          have M8:=Lib.hid hm8
          have R8:=Lib.hid (hk8.box R7.out (by decide) (by decide) (by decide) (by decide))
          have KP8:=Lib.hid (KP7.out.trans hk8)
          clear hm8 hk8 r0 r1 rl rf
          obtain ⟨r0,r1,rl,rf⟩:=R8.out.two
          go_wp2_with fail
          refine bodyPost_ret (v:=.agg #[.int .i64 0,.int .i64 0]) (by simp [results,Tryz.results92,go_sem,r0,r1]) rfl ?_
          refine .inr ⟨_,lv',.slice os2 s'.op.length oc2,HS.out,rfl,?_,(KP8.out.fresh (Nat.le_refl _) 0 _).fresh (Nat.le_refl _) 1 _⟩
          exact ((M8.out.far R8.out HBW.out (by decide) (by decide) (by decide) (by decide) 0 _).far (R8.out.set 0 _) HBW.out (by decide) (by decide) (by decide) (by decide) 1 _).mono (by have:=HCC.out;omega)
         ·have q10:(x.kind == 10)=false:=by simp [h10]
          have HS:Hid (scS l held a s = .ok s'):=Lib.hid (by
           rw [HF.out.1];unfold selfG;rw [if_neg (by rw [HKN.out];exact h8),if_neg n79,if_neg (by rw [HKN.out];exact h25),if_neg (by rw [HKN.out];exact h10)])
          clear h7 h8 h9 h25 n79 h10
          go_wp2_with fail
          refine bodyPost_ret (v:=.agg #[.int .i64 0,.int .i64 0]) (by simp [results,Tryz.results92,go_sem,r0,r1]) rfl ?_
          refine .inr ⟨_,lv',.slice os2 s'.op.length oc2,HS.out,rfl,?_,(KP7.out.fresh (Nat.le_refl _) 0 _).fresh (Nat.le_refl _) 1 _⟩
          exact ((H7.out.far R7.out HBW.out (by decide) (by decide) (by decide) (by decide) 0 _).far (R7.out.set 0 _) HBW.out (by decide) (by decide) (by decide) (by decide) 1 _).mono (by have:=HCC.out;omega)
end
end Go.Proofs.YtfehpdliobapfaaGreatDoor.S
namespace Go.Proofs.YtfehpdliobapfaaGreatDoor.S
open Go Go.RowKit
def inBlockS (l:List Nd) (a:Nat):Bool:=inBG (l.drop (a+1)) a (a+1)
theorem inBlock_any (l:List Nd) (nv:Value) (w:World) (hn:NdsV w nv l) (hl:l.length<=16384) (hf:∀ x ∈ l,NdFit x) (a:Nat) (ha:a<l.length) :
  Calls Tryz.prog 91 #[nv,.int .i64 (a:Nat)] w fun e w'=>e = .returned (.bool (inBlockS l a))/\w'=w:=by
 obtain ⟨src,cap,rfl,hin⟩:=hn
 obtain ⟨nb,off,rfl,hnb,hat⟩:=hin (by omega)
 have HAT:=Lib.hid hat
 have HF:=Lib.hid hf
 obtain ⟨n,hnn⟩:∃ n,l.length=n:=⟨_,rfl⟩
 have HNN:=Lib.hid hnn
 rw [hnn] at hl ha ⊢
 have w1:IntKind.i64.wrap ((a:Int)+1)=((a+1:Nat):Int):=by rw [IntWalk.i64_in _ ⟨by omega,by omega⟩];omega
 clear hin hat hf hnn
 go_enter Tryz.func91,Tryz.ntmps91
 go_wp2_with fail
 go_loopw [5,1] (fun i at_ wr=>∃ (j b:Nat),j<=n/\i = .int .i64 (j:Nat)/\at_ = .int .i64 (b:Nat)/\inBG (l.drop j) b j=inBlockS l a/\wr=w) (fun i _ _=>n-(intOf i).toNat)
 case atStart=>exact ⟨a+1,a,by omega,rfl,rfl,rfl,rfl⟩
 case round =>
  obtain ⟨j,b,hj,rfl,rfl,he,rfl⟩:=hrel
  have HE:=Lib.hid he
  clear he w1
  by_cases hlt:j<n
  ·have hjl:j<l.length:=by have:=HNN.out;omega
   obtain ⟨kv,ev,hx⟩:=HAT.out j hjl
   obtain ⟨ks,kc,hkv,hks⟩:=id hx.kids
   have d3:=hx.c3
   have d0:=hx.c0
   have HC:=Lib.hid (containsI_any l[j].kids kv wr hx.kids (HF.out _ (List.getElem_mem hjl)).kids (b:Int))
   have HD:=Lib.hid (List.drop_eq_getElem_cons hjl)
   have i0:(0:Int)<=(j:Int):=by omega
   have i1:(j:Int)<(n:Int):=by omega
   have i6:IntKind.i64.wrap ((j:Int)+1)=(j:Int)+1:=IntWalk.i64_in _ ⟨by omega,by omega⟩
   clear hx hks hkv
   have HG:Hid (inBG (l.drop j) b j=if (b:Int) ∈ l[j].kids then (if l[j].kind=8 then true else inBG (l.drop (j+1)) j (j+1)) else inBG (l.drop (j+1)) b (j+1)):=Lib.hid (by rw [HD.out];rfl)
   generalize l[j]=x at *
   by_cases hm:(b:Int) ∈ x.kids
   ·rw [decide_eq_true hm] at HC
    by_cases h8:x.kind=8
    ·have q8:(x.kind == 8)=true:=by simp [h8]
     have HR:Hid (inBlockS l a=true):=Lib.hid (by rw [<- HE.out,HG.out,if_pos hm,if_pos h8])
     clear hm h8
     go_wp2_with fail
     refine HC.out.mono ?_
     rintro e w2 ⟨rfl,rfl⟩
     go_wp2_with fail
     go_ret
     exact ⟨by rw [HR.out];rfl,rfl⟩
    ·have q8:(x.kind == 8)=false:=by simp [h8]
     have HR:Hid (inBG (l.drop (j+1)) j (j+1)=inBlockS l a):=Lib.hid (by rw [<- HE.out,HG.out,if_pos hm,if_neg h8])
     clear hm h8
     go_wp2_with fail
     refine HC.out.mono ?_
     rintro e w2 ⟨rfl,rfl⟩
     go_wp2_with fail
     go_roundw
     case rel=>exact ⟨j+1,j,by omega,by go_num,rfl,HR.out,by trivial⟩
     case measure=>simp [intOf];omega
   ·rw [decide_eq_false hm] at HC
    have HR:Hid (inBG (l.drop (j+1)) b (j+1)=inBlockS l a):=Lib.hid (by rw [<- HE.out,HG.out,if_neg hm])
    clear hm
    go_wp2_with fail
    refine HC.out.mono ?_
    rintro e w2 ⟨rfl,rfl⟩
    go_wp2_with fail
    go_roundw
    case rel=>exact ⟨j+1,b,by omega,by go_num,rfl,HR.out,by trivial⟩
    case measure=>simp [intOf];omega
  ·have HR:Hid (inBlockS l a=false):=Lib.hid (by
    rw [<- HE.out,List.drop_eq_nil_of_le (by have:=HNN.out;omega)];rfl)
   go_wp2_with fail
   go_ret
   exact ⟨by rw [HR.out];rfl,rfl⟩
def ofS (l:List Nd) (root node:Int):ScR:=scopeS l root node (inBlockS l node.toNat)
def OfPost (l:List Nd) (w:World) (r:ScR) (e:Ending) (w':World):Prop :=
 Below w.heap.size w w'/\((∃ k z,r = .error (k,z)/\e = .returned (.tuple #[.pointer none,.agg #[.int .i64 k,.int .i64 z]])/\k≠0) \/
  ∃ s S,r = .ok s/\e = .returned (.tuple #[.pointer (some ⟨S.sb,0,none⟩),.agg #[.int .i64 0,.int .i64 0]])/\ScX l w' w.heap.size S s 16384)
theorem ofS_check {l:List Nd} {root node:Int} (h:checkE l root≠0):ofS l root node = .error (checkE l root,0):=by unfold ofS scopeS;rw [if_pos h]
theorem ofS_place {l:List Nd} {root node:Int} (h:checkE l root=0) (h2:node<0\/(l.length:Int)<=node\/(kndS l node.toNat≠6/\kndS l node.toNat≠5)):ofS l root node = .error (132,0):=by unfold ofS scopeS;rw [if_neg (by omega),if_pos h2]
theorem ofS_walk {l:List Nd} {root node:Int} (h:checkE l root=0) (h2:¬ (node<0\/(l.length:Int)<=node\/(kndS l node.toNat≠6/\kndS l node.toNat≠5))):ofS l root node=scS l (inBlockS l node.toNat) node.toNat start:=by unfold ofS scopeS;rw [if_neg (by omega),if_neg h2];rfl
theorem of_check (l:List Nd) (nv:Value) (root node:Int) (w:World) (hT:ShTab w) (hn:NdsV w nv l) (hl:l.length<=1099511627776) (hf:∀ x ∈ l,NdFit x) (h:checkE l root≠0) :
  Calls Tryz.prog 45 #[.agg #[nv,.int .i64 root],.int .i64 node] w (OfPost l w (ofS l root node)):=by
 have HO:=Lib.hid (ofS_check (node:=node) h)
 obtain ⟨z,hz⟩:∃ z,checkE l root=z:=⟨_,rfl⟩
 rw [hz] at HO h
 have HZ:=Lib.hid hz
 have HNZ:=Lib.hid h
 have q1:(z == 0)=false:=by simp [h]
 have q2:(z != 0)=true:=by simp [h]
 have HC:=Lib.hid (fun (W:World) (hb:Below w.heap.size w W)=>check_any l nv root W (hT.step hb) (hn.step hb) hl hf)
 obtain ⟨nsrc,cap,rfl,hin⟩:=hn
 have HIN:=Lib.hid hin
 go_enter Tryz.func45,Tryz.ntmps45
 go_wp2_with fail
 obtain ⟨W2,hW2⟩:∃ W2,W2=(w.alloc (.cells #[(.slice nsrc l.length cap),.int .i64 root] 25)).alloc (.cells #[.int .i64 0,.int .i64 0] 28):=⟨_,rfl⟩
 have T2:Hid (Bx 25 W2 w.heap.size [(.slice nsrc l.length cap),.int .i64 root]):=Lib.hid (by rw [hW2];exact (Bx.new 25 w #[(.slice nsrc l.length cap),.int .i64 root]).alloc _)
 have R2:Hid (Bx 28 W2 (w.heap.size+1) [.int .i64 0,.int .i64 0]):=Lib.hid (by
  rw [hW2]
  have:=Bx.new 28 (w.alloc (.cells #[(.slice nsrc l.length cap),.int .i64 root] 25)) #[.int .i64 0,.int .i64 0]
  simpa using this)
 have HB2:Hid (Below w.heap.size w W2):=Lib.hid (by rw [hW2];repeat (first|exact Below.refl _ _|apply Below.setCell _ (by first|omega|(simp<;>omega))|apply Below.alloc _ (by first|omega|(simp<;>omega))))
 rw [<- hW2]
 clear hW2
 refine (HC.out _ HB2.out).mono ?_
 rintro e w3 ⟨rfl,hb3⟩
 have HB3:=Lib.hid (after HB2.out hb3)
 have T3:=Lib.hid (T2.out.keep hb3)
 have R3:=Lib.hid (R2.out.keep hb3)
 obtain ⟨t0,t1,tl,tf⟩:=T3.out.two
 obtain ⟨r0,r1,rl,rf⟩:=R3.out.two
 clear hb3 T2 R2 HB2 HC
 rw [HZ.out]
 clear hz h hT hf hl
 go_wp2_with fail
 refine bodyPost_ret (v:=.tuple #[.pointer none,.agg #[.int .i64 z,.int .i64 0]]) (by simp [results,Tryz.results45,go_sem,r0,r1]) rfl ?_
 exact ⟨(HB3.out.setCell (p:=⟨w.heap.size+1,0,none⟩) (Nat.le_succ _) _).setCell (p:=⟨w.heap.size+1,1,none⟩) (Nat.le_succ _) _,.inl ⟨z,0,HO.out,rfl,HNZ.out⟩⟩
theorem of_place (l:List Nd) (nv:Value) (root node:Int) (w:World) (hT:ShTab w) (hn:NdsV w nv l) (hl:l.length<=1099511627776) (hf:∀ x ∈ l,NdFit x) (h:checkE l root=0) (h2:node<0\/(l.length:Int)<=node\/(kndS l node.toNat≠6/\kndS l node.toNat≠5)) :
  Calls Tryz.prog 45 #[.agg #[nv,.int .i64 root],.int .i64 node] w (OfPost l w (ofS l root node)):=by
 have HO:=Lib.hid (ofS_place h h2)
 have HZ:=Lib.hid h
 by_cases hneg:node<0
 ·have q1:decide (node<0)=true:=decide_eq_true hneg
  clear h2 h
  have HC:=Lib.hid (fun (W:World) (hb:Below w.heap.size w W)=>check_any l nv root W (hT.step hb) (hn.step hb) hl hf)
  obtain ⟨nsrc,cap,rfl,hin⟩:=hn
  have HIN:=Lib.hid hin
  go_enter Tryz.func45,Tryz.ntmps45
  go_wp2_with fail
  obtain ⟨W2,hW2⟩:∃ W2,W2=(w.alloc (.cells #[(.slice nsrc l.length cap),.int .i64 root] 25)).alloc (.cells #[.int .i64 0,.int .i64 0] 28):=⟨_,rfl⟩
  have T2:Hid (Bx 25 W2 w.heap.size [(.slice nsrc l.length cap),.int .i64 root]):=Lib.hid (by rw [hW2];exact (Bx.new 25 w #[(.slice nsrc l.length cap),.int .i64 root]).alloc _)
  have R2:Hid (Bx 28 W2 (w.heap.size+1) [.int .i64 0,.int .i64 0]):=Lib.hid (by
   rw [hW2]
   have:=Bx.new 28 (w.alloc (.cells #[(.slice nsrc l.length cap),.int .i64 root] 25)) #[.int .i64 0,.int .i64 0]
   simpa using this)
  have HB2:Hid (Below w.heap.size w W2):=Lib.hid (by rw [hW2];repeat (first|exact Below.refl _ _|apply Below.setCell _ (by first|omega|(simp<;>omega))|apply Below.alloc _ (by first|omega|(simp<;>omega))))
  rw [<- hW2]
  clear hW2
  refine (HC.out _ HB2.out).mono ?_
  rintro e w3 ⟨rfl,hb3⟩
  have HB3:=Lib.hid (after HB2.out hb3)
  have T3:=Lib.hid (T2.out.keep hb3)
  have R3:=Lib.hid (R2.out.keep hb3)
  obtain ⟨t0,t1,tl,tf⟩:=T3.out.two
  obtain ⟨r0,r1,rl,rf⟩:=R3.out.two
  clear hb3 T2 R2 HB2 HC
  rw [HZ.out]
  clear hneg hT hf hl
  go_wp2_with fail
  refine bodyPost_ret (v:=.tuple #[.pointer none,.agg #[.int .i64 132,.int .i64 0]]) (by simp [results,Tryz.results45,go_sem,r0,r1]) rfl ?_
  exact ⟨(HB3.out.setCell (p:=⟨w.heap.size+1,0,none⟩) (Nat.le_succ _) _).setCell (p:=⟨w.heap.size+1,1,none⟩) (Nat.le_succ _) _,.inl ⟨132,0,HO.out,rfl,by decide⟩⟩
 ·have q1:decide (node<0)=false:=decide_eq_false hneg
  by_cases hbig:(l.length:Int)<=node
  ·have q2:decide ((l.length:Int)<=node)=true:=decide_eq_true hbig
   clear h2 h
   have HC:=Lib.hid (fun (W:World) (hb:Below w.heap.size w W)=>check_any l nv root W (hT.step hb) (hn.step hb) hl hf)
   obtain ⟨nsrc,cap,rfl,hin⟩:=hn
   have HIN:=Lib.hid hin
   go_enter Tryz.func45,Tryz.ntmps45
   go_wp2_with fail
   obtain ⟨W2,hW2⟩:∃ W2,W2=(w.alloc (.cells #[(.slice nsrc l.length cap),.int .i64 root] 25)).alloc (.cells #[.int .i64 0,.int .i64 0] 28):=⟨_,rfl⟩
   have T2:Hid (Bx 25 W2 w.heap.size [(.slice nsrc l.length cap),.int .i64 root]):=Lib.hid (by rw [hW2];exact (Bx.new 25 w #[(.slice nsrc l.length cap),.int .i64 root]).alloc _)
   have R2:Hid (Bx 28 W2 (w.heap.size+1) [.int .i64 0,.int .i64 0]):=Lib.hid (by
    rw [hW2]
    have:=Bx.new 28 (w.alloc (.cells #[(.slice nsrc l.length cap),.int .i64 root] 25)) #[.int .i64 0,.int .i64 0]
    simpa using this)
   have HB2:Hid (Below w.heap.size w W2):=Lib.hid (by rw [hW2];repeat (first|exact Below.refl _ _|apply Below.setCell _ (by first|omega|(simp<;>omega))|apply Below.alloc _ (by first|omega|(simp<;>omega))))
   rw [<- hW2]
   clear hW2
   refine (HC.out _ HB2.out).mono ?_
   rintro e w3 ⟨rfl,hb3⟩
   have HB3:=Lib.hid (after HB2.out hb3)
   have T3:=Lib.hid (T2.out.keep hb3)
   have R3:=Lib.hid (R2.out.keep hb3)
   obtain ⟨t0,t1,tl,tf⟩:=T3.out.two
   obtain ⟨r0,r1,rl,rf⟩:=R3.out.two
   clear hb3 T2 R2 HB2 HC
   rw [HZ.out]
   clear hbig hneg hT hf hl
   go_wp2_with fail
   refine bodyPost_ret (v:=.tuple #[.pointer none,.agg #[.int .i64 132,.int .i64 0]]) (by simp [results,Tryz.results45,go_sem,r0,r1]) rfl ?_
   exact ⟨(HB3.out.setCell (p:=⟨w.heap.size+1,0,none⟩) (Nat.le_succ _) _).setCell (p:=⟨w.heap.size+1,1,none⟩) (Nat.le_succ _) _,.inl ⟨132,0,HO.out,rfl,by decide⟩⟩
  ·have q2:decide ((l.length:Int)<=node)=false:=decide_eq_false hbig
   obtain ⟨a,rfl⟩:∃ a:Nat,node=a:=⟨node.toNat,by omega⟩
   have hal:a<l.length:=by omega
   have hk:kndS l a≠6/\kndS l a≠5:=by
    rcases h2 with h2|h2|h2
    ·omega
    ·omega
    ·exact h2
   rw [kndS_get hal] at hk
   have HAL:=Lib.hid hal
   have HKK:=Lib.hid hk
   clear h2 h hk hneg hbig
   have HC:=Lib.hid (fun (W:World) (hb:Below w.heap.size w W)=>check_any l nv root W (hT.step hb) (hn.step hb) hl hf)
   obtain ⟨nsrc,cap,rfl,hin⟩:=hn
   have HIN:=Lib.hid hin
   go_enter Tryz.func45,Tryz.ntmps45
   go_wp2_with fail
   obtain ⟨W2,hW2⟩:∃ W2,W2=(w.alloc (.cells #[(.slice nsrc l.length cap),.int .i64 root] 25)).alloc (.cells #[.int .i64 0,.int .i64 0] 28):=⟨_,rfl⟩
   have T2:Hid (Bx 25 W2 w.heap.size [(.slice nsrc l.length cap),.int .i64 root]):=Lib.hid (by rw [hW2];exact (Bx.new 25 w #[(.slice nsrc l.length cap),.int .i64 root]).alloc _)
   have R2:Hid (Bx 28 W2 (w.heap.size+1) [.int .i64 0,.int .i64 0]):=Lib.hid (by
    rw [hW2]
    have:=Bx.new 28 (w.alloc (.cells #[(.slice nsrc l.length cap),.int .i64 root] 25)) #[.int .i64 0,.int .i64 0]
    simpa using this)
   have HB2:Hid (Below w.heap.size w W2):=Lib.hid (by rw [hW2];repeat (first|exact Below.refl _ _|apply Below.setCell _ (by first|omega|(simp<;>omega))|apply Below.alloc _ (by first|omega|(simp<;>omega))))
   rw [<- hW2]
   clear hW2
   refine (HC.out _ HB2.out).mono ?_
   rintro e w3 ⟨rfl,hb3⟩
   have HB3:=Lib.hid (after HB2.out hb3)
   have T3:=Lib.hid (T2.out.keep hb3)
   have R3:=Lib.hid (R2.out.keep hb3)
   obtain ⟨t0,t1,tl,tf⟩:=T3.out.two
   obtain ⟨r0,r1,rl,rf⟩:=R3.out.two
   clear hb3 T2 R2 HB2 HC
   rw [HZ.out]
   obtain ⟨nb,off,hsrc,hnb,hat⟩:=HIN.out (by have:=HAL.out;omega)
   subst hsrc
   obtain ⟨kv,ev,hx⟩:=hat a HAL.out
   have d0:=keep HB3.out hnb hx.c0
   have hnl:nb<w3.heap.size:=Nat.lt_of_lt_of_le hnb HB3.out.size
   have hk1:=HKK.out.1
   have hk2:=HKK.out.2
   have q6:(l[a].kind == 6)=false:=beq_eq_false_iff_ne.2 hk1
   have q5:(l[a].kind == 5)=false:=beq_eq_false_iff_ne.2 hk2
   have q6':(l[a].kind != 6)=true:=bne_iff_ne.2 hk1
   have q5':(l[a].kind != 5)=true:=bne_iff_ne.2 hk2
   have i0:(0:Int)<=(a:Int):=by omega
   have i1:(a:Int)<(l.length:Int):=by have:=HAL.out;omega
   have i2:a<l.length:=HAL.out
   clear hT hf hl hx hat hk1 hk2 HKK
   generalize l[a].kind=kd at *
   generalize l.length=n at *
   go_wp2_with fail
   refine bodyPost_ret (v:=.tuple #[.pointer none,.agg #[.int .i64 132,.int .i64 0]]) (by simp [results,Tryz.results45,go_sem,r0,r1]) rfl ?_
   exact ⟨(HB3.out.setCell (p:=⟨w.heap.size+1,0,none⟩) (Nat.le_succ _) _).setCell (p:=⟨w.heap.size+1,1,none⟩) (Nat.le_succ _) _,.inl ⟨132,0,HO.out,rfl,by decide⟩⟩
theorem ScX.mono {l:List Nd} {w:World} {B:Nat} {S:ScV} {s:Sc} {c c':Nat} (h:ScX l w B S s c) (hc:c<=c'):ScX l w B S s c':=⟨h.bs,h.bu,h.bm,h.ne,h.box,h.row,h.few,h.uses.mono hc,h.sets.mono hc⟩
theorem ScX.start {l:List Nd} (w:World) (B:Nat) (hB:B<=w.heap.size):ScX l (((w.alloc (.map #[] 0)).alloc (.map #[] 0)).alloc (.cells #[.slice none 0 0,.map (some w.heap.size),.map (some (w.heap.size+1))] 137)) B ⟨w.heap.size+2,w.heap.size,w.heap.size+1,.slice none 0 0⟩ start 0:=by
 have hb1:Below w.heap.size w (w.alloc (.map #[] 0)):=(Below.refl _ _).alloc (Nat.le_refl _) _
 refine ⟨by simp;omega,by simp;omega,by simp;omega,by simp,?_,World.ownsRow_nil _ _ _ _,Nat.zero_le _,?_,?_⟩
 ·have:=Bx.new 137 ((w.alloc (.map #[] 0)).alloc (.map #[] 0)) #[.slice none 0 0,.map (some w.heap.size),.map (some (w.heap.size+1))]
  simpa using this
 ·have:=((MapIs.made Tryz.prog 3 w).keep ((Below.refl _ _).alloc (Nat.le_refl _) (.map #[] 0))).keep ((Below.refl _ _).alloc (Nat.le_refl _) (.cells #[.slice none 0 0,.map (some w.heap.size),.map (some (w.heap.size+1))] 137))
  rw [<- natF_none] at this
  exact this
 ·have h:=(MapIs.made Tryz.prog 3 (w.alloc (.map #[] 0))).keep ((Below.refl _ _).alloc (Nat.le_refl _) (.cells #[.slice none 0 0,.map (some w.heap.size),.map (some (w.heap.size+1))] 137))
  rw [<- natF_none] at h
  have e:(w.alloc (.map #[] 0)).heap.size=w.heap.size+1:=by simp
  rw [e] at h
  exact h
theorem of_walk (l:List Nd) (nv:Value) (root:Int) (a:Nat) (w:World) (hT:ShTab w) (hn:NdsV w nv l) (hf:∀ x ∈ l,NdFit x) (h:checkE l root=0) (hal:a<l.length) (hk:kndS l a=6\/kndS l a=5) :
  Calls Tryz.prog 45 #[.agg #[nv,.int .i64 root],.int .i64 (a:Nat)] w (OfPost l w (ofS l root (a:Nat))):=by
 have P:=check_ok l root h
 have hl:l.length<=1099511627776:=by have:=P.long;omega
 have HO:=Lib.hid (ofS_walk (node:=(a:Int)) h (by rintro (q|q|q);omega;omega;exact hk.elim q.1 q.2))
 have HZ:=Lib.hid h
 have HPR:=Lib.hid P
 have HAL:=Lib.hid hal
 have HNV:=Lib.hid hn
 have HFF:=Lib.hid hf
 rw [kndS_get hal] at hk
 have HKK:=Lib.hid hk
 have q1:decide ((a:Int)<0)=false:=decide_eq_false (by omega)
 have q2:decide ((l.length:Int)<=(a:Int))=false:=decide_eq_false (by omega)
 have q2n:decide (l.length<=a)=false:=decide_eq_false (by omega)
 clear hk h P
 have HC:=Lib.hid (fun (W:World) (hb:Below w.heap.size w W)=>check_any l nv root W (hT.step hb) (hn.step hb) hl hf)
 obtain ⟨nsrc,cap,rfl,hin⟩:=hn
 have HIN:=Lib.hid hin
 go_enter Tryz.func45,Tryz.ntmps45
 go_wp2_with fail
 obtain ⟨W2,hW2⟩:∃ W2,W2=(w.alloc (.cells #[(.slice nsrc l.length cap),.int .i64 root] 25)).alloc (.cells #[.int .i64 0,.int .i64 0] 28):=⟨_,rfl⟩
 have T2:Hid (Bx 25 W2 w.heap.size [(.slice nsrc l.length cap),.int .i64 root]):=Lib.hid (by rw [hW2];exact (Bx.new 25 w #[(.slice nsrc l.length cap),.int .i64 root]).alloc _)
 have R2:Hid (Bx 28 W2 (w.heap.size+1) [.int .i64 0,.int .i64 0]):=Lib.hid (by
  rw [hW2]
  have:=Bx.new 28 (w.alloc (.cells #[(.slice nsrc l.length cap),.int .i64 root] 25)) #[.int .i64 0,.int .i64 0]
  simpa using this)
 have HB2:Hid (Below w.heap.size w W2):=Lib.hid (by rw [hW2];repeat (first|exact Below.refl _ _|apply Below.setCell _ (by first|omega|(simp<;>omega))|apply Below.alloc _ (by first|omega|(simp<;>omega))))
 rw [<- hW2]
 clear hW2
 refine (HC.out _ HB2.out).mono ?_
 rintro e w3 ⟨rfl,hb3⟩
 have HB3:=Lib.hid (after HB2.out hb3)
 have T3:=Lib.hid (T2.out.keep hb3)
 have R3:=Lib.hid (R2.out.keep hb3)
 obtain ⟨t0,t1,tl,tf⟩:=T3.out.two
 obtain ⟨r0,r1,rl,rf⟩:=R3.out.two
 clear hb3 T2 R2 HB2 HC
 rw [HZ.out]
 obtain ⟨nb,off,hsrc,hnb,hat⟩:=HIN.out (by have:=HAL.out;omega)
 subst hsrc
 obtain ⟨kv,ev,hx⟩:=hat a HAL.out
 have d0:=keep HB3.out hnb hx.c0
 have hnl:nb<w3.heap.size:=Nat.lt_of_lt_of_le hnb HB3.out.size
 have i0:(0:Int)<=(a:Int):=by omega
 have i1:(a:Int)<(l.length:Int):=by have:=HAL.out;omega
 have i2:a<l.length:=HAL.out
 have hmm:=@run_makeMap Tryz.prog
 have q5:((l[a].kind != 6) && (l[a].kind != 5))=false:=by rcases HKK.out with q|q<;>simp [q]
 have HIB:=Lib.hid (fun (W:World) (hb:Below w.heap.size w W)=>inBlock_any l (.slice (some ⟨nb,off,none⟩) l.length cap) W (HNV.out.step hb) HPR.out.long HFF.out a HAL.out)
 clear hT hf hl hx hat HIN
 have HDV:Hid (NdsB w w.heap.size (.slice (some ⟨nb,off,none⟩) l.length cap) l):=Lib.hid ⟨HNV.out,Nat.le_refl _⟩
 have HWN:Hid (0+(walkS l a).length<=16384):=Lib.hid (by
  have h1:=nodup_len l.length (walkS l a) (walk_once HPR.out a HAL.out) (fun x hx=>by have:=walk_le HPR.out a HAL.out x hx;have:=HAL.out;omega)
  have:=HPR.out.long
  omega)
 go_upto_region 4 with fail
 go_cut [42] from 16 to 42 (fun s42 wx=>s42 = .bool false/\wx=w3)
 case first =>
  clear q5 hmm
  generalize hkd:l[a].kind=kd at *
  rcases HKK.out with h6|h5
  ·have e6:(kd != 6)=false:=by simp [h6]
   have e6':(kd == 6)=true:=by simp [h6]
   clear h6 hkd
   go_wp2_with fail
   go_meet
   exact ⟨rfl,rfl⟩
  ·have e6:(kd != 6)=true:=by simp [h5]
   have e6':(kd == 6)=false:=by simp [h5]
   have e5:(kd != 5)=false:=by simp [h5]
   have e5':(kd == 5)=true:=by simp [h5]
   clear h5 hkd
   go_wp2_with fail
   go_meet
   exact ⟨rfl,rfl⟩
 case rest =>
  obtain ⟨rfl,rfl⟩:=hcut
  clear q5 d0 t1 tf rf
  have SX0:=Lib.hid (ScX.start (l:=l) wc w.heap.size HB3.out.size)
  go_upto_region 7 with fail
  obtain ⟨W4,hW4⟩:∃ W4,W4=((wc.alloc (.map #[] 0)).alloc (.map #[] 0)).alloc (.cells #[.slice none 0 0,.map (some wc.heap.size),.map (some (wc.heap.size+1))] 137):=⟨_,rfl⟩
  have B4:Hid (Below wc.heap.size wc W4):=Lib.hid (by rw [hW4];repeat (first|exact Below.refl _ _|apply Below.setCell _ (by first|omega|(simp<;>omega))|apply Below.alloc _ (by first|omega|(simp<;>omega))))
  rw [<- hW4] at SX0 ⊢
  clear hW4 hmm
  have T4:Hid (∀ W',Below W4.heap.size W4 W'->W'.cell? ⟨w.heap.size,0,none⟩=some (.slice (some ⟨nb,off,none⟩) l.length cap)):=Lib.hid (fun W' hW=>keep (after B4.out hW) tl t0)
  have KEEP:Hid (∀ W',Below W4.heap.size W4 W'->W'.cell? ⟨w.heap.size,0,none⟩=some (.slice (some ⟨nb,off,none⟩) l.length cap)/\Below W4.heap.size W4 W'):=Lib.hid (fun W' hW=>⟨T4.out W' hW,hW⟩)
  have HIB2:=Lib.hid (fun (W':World) (h:Below W4.heap.size W4 W')=>HIB.out W' (after HB3.out (after B4.out h)))
  clear t0 hnl r0 r1
  go_region_held3 (fun W'=>W'.cell? ⟨w.heap.size,0,none⟩=some (.slice (some ⟨nb,off,none⟩) l.length cap)/\Below W4.heap.size W4 W') ((refine KEEP.out _ ?_;repeat (first|exact Below.refl _ _|assumption|refine Below.drew ?_|apply Below.setCell _ (by first|exact Nat.le_refl _|omega|(simp<;>omega))|apply Below.alloc _ (by first|exact Nat.le_refl _|omega|(simp<;>omega))))) (first|(go_at_call 91;go_split_ands;refine (HIB2.out _ (by assumption)).mono ?_;rintro e w9 ⟨rfl,rfl⟩))
  all_goals
   obtain ⟨W5,hW5⟩:∃ W5,W5=(W4.alloc (.cells #[.pointer (some ⟨wc.heap.size+1+1,0,none⟩),.slice (some ⟨nb,off,none⟩) l.length cap,.slice none 0 0,.bool (inBlockS l a)] 140)).drew:=⟨_,rfl⟩
   have hb45:Below W4.heap.size W4 W5:=by rw [hW5];exact ((Below.refl _ _).alloc (Nat.le_refl _) _).drew
   have B5:=Lib.hid (after HB3.out (after B4.out hb45))
   have hwx:Bx 140 W5 W4.heap.size [.pointer (some ⟨wc.heap.size+1+1,0,none⟩),.slice (some ⟨nb,off,none⟩) l.length cap,.slice none 0 0,.bool (inBlockS l a)]:=by rw [hW5];exact Bx.new 140 W4 _
   have H5:Hid (ScM l w W5 w.heap.size (.slice (some ⟨nb,off,none⟩) l.length cap) ⟨wc.heap.size+2,wc.heap.size,wc.heap.size+1,.slice none 0 0⟩ W4.heap.size (.slice none 0 0) (inBlockS l a) start 0):=Lib.hid ⟨B5.out,Nat.le_trans HB3.out.size B4.out.size,SX0.out.step hb45,hwx,.inl (World.ownsRow_nil _ _ _ _)⟩
   have R5:=Lib.hid ((R3.out.keep B4.out).keep hb45)
   have HC:=Lib.hid (swalk_any HPR.out HDV.out HFF.out a HAL.out (inBlockS l a) start _ _ W5 0 H5.out (Nat.le_refl _) HWN.out)
   rw [<- hW5]
   clear hW5 hb45 hwx SX0 R3 B4 HIB2 KEEP T4
   go_wp2_with fail
   refine HC.out.mono ?_
   rintro e w8 (⟨z1,z2,hr,rfl,hz,hbz,hkz⟩|⟨s2,lv2,ov2,hr,rfl,hM2,hk2⟩)
   ·have q8:(z1 == 0)=false:=by simp [hz]
    have q9:(z1 != 0)=true:=by simp [hz]
    have HR:=Lib.hid (HO.out.trans hr)
    have R8:=Lib.hid (hkz.box R5.out (by decide) (by decide) (by decide) (by decide))
    have BB8:=Lib.hid hbz
    have HZ1:=Lib.hid hz
    clear hz hr hbz hkz
    obtain ⟨r0,r1,rl8,rf8⟩:=R8.out.two
    go_wp2_with fail
    go_region
    all_goals
     go_wp2_with fail
     refine bodyPost_ret (v:=.tuple #[.pointer none,.agg #[.int .i64 z1,.int .i64 z2]]) (by simp [results,Tryz.results45,go_sem,r0,r1,rl8]) rfl ?_
     refine ⟨?_,.inl ⟨z1,z2,HR.out,rfl,HZ1.out⟩⟩
     repeat (first|exact BB8.out|refine Below.drew ?_|refine Below.setCell ?_ (Nat.le_succ _) _|refine Below.alloc ?_ (by simp;omega) _)
   ·have HR:=Lib.hid (HO.out.trans hr)
    have M8:=Lib.hid hM2
    have R8:=Lib.hid (hk2.box R5.out (by decide) (by decide) (by decide) (by decide))
    clear hr hM2 hk2
    obtain ⟨r0,r1,rl8,rf8⟩:=R8.out.two
    go_wp2_with fail
    refine bodyPost_ret (v:=.tuple #[.pointer (some ⟨wc.heap.size+1+1,0,none⟩),.agg #[.int .i64 0,.int .i64 0]]) (by simp [results,Tryz.results45,go_sem,r0,r1,rl8]) rfl ?_
    refine ⟨?_,.inr ⟨s2,⟨wc.heap.size+2,wc.heap.size,wc.heap.size+1,lv2⟩,HR.out,rfl,?_⟩⟩
    ·repeat (first|exact M8.out.bel|refine Below.drew ?_|refine Below.setCell ?_ (Nat.le_succ _) _|refine Below.alloc ?_ (by simp;omega) _)
    ·have q:=(M8.out.far R8.out (Nat.le_succ _) (by decide) (by decide) (by decide) (by decide) 0 (.int .i64 0)).far (R8.out.set 0 _) (Nat.le_succ _) (by decide) (by decide) (by decide) (by decide) 1 (.int .i64 0)
     exact ((q.step ((Below.refl _ _).alloc (Nat.le_refl _) _) q.size).sc).mono HWN.out
theorem of_any (l:List Nd) (nv:Value) (root node:Int) (w:World) (hT:ShTab w) (hn:NdsV w nv l) (hl:l.length<=1099511627776) (hf:∀ x ∈ l,NdFit x) :
  Calls Tryz.prog 45 #[.agg #[nv,.int .i64 root],.int .i64 node] w (OfPost l w (ofS l root node)):=by
 by_cases h:checkE l root=0
 ·by_cases h2:node<0\/(l.length:Int)<=node\/(kndS l node.toNat≠6/\kndS l node.toNat≠5)
  ·exact of_place l nv root node w hT hn hl hf h h2
  ·obtain ⟨a,rfl⟩:∃ a:Nat,node=a:=⟨node.toNat,by omega⟩
   refine of_walk l nv root a w hT hn hf h (by omega) ?_
   have e:((a:Int)).toNat=a:=by omega
   rw [e] at h2
   omega
 ·exact of_check l nv root node w hT hn hl hf h
end Go.Proofs.YtfehpdliobapfaaGreatDoor.S
