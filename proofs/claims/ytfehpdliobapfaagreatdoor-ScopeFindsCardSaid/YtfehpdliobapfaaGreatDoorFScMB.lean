/- For any text and any number,ScopeFinds returns true and leaves its arguments as they were. -/
import Derived.Test.YtfehpdliobapfaaGreatDoorFScMA
set_option maxRecDepth 100000
set_option maxHeartbeats 4000000
set_option linter.unusedVariables false
set_option linter.unusedSimpArgs false
namespace Go.Proofs.YtfehpdliobapfaaGreatDoor.S
open Go Go.RowKit
theorem p1:type_of% @List.getElem_toArray.{0}:=@List.getElem_toArray.{0}
theorem p2:type_of% @List.getElem_cons_zero.{0}:=@List.getElem_cons_zero.{0}
theorem p3:type_of% @List.getElem_cons_succ.{0}:=@List.getElem_cons_succ.{0}
theorem p4:type_of% @List.setIfInBounds_toArray.{0}:=@List.setIfInBounds_toArray.{0}
theorem p5:type_of% @List.set_cons_zero.{0}:=@List.set_cons_zero.{0}
theorem p6:type_of% @List.set_cons_succ.{0}:=@List.set_cons_succ.{0}
theorem tk {P:Program} {md:Region.Mode} {ops:Array Oper} {Q:Exit->Act->World->Prop} {S:World->Prop} {i:Nat} {oi:Oper} {v:Value} {fuel:Nat} {listed:Array Bool} {a:Act} {w:World} (hi:ops[i]? = some oi)
  (hb:(Region.noSelect ops && (Region.free md ops listed i && (Region.ready md ops listed).contains i))=true)
  (hQ:∀ c a w,Q (.panic c) (a.put oi.dst v) w->Q (.panic c) a w) (hy:YieldsIf P ops S oi v a) (hS:S w)
  (h:wpAnyH P md ops Q S fuel (listed.setIfInBounds i true) (a.put oi.dst v) w):wpAnyH P md ops Q S (fuel+1) listed a w:=by
 simp only [Bool.and_eq_true] at hb
 exact wpAnyH_take hi hb.1 hb.2.1 hb.2.2 hQ hy hS h
section
variable {l:List Nd} {root:Int} {W0 w:World} {B:Nat} {nv:Value} {S:ScV} {wb:Nat} {ov:Value} {held:Bool} {s:Sc} {c:Nat}
theorem grown_box {W w7:World} {o:Obj} {T:TypeId} {b:Nat} {cs:List Value} {v:Value} (hg:(W.alloc o).grownBy w7 v.ownBlock) (hb:Bx T W b cs) (hne:some b≠v.ownBlock):Bx T w7 b cs:=by
 refine hb.at_ ?_
 rw [hg.block b (by have:=hb.lt;simp;omega) hne,Below.heap_alloc W _ b hb.lt]
theorem ScM.far (h:ScM l W0 w B nv S wb ov held s c) {T:TypeId} {b:Nat} {cs:List Value} (hb:Bx T w b cs) (hB:B<=b) (t1:T≠137) (t2:T≠140) (t3:T≠88) (t4:T≠3) (o:Nat) (v:Value):ScM l W0 (w.setCell ⟨b,o,none⟩ v) B nv S wb ov held s c:=by
 have set_o:∀ k,k≠b->(w.setCell ⟨b,o,none⟩ v).heap[k]? = w.heap[k]?:=fun k hk=>heap_setCell_other _ _ k _ (by simpa using hk)
 have cell:∀ {T':TypeId} {k:Nat} {cs':List Value},Bx T' w k cs'->T≠T'->k≠b:=fun hk ht e=>by
  subst e
  unfold Bx at hk hb
  rw [hb] at hk
  simp at hk
  exact ht hk.2
 refine h.at_ (h.bel.setCell (p:=⟨b,o,none⟩) hB v) (by simp) ?_
 rintro k ((rfl|rfl|rfl|hk)|rfl|hk)
 ·exact set_o _ (cell h.sc.box t1)
 ·exact set_o _ (h.sc.uses.ne_cells hb)
 ·exact set_o _ (h.sc.sets.ne_cells hb)
 ·exact set_o _ (fun e=>own_ne h.sc.row hb t3 (by rw [hk,e]))
 ·exact set_o _ (cell h.wbox t2)
 ·exact set_o _ (fun e=>h.opn.ne hb t4 (by rw [hk,e]))
theorem ScM.fars (h:ScM l W0 w B nv S wb ov held s c) {T:TypeId} {b:Nat} {u v:Value} {cs:List Value} (hb:Bx T w b cs) (hB:B<=b) (t:T≠137/\T≠140/\T≠88/\T≠3):ScM l W0 ((w.setCell ⟨b,0,none⟩ u).setCell ⟨b,1,none⟩ v) B nv S wb ov held s c :=
 (h.far hb hB t.1 t.2.1 t.2.2.1 t.2.2.2 0 _).far (hb.set 0 _) hB t.1 t.2.1 t.2.2.1 t.2.2.2 1 _
theorem ScM.sb_wb (h:ScM l W0 w B nv S wb ov held s c):S.sb≠wb:=fun e=>by
 have h1:=h.wbox
 have h2:=h.sc.box
 unfold Bx at h1 h2
 rw [<- e,h2] at h1
 simp at h1
theorem declare_new (P:ProgOk l root) (hn:NdsB W0 B nv l) (hf:∀ x ∈ l,NdFit x) {a:Nat} (ha:a<l.length) (h:ScM l W0 w B nv S wb ov held s c) (hk:findS l s.lc (txtS l a)=none) (hfew:s.lc.length<64) (hc:c<16384) (hop:s.op.length<=64) :
  Calls Tryz.prog 131 #[(.pointer (some ⟨wb,0,none⟩)),.int .i64 (a:Nat)] w (WPost l W0 w B nv S.sb S.ub S.mb wb held (declG l held a s) (c+1)):=by
 have HS0:Hid (S.sb<w.heap.size):=Lib.hid h.sc.box.lt
 have HD:Hid (declG l held a s = .ok ⟨s.lc ++ [a],s.us,if kidsOf l a=[] then s.ss else putN s.ss a s.lc.length,if held=true/\l[a].kind≠7 then s.op ++ [s.lc.length] else s.op⟩):=Lib.hid (by
  rw [<- kndS_get ha]
  unfold declG
  rw [hk]
  exact if_neg (by omega))
 have HKO:=Lib.hid (kidsOf_get l a ha)
 have HLE:=Lib.hid P.long
 have HWL:Hid (wb<w.heap.size):=Lib.hid h.wbox.lt
 have HOP:=Lib.hid hop
 clear hop
 have hP:=P.long
 obtain ⟨nb,off,cap,rfl,hnb,kv,ev,hx⟩:=hn.node ha
 obtain ⟨sb,ub,mb,lv⟩:=S
 obtain ⟨vs,vc,rfl⟩:∃ vs vc,lv = .slice vs s.lc.length vc:=own_any_shape h.sc.row
 obtain ⟨ks,kc,rfl,hks⟩:=(hx w h.bel).kids
 obtain ⟨es,ec,rfl,hes⟩:=(hx w h.bel).ends
 have HM:=Lib.hid h
 have HBW:Hid (B<=w.heap.size):=Lib.hid h.size
 obtain ⟨c0,c1,-,-,cl,-⟩:=h.cells
 have d0:=hx w h.bel
 obtain ⟨-,-,d0,d1,d2,d3,d4,d5,d6,d7,d8,d9,d10,d11,d12⟩:=d0
 have hnl:nb<w.heap.size:=Nat.lt_of_lt_of_le hnb h.bel.size
 rw [txtS_get ha] at hk
 have HFI:=Lib.hid (fun (w2:World) (h2:ScM l W0 w2 B (.slice (some ⟨nb,off,none⟩) l.length cap) ⟨sb,ub,mb,.slice vs s.lc.length vc⟩ wb ov held s c)=>scfind_any (S:=⟨sb,ub,mb,.slice vs s.lc.length vc⟩) h2.sc l[a].text)
 rw [hk] at HFI
 rw [show idxI none=(-1:Int) from rfl] at HFI
 have HLN:=Lib.hid (fun (w2:World) (h2:ScM l W0 w2 B (.slice (some ⟨nb,off,none⟩) l.length cap) ⟨sb,ub,mb,.slice vs s.lc.length vc⟩ wb ov held s c)=>sclen_any (S:=⟨sb,ub,mb,.slice vs s.lc.length vc⟩) h2.sc)
 have HCP:=Lib.hid (fun (W':World)=>lcopy_any l[a].text l[a].B l[a].N l[a].D l[a].M (a:Nat) (decide (l[a].kind=7)) W' (hf _ (List.getElem_mem ha)).text (hf _ (List.getElem_mem ha)).N (hf _ (List.getElem_mem ha)).M)
 have HLC:=Lib.hid (locC_get ha)
 clear h hx hn hk hks hes hf
 generalize l[a]=x at *
 have HAL:=Lib.hid ha
 clear ha
 obtain ⟨p,hp⟩:∃ p,decide (x.kind=7)=p:=⟨_,rfl⟩
 have q7:(x.kind == 7)=p:=by rw [<- hp];rfl
 rw [hp] at HCP HLC
 obtain ⟨n0,hn0⟩:∃ n0,s.lc.length=n0:=⟨_,rfl⟩
 have HNL:=Lib.hid hn0
 have HFW:=Lib.hid hfew
 have j1:((n0:Int) == 64)=false:=by simp;omega
 have j2:¬ (n0:Int)=64:=by omega
 clear hfew
 have HQ:Hid ((held=true/\p=false)\/held=false\/(held=true/\p=true)):=Lib.hid (by cases held<;>cases p<;>simp)
 obtain ⟨n,hnn⟩:∃ n,l.length=n:=⟨_,rfl⟩
 have HNN:=Lib.hid hnn
 rw [hnn] at c1
 have i0:(0:Int)<=(a:Int):=by omega
 have i1:(a:Int)<(n:Int):=by have:=HAL.out;omega
 have i2:a<n:=by have:=HAL.out;omega
 clear hnn hP
 go_enter Tryz.func131,Tryz.ntmps131
 go_wp2_with fail
 obtain ⟨W2,hW2⟩:∃ W2,W2=(w.alloc (.cells #[.int .i64 0,.int .i64 0] 28)).alloc (.cells #[.int .i64 x.kind,.int .i64 x.sf,.int .i64 x.st,.slice ks x.kids.length kc,.string x.text,.int .i64 x.B,.string x.N,.int .i64 x.D,.string x.M,.int .i64 x.num,.int .i64 x.wf,.int .i64 x.wt,.slice es x.ends.length ec] 61):=⟨_,rfl⟩
 have R2:Hid (Bx 28 W2 w.heap.size [.int .i64 0,.int .i64 0]):=Lib.hid (by rw [hW2];exact (Bx.new 28 w #[.int .i64 0,.int .i64 0]).alloc _)
 have X2:Hid (BoxN W2 (w.heap.size+1) (Array.toList #[.int .i64 x.kind,.int .i64 x.sf,.int .i64 x.st,.slice ks x.kids.length kc,.string x.text,.int .i64 x.B,.string x.N,.int .i64 x.D,.string x.M,.int .i64 x.num,.int .i64 x.wf,.int .i64 x.wt,.slice es x.ends.length ec])):=Lib.hid (by
  rw [hW2]
  have:=BoxN.new (w.alloc (.cells #[.int .i64 0,.int .i64 0] 28)) #[.int .i64 x.kind,.int .i64 x.sf,.int .i64 x.st,.slice ks x.kids.length kc,.string x.text,.int .i64 x.B,.string x.N,.int .i64 x.D,.string x.M,.int .i64 x.num,.int .i64 x.wf,.int .i64 x.wt,.slice es x.ends.length ec]
  simpa using this)
 have HB2:Hid (Below w.heap.size w W2):=Lib.hid (by rw [hW2];repeat (first|exact Below.refl _ _|apply Below.setCell _ (by first|omega|(simp<;>omega))|apply Below.alloc _ (by first|omega|(simp<;>omega))))
 have H2:=Lib.hid (HM.out.step HB2.out HM.out.size)
 rw [<- hW2]
 clear hW2 HM c0 c1 cl d0 d1 d2 d3 d4 d5 d6 d7 d8 d9 d10 d11 d12 hnl hnb
 have xl:=X2.out.lt
 have KEEP:Hid (∀ W',Below W2.heap.size W2 W'->W'.cell? ⟨wb,0,none⟩=some (.pointer (some ⟨sb,0,none⟩))/\W'.cell? ⟨w.heap.size+1,4,none⟩=some (.string x.text)/\Below W2.heap.size W2 W'):=Lib.hid (fun W' h=>⟨(H2.out.step h H2.out.size).cells.1,(X2.out.keep h).cell 4,h⟩)
 have HFI2:=Lib.hid (fun (W':World) (h:Below W2.heap.size W2 W')=>HFI.out W' (H2.out.step h H2.out.size))
 clear HFI
 go_region_held3 (fun W'=>W'.cell? ⟨wb,0,none⟩=some (.pointer (some ⟨sb,0,none⟩))/\W'.cell? ⟨w.heap.size+1,4,none⟩=some (.string x.text)/\Below W2.heap.size W2 W') (first|exact KEEP.out _ (Below.refl _ _)|exact KEEP.out _ (Below.refl _ _).drew|exact KEEP.out _ (after (by assumption) hb9)) (first|(go_at_call 51;go_split_ands;refine (HFI2.out _ (by assumption)).mono ?_;rintro e w9 ⟨rfl,hb9⟩))
 all_goals go_split_ands
 all_goals
  have hb9':Below W2.heap.size W2 w9:=by assumption
  have H9:=Lib.hid (H2.out.step hb9' H2.out.size)
  have BQ:=Lib.hid (after HB2.out hb9')
  have R9:=Lib.hid (R2.out.keep hb9')
  have X9:=Lib.hid (X2.out.keep hb9')
  obtain ⟨c0,-,-,-,cl,-⟩:=H9.out.cells
  clear hb9 hb9' R2 X2 H2
  go_wp2_with fail
  refine (HLN.out _ H9.out).mono ?_
  rintro e w11 ⟨rfl,rfl⟩
  rw [hn0]
  obtain ⟨⟨a0,a1,a2,a3,a4,a5,a6,a7,a8,a9,a10,a11,a12⟩,al,af⟩:=X9.out.all
  go_wp2_with fail
  obtain ⟨W5,hW5⟩:∃ W5,W5=w11.alloc (.cells #[.string x.text,.int .i64 x.B,.string x.N,.int .i64 x.D,.string x.M,.int .i64 (a:Nat),.bool p] 88):=⟨_,rfl⟩
  have B5:Hid (Below w11.heap.size w11 W5):=Lib.hid (by rw [hW5];repeat (first|exact Below.refl _ _|apply Below.setCell _ (by first|omega|(simp<;>omega))|apply Below.alloc _ (by first|omega|(simp<;>omega))))
  have H5:=Lib.hid (H9.out.step B5.out H9.out.size)
  have BQ5:=Lib.hid (after BQ.out B5.out)
  have R5:=Lib.hid (R9.out.keep B5.out)
  have X5:=Lib.hid (X9.out.keep B5.out)
  have Y5:Hid (Bx 88 W5 w11.heap.size [.string x.text,.int .i64 x.B,.string x.N,.int .i64 x.D,.string x.M,.int .i64 (a:Nat),.bool p]):=Lib.hid (by rw [hW5];exact Bx.new 88 w11 #[.string x.text,.int .i64 x.B,.string x.N,.int .i64 x.D,.string x.M,.int .i64 (a:Nat),.bool p])
  have HNE:Hid (∀ k,(Value.slice vs n0 vc).ownBlock=some k->k<w11.heap.size):=Lib.hid (fun k hk=>by have hr:=H9.out.sc.row;rw [hn0] at hr;exact row_lt hr hk)
  have HSL:Hid (sb<w11.heap.size):=Lib.hid H9.out.sc.box.lt
  rw [<- hW5]
  clear hW5 H9 R9 X9 c0 cl a0 a1 a2 a3 a4 a5 a6 a7 a8 a9 a10 a11 a12 al af
  obtain ⟨c0,-,-,-,cl,-⟩:=H5.out.cells
  refine (HLN.out _ H5.out).mono ?_
  rintro e W12 ⟨rfl,rfl⟩
  rw [hn0]
  obtain ⟨e0,-,-,el,ef⟩:=H5.out.sc.cells
  obtain ⟨⟨y0,y1,y2,y3,y4,y5,y6⟩,yl,yf⟩:=Y5.out.seven
  obtain ⟨j0,hj,jz0,jz1,jz2⟩:=info_parts infoLoc
  have N1:Hid (s.lc.length+1<=maxLen):=Lib.hid (by have:=HFW.out;unfold maxLen;omega)
  have N2:Hid ((s.lc.length+1)*80<=140737488355328):=Lib.hid (by have:=HFW.out;omega)
  have RW:Hid (∀ (W4:World),∀ j u,([.string x.text,.int .i64 x.B,.string x.N,.int .i64 x.D,.string x.M,.int .i64 (a:Nat),.bool p]:List Value)[j]? = some u->(W4.alloc (.cells #[.string x.text,.int .i64 x.B,.string x.N,.int .i64 x.D,.string x.M,.int .i64 (a:Nat),.bool p] 88)).cell? ((⟨W4.heap.size,0,none⟩:Addr).add j)=some u):=Lib.hid (by
   intro W4 j u hj
   rw [add_at,Nat.zero_add,(Bx.new 88 W4 #[.string x.text,.int .i64 x.B,.string x.N,.int .i64 x.D,.string x.M,.int .i64 (a:Nat),.bool p]).cell];exact hj)
  have R1:Hid (∀ u ∈ ([.string x.text,.int .i64 x.B,.string x.N,.int .i64 x.D,.string x.M,.int .i64 (a:Nat),.bool p]:List Value),u.oneCell'=true):=Lib.hid (by
   intro u hu
   simp only [List.mem_cons,List.not_mem_nil,or_false] at hu
   rcases hu with rfl|rfl|rfl|rfl|rfl|rfl|rfl<;>rfl)
  rw [hn0] at e0
  clear hn0 c0 cl
  obtain ⟨c0,-,-,-,cl,-⟩:=H5.out.cells
  go_wp2_with fail
  have KK:Hid (∀ W':World,(∀ k,k<W12.heap.size->k≠sb->some k≠(Value.slice vs n0 vc).ownBlock->W'.heap[k]? = W12.heap[k]?)->W'.cell? ⟨wb,0,none⟩=some (.pointer (some ⟨sb,0,none⟩)) /\
    W'.cell? ⟨w11.heap.size,0,none⟩=some (.string x.text)/\W'.cell? ⟨w11.heap.size,1,none⟩=some (.int .i64 x.B)/\W'.cell? ⟨w11.heap.size,2,none⟩=some (.string x.N)/\W'.cell? ⟨w11.heap.size,3,none⟩=some (.int .i64 x.D)/\W'.cell? ⟨w11.heap.size,4,none⟩=some (.string x.M)/\W'.cell? ⟨w11.heap.size,5,none⟩=some (.int .i64 (a:Nat))/\W'.cell? ⟨w11.heap.size,6,none⟩=some (.bool p)):=Lib.hid (fun W' hW=>by
   have hr:W12.ownsRow B 88 7 (.slice vs n0 vc) s.lc.length (flatLc l s.lc):=by have e:=HNL.out;rw [<- e];exact H5.out.sc.row
   have b1:Bx 140 W' wb _:=H5.out.wbox.at_ (hW _ cl (fun e=>H5.out.sb_wb e.symm) (own_ne hr H5.out.wbox (by decide)))
   have b3:Bx 88 W' w11.heap.size _:=Y5.out.at_ (hW _ yl (by have:=HSL.out;omega) (fun e=>Nat.lt_irrefl _ (HNE.out _ e.symm)))
   exact ⟨b1.cell 0,b3.seven.1⟩)
  have e0:W12.drew.cell? ⟨sb,0,none⟩=some (.slice vs n0 vc):=e0
  have PA:=Lib.hid (KK.out W12.drew (fun _ _ _ _=>rfl))
  clear c0 cl y0 y1 y2 y3 y4 y5 y6
  refine wp_region_held_drew (S:=(fun W':World=>W'.cell? ⟨wb,0,none⟩=some (.pointer (some ⟨sb,0,none⟩))/\W'.cell? ⟨w11.heap.size,0,none⟩=some (.string x.text)/\W'.cell? ⟨w11.heap.size,1,none⟩=some (.int .i64 x.B)/\W'.cell? ⟨w11.heap.size,2,none⟩=some (.string x.N)/\W'.cell? ⟨w11.heap.size,3,none⟩=some (.int .i64 x.D)/\W'.cell? ⟨w11.heap.size,4,none⟩=some (.string x.M)/\W'.cell? ⟨w11.heap.size,5,none⟩=some (.int .i64 (a:Nat))/\W'.cell? ⟨w11.heap.size,6,none⟩=some (.bool p))) (by kernel_rfl) (PA.out) (fun hHeld=>?_)
  (try simp only [p1,p2,p3,Act.put,p4,p5,p6])
  refine tk (i:=0) (v:=?_) rfl (by kernel_rfl) (fun _ _ _ h=>h) (.inl ⟨by rfl,?_⟩) (by assumption) ?_
  rotate_left
  ·(intro w hSw;(try dsimp only at hSw);go_simp;try with_reducible rfl)
  (try simp only [p1,p2,p3,Act.put,p4,p5,p6])
  refine tk (i:=1) (v:=?_) rfl (by kernel_rfl) (fun _ _ _ h=>h) (.inl ⟨by rfl,?_⟩) (by assumption) ?_
  rotate_left
  ·(intro w hSw;(try dsimp only at hSw);go_simp;try with_reducible rfl)
  (try simp only [p1,p2,p3,Act.put,p4,p5,p6])
  refine tk (i:=2) (v:=?_) rfl (by kernel_rfl) (fun _ _ _ h=>h) (.inl ⟨by rfl,?_⟩) (by assumption) ?_
  rotate_left
  ·(intro w hSw;(try dsimp only at hSw);go_simp;try with_reducible rfl)
  (try simp only [p1,p2,p3,Act.put,p4,p5,p6])
  refine tk (i:=3) (v:=?_) rfl (by kernel_rfl) (fun _ _ _ h=>h) (.inl ⟨by rfl,?_⟩) (by assumption) ?_
  rotate_left
  ·(intro w hSw;(try dsimp only at hSw);go_simp;try with_reducible rfl)
  (try simp only [p1,p2,p3,Act.put,p4,p5,p6])
  refine tk (i:=4) (v:=?_) rfl (by kernel_rfl) (fun _ _ _ h=>h) (.inl ⟨by rfl,?_⟩) (by assumption) ?_
  rotate_left
  ·(intro w hSw;(try dsimp only at hSw);go_simp;try with_reducible rfl)
  (try simp only [p1,p2,p3,Act.put,p4,p5,p6])
  refine tk (i:=5) (v:=?_) rfl (by kernel_rfl) (fun _ _ _ h=>h) (.inl ⟨by rfl,?_⟩) (by assumption) ?_
  rotate_left
  ·(intro w hSw;(try dsimp only at hSw);go_simp;try with_reducible rfl)
  (try simp only [p1,p2,p3,Act.put,p4,p5,p6])
  refine tk (i:=6) (v:=?_) rfl (by kernel_rfl) (fun _ _ _ h=>h) (.inl ⟨by rfl,?_⟩) (by assumption) ?_
  rotate_left
  ·(intro w hSw;(try dsimp only at hSw);go_simp;try with_reducible rfl)
  (try simp only [p1,p2,p3,Act.put,p4,p5,p6])
  refine tk (i:=7) (v:=?_) rfl (by kernel_rfl) (fun _ _ _ h=>h) (.inl ⟨by rfl,?_⟩) (by assumption) ?_
  rotate_left
  ·(intro w hSw;(try dsimp only at hSw);go_simp;try with_reducible rfl)
  (try simp only [p1,p2,p3,Act.put,p4,p5,p6])
  refine tk (i:=8) (v:=?_) rfl (by kernel_rfl) (fun _ _ _ h=>h) (.inl ⟨by rfl,?_⟩) (by assumption) ?_
  rotate_left
  ·(intro w hSw;(try dsimp only at hSw);go_simp;try with_reducible rfl)
  (try simp only [p1,p2,p3,Act.put,p4,p5,p6])
  refine tk (i:=9) (v:=?_) rfl (by kernel_rfl) (fun _ _ _ h=>h) (.inl ⟨by rfl,?_⟩) (by assumption) ?_
  rotate_left
  ·(intro w hSw;(try dsimp only at hSw);go_simp;try with_reducible rfl)
  (try simp only [p1,p2,p3,Act.put,p4,p5,p6])
  refine tk (i:=11) (v:=?_) rfl (by kernel_rfl) (fun _ _ _ h=>h) (.inl ⟨by rfl,?_⟩) (by assumption) ?_
  rotate_left
  ·(intro w hSw;(try dsimp only at hSw);go_simp;try with_reducible rfl)
  (try simp only [p1,p2,p3,Act.put,p4,p5,p6])
  refine wpAnyH_ready (rs:=[10,12]) (by kernel_rfl) (List.cons_ne_nil _ _) ?_
  refine AllReadyH.cons rfl (fun K hK=>?gx) (AllReadyH.cons rfl (fun K hK=>?gy) (AllReadyH.nil))
  case' gx =>
   go_simp
   refine hK.out _ _ ?_ (fun hHeld1=>?_)
   ·exact PA.out
   clear hK K
   (try simp only [p1,p2,p3,Act.put,p4,p5,p6])
   refine wpAnyH_ready (rs:=[12]) (by kernel_rfl) (List.cons_ne_nil _ _) ?_
   refine AllReadyH.cons rfl (fun K hK=>?_) (AllReadyH.nil)
   go_simp
   go_at_call 94
   refine (HCP.out _).mono ?_
   rintro e W6 ⟨rfl,h56⟩
   have H56:Hid (Below W12.heap.size W12 W6):=Lib.hid (after ((Below.refl _ _).drew) h56)
   have H6:=Lib.hid (H5.out.step H56.out H5.out.size)
   have R6:=Lib.hid (R5.out.keep H56.out)
   have X6:Hid (Bx 61 W6 (w.heap.size+1) (Array.toList #[.int .i64 x.kind,.int .i64 x.sf,.int .i64 x.st,.slice ks x.kids.length kc,.string x.text,.int .i64 x.B,.string x.N,.int .i64 x.D,.string x.M,.int .i64 x.num,.int .i64 x.wf,.int .i64 x.wt,.slice es x.ends.length ec])):=Lib.hid (X5.out.keep H56.out)
   have Y6:=Lib.hid (Y5.out.keep H56.out)
   have HW:Hid (W6.ownsRow B 88 7 (.slice vs n0 vc) s.lc.length (flatLc l s.lc)):=Lib.hid (by have e:=HNL.out;rw [<- e];exact H6.out.sc.row)
   have f0:W6.cell? ⟨sb,0,none⟩=some (.slice vs n0 vc):=by have e:=HNL.out;rw [<- e];exact H6.out.sc.cells.1
   have fl:sb<W6.heap.size:=H6.out.sc.cells.2.2.2.1
   have HB6:Hid (∀ o:Obj,B<=(W6.alloc o).heap.size):=Lib.hid (fun o=>by have:=H6.out.size;simp at *;omega)
   have PB:=Lib.hid (KK.out W6 (fun k hk _ _=>H56.out.block k hk))
   have PC:Hid (∀ o:Obj,_):=Lib.hid (fun o=>KK.out (W6.alloc o) (fun k hk _ _=>(Below.heap_alloc W6 o k (by have:=H56.out.size;omega)).trans (H56.out.block k hk)))
   clear h56
   refine hK.out _ _ ?_ (fun hHeld1=>?_)
   ·exact PB.out
   clear hK K
   (try simp only [p1,p2,p3,Act.put,p4,p5,p6])
   refine wpAnyH_ready (rs:=[13]) (by kernel_rfl) (List.cons_ne_nil _ _) ?_
   refine AllReadyH.cons rfl (fun K hK=>?_) (AllReadyH.nil)
   go_simp
   refine hK.out _ _ ?_ (fun hHeld1=>?_)
   ·exact PC.out _
   clear hK K
   (try simp only [p1,p2,p3,Act.put,p4,p5,p6])
  case' gy =>
   go_simp
   go_at_call 94
   refine (HCP.out _).mono ?_
   rintro e W6 ⟨rfl,h56⟩
   have H56:Hid (Below W12.heap.size W12 W6):=Lib.hid (after ((Below.refl _ _).drew) h56)
   have H6:=Lib.hid (H5.out.step H56.out H5.out.size)
   have R6:=Lib.hid (R5.out.keep H56.out)
   have X6:Hid (Bx 61 W6 (w.heap.size+1) (Array.toList #[.int .i64 x.kind,.int .i64 x.sf,.int .i64 x.st,.slice ks x.kids.length kc,.string x.text,.int .i64 x.B,.string x.N,.int .i64 x.D,.string x.M,.int .i64 x.num,.int .i64 x.wf,.int .i64 x.wt,.slice es x.ends.length ec])):=Lib.hid (X5.out.keep H56.out)
   have Y6:=Lib.hid (Y5.out.keep H56.out)
   have HW:Hid (W6.ownsRow B 88 7 (.slice vs n0 vc) s.lc.length (flatLc l s.lc)):=Lib.hid (by have e:=HNL.out;rw [<- e];exact H6.out.sc.row)
   have f0:W6.cell? ⟨sb,0,none⟩=some (.slice vs n0 vc):=by have e:=HNL.out;rw [<- e];exact H6.out.sc.cells.1
   have fl:sb<W6.heap.size:=H6.out.sc.cells.2.2.2.1
   have HB6:Hid (∀ o:Obj,B<=(W6.alloc o).heap.size):=Lib.hid (fun o=>by have:=H6.out.size;simp at *;omega)
   have PB:=Lib.hid (KK.out W6 (fun k hk _ _=>H56.out.block k hk))
   have PC:Hid (∀ o:Obj,_):=Lib.hid (fun o=>KK.out (W6.alloc o) (fun k hk _ _=>(Below.heap_alloc W6 o k (by have:=H56.out.size;omega)).trans (H56.out.block k hk)))
   clear h56
   refine hK.out _ _ ?_ (fun hHeld1=>?_)
   ·exact PB.out
   clear hK K
   (try simp only [p1,p2,p3,Act.put,p4,p5,p6])
   refine wpAnyH_ready (rs:=[10,13]) (by kernel_rfl) (List.cons_ne_nil _ _) ?_
   refine AllReadyH.cons rfl (fun K hK=>?gu) (AllReadyH.cons rfl (fun K hK=>?gv) (AllReadyH.nil))
   case' gu =>
    go_simp
    refine hK.out _ _ ?_ (fun hHeld1=>?_)
    ·exact PB.out
    clear hK K
    (try simp only [p1,p2,p3,Act.put,p4,p5,p6])
    refine wpAnyH_ready (rs:=[13]) (by kernel_rfl) (List.cons_ne_nil _ _) ?_
    refine AllReadyH.cons rfl (fun K hK=>?_) (AllReadyH.nil)
    go_simp
    refine hK.out _ _ ?_ (fun hHeld1=>?_)
    ·exact PC.out _
    clear hK K
    (try simp only [p1,p2,p3,Act.put,p4,p5,p6])
   case' gv =>
    go_simp
    refine hK.out _ _ ?_ (fun hHeld1=>?_)
    ·exact PC.out _
    clear hK K
    (try simp only [p1,p2,p3,Act.put,p4,p5,p6])
    refine wpAnyH_ready (rs:=[10]) (by kernel_rfl) (List.cons_ne_nil _ _) ?_
    refine AllReadyH.cons rfl (fun K hK=>?_) (AllReadyH.nil)
    go_simp
    refine hK.out _ _ ?_ (fun hHeld1=>?_)
    ·exact PC.out _
    clear hK K
    (try simp only [p1,p2,p3,Act.put,p4,p5,p6])
  all_goals
   refine wpAnyH_ready (rs:=[14]) (by kernel_rfl) (List.cons_ne_nil _ _) ?_
   refine AllReadyH.cons rfl (fun K hK=>?_) (AllReadyH.nil)
   refine step_append_n rfl (.tmp 61) (.tmp 64) 84 rfl B 88 j0 _ 7 80 Tryz.underlying84 hj jz0 jz1 jz2 rfl (by decide) (.slice vs n0 vc) s.lc.length (flatLc l s.lc) (by simp [Act.eval]) (HW.out.alloc _) ⟨W6.heap.size,0,none⟩ 1 1 ([.string x.text,.int .i64 x.B,.string x.N,.int .i64 x.D,.string x.M,.int .i64 (a:Nat),.bool p]) (by simp [Act.eval]) rfl (RW.out W6) R1.out N1.out N2.out (HB6.out _) ?_
   intro v' w7 hown' hgrow
   obtain ⟨g,gc,rfl⟩:=own_shape hown'
   rw [<- HLC.out] at hown'
   have HG:=Lib.hid (H6.out.grow (a:=a) (o':=.cells #[.string x.text,.int .i64 x.B,.string x.N,.int .i64 x.D,.string x.M,.int .i64 (a:Nat),.bool p] 88) H6.out.size HFW.out hown' (by show World.grownBy _ _ (Value.slice vs s.lc.length vc).ownBlock;rw [HNL.out];exact hgrow))
   have g0:w7.cell? ⟨sb,0,none⟩=some (.slice vs n0 vc):=by have e:=HNL.out;rw [<- e];exact HG.out.2.cell 0
   have KP7:Hid (Kept w w7):=Lib.hid ((Kept.of_below (after BQ5.out H56.out)).trans (Kept.grown hgrow (row_types HW.out (.inl rfl))))
   have gf:∀ j,w7.frozen? ⟨sb,j,none⟩=false:=HG.out.2.frozen
   have gl:sb<w7.heap.size:=HG.out.2.lt
   have PD:=Lib.hid (KK.out w7 (fun k hk _ hn=>(hgrow.block k (by have:=H56.out.size;simp;omega) hn).trans (((Below.heap_alloc W6 _ k (by have:=H56.out.size;omega))).trans (H56.out.block k hk))))
   have PE:=Lib.hid (KK.out (w7.setCell ⟨sb,0,none⟩ (.slice (some ⟨g,0,none⟩) (s.lc.length+1) gc)) (fun k hk hs hn=>(heap_setCell_other _ _ k _ (by simpa using hs)).trans ((hgrow.block k (by have:=H56.out.size;simp;omega) hn).trans (((Below.heap_alloc W6 _ k (by have:=H56.out.size;omega))).trans (H56.out.block k hk)))))
   have RX:=Lib.hid (grown_box hgrow R6.out (own_ne HW.out R6.out (by decide)))
   have XX:=Lib.hid (grown_box hgrow X6.out (own_ne HW.out X6.out (by decide)))
   have YY:=Lib.hid (grown_box hgrow Y6.out (fun e=>Nat.lt_irrefl _ (HNE.out _ e.symm)))
   clear hown' hgrow
   refine hK.out _ _ ?_ (fun hHeld1=>?_)
   ·exact PD.out
   clear hK K
   (try simp only [p1,p2,p3,Act.put,p4,p5,p6])
   refine tk (i:=15) (v:=?_) rfl (by kernel_rfl) (fun _ _ _ h=>h) (.inl ⟨by rfl,?_⟩) (by assumption) ?_
   rotate_left
   ·(intro w hSw;(try dsimp only at hSw);go_simp;try with_reducible rfl)
   (try simp only [p1,p2,p3,Act.put,p4,p5,p6])
   refine tk (i:=16) (v:=?_) rfl (by kernel_rfl) (fun _ _ _ h=>h) (.inl ⟨by rfl,?_⟩) (by assumption) ?_
   rotate_left
   ·(intro w hSw;(try dsimp only at hSw);go_simp;try with_reducible rfl)
   (try simp only [p1,p2,p3,Act.put,p4,p5,p6])
   refine wpAnyH_ready (rs:=[17]) (by kernel_rfl) (List.cons_ne_nil _ _) ?_
   refine AllReadyH.cons rfl (fun K hK=>?_) (AllReadyH.nil)
   go_simp
   refine hK.out _ _ ?_ (fun hHeld1=>?_)
   ·exact PE.out
   clear hK K
   (try simp only [p1,p2,p3,Act.put,p4,p5,p6])
   refine wpAnyH_done (by kernel_rfl) ?_ _
   have G8:=Lib.hid HG.out.1
   have KP8:Hid (Kept w (w7.setCell ⟨sb,0,none⟩ (.slice (some ⟨g,0,none⟩) (s.lc.length+1) gc))):=Lib.hid ((KP7.out).trans (Kept.set_t HG.out.2 (.inl rfl) 0 _))
   obtain ⟨W8,hW8⟩:∃ W8,W8=w7.setCell ⟨sb,0,none⟩ (.slice (some ⟨g,0,none⟩) (s.lc.length+1) gc):=⟨_,rfl⟩
   have R8:Hid (Bx 28 W8 w.heap.size [.int .i64 0,.int .i64 0]):=Lib.hid (by rw [hW8];exact RX.out.other (by have:=HS0.out;omega) 0 _)
   have X8:Hid (Bx 61 W8 (w.heap.size+1) (Array.toList #[.int .i64 x.kind,.int .i64 x.sf,.int .i64 x.st,.slice ks x.kids.length kc,.string x.text,.int .i64 x.B,.string x.N,.int .i64 x.D,.string x.M,.int .i64 x.num,.int .i64 x.wf,.int .i64 x.wt,.slice es x.ends.length ec])):=Lib.hid (by rw [hW8];exact XX.out.other (by have:=HS0.out;omega) 0 _)
   have Y8:Hid (Bx 88 W8 w11.heap.size [.string x.text,.int .i64 x.B,.string x.N,.int .i64 x.D,.string x.M,.int .i64 (a:Nat),.bool p]):=Lib.hid (by rw [hW8];exact YY.out.other (by have:=HSL.out;omega) 0 _)
   rw [<- hW8] at G8 KP8 ⊢
   clear hW8 HG PA PB PC PD PE RX XX YY R6 X6 Y6 H6 HW HB6 H56 f0 fl g0 gf gl e0 H5 R5 X5 Y5 B5 KK hHeld
   clear RW R1 N1 N2 hj jz0 jz1 jz2 el ef yl yf
   obtain ⟨k0,-,k2,k3,kl,kf⟩:=G8.out.cells
   have y6:W8.cell? ⟨w11.heap.size,6,none⟩=some (.bool p):=Y8.out.cell 6
   have yl:=Y8.out.lt
   rcases HQ.out with ⟨rfl,rfl⟩|hq
   ·have HE:=HD.out
    rw [if_pos (show true=true/\x.kind≠7 from ⟨rfl,of_decide_eq_false hp⟩)] at HE
    clear HD
    have HD:=Lib.hid HE
    clear HE
    have W8n:Below W8.heap.size W8 (W8.alloc (.cells #[.int .i64 (n0:Int)] 3)):=by repeat (first|exact Below.refl _ _|apply Below.setCell _ (by first|omega|(simp<;>omega))|apply Below.alloc _ (by first|omega|(simp<;>omega)))
    have G8a:=G8.out.step W8n G8.out.size
    obtain ⟨v2,w9,hap,hown9,hgr9⟩:=G8a.opn.append (n0:Int) ⟨W8.heap.size,0,none⟩ (fun j u hj=>by rw [add_at,Nat.zero_add];exact ((Bx.new 3 W8 #[.int .i64 (n0:Int)]).cell j).trans hj) G8a.size (by rw [natI_len];exact HOP.out) 57
    have e9:natI s.op ++ [(n0:Int)]=natI (s.op ++ [n0]):=by simp [natI]
    have e9:natI ({ s with lc:=s.lc ++ [a] }:Sc).op ++ [(n0:Int)]=natI (s.op ++ [n0]):=e9
    rw [e9] at hown9
    have HG9:=Lib.hid (G8.out.opens (o':=.cells #[.int .i64 (n0:Int)] 3) (L:=s.op ++ [n0]) G8.out.size hown9 hgr9)
    obtain ⟨g9,c9,rfl⟩:∃ g9 c9,v2 = .slice (some ⟨g9,0,none⟩) (s.op.length+1) c9:=by
     have e:(natI (s.op ++ [n0])).length=s.op.length+1:=by simp [natI]
     rw [e] at hown9
     exact own_shape hown9
    have b2:w9.cell? ⟨wb,2,none⟩=some ov:=HG9.out.2.cell 2
    have bf:∀ j,w9.frozen? ⟨wb,j,none⟩=false:=HG9.out.2.frozen
    have bl:wb<w9.heap.size:=HG9.out.2.lt
    have R9:=Lib.hid (grown_box hgr9 (R8.out) (G8.out.opn.ne R8.out (by decide)))
    have X9:=Lib.hid (grown_box hgr9 (X8.out) (G8.out.opn.ne X8.out (by decide)))
    have HAP:=Lib.hid hap
    have KP9:=Lib.hid (KP8.out.trans (Kept.grown hgr9 G8.out.opn.types))
    clear hap hown9 hgr9 e9 G8a W8n
    go_upto_region 11 with (at_builtin;refine Lib.wpList_append_run _ rfl _ _ _ _ rfl _ _ rfl rfl _ _ HAP.out ?_)
    obtain ⟨W10,hW10⟩:∃ W10,W10=w9.setCell ⟨wb,2,none⟩ (.slice (some ⟨g9,0,none⟩) (s.op.length+1) c9):=⟨_,rfl⟩
    have G10:=Lib.hid HG9.out.1
    have KP10:Hid (Kept w (w9.setCell ⟨wb,2,none⟩ (.slice (some ⟨g9,0,none⟩) (s.op.length+1) c9))):=Lib.hid (KP9.out.trans (Kept.set_t HG9.out.2 (.inr rfl) 2 _))
    have hnwb:w.heap.size≠wb/\w.heap.size+1≠wb:=by have:=HWL.out;omega
    have R10:Hid (Bx 28 W10 w.heap.size [.int .i64 0,.int .i64 0]):=Lib.hid (by rw [hW10];exact R9.out.other hnwb.1 2 _)
    have X10:Hid (Bx 61 W10 (w.heap.size+1) (Array.toList #[.int .i64 x.kind,.int .i64 x.sf,.int .i64 x.st,.slice ks x.kids.length kc,.string x.text,.int .i64 x.B,.string x.N,.int .i64 x.D,.string x.M,.int .i64 x.num,.int .i64 x.wf,.int .i64 x.wt,.slice es x.ends.length ec])):=Lib.hid (by rw [hW10];exact X9.out.other hnwb.2 2 _)
    rw [<- hW10] at G10 KP10 ⊢
    clear hW10 HG9 HAP R9 X9 b2 bf bl k0 k2 k3 kl kf y6 yl G8 R8 X8 Y8 hnwb
    have x3:=X10.out.cell 3
    have xl10:=X10.out.lt
    obtain ⟨r0,r1,rl,rf⟩:=R10.out.two
    obtain ⟨m0,-,-,-,ml,-⟩:=G10.out.cells
    obtain ⟨-,-,m2,sl,-⟩:=G10.out.sc.cells
    simp only [List.getElem?_cons_zero,List.getElem?_cons_succ] at x3
    by_cases hkz:x.kids.length=0
    ·have hke:kidsOf l a=[]:=by rw [HKO.out,List.eq_nil_of_length_eq_zero hkz];rfl
     have HD2:=Lib.hid HD.out
     rw [if_pos hke] at HD2
     rw [hkz] at x3
     clear hke hkz
     go_wp2_with fail
     refine bodyPost_ret (v:=.agg #[.int .i64 0,.int .i64 0]) (by simp [results,Tryz.results131,go_sem,r0,r1]) rfl ?_
     have GF:=G10.out
     try rw [<- HNL.out] at GF
     exact .inr ⟨_,_,_,HD2.out,rfl,(GF.fars R10.out HBW.out (by decide)).mono (Nat.le_succ _),(KP10.out.fresh (Nat.le_refl _) 0 _).fresh (Nat.le_refl _) 1 _⟩
    ·have hke:kidsOf l a≠[]:=by rw [HKO.out];intro e;exact hkz (by have:=congrArg List.length e;simpa using this)
     have HD2:=Lib.hid HD.out
     rw [if_neg hke] at HD2
     have qk:decide ((0:Int)<(x.kids.length:Int))=true:=decide_eq_true (by omega)
     have qn:decide (0<x.kids.length)=true:=decide_eq_true (by omega)
     obtain ⟨W11,hup,g11,hg11⟩:=G10.out.put_set (k:=n0) hc (a:=a) (by have:=HLE.out;have:=HAL.out;omega)
     have G11:=Lib.hid g11
     have KP11:=Lib.hid (KP10.out.trans (Kept.map hg11 G10.out.sc.sets))
     have R11:Hid (Bx 28 W11 w.heap.size [.int .i64 0,.int .i64 0]):=Lib.hid (R10.out.at_ (hg11.block _ R10.out.lt (fun e=>G10.out.sc.sets.ne_cells R10.out (Option.some.inj e).symm)))
     obtain ⟨s0,s1,sl1,sf1⟩:=R11.out.two
     clear hke hkz g11 hg11
     go_wp2_with fail
     refine bodyPost_ret (v:=.agg #[.int .i64 0,.int .i64 0]) (by simp [results,Tryz.results131,go_sem,s0,s1]) rfl ?_
     have GF:=G11.out
     try rw [<- HNL.out] at GF
     exact .inr ⟨_,_,_,HD2.out,rfl,GF.fars R11.out HBW.out (by decide),(KP11.out.fresh (Nat.le_refl _) 0 _).fresh (Nat.le_refl _) 1 _⟩
   ·have HE:=HD.out
    rcases hq with rfl|⟨rfl,rfl⟩
    case' inl=>rw [if_neg (show ¬ (false=true/\x.kind≠7) from fun q=>Bool.noConfusion q.1)] at HE
    case' inr=>rw [if_neg (show ¬ (true=true/\x.kind≠7) from fun q=>q.2 (of_decide_eq_true hp))] at HE
    all_goals
     clear HD
     have HD:=Lib.hid HE
     clear HE
     go_upto_region 11 with fail
     have G10:=G8
     have KP10:=KP8
     have R10:=R8
     have X10:=X8
     clear k0 k2 k3 kl kf yl G8 R8 X8 Y8 KP8
     have x3:=X10.out.cell 3
     have xl10:=X10.out.lt
     obtain ⟨r0,r1,rl,rf⟩:=R10.out.two
     obtain ⟨m0,-,-,-,ml,-⟩:=G10.out.cells
     obtain ⟨-,-,m2,sl,-⟩:=G10.out.sc.cells
     simp only [List.getElem?_cons_zero,List.getElem?_cons_succ] at x3
     by_cases hkz:x.kids.length=0
     ·have hke:kidsOf l a=[]:=by rw [HKO.out,List.eq_nil_of_length_eq_zero hkz];rfl
      have HD2:=Lib.hid HD.out
      rw [if_pos hke] at HD2
      rw [hkz] at x3
      clear hke hkz
      go_wp2_with fail
      refine bodyPost_ret (v:=.agg #[.int .i64 0,.int .i64 0]) (by simp [results,Tryz.results131,go_sem,r0,r1]) rfl ?_
      have GF:=G10.out
      try rw [<- HNL.out] at GF
      exact .inr ⟨_,_,_,HD2.out,rfl,(GF.fars R10.out HBW.out (by decide)).mono (Nat.le_succ _),(KP10.out.fresh (Nat.le_refl _) 0 _).fresh (Nat.le_refl _) 1 _⟩
     ·have hke:kidsOf l a≠[]:=by rw [HKO.out];intro e;exact hkz (by have:=congrArg List.length e;simpa using this)
      have HD2:=Lib.hid HD.out
      rw [if_neg hke] at HD2
      have qk:decide ((0:Int)<(x.kids.length:Int))=true:=decide_eq_true (by omega)
      have qn:decide (0<x.kids.length)=true:=decide_eq_true (by omega)
      obtain ⟨W11,hup,g11,hg11⟩:=G10.out.put_set (k:=n0) hc (a:=a) (by have:=HLE.out;have:=HAL.out;omega)
      have G11:=Lib.hid g11
      have KP11:=Lib.hid (KP10.out.trans (Kept.map hg11 G10.out.sc.sets))
      have R11:Hid (Bx 28 W11 w.heap.size [.int .i64 0,.int .i64 0]):=Lib.hid (R10.out.at_ (hg11.block _ R10.out.lt (fun e=>G10.out.sc.sets.ne_cells R10.out (Option.some.inj e).symm)))
      obtain ⟨s0,s1,sl1,sf1⟩:=R11.out.two
      clear hke hkz g11 hg11
      go_wp2_with fail
      refine bodyPost_ret (v:=.agg #[.int .i64 0,.int .i64 0]) (by simp [results,Tryz.results131,go_sem,s0,s1]) rfl ?_
      have GF:=G11.out
      try rw [<- HNL.out] at GF
      exact .inr ⟨_,_,_,HD2.out,rfl,GF.fars R11.out HBW.out (by decide),(KP11.out.fresh (Nat.le_refl _) 0 _).fresh (Nat.le_refl _) 1 _⟩
end
end Go.Proofs.YtfehpdliobapfaaGreatDoor.S
namespace Go.Proofs.YtfehpdliobapfaaGreatDoor.S
open Go Go.RowKit
section
variable {l:List Nd} {root:Int} {W0 w:World} {B:Nat} {nv:Value} {S:ScV} {wb:Nat} {ov:Value} {held:Bool} {s:Sc} {c:Nat}
theorem declare_any (P:ProgOk l root) (hn:NdsB W0 B nv l) (hf:∀ x ∈ l,NdFit x) {a:Nat} (ha:a<l.length) (h:ScM l W0 w B nv S wb ov held s c) (hc:c<16384) (hop:s.op.length<=64) :
  Calls Tryz.prog 131 #[(.pointer (some ⟨wb,0,none⟩)),.int .i64 (a:Nat)] w (WPost l W0 w B nv S.sb S.ub S.mb wb held (declG l held a s) (c+1)):=by
 cases hk:findS l s.lc (txtS l a) with
 | some k =>
  refine (declare_twice P hn ha h hk).mono ?_
  rintro e w' ⟨rfl,hb⟩
  exact .inl ⟨4,sfrS l a,by unfold declG;rw [hk],rfl,by decide,h.bel.trans (hb.mono h.size),Kept.of_below hb⟩
 | none =>
  by_cases hl:s.lc.length=64
  ·refine (declare_long P hn ha h hk hl).mono ?_
   rintro e w' ⟨rfl,hb⟩
   refine .inl ⟨2,sfrS l a,?_,rfl,by decide,h.bel.trans (hb.mono h.size),Kept.of_below hb⟩
   unfold declG
   rw [hk]
   show (if s.lc.length=64 then _ else _)=_
   rw [if_pos hl]
  ·have hfew:s.lc.length<64:=by have:=h.sc.few;omega
   exact declare_new P hn hf ha h hk hfew hc hop
theorem assign_no (P:ProgOk l root) (hn:NdsB W0 B nv l) {a:Nat} (ha:a<l.length) (h:ScM l W0 w B nv S wb ov held s c) {k0:Nat} {ks0:List Nat} (hk:kidsOf l a=k0 :: ks0) (hu:s.us k0=none) :
  Calls Tryz.prog 133 #[(.pointer (some ⟨wb,0,none⟩)),.int .i64 (a:Nat)] w fun e w'=>e = .returned (.tuple #[])/\ScM l W0 w' B nv S wb ov held s (c+1)/\Kept w w':=by
 have hP:=P.long
 obtain ⟨nb,off,cap,rfl,hnb,kv,ev,hx⟩:=hn.node ha
 obtain ⟨ks,kc,rfl,hks⟩:=(hx w h.bel).kids
 have d3:=(hx w h.bel).c3
 have hlen:l[a].kids.length=ks0.length+1:=by
  have:=congrArg List.length (kidsOf_get l a ha)
  rw [hk] at this
  simpa using this.symm
 have hget:(l[a].kids[0]'(by omega))=(k0:Int):=by
  have h1:(kidsOf l a)[0]? = some k0:=by rw [hk];rfl
  rw [kidsOf_get l a ha] at h1
  have h2:=P.ahead a ha (l[a].kids[0]'(by omega)) (List.getElem_mem _)
  rw [List.getElem?_map,List.getElem?_eq_getElem (by omega)] at h1
  simp only [Option.map_some,Option.some.injEq] at h1
  omega
 obtain ⟨kb,koff,rfl,hkb,hkat⟩:=hks (by omega)
 have c0k:=hkat 0 (by omega)
 rw [hget,Nat.add_zero] at c0k
 obtain ⟨c0,c1,-,-,cl,-⟩:=h.cells
 obtain ⟨-,e1,-,el,-⟩:=h.sc.cells
 have hnl:nb<w.heap.size:=Nat.lt_of_lt_of_le hnb h.bel.size
 have hlk:∀ n,(Instr.lookup 135 (.map (some S.ub)) (.int .i64 (k0:Int)) true).run Tryz.prog (w.drewN n) = .ok (.tuple #[.int .i64 0,.bool false]) (w.drewN n):=fun n=>by
  have:=look_int (h.drew n).sc (z:=(k0:Int)) (nat_in (by have:=kidsOf_lt P ha (x:=k0) (by rw [hk];simp);omega))
  rw [natF_at,hu] at this
  exact this
 have HM:=Lib.hid h
 have HAL:=Lib.hid ha
 clear h hn hx hks hkat hk hu hget
 rw [hlen] at d3
 generalize ks0.length=m at *
 clear hlen
 have i0:(0:Int)<=(a:Int):=by omega
 have i1:(a:Int)<(l.length:Int):=by omega
 have i2:(0:Int)<((m+1:Nat):Int):=by omega
 have HP:=Lib.hid hP
 obtain ⟨n,hnn⟩:∃ n,l.length=n:=⟨_,rfl⟩
 have HNN:=Lib.hid hnn
 rw [hnn] at c1 i1 hP ha
 clear P hnn
 go_enter Tryz.func133,Tryz.ntmps133
 go_wp2_with fail
 go_quiet (fail)
 go_wp2_with fail
 first|go_end0|refine bodyPost_ret (results_none rfl _ _ _) rfl ?_
 all_goals exact ⟨rfl,(HM.out.drew nq).mono (Nat.le_succ _),Kept.refl _⟩
theorem assign_yes (P:ProgOk l root) (hn:NdsB W0 B nv l) {a:Nat} (ha:a<l.length) (h:ScM l W0 w B nv S wb ov held s c) (hc:c<16384) {k0:Nat} {ks0:List Nat} (hk:kidsOf l a=k0 :: ks0) {k:Nat} (hu:s.us k0=some k) :
  Calls Tryz.prog 133 #[(.pointer (some ⟨wb,0,none⟩)),.int .i64 (a:Nat)] w fun e w'=>e = .returned (.tuple #[])/\ScM l W0 w' B nv S wb ov held { s with ss:=putN s.ss a k } (c+1)/\Kept w w':=by
 have hP:=P.long
 obtain ⟨nb,off,cap,rfl,hnb,kv,ev,hx⟩:=hn.node ha
 obtain ⟨ks,kc,rfl,hks⟩:=(hx w h.bel).kids
 have d3:=(hx w h.bel).c3
 have hlen:l[a].kids.length=ks0.length+1:=by
  have:=congrArg List.length (kidsOf_get l a ha)
  rw [hk] at this
  simpa using this.symm
 have hget:(l[a].kids[0]'(by omega))=(k0:Int):=by
  have h1:(kidsOf l a)[0]? = some k0:=by rw [hk];rfl
  rw [kidsOf_get l a ha] at h1
  have h2:=P.ahead a ha (l[a].kids[0]'(by omega)) (List.getElem_mem _)
  rw [List.getElem?_map,List.getElem?_eq_getElem (by omega)] at h1
  simp only [Option.map_some,Option.some.injEq] at h1
  omega
 obtain ⟨kb,koff,rfl,hkb,hkat⟩:=hks (by omega)
 have c0k:=hkat 0 (by omega)
 rw [hget,Nat.add_zero] at c0k
 obtain ⟨c0,c1,-,-,cl,-⟩:=h.cells
 obtain ⟨-,e1,-,el,-⟩:=h.sc.cells
 have hnl:nb<w.heap.size:=Nat.lt_of_lt_of_le hnb h.bel.size
 have hlk:∀ n,(Instr.lookup 135 (.map (some S.ub)) (.int .i64 (k0:Int)) true).run Tryz.prog (w.drewN n) = .ok (.tuple #[.int .i64 (k:Int),.bool true]) (w.drewN n):=fun n=>by
  have:=look_int (h.drew n).sc (z:=(k0:Int)) (nat_in (by have:=kidsOf_lt P ha (x:=k0) (by rw [hk];simp);omega))
  rw [natF_at,hu] at this
  exact this
 have HM:=Lib.hid h
 have HAL:=Lib.hid ha
 clear h hn hx hks hkat hk hu hget
 rw [hlen] at d3
 generalize ks0.length=m at *
 clear hlen
 have i0:(0:Int)<=(a:Int):=by omega
 have i1:(a:Int)<(l.length:Int):=by omega
 have i2:(0:Int)<((m+1:Nat):Int):=by omega
 have HP:=Lib.hid hP
 obtain ⟨n,hnn⟩:∃ n,l.length=n:=⟨_,rfl⟩
 have HNN:=Lib.hid hnn
 rw [hnn] at c1 i1 hP ha
 clear P hnn
 go_enter Tryz.func133,Tryz.ntmps133
 go_wp2_with fail
 go_quiet (fail)
 have H5:=Lib.hid (HM.out.drew nq)
 have K5:Hid (Kept w (w.drewN nq)):=Lib.hid (Kept.refl _)
 clear c0 c1 cl e1 el c0k hkb hnl d3 hlk
 generalize w.drewN nq=W5 at *
 obtain ⟨c0,-,-,-,cl,-⟩:=H5.out.cells
 obtain ⟨-,-,e2,el,-⟩:=H5.out.sc.cells
 obtain ⟨W6,hup,h6,hg6⟩:=H5.out.put_set (k:=k) hc (a:=a) (by have:=HAL.out;have:=HP.out;omega)
 have H6:=Lib.hid h6
 have K6:=Lib.hid (K5.out.trans (Kept.map hg6 H5.out.sc.sets))
 clear h6 hg6
 go_wp2_with fail
 first|go_end0|refine bodyPost_ret (results_none rfl _ _ _) rfl ?_
 all_goals exact ⟨rfl,H6.out,K6.out⟩
theorem assign_any (P:ProgOk l root) (hn:NdsB W0 B nv l) {a:Nat} (ha:a<l.length) (h:ScM l W0 w B nv S wb ov held s c) (hc:c<16384) (hk:kndS l a=10) :
  Calls Tryz.prog 133 #[(.pointer (some ⟨wb,0,none⟩)),.int .i64 (a:Nat)] w fun e w'=>e = .returned (.tuple #[])/\ScM l W0 w' B nv S wb ov held (assG l a s) (c+1)/\Kept w w':=by
 obtain ⟨k0,ks0,hkk⟩:=least_ass P ha hk
 unfold assG
 rw [hkk]
 show Calls _ _ _ _ fun e w'=>e = .returned (.tuple #[])/\ScM l W0 w' B nv S wb ov held (match s.us k0 with|none=>s|some k=>{ s with ss:=putN s.ss a k }) (c+1)/\Kept w w'
 cases hu:s.us k0 with
 | none=>exact assign_no P hn ha h hkk hu
 | some k=>exact assign_yes P hn ha h hc hkk hu
end
end Go.Proofs.YtfehpdliobapfaaGreatDoor.S
