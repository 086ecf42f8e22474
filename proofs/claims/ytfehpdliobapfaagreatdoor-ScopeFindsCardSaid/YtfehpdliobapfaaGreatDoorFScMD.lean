/- For any text and any number,ScopeFinds returns true and leaves its arguments as they were. -/
import Derived.Test.YtfehpdliobapfaaGreatDoorFScMC
import Derived.Test.YtfehpdliobapfaaGreatDoorFPaMF
import Derived.Sort.OwnSortedInts
set_option maxRecDepth 100000
set_option maxHeartbeats 4000000
set_option linter.unusedVariables false
set_option linter.unusedSimpArgs false
namespace Go.Proofs.YtfehpdliobapfaaGreatDoor.S
open Go Go.RowKit
open Go.Sort
def risS (n:Nat) (f:Nat->Option Nat) (slot:Int):List Nat:=if slot<0 then [] else forS n f slot.toNat
theorem ris_mem {n:Nat} {f:Nat->Option Nat} {slot:Int} {x:Nat} (hf:∀ x k,f x=some k->x<n):x ∈ risS n f slot ↔ natF f (.int .i64 (x:Int))=some (.int .i64 slot):=by
 unfold risS
 rw [natF_at]
 by_cases h:slot<0
 ·rw [if_pos h]
  constructor
  ·intro q;cases q
  ·intro q
   obtain ⟨k,h1,h2⟩:=Option.map_eq_some_iff.1 q
   simp only [Value.int.injEq,true_and] at h2
   omega
 ·rw [if_neg h,forS_mem]
  constructor
  ·rintro ⟨_,h2⟩
   rw [h2]
   simp only [Option.map_some,Option.some.injEq,Value.int.injEq,true_and]
   omega
  ·intro q
   obtain ⟨k,h1,h2⟩:=Option.map_eq_some_iff.1 q
   simp only [Value.int.injEq,true_and] at h2
   have e:slot.toNat=k:=by omega
   rw [e]
   exact ⟨hf x k h1,h1⟩
theorem sorted_ris {n:Nat} {p:Nat->Bool} {acc:List Int} (hn:acc.Nodup) (hm:∀ z,z ∈ acc ↔ ∃ x:Nat,z=x/\x<n/\p x=true):acc.mergeSort (fun x y=>decide (x<=y))=((List.range n).filter p).map fun (x:Nat)=>(x:Int):=by
 have h1:(acc.mergeSort (fun x y=>decide (x<=y))).Perm (((List.range n).filter p).map fun (x:Nat)=>(x:Int)):=by
  refine (List.mergeSort_perm _ _).trans ?_
  refine (List.perm_ext_iff_of_nodup hn ?_).2 ?_
  ·show List.Pairwise (· ≠ ·) _
   rw [List.pairwise_map]
   exact (List.nodup_range.filter _).imp (fun h q=>h (by omega))
  ·intro z
   rw [hm z,List.mem_map]
   constructor
   ·rintro ⟨x,rfl,hx,hp⟩
    exact ⟨x,List.mem_filter.2 ⟨List.mem_range.2 hx,hp⟩,rfl⟩
   ·rintro ⟨x,hx,rfl⟩
    obtain ⟨hx,hp⟩:=List.mem_filter.1 hx
    exact ⟨x,rfl,List.mem_range.1 hx,hp⟩
 have h2:(acc.mergeSort (fun x y=>decide (x<=y))).Pairwise (fun x y=>x<=y):=by
  have:=List.pairwise_mergeSort (le:=fun (x y:Int)=>decide (x<=y)) (fun a b c h1 h2=>by simp at *;omega) (fun a b=>by simp;omega) acc
  exact this.imp (fun h=>by simpa using h)
 have h3:(((List.range n).filter p).map fun (x:Nat)=>(x:Int)).Pairwise (fun x y=>x<=y):=by
  rw [List.pairwise_map]
  exact (List.pairwise_lt_range.filter _).imp (fun h=>by omega)
 exact h1.eq_of_pairwise (fun a b _ _ h1 h2=>by omega) h2 h3
theorem sort_any {w:World} {B:Nat} {v:Value} {L:List Int} (h:w.ownsRow B 3 1 v L.length (numC L)) (hL:L.length<=1099511627776) :
  Calls Tryz.prog 134 #[v] w fun e w'=>e = .returned (.tuple #[])/\w'.ownsRow B 3 1 v L.length (numC (L.mergeSort fun x y=>decide (x<=y)))/\w.grownBy w' v.ownBlock:=by
 rcases h.2 with ⟨rfl,h0⟩|⟨g,cap,cur,rfl,hg,hb,h1,h2,h3,h4⟩
 ·have e:L=[]:=List.eq_nil_of_length_eq_zero h0
  subst e
  refine (Any.slices_Sort_int_none Tryz.lays189 none 0 w).mono ?_
  rintro e w' ⟨rfl,rfl⟩
  refine ⟨rfl,?_,⟨rfl,rfl,rfl,Nat.le_refl _,fun _ _ _=>rfl⟩⟩
  have:([]:List Int).mergeSort (fun x y=>decide (x<=y))=[]:=by simp
  rw [this];exact h
 ·refine (Tryz.slices_Sort_int g 0 cap L w (holds_of_blockI hb (by rw [show L.length=L.length*1 by omega,h4];rfl)) (lt_block hb) (by omega)).mono ?_
  rintro e w' ⟨rfl,n,os,rfl⟩
  refine ⟨rfl,?_,grownBy_sortedI _⟩
  exact ownsRow_sortedI (by rw [List.length_mergeSort]) hg hb h1 h2 h3
structure Rise (w wx:World) (b r c:Nat) (f:Nat->Option Nat) (slot:Int) (lv:Value) (acc:List Nat) (L:List Value):Prop where
 bel:Below w.heap.size w wx
 left:MapLeft Tryz.prog 3 wx b r c (natF f) L
 row:wx.ownsRow w.heap.size 3 1 lv acc.length (numC (natI acc))
 once:acc.Nodup
 mem:∀ x,x ∈ acc ↔ natF f (.int .i64 (x:Int))=some (.int .i64 slot) /\ .int .i64 (x:Int) ∉ L
 it:w.heap.size<=r
 ne:some r≠lv.ownBlock
 nb:some b≠lv.ownBlock
section
variable {w wx w1:World} {b r c n:Nat} {f:Nat->Option Nat} {slot:Int} {lv:Value} {acc:List Nat} {L L1:List Value} {a k:Nat}
theorem Rise.few (h:Rise w wx b r c f slot lv acc L) (hf:∀ x k,f x=some k->x<n):acc.length<=n:=nodup_len n acc h.once (fun x hx=>by
 have:=(h.mem x).1 hx
 rw [natF_at] at this
 obtain ⟨k,h1,-⟩:=Option.map_eq_some_iff.1 this.1
 exact hf x k h1)
theorem Rise.row1 (h:Rise w wx b r c f slot lv acc L) (hg:wx.grownBy w1 (some r)) (hs:w1.heap.size=wx.heap.size):w1.ownsRow w.heap.size 3 1 lv acc.length (numC (natI acc)) :=
 row_at h.row (by omega) (fun k hk=>hg.block k (row_lt h.row hk) (fun e=>h.ne (by rw [hk,e])))
theorem Rise.bel1 (h:Rise w wx b r c f slot lv acc L) (hg:wx.grownBy w1 (some r)) (hs:w1.heap.size=wx.heap.size):Below w.heap.size w w1 :=
 Below.grown h.bel hg h.bel.size (fun j hj=>by cases hj;exact h.it)
theorem Rise.skip (h:Rise w wx b r c f slot lv acc L) (hk:natF f (.int .i64 (a:Int))=some (.int .i64 (k:Int))) (hks:(k:Int)≠slot) (hmem:∀ x,x ∈ L ↔ x = .int .i64 (a:Int)\/x ∈ L1) (hl:MapLeft Tryz.prog 3 w1 b r c (natF f) L1) (hg:wx.grownBy w1 (some r)) (hs:w1.heap.size=wx.heap.size) :
  Rise w w1 b r c f slot lv acc L1:=by
 refine ⟨h.bel1 hg hs,hl,h.row1 hg hs,h.once,fun x=>?_,h.it,h.ne,h.nb⟩
 rw [h.mem x,hmem]
 constructor
 ·rintro ⟨q1,q2⟩
  exact ⟨q1,fun q=>q2 (.inr q)⟩
 ·rintro ⟨q1,q2⟩
  refine ⟨q1,?_⟩
  rintro (q|q)
  ·rw [q,hk] at q1
   simp only [Option.some.injEq,Value.int.injEq,true_and] at q1
   exact hks q1
  ·exact q2 q
theorem left_cells {P:Program} {kt:TypeId} {F:Value->Option Value} (h:MapLeft P kt w b r n F L) {g:Nat} {cs:Array Value} {T:TypeId} {fz:Nat × Nat} (hg:w.heap[g]? = some (.cells cs T fz)):b≠g/\r≠g:=by
 obtain ⟨-,es,clock,since,seen,c0,q1,F,h1,q2,rest⟩:=h
 constructor<;>rintro rfl
 ·rw [q1] at hg;cases hg
 ·rw [q2] at hg;cases hg
theorem row_block {w:World} {B n s:Nat} {e:TypeId} {v:Value} {xs:List Value} (h:w.ownsRow B e s v n xs) {k:Nat} (hk:some k=v.ownBlock):∃ c fz,w.heap[k]? = some (.cells c e fz):=by
 rcases h.2 with ⟨rfl,_⟩|⟨g,cap,cur,rfl,_,hg,_⟩
 ·cases hk
 ·cases hk;exact ⟨_,_,hg⟩
theorem Rise.push (h:Rise w wx b r c f slot lv acc L) (hk:natF f (.int .i64 (a:Int))=some (.int .i64 slot)) (hmem:∀ x,x ∈ L ↔ x = .int .i64 (a:Int)\/x ∈ L1) (hout : .int .i64 (a:Int) ∉ L1) (hl:MapLeft Tryz.prog 3 w1 b r c (natF f) L1) (hg:wx.grownBy w1 (some r)) (hs:w1.heap.size=wx.heap.size) (hn:acc.length<=1099511627776) :
  ∃ v' w2,(Builtin.append_ #[57,57] 57 #[lv,.slice (some ⟨w1.heap.size,0,none⟩) 1 1]).run Tryz.prog (w1.alloc (.cells #[.int .i64 (a:Int)] 3)) = .ok v' w2/\Rise w w2 b r c f slot v' (acc ++ [a]) L1:=by
 obtain ⟨i,hi,hz,hs',hb⟩:=info_parts infoI'
 have B1:=h.bel1 hg hs
 have hal:Below w1.heap.size w1 (w1.alloc (.cells #[.int .i64 (a:Int)] 3)):=(Below.refl _ _).alloc (Nat.le_refl _) _
 have R1:=h.row1 hg hs
 have R2:=ownsRow_step R1 hal
 have X:=Bx.new 3 w1 #[.int .i64 (a:Int)]
 obtain ⟨v',w2,r1,r2,r3,r4⟩:=run_append_own (P:=Tryz.prog) (w1.alloc (.cells #[.int .i64 (a:Int)] 3)) w.heap.size 57 57 3 i _ 1 8 Tryz.underlying57 hi hz hs' hb rfl (by decide) lv acc.length (numC (natI acc)) R2 ⟨w1.heap.size,0,none⟩ 1 1 [.int .i64 (a:Int)] rfl (fun j u hj=>by rw [add_at,Nat.zero_add];exact (X.cell j).trans hj) (by intro u hu;rw [List.mem_singleton] at hu;rw [hu];rfl) (by unfold maxLen;omega) (by omega) (by have:=B1.size;have:=hal.size;omega)
 have hlb:=hl.1.lt
 have hlr:r<w1.heap.size:=by
  obtain ⟨-,es,clock,since,seen,c0,q1,F,h1,q2,rest⟩:=hl
  exact (Array.getElem?_eq_some_iff.1 q2).1
 have nb:∀ g,some g=lv.ownBlock->b≠g/\r≠g:=fun g q=>by
  obtain ⟨cs,fz,hc⟩:=row_block R1 q
  exact left_cells hl hc
 have kb:w2.heap[b]? = w1.heap[b]?:=(r3.block b (by simp;omega) (fun q=>(nb b q).1 rfl)).trans (Below.heap_alloc w1 _ b hlb)
 have kr:w2.heap[r]? = w1.heap[r]?:=(r3.block r (by simp;omega) (fun q=>(nb r q).2 rfl)).trans (Below.heap_alloc w1 _ r hlr)
 have L2:=hl.at_ kb kr
 have e1:numC (natI acc) ++ [.int .i64 (a:Int)]=numC (natI (acc ++ [a])):=by simp [numC,natI]
 have R3:w2.ownsRow w.heap.size 3 1 v' (acc ++ [a]).length (numC (natI (acc ++ [a]))):=by rw [<- e1,List.length_append];exact r2
 have hna:a ∉ acc:=fun q=>((h.mem a).1 q).2 ((hmem _).2 (.inl rfl))
 refine ⟨v',w2,r1,⟨Below.grown (B1.trans (hal.mono B1.size)) r3 (by have:=B1.size;simp;omega) (fun j hj=>(R2.lt j hj).1),L2,R3,?_,fun x=>?_,h.it,?_,?_⟩⟩
 ·rw [List.nodup_append]
  refine ⟨h.once,by simp,fun x hx y hy=>?_⟩
  rw [List.mem_singleton] at hy
  subst hy
  exact fun e=>hna (e ▸ hx)
 ·rw [List.mem_append,List.mem_singleton,h.mem x,hmem]
  constructor
  ·rintro (⟨q1,q2⟩|rfl)
   ·exact ⟨q1,fun q=>q2 (.inr q)⟩
   ·exact ⟨hk,hout⟩
  ·rintro ⟨q1,q2⟩
   by_cases hxa:x=a
   ·exact .inr hxa
   ·refine .inl ⟨q1,?_⟩
    rintro (q|q)
    ·simp only [Value.int.injEq,true_and] at q
     exact hxa (by omega)
    ·exact q2 q
 ·intro q
  obtain ⟨cs,fz,hc⟩:=row_block R3 q
  exact (left_cells L2 hc).2 rfl
 ·intro q
  obtain ⟨cs,fz,hc⟩:=row_block R3 q
  exact (left_cells L2 hc).1 rfl
theorem Rise.done (h:Rise w wx b r c f slot lv acc []) (hf:∀ x k,f x=some k->x<n):(natI acc).mergeSort (fun x y=>decide (x<=y))=natI (risS n f slot):=by
 have e:risS n f slot=(List.range n).filter (fun x=>decide (x ∈ acc)):=by
  have hm:∀ x,x ∈ acc ↔ x ∈ risS n f slot:=fun x=>by
   rw [ris_mem hf,h.mem x]
   simp
  unfold risS at hm ⊢
  by_cases hs:slot<0
  ·rw [if_pos hs]
   symm
   rw [List.filter_eq_nil_iff]
   intro x _ q
   have:=(hm x).1 (by simpa using q)
   rw [if_pos hs] at this
   cases this
  ·rw [if_neg hs] at hm ⊢
   unfold forS
   refine List.filter_congr (fun x hx=>?_)
   have:=hm x
   rw [forS_mem] at this
   rw [List.mem_range] at hx
   by_cases q:x ∈ acc
   ·simp [q,(this.1 q).2]
   ·have:¬ f x=some slot.toNat:=fun e=>q (this.2 ⟨hx,e⟩)
    simp [q,this]
 rw [e]
 refine sorted_ris ?_ ?_
 ·show List.Pairwise (· ≠ ·) _
  unfold natI
  rw [List.pairwise_map]
  exact h.once.imp (fun h q=>h (by omega))
 ·intro z
  unfold natI
  rw [List.mem_map]
  constructor
  ·rintro ⟨x,hx,rfl⟩
   refine ⟨x,rfl,?_,by simpa using hx⟩
   have:=(h.mem x).1 hx
   rw [natF_at] at this
   obtain ⟨k,h1,-⟩:=Option.map_eq_some_iff.1 this.1
   exact hf x k h1
  ·rintro ⟨x,rfl,-,hx⟩
   exact ⟨x,by simpa using hx,rfl⟩
end
theorem rising_any {w:World} {b c n:Nat} {f:Nat->Option Nat} (slot:Int) (hm:MapIs Tryz.prog 3 w b c (natF f)) (hf:∀ x k,f x=some k->x<n) (hn:n<=1099511627776) :
  Calls Tryz.prog 100 #[.map (some b),.int .i64 slot] w fun e w'=>∃ v,e = .returned v/\w'.ownsRow w.heap.size 3 1 v (risS n f slot).length (numC (natI (risS n f slot)))/\Below w.heap.size w w':=by
 obtain ⟨clock,L0,hrange,hleft,-,hkeys⟩:=hm.range (t:=135) (e:=3) Tryz.underlying135
 have HB0:Hid (Below w.heap.size w (w.alloc (.mapIter (some b) clock #[] clock))):=Lib.hid ((Below.refl _ _).alloc (Nat.le_refl _) _)
 have H0:Hid (Rise w (w.alloc (.mapIter (some b) clock #[] clock)) b w.heap.size c f slot (.slice none 0 0) [] L0):=Lib.hid ⟨HB0.out,hleft,World.ownsRow_nil _ _ _ _,List.nodup_nil,fun x=>⟨fun q=>absurd q (by simp),fun ⟨q1,q2⟩=>absurd ((hkeys _).2 (by rw [q1];rfl)) q2⟩,Nat.le_refl _,by simp [Value.ownBlock],by simp [Value.ownBlock]⟩
 have HF:=Lib.hid hf
 clear hleft hkeys hm hf HB0
 go_enter Tryz.func100,Tryz.ntmps100
 go_wp2_with fail
 clear hrange
 generalize w.alloc (.mapIter (some b) clock #[] clock)=W1 at *
 obtain ⟨r,hr⟩:∃ r,r=w.heap.size:=⟨_,rfl⟩
 rw [<- hr] at H0 ⊢
 have HR:=Lib.hid hr
 clear hr
 go_loopg [5] L0.length (fun gk lv wx=>∃ acc L,Rise w wx b r c f slot lv acc L/\L.length<=gk)
 case atStart=>exact ⟨[],L0,H0.out,Nat.le_refl _⟩
 case round =>
  clear H0
  obtain ⟨acc,L,hri,hle⟩:=hrel
  have RI:=Lib.hid hri
  have LE:=Lib.hid hle
  rename World=>wx
  rcases hri.left.next 0 with ⟨hnil,hnext⟩|⟨key,v,w1,L1,hkey,hmem,hout,hlt,hnext,hl1,hg1,hs1,hentry⟩
  ·have HNIL:=Lib.hid hnil
   have hrow:=hri.row
   obtain ⟨lg,lc,hu⟩:∃ lg lc,u5 = .slice lg acc.length lc:=own_any_shape hri.row
   have hlen:=hri.few HF.out
   subst hnil
   have hdn:=hri.done HF.out
   have HS:=Lib.hid (sort_any (L:=natI acc) (by rw [natI_len];exact hrow) (by rw [natI_len];omega))
   rw [hdn] at HS
   have hl9:(natI acc).length=(risS n f slot).length:=by rw [<- List.length_mergeSort (natI acc) (le:=fun x y=>decide (x<=y)),hdn,natI_len]
   rw [hl9] at HS
   have HB:=Lib.hid hri.bel
   have HO:Hid (∀ k,u5.ownBlock=some k->w.heap.size<=k):=Lib.hid (fun k hk=>by
    rcases hrow.2 with ⟨rfl,_⟩|⟨g,cap,cur,rfl,q,_⟩
    ·cases hk
    ·cases hk;exact q)
   clear hri hle hrow hlen hn hdn hl9 RI LE HNIL
   subst hu
   generalize acc.length=m at *
   go_wp2_with fail
   refine HS.out.mono ?_
   rintro e w9 ⟨rfl,hown,hgr⟩
   have OW:=Lib.hid hown
   have GR:=Lib.hid hgr
   clear hnext hown hgr HS
   go_wp2_with fail
   refine bodyPost_ret (v:=.slice lg m lc) (by simp [results,Tryz.results100,go_sem]) rfl ?_
   exact ⟨_,rfl,OW.out,Below.grown HB.out GR.out HB.out.size (fun j hj=>HO.out j hj)⟩
  ·obtain ⟨a,k,rfl,rfl,hfa⟩:=natF_some hkey
   by_cases hks:(k:Int)=slot
   ·obtain ⟨v2,w2,hap,hr2⟩:=hri.push (by rw [<- hks];exact hkey) hmem hout hl1 hg1 hs1 (by have:=hri.few HF.out;omega)
    have HAP:=Lib.hid hap
    have HR2:=Lib.hid hr2
    have HLE:=Lib.hid (show L1.length<gk by omega)
    have q1:((k:Int) == slot)=true:=by simp [hks]
    have q2:decide ((k:Int)=slot)=true:=decide_eq_true hks
    clear hri hle hkey hfa hmem hout hl1 hg1 hlt hs1 hks hap hr2 RI LE
    go_wp2_with (at_builtin;refine Lib.wpList_append_run _ rfl _ _ _ _ rfl _ _ rfl rfl _ _ HAP.out ?_)
    go_roundg L1.length
    case measure=>exact HLE.out
    case rel=>exact ⟨_,L1,HR2.out,Nat.le_refl _⟩
   ·have hr2:=hri.skip hkey hks hmem hl1 hg1 hs1
    have HR2:=Lib.hid hr2
    have HLE:=Lib.hid (show L1.length<gk by omega)
    have q1:((k:Int) == slot)=false:=by simp [hks]
    have q2:decide ((k:Int)=slot)=false:=decide_eq_false hks
    clear hri hle hkey hfa hmem hout hl1 hg1 hlt hs1 hks hr2 RI LE
    go_wp2_with fail
    go_roundg L1.length
    case measure=>exact HLE.out
    case rel=>exact ⟨_,L1,HR2.out,Nat.le_refl _⟩
end Go.Proofs.YtfehpdliobapfaaGreatDoor.S
namespace Go.Proofs.YtfehpdliobapfaaGreatDoor.S
open Go Go.RowKit
section
variable {l:List Nd} {w:World} {B:Nat} {S:ScV} {s:Sc} {c:Nat}
def RisPost (w:World) (L:List Nat) (e:Ending) (w':World):Prop:=∃ v,e = .returned v/\w'.ownsRow w.heap.size 3 1 v L.length (numC (natI L))/\Below w.heap.size w w'
theorem uses_any (h:ScX l w B S s c) (slot:Int) (hu:∀ x k,s.us x=some k->x<l.length) (hl:l.length<=1099511627776) :
  Calls Tryz.prog 54 #[.pointer (some ⟨S.sb,0,none⟩),.int .i64 slot] w (RisPost w (risS l.length s.us slot)):=by
 have HC:=Lib.hid (rising_any slot h.uses hu hl)
 obtain ⟨c0,c1,c2,cl,-⟩:=h.cells
 clear h hu hl
 go_enter Tryz.func54,Tryz.ntmps54
 go_wp2_with fail
 refine HC.out.mono ?_
 rintro e w1 ⟨v,rfl,hown,hb⟩
 have OW:=Lib.hid hown
 have HB:=Lib.hid hb
 clear hown hb HC c0 c1 c2 cl
 go_wp2_with fail
 refine bodyPost_ret (v:=v) (by simp [results,Tryz.results54,go_sem]) rfl ?_
 exact ⟨_,rfl,OW.out,HB.out⟩
theorem sets_any (h:ScX l w B S s c) (slot:Int) (hu:∀ x k,s.ss x=some k->x<l.length) (hl:l.length<=1099511627776) :
  Calls Tryz.prog 55 #[.pointer (some ⟨S.sb,0,none⟩),.int .i64 slot] w (RisPost w (risS l.length s.ss slot)):=by
 have HC:=Lib.hid (rising_any slot h.sets hu hl)
 obtain ⟨c0,c1,c2,cl,-⟩:=h.cells
 clear h hu hl
 go_enter Tryz.func55,Tryz.ntmps55
 go_wp2_with fail
 refine HC.out.mono ?_
 rintro e w1 ⟨v,rfl,hown,hb⟩
 have OW:=Lib.hid hown
 have HB:=Lib.hid hb
 clear hown hb HC c0 c1 c2 cl
 go_wp2_with fail
 refine bodyPost_ret (v:=v) (by simp [results,Tryz.results55,go_sem]) rfl ?_
 exact ⟨_,rfl,OW.out,HB.out⟩
theorem rowl_push {w1:World} {v:Value} {L:List Nat} {a:Nat} (h:w1.ownsRow B 88 7 v L.length (flatLc l L)) (hB:B<=w1.heap.size) (hL:L.length<=64) :
  ∃ v' w2,(Builtin.append_ #[84,84] 84 #[v,.slice (some ⟨w1.heap.size,0,none⟩) 1 1]).run Tryz.prog (w1.alloc (.cells (locC l a).toArray 88)) = .ok v' w2/\w2.ownsRow B 88 7 v' (L ++ [a]).length (flatLc l (L ++ [a]))/\Below B w1 w2:=by
 obtain ⟨i,hi,hz,hs',hb⟩:=info_parts infoLoc
 have hal:Below w1.heap.size w1 (w1.alloc (.cells (locC l a).toArray 88)):=(Below.refl _ _).alloc (Nat.le_refl _) _
 have R2:=ownsRow_step h hal
 have X:=Bx.new 88 w1 (locC l a).toArray
 have e1:flatLc l (L ++ [a])=flatLc l L ++ locC l a:=by simp [flatLc]
 obtain ⟨v',w2,r1,r2,r3,r4⟩:=run_append_own (P:=Tryz.prog) (w1.alloc (.cells (locC l a).toArray 88)) B 84 84 88 i _ 7 80 Tryz.underlying84 hi hz hs' hb rfl (by decide) v L.length (flatLc l L) R2 ⟨w1.heap.size,0,none⟩ 1 1 (locC l a) (by rw [locC_len]) (fun j u hj=>by rw [add_at,Nat.zero_add];exact (X.cell j).trans hj) (by
  intro u hu
  unfold locC at hu
  split at hu<;>simp only [List.mem_cons,List.not_mem_nil,or_false] at hu<;>rcases hu with rfl|rfl|rfl|rfl|rfl|rfl|rfl<;>rfl) (by unfold maxLen;omega) (by omega) (by have:=hal.size;omega)
 refine ⟨v',w2,r1,?_,Below.grown (hal.mono hB) r3 (by have:=hal.size;omega) (fun j hj=>(R2.lt j hj).1)⟩
 rw [e1,List.length_append];exact r2
theorem locals_any (h:ScX l w B S s c) (hin:∀ a ∈ s.lc,a<l.length) (hf:∀ x ∈ l,NdFit x) :
  Calls Tryz.prog 48 #[.pointer (some ⟨S.sb,0,none⟩)] w fun e w'=>∃ v,e = .returned v/\w'.ownsRow w.heap.size 88 7 v s.lc.length (flatLc l s.lc)/\Below w.heap.size w w':=by
 have HL:=Lib.hid (LocV.of_row h.row)
 obtain ⟨c0,c1,c2,cl,-⟩:=h.cells
 obtain ⟨src,cap,hlv,-⟩:=HL.out
 have HFW:=Lib.hid h.few
 have HIN:=Lib.hid hin
 have HFF:=Lib.hid hf
 clear h hin hf
 rw [hlv] at c0
 have HLV:=Lib.hid hlv
 clear hlv
 obtain ⟨n,hn⟩:∃ n,n=s.lc.length:=⟨_,rfl⟩
 rw [<- hn] at c0
 have HN:=Lib.hid hn
 clear hn
 go_enter Tryz.func48,Tryz.ntmps48
 go_wp2_with fail
 clear c0 c1 c2 cl
 go_loopg [3,11] n (fun gk lv iv wr=>∃ j:Nat,iv = .int .i64 (j:Int)/\j+gk=n/\wr.ownsRow w.heap.size 88 7 lv (s.lc.take j).length (flatLc l (s.lc.take j))/\Below w.heap.size w wr)
 case atStart=>exact ⟨0,rfl,by omega,World.ownsRow_nil _ _ _ _,Below.refl _ _⟩
 case round =>
  obtain ⟨j,rfl,hjk,hrow,hbel⟩:=hrel
  rename World=>wr
  have RO:=Lib.hid hrow
  have BL:=Lib.hid hbel
  cases gk with
  | zero =>
   have d1:decide ((j:Int)<(n:Int))=false:=decide_eq_false (by omega)
   have d2:¬ (j:Int)<(n:Int):=by omega
   have d3:decide (j<n)=false:=decide_eq_false (by omega)
   have d4:¬ j<n:=by omega
   have e:s.lc.take j=s.lc:=List.take_of_length_le (by have:=HN.out;omega)
   rw [e] at RO hrow
   obtain ⟨lg,lc,rfl⟩:=own_any_shape hrow
   clear hrow hbel e
   go_wp2_with fail
   refine bodyPost_ret (v:=.slice lg s.lc.length lc) (by simp [results,Tryz.results48,go_sem]) rfl ?_
   exact ⟨_,rfl,RO.out,BL.out⟩
  | succ gk =>
   have hjl:j<s.lc.length:=by have:=HN.out;omega
   obtain ⟨src',cap',hv',hx⟩:=HL.out.step hbel
   have e:=HLV.out.symm.trans hv'
   simp only [Value.slice.injEq] at e
   obtain ⟨e,-,-⟩:=e
   subst e
   obtain ⟨g,off,rfl,hg,hc⟩:=hx j hjl
   have hal:s.lc[j]<l.length:=HIN.out _ (List.getElem_mem hjl)
   have HTK:Hid (s.lc.take (j+1)=s.lc.take j ++ [s.lc[j]]):=Lib.hid (List.take_succ_eq_append_getElem hjl)
   generalize s.lc[j]=a at *
   have HLC:=Lib.hid (locC_get hal)
   have k0:=hc 0 (by omega)
   have k1:=hc 1 (by omega)
   have k2:=hc 2 (by omega)
   have k3:=hc 3 (by omega)
   have k4:=hc 4 (by omega)
   have k5:=hc 5 (by omega)
   have k6:=hc 6 (by omega)
   rw [HLC.out] at k0 k1 k2 k3 k4 k5 k6
   simp only [List.getElem?_cons_zero,List.getElem?_cons_succ,Nat.add_zero] at k0 k1 k2 k3 k4 k5 k6
   have HCP:=Lib.hid (fun (W':World)=>lcopy_any l[a].text l[a].B l[a].N l[a].D l[a].M (a:Nat) (decide (l[a].kind=7)) W' (HFF.out _ (List.getElem_mem hal)).text (HFF.out _ (List.getElem_mem hal)).N (HFF.out _ (List.getElem_mem hal)).M)
   obtain ⟨p,hp⟩:∃ p,decide (l[a].kind=7)=p:=⟨_,rfl⟩
   rw [hp] at HCP HLC k6
   generalize l[a]=x at *
   have HLE:Hid ((s.lc.take j).length<=64):=Lib.hid (by rw [List.length_take];have:=HFW.out;omega)
   have d1:decide ((j:Int)<(n:Int))=true:=decide_eq_true (by omega)
   have d2:(j:Int)<(n:Int):=by omega
   have d3:decide (j<n)=true:=decide_eq_true (by omega)
   have d4:j<n:=by omega
   clear hx hv' hc hjl hal hrow hbel hp
   have hj64:j+1<=64:=by have:=HFW.out;have:=HN.out;omega
   have hj65:(j:Int)+1<=64:=by omega
   go_wp2_with fail
   clear k0 k1 k2 k3 k4 k5 k6 hg d1 d2 d3 d4
   refine (HCP.out _).mono ?_
   rintro e W6 ⟨rfl,h56⟩
   have h06:Below wr.heap.size wr W6:=after ((Below.refl _ _).alloc (Nat.le_refl _) _) h56
   have hr6:=ownsRow_step RO.out h06
   obtain ⟨v',w7,hap,hrow,hb7⟩:=rowl_push (a:=a) hr6 (Nat.le_trans BL.out.size h06.size) HLE.out
   have hb7':=hb7.trans (Below.refl _ _)
   rw [HLC.out] at hap
   rw [<- HTK.out] at hrow
   have HAP:=Lib.hid hap
   have RN:=Lib.hid hrow
   have BN:=Lib.hid ((BL.out.trans (h06.mono BL.out.size)).trans hb7)
   clear h56 h06 hr6 hap hrow hb7 hb7'
   go_wp2_with (at_builtin;refine Lib.wpList_append_run _ rfl _ _ _ _ rfl _ _ rfl rfl _ _ HAP.out ?_)
   go_roundg gk
   case measure=>omega
   case rel=>exact ⟨j+1,by go_num,by omega,RN.out,BN.out⟩
end
end Go.Proofs.YtfehpdliobapfaaGreatDoor.S
namespace Go.Proofs.YtfehpdliobapfaaGreatDoor.S
open Go Go.RowKit
def allS (l:List Nd) (n:Nat):List Nat:=(List.range n).filter fun i=>decide (kndS l i=6) || decide (kndS l i=5)
def methS (l:List Nd) (k:Int):Int:=if allS l l.length=[]\/k<0 then -1 else (((allS l l.length).getD (k.toNat % (allS l l.length).length) 0:Nat):Int)
theorem all_succ (l:List Nd) (j:Nat):allS l (j+1)=if kndS l j=6\/kndS l j=5 then allS l j ++ [j] else allS l j:=by
 unfold allS
 rw [List.range_succ,List.filter_append]
 by_cases h:kndS l j=6\/kndS l j=5
 ·rw [if_pos h]
  congr 1
  rcases h with h|h<;>simp [h]
 ·rw [if_neg h]
  have:(decide (kndS l j=6) || decide (kndS l j=5))=false:=by
   simp only [not_or] at h
   simp [h.1,h.2]
  rw [List.filter_cons_of_neg (by rw [this];simp)]
  simp
theorem all_len (l:List Nd) (n:Nat):(allS l n).length<=n:=by
 unfold allS
 have:=List.length_filter_le (fun i=>decide (kndS l i=6) || decide (kndS l i=5)) (List.range n)
 rw [List.length_range] at this
 exact this
theorem rowi_push {w1:World} {B:Nat} {v:Value} {L:List Nat} {a:Nat} (h:w1.ownsRow B 3 1 v L.length (numC (natI L))) (hB:B<=w1.heap.size) (hL:L.length<=16384) :
  ∃ v' w2,(Builtin.append_ #[57,57] 57 #[v,.slice (some ⟨w1.heap.size,0,none⟩) 1 1]).run Tryz.prog (w1.alloc (.cells #[.int .i64 (a:Int)] 3)) = .ok v' w2/\w2.ownsRow B 3 1 v' (L ++ [a]).length (numC (natI (L ++ [a])))/\Below B w1 w2:=by
 obtain ⟨i,hi,hz,hs',hb⟩:=info_parts infoI'
 have hal:Below w1.heap.size w1 (w1.alloc (.cells #[.int .i64 (a:Int)] 3)):=(Below.refl _ _).alloc (Nat.le_refl _) _
 have R2:=ownsRow_step h hal
 have X:=Bx.new 3 w1 #[.int .i64 (a:Int)]
 have e1:numC (natI (L ++ [a]))=numC (natI L) ++ [.int .i64 (a:Int)]:=by simp [numC,natI]
 obtain ⟨v',w2,r1,r2,r3,r4⟩:=run_append_own (P:=Tryz.prog) (w1.alloc (.cells #[.int .i64 (a:Int)] 3)) B 57 57 3 i _ 1 8 Tryz.underlying57 hi hz hs' hb rfl (by decide) v L.length (numC (natI L)) R2 ⟨w1.heap.size,0,none⟩ 1 1 [.int .i64 (a:Int)] rfl (fun j u hj=>by rw [add_at,Nat.zero_add];exact (X.cell j).trans hj) (by intro u hu;rw [List.mem_singleton] at hu;rw [hu];rfl) (by unfold maxLen;omega) (by omega) (by have:=hal.size;omega)
 refine ⟨v',w2,r1,?_,Below.grown (hal.mono hB) r3 (by have:=hal.size;omega) (fun j hj=>(R2.lt j hj).1)⟩
 rw [e1,List.length_append];exact r2
theorem method_any (l:List Nd) (nv:Value) (root k:Int) (w:World) (hn:NdsV w nv l) (hl:l.length<=16384) (hk:In64 k) :
  Calls Tryz.prog 44 #[.agg #[nv,.int .i64 root],.int .i64 k] w fun e w'=>e = .returned (.int .i64 (methS l k))/\Below w.heap.size w w':=by
 obtain ⟨src,cap,rfl,hin⟩:=hn
 have HIN:=Lib.hid hin
 obtain ⟨n,hnn⟩:∃ n,n=l.length:=⟨_,rfl⟩
 have HNN:=Lib.hid hnn
 rw [<- hnn] at hl ⊢
 clear hin hnn
 go_enter Tryz.func44,Tryz.ntmps44
 go_wp2_with fail
 have HB0:Hid (Below w.heap.size w (w.alloc (.cells #[.slice src n cap,.int .i64 root] 25))):=Lib.hid ((Below.refl _ _).alloc (Nat.le_refl _) _)
 generalize w.alloc (.cells #[.slice src n cap,.int .i64 root] 25)=W1 at *
 go_loopg [5,11] n (fun gk lv iv wr=>∃ j:Nat,iv = .int .i64 (j:Int)/\j+gk=n/\wr.ownsRow w.heap.size 3 1 lv (allS l j).length (numC (natI (allS l j)))/\Below w.heap.size w wr)
 case atStart=>exact ⟨0,rfl,by omega,World.ownsRow_nil _ _ _ _,HB0.out⟩
 case round =>
  clear HB0
  obtain ⟨j,rfl,hjk,hrow,hbel⟩:=hrel
  rename World=>wr
  have RO:=Lib.hid hrow
  have BL:=Lib.hid hbel
  cases gk with
  | zero =>
   have d1:decide ((j:Int)<(n:Int))=false:=decide_eq_false (by omega)
   have d2:¬ (j:Int)<(n:Int):=by omega
   have d3:decide (j<n)=false:=decide_eq_false (by omega)
   have d4:¬ j<n:=by omega
   obtain ⟨lg,lc,rfl⟩:=own_any_shape hrow
   have e:j=l.length:=by have:=HNN.out;omega
   have RO:Hid (wr.ownsRow w.heap.size 3 1 (.slice lg (allS l l.length).length lc) (allS l l.length).length (numC (natI (allS l l.length)))):=Lib.hid (by have:=RO.out;rw [e] at this;exact this)
   have hA:allS l j=allS l l.length:=by rw [e]
   rw [hA]
   have RL:(allS l l.length).length<=n:=by have:=all_len l l.length;have:=HNN.out;omega
   have HMS:methS l k=if allS l l.length=[]\/k<0 then -1 else (((allS l l.length).getD (k.toNat % (allS l l.length).length) 0:Nat):Int):=rfl
   have HAA:(allS l l.length).length=0 ↔ allS l l.length=[]:=List.length_eq_zero_iff
   generalize allS l l.length=A at *
   obtain ⟨m,hm⟩:∃ m,m=A.length:=⟨_,rfl⟩
   rw [<- hm] at RL HAA HMS ⊢
   have RO:Hid (wr.ownsRow w.heap.size 3 1 (.slice lg m lc) A.length (numC (natI A))):=Lib.hid (by rw [hm];exact RO.out)
   have HM:=Lib.hid hm
   clear hrow hm e hbel hA
   by_cases h0:m=0
   ·have HR:Hid (methS l k = -1):=Lib.hid (by rw [HMS,if_pos (.inl (HAA.1 h0))])
    have q0:((m:Int) == 0)=true:=by simp [h0]
    have q1:(m:Int)=0:=by omega
    clear HMS HAA
    go_wp2_with fail
    go_ret
    exact ⟨by rw [HR.out];rfl,BL.out⟩
   ·have q0:((m:Int) == 0)=false:=by simp [h0]
    have q1:¬ (m:Int)=0:=by omega
    by_cases hneg:k<0
    ·have HR:Hid (methS l k = -1):=Lib.hid (by rw [HMS,if_pos (.inr hneg)])
     have q2:decide (k<0)=true:=decide_eq_true hneg
     clear HMS HAA
     go_wp2_with fail
     go_ret
     exact ⟨by rw [HR.out];rfl,BL.out⟩
    ·obtain ⟨kn,rfl⟩:∃ kn:Nat,k=kn:=⟨k.toNat,by omega⟩
     have e:((kn:Int)).toNat=kn:=by omega
     rw [e,if_neg (by rintro (q|q);exact h0 (HAA.2 q);exact hneg q)] at HMS
     have HR:=Lib.hid HMS
     have q2:decide ((kn:Int)<0)=false:=decide_eq_false hneg
     have hlt:kn % m<m:=Nat.mod_lt _ (by omega)
     have hr:(kn:Int).tmod (m:Int)=((kn % m:Nat):Int):=by rw [Int.tmod_eq_emod_of_nonneg (by omega)];exact (Int.natCast_emod kn m).symm
     obtain ⟨r,hr2⟩:∃ r,r=kn % m:=⟨_,rfl⟩
     rw [<- hr2] at hlt hr HR
     clear hr2 HMS HAA
     have hrow:=RO.out
     rw [<- HM.out] at hrow
     rcases hrow.2 with ⟨hv,hz⟩|⟨g,cap',cur,hv,-⟩
     ·exact absurd hz h0
     simp only [Value.slice.injEq] at hv
     obtain ⟨rfl,-,-⟩:=hv
     have hrA:r<A.length:=by have:=HM.out;omega
     have hc:=hrow.cells (g:=g) rfl r (.int .i64 (A[r]:Nat)) (by simp [numC,natI,List.getElem?_eq_getElem hrA])
     rw [add_at,Nat.zero_add] at hc
     have HR2:Hid (methS l (kn:Int)=((A[r]:Nat):Int)):=Lib.hid (by rw [HR.out];simp [List.getD,List.getElem?_eq_getElem hrA])
     generalize A[r]=ar at *
     have i0:(0:Int)<=(r:Int):=by omega
     have i1:(r:Int)<(m:Int):=by omega
     clear hrow hrA HR
     go_wp2_with fail
     go_ret
     exact ⟨by rw [HR2.out];rfl,BL.out⟩
  | succ gk =>
   have hjl:j<l.length:=by have:=HNN.out;omega
   obtain ⟨g,off,rfl,hg,hat⟩:=HIN.out (by omega)
   obtain ⟨kv,ev,hx⟩:=hat j hjl
   have hx:=hx.step hg hbel
   have hg:=Nat.lt_of_lt_of_le hg hbel.size
   obtain ⟨ks,kc,rfl,hks⟩:=hx.kids
   obtain ⟨es,ec,rfl,hes⟩:=hx.ends
   obtain ⟨-,-,d0,d1,d2,d3,d4,d5,d6,d7,d8,d9,d10,d11,d12⟩:=hx
   have HAS:=Lib.hid (all_succ l j)
   rw [kndS_get hjl] at HAS
   have HLE:Hid ((allS l j).length<=16384):=Lib.hid (by have:=all_len l j;omega)
   have e1:decide ((j:Int)<(n:Int))=true:=decide_eq_true (by omega)
   have e2:(j:Int)<(n:Int):=by omega
   have e3:decide (j<n)=true:=decide_eq_true (by omega)
   have e4:j<n:=by omega
   have e5:j+1<=16384:=by omega
   have e6:(j:Int)+1<=16384:=by omega
   generalize l[j]=x at *
   clear hat hks hes hjl
   by_cases h6:x.kind=6\/x.kind=5
   ·obtain ⟨v',w7,hap,hrow7,hb7⟩:=rowi_push (a:=j) (ownsRow_step RO.out (hb:=((Below.refl _ _).alloc (Nat.le_refl _) (.cells #[.int .i64 x.kind,.int .i64 x.sf,.int .i64 x.st,.slice ks x.kids.length kc,.string x.text,.int .i64 x.B,.string x.N,.int .i64 x.D,.string x.M,.int .i64 x.num,.int .i64 x.wf,.int .i64 x.wt,.slice es x.ends.length ec] 61)))) (Nat.le_trans BL.out.size (by simp)) HLE.out
    have HAP:=Lib.hid hap
    rw [if_pos h6] at HAS
    rw [<- HAS.out] at hrow7
    have RN:=Lib.hid hrow7
    have BN:=Lib.hid ((BL.out.alloc (by have:=BL.out.size;omega) (.cells #[.int .i64 x.kind,.int .i64 x.sf,.int .i64 x.st,.slice ks x.kids.length kc,.string x.text,.int .i64 x.B,.string x.N,.int .i64 x.D,.string x.M,.int .i64 x.num,.int .i64 x.wf,.int .i64 x.wt,.slice es x.ends.length ec] 61)).trans hb7)
    clear hap hrow7 hb7 hrow hbel
    rw [show (wr.alloc (.cells #[.int .i64 x.kind,.int .i64 x.sf,.int .i64 x.st,.slice ks x.kids.length kc,.string x.text,.int .i64 x.B,.string x.N,.int .i64 x.D,.string x.M,.int .i64 x.num,.int .i64 x.wf,.int .i64 x.wt,.slice es x.ends.length ec] 61)).heap.size=wr.heap.size+1 by simp] at HAP
    rcases h6 with h6|h6
    ·have q6:(x.kind == 6)=true:=by simp [h6]
     clear h6
     go_wp2_with (at_builtin;refine Lib.wpList_append_run _ rfl _ _ _ _ rfl _ _ rfl rfl _ _ HAP.out ?_)
     go_roundg gk
     case measure=>omega
     case rel=>exact ⟨j+1,by go_num,by omega,RN.out,BN.out⟩
    ·have q6:(x.kind == 6)=false:=by simp [h6]
     have q5:(x.kind == 5)=true:=by simp [h6]
     clear h6
     go_wp2_with (at_builtin;refine Lib.wpList_append_run _ rfl _ _ _ _ rfl _ _ rfl rfl _ _ HAP.out ?_)
     go_roundg gk
     case measure=>omega
     case rel=>exact ⟨j+1,by go_num,by omega,RN.out,BN.out⟩
   ·rw [if_neg h6] at HAS
    simp only [not_or] at h6
    have q6:(x.kind == 6)=false:=by simp [h6.1]
    have q5:(x.kind == 5)=false:=by simp [h6.2]
    have RN:=RO
    rw [<- HAS.out] at RN
    have BN:=Lib.hid (BL.out.alloc (by have:=BL.out.size;omega) (.cells #[.int .i64 x.kind,.int .i64 x.sf,.int .i64 x.st,.slice ks x.kids.length kc,.string x.text,.int .i64 x.B,.string x.N,.int .i64 x.D,.string x.M,.int .i64 x.num,.int .i64 x.wf,.int .i64 x.wt,.slice es x.ends.length ec] 61))
    clear h6 hrow hbel
    go_wp2_with fail
    go_roundg gk
    case measure=>omega
    case rel=>exact ⟨j+1,by go_num,by omega,ownsRow_step RN.out ((Below.refl _ _).alloc (Nat.le_refl _) (.cells #[.int .i64 x.kind,.int .i64 x.sf,.int .i64 x.st,.slice ks x.kids.length kc,.string x.text,.int .i64 x.B,.string x.N,.int .i64 x.D,.string x.M,.int .i64 x.num,.int .i64 x.wf,.int .i64 x.wt,.slice es x.ends.length ec] 61)),BN.out⟩
def okM (l:List Nd) (s:Sc):Bool :=
 decide (s.lc.length=2) && decide (kndS l (s.lc.getD 0 0)=7) && decide (txtS l (s.lc.getD 1 0)=⟨#[98]⟩) && decide (findS l s.lc ⟨#[98]⟩=some 1) && decide (findS l s.lc ⟨#[99]⟩=none) &&
 decide ((risS l.length s.us 0).length=2) && decide ((risS l.length s.us 1).length=2) && decide ((risS l.length s.ss 1).length=2) && decide ((risS l.length s.ss 0).length=0) &&
 decide (slotS s (s.lc.getD 1 0)=some 1) && decide (slotS s (methS l 0).toNat=none) && decide (0<=methS l 0)
def means_ok (p:List Nd × Nat × Int):Bool:=decide (p.2=(0,0)) && p.1.all fitB && (match ofS p.1 ((p.1.length:Int)-1) (methS p.1 0) with | .ok s=>okM p.1 s | .error _=>false)
theorem means_read:means_ok (parsedF (⟨#[99,108,97,115,115,32,65,32,123,32,105,110,116,32,102,40,105,110,116,32,97,41,32,123,32,105,110,116,32,98,32,61,32,97,59,32,123,32,98,32,61,32,97,59,32,125,32,114,101,116,117,114,110,32,98,59,32,125,32,125]⟩:ByteArray))=true:=by decide +kernel
structure MeansF (l:List Nd) (s:Sc) (a0 a1:Nat):Prop where
 lc:s.lc=[a0,a1]
 k0:kndS l a0=7
 t1:txtS l a1=⟨#[98]⟩
 f1:findS l s.lc ⟨#[98]⟩=some 1
 f2:findS l s.lc ⟨#[99]⟩=none
 u0:(risS l.length s.us 0).length=2
 u1:(risS l.length s.us 1).length=2
 s1:(risS l.length s.ss 1).length=2
 s0:(risS l.length s.ss 0).length=0
 sl:slotS s a1=some 1
 sm:slotS s (methS l 0).toNat=none
 m0:0<=methS l 0
theorem means_facts {l:List Nd} {s:Sc} (h:okM l s=true):∃ a0 a1,MeansF l s a0 a1:=by
 unfold okM at h
 simp only [Bool.and_eq_true,decide_eq_true_eq] at h
 obtain ⟨⟨⟨⟨⟨⟨⟨⟨⟨⟨⟨h1,h2⟩,h3⟩,h4⟩,h5⟩,h6⟩,h7⟩,h8⟩,h9⟩,h10⟩,h11⟩,h12⟩:=h
 obtain ⟨a0,a1,e⟩:∃ a0 a1,s.lc=[a0,a1]:=by
  match hl:s.lc,h1 with
  | [a0,a1],_=>exact ⟨a0,a1,rfl⟩
 rw [e] at h2 h3 h10
 exact ⟨a0,a1,e,h2,h3,h4,h5,h6,h7,h8,h9,h10,h11,h12⟩
theorem means_all:∃ l:List Nd,(parsedX (⟨#[99,108,97,115,115,32,65,32,123,32,105,110,116,32,102,40,105,110,116,32,97,41,32,123,32,105,110,116,32,98,32,61,32,97,59,32,123,32,98,32,61,32,97,59,32,125,32,114,101,116,117,114,110,32,98,59,32,125,32,125]⟩:ByteArray)).1=l/\(parsedX (⟨#[99,108,97,115,115,32,65,32,123,32,105,110,116,32,102,40,105,110,116,32,97,41,32,123,32,105,110,116,32,98,32,61,32,97,59,32,123,32,98,32,61,32,97,59,32,125,32,114,101,116,117,114,110,32,98,59,32,125,32,125]⟩:ByteArray)).2=(0,0)/\(∀ x ∈ l,NdFit x)/\∃ s a0 a1,ofS l ((l.length:Int)-1) (methS l 0) = .ok s/\MeansF l s a0 a1:=by
 have h:=means_read
 rw [<- parsed_fast] at h
 generalize parsedX (⟨#[99,108,97,115,115,32,65,32,123,32,105,110,116,32,102,40,105,110,116,32,97,41,32,123,32,105,110,116,32,98,32,61,32,97,59,32,123,32,98,32,61,32,97,59,32,125,32,114,101,116,117,114,110,32,98,59,32,125,32,125]⟩:ByteArray)=R at h ⊢
 unfold means_ok at h
 simp only [Bool.and_eq_true,decide_eq_true_eq] at h
 obtain ⟨⟨h1,h2⟩,h3⟩:=h
 cases ho:ofS R.1 ((R.1.length:Int)-1) (methS R.1 0) with
 | error e=>rw [ho] at h3;cases h3
 | ok s =>
  rw [ho] at h3
  obtain ⟨a0,a1,hf⟩:=means_facts h3
  exact ⟨R.1,rfl,h1,fit_of h2,s,a0,a1,ho,hf⟩
theorem meth_in (l:List Nd) (hl:l.length<=1099511627776) {k:Int}:In64 (methS l k):=by
 unfold methS
 by_cases h:allS l l.length=[]\/k<0
 ·rw [if_pos h];unfold In64;omega
 ·rw [if_neg h]
  have h0:(allS l l.length).length≠0:=fun e=>h (.inl (List.eq_nil_of_length_eq_zero e))
  have hlt:=Nat.mod_lt k.toNat (Nat.pos_of_ne_zero h0)
  have hm:(allS l l.length).getD (k.toNat % (allS l l.length).length) 0 ∈ allS l l.length:=by
   rw [List.getD_eq_getElem?_getD,List.getElem?_eq_getElem hlt]
   exact List.getElem_mem hlt
  have:(allS l l.length).getD (k.toNat % (allS l l.length).length) 0<l.length:=List.mem_range.1 (List.mem_filter.1 hm).1
  unfold In64;omega
theorem means_any (w:World) (hT:ShTab w):Calls Tryz.prog 43 #[] w fun e w'=>e = .returned (.bool true)/\Below w.heap.size w w':=by
 obtain ⟨l,hR,hp,hfit,s,a0,a1,hof,hm⟩:=means_all
 have HA:=Lib.hid (fun (w2:World)=>parse_yes (⟨#[99,108,97,115,115,32,65,32,123,32,105,110,116,32,102,40,105,110,116,32,97,41,32,123,32,105,110,116,32,98,32,61,32,97,59,32,123,32,98,32,61,32,97,59,32,125,32,114,101,116,117,114,110,32,98,59,32,125,32,125]⟩:ByteArray) w2 (by decide) hp)
 rw [hR] at HA
 have HT:=Lib.hid hT
 have HFT:=Lib.hid hfit
 have HOF:=Lib.hid hof
 have HM:=Lib.hid hm
 obtain ⟨P,K,-⟩:=scope_ok (show scopeS l ((l.length:Int)-1) (methS l 0) (inBlockS l (methS l 0).toNat) = .ok s from hof)
 have HUS:Hid (∀ x k,s.us x=some k->x<l.length):=Lib.hid (fun x k h=>K.lt P (K.inn.usV x k h).1)
 have HSS:Hid (∀ x k,s.ss x=some k->x<l.length):=Lib.hid (fun x k h=>K.lt P (K.inn.ssV x k h).1)
 have HIN:Hid (∀ a ∈ s.lc,a<l.length):=Lib.hid (fun a h=>K.lt P (K.inn.lcV a h).1)
 clear hT hR hp hfit hof hm P K
 go_enter Tryz.func43,Tryz.ntmps43
 go_wp2_with fail
 refine (HA.out _).mono ?_
 rintro e w1 ⟨hb1,s1,c1,rfl,hn1,hl1⟩
 have B1:=Lib.hid hb1
 have N1:=Lib.hid hn1
 have L1:=Lib.hid hl1
 clear hb1 hn1 hl1 HA
 have HME:=Lib.hid (fun (w2:World) (hb:Below w1.heap.size w1 w2)=>method_any l (.slice s1 l.length c1) ((l.length:Int)-1) 0 w2 (N1.out.nds.step hb) (by have:=L1.out;omega) (by unfold In64;omega))
 go_wp2_with fail
 refine (HME.out _ (by repeat (first|exact Below.refl _ _|apply Below.setCell _ (by first|omega|(simp<;>omega))|apply Below.alloc _ (by first|omega|(simp<;>omega))))).mono ?_
 rintro e w2 ⟨rfl,hb2⟩
 obtain ⟨hbA,hT2,hF2⟩:=new_two hb2
 have BA:=Lib.hid (after B1.out hbA)
 have T2:=Lib.hid hT2
 have HO:=Lib.hid (fun (w3:World) (hb:Below w2.heap.size w2 w3)=>of_any l (.slice s1 l.length c1) ((l.length:Int)-1) (methS l 0) w3 (HT.out.step (after BA.out hb)) ((N1.out.nds.step hbA).step hb) (by have:=L1.out;omega) HFT.out)
 rw [HOF.out] at HO
 clear hb2 hbA hT2 hF2 HME HOF
 obtain ⟨t0,t1,tl,tf⟩:=T2.out.two
 obtain ⟨m,hm⟩:∃ m,methS l 0=m:=⟨_,rfl⟩
 have HMM:=Lib.hid hm
 have HMI:Hid (In64 m):=Lib.hid (by rw [<- hm];exact meth_in l (by have:=L1.out;omega))
 rw [hm] at HO ⊢
 obtain ⟨n,hn⟩:∃ n,l.length=n:=⟨_,rfl⟩
 have HNN:=Lib.hid hn
 rw [hn] at HO t0 t1 ⊢
 clear hm hn T2
 go_wp2_with fail
 refine (HO.out _ (Below.refl _ _)).mono ?_
 rintro e w3 ⟨hb3,⟨k,z,hr,-⟩|⟨s',S,hr,rfl,hX⟩⟩
 ·cases hr
 obtain rfl:s=s':=by cases hr;rfl
 clear hr HO t0 t1 tl tf
 have B3:=Lib.hid (after BA.out hb3)
 have X3:=Lib.hid hX
 clear hb3 hX BA
 go_wp2_with fail
 have B4:=Lib.hid (B3.out.alloc (by have:=B3.out.size;omega) (.cells #[.int .i64 0,.int .i64 0] 28))
 have X4:=Lib.hid (X3.out.step ((Below.refl _ _).alloc (Nat.le_refl _) (.cells #[.int .i64 0,.int .i64 0] 28)))
 generalize w3.alloc (.cells #[.int .i64 0,.int .i64 0] 28)=w4 at *
 obtain ⟨t3,h3⟩:∃ t3,t3=w3.heap.size:=⟨_,rfl⟩
 rw [<- h3]
 clear h3 B3 X3
 refine (locals_any X4.out HIN.out HFT.out).mono ?_
 rintro e w5 ⟨v,rfl,hrow,hb5⟩
 have hlen:s.lc.length=2:=by rw [HM.out.lc];rfl
 rw [hlen] at hrow
 rcases hrow.2 with ⟨-,hz⟩|⟨g,cap,cur,rfl,-,hg,-⟩
 ·cases hz
 have gl:=lt_block hg
 have hv:=LocV.of_row (l:=l) (L:=s.lc) (by rw [hlen];exact hrow)
 obtain ⟨src,cap',hv1,hv2⟩:=hv
 simp only [Value.slice.injEq] at hv1
 obtain ⟨e1,-,-⟩:=hv1
 subst e1
 have cell:∀ j (hj:j<s.lc.length) o,o<7->w5.cell? ⟨g,j*7+o,none⟩=(locC l s.lc[j])[o]?:=fun j hj o ho=>by
  obtain ⟨g',off',q1,-,q3⟩:=hv2 j hj
  simp only [Option.some.injEq,Addr.mk.injEq,and_true] at q1
  obtain ⟨rfl,rfl⟩:=q1
  have:=q3 o ho
  rwa [Nat.zero_add] at this
 have e0:s.lc[0]'(by omega)=a0:=by simp [HM.out.lc]
 have e1:s.lc[1]'(by omega)=a1:=by simp [HM.out.lc]
 have d6:w5.cell? ⟨g,6,none⟩=some (.bool true):=by
  have:=cell 0 (by omega) 6 (by omega)
  rw [e0,locC_param,decide_eq_true HM.out.k0] at this
  exact this
 have d7:w5.cell? ⟨g,7,none⟩=some (.string ⟨#[98]⟩):=by
  have:=cell 1 (by omega) 0 (by omega)
  rw [e1,locC_name,HM.out.t1] at this
  exact this
 have d12:w5.cell? ⟨g,12,none⟩=some (.int .i64 (a1:Nat)):=by
  have:=cell 1 (by omega) 5 (by omega)
  rw [e1,locC_node] at this
  exact this
 have B5:=Lib.hid (after B4.out hb5)
 have X5:=Lib.hid (X4.out.step hb5)
 clear cell hv2 e0 e1 hg hrow hb5 X4 B4
 go_wp2_with fail
 refine (sclen_any X5.out).mono ?_
 rintro e w6 ⟨rfl,rfl⟩
 rw [hlen]
 clear hlen
 go_wp2_with fail
 refine (scfind_any X5.out ⟨#[98]⟩).mono ?_
 rintro e w7 ⟨rfl,hb⟩
 rw [HM.out.f1,show idxI (some 1)=1 from rfl]
 have B7:=Lib.hid (after B5.out hb)
 have X7:=Lib.hid (X5.out.step hb)
 have d12:=keep hb gl d12
 have gl:=Nat.lt_of_lt_of_le gl hb.size
 clear hb X5
 go_wp2_with fail
 refine (scfind_any X7.out ⟨#[99]⟩).mono ?_
 rintro e w8 ⟨rfl,hb⟩
 rw [HM.out.f2,show idxI none = -1 from rfl]
 have B8:=Lib.hid (after B7.out hb)
 have X8:=Lib.hid (X7.out.step hb)
 have d12:=keep hb gl d12
 have gl:=Nat.lt_of_lt_of_le gl hb.size
 clear hb X7
 go_wp2_with fail
 refine (uses_any X8.out 0 HUS.out (by have:=L1.out;omega)).mono ?_
 rintro e w9 ⟨v,rfl,hrow,hb⟩
 rw [HM.out.u0] at hrow
 obtain ⟨rg,rc,rfl⟩:=own_any_shape hrow
 clear hrow
 have B9:=Lib.hid (after B8.out hb)
 have X9:=Lib.hid (X8.out.step hb)
 have d12:=keep hb gl d12
 have gl:=Nat.lt_of_lt_of_le gl hb.size
 clear hb X8
 go_wp2_with fail
 refine (uses_any X9.out 1 HUS.out (by have:=L1.out;omega)).mono ?_
 rintro e w10 ⟨v,rfl,hrow,hb⟩
 rw [HM.out.u1] at hrow
 obtain ⟨rg,rc,rfl⟩:=own_any_shape hrow
 clear hrow
 have B10:=Lib.hid (after B9.out hb)
 have X10:=Lib.hid (X9.out.step hb)
 have d12:=keep hb gl d12
 have gl:=Nat.lt_of_lt_of_le gl hb.size
 clear hb X9
 go_wp2_with fail
 refine (sets_any X10.out 1 HSS.out (by have:=L1.out;omega)).mono ?_
 rintro e w11 ⟨v,rfl,hrow,hb⟩
 rw [HM.out.s1] at hrow
 obtain ⟨rg,rc,rfl⟩:=own_any_shape hrow
 clear hrow
 have B11:=Lib.hid (after B10.out hb)
 have X11:=Lib.hid (X10.out.step hb)
 have d12:=keep hb gl d12
 have gl:=Nat.lt_of_lt_of_le gl hb.size
 clear hb X10
 go_wp2_with fail
 refine (sets_any X11.out 0 HSS.out (by have:=L1.out;omega)).mono ?_
 rintro e w12 ⟨v,rfl,hrow,hb⟩
 rw [HM.out.s0] at hrow
 obtain ⟨rg,rc,rfl⟩:=own_any_shape hrow
 clear hrow
 have B12:=Lib.hid (after B11.out hb)
 have X12:=Lib.hid (X11.out.step hb)
 have d12:=keep hb gl d12
 have gl:=Nat.lt_of_lt_of_le gl hb.size
 clear hb X11
 have ha1:a1<l.length:=HIN.out a1 (by rw [HM.out.lc];simp)
 have hsl:(if ((a1:Nat):Int)<0 then (-1:Int) else idxI (slotS s ((a1:Nat):Int).toNat))=1:=by
  rw [if_neg (by omega),show ((a1:Nat):Int).toNat=a1 by omega,HM.out.sl];rfl
 have HS1:=Lib.hid (slot_any X12.out (z:=(a1:Nat)) (by have:=L1.out;unfold In64;omega))
 rw [hsl] at HS1
 clear ha1 hsl
 go_wp2_with fail
 refine HS1.out.mono ?_
 rintro e w13 ⟨rfl,hb⟩
 have B13:=Lib.hid (after B12.out hb)
 have X13:=Lib.hid (X12.out.step hb)
 have d12:=keep hb gl d12
 have gl:=Nat.lt_of_lt_of_le gl hb.size
 clear hb X12
 have hsm:(if m<0 then (-1:Int) else idxI (slotS s m.toNat)) = -1:=by
  have h0:=HM.out.m0
  rw [HMM.out] at h0
  rw [if_neg (by omega),<- HMM.out,HM.out.sm];rfl
 have HS2:=Lib.hid (slot_any X13.out (z:=m) HMI.out)
 rw [hsm] at HS2
 clear hsm HS1
 go_wp2_with fail
 refine HS2.out.mono ?_
 rintro e w14 ⟨rfl,hb⟩
 have B14:=Lib.hid (after B13.out hb)
 clear hb HS2 X13
 go_wp2_with fail
 go_ret
 exact ⟨rfl,B14.out⟩
end Go.Proofs.YtfehpdliobapfaaGreatDoor.S
