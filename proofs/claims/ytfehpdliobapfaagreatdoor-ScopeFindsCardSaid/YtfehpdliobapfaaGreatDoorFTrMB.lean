/- For any text and any number,ScopeFinds returns true and leaves its arguments as they were. -/
import Derived.Test.YtfehpdliobapfaaGreatDoorFTrM
import Derived.Maps.OwnSet
import Derived.Maps.AppendAt
import Derived.DeepKeys5
import Derived.Maps.Range
set_option linter.unusedVariables false
set_option linter.unusedSimpArgs false
namespace Go.Proofs.YtfehpdliobapfaaGreatDoor
open Go Go.RowKit
def Bx (T:TypeId) (w:World) (b:Nat) (cs:List Value):Prop:=w.heap[b]? = some (.cells cs.toArray T (0,0))
section
variable {T:TypeId} {w w':World} {b:Nat} {cs:List Value}
theorem Bx.keep (h:Bx T w b cs) (hb:Below w.heap.size w w'):Bx T w' b cs:=by
 unfold Bx at *;rw [hb.block b (lt_block h)];exact h
theorem Bx.keepB {B:Nat} (h:Bx T w b cs) (hb:Below B w w') (hB:b<B):Bx T w' b cs:=by
 unfold Bx at *;rw [hb.block b hB];exact h
theorem Bx.set (h:Bx T w b cs) (o:Nat) (v:Value):Bx T (w.setCell ⟨b,o,none⟩ v) b (cs.set o v):=by
 unfold Bx at *
 rw [heap_setCell_same w b o _ _ v h]
 simp
theorem Bx.other (h:Bx T w b cs) {b':Nat} (hne:b≠b') (o:Nat) (v:Value):Bx T (w.setCell ⟨b',o,none⟩ v) b cs:=by
 unfold Bx at *
 rw [heap_setCell_other w _ b v (by simpa using hne)];exact h
theorem Bx.lt (h:Bx T w b cs):b<w.heap.size:=lt_block h
theorem Bx.cell (h:Bx T w b cs) (j:Nat):w.cell? ⟨b,j,none⟩=cs[j]?:=by
 rw [cell_at h];simp
theorem Bx.frozen (h:Bx T w b cs) (j:Nat):w.frozen? ⟨b,j,none⟩=false:=by
 unfold World.frozen?
 rw [h]
 simp
theorem Bx.alloc (h:Bx T w b cs) (o:Obj):Bx T (w.alloc o) b cs:=h.keep ((Below.refl _ _).alloc (Nat.le_refl _) _)
theorem Bx.new (T:TypeId) (w:World) (cs:Array Value):Bx T (w.alloc (.cells cs T)) w.heap.size cs.toList:=by
 unfold Bx;rw [heap_alloc_new]
end
theorem Bx.two {T:TypeId} {w:World} {b:Nat} {u v:Value} (h:Bx T w b [u,v]):w.cell? ⟨b,0,none⟩=some u/\w.cell? ⟨b,1,none⟩=some v/\b<w.heap.size/\∀ j,w.frozen? ⟨b,j,none⟩=false:=⟨h.cell 0,h.cell 1,h.lt,h.frozen⟩
theorem new_two {w w1:World} {T T':TypeId} {cs rs:Array Value} (h:Below ((w.alloc (.cells cs T)).alloc (.cells rs T')).heap.size ((w.alloc (.cells cs T)).alloc (.cells rs T')) w1) :
  Below w.heap.size w w1/\Bx T w1 w.heap.size cs.toList/\Bx T' w1 (w.heap.size+1) rs.toList:=by
 have h1:Below w.heap.size w ((w.alloc (.cells cs T)).alloc (.cells rs T')):=((Below.refl _ _).alloc (Nat.le_refl _) _).alloc (by simp) _
 refine ⟨after h1 h,(((Bx.new T w cs).alloc _).keep h),?_⟩
 have h2:=Bx.new T' (w.alloc (.cells cs T)) rs
 simp only [World.size_alloc] at h2
 exact h2.keep h
theorem BoxN.part {w:World} {g:Nat} {A X C:List Value} (h:BoxN w g (A ++ X ++ C)) (Y:List Value) (hl:Y.length=X.length):BoxN (w.setCells g A.length Y) g (A ++ Y ++ C):=by
 unfold BoxN at *
 obtain ⟨cur,a1,a2,a3,a4⟩:=row_set g Y A.length w _ h
 rw [a1]
 congr 2
 have hs:cur.size=A.length+X.length+C.length:=by rw [a2];simp;omega
 apply Array.ext_getElem?
 intro i
 by_cases h1:i<A.length
 ·rw [a4 i (.inl h1)]
  simp only [List.getElem?_toArray]
  rw [List.append_assoc,List.append_assoc,List.getElem?_append_left h1,List.getElem?_append_left h1]
 ·by_cases h2:i<A.length+Y.length
  ·have:=a3 (i-A.length) (by omega) (by simp;omega)
   rw [show A.length+(i-A.length)=i by omega] at this
   rw [this]
   simp only [List.getElem?_toArray]
   rw [List.append_assoc,List.getElem?_append_right (by omega),List.getElem?_append_left (by omega)]
  ·rw [a4 i (.inr (by omega))]
   simp only [List.getElem?_toArray]
   rw [List.getElem?_append_right (by simp;omega),List.getElem?_append_right (by simp;omega)]
   simp [hl]
theorem part_cells {w:World} {g o:Nat} {A C:List Value} {v0 v1 v2 v3 v4 v5 v6 v7 v8 v9 v10 v11 v12:Value} (h:BoxN w g (A ++ [v0,v1,v2,v3,v4,v5,v6,v7,v8,v9,v10,v11,v12] ++ C)) (ho:A.length=o) :
  (w.cell? ⟨g,o,none⟩=some v0/\w.cell? ⟨g,o+1,none⟩=some v1/\w.cell? ⟨g,o+2,none⟩=some v2/\w.cell? ⟨g,o+3,none⟩=some v3/\w.cell? ⟨g,o+4,none⟩=some v4/\w.cell? ⟨g,o+5,none⟩=some v5/\w.cell? ⟨g,o+6,none⟩=some v6/\w.cell? ⟨g,o+7,none⟩=some v7/\w.cell? ⟨g,o+8,none⟩=some v8/\w.cell? ⟨g,o+9,none⟩=some v9/\w.cell? ⟨g,o+10,none⟩=some v10/\w.cell? ⟨g,o+11,none⟩=some v11/\w.cell? ⟨g,o+12,none⟩=some v12)/\g<w.heap.size/\∀ j,w.frozen? ⟨g,j,none⟩=false:=by
 subst ho
 have key:∀ j,j<13->w.cell? ⟨g,A.length+j,none⟩=[v0,v1,v2,v3,v4,v5,v6,v7,v8,v9,v10,v11,v12][j]?:=fun j hj=>by
  rw [h.cell,List.append_assoc,List.getElem?_append_right (by omega),show A.length+j-A.length=j by omega,List.getElem?_append_left (by simpa using hj)]
 exact ⟨⟨key 0 (by omega),key 1 (by omega),key 2 (by omega),key 3 (by omega),key 4 (by omega),key 5 (by omega),key 6 (by omega),key 7 (by omega),key 8 (by omega),key 9 (by omega),key 10 (by omega),key 11 (by omega),key 12 (by omega)⟩,h.lt,h.frozen⟩
end Go.Proofs.YtfehpdliobapfaaGreatDoor
namespace Go.Proofs.YtfehpdliobapfaaGreatDoor
open Go Go.RowKit
theorem Bx.at_ {T:TypeId} {w w':World} {b:Nat} {cs:List Value} (h:Bx T w b cs) (hk:w'.heap[b]? = w.heap[b]?):Bx T w' b cs:=by unfold Bx at *;rw [hk];exact h
open Go.Maps (Keyed)
open Go.WideElems (Fit rd rg pl rd_val rd_key)
open Go.ChangeMaps Go.MapKept Go.WideShapes
def anyElem (_:Value):Option (DataW Unit × List MemPlace):=some (.nil,[])
def MapIs (P:Program) (k:TypeId) (w:World) (b n:Nat) (f:Value->Option Value):Prop :=
 ∃ es clock,w.heap[b]? = some (.map es clock)/\Fit P k anyElem es clock/\es.size<=n/\(∀ x ∈ es.toList,f x.key=some x.val)/\∀ key v,f key=some v->∃ x ∈ es.toList,x.key=key
section
variable {P:Program} {k t e:TypeId} {w:World} {b n:Nat} {f:Value->Option Value}
theorem MapIs.lt (h:MapIs P k w b n f):b<w.heap.size:=by
 obtain ⟨es,clock,hb,_⟩:=h
 exact (Array.getElem?_eq_some_iff.1 hb).1
theorem MapIs.at_ {w':World} (h:MapIs P k w b n f) (hb:w'.heap[b]? = w.heap[b]?):MapIs P k w' b n f:=by
 obtain ⟨es,clock,h1,r⟩:=h
 exact ⟨es,clock,hb.trans h1,r⟩
theorem MapIs.keep {w':World} (h:MapIs P k w b n f) (hb:Below w.heap.size w w'):MapIs P k w' b n f:=h.at_ (hb.block b h.lt)
theorem MapIs.ne_cells (h:MapIs P k w b n f) {g:Nat} {c:Array Value} {T:TypeId} {fz:Nat × Nat} (hg:w.heap[g]? = some (.cells c T fz)):b≠g:=fun q=>by
 obtain ⟨es,clock,h1,_⟩:=h
 rw [q,hg] at h1
 cases h1
theorem MapIs.mono (h:MapIs P k w b n f) {m:Nat} (hm:n<=m):MapIs P k w b m f:=by
 obtain ⟨es,clock,h1,h2,h3,r⟩:=h
 exact ⟨es,clock,h1,h2,Nat.le_trans h3 hm,r⟩
theorem MapIs.made (P:Program) (k:TypeId) (w:World):MapIs P k (w.alloc (.map #[] 0)) w.heap.size 0 (fun _=>none) :=
 ⟨#[],0,(MapKept.heap_alloc w _).1,⟨by simp,MapKept.stamped_empty 0,by simp⟩,Nat.le_refl _,by simp,fun key v hv=>by cases hv⟩
theorem MapIs.look (h:MapIs P k w b n f) (K:Keyed P k) (ht:P.underlying t=some (.map k e)) {z:Value} (hz:(zeroValue e).run P w = .ok z w) {key:Value} (hkey:∃ kl,keyOf P k key=some kl) (c:Bool) :
  (Instr.lookup t (.map (some b)) key c).run P w = .ok (if c then .tuple #[(f key).getD z,.bool (f key).isSome] else (f key).getD z) w:=by
 obtain ⟨kl,hkey⟩:=hkey
 obtain ⟨es,clock,hb,F,_,h1,h2⟩:=h
 rcases Maps.fit_look c K ht hz hb F hkey with ⟨hrun,hno,_⟩|⟨e0,y,hm,hk,hrun,_⟩
 ·have:f key=none:=by
   cases hf:f key with
   | none=>rfl
   | some v =>
    obtain ⟨x,hx,hxk⟩:=h2 key v hf
    exact absurd hxk (hno x hx)
  rw [this]
  exact hrun
 ·have:f key=some e0.val:=by rw [<- hk];exact h1 e0 hm
  rw [this]
  exact hrun
open Classical in
noncomputable def putF (f:Value->Option Value) (key val:Value):Value->Option Value:=fun x=>if x=key then some val else f x
theorem putF_same (f:Value->Option Value) (key val:Value):putF f key val key=some val:=by unfold putF;rw [if_pos rfl]
theorem putF_other (f:Value->Option Value) (key val:Value) {x:Value} (h:x≠key):putF f key val x=f x:=by unfold putF;rw [if_neg h]
theorem MapIs.store (h:MapIs P k w b n f) (K:Keyed P k) (ht:P.underlying t=some (.map k e)) (hn:n<maxLen) {key:Value} (hkey:∃ kl,keyOf P k key=some kl) (val:Value) :
  ∃ w',(Instr.mapUpdate t (.map (some b)) key val).run P w = .ok () w'/\MapIs P k w' b (n+1) (putF f key val)/\w.grownBy w' (some b):=by
 obtain ⟨kl,hkey⟩:=hkey
 obtain ⟨es,clock,hb,F,hs,h1,h2⟩:=h
 obtain ⟨es',clock',hrun,F',hput,_,_,hwho⟩:=Maps.fit_store (R':=anyElem) K ht hb F (Nat.lt_of_le_of_lt hs hn) (fun _ _ _ _ hz=>hz) hkey (yv:=(.nil,[])) rfl (val:=val)
 have hin:∀ y,y≠key->∀ v,f y=some v->∃ x ∈ es'.toList,x.key=y:=by
  intro y hy v hv
  obtain ⟨x,hx,hxk⟩:=h2 y v hv
  obtain ⟨r,hr⟩:=F.reads x hx
  have hmem:rg P k anyElem x ∈ (es'.toList.map (rg P k anyElem)):=by
   have m0:rg P k anyElem x ∈ es.toList.map (rg P k anyElem):=List.mem_map.2 ⟨x,hx,rfl⟩
   have m1:=(WideShapes.sorted_perm (es.toList.map (rg P k anyElem))).mem_iff.2 m0
   have m2:rg P k anyElem x ∈ putKey kl (DataW.nil:DataW Unit) ((es.toList.map (rg P k anyElem)).foldr DataW.insert []):=by
    unfold putKey
    refine mem_insert_iff.2 (Or.inr (List.mem_filter.2 ⟨m1,?_⟩))
    refine (Maps.notKey_iff (K.key hkey)).2 (fun q=>?_)
    rw [Go.WideElems.rg_of hr] at q
    exact hy (by rw [<- hxk];exact K.inj (rd_key hr) (by rw [q];exact hkey))
   rw [<- hput] at m2
   exact (WideShapes.sorted_perm _).mem_iff.1 m2
  obtain ⟨x',hx',he⟩:=List.mem_map.1 hmem
  obtain ⟨r',hr'⟩:=F'.reads x' hx'
  refine ⟨x',hx',?_⟩
  rw [<- hxk]
  rw [Go.WideElems.rg_of hr',Go.WideElems.rg_of hr] at he
  exact K.inj (rd_key hr') (by rw [he];exact rd_key hr)
 have hnew:∃ x ∈ es'.toList,x.key=key:=by
  have m2:(kl,(DataW.nil:DataW Unit)) ∈ putKey kl (DataW.nil:DataW Unit) ((es.toList.map (rg P k anyElem)).foldr DataW.insert []):=by
   unfold putKey
   exact mem_insert_iff.2 (Or.inl rfl)
  rw [<- hput] at m2
  obtain ⟨x',hx',he⟩:=List.mem_map.1 ((WideShapes.sorted_perm _).mem_iff.1 m2)
  obtain ⟨r',hr'⟩:=F'.reads x' hx'
  refine ⟨x',hx',?_⟩
  rw [Go.WideElems.rg_of hr'] at he
  exact K.inj (rd_key hr') (by rw [he];exact hkey)
 refine ⟨_,hrun,⟨es',clock',heap_setBlock_same hb _,F',?_,?_,?_⟩,⟨rfl,rfl,rfl,by simp [setBlock],fun i _ hi=>heap_setBlock_other hb _ (fun e=>hi (by rw [e]))⟩⟩
 ·have e1:es'.size=((es'.toList.map (rg P k anyElem)).foldr DataW.insert []).length:=by rw [length_sorted];simp
  rw [e1,hput]
  unfold putKey
  rw [length_insert]
  have e2:=List.length_filter_le (notKey kl) ((es.toList.map (rg P k anyElem)).foldr DataW.insert [])
  rw [length_sorted] at e2
  simp at e2
  omega
 ·intro x hx
  rcases hwho x hx with ⟨hx0,hne⟩|⟨hk,hv⟩
  ·rw [putF_other _ _ _ hne];exact h1 x hx0
  ·rw [hk,putF_same,hv]
 ·intro y v hv
  by_cases hy:y=key
  ·rw [hy];exact hnew
  ·rw [putF_other _ _ _ hy] at hv
   exact hin y hy v hv
end
def In64 (z:Int):Prop:=-9223372036854775808<=z/\z<=9223372036854775807
theorem in_wf {z:Int} (h:In64 z):(Lit.int .i64 z).wf=true:=by
 obtain ⟨h1,h2⟩:=h
 exact WalkArith.wf_i64 ⟨by omega,by omega⟩
theorem int_keyed':Keyed Tryz.prog 3:=Maps.int_keyed Tryz.underlying3
theorem int_key {z:Int} (h:In64 z):∃ kl,keyOf Tryz.prog 3 (.int .i64 z)=some kl:=⟨_,Maps.keyOf_int_mk Tryz.underlying3 (in_wf h)⟩
end Go.Proofs.YtfehpdliobapfaaGreatDoor
namespace Go.Proofs.YtfehpdliobapfaaGreatDoor
open Go Go.RowKit
open Go.Maps (Keyed)
open Go.WideElems (Fit rd rg pl rd_val rd_key)
open Go.ChangeMaps Go.MapKept Go.WideShapes
def MapLeft (P:Program) (k:TypeId) (w:World) (b r n:Nat) (f:Value->Option Value) (L:List Value):Prop :=
 MapIs P k w b n f/\∃ es clock since seen c0,w.heap[b]? = some (.map es clock)/\Fit P k anyElem es clock/\(∀ x ∈ es.toList,f x.key=some x.val) /\
  w.heap[r]? = some (.mapIter (some b) since seen c0)/\(∀ x ∈ es.toList,x.born<since)/\since<=c0/\since<=clock/\L=(leftOf es seen).toList.map MapEntry.key
section
variable {P:Program} {k t e:TypeId} {w:World} {b r n:Nat} {f:Value->Option Value} {L:List Value}
theorem MapIs.range (h:MapIs P k w b n f) (ht:P.underlying t=some (.map k e)) :
  ∃ clock L,(Instr.range t (.map (some b))).run P w = .ok (.pointer (some ⟨w.heap.size,0,none⟩)) (w.alloc (.mapIter (some b) clock #[] clock))/\MapLeft P k (w.alloc (.mapIter (some b) clock #[] clock)) b w.heap.size n f L/\L.Nodup/\∀ key,key ∈ L ↔ (f key).isSome=true:=by
 obtain ⟨es,clock,hb,F,hs,h1,h2⟩:=id h
 have hb':(w.alloc (.mapIter (some b) clock #[] clock)).heap[b]? = some (.map es clock):=((MapKept.heap_alloc w _).2 b h.lt).trans hb
 have hL:leftOf es #[]=es:=by simp [leftOf]
 refine ⟨clock,_,run_range_map w t k e b es clock ht hb,⟨h.at_ ((MapKept.heap_alloc w _).2 b h.lt),es,clock,clock,#[],clock,hb',F,h1,(MapKept.heap_alloc w _).1,F.stamped.1,Nat.le_refl _,Nat.le_refl _,rfl⟩,?_,?_⟩
 ·rw [hL]
  have:=((stamped_iff es clock).1 F.stamped).2.2
  show List.Pairwise (· ≠ ·) _
  rw [List.pairwise_map]
  exact this
 ·intro key
  rw [hL]
  constructor
  ·intro hk
   obtain ⟨x,hx,rfl⟩:=List.mem_map.1 hk
   rw [h1 x hx];rfl
  ·intro hk
   obtain ⟨v,hv⟩:=Option.isSome_iff_exists.1 hk
   obtain ⟨x,hx,hxk⟩:=h2 key v hv
   exact List.mem_map.2 ⟨x,hx,hxk⟩
theorem MapLeft.next (h:MapLeft P k w b r n f L) (ty:TypeId) :
  (L=[]/\(Instr.next (.pointer (some ⟨r,0,none⟩)) false ty).run P w = .ok (.tuple #[.bool false]) w) \/
  ∃ key v w' L',f key=some v/\(∀ x,x ∈ L ↔ x=key\/x ∈ L')/\key ∉ L'/\L'.length<L.length/\(Instr.next (.pointer (some ⟨r,0,none⟩)) false ty).run P w = .ok (.tuple #[.bool true,key,v]) w' /\
   MapLeft P k w' b r n f L'/\w.grownBy w' (some r)/\w'.heap.size=w.heap.size/\(Instr.entry (.pointer (some ⟨r,0,none⟩))).run P w' = .ok (.tuple #[key,v]) w':=by
 obtain ⟨hm,es,clock,since,seen,c0,hb,F,h1,hr,hold,hsc,hsk,rfl⟩:=h
 have hst:=(stamped_iff es clock).1 F.stamped
 rcases run_next_at (P:=P) w ty r b since c0 seen es clock hr hb hold hsc with ⟨h0,hrun⟩|⟨e,he,w1,hal,hrun⟩
 ·left
  refine ⟨?_,hrun⟩
  have:leftOf es seen=#[]:=Array.eq_empty_of_size_eq_zero h0
  rw [this];rfl
 ·right
  obtain ⟨hem,hes⟩:=mem_left he
  have hr1:w1.heap[r]? = some (.mapIter (some b) since seen c0):=by rcases hal with rfl|rfl<;>exact hr
  have hb1:w1.heap[b]? = some (.map es clock):=by rcases hal with rfl|rfl<;>exact hb
  have hne:r≠b:=fun q=>by rw [q,hb] at hr;cases hr
  have hset:=heap_set (o':=.mapIter (some b) since (seen.push e.born) clock) hr1
  have hb':(setBlock w1 r (.mapIter (some b) since (seen.push e.born) clock)).heap[b]? = some (.map es clock):=(hset.2 b (fun e1=>hne e1.symm)).trans hb1
  have hmem:∀ x,x ∈ (leftOf es seen).toList ↔ x=e\/x ∈ (leftOf es (seen.push e.born)).toList:=by
   intro x
   unfold leftOf
   simp only [Array.mem_toList_iff,Array.mem_filter,contains_push]
   constructor
   ·rintro ⟨q1,q2⟩
    by_cases hx:x.born=e.born
    ·exact .inl (born_inj hst.2.1 (Array.mem_toList_iff.2 q1) hem hx)
    ·right
     refine ⟨q1,?_⟩
     simp at q2 ⊢
     exact ⟨q2,hx⟩
   ·rintro (rfl|⟨q1,q2⟩)
    ·exact ⟨Array.mem_toList_iff.1 hem,by simpa using hes⟩
    ·refine ⟨q1,?_⟩
     simp at q2 ⊢
     exact q2.1
  refine ⟨e.key,e.val,_,_,h1 e hem,?_,?_,?_,hrun,⟨hm.at_ (hb'.trans hb.symm),es,clock,since,seen.push e.born,clock,hb',F,h1,hset.1,hold,hsk,hsk,rfl⟩,?_,?_,run_entry_at _ r b since seen es clock e hset.1 hb' hem hst.2.1⟩
  ·intro x
   simp only [List.mem_map]
   constructor
   ·rintro ⟨y,hy,rfl⟩
    rcases (hmem y).1 hy with rfl|hy
    ·exact .inl rfl
    ·exact .inr ⟨y,hy,rfl⟩
   ·rintro (rfl|⟨y,hy,rfl⟩)
    ·exact ⟨e,(hmem e).2 (.inl rfl),rfl⟩
    ·exact ⟨y,(hmem y).2 (.inr hy),rfl⟩
  ·intro hk
   obtain ⟨y,hy,hyk⟩:=List.mem_map.1 hk
   obtain ⟨q1,q2⟩:=mem_left hy
   have:=entry_eq_of_key hst.2.2 q1 hem hyk
   rw [this,contains_push] at q2
   simp at q2
  ·have:=left_shrinks es seen e he
   simpa using this
  ·rcases hal with rfl|rfl<;>exact ⟨rfl,rfl,rfl,by simp [setBlock],fun i _ hi=>hset.2 i (fun e1=>hi (by rw [e1]))⟩
  ·rcases hal with rfl|rfl<;>simp [setBlock]
theorem MapLeft.at_ {w':World} (h:MapLeft P k w b r n f L) (hb:w'.heap[b]? = w.heap[b]?) (hr:w'.heap[r]? = w.heap[r]?):MapLeft P k w' b r n f L:=by
 obtain ⟨hm,es,clock,since,seen,c0,q1,F,h1,q2,rest⟩:=h
 exact ⟨hm.at_ hb,es,clock,since,seen,c0,hb.trans q1,F,h1,hr.trans q2,rest⟩
end
end Go.Proofs.YtfehpdliobapfaaGreatDoor
