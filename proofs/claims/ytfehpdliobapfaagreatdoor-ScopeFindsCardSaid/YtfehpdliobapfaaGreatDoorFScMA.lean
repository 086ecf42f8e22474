/- For any text and any number,ScopeFinds returns true and leaves its arguments as they were. -/
import Derived.Test.YtfehpdliobapfaaGreatDoorFScPl
import Derived.Test.YtfehpdliobapfaaGreatDoorFTrFrom
import Derived.Test.YtfehpdliobapfaaGreatDoorFPaMA
import Derived.Lib.AppendZeros
set_option maxRecDepth 100000
set_option maxHeartbeats 4000000
set_option linter.unusedVariables false
set_option linter.unusedSimpArgs false
namespace Go.Proofs.YtfehpdliobapfaaGreatDoor.S
open Go Go.RowKit
open Go.Maps (Keyed)
section
variable {α : Type} (c : α -> List Value) (s:Nat) (hc:∀ x,(c x).length=s)
include hc
theorem fm_len:∀ L:List α,(L.flatMap c).length=L.length*s
 | []=>by simp
 | y :: L=>by rw [List.flatMap_cons,List.length_append,fm_len L,hc,List.length_cons,Nat.add_mul];omega
theorem fm_at:∀ (L:List α) (i:Nat) (h:i<L.length) (j:Nat),j<s->(L.flatMap c)[i*s+j]? = (c L[i])[j]?
 | [],i,h,j,hj=>absurd h (by simp)
 | y :: L,0,h,j,hj=>by
  rw [List.flatMap_cons,Nat.zero_mul,Nat.zero_add,List.getElem?_append_left (by rw [hc];exact hj)];rfl
 | y :: L,i+1,h,j,hj=>by
  have:=fm_at L i (by simpa using h) j hj
  rw [List.flatMap_cons,List.getElem?_append_right (by rw [hc,Nat.add_mul];omega),hc,show (i+1)*s+j-s=i*s+j by rw [Nat.add_mul];omega,this]
  rfl
end
theorem ownsRow_step {w w':World} {B:Nat} {e:TypeId} {s:Nat} {v:Value} {n:Nat} {xs:List Value} (h:w.ownsRow B e s v n xs) (hb:Below w.heap.size w w'):w'.ownsRow B e s v n xs :=
 h.kept (row:=none) ⟨hb.os,hb.tape,hb.output,hb.size,fun k hk _=>hb.block k hk⟩ (by cases v.ownBlock<;>simp)
theorem own_any_shape {w:World} {B n:Nat} {e:TypeId} {s:Nat} {v:Value} {xs:List Value} (h:w.ownsRow B e s v n xs):∃ g c,v = .slice g n c:=by
 rcases h.2 with ⟨hv,h0⟩|⟨g,cap,cur,hv,_⟩
 ·exact ⟨none,0,by rw [hv,h0]⟩
 ·exact ⟨_,cap,hv⟩
theorem row_at {w w':World} {B:Nat} {e:TypeId} {s:Nat} {v:Value} {n:Nat} {xs:List Value} (h:w.ownsRow B e s v n xs) (hz:w.heap.size<=w'.heap.size) (hk:∀ k,v.ownBlock=some k->w'.heap[k]? = w.heap[k]?):w'.ownsRow B e s v n xs:=by
 obtain ⟨h1,h2⟩:=h
 refine ⟨h1,?_⟩
 rcases h2 with h2|⟨g,cap,cur,hv,hg,hh,r⟩
 ·exact Or.inl h2
 ·exact Or.inr ⟨g,cap,cur,hv,hg,(hk g (by rw [hv];rfl)).trans hh,r⟩
theorem row_lt {w:World} {B:Nat} {e:TypeId} {s:Nat} {v:Value} {n:Nat} {xs:List Value} (h:w.ownsRow B e s v n xs) {k:Nat} (hk:v.ownBlock=some k):k<w.heap.size:=by
 rcases h.2 with ⟨rfl,_⟩|⟨g,cap,cur,rfl,_,hg,_⟩
 ·cases hk
 ·cases hk
  exact lt_block hg
theorem own_ne {w:World} {B n:Nat} {e T:TypeId} {s:Nat} {v:Value} {xs:List Value} {k:Nat} {c:Array Value} {fz:Nat × Nat} (h:w.ownsRow B e s v n xs) (hk:w.heap[k]? = some (.cells c T fz)) (hT:T≠e):some k≠v.ownBlock:=by
 rcases h.2 with ⟨rfl,_⟩|⟨g,cap,cur,rfl,_,hg,_⟩
 ·simp [Value.ownBlock]
 ·intro q
  simp [Value.ownBlock] at q
  subst q
  rw [hk] at hg
  simp at hg
  exact hT hg.2.1
def locC (l:List Nd) (a:Nat):List Value:=match l[a]? with
 | some x=>[.string x.text,.int .i64 x.B,.string x.N,.int .i64 x.D,.string x.M,.int .i64 (a:Nat),.bool (decide (x.kind=7))]
 | none=>[.string ⟨#[]⟩,.int .i64 0,.string ⟨#[]⟩,.int .i64 0,.string ⟨#[]⟩,.int .i64 (a:Nat),.bool false]
theorem locC_len (l:List Nd) (a:Nat):(locC l a).length=7:=by unfold locC;split<;>rfl
theorem locC_get {l:List Nd} {a:Nat} (h:a<l.length):locC l a=[.string l[a].text,.int .i64 l[a].B,.string l[a].N,.int .i64 l[a].D,.string l[a].M,.int .i64 (a:Nat),.bool (decide (l[a].kind=7))]:=by
 unfold locC;rw [List.getElem?_eq_getElem h]
theorem locC_name (l:List Nd) (a:Nat):(locC l a)[0]? = some (.string (txtS l a)):=by
 unfold locC txtS
 cases l[a]? <;> rfl
theorem locC_node (l:List Nd) (a:Nat):(locC l a)[5]? = some (.int .i64 (a:Nat)):=by
 unfold locC
 cases l[a]? <;> rfl
theorem locC_param (l:List Nd) (a:Nat):(locC l a)[6]? = some (.bool (decide (kndS l a=7))):=by
 unfold locC kndS
 cases l[a]? <;> rfl
def flatLc (l:List Nd) (L:List Nat):List Value:=L.flatMap (locC l)
theorem flatLc_len (l:List Nd) (L:List Nat):(flatLc l L).length=L.length*7:=fm_len (locC l) 7 (locC_len l) L
def natF (f:Nat->Option Nat):Value->Option Value:=fun v=>match v with
 | .int .i64 z=>if 0<=z then (f z.toNat).map fun (k:Nat)=>.int .i64 (k:Int) else none
 | _=>none
theorem natF_at (f:Nat->Option Nat) (a:Nat):natF f (.int .i64 (a:Int))=(f a).map fun (k:Nat)=>.int .i64 (k:Int):=by
 show (if (0:Int)<=(a:Int) then (f (a:Int).toNat).map _ else none)=_
 rw [if_pos (by omega)];rfl
theorem natF_neg (f:Nat->Option Nat) {z:Int} (h:z<0):natF f (.int .i64 z)=none:=by
 show (if (0:Int)<=z then _ else none)=_
 rw [if_neg (by omega)]
theorem natF_none:natF (fun _=>none)=fun _=>none:=by
 funext v
 unfold natF
 split
 ·split<;>rfl
 ·rfl
theorem natF_put (f:Nat->Option Nat) (a k:Nat):putF (natF f) (.int .i64 (a:Int)) (.int .i64 (k:Int))=natF (putN f a k):=by
 funext v
 by_cases hv:v = .int .i64 (a:Int)
 ·rw [hv,putF_same,natF_at,putN_same];rfl
 ·rw [putF_other _ _ _ hv]
  unfold natF
  split
  ·rename_i z
   by_cases h0:0<=z
   ·rw [if_pos h0,if_pos h0,putN_other _ _ _ (fun q=>hv (by rw [<- q];congr 1;omega))]
   ·rw [if_neg h0,if_neg h0]
  ·rfl
theorem natF_some {f:Nat->Option Nat} {key v:Value} (h:natF f key=some v):∃ (a k:Nat),key = .int .i64 (a:Int)/\v = .int .i64 (k:Int)/\f a=some k:=by
 unfold natF at h
 split at h
 ·rename_i z
  by_cases h0:0<=z
  ·rw [if_pos h0] at h
   obtain ⟨k,h1,h2⟩:=Option.map_eq_some_iff.1 h
   exact ⟨z.toNat,k,by congr 1;omega,h2.symm,h1⟩
  ·rw [if_neg h0] at h;cases h
 ·cases h
structure ScV where
 sb:Nat
 ub:Nat
 mb:Nat
 lv:Value
structure ScX (l:List Nd) (w:World) (B:Nat) (S:ScV) (s:Sc) (c:Nat):Prop where
 bs:B<=S.sb
 bu:B<=S.ub
 bm:B<=S.mb
 ne:S.ub≠S.mb
 box:Bx 137 w S.sb [S.lv,.map (some S.ub),.map (some S.mb)]
 row:w.ownsRow B 88 7 S.lv s.lc.length (flatLc l s.lc)
 few:s.lc.length<=64
 uses:MapIs Tryz.prog 3 w S.ub c (natF s.us)
 sets:MapIs Tryz.prog 3 w S.mb c (natF s.ss)
theorem ScX.step {l:List Nd} {w w':World} {B:Nat} {S:ScV} {s:Sc} {c:Nat} (h:ScX l w B S s c) (hb:Below w.heap.size w w'):ScX l w' B S s c :=
 ⟨h.bs,h.bu,h.bm,h.ne,h.box.keep hb,ownsRow_step h.row hb,h.few,h.uses.keep hb,h.sets.keep hb⟩
theorem own_nums {w:World} {B:Nat} {v:Value} {l:List Int} (h:w.ownsRow B 3 1 v l.length (numC l)):∃ s c,v = .slice s l.length c/\NumsIn w s l:=by
 rcases h.2 with ⟨hv,h0⟩|⟨g,cap,cur,hv,hBg,hg,hnc,hcm,hcs,htake⟩
 ·exact ⟨none,0,by rw [hv,h0],fun h1=>by omega⟩
 ·refine ⟨_,cap,hv,fun _=>⟨g,0,rfl,lt_block hg,fun i hi=>?_⟩⟩
  have:=h.cells (g:=g) (by rw [hv];rfl) i (.int .i64 l[i]) (by simp [numC,hi])
  rwa [add_at] at this
def OpM (w:World) (B:Nat) (v:Value) (L:List Int):Prop :=
 w.ownsRow B 3 1 v L.length (numC L)\/∃ g cur,v = .slice (some ⟨g,0,none⟩) L.length L.length/\B<=g/\w.heap[g]? = some (.cells cur 3 (0,0))/\L.length<=maxLen/\cur.toList.take L.length=numC L
theorem OpM.at_ {w w':World} {B:Nat} {v:Value} {L:List Int} (h:OpM w B v L) (hz:w.heap.size<=w'.heap.size) (hk:∀ k,v.ownBlock=some k->w'.heap[k]? = w.heap[k]?):OpM w' B v L:=by
 rcases h with h|⟨g,cur,hv,h1,h2,h3⟩
 ·exact .inl (row_at h hz hk)
 ·exact .inr ⟨g,cur,hv,h1,(hk g (by rw [hv];rfl)).trans h2,h3⟩
theorem OpM.lt {w:World} {B:Nat} {v:Value} {L:List Int} (h:OpM w B v L) {k:Nat} (hk:v.ownBlock=some k):k<w.heap.size:=by
 rcases h with h|⟨g,cur,rfl,h1,h2,h3⟩
 ·exact row_lt h hk
 ·cases hk;exact lt_block h2
theorem OpM.ne {w:World} {B:Nat} {v:Value} {L:List Int} (h:OpM w B v L) {T:TypeId} {k:Nat} {c:Array Value} {fz:Nat × Nat} (hk:w.heap[k]? = some (.cells c T fz)) (hT:T≠3):some k≠v.ownBlock:=by
 rcases h with h|⟨g,cur,rfl,h1,h2,h3⟩
 ·exact own_ne h hk hT
 ·intro q
  simp [Value.ownBlock] at q
  subst q
  rw [hk] at h2
  simp at h2
  exact hT h2.2.1
theorem OpM.nums {w:World} {B:Nat} {v:Value} {L:List Int} (h:OpM w B v L):NumsV w v L:=by
 rcases h with h|⟨g,cur,rfl,h1,h2,h3,h4⟩
 ·obtain ⟨s,c,hv,hn⟩:=own_nums h
  exact ⟨s,c,hv,hn⟩
 ·refine ⟨_,_,rfl,fun _=>⟨g,0,rfl,lt_block h2,fun i hi=>?_⟩⟩
  rw [cell_at h2,Nat.zero_add]
  have h5:(cur.toList.take L.length)[i]? = (numC L)[i]?:=by rw [h4]
  rw [List.getElem?_take_of_lt hi] at h5
  rw [<- Array.getElem?_toList,h5]
  simp [numC,hi]
theorem natI_take (L:List Nat) (n:Nat):(natI L).take n=natI (L.take n):=by unfold natI;rw [List.map_take]
theorem OpM.cut {w:World} {B n:Nat} {g:Option Addr} {m cap:Nat} {L:List Int} (h:OpM w B (.slice g m cap) L) (hn:n<=L.length):OpM w B (.slice g n n) (L.take n):=by
 have hl:(L.take n).length=n:=by rw [List.length_take];omega
 rcases h with ⟨hb,⟨hv,h0⟩|⟨g',cap',cur,hv,h1,h2,h3,h4,h5,h6⟩⟩|⟨g',cur,hv,h1,h2,h3,h4⟩
 ·have hL:L=[]:=by
   have:L.length=0:=h0
   exact List.eq_nil_of_length_eq_zero this
  subst hL
  have hn0:n=0:=by simpa using hn
  subst hn0
  simp only [Value.slice.injEq] at hv
  obtain ⟨rfl,-,-⟩:=hv
  exact .inl (World.ownsRow_nil _ _ _ _)
 ·simp only [Value.slice.injEq] at hv
  obtain ⟨rfl,rfl,rfl⟩:=hv
  refine .inr ⟨g',cur,by rw [hl],h1,h2,by rw [hl];omega,?_⟩
  rw [hl]
  have:(cur.toList.take L.length).take n=(numC L).take n:=by rw [show L.length=L.length*1 by omega,h6]
  rw [List.take_take,Nat.min_eq_left hn] at this
  rw [this];unfold numC;rw [List.map_take]
 ·simp only [Value.slice.injEq] at hv
  obtain ⟨rfl,rfl,rfl⟩:=hv
  refine .inr ⟨g',cur,by rw [hl],h1,h2,by rw [hl];omega,?_⟩
  rw [hl]
  have:(cur.toList.take L.length).take n=(numC L).take n:=by rw [h4]
  rw [List.take_take,Nat.min_eq_left hn] at this
  rw [this];unfold numC;rw [List.map_take]
structure ScM (l:List Nd) (W0 w:World) (B:Nat) (nv:Value) (S:ScV) (wb:Nat) (ov:Value) (held:Bool) (s:Sc) (c:Nat):Prop where
 bel:Below B W0 w
 bw:B<=wb
 sc:ScX l w B S s c
 wbox:Bx 140 w wb [.pointer (some ⟨S.sb,0,none⟩),nv,ov,.bool held]
 opn:OpM w B ov (natI s.op)
section
variable {l:List Nd} {W0 w w':World} {B:Nat} {nv:Value} {S:ScV} {wb:Nat} {ov:Value} {held:Bool} {s:Sc} {c:Nat}
def ScV.own (S:ScV) (k:Nat):Prop:=k=S.sb\/k=S.ub\/k=S.mb\/S.lv.ownBlock=some k
theorem ScX.at_ (h:ScX l w B S s c) (hz:w.heap.size<=w'.heap.size) (hk:∀ k,S.own k->w'.heap[k]? = w.heap[k]?):ScX l w' B S s c :=
 ⟨h.bs,h.bu,h.bm,h.ne,h.box.at_ (hk _ (.inl rfl)),row_at h.row hz (fun k q=>hk k (.inr (.inr (.inr q)))),h.few,h.uses.at_ (hk _ (.inr (.inl rfl))),h.sets.at_ (hk _ (.inr (.inr (.inl rfl))))⟩
theorem ScX.lt (h:ScX l w B S s c) {k:Nat} (hk:S.own k):k<w.heap.size:=by
 rcases hk with rfl|rfl|rfl|hk
 ·exact h.box.lt
 ·exact h.uses.lt
 ·exact h.sets.lt
 ·exact row_lt h.row hk
theorem ScM.at_ (h:ScM l W0 w B nv S wb ov held s c) (hb:Below B W0 w') (hz:w.heap.size<=w'.heap.size) (hk:∀ k,S.own k\/k=wb\/ov.ownBlock=some k->w'.heap[k]? = w.heap[k]?):ScM l W0 w' B nv S wb ov held s c :=
 ⟨hb,h.bw,h.sc.at_ hz (fun k q=>hk k (.inl q)),h.wbox.at_ (hk _ (.inr (.inl rfl))),h.opn.at_ hz (fun k q=>hk k (.inr (.inr q)))⟩
theorem ScM.lt (h:ScM l W0 w B nv S wb ov held s c) {k:Nat} (hk:S.own k\/k=wb\/ov.ownBlock=some k):k<w.heap.size:=by
 rcases hk with hk|rfl|hk
 ·exact h.sc.lt hk
 ·exact h.wbox.lt
 ·exact h.opn.lt hk
theorem ScM.step (h:ScM l W0 w B nv S wb ov held s c) (hb:Below w.heap.size w w') (hB:B<=w.heap.size):ScM l W0 w' B nv S wb ov held s c :=
 h.at_ (h.bel.trans (hb.mono hB)) hb.size (fun k hk=>hb.block k (h.lt hk))
theorem ScM.drew (h:ScM l W0 w B nv S wb ov held s c) (n:Nat):ScM l W0 (w.drewN n) B nv S wb ov held s c :=
 h.at_ ⟨h.bel.os,h.bel.tape,h.bel.output,h.bel.size,h.bel.block⟩ (Nat.le_refl _) (fun _ _=>rfl)
theorem ScM.mono (h:ScM l W0 w B nv S wb ov held s c) {c':Nat} (hc:c<=c'):ScM l W0 w B nv S wb ov held s c' :=
 ⟨h.bel,h.bw,⟨h.sc.bs,h.sc.bu,h.sc.bm,h.sc.ne,h.sc.box,h.sc.row,h.sc.few,h.sc.uses.mono hc,h.sc.sets.mono hc⟩,h.wbox,h.opn⟩
end
theorem types_ne:137≠3/\140≠3/\137≠140/\137≠88/\140≠88/\88≠3:=by decide
end Go.Proofs.YtfehpdliobapfaaGreatDoor.S
namespace Go.Proofs.YtfehpdliobapfaaGreatDoor.S
open Go Go.RowKit
def idxI:Option Nat->Int
 | none=>-1
 | some k=>k
def locA (l:List Nd) (a:Nat):Value:=.agg (locC l a).toArray
theorem findf_any (l:List Nd) (a:Nat) (name:ByteArray) (b:Nat) (w:World) (hb:w.cell? ⟨b,0,none⟩=some (.string name)) (hl:b<w.heap.size) :
  Calls Tryz.prog 97 #[locA l a,.pointer (some ⟨b,0,none⟩)] w fun e w'=>e = .returned (.bool (decide (txtS l a=name)))/\Below w.heap.size w w':=by
 have he:=pl_eq (txtS l a) name
 rw [<- he]
 have ht:=locC_name l a
 unfold locA
 unfold locC at ht ⊢
 cases hx:l[a]? with
 | some x =>
  rw [hx] at ht
  simp only [List.getElem?_cons_zero,Option.some.injEq,Value.string.injEq] at ht
  rw [<- ht]
  clear ht he hx
  go_enter Tryz.func97,Tryz.ntmps97
  go_wp2_with fail
  go_ret
  exact ⟨rfl,by repeat (first|exact Below.refl _ _|apply Below.setCell _ (by first|omega|(simp<;>omega))|apply Below.alloc _ (by first|omega|(simp<;>omega)))⟩
 | none =>
  rw [hx] at ht
  simp only [List.getElem?_cons_zero,Option.some.injEq,Value.string.injEq] at ht
  rw [<- ht]
  clear ht he hx
  generalize (⟨#[]⟩:ByteArray)=ez
  go_enter Tryz.func97,Tryz.ntmps97
  go_wp2_with fail
  go_ret
  exact ⟨rfl,by repeat (first|exact Below.refl _ _|apply Below.setCell _ (by first|omega|(simp<;>omega))|apply Below.alloc _ (by first|omega|(simp<;>omega)))⟩
theorem slotf_any (l:List Nd) (a:Nat) (z:Int) (b:Nat) (w:World) (hb:w.cell? ⟨b,0,none⟩=some (.int .i64 z)) (hl:b<w.heap.size) :
  Calls Tryz.prog 96 #[locA l a,.pointer (some ⟨b,0,none⟩)] w fun e w'=>e = .returned (.bool (decide ((a:Int)=z)))/\Below w.heap.size w w':=by
 unfold locA locC
 cases hx:l[a]? with
 | some x =>
  clear hx
  by_cases h:(a:Int)=z
  ·have q:decide ((a:Int)=z)=true:=decide_eq_true h
   have q2:((a:Int) == z)=true:=by simp [h]
   rw [q]
   clear h
   go_enter Tryz.func96,Tryz.ntmps96
   go_wp2_with fail
   go_ret
   exact ⟨rfl,by repeat (first|exact Below.refl _ _|apply Below.setCell _ (by first|omega|(simp<;>omega))|apply Below.alloc _ (by first|omega|(simp<;>omega)))⟩
  ·have q:decide ((a:Int)=z)=false:=decide_eq_false h
   have q2:((a:Int) == z)=false:=by simp [h]
   rw [q]
   clear h
   go_enter Tryz.func96,Tryz.ntmps96
   go_wp2_with fail
   go_ret
   exact ⟨rfl,by repeat (first|exact Below.refl _ _|apply Below.setCell _ (by first|omega|(simp<;>omega))|apply Below.alloc _ (by first|omega|(simp<;>omega)))⟩
 | none =>
  clear hx
  by_cases h:(a:Int)=z
  ·have q:decide ((a:Int)=z)=true:=decide_eq_true h
   have q2:((a:Int) == z)=true:=by simp [h]
   rw [q]
   clear h
   go_enter Tryz.func96,Tryz.ntmps96
   go_wp2_with fail
   go_ret
   exact ⟨rfl,by repeat (first|exact Below.refl _ _|apply Below.setCell _ (by first|omega|(simp<;>omega))|apply Below.alloc _ (by first|omega|(simp<;>omega)))⟩
  ·have q:decide ((a:Int)=z)=false:=decide_eq_false h
   have q2:((a:Int) == z)=false:=by simp [h]
   rw [q]
   clear h
   go_enter Tryz.func96,Tryz.ntmps96
   go_wp2_with fail
   go_ret
   exact ⟨rfl,by repeat (first|exact Below.refl _ _|apply Below.setCell _ (by first|omega|(simp<;>omega))|apply Below.alloc _ (by first|omega|(simp<;>omega)))⟩
def LocV (l:List Nd) (w:World) (v:Value) (L:List Nat):Prop:=∃ src cap,v = .slice src L.length cap/\∀ j (hj:j<L.length),∃ g off,src=some ⟨g,off,none⟩/\g<w.heap.size/\∀ o,o<7->w.cell? ⟨g,off+j*7+o,none⟩=(locC l L[j])[o]?
theorem LocV.step {l:List Nd} {w w':World} {v:Value} {L:List Nat} (h:LocV l w v L) (hb:Below w.heap.size w w'):LocV l w' v L:=by
 obtain ⟨src,cap,hv,hx⟩:=h
 refine ⟨src,cap,hv,fun j hj=>?_⟩
 obtain ⟨g,off,h1,h2,h3⟩:=hx j hj
 exact ⟨g,off,h1,Nat.lt_of_lt_of_le h2 hb.size,fun o ho=>(hb.cell (p:=⟨g,off+j*7+o,none⟩) h2).trans (h3 o ho)⟩
theorem LocV.of_row {l:List Nd} {T:TypeId} {w:World} {B:Nat} {v:Value} {L:List Nat} (h:w.ownsRow B T 7 v L.length (flatLc l L)):LocV l w v L:=by
 obtain ⟨src,cap,hv⟩:=own_any_shape h
 refine ⟨src,cap,hv,fun j hj=>?_⟩
 rcases h.2 with ⟨q,q2⟩|⟨g,cap',cur,q,_,hg,_⟩
 ·omega
 ·rw [hv] at q
  simp only [Value.slice.injEq] at q
  refine ⟨g,0,q.1,lt_block hg,fun o ho=>?_⟩
  have e:=fm_at (locC l) 7 (locC_len l) L j hj o ho
  rw [<- e]
  have hlt:j*7+o<(flatLc l L).length:=by rw [flatLc_len];omega
  have:=h.cells (g:=g) (by rw [hv,q.1];rfl) (j*7+o) _ (List.getElem?_eq_getElem hlt)
  rw [add_at,Nat.zero_add] at this
  rw [Nat.zero_add,this]
  exact (List.getElem?_eq_getElem hlt).symm
theorem findIdx_at {p:Nat->Bool}:∀ {L:List Nat} {k:Nat} (hk:k<L.length),(∀ j (hj:j<k),p L[j]=false)->p L[k]=true->L.findIdx? p=some k:=by
 intro L k hk h1 h2
 rw [List.findIdx?_eq_some_iff_getElem]
 exact ⟨hk,h2,fun j hj=>by simp [h1 j hj]⟩
theorem findIdx_no {p:Nat->Bool} {L:List Nat} (h:∀ j (hj:j<L.length),p L[j]=false):L.findIdx? p=none:=by
 rw [List.findIdx?_eq_none_iff]
 intro a ha
 obtain ⟨j,hj,rfl⟩:=List.getElem_of_mem ha
 exact h j hj
theorem indexF_any (l:List Nd) (L:List Nat) (v:Value) (w:World) (hv:LocV l w v L) (few:L.length<=64) (p:Nat->Bool) (FNO:Nat) (CAPS:Array Value)
  (hcf:∀ (args:Array Value) (w:World),Sem.run Tryz.prog (callFunc FNO args) w = .ok (.enter FNO args) w)
  (hop:∀ w',Below w.heap.size w w'->∀ a:Nat,Calls Tryz.prog FNO (#[locA l a] ++ CAPS) w' fun e w''=>e = .returned (.bool (p a))/\Below w'.heap.size w' w'') :
  Calls Tryz.prog 95 #[v,.func (.func FNO) #[] CAPS] w fun e w'=>e = .returned (.int .i64 (idxI (L.findIdx? p)))/\Below w.heap.size w w':=by
 obtain ⟨src,cap,rfl,hx⟩:=hv
 have HX:=Lib.hid hx
 have HOP:=Lib.hid hop
 obtain ⟨n,hn⟩:∃ n,n=L.length:=⟨_,rfl⟩
 have HN:=Lib.hid hn
 rw [<- hn] at few ⊢
 clear hx hop hn
 go_enter Tryz.func95,Tryz.ntmps95
 go_wp2_with fail
 go_loopw [8] (fun a wr=>∃ j:Nat,j<=n/\a = .int .i64 j/\Below w.heap.size w wr/\∀ i (hi:i<L.length),i<j->p L[i]=false) (fun a _=>n-(intOf a).toNat)
 case atStart=>exact ⟨0,Nat.zero_le _,rfl,Below.refl _ _,fun i hi h=>absurd h (by omega)⟩
 case round =>
  obtain ⟨j,hj,rfl,hbel,hno⟩:=hrel
  have HB:=Lib.hid hbel
  have HO:=Lib.hid hno
  clear hbel hno
  by_cases hlt:j<n
  ·have hjl:j<L.length:=by have:=HN.out;omega
   obtain ⟨g,off,rfl,hg,hc⟩:=HX.out j hjl
   have hcw:∀ o,o<7->wr.cell? ⟨g,off+j*7+o,none⟩=(locC l L[j])[o]?:=fun o ho=>(HB.out.cell (p:=⟨g,off+j*7+o,none⟩) hg).trans (hc o ho)
   obtain ⟨v0,v1,v2,v3,v4,v5,v6,hloc⟩:∃ v0 v1 v2 v3 v4 v5 v6,locC l L[j]=[v0,v1,v2,v3,v4,v5,v6]:=by
    have:=locC_len l L[j]
    generalize locC l L[j]=X at this
    match X,this with
    | [v0,v1,v2,v3,v4,v5,v6],_=>exact ⟨v0,v1,v2,v3,v4,v5,v6,rfl⟩
   have HC:=Lib.hid (HOP.out wr HB.out L[j])
   unfold locA at HC
   rw [hloc] at hcw HC
   have c0:wr.cell? ⟨g,off+j*7,none⟩=some v0:=hcw 0 (by omega)
   have c1:wr.cell? ⟨g,off+j*7+1,none⟩=some v1:=hcw 1 (by omega)
   have c2:wr.cell? ⟨g,off+j*7+2,none⟩=some v2:=hcw 2 (by omega)
   have c3:wr.cell? ⟨g,off+j*7+3,none⟩=some v3:=hcw 3 (by omega)
   have c4:wr.cell? ⟨g,off+j*7+4,none⟩=some v4:=hcw 4 (by omega)
   have c5:wr.cell? ⟨g,off+j*7+5,none⟩=some v5:=hcw 5 (by omega)
   have c6:wr.cell? ⟨g,off+j*7+6,none⟩=some v6:=hcw 6 (by omega)
   have HP:=Lib.hid (findIdx_at (p:=p) hjl (fun i hi=>HO.out i (by omega) hi))
   have HQ:Hid (p L[j]=false->∀ i (hi:i<L.length),i<j+1->p L[i]=false):=Lib.hid (fun h i hi hij=>by
    by_cases q:i<j
    ·exact HO.out i hi q
    ·have:i=j:=by omega
     subst this;exact h)
   clear hc hcw hloc
   generalize p L[j]=q at *
   go_wp2_with fail
   refine HC.out.mono ?_
   rintro e w1 ⟨rfl,hb1⟩
   have HB1:=Lib.hid (after HB.out hb1)
   clear hb1
   cases q with
   | true =>
    go_wp2_with fail
    go_ret
    exact ⟨by rw [HP.out (by simp)];rfl,HB1.out⟩
   | false =>
    go_wp2_with fail
    go_roundw
    case rel=>exact ⟨j+1,by omega,by go_num,HB1.out,HQ.out (by simp)⟩
    case measure=>simp [intOf];omega
  ·have HZ:=Lib.hid (findIdx_no (p:=p) (L:=L) (fun i hi=>HO.out i hi (by have:=HN.out;omega)))
   go_wp2_with fail
   go_ret
   exact ⟨by rw [HZ.out];rfl,HB.out⟩
section
variable {l:List Nd} {w:World} {B:Nat} {S:ScV} {s:Sc} {c:Nat}
theorem ScX.cells (h:ScX l w B S s c):w.cell? ⟨S.sb,0,none⟩=some S.lv/\w.cell? ⟨S.sb,1,none⟩=some (.map (some S.ub))/\w.cell? ⟨S.sb,2,none⟩=some (.map (some S.mb))/\S.sb<w.heap.size/\∀ j,w.frozen? ⟨S.sb,j,none⟩=false:=⟨h.box.cell 0,h.box.cell 1,h.box.cell 2,h.box.lt,h.box.frozen⟩
theorem sclen_any (h:ScX l w B S s c):Calls Tryz.prog 49 #[.pointer (some ⟨S.sb,0,none⟩)] w fun e w'=>e = .returned (.int .i64 s.lc.length)/\w'=w:=by
 obtain ⟨c0,-,-,cl,-⟩:=h.cells
 obtain ⟨g,cap,hv⟩:=own_any_shape h.row
 rw [hv] at c0
 clear h hv
 generalize s.lc.length=n at *
 go_enter Tryz.func49,Tryz.ntmps49
 go_wp2_with fail
 go_ret
 exact ⟨rfl,rfl⟩
theorem scfind_any (h:ScX l w B S s c) (name:ByteArray):Calls Tryz.prog 51 #[.pointer (some ⟨S.sb,0,none⟩),.string name] w fun e w'=>e = .returned (.int .i64 (idxI (findS l s.lc name)))/\Below w.heap.size w w':=by
 have HW1:Hid (Below w.heap.size w (w.alloc (.cells #[.string name] 9))):=Lib.hid (by repeat (first|exact Below.refl _ _|apply Below.setCell _ (by first|omega|(simp<;>omega))|apply Below.alloc _ (by first|omega|(simp<;>omega))))
 obtain ⟨c0,-,-,cl,-⟩:=(h.step HW1.out).cells
 have HC:=Lib.hid (indexF_any l s.lc S.lv (w.alloc (.cells #[.string name] 9)) ((LocV.of_row h.row).step HW1.out) h.few (fun a=>decide (txtS l a=name)) 97 #[.pointer (some ⟨w.heap.size,0,none⟩)] (fun args w=>by kernel_rfl)
  (fun w' hb a=>findf_any l a name w.heap.size w' (by
   have:=hb.cell (p:=⟨w.heap.size,0,none⟩) (by simp)
   rw [this];simp [go_sem]) (by have:=hb.size;simp at this;omega)))
 have e:findS l s.lc name=s.lc.findIdx? (fun a=>decide (txtS l a=name)):=rfl
 rw [e]
 clear h e
 go_enter Tryz.func51,Tryz.ntmps51
 go_wp2_with fail
 refine HC.out.mono ?_
 rintro e w1 ⟨rfl,hb1⟩
 have HB:=Lib.hid (after HW1.out hb1)
 clear hb1 c0 cl
 go_wp2_with fail
 go_ret
 exact ⟨rfl,HB.out⟩
end
end Go.Proofs.YtfehpdliobapfaaGreatDoor.S
namespace Go.Proofs.YtfehpdliobapfaaGreatDoor.S
open Go Go.RowKit
theorem indexI_any (K:List Int) (v:Value) (w:World) (h:NumsV w v K) (hl:K.length<=17592186044416) (z:Int) :
  Calls Tryz.prog 166 #[v,.int .i64 z] w fun e w'=>∃ r:Int,e = .returned (.int .i64 r)/\w'=w/\((0<=r) ↔ z ∈ K):=by
 obtain ⟨src,cap,rfl,hn⟩:=h
 have HN:=Lib.hid hn
 obtain ⟨n,hln⟩:∃ n,n=K.length:=⟨_,rfl⟩
 have HL:=Lib.hid hln
 rw [<- hln] at hl ⊢
 clear hn hln
 go_enter Tryz.func166,Tryz.ntmps166
 go_wp2_with fail
 go_loopw [8] (fun a wr=>∃ j:Nat,j<=n/\a = .int .i64 j/\wr=w/\∀ i (hi:i<K.length),i<j->z≠K[i]) (fun a _=>n-(intOf a).toNat)
 case atStart=>exact ⟨0,Nat.zero_le _,rfl,rfl,fun i hi h=>absurd h (by omega)⟩
 case round =>
  obtain ⟨j,hj,rfl,rfl,hno⟩:=hrel
  have HO:=Lib.hid hno
  clear hno
  by_cases hlt:j<n
  ·have hjl:j<K.length:=by have:=HL.out;omega
   obtain ⟨b,off,rfl,hb,hrow⟩:=HN.out (by omega)
   have c0:=hrow j hjl
   have HM:Hid (K[j] ∈ K):=Lib.hid (List.getElem_mem hjl)
   have HQ:Hid (z≠K[j]->∀ i (hi:i<K.length),i<j+1->z≠K[i]):=Lib.hid (fun h i hi hij=>by
    by_cases q:i<j
    ·exact HO.out i hi q
    ·have:i=j:=by omega
     subst this;exact h)
   clear hrow
   generalize K[j]=k at *
   by_cases hz:z=k
   ·have q:(z == k)=true:=by simp [hz]
    have q1:decide (z=k)=true:=decide_eq_true hz
    have HZ:=Lib.hid hz
    clear hz
    go_wp2_with fail
    go_ret
    exact ⟨_,rfl,rfl,⟨fun _=>by rw [HZ.out];exact HM.out,fun _=>by omega⟩⟩
   ·have q:(z == k)=false:=by simp [hz]
    have q1:decide (z=k)=false:=decide_eq_false hz
    have HZ:=Lib.hid hz
    clear hz
    go_wp2_with fail
    go_roundw
    case rel=>exact ⟨j+1,by omega,by go_num,by trivial,HQ.out HZ.out⟩
    case measure=>simp [intOf];omega
  ·have HF:Hid (z ∉ K):=Lib.hid (fun hm=>by
    obtain ⟨i,hi,hk⟩:=List.getElem_of_mem hm
    exact HO.out i hi (by have:=HL.out;omega) hk.symm)
   go_wp2_with fail
   go_ret
   exact ⟨_,rfl,rfl,⟨fun h=>absurd h (by omega),fun h=>absurd h HF.out⟩⟩
theorem containsI_any (K:List Int) (v:Value) (w:World) (h:NumsV w v K) (hl:K.length<=17592186044416) (z:Int) :
  Calls Tryz.prog 130 #[v,.int .i64 z] w fun e w'=>e = .returned (.bool (decide (z ∈ K)))/\w'=w:=by
 have HC:=Lib.hid (indexI_any K v w h hl z)
 clear h hl
 go_enter Tryz.func130,Tryz.ntmps130
 go_wp2_with fail
 refine HC.out.mono ?_
 rintro e w1 ⟨r,rfl,rfl,hr⟩
 by_cases hz:z ∈ K
 ·have q:decide (0<=r)=true:=decide_eq_true (hr.2 hz)
  have E:=Lib.hid (decide_eq_true hz)
  clear hr hz
  go_wp2_with fail
  go_ret
  exact ⟨by rw [E.out];rfl,rfl⟩
 ·have q:decide (0<=r)=false:=decide_eq_false (fun h=>hz (hr.1 h))
  have E:=Lib.hid (decide_eq_false hz)
  clear hr hz
  go_wp2_with fail
  go_ret
  exact ⟨by rw [E.out];rfl,rfl⟩
section
variable {l:List Nd} {w:World} {B:Nat} {S:ScV} {s:Sc} {c:Nat}
theorem zero_int:(zeroValue 3).run Tryz.prog w = .ok (.int .i64 0) w:=by kernel_rfl
theorem und_map:Tryz.prog.underlying 135=some (.map 3 3):=by kernel_rfl
theorem look_int (h:ScX l w B S s c) {z:Int} (hz:In64 z):(Instr.lookup 135 (.map (some S.ub)) (.int .i64 z) true).run Tryz.prog w = .ok (.tuple #[(natF s.us (.int .i64 z)).getD (.int .i64 0),.bool (natF s.us (.int .i64 z)).isSome]) w:=by
 have:=h.uses.look int_keyed' und_map (w:=w) zero_int (int_key hz) true
 simpa using this
theorem slot_any (h:ScX l w B S s c) {z:Int} (hz:In64 z):Calls Tryz.prog 50 #[.pointer (some ⟨S.sb,0,none⟩),.int .i64 z] w fun e w'=>e = .returned (.int .i64 (if z<0 then -1 else idxI (slotS s z.toNat)))/\Below w.heap.size w w':=by
 have HW1:Hid (Below w.heap.size w (w.alloc (.cells #[.int .i64 z] 3))):=Lib.hid (by repeat (first|exact Below.refl _ _|apply Below.setCell _ (by first|omega|(simp<;>omega))|apply Below.alloc _ (by first|omega|(simp<;>omega))))
 have h1:=h.step HW1.out
 obtain ⟨c0,c1,-,cl,-⟩:=h1.cells
 have hlk:∀ n,(Instr.lookup 135 (.map (some S.ub)) (.int .i64 z) true).run Tryz.prog ((w.alloc (.cells #[.int .i64 z] 3)).drewN n) = .ok (.tuple #[(natF s.us (.int .i64 z)).getD (.int .i64 0),.bool (natF s.us (.int .i64 z)).isSome]) ((w.alloc (.cells #[.int .i64 z] 3)).drewN n):=fun n=>look_int (w:=(w.alloc (.cells #[.int .i64 z] 3)).drewN n) (h1.step (below_drewN (Below.refl _ _) n)) hz
 have HC:=Lib.hid (fun w1 (hb:Below (w.alloc (.cells #[.int .i64 z] 3)).heap.size (w.alloc (.cells #[.int .i64 z] 3)) w1)=>indexF_any l s.lc S.lv w1 ((LocV.of_row h1.row).step hb) h.few (fun a:Nat=>decide ((a:Int)=z)) 96 #[.pointer (some ⟨w.heap.size,0,none⟩)] (fun args w=>by kernel_rfl)
  (fun w' hb' a=>slotf_any l a z w.heap.size w' (by
   have h2:=hb.cell (p:=⟨w.heap.size,0,none⟩) (by simp)
   have h3:=hb'.cell (p:=⟨w.heap.size,0,none⟩) (by have:=hb.size;simp at this ⊢;omega)
   rw [h3,h2];simp [go_sem]) (by have:=hb'.size;have:=hb.size;simp at this;omega)))
 by_cases hneg:z<0
 ·have e1:natF s.us (.int .i64 z)=none:=natF_neg _ hneg
  have e2:s.lc.findIdx? (fun a:Nat=>decide ((a:Int)=z))=none:=by
   rw [List.findIdx?_eq_none_iff]
   intro a ha
   simp;omega
  rw [e1] at hlk
  rw [e2] at HC
  rw [if_pos hneg]
  simp only [Option.getD_none,Option.isSome_none] at hlk
  clear h h1 hneg e1 e2
  go_enter Tryz.func50,Tryz.ntmps50
  go_wp2_with fail
  go_quiet (fail)
  have c0:((w.alloc (.cells #[.int .i64 z] 3)).drewN nq).cell? ⟨S.sb,0,none⟩=some S.lv:=c0
  have cl:S.sb<((w.alloc (.cells #[.int .i64 z] 3)).drewN nq).heap.size:=cl
  have HB5:Hid (Below (w.alloc (.cells #[.int .i64 z] 3)).heap.size (w.alloc (.cells #[.int .i64 z] 3)) ((w.alloc (.cells #[.int .i64 z] 3)).drewN nq)):=Lib.hid (below_drewN (Below.refl _ _) _)
  generalize (w.alloc (.cells #[.int .i64 z] 3)).drewN nq=W5 at *
  go_wp2_with fail
  refine (HC.out _ HB5.out).mono ?_
  rintro e w1 ⟨rfl,hb1⟩
  have HB:=Lib.hid (after (after HW1.out HB5.out) hb1)
  clear hb1
  go_wp2_with fail
  go_ret
  exact ⟨rfl,HB.out⟩
 ·obtain ⟨a,rfl⟩:∃ a:Nat,z=a:=⟨z.toNat,by omega⟩
  have e1:natF s.us (.int .i64 (a:Int))=(s.us a).map fun (k:Nat)=>.int .i64 (k:Int):=natF_at _ _
  have e2:(fun x:Nat=>decide ((x:Int)=(a:Int)))=fun x=>decide (x=a):=by
   funext x
   by_cases q:x=a
   ·simp [q]
   ·simp [q];omega
  rw [e1] at hlk
  rw [e2] at HC
  rw [if_neg hneg]
  have e3:slotS s (a:Int).toNat=slotS s a:=rfl
  rw [e3]
  unfold slotS
  cases hu:s.us a with
  | some k =>
   rw [hu] at hlk
   simp only [Option.map_some,Option.getD_some,Option.isSome_some] at hlk
   clear h h1 hneg e1 e2 e3 hu HC
   go_enter Tryz.func50,Tryz.ntmps50
   go_wp2_with fail
   go_quiet (fail)
   go_wp2_with fail
   go_ret
   exact ⟨rfl,below_drewN HW1.out _⟩
  | none =>
   rw [hu] at hlk
   simp only [Option.map_none,Option.getD_none,Option.isSome_none] at hlk
   clear h h1 hneg e1 e2 e3 hu
   go_enter Tryz.func50,Tryz.ntmps50
   go_wp2_with fail
   go_quiet (fail)
   have c0:((w.alloc (.cells #[.int .i64 (a:Int)] 3)).drewN nq).cell? ⟨S.sb,0,none⟩=some S.lv:=c0
   have cl:S.sb<((w.alloc (.cells #[.int .i64 (a:Int)] 3)).drewN nq).heap.size:=cl
   have HB5:Hid (Below (w.alloc (.cells #[.int .i64 (a:Int)] 3)).heap.size (w.alloc (.cells #[.int .i64 (a:Int)] 3)) ((w.alloc (.cells #[.int .i64 (a:Int)] 3)).drewN nq)):=Lib.hid (below_drewN (Below.refl _ _) _)
   generalize (w.alloc (.cells #[.int .i64 (a:Int)] 3)).drewN nq=W5 at *
   go_wp2_with fail
   refine (HC.out _ HB5.out).mono ?_
   rintro e w1 ⟨rfl,hb1⟩
   have HB:=Lib.hid (after (after HW1.out HB5.out) hb1)
   clear hb1
   go_wp2_with fail
   go_ret
   exact ⟨rfl,HB.out⟩
end
theorem _root_.Go.Proofs.YtfehpdliobapfaaGreatDoor.Bx.seven {T:TypeId} {w:World} {b:Nat} {v0 v1 v2 v3 v4 v5 v6:Value} (h:Bx T w b [v0,v1,v2,v3,v4,v5,v6]) :
  (w.cell? ⟨b,0,none⟩=some v0/\w.cell? ⟨b,1,none⟩=some v1/\w.cell? ⟨b,2,none⟩=some v2/\w.cell? ⟨b,3,none⟩=some v3/\w.cell? ⟨b,4,none⟩=some v4/\w.cell? ⟨b,5,none⟩=some v5/\w.cell? ⟨b,6,none⟩=some v6)/\b<w.heap.size/\∀ j,w.frozen? ⟨b,j,none⟩=false :=
 ⟨⟨h.cell 0,h.cell 1,h.cell 2,h.cell 3,h.cell 4,h.cell 5,h.cell 6⟩,h.lt,h.frozen⟩
theorem lcopy_any (T:ByteArray) (b0:Int) (N:ByteArray) (d0:Int) (M:ByteArray) (a:Int) (p:Bool) (w:World) (st:T.size<=281474976710656) (sn:N.size<=281474976710656) (sm:M.size<=281474976710656) :
  Calls Tryz.prog 94 #[.agg #[.string T,.int .i64 b0,.string N,.int .i64 d0,.string M,.int .i64 a,.bool p]] w fun e w'=>e = .returned (.agg #[.string T,.int .i64 b0,.string N,.int .i64 d0,.string M,.int .i64 a,.bool p])/\Below w.heap.size w w':=by
 have HT:=Lib.hid (fun w=>clone_any T w st)
 have HN:=Lib.hid (fun w=>clone_any N w sn)
 have HM:=Lib.hid (fun w=>clone_any M w sm)
 clear st sn sm
 go_enter Tryz.func94,Tryz.ntmps94
 go_wp2_with fail
 refine (HT.out _).mono ?_
 rintro e w1 ⟨rfl,h01⟩
 obtain ⟨hb1,x1,r1⟩:=new_two h01
 have B1:=Lib.hid hb1
 have X1:=Lib.hid x1
 have R1:=Lib.hid r1
 clear h01 hb1 x1 r1
 obtain ⟨⟨a0,a1,a2,a3,a4,a5,a6⟩,al,af⟩:=X1.out.seven
 go_wp2_with fail
 have HS:Hid (Below w.heap.size w (w1.setCell ⟨w.heap.size,0,none⟩ (.string T))):=Lib.hid (B1.out.setCell (Nat.le_refl _) _)
 refine (HN.out _).mono ?_
 rintro e w2 ⟨rfl,h12⟩
 have B2:=Lib.hid (after HS.out h12)
 have X2:Hid (Bx 88 w2 w.heap.size [.string T,.int .i64 b0,.string N,.int .i64 d0,.string M,.int .i64 a,.bool p]):=Lib.hid ((X1.out.set 0 (.string T)).keep h12)
 have R2:=Lib.hid ((R1.out.other (b':=w.heap.size) (by omega) 0 (.string T)).keep h12)
 clear a0 a1 a2 a3 a4 a5 a6 al af
 clear X1 B1 R1 HS h12
 have X1:=X2
 clear X2
 obtain ⟨⟨a0,a1,a2,a3,a4,a5,a6⟩,al,af⟩:=X1.out.seven
 go_wp2_with fail
 have HS:Hid (Below w.heap.size w (w2.setCell ⟨w.heap.size,2,none⟩ (.string N))):=Lib.hid (B2.out.setCell (Nat.le_refl _) _)
 refine (HM.out _).mono ?_
 rintro e w3 ⟨rfl,h12⟩
 have B3:=Lib.hid (after HS.out h12)
 have X2:Hid (Bx 88 w3 w.heap.size [.string T,.int .i64 b0,.string N,.int .i64 d0,.string M,.int .i64 a,.bool p]):=Lib.hid ((X1.out.set 2 (.string N)).keep h12)
 have R3:=Lib.hid ((R2.out.other (b':=w.heap.size) (by omega) 2 (.string N)).keep h12)
 clear a0 a1 a2 a3 a4 a5 a6 al af
 clear X1 B2 R2 HS h12
 have X1:=X2
 clear X2
 obtain ⟨⟨a0,a1,a2,a3,a4,a5,a6⟩,al,af⟩:=X1.out.seven
 obtain ⟨⟨r0,r1,r2,r3,r4,r5,r6⟩,rl,rf⟩:=R3.out.seven
 go_wp2_with fail
 have F3:=Lib.hid ((B3.out.setCell (p:=⟨w.heap.size,4,none⟩) (Nat.le_refl _) (.string M)).trans (fill_below (w.heap.size+1) (Nat.le_succ _) [.string T,.int .i64 b0,.string N,.int .i64 d0,.string M,.int .i64 a,.bool p] 0 _))
 refine bodyPost_ret (v:=.agg #[.string T,.int .i64 b0,.string N,.int .i64 d0,.string M,.int .i64 a,.bool p]) (by simp [results,Tryz.results94,go_sem,r0,r1,r2,r3,r4,r5,r6]) rfl ?_
 exact ⟨rfl,F3.out⟩
structure NdsB (W0:World) (B:Nat) (nv:Value) (l:List Nd):Prop where
 nds:NdsV W0 nv l
 ahead:W0.heap.size<=B
section
variable {l:List Nd} {W0 w:World} {B:Nat} {nv:Value} {S:ScV} {wb:Nat} {ov:Value} {held:Bool} {s:Sc} {c:Nat}
theorem NdsB.node (h:NdsB W0 B nv l) {a:Nat} (ha:a<l.length):∃ nb off cap,nv = .slice (some ⟨nb,off,none⟩) l.length cap/\nb<W0.heap.size/\∃ kv ev,∀ w',Below B W0 w'->NdAt w' nb (off+a*13) l[a] kv ev:=by
 obtain ⟨src,cap,rfl,hn⟩:=h.nds
 obtain ⟨nb,off,rfl,hb,hat⟩:=hn (by omega)
 obtain ⟨kv,ev,hx⟩:=hat a ha
 exact ⟨nb,off,cap,rfl,hb,kv,ev,fun w' hb'=>hx.step hb (hb'.mono h.ahead)⟩
theorem ScM.cells (h:ScM l W0 w B nv S wb ov held s c):w.cell? ⟨wb,0,none⟩=some (.pointer (some ⟨S.sb,0,none⟩))/\w.cell? ⟨wb,1,none⟩=some nv/\w.cell? ⟨wb,2,none⟩=some ov/\w.cell? ⟨wb,3,none⟩=some (.bool held)/\wb<w.heap.size/\∀ j,w.frozen? ⟨wb,j,none⟩=false:=⟨h.wbox.cell 0,h.wbox.cell 1,h.wbox.cell 2,h.wbox.cell 3,h.wbox.lt,h.wbox.frozen⟩
theorem wfault_any (h:ScM l W0 w B nv S wb ov held s c) (hn:NdsB W0 B nv l) {a:Nat} (ha:a<l.length) (code:Int) (hl:l.length<=16384) :
  Calls Tryz.prog 167 #[(.pointer (some ⟨wb,0,none⟩)),.int .i64 code,.int .i64 (a:Nat)] w fun e w'=>e = .returned (.agg #[.int .i64 code,.int .i64 (sfrS l a)])/\Below w.heap.size w w':=by
 obtain ⟨-,c1,-,-,cl,-⟩:=h.cells
 obtain ⟨nb,off,cap,rfl,hnb,kv,ev,hx⟩:=hn.node ha
 have d1:=(hx w h.bel).c1
 have hnl:nb<w.heap.size:=Nat.lt_of_lt_of_le hnb h.bel.size
 rw [sfrS_get ha]
 clear h hn hx
 generalize l[a].sf=sf at *
 generalize l.length=n at *
 have i0:(0:Int)<=(a:Int):=by omega
 have i1:(a:Int)<(n:Int):=by omega
 go_enter Tryz.func167,Tryz.ntmps167
 go_wp2_with fail
 refine bodyPost_ret (v:=.agg #[.int .i64 code,.int .i64 sf]) (by simp [results,Tryz.results167,go_sem]) rfl ?_
 exact ⟨rfl,by repeat (first|exact Below.refl _ _|apply Below.setCell _ (by first|omega|(simp<;>omega))|apply Below.alloc _ (by first|omega|(simp<;>omega)))⟩
end
end Go.Proofs.YtfehpdliobapfaaGreatDoor.S
namespace Go.Proofs.YtfehpdliobapfaaGreatDoor.S
open Go Go.RowKit
theorem infoLoc:(Tryz.prog.info? 88).map (fun i=>(i.zero,i.size,i.bytes))=some (some (.agg #[.string ⟨#[]⟩,.int .i64 0,.string ⟨#[]⟩,.int .i64 0,.string ⟨#[]⟩,.int .i64 0,.bool false]),7,80):=by kernel_rfl
theorem infoI':(Tryz.prog.info? 3).map (fun i=>(i.zero,i.size,i.bytes))=some (some (.int .i64 0),1,8):=by kernel_rfl
section
variable {l:List Nd} {W0 w w':World} {B:Nat} {nv:Value} {S:ScV} {wb:Nat} {ov:Value} {held:Bool} {s:Sc} {c:Nat}
theorem ScX.reop (h:ScX l w B S s c) (L:List Nat):ScX l w B S { s with op:=L } c:=⟨h.bs,h.bu,h.bm,h.ne,h.box,h.row,h.few,h.uses,h.sets⟩
theorem OpM.append {v:Value} {L:List Int} (h:OpM w B v L) (k:Int) (ad:Addr) (hk:∀ j u,([.int .i64 k]:List Value)[j]? = some u->w.cell? (ad.add j)=some u) (hB:B<=w.heap.size) (hL:L.length<=64) (ty:TypeId) :
  ∃ v' w',(Builtin.append_ #[57,57] ty #[v,.slice (some ad) 1 1]).run Tryz.prog w = .ok v' w'/\w'.ownsRow B 3 1 v' (L ++ [k]).length (numC (L ++ [k]))/\w.grownBy w' v.ownBlock:=by
 obtain ⟨i,hi,hz,hs,hb⟩:=info_parts infoI'
 have one:∀ u ∈ ([.int .i64 k]:List Value),u.oneCell'=true:=by intro u hu;rw [List.mem_singleton] at hu;rw [hu];rfl
 have e1:numC (L ++ [k])=numC L ++ [.int .i64 k]:=by simp [numC]
 rw [e1,List.length_append]
 rcases h with h|⟨g,cur,rfl,h1,h2,h3,h4⟩
 ·obtain ⟨v',w',r1,r2,r3,r4⟩:=run_append_own (P:=Tryz.prog) w B 57 ty 3 i _ 1 8 Tryz.underlying57 hi hz hs hb rfl (by decide) v L.length (numC L) h ad 1 1 [.int .i64 k] rfl hk one (by unfold maxLen;omega) (by omega) hB
  exact ⟨v',w',r1,r2,r3⟩
 ·have hlen:(numC L).length=L.length:=by simp [numC]
  have holds:∀ j u,(numC L)[j]? = some u->w.cell? ((⟨g,0,none⟩:Addr).add j)=some u:=fun j u hj=>by
   rw [add_at,Nat.zero_add,cell_at h2]
   have hjl:j<L.length:=by rw [<- hlen];exact (List.getElem?_eq_some_iff.1 hj).1
   have h5:(cur.toList.take L.length)[j]? = (numC L)[j]?:=by rw [h4]
   rw [List.getElem?_take_of_lt hjl,Array.getElem?_toList] at h5
   rw [h5];exact hj
  have hr:=run_append_grow (P:=Tryz.prog) w 57 ty 3 i _ Tryz.underlying57 hi hz ⟨g,0,none⟩ L.length L.length (numC L) (by rw [hlen,hs];omega) holds ad 1 1 [.int .i64 k] (by rw [hs];rfl) hk (by omega) (by omega) (growslice_fits (by omega) (by rw [hb];omega))
  refine ⟨_,_,hr,⟨by simp [numC],.inr ⟨w.heap.size,_,_,rfl,hB,heap_alloc_new w.drew _,grownCap_ge w (L.length+1) L.length 3,grownCap_le_maxLen w (L.length+1) L.length 3 (by unfold maxLen;omega),?_,?_⟩⟩,⟨rfl,rfl,rfl,by simp,fun k hk _=>Below.heap_alloc w.drew _ k (by simpa using hk)⟩⟩
  ·have hge:=grownCap_ge w (L.length+1) L.length 3
   simp only [Array.size_append,List.size_toArray,size_zeroCells,hlen]
   simp [Value.cells]
   omega
  ·simp only [Array.toList_append,List.append_assoc]
   rw [<- List.append_assoc,show (L.length+[k].length)*1=(numC L ++ [Value.int IntKind.i64 k]).length by simp [numC]]
   exact List.take_left
theorem ScM.grow (h:ScM l W0 w B nv S wb ov held s c) {o':Obj} {v':Value} {a:Nat} (hB:B<=w.heap.size) (hf:s.lc.length<64)
  (hown:w'.ownsRow B 88 7 v' (s.lc.length+1) (flatLc l s.lc ++ locC l a)) (hg:(w.alloc o').grownBy w' S.lv.ownBlock) :
  ScM l W0 (w'.setCell ⟨S.sb,0,none⟩ v') B nv { S with lv:=v' } wb ov held { s with lc:=s.lc ++ [a] } c/\Bx 137 w' S.sb [S.lv,.map (some S.ub),.map (some S.mb)]:=by
 obtain ⟨t1,t2,t3,t4,t5,t6⟩:=types_ne
 have hne:∀ k,S.lv.ownBlock=some k->∀ j,j≠k->j<w.heap.size->w'.heap[j]? = w.heap[j]?:=fun k hk j hj hjl=>by
  rw [hg.block j (by simp;omega) (fun e=>hj (by rw [hk] at e;exact Option.some.inj e)),Below.heap_alloc w _ j hjl]
 have far:∀ j,some j≠S.lv.ownBlock->j<w.heap.size->w'.heap[j]? = w.heap[j]?:=fun j hj hjl=>by
  rw [hg.block j (by simp;omega) hj,Below.heap_alloc w _ j hjl]
 have nsb:some S.sb≠S.lv.ownBlock:=own_ne h.sc.row h.sc.box t4
 have nwb:some wb≠S.lv.ownBlock:=own_ne h.sc.row h.wbox t5
 have nmap:∀ k f n,MapIs Tryz.prog 3 w k n f->some k≠S.lv.ownBlock:=fun k f n hm=>by
  rcases h.sc.row.2 with ⟨q,_⟩|⟨g,cap,cur,q,_,hg2,_⟩
  ·rw [q];simp [Value.ownBlock]
  ·rw [q]
   intro e
   simp [Value.ownBlock] at e
   exact hm.ne_cells hg2 e
 have nov:∀ k,ov.ownBlock=some k->some k≠S.lv.ownBlock:=fun k hk e=>by
  rcases h.sc.row.2 with ⟨q,_⟩|⟨g,cap,cur,q,_,hg2,_⟩
  ·rw [q] at e;simp [Value.ownBlock] at e
  ·rw [q] at e
   simp [Value.ownBlock] at e
   subst e
   exact h.opn.ne hg2 t6 hk.symm
 have bbox:Bx 137 w' S.sb [S.lv,.map (some S.ub),.map (some S.mb)]:=h.sc.box.at_ (far _ nsb h.sc.box.lt)
 have bel':Below B W0 w':=h.bel.trans (Below.grown ((Below.refl B w).alloc hB o') hg (by simp;omega) (fun j hj=>(h.sc.row.lt j hj).1))
 have hlv':∀ k,v'.ownBlock=some k->k≠S.sb:=fun k hk e=>by
  have:=own_ne hown bbox t4
  exact this (by rw [hk,e])
 have set_o:∀ k,k≠S.sb->(w'.setCell ⟨S.sb,0,none⟩ v').heap[k]? = w'.heap[k]?:=fun k hk=>heap_setCell_other _ _ k v' (by simpa using hk)
 have sz:w.heap.size<=(w'.setCell ⟨S.sb,0,none⟩ v').heap.size:=by have:=hg.size;simp at this ⊢;omega
 refine ⟨⟨bel'.setCell (p:=⟨S.sb,0,none⟩) h.sc.bs v',h.bw,⟨h.sc.bs,h.sc.bu,h.sc.bm,h.sc.ne,?_,?_,?_,?_,?_⟩,?_,?_⟩,bbox⟩
 ·have:=bbox.set 0 v'
  simpa using this
 ·have e1:flatLc l (s.lc ++ [a])=flatLc l s.lc ++ locC l a:=by simp [flatLc]
  show World.ownsRow _ B 88 7 v' (s.lc ++ [a]).length (flatLc l (s.lc ++ [a]))
  rw [e1,List.length_append]
  exact row_at hown (by simp) (fun k hk=>set_o k (hlv' k hk))
 ·show (s.lc ++ [a]).length<=64
  simp;omega
 ·exact h.sc.uses.at_ ((set_o _ (h.sc.uses.ne_cells h.sc.box)).trans (far _ (nmap _ _ _ h.sc.uses) h.sc.uses.lt))
 ·exact h.sc.sets.at_ ((set_o _ (h.sc.sets.ne_cells h.sc.box)).trans (far _ (nmap _ _ _ h.sc.sets) h.sc.sets.lt))
 ·refine h.wbox.at_ ((set_o _ ?_).trans (far _ nwb h.wbox.lt))
  intro e
  have h1:=h.wbox
  have h2:=h.sc.box
  unfold Bx at h1 h2
  rw [e,h2] at h1
  simp at h1
 ·refine h.opn.at_ sz (fun k hk=>(set_o _ ?_).trans (far _ (nov k hk) (h.opn.lt hk)))
  intro e
  exact h.opn.ne h.sc.box t1 (by rw [hk,e])
theorem ScM.opens (h:ScM l W0 w B nv S wb ov held s c) {o':Obj} {v':Value} {L:List Nat} (hB:B<=w.heap.size)
  (hown:w'.ownsRow B 3 1 v' (natI L).length (numC (natI L))) (hg:(w.alloc o').grownBy w' ov.ownBlock) :
  ScM l W0 (w'.setCell ⟨wb,2,none⟩ v') B nv S wb v' held { s with op:=L } c/\Bx 140 w' wb [.pointer (some ⟨S.sb,0,none⟩),nv,ov,.bool held]:=by
 obtain ⟨t1,t2,t3,t4,t5,t6⟩:=types_ne
 have far:∀ j,some j≠ov.ownBlock->j<w.heap.size->w'.heap[j]? = w.heap[j]?:=fun j hj hjl=>by
  rw [hg.block j (by simp;omega) hj,Below.heap_alloc w _ j hjl]
 have nwb:some wb≠ov.ownBlock:=h.opn.ne h.wbox t2
 have nsb:some S.sb≠ov.ownBlock:=h.opn.ne h.sc.box t1
 have nmap:∀ k f n,MapIs Tryz.prog 3 w k n f->some k≠ov.ownBlock:=fun k f n hm=>by
  rcases h.opn with ⟨_,⟨q,_⟩|⟨g,cap,cur,q,_,hg2,_⟩⟩|⟨g,cur,q,_,hg2,_⟩
  ·rw [q];simp [Value.ownBlock]
  ·rw [q]
   intro e
   simp [Value.ownBlock] at e
   exact hm.ne_cells hg2 e
  ·rw [q]
   intro e
   simp [Value.ownBlock] at e
   exact hm.ne_cells hg2 e
 have nlv:∀ k,S.lv.ownBlock=some k->some k≠ov.ownBlock:=fun k hk e=>by
  rcases h.sc.row.2 with ⟨q,_⟩|⟨g,cap,cur,q,_,hg2,_⟩
  ·rw [q] at hk;simp [Value.ownBlock] at hk
  ·rw [q] at hk
   simp [Value.ownBlock] at hk
   subst hk
   exact h.opn.ne hg2 t6 e
 have bbox:Bx 140 w' wb [.pointer (some ⟨S.sb,0,none⟩),nv,ov,.bool held]:=h.wbox.at_ (far _ nwb h.wbox.lt)
 have bel':Below B W0 w':=h.bel.trans (Below.grown ((Below.refl B w).alloc hB o') hg (by simp;omega) (fun j hj=>by
  rcases h.opn with q|⟨g,cur,q,q1,_⟩
  ·exact (q.lt j hj).1
  ·rw [q] at hj;simp [Value.ownBlock] at hj;omega))
 have set_o:∀ k,k≠wb->(w'.setCell ⟨wb,2,none⟩ v').heap[k]? = w'.heap[k]?:=fun k hk=>heap_setCell_other _ _ k v' (by simpa using hk)
 have sbwb:S.sb≠wb:=fun e=>by
  have h1:=h.wbox
  have h2:=h.sc.box
  unfold Bx at h1 h2
  rw [<- e,h2] at h1
  simp at h1
 have sz:w.heap.size<=(w'.setCell ⟨wb,2,none⟩ v').heap.size:=by have:=hg.size;simp at this ⊢;omega
 refine ⟨⟨bel'.setCell (p:=⟨wb,2,none⟩) h.bw v',h.bw,(h.sc.at_ sz ?_).reop L,?_,.inl ?_⟩,bbox⟩
 ·intro k hk
  have hkl:=h.sc.lt hk
  rcases hk with rfl|rfl|rfl|hk
  ·exact (set_o _ sbwb).trans (far _ nsb hkl)
  ·exact (set_o _ (h.sc.uses.ne_cells h.wbox)).trans (far _ (nmap _ _ _ h.sc.uses) hkl)
  ·exact (set_o _ (h.sc.sets.ne_cells h.wbox)).trans (far _ (nmap _ _ _ h.sc.sets) hkl)
  ·refine (set_o _ ?_).trans (far _ (nlv k hk) hkl)
   intro e
   exact own_ne h.sc.row h.wbox t5 (by rw [hk,e])
 ·have:=bbox.set 2 v'
  simpa using this
 ·refine row_at hown (by simp) (fun k hk=>set_o k (fun e=>?_))
  exact own_ne hown bbox t2 (by rw [hk,e])
theorem ScM.wset (h:ScM l W0 w B nv S wb ov held s c) (b:Bool):ScM l W0 (w.setCell ⟨wb,3,none⟩ (.bool b)) B nv S wb ov b s c:=by
 obtain ⟨t1,t2,t3,t4,t5,t6⟩:=types_ne
 have set_o:∀ k,k≠wb->(w.setCell ⟨wb,3,none⟩ (.bool b)).heap[k]? = w.heap[k]?:=fun k hk=>heap_setCell_other _ _ k _ (by simpa using hk)
 refine ⟨h.bel.setCell (p:=⟨wb,3,none⟩) h.bw _,h.bw,h.sc.at_ (by simp) ?_,?_,h.opn.at_ (by simp) (fun k hk=>set_o k (fun e=>?_))⟩
 ·intro k hk
  refine set_o k ?_
  rcases hk with rfl|rfl|rfl|hk
  ·intro e
   have h1:=h.wbox
   have h2:=h.sc.box
   unfold Bx at h1 h2
   rw [<- e,h2] at h1
   simp at h1
  ·exact h.sc.uses.ne_cells h.wbox
  ·exact h.sc.sets.ne_cells h.wbox
  ·intro e
   exact own_ne h.sc.row h.wbox t5 (by rw [hk,e])
 ·have:=h.wbox.set 3 (.bool b)
  simpa using this
 ·exact h.opn.ne h.wbox t2 (by rw [hk,e])
theorem ScM.wcut (h:ScM l W0 w B nv S wb ov held s c) {v':Value} {L:List Nat} (ho:OpM w B v' (natI L)):ScM l W0 (w.setCell ⟨wb,2,none⟩ v') B nv S wb v' held { s with op:=L } c:=by
 obtain ⟨t1,t2,t3,t4,t5,t6⟩:=types_ne
 have set_o:∀ k,k≠wb->(w.setCell ⟨wb,2,none⟩ v').heap[k]? = w.heap[k]?:=fun k hk=>heap_setCell_other _ _ k _ (by simpa using hk)
 refine ⟨h.bel.setCell (p:=⟨wb,2,none⟩) h.bw _,h.bw,(h.sc.at_ (by simp) ?_).reop L,?_,ho.at_ (by simp) (fun k hk=>set_o k (fun e=>?_))⟩
 ·intro k hk
  refine set_o k ?_
  rcases hk with rfl|rfl|rfl|hk
  ·intro e
   have h1:=h.wbox
   have h2:=h.sc.box
   unfold Bx at h1 h2
   rw [<- e,h2] at h1
   simp at h1
  ·exact h.sc.uses.ne_cells h.wbox
  ·exact h.sc.sets.ne_cells h.wbox
  ·intro e
   exact own_ne h.sc.row h.wbox t5 (by rw [hk,e])
 ·have:=h.wbox.set 2 v'
  simpa using this
 ·exact ho.ne h.wbox t2 (by rw [hk,e])
def Kept (w w':World):Prop:=∀ (k:Nat) (cs:Array Value) (T:TypeId) (fz:Nat × Nat),w.heap[k]? = some (Obj.cells cs T fz)->T≠137->T≠140->T≠88->T≠3->w'.heap[k]? = w.heap[k]?
theorem Kept.of_below {w w':World} (h:Below w.heap.size w w'):Kept w w':=fun k cs T fz hk _ _ _ _=>h.block k (lt_block hk)
theorem Kept.refl (w:World):Kept w w:=fun _ _ _ _ _ _ _ _ _=>rfl
theorem Kept.trans {w w1 w2:World} (h:Kept w w1) (h2:Kept w1 w2):Kept w w2:=fun k cs T fz hk t1 t2 t3 t4=>by
 have e:=h k cs T fz hk t1 t2 t3 t4
 exact (h2 k cs T fz (by rw [e];exact hk) t1 t2 t3 t4).trans e
theorem Kept.box {w w':World} (h:Kept w w') {T:TypeId} {b:Nat} {cs:List Value} (hb:Bx T w b cs) (t1:T≠137) (t2:T≠140) (t3:T≠88) (t4:T≠3):Bx T w' b cs:=hb.at_ (h b _ T (0,0) hb t1 t2 t3 t4)
theorem Kept.set_t {w:World} {T:TypeId} {b:Nat} {cs:List Value} (hb:Bx T w b cs) (hT:T=137\/T=140) (o:Nat) (v:Value):Kept w (w.setCell ⟨b,o,none⟩ v):=fun k cs' T' fz hk t1 t2 _ _=>heap_setCell_other _ _ k v (fun e=>by
 have e:k=b:=by simpa using e
 subst e
 unfold Bx at hb
 rw [hb] at hk
 simp at hk
 rcases hT with q|q
 ·exact t1 (hk.2.1.symm.trans q)
 ·exact t2 (hk.2.1.symm.trans q))
theorem Kept.fresh {w0 w:World} (h:Kept w0 w) {b:Nat} (hb:w0.heap.size<=b) (o:Nat) (v:Value):Kept w0 (w.setCell ⟨b,o,none⟩ v):=fun k cs T fz hk t1 t2 t3 t4=>by
 have:=lt_block hk
 exact (heap_setCell_other _ _ k v (by simp;omega)).trans (h k cs T fz hk t1 t2 t3 t4)
theorem Kept.grown {w w':World} {o:Obj} {v:Value} (hg:(w.alloc o).grownBy w' v.ownBlock) (hv:∀ k,v.ownBlock=some k->∃ (cs:Array Value) (T:TypeId) (fz:Nat × Nat),w.heap[k]? = some (Obj.cells cs T fz)/\(T=88\/T=3)):Kept w w':=fun k cs T fz hk _ _ t3 t4=>by
 have hl:=lt_block hk
 rw [hg.block k (by simp;omega) (fun e=>?_),Below.heap_alloc w _ k hl]
 obtain ⟨cs',T',fz',q1,q2⟩:=hv k e.symm
 rw [hk] at q1
 simp at q1
 rcases q2 with q|q
 ·exact t3 (q1.2.1.trans q)
 ·exact t4 (q1.2.1.trans q)
theorem Kept.map {w w':World} {m:Nat} (hg:w.grownBy w' (some m)) {P:Program} {k':TypeId} {n:Nat} {f:Value->Option Value} (hm:MapIs P k' w m n f):Kept w w':=fun k cs T fz hk _ _ _ _=>hg.block k (lt_block hk) (fun e=>hm.ne_cells hk (Option.some.inj e).symm)
theorem row_types {w:World} {B n:Nat} {T:TypeId} {s:Nat} {v:Value} {xs:List Value} (h:w.ownsRow B T s v n xs) (hT:T=88\/T=3):∀ k,v.ownBlock=some k->∃ (cs:Array Value) (T:TypeId) (fz:Nat × Nat),w.heap[k]? = some (Obj.cells cs T fz)/\(T=88\/T=3):=fun k hk=>by
 rcases h.2 with ⟨q,_⟩|⟨g,cap,cur,q,_,hg2,_⟩
 ·rw [q] at hk;simp [Value.ownBlock] at hk
 ·rw [q] at hk
  simp [Value.ownBlock] at hk
  subst hk
  exact ⟨_,_,_,hg2,hT⟩
theorem OpM.types {w:World} {B:Nat} {v:Value} {L:List Int} (h:OpM w B v L):∀ k,v.ownBlock=some k->∃ (cs:Array Value) (T:TypeId) (fz:Nat × Nat),w.heap[k]? = some (Obj.cells cs T fz)/\(T=88\/T=3):=fun k hk=>by
 rcases h with h|⟨g,cur,q,_,hg2,_⟩
 ·exact row_types h (.inr rfl) k hk
 ·rw [q] at hk
  simp [Value.ownBlock] at hk
  subst hk
  exact ⟨_,_,_,hg2,.inr rfl⟩
theorem nat_in {a:Nat} (h:a<=16384):In64 (a:Int):=⟨by omega,by omega⟩
theorem ScM.put_set (h:ScM l W0 w B nv S wb ov held s c) (hc:c<16384) {a k:Nat} (ha:a<=16384) :
  ∃ w',(Instr.mapUpdate 135 (.map (some S.mb)) (.int .i64 (a:Int)) (.int .i64 (k:Int))).run Tryz.prog w = .ok () w'/\ScM l W0 w' B nv S wb ov held { s with ss:=putN s.ss a k } (c+1)/\w.grownBy w' (some S.mb):=by
 obtain ⟨w',hr,hm,hg⟩:=h.sc.sets.store int_keyed' und_map (by unfold maxLen;omega) (int_key (nat_in ha)) (.int .i64 (k:Int))
 rw [natF_put] at hm
 have far:∀ j,j≠S.mb->j<w.heap.size->w'.heap[j]? = w.heap[j]?:=fun j hj hjl=>hg.block j hjl (fun e=>hj (Option.some.inj e))
 have ncell:∀ {k T fz} {cs:Array Value},w.heap[k]? = some (.cells cs T fz)->k≠S.mb:=fun hk e=>h.sc.sets.ne_cells hk e.symm
 have bel':Below B W0 w':=h.bel.trans (Below.grown (Below.refl B w) hg (by have:=h.wbox.lt;have:=h.bw;omega) (fun j hj=>by cases hj;exact h.sc.bm))
 refine ⟨w',hr,⟨bel',h.bw,⟨h.sc.bs,h.sc.bu,h.sc.bm,h.sc.ne,h.sc.box.at_ (far _ (ncell h.sc.box) h.sc.box.lt),?_,h.sc.few,?_,hm⟩,h.wbox.at_ (far _ (ncell h.wbox) h.wbox.lt),?_⟩,hg⟩
 ·refine row_at h.sc.row hg.size (fun k hk=>far k ?_ (row_lt h.sc.row hk))
  rcases h.sc.row.2 with ⟨q,_⟩|⟨g,cap,cur,q,_,hg2,_⟩
  ·rw [q] at hk;simp [Value.ownBlock] at hk
  ·rw [q] at hk
   simp [Value.ownBlock] at hk
   subst hk
   exact ncell hg2
 ·exact (h.sc.uses.at_ (far _ h.sc.ne h.sc.uses.lt)).mono (Nat.le_succ _)
 ·refine h.opn.at_ hg.size (fun k hk=>far k ?_ (h.opn.lt hk))
  rcases h.opn with ⟨_,⟨q,_⟩|⟨g,cap,cur,q,_,hg2,_⟩⟩|⟨g,cur,q,_,hg2,_⟩
  ·rw [q] at hk;simp [Value.ownBlock] at hk
  ·rw [q] at hk
   simp [Value.ownBlock] at hk
   subst hk
   exact ncell hg2
  ·rw [q] at hk
   simp [Value.ownBlock] at hk
   subst hk
   exact ncell hg2
theorem ScM.put_use (h:ScM l W0 w B nv S wb ov held s c) (hc:c<16384) {a k:Nat} (ha:a<=16384) :
  ∃ w',(Instr.mapUpdate 135 (.map (some S.ub)) (.int .i64 (a:Int)) (.int .i64 (k:Int))).run Tryz.prog w = .ok () w'/\ScM l W0 w' B nv S wb ov held { s with us:=putN s.us a k } (c+1)/\w.grownBy w' (some S.ub):=by
 obtain ⟨w',hr,hm,hg⟩:=h.sc.uses.store int_keyed' und_map (by unfold maxLen;omega) (int_key (nat_in ha)) (.int .i64 (k:Int))
 rw [natF_put] at hm
 have far:∀ j,j≠S.ub->j<w.heap.size->w'.heap[j]? = w.heap[j]?:=fun j hj hjl=>hg.block j hjl (fun e=>hj (Option.some.inj e))
 have ncell:∀ {k T fz} {cs:Array Value},w.heap[k]? = some (.cells cs T fz)->k≠S.ub:=fun hk e=>h.sc.uses.ne_cells hk e.symm
 have bel':Below B W0 w':=h.bel.trans (Below.grown (Below.refl B w) hg (by have:=h.wbox.lt;have:=h.bw;omega) (fun j hj=>by cases hj;exact h.sc.bu))
 refine ⟨w',hr,⟨bel',h.bw,⟨h.sc.bs,h.sc.bu,h.sc.bm,h.sc.ne,h.sc.box.at_ (far _ (ncell h.sc.box) h.sc.box.lt),?_,h.sc.few,hm,?_⟩,h.wbox.at_ (far _ (ncell h.wbox) h.wbox.lt),?_⟩,hg⟩
 ·refine row_at h.sc.row hg.size (fun k hk=>far k ?_ (row_lt h.sc.row hk))
  rcases h.sc.row.2 with ⟨q,_⟩|⟨g,cap,cur,q,_,hg2,_⟩
  ·rw [q] at hk;simp [Value.ownBlock] at hk
  ·rw [q] at hk
   simp [Value.ownBlock] at hk
   subst hk
   exact ncell hg2
 ·exact (h.sc.sets.at_ (far _ (fun e=>h.sc.ne e.symm) h.sc.sets.lt)).mono (Nat.le_succ _)
 ·refine h.opn.at_ hg.size (fun k hk=>far k ?_ (h.opn.lt hk))
  rcases h.opn with ⟨_,⟨q,_⟩|⟨g,cap,cur,q,_,hg2,_⟩⟩|⟨g,cur,q,_,hg2,_⟩
  ·rw [q] at hk;simp [Value.ownBlock] at hk
  ·rw [q] at hk
   simp [Value.ownBlock] at hk
   subst hk
   exact ncell hg2
  ·rw [q] at hk
   simp [Value.ownBlock] at hk
   subst hk
   exact ncell hg2
end
end Go.Proofs.YtfehpdliobapfaaGreatDoor.S
namespace Go.Proofs.YtfehpdliobapfaaGreatDoor.S
open Go Go.RowKit
def WPost (l:List Nd) (W0 w:World) (B:Nat) (nv:Value) (sb ub mb wb:Nat) (held:Bool) (r:ScR) (c:Nat) (e:Ending) (w':World):Prop :=
 (∃ k z,r = .error (k,z)/\e = .returned (.agg #[.int .i64 k,.int .i64 z])/\k≠0/\Below B W0 w'/\Kept w w') \/
 ∃ s' lv' ov',r = .ok s'/\e = .returned (.agg #[.int .i64 0,.int .i64 0])/\ScM l W0 w' B nv ⟨sb,ub,mb,lv'⟩ wb ov' held s' c/\Kept w w'
section
variable {l:List Nd} {root:Int} {W0 w:World} {B:Nat} {nv:Value} {S:ScV} {wb:Nat} {ov:Value} {held:Bool} {s:Sc} {c:Nat}
theorem ScM.size (h:ScM l W0 w B nv S wb ov held s c):B<=w.heap.size:=by have:=h.wbox.lt;have:=h.bw;omega
theorem declare_twice (P:ProgOk l root) (hn:NdsB W0 B nv l) {a:Nat} (ha:a<l.length) (h:ScM l W0 w B nv S wb ov held s c) {k:Nat} (hk:findS l s.lc (txtS l a)=some k) :
  Calls Tryz.prog 131 #[(.pointer (some ⟨wb,0,none⟩)),.int .i64 (a:Nat)] w fun e w'=>e = .returned (.agg #[.int .i64 4,.int .i64 (sfrS l a)])/\Below w.heap.size w w':=by
 have hP:=P.long
 obtain ⟨nb,off,cap,rfl,hnb,kv,ev,hx⟩:=hn.node ha
 obtain ⟨ks,kc,rfl,hks⟩:=(hx w h.bel).kids
 obtain ⟨es,ec,rfl,hes⟩:=(hx w h.bel).ends
 have HM:=Lib.hid h
 have HBW:Hid (B<=w.heap.size):=Lib.hid h.size
 obtain ⟨c0,c1,-,-,cl,-⟩:=h.cells
 have d0:=hx w h.bel
 obtain ⟨-,-,d0,d1,d2,d3,d4,d5,d6,d7,d8,d9,d10,d11,d12⟩:=d0
 have hnl:nb<w.heap.size:=Nat.lt_of_lt_of_le hnb h.bel.size
 rw [txtS_get ha] at hk
 have HFI:=Lib.hid (fun (w2:World) (h2:ScM l W0 w2 B (.slice (some ⟨nb,off,none⟩) l.length cap) S wb ov held s c)=>scfind_any h2.sc l[a].text)
 rw [hk] at HFI
 rw [show idxI (some k)=(k:Int) from rfl] at HFI
 have HFA:=Lib.hid (fun (w2:World) (h2:ScM l W0 w2 B (.slice (some ⟨nb,off,none⟩) l.length cap) S wb ov held s c)=>wfault_any h2 hn ha 4 hP)
 clear h hx hn hk hks hes
 generalize l[a]=x at *
 generalize sfrS l a=z at *
 have HAL:=Lib.hid ha
 clear ha
 have q0:decide ((0:Int)<=(k:Int))=true:=decide_eq_true (by omega)
 obtain ⟨n,hnn⟩:∃ n,l.length=n:=⟨_,rfl⟩
 have HNN:=Lib.hid hnn
 rw [hnn] at c1
 have i0:(0:Int)<=(a:Int):=by omega
 have i1:(a:Int)<(n:Int):=by have:=HAL.out;omega
 have i2:a<n:=by have:=HAL.out;omega
 clear hnn hP
 go_enter Tryz.func131,Tryz.ntmps131
 go_wp2_with fail
 obtain ⟨W2,hW2⟩:∃ W2,W2=(w.alloc (.cells #[.int .i64 0,.int .i64 0] 28)).alloc (.cells #[.int .i64 x.kind,.int .i64 x.sf,.int .i64 x.st,.slice ks x.kids.length kc,.string x.text,.int .i64 x.B,.string x.N,.int .i64 x.D,.string x.M,.int .i64 x.num,.int .i64 x.wf,.int .i64 x.wt,.slice es x.ends.length ec] 61):=⟨_,rfl⟩
 have R2:Hid (Bx 28 W2 w.heap.size [.int .i64 0,.int .i64 0]):=Lib.hid (by rw [hW2];exact (Bx.new 28 w #[.int .i64 0,.int .i64 0]).alloc _)
 have X2:Hid (BoxN W2 (w.heap.size+1) (Array.toList #[.int .i64 x.kind,.int .i64 x.sf,.int .i64 x.st,.slice ks x.kids.length kc,.string x.text,.int .i64 x.B,.string x.N,.int .i64 x.D,.string x.M,.int .i64 x.num,.int .i64 x.wf,.int .i64 x.wt,.slice es x.ends.length ec])):=Lib.hid (by
  rw [hW2]
  have:=BoxN.new (w.alloc (.cells #[.int .i64 0,.int .i64 0] 28)) #[.int .i64 x.kind,.int .i64 x.sf,.int .i64 x.st,.slice ks x.kids.length kc,.string x.text,.int .i64 x.B,.string x.N,.int .i64 x.D,.string x.M,.int .i64 x.num,.int .i64 x.wf,.int .i64 x.wt,.slice es x.ends.length ec]
  simpa using this)
 have HB2:Hid (Below w.heap.size w W2):=Lib.hid (by rw [hW2];repeat (first|exact Below.refl _ _|apply Below.setCell _ (by first|omega|(simp<;>omega))|apply Below.alloc _ (by first|omega|(simp<;>omega))))
 have H2:=Lib.hid (HM.out.step HB2.out HM.out.size)
 rw [<- hW2]
 clear hW2 HM c0 c1 cl d0 d1 d2 d3 d4 d5 d6 d7 d8 d9 d10 d11 d12 hnl hnb
 have xl:=X2.out.lt
 have KEEP:Hid (∀ W',Below W2.heap.size W2 W'->W'.cell? ⟨wb,0,none⟩=some (.pointer (some ⟨S.sb,0,none⟩))/\W'.cell? ⟨w.heap.size+1,4,none⟩=some (.string x.text)/\Below W2.heap.size W2 W'):=Lib.hid (fun W' h=>⟨(H2.out.step h H2.out.size).cells.1,(X2.out.keep h).cell 4,h⟩)
 have HFI2:=Lib.hid (fun (W':World) (h:Below W2.heap.size W2 W')=>HFI.out W' (H2.out.step h H2.out.size))
 clear HFI
 go_region_held3 (fun W'=>W'.cell? ⟨wb,0,none⟩=some (.pointer (some ⟨S.sb,0,none⟩))/\W'.cell? ⟨w.heap.size+1,4,none⟩=some (.string x.text)/\Below W2.heap.size W2 W') (first|exact KEEP.out _ (Below.refl _ _)|exact KEEP.out _ (Below.refl _ _).drew|exact KEEP.out _ (after (by assumption) hb9)) (first|(go_at_call 51;go_split_ands;refine (HFI2.out _ (by assumption)).mono ?_;rintro e w9 ⟨rfl,hb9⟩))
 all_goals go_split_ands
 all_goals
  have hb9':Below W2.heap.size W2 w9:=by assumption
  have H9:=Lib.hid (H2.out.step hb9' H2.out.size)
  have BQ:=Lib.hid (after HB2.out hb9')
  have R9:=Lib.hid (R2.out.keep hb9')
  clear hb9 hb9'
  go_wp2_with fail
  refine (HFA.out _ H9.out).mono ?_
  rintro e w10 ⟨rfl,hb10⟩
  have HB10:=Lib.hid (after BQ.out hb10)
  obtain ⟨r0,r1,rl,rf⟩:=(R9.out.keep hb10).two
  clear hb10 H9 R9 H2 R2
  go_wp2_with fail
  refine bodyPost_ret (v:=.agg #[.int .i64 4,.int .i64 z]) (by simp [results,Tryz.results131,go_sem,r0,r1]) rfl ?_
  exact ⟨rfl,(HB10.out.setCell (p:=⟨w.heap.size,0,none⟩) (Nat.le_refl _) _).setCell (p:=⟨w.heap.size,1,none⟩) (Nat.le_refl _) _⟩
theorem declare_long (P:ProgOk l root) (hn:NdsB W0 B nv l) {a:Nat} (ha:a<l.length) (h:ScM l W0 w B nv S wb ov held s c) (hk:findS l s.lc (txtS l a)=none) (hl:s.lc.length=64) :
  Calls Tryz.prog 131 #[(.pointer (some ⟨wb,0,none⟩)),.int .i64 (a:Nat)] w fun e w'=>e = .returned (.agg #[.int .i64 2,.int .i64 (sfrS l a)])/\Below w.heap.size w w':=by
 have hP:=P.long
 obtain ⟨nb,off,cap,rfl,hnb,kv,ev,hx⟩:=hn.node ha
 obtain ⟨ks,kc,rfl,hks⟩:=(hx w h.bel).kids
 obtain ⟨es,ec,rfl,hes⟩:=(hx w h.bel).ends
 have HM:=Lib.hid h
 have HBW:Hid (B<=w.heap.size):=Lib.hid h.size
 obtain ⟨c0,c1,-,-,cl,-⟩:=h.cells
 have d0:=hx w h.bel
 obtain ⟨-,-,d0,d1,d2,d3,d4,d5,d6,d7,d8,d9,d10,d11,d12⟩:=d0
 have hnl:nb<w.heap.size:=Nat.lt_of_lt_of_le hnb h.bel.size
 rw [txtS_get ha] at hk
 have HFI:=Lib.hid (fun (w2:World) (h2:ScM l W0 w2 B (.slice (some ⟨nb,off,none⟩) l.length cap) S wb ov held s c)=>scfind_any h2.sc l[a].text)
 rw [hk] at HFI
 rw [show idxI none=(-1:Int) from rfl] at HFI
 have HFA:=Lib.hid (fun (w2:World) (h2:ScM l W0 w2 B (.slice (some ⟨nb,off,none⟩) l.length cap) S wb ov held s c)=>wfault_any h2 hn ha 2 hP)
 have HLN:=Lib.hid (fun (w2:World) (h2:ScM l W0 w2 B (.slice (some ⟨nb,off,none⟩) l.length cap) S wb ov held s c)=>sclen_any h2.sc)
 rw [hl] at HLN
 clear h hx hn hk hks hes hl
 generalize l[a]=x at *
 generalize sfrS l a=z at *
 have HAL:=Lib.hid ha
 clear ha
 obtain ⟨n,hnn⟩:∃ n,l.length=n:=⟨_,rfl⟩
 have HNN:=Lib.hid hnn
 rw [hnn] at c1
 have i0:(0:Int)<=(a:Int):=by omega
 have i1:(a:Int)<(n:Int):=by have:=HAL.out;omega
 have i2:a<n:=by have:=HAL.out;omega
 clear hnn hP
 go_enter Tryz.func131,Tryz.ntmps131
 go_wp2_with fail
 obtain ⟨W2,hW2⟩:∃ W2,W2=(w.alloc (.cells #[.int .i64 0,.int .i64 0] 28)).alloc (.cells #[.int .i64 x.kind,.int .i64 x.sf,.int .i64 x.st,.slice ks x.kids.length kc,.string x.text,.int .i64 x.B,.string x.N,.int .i64 x.D,.string x.M,.int .i64 x.num,.int .i64 x.wf,.int .i64 x.wt,.slice es x.ends.length ec] 61):=⟨_,rfl⟩
 have R2:Hid (Bx 28 W2 w.heap.size [.int .i64 0,.int .i64 0]):=Lib.hid (by rw [hW2];exact (Bx.new 28 w #[.int .i64 0,.int .i64 0]).alloc _)
 have X2:Hid (BoxN W2 (w.heap.size+1) (Array.toList #[.int .i64 x.kind,.int .i64 x.sf,.int .i64 x.st,.slice ks x.kids.length kc,.string x.text,.int .i64 x.B,.string x.N,.int .i64 x.D,.string x.M,.int .i64 x.num,.int .i64 x.wf,.int .i64 x.wt,.slice es x.ends.length ec])):=Lib.hid (by
  rw [hW2]
  have:=BoxN.new (w.alloc (.cells #[.int .i64 0,.int .i64 0] 28)) #[.int .i64 x.kind,.int .i64 x.sf,.int .i64 x.st,.slice ks x.kids.length kc,.string x.text,.int .i64 x.B,.string x.N,.int .i64 x.D,.string x.M,.int .i64 x.num,.int .i64 x.wf,.int .i64 x.wt,.slice es x.ends.length ec]
  simpa using this)
 have HB2:Hid (Below w.heap.size w W2):=Lib.hid (by rw [hW2];repeat (first|exact Below.refl _ _|apply Below.setCell _ (by first|omega|(simp<;>omega))|apply Below.alloc _ (by first|omega|(simp<;>omega))))
 have H2:=Lib.hid (HM.out.step HB2.out HM.out.size)
 rw [<- hW2]
 clear hW2 HM c0 c1 cl d0 d1 d2 d3 d4 d5 d6 d7 d8 d9 d10 d11 d12 hnl hnb
 have xl:=X2.out.lt
 have KEEP:Hid (∀ W',Below W2.heap.size W2 W'->W'.cell? ⟨wb,0,none⟩=some (.pointer (some ⟨S.sb,0,none⟩))/\W'.cell? ⟨w.heap.size+1,4,none⟩=some (.string x.text)/\Below W2.heap.size W2 W'):=Lib.hid (fun W' h=>⟨(H2.out.step h H2.out.size).cells.1,(X2.out.keep h).cell 4,h⟩)
 have HFI2:=Lib.hid (fun (W':World) (h:Below W2.heap.size W2 W')=>HFI.out W' (H2.out.step h H2.out.size))
 clear HFI
 go_region_held3 (fun W'=>W'.cell? ⟨wb,0,none⟩=some (.pointer (some ⟨S.sb,0,none⟩))/\W'.cell? ⟨w.heap.size+1,4,none⟩=some (.string x.text)/\Below W2.heap.size W2 W') (first|exact KEEP.out _ (Below.refl _ _)|exact KEEP.out _ (Below.refl _ _).drew|exact KEEP.out _ (after (by assumption) hb9)) (first|(go_at_call 51;go_split_ands;refine (HFI2.out _ (by assumption)).mono ?_;rintro e w9 ⟨rfl,hb9⟩))
 all_goals go_split_ands
 all_goals
  have hb9':Below W2.heap.size W2 w9:=by assumption
  have H9:=Lib.hid (H2.out.step hb9' H2.out.size)
  have BQ:=Lib.hid (after HB2.out hb9')
  have R9:=Lib.hid (R2.out.keep hb9')
  obtain ⟨c0,-,-,-,cl,-⟩:=H9.out.cells
  clear hb9 hb9'
  go_wp2_with fail
  refine (HLN.out _ H9.out).mono ?_
  rintro e w11 ⟨rfl,rfl⟩
  go_wp2_with fail
  refine (HFA.out _ H9.out).mono ?_
  rintro e w10 ⟨rfl,hb10⟩
  have HB10:=Lib.hid (after BQ.out hb10)
  obtain ⟨r0,r1,rl,rf⟩:=(R9.out.keep hb10).two
  clear hb10 H9 R9 H2 R2 c0 cl
  go_wp2_with fail
  refine bodyPost_ret (v:=.agg #[.int .i64 2,.int .i64 z]) (by simp [results,Tryz.results131,go_sem,r0,r1]) rfl ?_
  exact ⟨rfl,(HB10.out.setCell (p:=⟨w.heap.size,0,none⟩) (Nat.le_refl _) _).setCell (p:=⟨w.heap.size,1,none⟩) (Nat.le_refl _) _⟩
end
end Go.Proofs.YtfehpdliobapfaaGreatDoor.S
