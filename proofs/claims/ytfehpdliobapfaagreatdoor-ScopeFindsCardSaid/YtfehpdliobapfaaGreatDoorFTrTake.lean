/- For any text and any number,ScopeFinds returns true and leaves its arguments as they were. -/
import Derived.Test.YtfehpdliobapfaaGreatDoorFTrShapedB
set_option maxRecDepth 100000
set_option maxHeartbeats 2000000
set_option linter.unusedVariables false
set_option linter.unusedSimpArgs false
namespace Go.Proofs.YtfehpdliobapfaaGreatDoor
open Go Go.RowKit
def takenL (n:Nat) (u:List Nat):List Value:=(List.range n).map fun i=>.bool (decide (i ∈ u))
theorem takenL_len (n:Nat) (u:List Nat):(takenL n u).length=n:=by simp [takenL]
theorem takenL_at {n:Nat} {u:List Nat} {k:Nat} (h:k<n):(takenL n u)[k]? = some (.bool (decide (k ∈ u))):=by simp [takenL,h]
theorem takenL_nil (n:Nat):takenL n []=List.replicate n (.bool false):=by
 unfold takenL
 apply List.ext_getElem?
 intro i
 by_cases h:i<n
 ·simp [h]
 ·simp [h]
theorem takenL_set {n:Nat} {u:List Nat} {k:Nat} (h:k<n):(takenL n u).set k (.bool true)=takenL n (k :: u):=by
 apply List.ext_getElem?
 intro i
 by_cases hi:i<n
 ·by_cases hk:k=i
  ·subst hk
   rw [List.getElem?_set_self (by rw [takenL_len];exact hi),takenL_at hi]
   simp
  ·rw [List.getElem?_set_ne hk,takenL_at hi,takenL_at hi]
   have:(i ∈ k :: u) ↔ i ∈ u:=by simp [Ne.symm hk]
   simp only [this]
 ·rw [List.getElem?_eq_none (by rw [List.length_set,takenL_len];omega),List.getElem?_eq_none (by rw [takenL_len];omega)]
theorem grown_trans {a b c:World} {r:Option Nat} (h:a.grownBy b r) (k:b.grownBy c r):a.grownBy c r :=
 ⟨k.os.trans h.os,k.tape.trans h.tape,k.output.trans h.output,Nat.le_trans h.size k.size,fun i hi hr=>(k.block i (Nat.lt_of_lt_of_le hi h.size) hr).trans (h.block i hi hr)⟩
theorem grown_refl (a:World) (r:Option Nat):a.grownBy a r:=⟨rfl,rfl,rfl,Nat.le_refl _,fun _ _ _=>rfl⟩
theorem grown_set (w:World) (g o:Nat) (v:Value):w.grownBy (w.setCell ⟨g,o,none⟩ v) (some g) :=
 ⟨rfl,rfl,rfl,by simp,fun k _ hk=>heap_setCell_other w ⟨g,o,none⟩ k v (fun e=>hk (by simp [e]))⟩
theorem take_step {i:Nat} {k:Int} {ks:List Int} {u:List Nat} (h:¬ (k<0\/(i:Int)<=k)) (h2:k.toNat ∉ u):takeE i (k :: ks) u=takeE i ks (k.toNat :: u):=by
 conv=>lhs;unfold takeE
 rw [if_neg h,if_neg h2]
def TakePost (w:World) (g n:Nat) (R:Int × List Nat) (e:Ending) (w':World):Prop:=e = .returned (.int .i64 R.1)/\Bx 4 w' g (takenL n R.2)/\w.grownBy w' (some g)
theorem tktake_any (n i g:Nat) (u:List Nat) (kids:List Int) (ks:Option Addr) (kc:Nat) (w:World) (hg:Bx 4 w g (takenL n u)) (hk:0<kids.length->∃ b off,ks=some ⟨b,off,none⟩/\b<g/\NumsAt w b off kids) (hi:i<n) (hn:n<=16384) (hl:kids.length<=17592186044416) :
  Calls Tryz.prog 118 #[.slice (some ⟨g,0,none⟩) n n,.int .i64 (i:Nat),.slice ks kids.length kc] w (TakePost w g n (takeE i kids u)):=by
 have HG:=Lib.hid hg
 have HK:=Lib.hid hk
 obtain ⟨m,hm⟩:∃ m,m=kids.length:=⟨_,rfl⟩
 have HM:=Lib.hid hm
 rw [<- hm] at hl ⊢
 clear hg hk hm
 go_enter Tryz.func118,Tryz.ntmps118
 go_wp2_with fail
 go_loopw [11] (fun a wr=>∃ (j:Nat) (v:List Nat),j<=m/\a = .int .i64 j/\takeE i kids u=takeE i (kids.drop j) v/\Bx 4 wr g (takenL n v)/\w.grownBy wr (some g)) (fun a _=>m-(intOf a).toNat)
 case atStart=>exact ⟨0,u,Nat.zero_le _,rfl,rfl,HG.out,grown_refl _ _⟩
 case round =>
  obtain ⟨j,v,hj,rfl,he,hbx,hgr⟩:=hrel
  have HE:=Lib.hid he
  have HB:=Lib.hid hbx
  have HR:=Lib.hid hgr
  clear he hgr
  by_cases hlt:j<m
  ·have hjl:j<kids.length:=by have:=HM.out;omega
   obtain ⟨b,off,rfl,hb,hrow⟩:=HK.out (by omega)
   have hbw:b<w.heap.size:=by have:=HG.out.lt;omega
   have c0:wr.cell? ⟨b,off+j,none⟩=some (.int .i64 kids[j]):=by
    have h1:=hrow j hjl
    have h2:=HR.out.block b hbw (by simp;omega)
    rw [<- h1]
    exact World.cell?_of_block (w:=w) (a:=⟨b,off+j,none⟩) h2
   have HD:Hid (kids.drop j=kids[j] :: kids.drop (j+1)):=Lib.hid (List.drop_eq_getElem_cons hjl)
   clear hrow
   generalize kids[j]=k at *
   by_cases h1:k<0\/(i:Int)<=k
   ·have HF:Hid (takeE i kids u=(7,v)):=Lib.hid (by rw [HE.out,HD.out];unfold takeE;rw [if_pos h1])
    by_cases hk0:k<0
    ·have q0:decide (k<0)=true:=decide_eq_true hk0
     clear h1 hbx
     go_wp2_with fail
     go_ret
     exact ⟨by rw [HF.out];rfl,by rw [HF.out];exact HB.out,HR.out⟩
    ·have q0:decide (k<0)=false:=decide_eq_false hk0
     have q1:decide ((i:Int)<=k)=true:=decide_eq_true (by omega)
     clear h1 hbx
     go_wp2_with fail
     go_ret
     exact ⟨by rw [HF.out];rfl,by rw [HF.out];exact HB.out,HR.out⟩
   ·obtain ⟨k,rfl⟩:∃ x:Nat,k=x:=⟨k.toNat,by omega⟩
    have q0:decide ((k:Int)<0)=false:=decide_eq_false (by omega)
    have q1:decide ((i:Int)<=(k:Int))=false:=decide_eq_false (by omega)
    have q1n:decide (i<=k)=false:=decide_eq_false (by omega)
    have hkn:k<n:=by omega
    have d0:wr.cell? ⟨g,k,none⟩=some (.bool (decide (k ∈ v))):=by rw [hbx.cell];exact takenL_at hkn
    have df:=hbx.frozen k
    have H1:=Lib.hid h1
    by_cases h2:k ∈ v
    ·have HF:Hid (takeE i kids u=(4,v)):=Lib.hid (by
      rw [HE.out,HD.out];unfold takeE
      rw [if_neg H1.out,if_pos (by simpa using h2)])
     rw [decide_eq_true h2] at d0
     clear h1 hbx h2
     go_wp2_with fail
     go_ret
     exact ⟨by rw [HF.out];rfl,by rw [HF.out];exact HB.out,HR.out⟩
    ·have HS:Hid (takeE i kids u=takeE i (kids.drop (j+1)) (k :: v)):=Lib.hid (by
      rw [HE.out,HD.out,take_step H1.out (by simpa using h2)];rfl)
     have HT:Hid (Bx 4 (wr.setCell ⟨g,k,none⟩ (.bool true)) g (takenL n (k :: v))):=Lib.hid (by
      have:=HB.out.set k (.bool true)
      rwa [takenL_set hkn] at this)
     rw [decide_eq_false h2] at d0
     clear h1 hbx h2
     go_wp2_with fail
     go_roundw
     case rel=>exact ⟨j+1,k :: v,by omega,by go_num,HS.out,HT.out,grown_trans HR.out (grown_set _ _ _ _)⟩
     case measure=>simp [intOf];omega
  ·have hj':j=kids.length:=by have:=HM.out;omega
   have HF:Hid (takeE i kids u=(0,v)):=Lib.hid (by rw [HE.out,hj',List.drop_length];rfl)
   clear hj' hbx
   go_wp2_with fail
   go_ret
   exact ⟨by rw [HF.out];rfl,by rw [HF.out];exact HB.out,HR.out⟩
theorem indexB_any (n m cap g:Nat) (u:List Nat) (w:World) (hg:Bx 4 w g (takenL n u)) (hm:m<=n) (hn:n<=16384) :
  Calls Tryz.prog 159 #[.slice (some ⟨g,0,none⟩) m cap,.bool false] w fun e w'=>∃ r:Int,e = .returned (.int .i64 r)/\w'=w/\((0<=r) ↔ ¬ ∀ j,j<m->j ∈ u):=by
 have HG:=Lib.hid hg
 clear hg
 go_enter Tryz.func159,Tryz.ntmps159
 go_wp2_with fail
 go_loopw [8] (fun a wr=>∃ (j:Nat),j<=m/\a = .int .i64 j/\wr=w/\∀ i,i<j->i ∈ u) (fun a _=>m-(intOf a).toNat)
 case atStart=>exact ⟨0,Nat.zero_le _,rfl,rfl,fun i hi=>absurd hi (by omega)⟩
 case round =>
  obtain ⟨j,hj,rfl,rfl,hall⟩:=hrel
  have HA:=Lib.hid hall
  clear hall
  by_cases hlt:j<m
  ·have d0:wr.cell? ⟨g,j,none⟩=some (.bool (decide (j ∈ u))):=by rw [HG.out.cell];exact takenL_at (by omega)
   by_cases h2:j ∈ u
   ·rw [decide_eq_true h2] at d0
    have H2:=Lib.hid h2
    clear h2
    go_wp2_with fail
    go_roundw
    case rel=>exact ⟨j+1,by omega,by go_num,by trivial,fun i hi=>by
     by_cases h:i<j
     ·exact HA.out i h
     ·have:i=j:=by omega
      rw [this];exact H2.out⟩
    case measure=>simp [intOf];omega
   ·rw [decide_eq_false h2] at d0
    have H2:=Lib.hid h2
    clear h2
    go_wp2_with fail
    go_ret
    exact ⟨_,rfl,rfl,⟨fun _ h=>H2.out (h j hlt),fun _=>by omega⟩⟩
  ·go_wp2_with fail
   go_ret
   exact ⟨_,rfl,rfl,⟨fun h=>by omega,fun h=>absurd (fun i hi=>HA.out i (by omega)) h⟩⟩
theorem containsB_any (n m cap g:Nat) (u:List Nat) (w:World) (hg:Bx 4 w g (takenL n u)) (hm:m<=n) (hn:n<=16384) :
  Calls Tryz.prog 119 #[.slice (some ⟨g,0,none⟩) m cap,.bool false] w fun e w'=>e = .returned (.bool (!decide (∀ j,j<m->j ∈ u)))/\w'=w:=by
 go_enter Tryz.func119,Tryz.ntmps119
 go_wp2_with fail
 refine (indexB_any n m cap g u w hg hm hn).mono ?_
 rintro e w1 ⟨r,rfl,rfl,hr⟩
 by_cases h:∀ j,j<m->j ∈ u
 ·have hr0:¬ 0<=r:=fun x=>hr.1 x h
  have q:decide (0<=r)=false:=decide_eq_false hr0
  have E:=Lib.hid (decide_eq_true h)
  clear hr h hr0
  go_wp2_with fail
  go_ret
  exact ⟨by rw [E.out];rfl,rfl⟩
 ·have q:decide (0<=r)=true:=decide_eq_true (hr.2 h)
  have E:=Lib.hid (decide_eq_false h)
  clear hr h
  go_wp2_with fail
  go_ret
  exact ⟨by rw [E.out];rfl,rfl⟩
end Go.Proofs.YtfehpdliobapfaaGreatDoor
