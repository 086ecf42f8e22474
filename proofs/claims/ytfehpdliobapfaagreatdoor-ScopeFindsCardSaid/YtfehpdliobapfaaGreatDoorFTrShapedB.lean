/- For any text and any number,ScopeFinds returns true and leaves its arguments as they were. -/
import Derived.Test.YtfehpdliobapfaaGreatDoorFTrShaped
set_option linter.unusedVariables false
set_option linter.unusedSimpArgs false
namespace Go.Proofs.YtfehpdliobapfaaGreatDoor
open Go Go.RowKit
theorem most_over (m:Option Nat) (x:Nat) (hx:x<=17592186044416) (s:Shp) (hs:s.most=m):overB s x=decide (mostI m<(x:Int)):=by
 unfold overB mostI
 rw [hs]
 cases m with
 | none=>simp;omega
 | some n=>simp
theorem shapedE_unknown {x:Nd} (h:knownB x.kind=false):shapedE x=3:=by unfold shapedE;rw [if_pos h]
theorem shaped_any (kind sf st:Int) (kids:List Int) (text:ByteArray) (B:Int) (N:ByteArray) (D:Int) (M:ByteArray) (num wf wt:Int) (ends:List Int) (kv ev:Value) (w:World) (hT:ShTab w) (hk:NumsV w kv kids) (hl:kids.length<=17592186044416) (hM:M.size<=maxLen) :
  Calls Tryz.prog 117 #[.agg #[.int .i64 kind,.int .i64 sf,.int .i64 st,kv,.string text,.int .i64 B,.string N,.int .i64 D,.string M,.int .i64 num,.int .i64 wf,.int .i64 wt,ev]] w fun e w'=>e = .returned (.int .i64 (shapedE ⟨kind,sf,st,kids,text,B,N,D,M,num,wf,wt,ends⟩))/\Below w.heap.size w w':=by
 obtain ⟨ks,kc,rfl,-⟩:=hk
 by_cases hkn:0<kind/\kind<46
 ·obtain ⟨k,rfl⟩:∃ k:Nat,kind=k:=⟨kind.toNat,by omega⟩
  have h0:0<k:=by omega
  have h1:k<46:=by omega
  obtain ⟨s0,s1,s2,s3,s4,sl⟩:=hT.cells h1
  have hkb:knownB (k:Int)=true:=by unfold knownB;exact decide_eq_true hkn
  have hsh:shp (k:Int)=shp k:=rfl
  have E:shapedE ⟨(k:Int),sf,st,kids,text,B,N,D,M,num,wf,wt,ends⟩=if decide (kids.length<(shp k).least) || decide (mostI (shp k).most<(kids.length:Int)) then 131 else if (decide (text.size≠0) && !(shp k).text) || (!(decide (B=0/\N.size=0/\D=0/\M.size=0)) && !(shp k).typ) || ((shp k).typ && !rightB B N D M) then 5 else 0:=by
   unfold shapedE
   simp only [hkb]
   rw [if_neg (by simp),most_over _ kids.length hl _ rfl]
   rfl
  rw [E]
  clear E
  have HR:=fun w=>right_any B N D M w hM
  have hrz:B=0->rightB B N D M=false:=fun h=>rightB_no1 (by omega)
  generalize rightB B N D M=r at *
  generalize (shp k).least=le at *
  generalize mostI (shp k).most=mo at *
  generalize (shp k).text=tx at *
  generalize (shp k).typ=ty at *
  generalize nameL.getD k ⟨#[]⟩=nm at *
  have ret:∀ {c d:Int},c=d->Calls Tryz.prog 117 #[.agg #[.int .i64 (k:Int),.int .i64 sf,.int .i64 st,.slice ks kids.length kc,.string text,.int .i64 B,.string N,.int .i64 D,.string M,.int .i64 num,.int .i64 wf,.int .i64 wt,ev]] w (fun e w'=>e = .returned (.int .i64 c)/\Below w.heap.size w w')->Calls Tryz.prog 117 #[.agg #[.int .i64 (k:Int),.int .i64 sf,.int .i64 st,.slice ks kids.length kc,.string text,.int .i64 B,.string N,.int .i64 D,.string M,.int .i64 num,.int .i64 wf,.int .i64 wt,ev]] w (fun e w'=>e = .returned (.int .i64 d)/\Below w.heap.size w w'):=by
   rintro c d rfl h;exact h
  by_cases ha:kids.length<le
  ·exact ret (by simp [ha]) (shaped_few k sf st ks kids.length kc text B N D M num wf wt ev nm le mo tx ty w h0 h1 s0 s1 s2 s3 s4 sl ha)
  ·by_cases hb:mo<(kids.length:Int)
   ·exact ret (by simp [hb]) (shaped_many k sf st ks kids.length kc text B N D M num wf wt ev nm le mo tx ty w h0 h1 s0 s1 s2 s3 s4 sl ha hb)
   ·have e1:(decide (kids.length<le) || decide (mo<(kids.length:Int)))=false:=by rw [decide_eq_false ha,decide_eq_false hb];rfl
    rw [e1,if_neg (by simp)]
    exact shaped_fit k sf st ks kids.length kc text B N D M num wf wt ev nm le mo tx ty w h0 h1 s0 s1 s2 s3 s4 sl ha hb r hrz HR
 ·have hkb:knownB kind=false:=by unfold knownB;exact decide_eq_false hkn
  rw [shapedE_unknown hkb]
  exact shaped_unknown kind sf st ks kids.length kc text B N D M num wf wt ev w hkn
end Go.Proofs.YtfehpdliobapfaaGreatDoor
