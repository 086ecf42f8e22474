/- For any text and any number,ScopeFinds returns true and leaves its arguments as they were. -/
import Derived.Test.YtfehpdliobapfaaGreatDoorFTrMB
set_option maxRecDepth 100000
set_option maxHeartbeats 40000000
set_option linter.unusedVariables false
set_option linter.unusedSimpArgs false
namespace Go.Proofs.YtfehpdliobapfaaGreatDoor
open Go Go.RowKit
def mostI (m:Option Nat):Int:=match m with|none=>9223372036854775807|some n=>n
def shapeC (k:Nat):List Value:=[.string (nameL.getD k ⟨#[]⟩),.int .i64 (shp k).least,.int .i64 (mostI (shp k).most),.bool (shp k).text,.bool (shp k).typ]
def ShTab (w:World):Prop:=0<w.heap.size/\∀ k,k<46->∀ j u,(shapeC k)[j]? = some u->w.cell? ⟨0,k*5+j,none⟩=some u
theorem ShTab.step {w w':World} (h:ShTab w) (hb:Below w.heap.size w w'):ShTab w':=⟨Nat.lt_of_lt_of_le h.1 hb.size,fun k hk j u hj=>keep hb h.1 (h.2 k hk j u hj)⟩
theorem ShTab.cells {w:World} (h:ShTab w) {k:Nat} (hk:k<46):w.cell? ⟨0,k*5,none⟩=some (.string (nameL.getD k ⟨#[]⟩))/\w.cell? ⟨0,k*5+1,none⟩=some (.int .i64 (shp k).least)/\w.cell? ⟨0,k*5+2,none⟩=some (.int .i64 (mostI (shp k).most))/\w.cell? ⟨0,k*5+3,none⟩=some (.bool (shp k).text)/\w.cell? ⟨0,k*5+4,none⟩=some (.bool (shp k).typ)/\0<w.heap.size :=
 ⟨h.2 k hk 0 _ rfl,h.2 k hk 1 _ rfl,h.2 k hk 2 _ rfl,h.2 k hk 3 _ rfl,h.2 k hk 4 _ rfl,h.1⟩
theorem known_yes (k:Nat) (w:World) (h0:0<k) (h1:k<46):Calls Tryz.prog 157 #[.int .i64 (k:Nat)] w fun e w'=>e = .returned (.bool true)/\w'=w:=by
 have q0:decide ((0:Int)<(k:Int))=true:=decide_eq_true (by omega)
 have q1:decide ((k:Int)<46)=true:=decide_eq_true (by omega)
 go_enter Tryz.func157,Tryz.ntmps157
 go_wp2_with fail
 go_ret
 exact ⟨rfl,rfl⟩
theorem known_no (k:Int) (w:World) (h:¬ (0<k/\k<46)):Calls Tryz.prog 157 #[.int .i64 k] w fun e w'=>e = .returned (.bool false)/\w'=w:=by
 by_cases h0:0<k
 ·have h1:¬ k<46:=fun x=>h ⟨h0,x⟩
  clear h
  have q0:decide (0<k)=true:=decide_eq_true h0
  have q1:decide (k<46)=false:=decide_eq_false h1
  go_enter Tryz.func157,Tryz.ntmps157
  go_wp2_with fail
  go_ret
  exact ⟨rfl,rfl⟩
 ·clear h
  have q0:decide (0<k)=false:=decide_eq_false h0
  go_enter Tryz.func157,Tryz.ntmps157
  go_wp2_with fail
  go_ret
  exact ⟨rfl,rfl⟩
theorem shaped_unknown (kind sf st:Int) (ks:Option Addr) (n kc:Nat) (text:ByteArray) (B:Int) (N:ByteArray) (D:Int) (M:ByteArray) (num wf wt:Int) (ev:Value) (w:World) (h:¬ (0<kind/\kind<46)) :
  Calls Tryz.prog 117 #[.agg #[.int .i64 kind,.int .i64 sf,.int .i64 st,.slice ks n kc,.string text,.int .i64 B,.string N,.int .i64 D,.string M,.int .i64 num,.int .i64 wf,.int .i64 wt,ev]] w fun e w'=>e = .returned (.int .i64 3)/\Below w.heap.size w w':=by
 have HK:=Lib.hid (fun w=>known_no kind w h)
 clear h
 go_enter Tryz.func117,Tryz.ntmps117
 go_wp2_with (go_at_call 157;refine (HK.out _).mono ?_;rintro e w1 ⟨rfl,rfl⟩)
 all_goals go_ret
 all_goals exact ⟨rfl,by repeat (first|exact Below.refl _ _|apply Below.setCell _ (by first|omega|(simp<;>omega))|apply Below.alloc _ (by first|omega|(simp<;>omega)))⟩
theorem shaped_few (k:Nat) (sf st:Int) (ks:Option Addr) (n kc:Nat) (text:ByteArray) (B:Int) (N:ByteArray) (D:Int) (M:ByteArray) (num wf wt:Int) (ev:Value) (nm:ByteArray) (le:Nat) (mo:Int) (tx ty:Bool) (w:World) (h0:0<k) (h1:k<46) (s0:w.cell? ⟨0,k*5,none⟩=some (.string nm)) (s1:w.cell? ⟨0,k*5+1,none⟩=some (.int .i64 (le:Nat))) (s2:w.cell? ⟨0,k*5+2,none⟩=some (.int .i64 mo)) (s3:w.cell? ⟨0,k*5+3,none⟩=some (.bool tx)) (s4:w.cell? ⟨0,k*5+4,none⟩=some (.bool ty)) (sl:0<w.heap.size) (ha:n<le) :
  Calls Tryz.prog 117 #[.agg #[.int .i64 (k:Int),.int .i64 sf,.int .i64 st,.slice ks n kc,.string text,.int .i64 B,.string N,.int .i64 D,.string M,.int .i64 num,.int .i64 wf,.int .i64 wt,ev]] w fun e w'=>e = .returned (.int .i64 131)/\Below w.heap.size w w':=by
 have q1:decide ((n:Int)<(le:Int))=true:=decide_eq_true (by omega)
 have q2:decide (n<le)=true:=decide_eq_true ha
 go_enter Tryz.func117,Tryz.ntmps117
 go_wp2_with (go_at_call 157;refine (known_yes _ _ h0 h1).mono ?_;rintro e w1 ⟨rfl,rfl⟩)
 all_goals go_ret
 all_goals exact ⟨rfl,by repeat (first|exact Below.refl _ _|apply Below.setCell _ (by first|omega|(simp<;>omega))|apply Below.alloc _ (by first|omega|(simp<;>omega)))⟩
theorem shaped_many (k:Nat) (sf st:Int) (ks:Option Addr) (n kc:Nat) (text:ByteArray) (B:Int) (N:ByteArray) (D:Int) (M:ByteArray) (num wf wt:Int) (ev:Value) (nm:ByteArray) (le:Nat) (mo:Int) (tx ty:Bool) (w:World) (h0:0<k) (h1:k<46) (s0:w.cell? ⟨0,k*5,none⟩=some (.string nm)) (s1:w.cell? ⟨0,k*5+1,none⟩=some (.int .i64 (le:Nat))) (s2:w.cell? ⟨0,k*5+2,none⟩=some (.int .i64 mo)) (s3:w.cell? ⟨0,k*5+3,none⟩=some (.bool tx)) (s4:w.cell? ⟨0,k*5+4,none⟩=some (.bool ty)) (sl:0<w.heap.size) (ha:¬ n<le) (hb:mo<(n:Int)) :
  Calls Tryz.prog 117 #[.agg #[.int .i64 (k:Int),.int .i64 sf,.int .i64 st,.slice ks n kc,.string text,.int .i64 B,.string N,.int .i64 D,.string M,.int .i64 num,.int .i64 wf,.int .i64 wt,ev]] w fun e w'=>e = .returned (.int .i64 131)/\Below w.heap.size w w':=by
 have q1:decide ((n:Int)<(le:Int))=false:=decide_eq_false (by omega)
 have q2:decide (n<le)=false:=decide_eq_false ha
 have q3:decide (mo<(n:Int))=true:=decide_eq_true hb
 go_enter Tryz.func117,Tryz.ntmps117
 go_wp2_with (go_at_call 157;refine (known_yes _ _ h0 h1).mono ?_;rintro e w1 ⟨rfl,rfl⟩)
 all_goals go_ret
 all_goals exact ⟨rfl,by repeat (first|exact Below.refl _ _|apply Below.setCell _ (by first|omega|(simp<;>omega))|apply Below.alloc _ (by first|omega|(simp<;>omega)))⟩
def TlNe (x:ByteArray):Prop:=¬ x.toList=[]/\(x.toList == [])=false
def TyZ (B:Int) (N:ByteArray) (D:Int) (M:ByteArray):Prop:=B=0/\N=⟨#[]⟩/\D=0/\M=⟨#[]⟩
def TyNz (B:Int) (N:ByteArray) (D:Int) (M:ByteArray):Prop:=¬ B=0\/(B=0/\TlNe N)\/(B=0/\N=⟨#[]⟩/\¬ D=0)\/(B=0/\N=⟨#[]⟩/\D=0/\TlNe M)
def ShpR (B:Int) (N:ByteArray) (D:Int) (M:ByteArray) (ty r:Bool) (c:Int):Prop :=
 (ty=false/\(TyZ B N D M/\c=0\/TyNz B N D M/\c=5))\/(ty=true/\r=false/\c=5/\(TyZ B N D M\/TyNz B N D M))\/(ty=true/\r=true/\c=0/\TyNz B N D M)
theorem shp_rest {B:Int} {N:ByteArray} {D:Int} {M:ByteArray} {x ty r:Bool} (hx:x=false) (hrz:B=0->r=false) :
  ShpR B N D M ty r (if x || (!(decide (B=0/\N.size=0/\D=0/\M.size=0)) && !ty) || (ty && !r) then 5 else 0):=by
 subst hx
 by_cases hz:B=0/\N.size=0/\D=0/\M.size=0
 ·have z:TyZ B N D M:=⟨hz.1,empty_of N hz.2.1,hz.2.2.1,empty_of M hz.2.2.2⟩
  rw [decide_eq_true hz]
  cases ty
  ·exact .inl ⟨rfl,.inl ⟨z,rfl⟩⟩
  ·cases r
   ·exact .inr (.inl ⟨rfl,rfl,rfl,.inl z⟩)
   ·exact absurd (hrz hz.1) (by simp)
 ·have z:TyNz B N D M:=by
   by_cases b0:B=0
   ·by_cases n0:N.size=0
    ·by_cases d0:D=0
     ·exact .inr (.inr (.inr ⟨b0,empty_of N n0,d0,tl_ne M (fun m0=>hz ⟨b0,n0,d0,m0⟩)⟩))
     ·exact .inr (.inr (.inl ⟨b0,empty_of N n0,d0⟩))
    ·exact .inr (.inl ⟨b0,tl_ne N n0⟩)
   ·exact .inl b0
  rw [decide_eq_false hz]
  cases ty
  ·exact .inl ⟨rfl,.inr ⟨z,rfl⟩⟩
  ·cases r
   ·exact .inr (.inl ⟨rfl,rfl,rfl,.inr z⟩)
   ·exact .inr (.inr ⟨rfl,rfl,rfl,z⟩)
theorem shp_ways (text:ByteArray) (B:Int) (N:ByteArray) (D:Int) (M:ByteArray) (tx ty r:Bool) (hrz:B=0->r=false) :
  ∃ c:Int,c=(if (decide (text.size≠0) && !tx) || (!(decide (B=0/\N.size=0/\D=0/\M.size=0)) && !ty) || (ty && !r) then 5 else 0) /\
   ((TlNe text/\tx=false/\c=5)\/((text=⟨#[]⟩\/(TlNe text/\tx=true))/\ShpR B N D M ty r c)):=by
 by_cases t0:text.size=0
 ·exact ⟨_,rfl,.inr ⟨.inl (empty_of text t0),shp_rest (by simp [t0]) hrz⟩⟩
 ·cases tx
  ·exact ⟨_,rfl,.inl ⟨tl_ne text t0,rfl,by simp [t0]⟩⟩
  ·exact ⟨_,rfl,.inr ⟨.inr ⟨tl_ne text t0,rfl⟩,shp_rest (by simp) hrz⟩⟩
theorem shaped_fit (k:Nat) (sf st:Int) (ks:Option Addr) (n kc:Nat) (text:ByteArray) (B:Int) (N:ByteArray) (D:Int) (M:ByteArray) (num wf wt:Int) (ev:Value) (nm:ByteArray) (le:Nat) (mo:Int) (tx ty:Bool) (w:World) (h0:0<k) (h1:k<46) (s0:w.cell? ⟨0,k*5,none⟩=some (.string nm)) (s1:w.cell? ⟨0,k*5+1,none⟩=some (.int .i64 (le:Nat))) (s2:w.cell? ⟨0,k*5+2,none⟩=some (.int .i64 mo)) (s3:w.cell? ⟨0,k*5+3,none⟩=some (.bool tx)) (s4:w.cell? ⟨0,k*5+4,none⟩=some (.bool ty)) (sl:0<w.heap.size) (ha:¬ n<le) (hb:¬ mo<(n:Int)) (r:Bool) (hrz:B=0->r=false) (hR:∀ w:World,Calls Tryz.prog 158 #[.agg #[.int .i64 B,.string N,.int .i64 D,.string M]] w fun e w'=>e = .returned (.bool r)/\Below w.heap.size w w') :
  Calls Tryz.prog 117 #[.agg #[.int .i64 (k:Int),.int .i64 sf,.int .i64 st,.slice ks n kc,.string text,.int .i64 B,.string N,.int .i64 D,.string M,.int .i64 num,.int .i64 wf,.int .i64 wt,ev]] w fun e w'=>e = .returned (.int .i64 (if (decide (text.size≠0) && !tx) || (!(decide (B=0/\N.size=0/\D=0/\M.size=0)) && !ty) || (ty && !r) then 5 else 0))/\Below w.heap.size w w':=by
 have q1:decide ((n:Int)<(le:Int))=false:=decide_eq_false (by omega)
 have q2:decide (n<le)=false:=decide_eq_false ha
 have q3:decide (mo<(n:Int))=false:=decide_eq_false hb
 have HR:=Lib.hid hR
 obtain ⟨c,hc,W⟩:=shp_ways text B N D M tx ty r hrz
 rw [<- hc]
 clear ha hb hR hrz hc
 rcases W with ⟨⟨n1,n2⟩,rfl,rfl⟩|⟨rfl|⟨⟨n1,n2⟩,rfl⟩,⟨rfl,⟨⟨rfl,rfl,rfl,rfl⟩,rfl⟩|⟨m0|⟨rfl,m1,m2⟩|⟨rfl,rfl,m1⟩|⟨rfl,rfl,rfl,m1,m2⟩,rfl⟩⟩|⟨rfl,rfl,rfl,⟨rfl,rfl,rfl,rfl⟩|m0|⟨rfl,m1,m2⟩|⟨rfl,rfl,m1⟩|⟨rfl,rfl,rfl,m1,m2⟩⟩|⟨rfl,rfl,rfl,m0|⟨rfl,m1,m2⟩|⟨rfl,rfl,m1⟩|⟨rfl,rfl,rfl,m1,m2⟩⟩⟩
 all_goals
  go_enter Tryz.func117,Tryz.ntmps117
  go_wp2_with (first|(go_at_call 157;refine (known_yes _ _ h0 h1).mono ?_;rintro e w1 ⟨rfl,rfl⟩)|(go_at_call 158;refine (HR.out _).mono ?_;rintro e w1 ⟨rfl,hb1⟩))
  all_goals go_ret
  all_goals exact ⟨rfl,by repeat (first|exact Below.refl _ _|apply Below.setCell _ (by first|omega|(simp<;>omega))|apply Below.alloc _ (by first|omega|(simp<;>omega))|exact hb1|refine after ?_ hb1)⟩
end Go.Proofs.YtfehpdliobapfaaGreatDoor
