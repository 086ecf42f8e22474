/- For any text and any number,ScopeFinds returns true and leaves its arguments as they were. -/
import Derived.Test.YtfehpdliobapfaaGreatDoorRows
import Derived.WalkKit
import Derived.WalkSpells
import Derived.WalkLawsBesides
import Derived.Lib.Hide
import Derived.Deep.QuietTactic
import Derived.BigQuiet
set_option maxHeartbeats 400000
set_option linter.unusedVariables false
namespace Go.Proofs.YtfehpdliobapfaaGreatDoor.L
open Go.RowKit
theorem bcell {W w1:World} (hb:Below W.heap.size W w1):(∀ b o,b<W.heap.size->w1.cell? ⟨b,o,none⟩=W.cell? ⟨b,o,none⟩)/\(∀ b o,b<W.heap.size->w1.frozen? ⟨b,o,none⟩=W.frozen? ⟨b,o,none⟩) :=
 ⟨fun b o h=>hb.cell (p:=⟨b,o,none⟩) h,fun b o h=>hb.frozen (p:=⟨b,o,none⟩) h⟩
theorem after {w b c:World} (h:Below w.heap.size w b) (k:Below b.heap.size b c):Below w.heap.size w c:=h.trans (k.mono h.size)
def mayB (f t:Int):Bool:=decide (0<=f/\f<=t/\t<=65536)
theorem mayB_false {f t:Int} (h:¬ (0<=f/\f<=t/\t<=65536)):mayB f t=false:=by unfold mayB;simpa using h
theorem mayB_iff {f t:Int}:mayB f t=true ↔ 0<=f/\f<=t/\t<=65536:=by unfold mayB;simp
theorem mayBe_any (f t:Int) (w:World) :
  Calls Tryz.prog 181 #[.agg #[.int .i64 f,.int .i64 t]] w fun e w'=>e = .returned (.bool (mayB f t))/\w.alloc (.cells #[.int .i64 f,.int .i64 t] 59)=w':=by
 by_cases h1:0<=f
 ·by_cases h2:f<=t
  ·have e:mayB f t=decide (t<=65536):=by unfold mayB;simp [h1,h2]
   have E:=Lib.hid e
   clear e
   go_enter Tryz.func181,Tryz.ntmps181
   go_wp2
   go_ret
   exact ⟨by rw [E.out];rfl,rfl⟩
  ·have e:mayB f t=false:=mayB_false (by omega)
   have E:=Lib.hid e
   clear e
   go_enter Tryz.func181,Tryz.ntmps181
   go_wp2
   go_ret
   exact ⟨by rw [E.out];rfl,rfl⟩
 ·have e:mayB f t=false:=mayB_false (by omega)
  have E:=Lib.hid e
  clear e
  go_enter Tryz.func181,Tryz.ntmps181
  go_wp2
  go_ret
  exact ⟨by rw [E.out];rfl,rfl⟩
def chkB (f t n:Int):Bool:=mayB f t && decide (t<=n/\n<=65536)
def errI (b:Bool) (e:Int):Int:=if b=true then 0 else e
theorem check_any (f t n:Int) (w:World) :
  Calls Tryz.prog 146 #[.agg #[.int .i64 f,.int .i64 t],.int .i64 n] w fun e w'=>e = .returned (.int .i64 (errI (chkB f t n) 1))/\Below w.heap.size w w':=by
 cases hm:mayB f t
 ·have E:=Lib.hid (show errI (chkB f t n) 1=1 by simp [chkB,errI,hm])
  go_enter Tryz.func146,Tryz.ntmps146
  go_wp2_with (go_at_call 181;refine (mayBe_any _ _ _).mono ?_;rintro e w' ⟨rfl,rfl⟩)
  go_ret
  exact ⟨by rw [E.out];rfl,by repeat (first|exact Below.refl _ _|apply Below.setCell _ (by first|omega|(simp<;>omega))|apply Below.alloc _ (by first|omega|(simp<;>omega)))⟩
 ·by_cases h1:t<=n
  ·by_cases h2:n<=65536
   ·have E:=Lib.hid (show errI (chkB f t n) 1=0 by simp [chkB,errI,hm,h1,h2])
    go_enter Tryz.func146,Tryz.ntmps146
    go_wp2_with (go_at_call 181;refine (mayBe_any _ _ _).mono ?_;rintro e w' ⟨rfl,rfl⟩)
    go_ret
    exact ⟨by rw [E.out];rfl,by repeat (first|exact Below.refl _ _|apply Below.setCell _ (by first|omega|(simp<;>omega))|apply Below.alloc _ (by first|omega|(simp<;>omega)))⟩
   ·have E:=Lib.hid (show errI (chkB f t n) 1=1 by simp [chkB,errI,hm,h1,h2])
    go_enter Tryz.func146,Tryz.ntmps146
    go_wp2_with (go_at_call 181;refine (mayBe_any _ _ _).mono ?_;rintro e w' ⟨rfl,rfl⟩)
    go_ret
    exact ⟨by rw [E.out];rfl,by repeat (first|exact Below.refl _ _|apply Below.setCell _ (by first|omega|(simp<;>omega))|apply Below.alloc _ (by first|omega|(simp<;>omega)))⟩
  ·have E:=Lib.hid (show errI (chkB f t n) 1=1 by simp [chkB,errI,hm,h1])
   go_enter Tryz.func146,Tryz.ntmps146
   go_wp2_with (go_at_call 181;refine (mayBe_any _ _ _).mono ?_;rintro e w' ⟨rfl,rfl⟩)
   go_ret
   exact ⟨by rw [E.out];rfl,by repeat (first|exact Below.refl _ _|apply Below.setCell _ (by first|omega|(simp<;>omega))|apply Below.alloc _ (by first|omega|(simp<;>omega)))⟩
end Go.Proofs.YtfehpdliobapfaaGreatDoor.L
