/- For any text and any number,ScopeFinds returns true and leaves its arguments as they were. -/
import Derived.Test.YtfehpdliobapfaaGreatDoorRows
import Derived.Test.YtfehpdliobapfaaGreatDoorFFloatPl
import Derived.WalkKit
import Derived.WalkSpells
import Derived.WalkLawsBesides
import Derived.Lib.Hide
import Derived.Laws.Externs
import Derived.Laws.Bits64
import Derived.Laws.BitsAllLaws
import Derived.Deep.Draws
set_option linter.unusedVariables false
namespace Go.Proofs.YtfehpdliobapfaaGreatDoor.L
open Go.RowKit
theorem tobits_run (n:Nat) (w:World):(callFunc 282 #[.float .f64 n]).run Tryz.prog w = .ok (.value (.int .u64 (n:Int))) w:=by
 rw [run_callFunc_extern Tryz.func282 (by kernel_rfl) (by kernel_rfl) (by kernel_rfl) (e:=Extern.MathFloatBits.float64bits) (by kernel_rfl)];rfl
def nanB (a:Nat):Bool:=decide (9218868437227405312<RW a)
theorem isnan_any (a:Nat) (w:World) :
  Calls Tryz.prog 281 #[.float .f64 a] w fun e w'=>e = .returned (.bool (nanB a))/\w=w':=by
 have hx:(FloatKind.f64.format.order a a != some .eq)=nanB a:=order_self a
 go_enter Tryz.func281,Tryz.ntmps281
 go_wp2_with fail
 go_ret
 exact ⟨rfl,rfl⟩
theorem bitsOf_any (a:Nat) (w:World) :
  Calls Tryz.prog 278 #[.float .f64 a] w fun e w'=>e = .returned (.int .u64 (norm a:Nat))/\w=w':=by
 have hx:=tobits_run a
 by_cases h:isNaN a
 ·have H:=Lib.hid (norm_nan h)
  have hn:nanB a=true:=decide_eq_true h
  clear h
  go_enter Tryz.func278,Tryz.ntmps278
  go_wp2_with (go_at_call 281;refine (isnan_any _ _).mono ?_;rintro e w' ⟨rfl,rfl⟩)
  go_ret
  exact ⟨by rw [H.out];rfl,rfl⟩
 ·have H:=Lib.hid (norm_of h)
  have hn:nanB a=false:=decide_eq_false h
  clear h
  go_enter Tryz.func278,Tryz.ntmps278
  go_wp2_with (go_at_call 281;refine (isnan_any _ _).mono ?_;rintro e w' ⟨rfl,rfl⟩)
  go_ret
  exact ⟨by rw [H.out];rfl,rfl⟩
end Go.Proofs.YtfehpdliobapfaaGreatDoor.L
