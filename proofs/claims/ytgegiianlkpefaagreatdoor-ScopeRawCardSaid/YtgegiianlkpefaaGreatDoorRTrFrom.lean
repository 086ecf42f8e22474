/- ScopeRaw: what is wrong with nodes that are no program or no method. -/
import Derived.Test.YtgegiianlkpefaaGreatDoorRTrCheck
import Derived.Test.YtgegiianlkpefaaGreatDoorRTrC
set_option linter.unusedVariables false
set_option linter.unusedSimpArgs false
namespace Go.Proofs.YtgegiianlkpefaaGreatDoor
open Go Go.RowKit
def natI (s : List Nat) : List Int:=s.map fun (x : Nat)=>(x : Int)
theorem natI_len (s : List Nat) : (natI s).length = s.length:=by simp [natI]
end Go.Proofs.YtgegiianlkpefaaGreatDoor
