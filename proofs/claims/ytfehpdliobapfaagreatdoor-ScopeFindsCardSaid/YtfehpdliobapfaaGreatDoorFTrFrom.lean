/- For any text and any number,ScopeFinds returns true and leaves its arguments as they were. -/
import Derived.Test.YtfehpdliobapfaaGreatDoorFTrCheck
import Derived.Test.YtfehpdliobapfaaGreatDoorFTrC
set_option linter.unusedVariables false
set_option linter.unusedSimpArgs false
namespace Go.Proofs.YtfehpdliobapfaaGreatDoor
open Go Go.RowKit
def natI (s:List Nat):List Int:=s.map fun (x:Nat)=>(x:Int)
theorem natI_len (s:List Nat):(natI s).length=s.length:=by simp [natI]
end Go.Proofs.YtfehpdliobapfaaGreatDoor
