/- For any text and any numbers,ScopeBlocks,ScopeUses and ScopeMany return true and leave their arguments as they were. -/
import Derived.Test.YtfehpdliobapfaaGreatDoorKTrCheck
import Derived.Test.YtfehpdliobapfaaGreatDoorKTrC
set_option linter.unusedVariables false
set_option linter.unusedSimpArgs false
namespace Go.Proofs.YtfehpdliobapfaaGreatDoor
open Go Go.RowKit
def natI (s:List Nat):List Int:=s.map fun (x:Nat)=>(x:Int)
theorem natI_len (s:List Nat):(natI s).length=s.length:=by simp [natI]
end Go.Proofs.YtfehpdliobapfaaGreatDoor
