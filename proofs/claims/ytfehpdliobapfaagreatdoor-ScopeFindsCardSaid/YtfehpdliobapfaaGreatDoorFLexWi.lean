/- For any text and any number,ScopeFinds returns true and leaves its arguments as they were. -/
import Derived.Test.YtfehpdliobapfaaGreatDoorFLexPl
set_option linter.unusedVariables false
set_option linter.unusedSimpArgs false
namespace Go.Proofs.YtfehpdliobapfaaGreatDoor.L
def Own (K:Nat) (a:List Nat):Prop:=0<a.length/\tokenG (atT a) a.length 0=(0,K,a.length)/\blankB (a.headD 0)=false/\comB (atT a) a.length 0=false
end Go.Proofs.YtfehpdliobapfaaGreatDoor.L
