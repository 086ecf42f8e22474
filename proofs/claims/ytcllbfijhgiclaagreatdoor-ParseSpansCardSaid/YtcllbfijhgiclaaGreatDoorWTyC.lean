/- ParseWhole -/
import Derived.Test.YtcllbfijhgiclaaGreatDoorWTyB
set_option linter.unusedVariables false
namespace Go.Proofs.YtcllbfijhgiclaaGreatDoor
open Go Go.RowKit
theorem stepS_eq (M s : ByteArray) (k : Nat) (c : Nat) (h : byS M k = c) : stepS M s k =
  if c = 63 then (if k = 0 then s else s ++ ⟨#[91,93]⟩) ++ ⟨#[63]⟩
  else if c = 111 then ⟨#[79,112,116,105,111,110,60]⟩ ++ (if k = 0 then s else s ++ ⟨#[91,93]⟩) ++ ⟨#[62]⟩
  else if k = 0 then s else s ++ ⟨#[91,93]⟩:=by unfold stepS;rw [h]
def ttS (B : Int) (N : ByteArray) (D : Int) (M : ByteArray) : ByteArray:=if rightB B N D M = true then typeS B N M else ⟨#[]⟩
end Go.Proofs.YtcllbfijhgiclaaGreatDoor
