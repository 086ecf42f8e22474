/- ParseWhole -/
import Derived.Test.YtcllbfijhgiclaaGreatDoorWTrTabs
import Derived.Test.YtcllbfijhgiclaaGreatDoorCards
import Derived.Test.YtcllbfijhgiclaaGreatDoorTie
import Derived.ChangeOld
import Derived.Below
import Derived.Lib.SmallJoins
import Derived.Deep.Slices
import Derived.Deep.Fields
import Derived.ChangeSame
import Derived.ShutString
import Derived.Lay
import Derived.SevenTiedAt
import Derived.Stop.Joined
set_option linter.unusedVariables false
namespace Go.Proofs.YtcllbfijhgiclaaGreatDoor
open Go.ChangeShapes Go.WideShapes Go.ChangeAt Go.RowKit
theorem own : ownKnob Tryz.prog.godebug = none:=by kernel_rfl
end Go.Proofs.YtcllbfijhgiclaaGreatDoor
