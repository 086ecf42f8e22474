/- Contracts of the functions of package span that look at one or two spans. -/
import Derived.Test.YtgcokjobnpjhhaaSpanA
namespace Go.Proofs.Ytgcokjobnpjhhaa
open Go.RowKit
set_option linter.unusedVariables false


/-- what Compare answers -/
def cmpI (a b c d : Int) : Int := if ordI a c = 0 then ordI b d else ordI a c


/-- is the second within the first? -/
def holdsB (a b c d : Int) : Bool := mayB a b && mayB c d && decide (a ≤ c ∧ d ≤ b)


/-- do two lie apart? -/
def apartB (a b c d : Int) : Bool := mayB a b && mayB c d && !(a == c && b == d) && (decide (b ≤ c) || decide (d ≤ a))


end Go.Proofs.Ytgcokjobnpjhhaa
