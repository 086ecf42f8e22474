/- What the frames of the door laws' proofs share: the library's table of numbers out of the row's list, and a world for the witness. -/
import Derived.Test.YtfiphchjjgmcpaaDoorFrame
import Derived.Test.YtfiphchjjgmcpaaDoorLineShow
import Derived.Test.YtfiphchjjgmcpaaDoorCards
import Derived.Test.YtfiphchjjgmcpaaDoorTie
import Derived.SevenTiedAt
import Derived.Deep.DeepHandedRow
import Derived.Lib.LaidTab
import Derived.Stop.LaidErr
namespace Go.Proofs.YtfiphchjjgmcpaaDoor
open Go.ChangeShapes Go.WideShapes Go.ChangeAt Go.RowKit
set_option linter.unusedVariables false

theorem gPow : Tryd.prog.globalNamed "internal/strconv.uint64pow10" = some 1 := by kernel_rfl
theorem tPow : (Tryd.prog.globals[1]?).map (·.type) = some 96 := by kernel_rfl
theorem cPow : Tryd.prog.cellsOf 96 = 20 := by kernel_rfl
theorem cU64 : Tryd.prog.cellsOf 82 = 1 := by kernel_rfl

/-- WHAT THE ROW's LIST GIVES: the table of numbers. -/
theorem tableOf {W : World} (h : laidMetH Tryd.prog Rows.wholePlacesRow.laid W) : Tab W := by
  have h1 : laidMet Tryd.prog [("math/bits.deBruijn32tab", Rows.laid_math_bits_deBruijn32tab), ("math/bits.deBruijn64tab", Rows.laid_math_bits_deBruijn64tab), ("internal/strconv.uint64pow10", Rows.laid_internal_strconv_uint64pow10)] W := h
  exact Lib.tabIs_of_head (rest := []) gPow tPow Tryd.underlying96 Tryd.underlying82 cU64 cPow (laidMet.tail (laidMet.tail h1))

/-- an array of whole numbers as its cells -/
def dataCells : DataW Unit → Array Value
  | .agg l => (l.map fun | .lit (.int k z) => Value.int k z | _ => .bool false).toArray
  | _ => #[]
def lay (g : Nat) (d : DataW Unit) (h : Array Obj) : Array Obj := h.modify g fun
  | .cells _ t frozen => .cells (dataCells d) t frozen
  | o => o
/-- A WORLD FOR THE WITNESS: the settled one, the three tables holding what their initialisers lay. -/
noncomputable def laidWorld (os : Os) : World :=
  { World.holding Tryd.prog os ⟨#[], #[], []⟩ with heap := lay 1 Rows.laid_internal_strconv_uint64pow10 (lay 3 Rows.laid_math_bits_deBruijn64tab (lay 2 Rows.laid_math_bits_deBruijn32tab (World.holding Tryd.prog os ⟨#[], #[], []⟩).heap)) }

end Go.Proofs.YtfiphchjjgmcpaaDoor
