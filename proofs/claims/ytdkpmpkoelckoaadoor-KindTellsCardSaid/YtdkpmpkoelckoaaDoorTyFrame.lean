/- What the frames of layer 10's laws share: how an argument that is a type is opened; a world for the witness. -/
import Derived.Test.YtdkpmpkoelckoaaDoorTyQ
import Derived.Test.YtdkpmpkoelckoaaDoorCards
import Derived.Test.YtdkpmpkoelckoaaDoorTie
import Derived.ProofKit
import Derived.OpenShut
import Derived.ChangeOld
import Derived.Below
import Derived.Lib.SmallJoins
import Derived.Deep.Slices
import Derived.Deep.Fields
import Derived.ChangeSame
import Derived.ShutString
import Derived.SevenTiedAt
import Derived.Deep.DeepHandedRow
import Derived.Lib.LaidTab
import Derived.Stop.LaidErr
namespace Go.Proofs.YtdkpmpkoelckoaaDoor
open Go.ChangeShapes Go.WideShapes Go.ChangeAt Go.RowKit
set_option linter.unusedVariables false

theorem own : ownKnob Tryd.prog.godebug = none := by kernel_rfl
theorem laidOut : laidOutB Tryd.prog = true := by kernel_rfl

open Go.Joins Go.Deep in
/-- a type, by value -/
theorem open_type {H : Type} {enc : TypeId × Value → H} {P : Program} {w : World} {base : Nat} {spare : Nat → Bool} {held : Bool} {r : Reach} {b0 : Nat} {t i st : TypeId} {f0 f1 f2 f3 : Field} {v : Value} {d : DataW H} {p : List MemPlace}
    (hs : P.underlying t = some (.struct #[f0, f1, f2, f3])) (hi : P.underlying i = some (.int .i64)) (hst : P.underlying st = some .string) (hone : oneCellFields P #[f0, f1, f2, f3] = true) (hC : P.cellsOf t = 4) (hf0 : f0.type = i) (hf1 : f1.type = st) (hf2 : f2.type = i) (hf3 : f3.type = st)
    (hv : Value.okWide P w r b0 t v) (h : DataW.Trod enc P w base spare held t v d p) :
    ∃ (B : Int) (N : ByteArray) (D : Int) (M : ByteArray), N.size ≤ maxLen ∧ M.size ≤ maxLen ∧ v = .agg #[.int .i64 B, .string N, .int .i64 D, .string M] := by
  obtain ⟨v0, v1, v2, v3, y0, y1, y2, y3, n, rfl, -, -, h0, h1, h2, h3⟩ := open_agg4 hs hone hC hv h
  rw [hf0] at h0
  rw [hf1] at h1
  rw [hf2] at h2
  rw [hf3] at h3
  obtain ⟨B, e0, -, -⟩ := DataW.trod_int hi h0
  obtain ⟨N, e1, -, s1⟩ := DataW.trod_string hst h1
  obtain ⟨D, e2, -, -⟩ := DataW.trod_int hi h2
  obtain ⟨M, e3, -, s3⟩ := DataW.trod_string hst h3
  simp at e0 e1 e2 e3
  subst e0 e1 e2 e3
  exact ⟨B, N, D, M, s1, s3, rfl⟩

/-- a table as its cells -/
def litV : DataW Unit → Value
  | .lit (.int k z) => .int k z
  | _ => .bool false
def flat2 : DataW Unit → List Value
  | .agg l => l.map litV
  | x => [litV x]
def dataCells : DataW Unit → Array Value
  | .agg l => (l.flatMap flat2).toArray
  | _ => #[]
def lay (g : Nat) (d : DataW Unit) (h : Array Obj) : Array Obj := h.modify g fun
  | .cells _ t frozen => .cells (dataCells d) t frozen
  | o => o
/-- A WORLD FOR THE WITNESS: the settled one, the two tables holding what their initialisers lay. -/
noncomputable def laidWorld (os : Os) : World :=
  { World.holding Tryd.prog os ⟨#[], #[], []⟩ with heap := lay 1 Rows.laid_unicode_utf8_first (lay 2 Rows.laid_unicode_utf8_acceptRanges (World.holding Tryd.prog os ⟨#[], #[], []⟩).heap) }
end Go.Proofs.YtdkpmpkoelckoaaDoor
