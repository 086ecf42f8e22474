/-
  DERIVED. GIVEN WITH THE SEED: THE CARDS: each row of YtdkpmpkoelckoaaDoorRows.lean that lists a variable, with what it lists TIED to the program's text (the seventh form; the later family's looks); each row that meets fmt, with fmt's text TOLD by the authors' own Lean function (tested against real Go, not proved from fmt's source: count such statements apart). THE CARD IS WHAT COUNTS. Prove the row's statement (the work); the ties are given (YtdkpmpkoelckoaaDoorTie.lean); close each card by the builder's one call (the guide's Derived/Test/ToyasCard.lean, 'card_holds'). Laid BY PROGRAM, IN A SANDBOX (cutbox-door.mjs). By AI agents, Wed Nov 11 2026. No macro, syntax, notation, axiom, sorry.
-/
import Derived.Test.YtdkpmpkoelckoaaDoorRows
import GoSem.ClaimSeven
namespace Go.Proofs.YtdkpmpkoelckoaaDoor
namespace Rows

/-- THE TIED CARD OF 'caulkerlaw10.KindMakes'. -/
def kindMakesCard : Claim7 := { stood := { row := kindMakesRow, standIns := [], harness := (true, "f24c486316942e9760cd8ee3f7a3f8f3ce2a9bb3eabab2ac40c9d06d16c0c9a3"), looks := false }, kinds := [], alts := [], laidByText := true, laidKinds := [.data, .pinned], laidTests := true, laidLooks := .later }
def KindMakesCardSaid : Prop := Claim7.holds Tryd.pinned (.plain (OpenSpec.ofChange kindMakesSpec)) kindMakesCard

/-- THE TIED CARD OF 'caulkerlaw10.KindTells'. -/
def kindTellsCard : Claim7 := { stood := { row := kindTellsRow, standIns := [], harness := (true, "f24c486316942e9760cd8ee3f7a3f8f3ce2a9bb3eabab2ac40c9d06d16c0c9a3"), looks := false }, kinds := [], alts := [], laidByText := true, laidKinds := [.data, .pinned], laidTests := true, laidLooks := .later }
def KindTellsCardSaid : Prop := Claim7.holds Tryd.pinned (.plain (OpenSpec.ofChange kindTellsSpec)) kindTellsCard

/-- THE TIED CARD OF 'caulkerlaw10.KindPairs'. -/
def kindPairsCard : Claim7 := { stood := { row := kindPairsRow, standIns := [], harness := (true, "f24c486316942e9760cd8ee3f7a3f8f3ce2a9bb3eabab2ac40c9d06d16c0c9a3"), looks := false }, kinds := [], alts := [], laidByText := true, laidKinds := [.data, .pinned], laidTests := true, laidLooks := .later }
def KindPairsCardSaid : Prop := Claim7.holds Tryd.pinned (.plain (OpenSpec.ofChange kindPairsSpec)) kindPairsCard

/-- THE TIED CARD OF 'caulkerlaw10.KindMarks'. -/
def kindMarksCard : Claim7 := { stood := { row := kindMarksRow, standIns := [], harness := (true, "f24c486316942e9760cd8ee3f7a3f8f3ce2a9bb3eabab2ac40c9d06d16c0c9a3"), looks := false }, kinds := [], alts := [], laidByText := true, laidKinds := [.data, .pinned], laidTests := true, laidLooks := .later }
def KindMarksCardSaid : Prop := Claim7.holds Tryd.pinned (.plain (OpenSpec.ofChange kindMarksSpec)) kindMarksCard

/-- THE TIED CARD OF 'caulkerlaw10.KindArrays'. -/
def kindArraysCard : Claim7 := { stood := { row := kindArraysRow, standIns := [], harness := (true, "f24c486316942e9760cd8ee3f7a3f8f3ce2a9bb3eabab2ac40c9d06d16c0c9a3"), looks := false }, kinds := [], alts := [], laidByText := true, laidKinds := [.data, .pinned], laidTests := true, laidLooks := .later }
def KindArraysCardSaid : Prop := Claim7.holds Tryd.pinned (.plain (OpenSpec.ofChange kindArraysSpec)) kindArraysCard

/-- THE TIED CARD OF 'caulkerlaw10.KindOrder'. -/
def kindOrderCard : Claim7 := { stood := { row := kindOrderRow, standIns := [], harness := (true, "f24c486316942e9760cd8ee3f7a3f8f3ce2a9bb3eabab2ac40c9d06d16c0c9a3"), looks := false }, kinds := [], alts := [], laidByText := true, laidKinds := [.data, .pinned], laidTests := true, laidLooks := .later }
def KindOrderCardSaid : Prop := Claim7.holds Tryd.pinned (.plain (OpenSpec.ofChange kindOrderSpec)) kindOrderCard

/-- THE SECOND FORM's CARD OF 'caulkerlaw10.KindMakes'. -/
def kindMakesUptoCard : Claim7 := { stood := { row := kindMakesUptoRow, standIns := [], harness := (true, "f24c486316942e9760cd8ee3f7a3f8f3ce2a9bb3eabab2ac40c9d06d16c0c9a3"), looks := false }, kinds := [], alts := [], laidByText := true, laidKinds := [.data, .pinned], laidTests := true, laidLooks := .later }
def KindMakesUptoCardSaid : Prop := Claim7.holds Tryd.pinned (.plain (OpenSpec.upto kindMakesSpec)) kindMakesUptoCard

/-- THE SECOND FORM's CARD OF 'caulkerlaw10.KindTells'. -/
def kindTellsUptoCard : Claim7 := { stood := { row := kindTellsUptoRow, standIns := [], harness := (true, "f24c486316942e9760cd8ee3f7a3f8f3ce2a9bb3eabab2ac40c9d06d16c0c9a3"), looks := false }, kinds := [], alts := [], laidByText := true, laidKinds := [.data, .pinned], laidTests := true, laidLooks := .later }
def KindTellsUptoCardSaid : Prop := Claim7.holds Tryd.pinned (.plain (OpenSpec.upto kindTellsSpec)) kindTellsUptoCard

/-- THE SECOND FORM's CARD OF 'caulkerlaw10.KindPairs'. -/
def kindPairsUptoCard : Claim7 := { stood := { row := kindPairsUptoRow, standIns := [], harness := (true, "f24c486316942e9760cd8ee3f7a3f8f3ce2a9bb3eabab2ac40c9d06d16c0c9a3"), looks := false }, kinds := [], alts := [], laidByText := true, laidKinds := [.data, .pinned], laidTests := true, laidLooks := .later }
def KindPairsUptoCardSaid : Prop := Claim7.holds Tryd.pinned (.plain (OpenSpec.upto kindPairsSpec)) kindPairsUptoCard

/-- THE SECOND FORM's CARD OF 'caulkerlaw10.KindMarks'. -/
def kindMarksUptoCard : Claim7 := { stood := { row := kindMarksUptoRow, standIns := [], harness := (true, "f24c486316942e9760cd8ee3f7a3f8f3ce2a9bb3eabab2ac40c9d06d16c0c9a3"), looks := false }, kinds := [], alts := [], laidByText := true, laidKinds := [.data, .pinned], laidTests := true, laidLooks := .later }
def KindMarksUptoCardSaid : Prop := Claim7.holds Tryd.pinned (.plain (OpenSpec.upto kindMarksSpec)) kindMarksUptoCard

/-- THE SECOND FORM's CARD OF 'caulkerlaw10.KindArrays'. -/
def kindArraysUptoCard : Claim7 := { stood := { row := kindArraysUptoRow, standIns := [], harness := (true, "f24c486316942e9760cd8ee3f7a3f8f3ce2a9bb3eabab2ac40c9d06d16c0c9a3"), looks := false }, kinds := [], alts := [], laidByText := true, laidKinds := [.data, .pinned], laidTests := true, laidLooks := .later }
def KindArraysUptoCardSaid : Prop := Claim7.holds Tryd.pinned (.plain (OpenSpec.upto kindArraysSpec)) kindArraysUptoCard

/-- THE SECOND FORM's CARD OF 'caulkerlaw10.KindOrder'. -/
def kindOrderUptoCard : Claim7 := { stood := { row := kindOrderUptoRow, standIns := [], harness := (true, "f24c486316942e9760cd8ee3f7a3f8f3ce2a9bb3eabab2ac40c9d06d16c0c9a3"), looks := false }, kinds := [], alts := [], laidByText := true, laidKinds := [.data, .pinned], laidTests := true, laidLooks := .later }
def KindOrderUptoCardSaid : Prop := Claim7.holds Tryd.pinned (.plain (OpenSpec.upto kindOrderSpec)) kindOrderUptoCard
end Rows
end Go.Proofs.YtdkpmpkoelckoaaDoor
