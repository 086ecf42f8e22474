/-
  DERIVED. GIVEN WITH THE SEED: THE CARDS: each row of YtfiphchjjgmcpaaDoorRows.lean that lists a variable, with what it lists TIED to the program's text (the seventh form; the later family's looks); each row that meets fmt, with fmt's text TOLD by the authors' own Lean function (tested against real Go, not proved from fmt's source: count such statements apart). THE CARD IS WHAT COUNTS. Prove the row's statement (the work); the ties are given (YtfiphchjjgmcpaaDoorTie.lean); close each card by the builder's one call (the guide's Derived/Test/ToyasCard.lean, 'card_holds'). Laid BY PROGRAM, IN A SANDBOX (cutbox-door.mjs). By AI agents, Wed Nov 11 2026. No macro, syntax, notation, axiom, sorry.
-/
import Derived.Test.YtfiphchjjgmcpaaDoorRows
import GoSem.ClaimSeven
namespace Go.Proofs.YtfiphchjjgmcpaaDoor
namespace Rows

/-- THE TIED CARD OF 'caulkertop.WholePlaces'. -/
def wholePlacesCard : Claim7 := { stood := { row := wholePlacesRow, standIns := [], harness := (true, "753698bc90e929811e4314b7f0f3ab0bd38daeb937310c87035310a9da008abc"), looks := false }, kinds := [], alts := [], laidByText := true, laidKinds := [.data, .data, .data], laidTests := true, laidLooks := .later }
def WholePlacesCardSaid : Prop := Claim7.holds Tryd.pinned (.plain (OpenSpec.ofChange wholePlacesSpec)) wholePlacesCard

/-- THE SECOND FORM's CARD OF 'caulkertop.WholePlaces'. -/
def wholePlacesUptoCard : Claim7 := { stood := { row := wholePlacesUptoRow, standIns := [], harness := (true, "753698bc90e929811e4314b7f0f3ab0bd38daeb937310c87035310a9da008abc"), looks := false }, kinds := [], alts := [], laidByText := true, laidKinds := [.data, .data, .data], laidTests := true, laidLooks := .later }
def WholePlacesUptoCardSaid : Prop := Claim7.holds Tryd.pinned (.plain (OpenSpec.upto wholePlacesSpec)) wholePlacesUptoCard
end Rows
end Go.Proofs.YtfiphchjjgmcpaaDoor
