/-
  DERIVED. GIVEN WITH THE SEED: THE CARDS: each row of YtfehpdliobapfaaGreatDoorRows.lean that lists a variable, with what it lists TIED to the program's text (the seventh form; the later family's looks); each row that meets fmt, with fmt's text TOLD by the authors' own Lean function (tested against real Go, not proved from fmt's source: count such statements apart). THE CARD IS WHAT COUNTS. Prove the row's statement (the work); the ties are given (YtfehpdliobapfaaGreatDoorTie.lean); close each card by the builder's one call (the guide's Derived/Test/ToyasCard.lean, 'card_holds'). Laid BY PROGRAM, IN A SANDBOX (cutbox-door.mjs). By AI agents, Wed Nov 11 2026. No macro, syntax, notation, axiom, sorry.
-/
import Derived.Test.YtfehpdliobapfaaGreatDoorRows
import GoSem.ClaimSeven
namespace Go.Proofs.YtfehpdliobapfaaGreatDoor
namespace Rows

/-- THE TIED CARD OF 'caulkerlaw11.ClassChecks'. -/
def classChecksCard : Claim7 := { stood := { row := classChecksRow, standIns := [], harness := (true, "d1d6e92bb33e065aaf961c8f77e2db39ef9b3c28d76c54fbd4400783863a396a"), looks := true }, kinds := [], alts := [], laidByText := true, laidKinds := [.data, .data, .pinned], laidTests := true, laidLooks := .later }
def ClassChecksCardSaid : Prop := Claim7.holds Tryz.pinned (.plain (OpenSpec.ofChange classChecksSpec)) classChecksCard

/-- THE TIED CARD OF 'caulkerlaw11.ClassTells'. -/
def classTellsCard : Claim7 := { stood := { row := classTellsRow, standIns := [], harness := (true, "d1d6e92bb33e065aaf961c8f77e2db39ef9b3c28d76c54fbd4400783863a396a"), looks := true }, kinds := [], alts := [], laidByText := true, laidKinds := [.data, .data, .pinned], laidTests := true, laidLooks := .later }
def ClassTellsCardSaid : Prop := Claim7.holds Tryz.pinned (.plain (OpenSpec.ofChange classTellsSpec)) classTellsCard

/-- THE TIED CARD OF 'caulkerlaw11.ClassLists'. -/
def classListsCard : Claim7 := { stood := { row := classListsRow, standIns := [], harness := (true, "d1d6e92bb33e065aaf961c8f77e2db39ef9b3c28d76c54fbd4400783863a396a"), looks := true }, kinds := [], alts := [], laidByText := true, laidKinds := [.data, .data, .pinned], laidTests := true, laidLooks := .later }
def ClassListsCardSaid : Prop := Claim7.holds Tryz.pinned (.plain (OpenSpec.ofChange classListsSpec)) classListsCard

/-- THE TIED CARD OF 'caulkerlaw11.ClassSubs'. -/
def classSubsCard : Claim7 := { stood := { row := classSubsRow, standIns := [], harness := (true, "d1d6e92bb33e065aaf961c8f77e2db39ef9b3c28d76c54fbd4400783863a396a"), looks := true }, kinds := [], alts := [], laidByText := true, laidKinds := [.data, .data, .pinned], laidTests := true, laidLooks := .later }
def ClassSubsCardSaid : Prop := Claim7.holds Tryz.pinned (.plain (OpenSpec.ofChange classSubsSpec)) classSubsCard

/-- THE TIED CARD OF 'caulkerlaw11.ClassFits'. -/
def classFitsCard : Claim7 := { stood := { row := classFitsRow, standIns := [], harness := (true, "d1d6e92bb33e065aaf961c8f77e2db39ef9b3c28d76c54fbd4400783863a396a"), looks := true }, kinds := [], alts := [], laidByText := true, laidKinds := [.data, .data, .pinned], laidTests := true, laidLooks := .later }
def ClassFitsCardSaid : Prop := Claim7.holds Tryz.pinned (.plain (OpenSpec.ofChange classFitsSpec)) classFitsCard

/-- THE TIED CARD OF 'caulkerlaw11.ClassFamilies'. -/
def classFamiliesCard : Claim7 := { stood := { row := classFamiliesRow, standIns := [], harness := (true, "d1d6e92bb33e065aaf961c8f77e2db39ef9b3c28d76c54fbd4400783863a396a"), looks := true }, kinds := [], alts := [], laidByText := true, laidKinds := [.data, .data, .pinned], laidTests := true, laidLooks := .later }
def ClassFamiliesCardSaid : Prop := Claim7.holds Tryz.pinned (.plain (OpenSpec.ofChange classFamiliesSpec)) classFamiliesCard

/-- THE TIED CARD OF 'caulkerlaw12.ScopeFinds'. -/
def scopeFindsCard : Claim7 := { stood := { row := scopeFindsRow, standIns := [], harness := (true, "d1d6e92bb33e065aaf961c8f77e2db39ef9b3c28d76c54fbd4400783863a396a"), looks := true }, kinds := [], alts := [], laidByText := true, laidKinds := [.data, .data, .pinned], laidTests := true, laidLooks := .later }
def ScopeFindsCardSaid : Prop := Claim7.holds Tryz.pinned (.plain (OpenSpec.ofChange scopeFindsSpec)) scopeFindsCard

/-- THE TIED CARD OF 'caulkerlaw12.ScopeUses'. -/
def scopeUsesCard : Claim7 := { stood := { row := scopeUsesRow, standIns := [], harness := (true, "d1d6e92bb33e065aaf961c8f77e2db39ef9b3c28d76c54fbd4400783863a396a"), looks := true }, kinds := [], alts := [], laidByText := true, laidKinds := [.data, .data, .pinned], laidTests := true, laidLooks := .later }
def ScopeUsesCardSaid : Prop := Claim7.holds Tryz.pinned (.plain (OpenSpec.ofChange scopeUsesSpec)) scopeUsesCard

/-- THE TIED CARD OF 'caulkerlaw12.ScopeRaw'. -/
def scopeRawCard : Claim7 := { stood := { row := scopeRawRow, standIns := [], harness := (true, "d1d6e92bb33e065aaf961c8f77e2db39ef9b3c28d76c54fbd4400783863a396a"), looks := true }, kinds := [], alts := [], laidByText := true, laidKinds := [.data, .data, .pinned], laidTests := true, laidLooks := .later }
def ScopeRawCardSaid : Prop := Claim7.holds Tryz.pinned (.plain (OpenSpec.ofChange scopeRawSpec)) scopeRawCard

/-- THE TIED CARD OF 'caulkerlaw12.ScopeBlocks'. -/
def scopeBlocksCard : Claim7 := { stood := { row := scopeBlocksRow, standIns := [], harness := (true, "d1d6e92bb33e065aaf961c8f77e2db39ef9b3c28d76c54fbd4400783863a396a"), looks := true }, kinds := [], alts := [], laidByText := true, laidKinds := [.data, .data, .pinned], laidTests := true, laidLooks := .later }
def ScopeBlocksCardSaid : Prop := Claim7.holds Tryz.pinned (.plain (OpenSpec.ofChange scopeBlocksSpec)) scopeBlocksCard

/-- THE TIED CARD OF 'caulkerlaw12.ScopeMany'. -/
def scopeManyCard : Claim7 := { stood := { row := scopeManyRow, standIns := [], harness := (true, "d1d6e92bb33e065aaf961c8f77e2db39ef9b3c28d76c54fbd4400783863a396a"), looks := true }, kinds := [], alts := [], laidByText := true, laidKinds := [.data, .data, .pinned], laidTests := true, laidLooks := .later }
def ScopeManyCardSaid : Prop := Claim7.holds Tryz.pinned (.plain (OpenSpec.ofChange scopeManySpec)) scopeManyCard

/-- THE SECOND FORM's CARD OF 'caulkerlaw11.ClassChecks'. -/
def classChecksUptoCard : Claim7 := { stood := { row := classChecksUptoRow, standIns := [], harness := (true, "d1d6e92bb33e065aaf961c8f77e2db39ef9b3c28d76c54fbd4400783863a396a"), looks := true }, kinds := [], alts := [], laidByText := true, laidKinds := [.data, .data, .pinned], laidTests := true, laidLooks := .later }
def ClassChecksUptoCardSaid : Prop := Claim7.holds Tryz.pinned (.plain (OpenSpec.upto classChecksSpec)) classChecksUptoCard

/-- THE SECOND FORM's CARD OF 'caulkerlaw11.ClassTells'. -/
def classTellsUptoCard : Claim7 := { stood := { row := classTellsUptoRow, standIns := [], harness := (true, "d1d6e92bb33e065aaf961c8f77e2db39ef9b3c28d76c54fbd4400783863a396a"), looks := true }, kinds := [], alts := [], laidByText := true, laidKinds := [.data, .data, .pinned], laidTests := true, laidLooks := .later }
def ClassTellsUptoCardSaid : Prop := Claim7.holds Tryz.pinned (.plain (OpenSpec.upto classTellsSpec)) classTellsUptoCard

/-- THE SECOND FORM's CARD OF 'caulkerlaw11.ClassLists'. -/
def classListsUptoCard : Claim7 := { stood := { row := classListsUptoRow, standIns := [], harness := (true, "d1d6e92bb33e065aaf961c8f77e2db39ef9b3c28d76c54fbd4400783863a396a"), looks := true }, kinds := [], alts := [], laidByText := true, laidKinds := [.data, .data, .pinned], laidTests := true, laidLooks := .later }
def ClassListsUptoCardSaid : Prop := Claim7.holds Tryz.pinned (.plain (OpenSpec.upto classListsSpec)) classListsUptoCard

/-- THE SECOND FORM's CARD OF 'caulkerlaw11.ClassSubs'. -/
def classSubsUptoCard : Claim7 := { stood := { row := classSubsUptoRow, standIns := [], harness := (true, "d1d6e92bb33e065aaf961c8f77e2db39ef9b3c28d76c54fbd4400783863a396a"), looks := true }, kinds := [], alts := [], laidByText := true, laidKinds := [.data, .data, .pinned], laidTests := true, laidLooks := .later }
def ClassSubsUptoCardSaid : Prop := Claim7.holds Tryz.pinned (.plain (OpenSpec.upto classSubsSpec)) classSubsUptoCard

/-- THE SECOND FORM's CARD OF 'caulkerlaw11.ClassFits'. -/
def classFitsUptoCard : Claim7 := { stood := { row := classFitsUptoRow, standIns := [], harness := (true, "d1d6e92bb33e065aaf961c8f77e2db39ef9b3c28d76c54fbd4400783863a396a"), looks := true }, kinds := [], alts := [], laidByText := true, laidKinds := [.data, .data, .pinned], laidTests := true, laidLooks := .later }
def ClassFitsUptoCardSaid : Prop := Claim7.holds Tryz.pinned (.plain (OpenSpec.upto classFitsSpec)) classFitsUptoCard

/-- THE SECOND FORM's CARD OF 'caulkerlaw11.ClassFamilies'. -/
def classFamiliesUptoCard : Claim7 := { stood := { row := classFamiliesUptoRow, standIns := [], harness := (true, "d1d6e92bb33e065aaf961c8f77e2db39ef9b3c28d76c54fbd4400783863a396a"), looks := true }, kinds := [], alts := [], laidByText := true, laidKinds := [.data, .data, .pinned], laidTests := true, laidLooks := .later }
def ClassFamiliesUptoCardSaid : Prop := Claim7.holds Tryz.pinned (.plain (OpenSpec.upto classFamiliesSpec)) classFamiliesUptoCard

/-- THE SECOND FORM's CARD OF 'caulkerlaw12.ScopeFinds'. -/
def scopeFindsUptoCard : Claim7 := { stood := { row := scopeFindsUptoRow, standIns := [], harness := (true, "d1d6e92bb33e065aaf961c8f77e2db39ef9b3c28d76c54fbd4400783863a396a"), looks := true }, kinds := [], alts := [], laidByText := true, laidKinds := [.data, .data, .pinned], laidTests := true, laidLooks := .later }
def ScopeFindsUptoCardSaid : Prop := Claim7.holds Tryz.pinned (.plain (OpenSpec.upto scopeFindsSpec)) scopeFindsUptoCard

/-- THE SECOND FORM's CARD OF 'caulkerlaw12.ScopeUses'. -/
def scopeUsesUptoCard : Claim7 := { stood := { row := scopeUsesUptoRow, standIns := [], harness := (true, "d1d6e92bb33e065aaf961c8f77e2db39ef9b3c28d76c54fbd4400783863a396a"), looks := true }, kinds := [], alts := [], laidByText := true, laidKinds := [.data, .data, .pinned], laidTests := true, laidLooks := .later }
def ScopeUsesUptoCardSaid : Prop := Claim7.holds Tryz.pinned (.plain (OpenSpec.upto scopeUsesSpec)) scopeUsesUptoCard

/-- THE SECOND FORM's CARD OF 'caulkerlaw12.ScopeRaw'. -/
def scopeRawUptoCard : Claim7 := { stood := { row := scopeRawUptoRow, standIns := [], harness := (true, "d1d6e92bb33e065aaf961c8f77e2db39ef9b3c28d76c54fbd4400783863a396a"), looks := true }, kinds := [], alts := [], laidByText := true, laidKinds := [.data, .data, .pinned], laidTests := true, laidLooks := .later }
def ScopeRawUptoCardSaid : Prop := Claim7.holds Tryz.pinned (.plain (OpenSpec.upto scopeRawSpec)) scopeRawUptoCard

/-- THE SECOND FORM's CARD OF 'caulkerlaw12.ScopeBlocks'. -/
def scopeBlocksUptoCard : Claim7 := { stood := { row := scopeBlocksUptoRow, standIns := [], harness := (true, "d1d6e92bb33e065aaf961c8f77e2db39ef9b3c28d76c54fbd4400783863a396a"), looks := true }, kinds := [], alts := [], laidByText := true, laidKinds := [.data, .data, .pinned], laidTests := true, laidLooks := .later }
def ScopeBlocksUptoCardSaid : Prop := Claim7.holds Tryz.pinned (.plain (OpenSpec.upto scopeBlocksSpec)) scopeBlocksUptoCard

/-- THE SECOND FORM's CARD OF 'caulkerlaw12.ScopeMany'. -/
def scopeManyUptoCard : Claim7 := { stood := { row := scopeManyUptoRow, standIns := [], harness := (true, "d1d6e92bb33e065aaf961c8f77e2db39ef9b3c28d76c54fbd4400783863a396a"), looks := true }, kinds := [], alts := [], laidByText := true, laidKinds := [.data, .data, .pinned], laidTests := true, laidLooks := .later }
def ScopeManyUptoCardSaid : Prop := Claim7.holds Tryz.pinned (.plain (OpenSpec.upto scopeManySpec)) scopeManyUptoCard
end Rows
end Go.Proofs.YtfehpdliobapfaaGreatDoor
