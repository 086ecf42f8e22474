/-
  NARROWER THAN 'FOR EVERY INPUT', by the rows' own cells (each row's printed sentence says how): ClassChecks: laid · ClassTells: laid · ClassLists: laid · ClassSubs: laid · ClassFits: laid · ClassFamilies: laid · ScopeFinds: laid · ScopeUses: laid · ScopeRaw: laid · ScopeBlocks: laid · ScopeMany: laid.
  DERIVED. THE GIVEN ROWS OF THIS SEAT. 11 by the template 'for every input the law returns true; each argument reads behind the call as it read before'; 0 by the template 'total and deterministic' (their statements: YtfehpdliobapfaaGreatDoorTotals.lean).
  GIVEN WITH THE SEED: the statements are not yours to turn. If you find one false, say at which input.
  Laid BY PROGRAM, IN A SANDBOX (cutbox-rows.mjs): the forced cells as the released guide's own fill.sh prints them over the translation 3601c8d11845f859… (all of the seat's roots in one cut). By AI agents, Wed Nov 11 2026. No macro, syntax, notation, axiom, sorry.
-/
import Derived.Test.YtfehpdliobapfaaGreatDoorChecked
import GoSem.PinnedTables
import GoSem.Claim
import GoSem.ClaimJoined
import GoSem.ClaimMapViews
import Derived.JoinedTies
import Derived.KernelRfl
namespace Go.Proofs.YtfehpdliobapfaaGreatDoor
/- THE CELL 'sum', in the pinned program and in every row, IS THE sha256 OF THE DUMP (.gsa) THAT YtfehpdliobapfaaGreatDoorProg.lean LOADS. Nothing in Lean hashes anything: it is a label: what it is worth is what the hold of that sum in a sandbox is worth. -/
noncomputable def Tryz.pinned : Pinned := { name := "ytfehpdliobapfaagreatdoor", sum := "3601c8d11845f859e5fc556939f053de66da4fa3e6732d312d263e58e0a9ed09", checked := Tryz.checked }
namespace Rows
def none {H : Type} : Left H := { results := [], args := [] }

/- WHAT THE LISTED PACKAGE-LEVEL VARIABLES READ AS WHEN THE CALL BEGINS. Each datum BY PROGRAM (the guide's laid-datum.mjs) off the statement by which the dump's own 'gosem.cut.vars' lays the variable. In a bare row this is a premise. The card (YtfehpdliobapfaaGreatDoorCards.lean) ties it to the program's text. -/
def laid_unicode_utf8_acceptRanges {H : Type} : DataW H := .agg [.agg [.lit (.int .u8 128), .lit (.int .u8 191)], .agg [.lit (.int .u8 160), .lit (.int .u8 191)], .agg [.lit (.int .u8 128), .lit (.int .u8 159)], .agg [.lit (.int .u8 144), .lit (.int .u8 191)], .agg [.lit (.int .u8 128), .lit (.int .u8 143)], .agg [.lit (.int .u8 0), .lit (.int .u8 0)], .agg [.lit (.int .u8 0), .lit (.int .u8 0)], .agg [.lit (.int .u8 0), .lit (.int .u8 0)], .agg [.lit (.int .u8 0), .lit (.int .u8 0)], .agg [.lit (.int .u8 0), .lit (.int .u8 0)], .agg [.lit (.int .u8 0), .lit (.int .u8 0)], .agg [.lit (.int .u8 0), .lit (.int .u8 0)], .agg [.lit (.int .u8 0), .lit (.int .u8 0)], .agg [.lit (.int .u8 0), .lit (.int .u8 0)], .agg [.lit (.int .u8 0), .lit (.int .u8 0)], .agg [.lit (.int .u8 0), .lit (.int .u8 0)]]
def laid_caulker_tree_shapes {H : Type} : DataW H := .agg [.agg [.lit (.string []), .lit (.int .i64 0), .lit (.int .i64 0), .lit (.bool false), .lit (.bool false)], .agg [.lit (.string [112, 114, 111, 103, 114, 97, 109]), .lit (.int .i64 0), .lit (.int .i64 9223372036854775807), .lit (.bool false), .lit (.bool false)], .agg [.lit (.string [99, 108, 97, 115, 115]), .lit (.int .i64 0), .lit (.int .i64 9223372036854775807), .lit (.bool true), .lit (.bool false)], .agg [.lit (.string [101, 120, 116, 101, 110, 100, 115]), .lit (.int .i64 0), .lit (.int .i64 0), .lit (.bool true), .lit (.bool false)], .agg [.lit (.string [102, 105, 101, 108, 100]), .lit (.int .i64 0), .lit (.int .i64 0), .lit (.bool true), .lit (.bool true)], .agg [.lit (.string [105, 110, 105, 116]), .lit (.int .i64 1), .lit (.int .i64 9223372036854775807), .lit (.bool false), .lit (.bool false)], .agg [.lit (.string [109, 101, 116, 104, 111, 100]), .lit (.int .i64 1), .lit (.int .i64 9223372036854775807), .lit (.bool true), .lit (.bool true)], .agg [.lit (.string [112, 97, 114, 97, 109]), .lit (.int .i64 0), .lit (.int .i64 0), .lit (.bool true), .lit (.bool true)], .agg [.lit (.string [98, 108, 111, 99, 107]), .lit (.int .i64 0), .lit (.int .i64 9223372036854775807), .lit (.bool false), .lit (.bool false)], .agg [.lit (.string [100, 101, 99, 108]), .lit (.int .i64 0), .lit (.int .i64 1), .lit (.bool true), .lit (.bool true)], .agg [.lit (.string [97, 115, 115, 105, 103, 110]), .lit (.int .i64 2), .lit (.int .i64 2), .lit (.bool false), .lit (.bool false)], .agg [.lit (.string [105, 102]), .lit (.int .i64 2), .lit (.int .i64 3), .lit (.bool false), .lit (.bool false)], .agg [.lit (.string [119, 104, 105, 108, 101]), .lit (.int .i64 2), .lit (.int .i64 2), .lit (.bool false), .lit (.bool false)], .agg [.lit (.string [98, 114, 101, 97, 107]), .lit (.int .i64 0), .lit (.int .i64 0), .lit (.bool false), .lit (.bool false)], .agg [.lit (.string [99, 111, 110, 116, 105, 110, 117, 101]), .lit (.int .i64 0), .lit (.int .i64 0), .lit (.bool false), .lit (.bool false)], .agg [.lit (.string [114, 101, 116, 117, 114, 110]), .lit (.int .i64 0), .lit (.int .i64 1), .lit (.bool false), .lit (.bool false)], .agg [.lit (.string [112, 114, 105, 110, 116]), .lit (.int .i64 1), .lit (.int .i64 1), .lit (.bool false), .lit (.bool false)], .agg [.lit (.string [115, 117, 112, 101, 114]), .lit (.int .i64 0), .lit (.int .i64 9223372036854775807), .lit (.bool false), .lit (.bool false)], .agg [.lit (.string [101, 120, 112, 114]), .lit (.int .i64 1), .lit (.int .i64 1), .lit (.bool false), .lit (.bool false)], .agg [.lit (.string [105, 110, 116]), .lit (.int .i64 0), .lit (.int .i64 0), .lit (.bool false), .lit (.bool false)], .agg [.lit (.string [100, 111, 117, 98, 108, 101]), .lit (.int .i64 0), .lit (.int .i64 0), .lit (.bool true), .lit (.bool false)], .agg [.lit (.string [98, 111, 111, 108]), .lit (.int .i64 0), .lit (.int .i64 0), .lit (.bool false), .lit (.bool false)], .agg [.lit (.string [115, 116, 114]), .lit (.int .i64 0), .lit (.int .i64 0), .lit (.bool true), .lit (.bool false)], .agg [.lit (.string [110, 117, 108, 108]), .lit (.int .i64 0), .lit (.int .i64 0), .lit (.bool false), .lit (.bool false)], .agg [.lit (.string [116, 104, 105, 115]), .lit (.int .i64 0), .lit (.int .i64 0), .lit (.bool false), .lit (.bool false)], .agg [.lit (.string [118, 97, 114]), .lit (.int .i64 0), .lit (.int .i64 0), .lit (.bool true), .lit (.bool false)], .agg [.lit (.string [103, 101, 116]), .lit (.int .i64 1), .lit (.int .i64 1), .lit (.bool true), .lit (.bool false)], .agg [.lit (.string [105, 110, 100, 101, 120]), .lit (.int .i64 2), .lit (.int .i64 2), .lit (.bool false), .lit (.bool false)], .agg [.lit (.string [108, 101, 110, 103, 116, 104]), .lit (.int .i64 1), .lit (.int .i64 1), .lit (.bool false), .lit (.bool false)], .agg [.lit (.string [99, 97, 108, 108]), .lit (.int .i64 1), .lit (.int .i64 9223372036854775807), .lit (.bool true), .lit (.bool false)], .agg [.lit (.string [110, 101, 119]), .lit (.int .i64 0), .lit (.int .i64 9223372036854775807), .lit (.bool false), .lit (.bool true)], .agg [.lit (.string [97, 114, 114, 97, 121]), .lit (.int .i64 1), .lit (.int .i64 1), .lit (.bool false), .lit (.bool true)], .agg [.lit (.string [110, 101, 103]), .lit (.int .i64 1), .lit (.int .i64 1), .lit (.bool false), .lit (.bool false)], .agg [.lit (.string [110, 111, 116]), .lit (.int .i64 1), .lit (.int .i64 1), .lit (.bool false), .lit (.bool false)], .agg [.lit (.string [98, 105, 110, 97, 114, 121]), .lit (.int .i64 2), .lit (.int .i64 2), .lit (.bool true), .lit (.bool false)], .agg [.lit (.string [99, 97, 115, 116]), .lit (.int .i64 1), .lit (.int .i64 1), .lit (.bool false), .lit (.bool true)], .agg [.lit (.string [116, 111, 105, 110, 116]), .lit (.int .i64 1), .lit (.int .i64 1), .lit (.bool false), .lit (.bool false)], .agg [.lit (.string [116, 111, 100, 111, 117, 98, 108, 101]), .lit (.int .i64 1), .lit (.int .i64 1), .lit (.bool false), .lit (.bool false)], .agg [.lit (.string [105, 110, 112, 117, 116]), .lit (.int .i64 0), .lit (.int .i64 0), .lit (.bool false), .lit (.bool false)], .agg [.lit (.string [97, 115, 107]), .lit (.int .i64 1), .lit (.int .i64 1), .lit (.bool false), .lit (.bool false)], .agg [.lit (.string [103, 117, 97, 114, 100]), .lit (.int .i64 1), .lit (.int .i64 1), .lit (.bool false), .lit (.bool false)], .agg [.lit (.string [115, 111, 109, 101]), .lit (.int .i64 1), .lit (.int .i64 1), .lit (.bool false), .lit (.bool false)], .agg [.lit (.string [110, 111, 110, 101]), .lit (.int .i64 0), .lit (.int .i64 0), .lit (.bool false), .lit (.bool false)], .agg [.lit (.string [105, 115, 115, 111, 109, 101]), .lit (.int .i64 1), .lit (.int .i64 1), .lit (.bool false), .lit (.bool false)], .agg [.lit (.string [105, 115, 110, 111, 110, 101]), .lit (.int .i64 1), .lit (.int .i64 1), .lit (.bool false), .lit (.bool false)], .agg [.lit (.string [118, 97, 108]), .lit (.int .i64 1), .lit (.int .i64 1), .lit (.bool false), .lit (.bool false)]]
/-- One of Go's own tables, pinned by name: the form's constant. -/
def laid_unicode_utf8_first : DataW Unit := Go.Pinned.utf8First

/-- 'caulkerlaw11.ClassChecks': WHATEVER THE INPUT: true; the input reads as it did. -/
def classChecksSpec : ChangeSpec := { name := "classChecks", fn := fun _ => fun
  | [d] => { results := [.lit (.bool true)], args := [d] }
  | _ => none }
def classChecksRow : OpenClaim := { program := "ytfehpdliobapfaagreatdoor", sum := "3601c8d11845f859e5fc556939f053de66da4fa3e6732d312d263e58e0a9ed09", func := "caulker/caulkerlaw11.ClassChecks", spec := "classChecks", inPlace := ["internal/bytealg.IndexByteString", "internal/abi.NoEscape", "internal/bytealg.IndexString", "math.Float64bits", "internal/bytealg.MakeNoZero"], unfollowed := true, recurses := true, named := ["internal/bytealg.MaxLen", "caulker/tree.shapes", "unicode/utf8.first", "unicode/utf8.acceptRanges"], apart := false, laid := [("unicode/utf8.acceptRanges", laid_unicode_utf8_acceptRanges), ("caulker/tree.shapes", laid_caulker_tree_shapes), ("unicode/utf8.first", laid_unicode_utf8_first)] }
def ClassChecksSaid : Prop := classChecksRow.holds Tryz.pinned (OpenSpec.ofChange classChecksSpec)

/-- ITS FALSE NEIGHBOUR: 'it returns false'. Refute it at one input. -/
def classChecksWrong : ChangeSpec := { name := "classChecks", fn := fun _ => fun
  | [d] => { results := [.lit (.bool false)], args := [d] }
  | _ => none }
def ClassChecksWrongFalsely : Prop := classChecksRow.holds Tryz.pinned (OpenSpec.ofChange classChecksWrong)

/-- 'caulkerlaw11.ClassTells': WHATEVER THE INPUT: true; the input reads as it did. -/
def classTellsSpec : ChangeSpec := { name := "classTells", fn := fun _ => fun
  | [d1, d2, d3] => { results := [.lit (.bool true)], args := [d1, d2, d3] }
  | _ => none }
def classTellsRow : OpenClaim := { program := "ytfehpdliobapfaagreatdoor", sum := "3601c8d11845f859e5fc556939f053de66da4fa3e6732d312d263e58e0a9ed09", func := "caulker/caulkerlaw11.ClassTells", spec := "classTells", inPlace := ["internal/bytealg.IndexByteString", "internal/abi.NoEscape", "internal/bytealg.IndexString", "math.Float64bits", "internal/bytealg.MakeNoZero"], unfollowed := true, recurses := true, named := ["internal/bytealg.MaxLen", "caulker/tree.shapes", "unicode/utf8.first", "unicode/utf8.acceptRanges"], apart := false, laid := [("unicode/utf8.acceptRanges", laid_unicode_utf8_acceptRanges), ("caulker/tree.shapes", laid_caulker_tree_shapes), ("unicode/utf8.first", laid_unicode_utf8_first)] }
def ClassTellsSaid : Prop := classTellsRow.holds Tryz.pinned (OpenSpec.ofChange classTellsSpec)

/-- ITS FALSE NEIGHBOUR: 'it returns false'. Refute it at one input. -/
def classTellsWrong : ChangeSpec := { name := "classTells", fn := fun _ => fun
  | [d1, d2, d3] => { results := [.lit (.bool false)], args := [d1, d2, d3] }
  | _ => none }
def ClassTellsWrongFalsely : Prop := classTellsRow.holds Tryz.pinned (OpenSpec.ofChange classTellsWrong)

/-- 'caulkerlaw11.ClassLists': WHATEVER THE INPUT: true; the input reads as it did. -/
def classListsSpec : ChangeSpec := { name := "classLists", fn := fun _ => fun
  | [d1, d2] => { results := [.lit (.bool true)], args := [d1, d2] }
  | _ => none }
def classListsRow : OpenClaim := { program := "ytfehpdliobapfaagreatdoor", sum := "3601c8d11845f859e5fc556939f053de66da4fa3e6732d312d263e58e0a9ed09", func := "caulker/caulkerlaw11.ClassLists", spec := "classLists", inPlace := ["internal/bytealg.IndexByteString", "internal/abi.NoEscape", "internal/bytealg.IndexString", "math.Float64bits", "internal/bytealg.MakeNoZero"], unfollowed := true, recurses := true, named := ["internal/bytealg.MaxLen", "caulker/tree.shapes", "unicode/utf8.first", "unicode/utf8.acceptRanges"], apart := false, laid := [("unicode/utf8.acceptRanges", laid_unicode_utf8_acceptRanges), ("caulker/tree.shapes", laid_caulker_tree_shapes), ("unicode/utf8.first", laid_unicode_utf8_first)] }
def ClassListsSaid : Prop := classListsRow.holds Tryz.pinned (OpenSpec.ofChange classListsSpec)

/-- ITS FALSE NEIGHBOUR: 'it returns false'. Refute it at one input. -/
def classListsWrong : ChangeSpec := { name := "classLists", fn := fun _ => fun
  | [d1, d2] => { results := [.lit (.bool false)], args := [d1, d2] }
  | _ => none }
def ClassListsWrongFalsely : Prop := classListsRow.holds Tryz.pinned (OpenSpec.ofChange classListsWrong)

/-- 'caulkerlaw11.ClassSubs': WHATEVER THE INPUT: true; the input reads as it did. -/
def classSubsSpec : ChangeSpec := { name := "classSubs", fn := fun _ => fun
  | [d1, d2, d3] => { results := [.lit (.bool true)], args := [d1, d2, d3] }
  | _ => none }
def classSubsRow : OpenClaim := { program := "ytfehpdliobapfaagreatdoor", sum := "3601c8d11845f859e5fc556939f053de66da4fa3e6732d312d263e58e0a9ed09", func := "caulker/caulkerlaw11.ClassSubs", spec := "classSubs", inPlace := ["internal/bytealg.IndexByteString", "internal/abi.NoEscape", "internal/bytealg.IndexString", "math.Float64bits", "internal/bytealg.MakeNoZero"], unfollowed := true, recurses := true, named := ["internal/bytealg.MaxLen", "caulker/tree.shapes", "unicode/utf8.first", "unicode/utf8.acceptRanges"], apart := false, laid := [("unicode/utf8.acceptRanges", laid_unicode_utf8_acceptRanges), ("caulker/tree.shapes", laid_caulker_tree_shapes), ("unicode/utf8.first", laid_unicode_utf8_first)] }
def ClassSubsSaid : Prop := classSubsRow.holds Tryz.pinned (OpenSpec.ofChange classSubsSpec)

/-- ITS FALSE NEIGHBOUR: 'it returns false'. Refute it at one input. -/
def classSubsWrong : ChangeSpec := { name := "classSubs", fn := fun _ => fun
  | [d1, d2, d3] => { results := [.lit (.bool false)], args := [d1, d2, d3] }
  | _ => none }
def ClassSubsWrongFalsely : Prop := classSubsRow.holds Tryz.pinned (OpenSpec.ofChange classSubsWrong)

/-- 'caulkerlaw11.ClassFits': WHATEVER THE INPUT: true; the input reads as it did. -/
def classFitsSpec : ChangeSpec := { name := "classFits", fn := fun _ => fun
  | [d1, d2, d3] => { results := [.lit (.bool true)], args := [d1, d2, d3] }
  | _ => none }
def classFitsRow : OpenClaim := { program := "ytfehpdliobapfaagreatdoor", sum := "3601c8d11845f859e5fc556939f053de66da4fa3e6732d312d263e58e0a9ed09", func := "caulker/caulkerlaw11.ClassFits", spec := "classFits", inPlace := ["internal/bytealg.IndexByteString", "internal/abi.NoEscape", "internal/bytealg.IndexString", "math.Float64bits", "internal/bytealg.MakeNoZero"], unfollowed := true, recurses := true, named := ["internal/bytealg.MaxLen", "caulker/tree.shapes", "unicode/utf8.first", "unicode/utf8.acceptRanges"], apart := false, laid := [("unicode/utf8.acceptRanges", laid_unicode_utf8_acceptRanges), ("caulker/tree.shapes", laid_caulker_tree_shapes), ("unicode/utf8.first", laid_unicode_utf8_first)] }
def ClassFitsSaid : Prop := classFitsRow.holds Tryz.pinned (OpenSpec.ofChange classFitsSpec)

/-- ITS FALSE NEIGHBOUR: 'it returns false'. Refute it at one input. -/
def classFitsWrong : ChangeSpec := { name := "classFits", fn := fun _ => fun
  | [d1, d2, d3] => { results := [.lit (.bool false)], args := [d1, d2, d3] }
  | _ => none }
def ClassFitsWrongFalsely : Prop := classFitsRow.holds Tryz.pinned (OpenSpec.ofChange classFitsWrong)

/-- 'caulkerlaw11.ClassFamilies': WHATEVER THE INPUT: true; the input reads as it did. -/
def classFamiliesSpec : ChangeSpec := { name := "classFamilies", fn := fun _ => fun
  | [d1, d2, d3] => { results := [.lit (.bool true)], args := [d1, d2, d3] }
  | _ => none }
def classFamiliesRow : OpenClaim := { program := "ytfehpdliobapfaagreatdoor", sum := "3601c8d11845f859e5fc556939f053de66da4fa3e6732d312d263e58e0a9ed09", func := "caulker/caulkerlaw11.ClassFamilies", spec := "classFamilies", inPlace := ["internal/bytealg.IndexByteString", "internal/abi.NoEscape", "internal/bytealg.IndexString", "math.Float64bits", "internal/bytealg.MakeNoZero"], unfollowed := true, recurses := true, named := ["internal/bytealg.MaxLen", "caulker/tree.shapes", "unicode/utf8.first", "unicode/utf8.acceptRanges"], apart := false, laid := [("unicode/utf8.acceptRanges", laid_unicode_utf8_acceptRanges), ("caulker/tree.shapes", laid_caulker_tree_shapes), ("unicode/utf8.first", laid_unicode_utf8_first)] }
def ClassFamiliesSaid : Prop := classFamiliesRow.holds Tryz.pinned (OpenSpec.ofChange classFamiliesSpec)

/-- ITS FALSE NEIGHBOUR: 'it returns false'. Refute it at one input. -/
def classFamiliesWrong : ChangeSpec := { name := "classFamilies", fn := fun _ => fun
  | [d1, d2, d3] => { results := [.lit (.bool false)], args := [d1, d2, d3] }
  | _ => none }
def ClassFamiliesWrongFalsely : Prop := classFamiliesRow.holds Tryz.pinned (OpenSpec.ofChange classFamiliesWrong)

/-- 'caulkerlaw12.ScopeFinds': WHATEVER THE INPUT: true; the input reads as it did. -/
def scopeFindsSpec : ChangeSpec := { name := "scopeFinds", fn := fun _ => fun
  | [d1, d2] => { results := [.lit (.bool true)], args := [d1, d2] }
  | _ => none }
def scopeFindsRow : OpenClaim := { program := "ytfehpdliobapfaagreatdoor", sum := "3601c8d11845f859e5fc556939f053de66da4fa3e6732d312d263e58e0a9ed09", func := "caulker/caulkerlaw12.ScopeFinds", spec := "scopeFinds", inPlace := ["internal/bytealg.IndexByteString", "internal/abi.NoEscape", "internal/bytealg.IndexString", "math.Float64bits"], unfollowed := true, recurses := true, named := ["internal/bytealg.MaxLen", "caulker/tree.shapes", "unicode/utf8.first", "unicode/utf8.acceptRanges"], apart := false, laid := [("unicode/utf8.acceptRanges", laid_unicode_utf8_acceptRanges), ("caulker/tree.shapes", laid_caulker_tree_shapes), ("unicode/utf8.first", laid_unicode_utf8_first)] }
def ScopeFindsSaid : Prop := scopeFindsRow.holds Tryz.pinned (OpenSpec.ofChange scopeFindsSpec)

/-- ITS FALSE NEIGHBOUR: 'it returns false'. Refute it at one input. -/
def scopeFindsWrong : ChangeSpec := { name := "scopeFinds", fn := fun _ => fun
  | [d1, d2] => { results := [.lit (.bool false)], args := [d1, d2] }
  | _ => none }
def ScopeFindsWrongFalsely : Prop := scopeFindsRow.holds Tryz.pinned (OpenSpec.ofChange scopeFindsWrong)

/-- 'caulkerlaw12.ScopeUses': WHATEVER THE INPUT: true; the input reads as it did. -/
def scopeUsesSpec : ChangeSpec := { name := "scopeUses", fn := fun _ => fun
  | [d1, d2, d3] => { results := [.lit (.bool true)], args := [d1, d2, d3] }
  | _ => none }
def scopeUsesRow : OpenClaim := { program := "ytfehpdliobapfaagreatdoor", sum := "3601c8d11845f859e5fc556939f053de66da4fa3e6732d312d263e58e0a9ed09", func := "caulker/caulkerlaw12.ScopeUses", spec := "scopeUses", inPlace := ["internal/bytealg.IndexByteString", "internal/abi.NoEscape", "internal/bytealg.IndexString", "math.Float64bits"], unfollowed := true, recurses := true, named := ["internal/bytealg.MaxLen", "caulker/tree.shapes", "unicode/utf8.first", "unicode/utf8.acceptRanges"], apart := false, laid := [("unicode/utf8.acceptRanges", laid_unicode_utf8_acceptRanges), ("caulker/tree.shapes", laid_caulker_tree_shapes), ("unicode/utf8.first", laid_unicode_utf8_first)] }
def ScopeUsesSaid : Prop := scopeUsesRow.holds Tryz.pinned (OpenSpec.ofChange scopeUsesSpec)

/-- ITS FALSE NEIGHBOUR: 'it returns false'. Refute it at one input. -/
def scopeUsesWrong : ChangeSpec := { name := "scopeUses", fn := fun _ => fun
  | [d1, d2, d3] => { results := [.lit (.bool false)], args := [d1, d2, d3] }
  | _ => none }
def ScopeUsesWrongFalsely : Prop := scopeUsesRow.holds Tryz.pinned (OpenSpec.ofChange scopeUsesWrong)

/-- 'caulkerlaw12.ScopeRaw': WHATEVER THE INPUT: true; the input reads as it did. -/
def scopeRawSpec : ChangeSpec := { name := "scopeRaw", fn := fun _ => fun
  | [d1, d2] => { results := [.lit (.bool true)], args := [d1, d2] }
  | _ => none }
def scopeRawRow : OpenClaim := { program := "ytfehpdliobapfaagreatdoor", sum := "3601c8d11845f859e5fc556939f053de66da4fa3e6732d312d263e58e0a9ed09", func := "caulker/caulkerlaw12.ScopeRaw", spec := "scopeRaw", inPlace := ["internal/bytealg.IndexByteString", "internal/abi.NoEscape", "internal/bytealg.IndexString", "math.Float64bits"], unfollowed := true, recurses := true, named := ["internal/bytealg.MaxLen", "caulker/tree.shapes", "unicode/utf8.first", "unicode/utf8.acceptRanges"], apart := false, laid := [("unicode/utf8.acceptRanges", laid_unicode_utf8_acceptRanges), ("caulker/tree.shapes", laid_caulker_tree_shapes), ("unicode/utf8.first", laid_unicode_utf8_first)] }
def ScopeRawSaid : Prop := scopeRawRow.holds Tryz.pinned (OpenSpec.ofChange scopeRawSpec)

/-- ITS FALSE NEIGHBOUR: 'it returns false'. Refute it at one input. -/
def scopeRawWrong : ChangeSpec := { name := "scopeRaw", fn := fun _ => fun
  | [d1, d2] => { results := [.lit (.bool false)], args := [d1, d2] }
  | _ => none }
def ScopeRawWrongFalsely : Prop := scopeRawRow.holds Tryz.pinned (OpenSpec.ofChange scopeRawWrong)

/-- 'caulkerlaw12.ScopeBlocks': WHATEVER THE INPUT: true; the input reads as it did. -/
def scopeBlocksSpec : ChangeSpec := { name := "scopeBlocks", fn := fun _ => fun
  | [d1, d2] => { results := [.lit (.bool true)], args := [d1, d2] }
  | _ => none }
def scopeBlocksRow : OpenClaim := { program := "ytfehpdliobapfaagreatdoor", sum := "3601c8d11845f859e5fc556939f053de66da4fa3e6732d312d263e58e0a9ed09", func := "caulker/caulkerlaw12.ScopeBlocks", spec := "scopeBlocks", inPlace := ["internal/bytealg.IndexByteString", "internal/abi.NoEscape", "internal/bytealg.IndexString", "math.Float64bits", "internal/bytealg.MakeNoZero"], unfollowed := true, recurses := true, named := ["internal/bytealg.MaxLen", "caulker/tree.shapes", "unicode/utf8.first", "unicode/utf8.acceptRanges"], apart := false, laid := [("unicode/utf8.acceptRanges", laid_unicode_utf8_acceptRanges), ("caulker/tree.shapes", laid_caulker_tree_shapes), ("unicode/utf8.first", laid_unicode_utf8_first)] }
def ScopeBlocksSaid : Prop := scopeBlocksRow.holds Tryz.pinned (OpenSpec.ofChange scopeBlocksSpec)

/-- ITS FALSE NEIGHBOUR: 'it returns false'. Refute it at one input. -/
def scopeBlocksWrong : ChangeSpec := { name := "scopeBlocks", fn := fun _ => fun
  | [d1, d2] => { results := [.lit (.bool false)], args := [d1, d2] }
  | _ => none }
def ScopeBlocksWrongFalsely : Prop := scopeBlocksRow.holds Tryz.pinned (OpenSpec.ofChange scopeBlocksWrong)

/-- 'caulkerlaw12.ScopeMany': WHATEVER THE INPUT: true; the input reads as it did. -/
def scopeManySpec : ChangeSpec := { name := "scopeMany", fn := fun _ => fun
  | [d1, d2] => { results := [.lit (.bool true)], args := [d1, d2] }
  | _ => none }
def scopeManyRow : OpenClaim := { program := "ytfehpdliobapfaagreatdoor", sum := "3601c8d11845f859e5fc556939f053de66da4fa3e6732d312d263e58e0a9ed09", func := "caulker/caulkerlaw12.ScopeMany", spec := "scopeMany", inPlace := ["internal/bytealg.IndexByteString", "internal/abi.NoEscape", "internal/bytealg.IndexString", "math.Float64bits", "internal/bytealg.MakeNoZero"], unfollowed := true, recurses := true, named := ["internal/bytealg.MaxLen", "caulker/tree.shapes", "unicode/utf8.first", "unicode/utf8.acceptRanges"], apart := false, laid := [("unicode/utf8.acceptRanges", laid_unicode_utf8_acceptRanges), ("caulker/tree.shapes", laid_caulker_tree_shapes), ("unicode/utf8.first", laid_unicode_utf8_first)] }
def ScopeManySaid : Prop := scopeManyRow.holds Tryz.pinned (OpenSpec.ofChange scopeManySpec)

/-- ITS FALSE NEIGHBOUR: 'it returns false'. Refute it at one input. -/
def scopeManyWrong : ChangeSpec := { name := "scopeMany", fn := fun _ => fun
  | [d1, d2] => { results := [.lit (.bool false)], args := [d1, d2] }
  | _ => none }
def ScopeManyWrongFalsely : Prop := scopeManyRow.holds Tryz.pinned (OpenSpec.ofChange scopeManyWrong)

/- THE SECOND FORM. 'bulk': how many values and letters a reading holds, each counted each time it is reached (what is shared counts as often as it is met; a slice's spare places count too). A statement '..UptoSaid' is the law's where the arguments, and the package variables that the reading takes, are together of bulk at most 1048576: NARROWER than '..Said'. Prove '..Said' where nothing that the law and all that it calls make is longer than what came in: it says more and counts as full. Else prove '..UptoSaid'. A law counts once. -/
mutual
def uptoBulk {H : Type} : DataW H → Nat
  | .lit (.string bytes) => bytes.length + 1
  | .lit _ => 1
  | .nil => 1
  | .ptr d => uptoBulk d + 1
  | .slice elems spare => uptoBulkAll elems + uptoBulkAll spare + 1
  | .agg parts => uptoBulkAll parts + 1
  | .iface _ d => uptoBulk d + 1
  | .map entries => uptoBulkEntries entries + 1
  | .held _ => 1
def uptoBulkAll {H : Type} : List (DataW H) → Nat
  | [] => 0
  | d :: r => uptoBulk d + uptoBulkAll r
def uptoBulkEntries {H : Type} : List (Lit × DataW H) → Nat
  | [] => 0
  | x :: r => uptoBulkEntry x + uptoBulkEntries r
def uptoBulkEntry {H : Type} : Lit × DataW H → Nat
  | (.string bytes, d) => bytes.length + uptoBulk d + 1
  | (_, d) => uptoBulk d + 1
 end
def uptoSmall : (H : Type) → List (DataW H) → Bool := fun _ ds => decide (uptoBulkAll ds ≤ 1048576)
def OpenSpec.upto (s : _root_.Go.ChangeSpec) : _root_.Go.OpenSpec := { _root_.Go.OpenSpec.ofChange s with cond := some uptoSmall }

/-- 'caulkerlaw11.ClassChecks', WHERE WHAT IT READS IS OF BULK AT MOST 1048576: true; the input reads as it did. -/
def classChecksUptoRow : OpenClaim := { program := "ytfehpdliobapfaagreatdoor", sum := "3601c8d11845f859e5fc556939f053de66da4fa3e6732d312d263e58e0a9ed09", func := "caulker/caulkerlaw11.ClassChecks", spec := "classChecks", inPlace := ["internal/bytealg.IndexByteString", "internal/abi.NoEscape", "internal/bytealg.IndexString", "math.Float64bits", "internal/bytealg.MakeNoZero"], unfollowed := true, recurses := true, named := ["internal/bytealg.MaxLen", "caulker/tree.shapes", "unicode/utf8.first", "unicode/utf8.acceptRanges"], apart := false, laid := [("unicode/utf8.acceptRanges", laid_unicode_utf8_acceptRanges), ("caulker/tree.shapes", laid_caulker_tree_shapes), ("unicode/utf8.first", laid_unicode_utf8_first)], narrowed := true }
def ClassChecksUptoSaid : Prop := classChecksUptoRow.holds Tryz.pinned (OpenSpec.upto classChecksSpec)

/-- 'caulkerlaw11.ClassTells', WHERE WHAT IT READS IS OF BULK AT MOST 1048576: true; the input reads as it did. -/
def classTellsUptoRow : OpenClaim := { program := "ytfehpdliobapfaagreatdoor", sum := "3601c8d11845f859e5fc556939f053de66da4fa3e6732d312d263e58e0a9ed09", func := "caulker/caulkerlaw11.ClassTells", spec := "classTells", inPlace := ["internal/bytealg.IndexByteString", "internal/abi.NoEscape", "internal/bytealg.IndexString", "math.Float64bits", "internal/bytealg.MakeNoZero"], unfollowed := true, recurses := true, named := ["internal/bytealg.MaxLen", "caulker/tree.shapes", "unicode/utf8.first", "unicode/utf8.acceptRanges"], apart := false, laid := [("unicode/utf8.acceptRanges", laid_unicode_utf8_acceptRanges), ("caulker/tree.shapes", laid_caulker_tree_shapes), ("unicode/utf8.first", laid_unicode_utf8_first)], narrowed := true }
def ClassTellsUptoSaid : Prop := classTellsUptoRow.holds Tryz.pinned (OpenSpec.upto classTellsSpec)

/-- 'caulkerlaw11.ClassLists', WHERE WHAT IT READS IS OF BULK AT MOST 1048576: true; the input reads as it did. -/
def classListsUptoRow : OpenClaim := { program := "ytfehpdliobapfaagreatdoor", sum := "3601c8d11845f859e5fc556939f053de66da4fa3e6732d312d263e58e0a9ed09", func := "caulker/caulkerlaw11.ClassLists", spec := "classLists", inPlace := ["internal/bytealg.IndexByteString", "internal/abi.NoEscape", "internal/bytealg.IndexString", "math.Float64bits", "internal/bytealg.MakeNoZero"], unfollowed := true, recurses := true, named := ["internal/bytealg.MaxLen", "caulker/tree.shapes", "unicode/utf8.first", "unicode/utf8.acceptRanges"], apart := false, laid := [("unicode/utf8.acceptRanges", laid_unicode_utf8_acceptRanges), ("caulker/tree.shapes", laid_caulker_tree_shapes), ("unicode/utf8.first", laid_unicode_utf8_first)], narrowed := true }
def ClassListsUptoSaid : Prop := classListsUptoRow.holds Tryz.pinned (OpenSpec.upto classListsSpec)

/-- 'caulkerlaw11.ClassSubs', WHERE WHAT IT READS IS OF BULK AT MOST 1048576: true; the input reads as it did. -/
def classSubsUptoRow : OpenClaim := { program := "ytfehpdliobapfaagreatdoor", sum := "3601c8d11845f859e5fc556939f053de66da4fa3e6732d312d263e58e0a9ed09", func := "caulker/caulkerlaw11.ClassSubs", spec := "classSubs", inPlace := ["internal/bytealg.IndexByteString", "internal/abi.NoEscape", "internal/bytealg.IndexString", "math.Float64bits", "internal/bytealg.MakeNoZero"], unfollowed := true, recurses := true, named := ["internal/bytealg.MaxLen", "caulker/tree.shapes", "unicode/utf8.first", "unicode/utf8.acceptRanges"], apart := false, laid := [("unicode/utf8.acceptRanges", laid_unicode_utf8_acceptRanges), ("caulker/tree.shapes", laid_caulker_tree_shapes), ("unicode/utf8.first", laid_unicode_utf8_first)], narrowed := true }
def ClassSubsUptoSaid : Prop := classSubsUptoRow.holds Tryz.pinned (OpenSpec.upto classSubsSpec)

/-- 'caulkerlaw11.ClassFits', WHERE WHAT IT READS IS OF BULK AT MOST 1048576: true; the input reads as it did. -/
def classFitsUptoRow : OpenClaim := { program := "ytfehpdliobapfaagreatdoor", sum := "3601c8d11845f859e5fc556939f053de66da4fa3e6732d312d263e58e0a9ed09", func := "caulker/caulkerlaw11.ClassFits", spec := "classFits", inPlace := ["internal/bytealg.IndexByteString", "internal/abi.NoEscape", "internal/bytealg.IndexString", "math.Float64bits", "internal/bytealg.MakeNoZero"], unfollowed := true, recurses := true, named := ["internal/bytealg.MaxLen", "caulker/tree.shapes", "unicode/utf8.first", "unicode/utf8.acceptRanges"], apart := false, laid := [("unicode/utf8.acceptRanges", laid_unicode_utf8_acceptRanges), ("caulker/tree.shapes", laid_caulker_tree_shapes), ("unicode/utf8.first", laid_unicode_utf8_first)], narrowed := true }
def ClassFitsUptoSaid : Prop := classFitsUptoRow.holds Tryz.pinned (OpenSpec.upto classFitsSpec)

/-- 'caulkerlaw11.ClassFamilies', WHERE WHAT IT READS IS OF BULK AT MOST 1048576: true; the input reads as it did. -/
def classFamiliesUptoRow : OpenClaim := { program := "ytfehpdliobapfaagreatdoor", sum := "3601c8d11845f859e5fc556939f053de66da4fa3e6732d312d263e58e0a9ed09", func := "caulker/caulkerlaw11.ClassFamilies", spec := "classFamilies", inPlace := ["internal/bytealg.IndexByteString", "internal/abi.NoEscape", "internal/bytealg.IndexString", "math.Float64bits", "internal/bytealg.MakeNoZero"], unfollowed := true, recurses := true, named := ["internal/bytealg.MaxLen", "caulker/tree.shapes", "unicode/utf8.first", "unicode/utf8.acceptRanges"], apart := false, laid := [("unicode/utf8.acceptRanges", laid_unicode_utf8_acceptRanges), ("caulker/tree.shapes", laid_caulker_tree_shapes), ("unicode/utf8.first", laid_unicode_utf8_first)], narrowed := true }
def ClassFamiliesUptoSaid : Prop := classFamiliesUptoRow.holds Tryz.pinned (OpenSpec.upto classFamiliesSpec)

/-- 'caulkerlaw12.ScopeFinds', WHERE WHAT IT READS IS OF BULK AT MOST 1048576: true; the input reads as it did. -/
def scopeFindsUptoRow : OpenClaim := { program := "ytfehpdliobapfaagreatdoor", sum := "3601c8d11845f859e5fc556939f053de66da4fa3e6732d312d263e58e0a9ed09", func := "caulker/caulkerlaw12.ScopeFinds", spec := "scopeFinds", inPlace := ["internal/bytealg.IndexByteString", "internal/abi.NoEscape", "internal/bytealg.IndexString", "math.Float64bits"], unfollowed := true, recurses := true, named := ["internal/bytealg.MaxLen", "caulker/tree.shapes", "unicode/utf8.first", "unicode/utf8.acceptRanges"], apart := false, laid := [("unicode/utf8.acceptRanges", laid_unicode_utf8_acceptRanges), ("caulker/tree.shapes", laid_caulker_tree_shapes), ("unicode/utf8.first", laid_unicode_utf8_first)], narrowed := true }
def ScopeFindsUptoSaid : Prop := scopeFindsUptoRow.holds Tryz.pinned (OpenSpec.upto scopeFindsSpec)

/-- 'caulkerlaw12.ScopeUses', WHERE WHAT IT READS IS OF BULK AT MOST 1048576: true; the input reads as it did. -/
def scopeUsesUptoRow : OpenClaim := { program := "ytfehpdliobapfaagreatdoor", sum := "3601c8d11845f859e5fc556939f053de66da4fa3e6732d312d263e58e0a9ed09", func := "caulker/caulkerlaw12.ScopeUses", spec := "scopeUses", inPlace := ["internal/bytealg.IndexByteString", "internal/abi.NoEscape", "internal/bytealg.IndexString", "math.Float64bits"], unfollowed := true, recurses := true, named := ["internal/bytealg.MaxLen", "caulker/tree.shapes", "unicode/utf8.first", "unicode/utf8.acceptRanges"], apart := false, laid := [("unicode/utf8.acceptRanges", laid_unicode_utf8_acceptRanges), ("caulker/tree.shapes", laid_caulker_tree_shapes), ("unicode/utf8.first", laid_unicode_utf8_first)], narrowed := true }
def ScopeUsesUptoSaid : Prop := scopeUsesUptoRow.holds Tryz.pinned (OpenSpec.upto scopeUsesSpec)

/-- 'caulkerlaw12.ScopeRaw', WHERE WHAT IT READS IS OF BULK AT MOST 1048576: true; the input reads as it did. -/
def scopeRawUptoRow : OpenClaim := { program := "ytfehpdliobapfaagreatdoor", sum := "3601c8d11845f859e5fc556939f053de66da4fa3e6732d312d263e58e0a9ed09", func := "caulker/caulkerlaw12.ScopeRaw", spec := "scopeRaw", inPlace := ["internal/bytealg.IndexByteString", "internal/abi.NoEscape", "internal/bytealg.IndexString", "math.Float64bits"], unfollowed := true, recurses := true, named := ["internal/bytealg.MaxLen", "caulker/tree.shapes", "unicode/utf8.first", "unicode/utf8.acceptRanges"], apart := false, laid := [("unicode/utf8.acceptRanges", laid_unicode_utf8_acceptRanges), ("caulker/tree.shapes", laid_caulker_tree_shapes), ("unicode/utf8.first", laid_unicode_utf8_first)], narrowed := true }
def ScopeRawUptoSaid : Prop := scopeRawUptoRow.holds Tryz.pinned (OpenSpec.upto scopeRawSpec)

/-- 'caulkerlaw12.ScopeBlocks', WHERE WHAT IT READS IS OF BULK AT MOST 1048576: true; the input reads as it did. -/
def scopeBlocksUptoRow : OpenClaim := { program := "ytfehpdliobapfaagreatdoor", sum := "3601c8d11845f859e5fc556939f053de66da4fa3e6732d312d263e58e0a9ed09", func := "caulker/caulkerlaw12.ScopeBlocks", spec := "scopeBlocks", inPlace := ["internal/bytealg.IndexByteString", "internal/abi.NoEscape", "internal/bytealg.IndexString", "math.Float64bits", "internal/bytealg.MakeNoZero"], unfollowed := true, recurses := true, named := ["internal/bytealg.MaxLen", "caulker/tree.shapes", "unicode/utf8.first", "unicode/utf8.acceptRanges"], apart := false, laid := [("unicode/utf8.acceptRanges", laid_unicode_utf8_acceptRanges), ("caulker/tree.shapes", laid_caulker_tree_shapes), ("unicode/utf8.first", laid_unicode_utf8_first)], narrowed := true }
def ScopeBlocksUptoSaid : Prop := scopeBlocksUptoRow.holds Tryz.pinned (OpenSpec.upto scopeBlocksSpec)

/-- 'caulkerlaw12.ScopeMany', WHERE WHAT IT READS IS OF BULK AT MOST 1048576: true; the input reads as it did. -/
def scopeManyUptoRow : OpenClaim := { program := "ytfehpdliobapfaagreatdoor", sum := "3601c8d11845f859e5fc556939f053de66da4fa3e6732d312d263e58e0a9ed09", func := "caulker/caulkerlaw12.ScopeMany", spec := "scopeMany", inPlace := ["internal/bytealg.IndexByteString", "internal/abi.NoEscape", "internal/bytealg.IndexString", "math.Float64bits", "internal/bytealg.MakeNoZero"], unfollowed := true, recurses := true, named := ["internal/bytealg.MaxLen", "caulker/tree.shapes", "unicode/utf8.first", "unicode/utf8.acceptRanges"], apart := false, laid := [("unicode/utf8.acceptRanges", laid_unicode_utf8_acceptRanges), ("caulker/tree.shapes", laid_caulker_tree_shapes), ("unicode/utf8.first", laid_unicode_utf8_first)], narrowed := true }
def ScopeManyUptoSaid : Prop := scopeManyUptoRow.holds Tryz.pinned (OpenSpec.upto scopeManySpec)

end Rows
end Go.Proofs.YtfehpdliobapfaaGreatDoor
