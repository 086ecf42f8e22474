/- For any text and any numbers,ScopeBlocks,ScopeUses and ScopeMany return true and leave their arguments as they were. -/
import Derived.Test.YtfehpdliobapfaaGreatDoorKScMD
set_option linter.unusedVariables false
set_option linter.unusedSimpArgs false
namespace Go.Proofs.YtfehpdliobapfaaGreatDoor.S
open Go Go.RowKit
def runL (k:UInt8) (n:Nat):ByteArray:=⟨(List.replicate n k).toArray⟩
theorem runL_size (k:UInt8) (n:Nat):(runL k n).size=n:=by show (List.replicate n k).toArray.size=n;simp
theorem repeatL_one (k:UInt8) (c:Nat):Lib.repeatL [k] c=List.replicate c k:=by
 induction c with
 | zero=>rfl
 | succ c ih=>rw [Lib.repeatL,ih];rfl
theorem repL_any (k:UInt8) (n:Nat) (w:World) (hn:n<=100000):Calls Tryz.prog 56 #[.string ⟨#[k]⟩,.int .i64 (n:Nat)] w fun e w'=>e = .returned (.string (runL k n))/\Below w.heap.size w w':=by
 have h1:(⟨#[k]⟩:ByteArray).size=1:=rfl
 refine (Tryz.strings_Repeat ⟨#[k]⟩ n w (by omega) (by rw [h1];omega)).mono ?_
 rintro e w' ⟨rfl,hb⟩
 exact ⟨by rw [show (⟨#[k]⟩:ByteArray).data.toList=[k] from rfl,repeatL_one];rfl,hb⟩
def blkL (a d:Nat):List UInt8 :=
 ([99,108,97,115,115,32,65,32,123,32,118,111,105,100,32,102,40,41,32]:List UInt8) ++
 (match a with
 | 0=>([123,32,105,110,116,32,120,32,61,32,49,59,32]:List UInt8) ++ List.replicate d (123:UInt8) ++ ([32,112,114,105,110,116,40,120,41,59,32]:List UInt8) ++ List.replicate d (125:UInt8) ++ ([32,125]:List UInt8)
 | 1=>([123,32]:List UInt8) ++ List.replicate d (123:UInt8) ++ ([32,112,114,105,110,116,40,120,41,59,32]:List UInt8) ++ List.replicate d (125:UInt8) ++ ([32,105,110,116,32,120,32,61,32,49,59,32,125]:List UInt8)
 | 2=>([123,32]:List UInt8) ++ List.replicate d (123:UInt8) ++ ([32,105,110,116,32,120,32,61,32,49,59,32]:List UInt8) ++ List.replicate d (125:UInt8) ++ ([32,112,114,105,110,116,40,120,41,59,32,125]:List UInt8)
 | _=>([123,32,105,110,116,32,120,32,61,32,120,59,32]:List UInt8) ++ List.replicate d (123:UInt8) ++ List.replicate d (125:UInt8) ++ ([32,125]:List UInt8)) ++ ([32,125]:List UInt8)
def goodB (a d:Nat):Bool:=decide (a=0) || (decide (a=2) && decide (d=0))
def blkOk (a d:Nat):Bool :=
 match parsedF ⟨(blkL a d).toArray⟩ with
 |(l,c,z)=>decide (c=0) && decide (z=0) && l.all fitB && (match ofS l ((l.length:Int)-1) (methS l 0) with | .ok _=>goodB a d | .error e=>!goodB a d && decide (e.1=3))
end Go.Proofs.YtfehpdliobapfaaGreatDoor.S
