/- For any text and any number,ScopeFinds returns true and leaves its arguments as they were. -/
import Derived.Test.YtfehpdliobapfaaGreatDoorFLexI
set_option linter.unusedVariables false
namespace Go.Proofs.YtfehpdliobapfaaGreatDoor.L
open Go Go.RowKit
def keptL:List (List UInt8):=[[99,108,97,115,115],[101,120,116,101,110,100,115],[105,110,105,116],[105,110,116],[98,111,111,108],[100,111,117,98,108,101],[115,116,114],[118,111,105,100],[79,112,116,105,111,110],[105,102],[101,108,115,101],[119,104,105,108,101],[98,114,101,97,107],[99,111,110,116,105,110,117,101],[114,101,116,117,114,110],[112,114,105,110,116],[115,117,112,101,114],[116,104,105,115],[110,117,108,108],[110,111,110,101],[115,111,109,101],[105,115],[116,114,117,101],[102,97,108,115,101],[110,101,119],[99,97,115,116],[116,111,105,110,116],[116,111,100,111,117,98,108,101],[105,110,112,117,116],[97,115,107],[108,101,110,103,116,104],[118,97,108]]
def keptS (x:ByteArray):Bool:=keptL.any fun l=>x.toList == l
theorem kept_yes (x:ByteArray) (k:Nat) (hk:k<keptL.length) (h:(x.toList == keptL[k])=true):keptS x=true:=by
 unfold keptS
 rw [List.any_eq_true]
 exact ⟨keptL[k],List.getElem_mem hk,h⟩
set_option maxRecDepth 100000 in
set_option maxHeartbeats 8000000 in
theorem kept_any (x:ByteArray) (w:World) :
  Calls Tryz.prog 204 #[.string x] w fun e w'=>e = .returned (.bool (keptS x))/\w=w':=by
 cases hk:keptS x
 ·have hno:∀ k (hk:k<keptL.length),(x.toList == keptL[k])=false:=fun k hk'=>by
   cases h:(x.toList == keptL[k])
   ·rfl
   ·rw [kept_yes x k hk' h] at hk;cases hk
  have n0:(x.toList == [99,108,97,115,115])=false:=hno 0 (by decide)
  have n1:(x.toList == [101,120,116,101,110,100,115])=false:=hno 1 (by decide)
  have n2:(x.toList == [105,110,105,116])=false:=hno 2 (by decide)
  have n3:(x.toList == [105,110,116])=false:=hno 3 (by decide)
  have n4:(x.toList == [98,111,111,108])=false:=hno 4 (by decide)
  have n5:(x.toList == [100,111,117,98,108,101])=false:=hno 5 (by decide)
  have n6:(x.toList == [115,116,114])=false:=hno 6 (by decide)
  have n7:(x.toList == [118,111,105,100])=false:=hno 7 (by decide)
  have n8:(x.toList == [79,112,116,105,111,110])=false:=hno 8 (by decide)
  have n9:(x.toList == [105,102])=false:=hno 9 (by decide)
  have n10:(x.toList == [101,108,115,101])=false:=hno 10 (by decide)
  have n11:(x.toList == [119,104,105,108,101])=false:=hno 11 (by decide)
  have n12:(x.toList == [98,114,101,97,107])=false:=hno 12 (by decide)
  have n13:(x.toList == [99,111,110,116,105,110,117,101])=false:=hno 13 (by decide)
  have n14:(x.toList == [114,101,116,117,114,110])=false:=hno 14 (by decide)
  have n15:(x.toList == [112,114,105,110,116])=false:=hno 15 (by decide)
  have n16:(x.toList == [115,117,112,101,114])=false:=hno 16 (by decide)
  have n17:(x.toList == [116,104,105,115])=false:=hno 17 (by decide)
  have n18:(x.toList == [110,117,108,108])=false:=hno 18 (by decide)
  have n19:(x.toList == [110,111,110,101])=false:=hno 19 (by decide)
  have n20:(x.toList == [115,111,109,101])=false:=hno 20 (by decide)
  have n21:(x.toList == [105,115])=false:=hno 21 (by decide)
  have n22:(x.toList == [116,114,117,101])=false:=hno 22 (by decide)
  have n23:(x.toList == [102,97,108,115,101])=false:=hno 23 (by decide)
  have n24:(x.toList == [110,101,119])=false:=hno 24 (by decide)
  have n25:(x.toList == [99,97,115,116])=false:=hno 25 (by decide)
  have n26:(x.toList == [116,111,105,110,116])=false:=hno 26 (by decide)
  have n27:(x.toList == [116,111,100,111,117,98,108,101])=false:=hno 27 (by decide)
  have n28:(x.toList == [105,110,112,117,116])=false:=hno 28 (by decide)
  have n29:(x.toList == [97,115,107])=false:=hno 29 (by decide)
  have n30:(x.toList == [108,101,110,103,116,104])=false:=hno 30 (by decide)
  have n31:(x.toList == [118,97,108])=false:=hno 31 (by decide)
  clear hno hk
  go_enter Tryz.func204,Tryz.ntmps204
  go_wp2_with fail
  go_ret
  exact ⟨rfl,rfl⟩
 ·unfold keptS at hk
  rw [List.any_eq_true] at hk
  obtain ⟨l,hl,hx⟩:=hk
  have hx':x.toList=l:=by simpa using hx
  clear hx
  simp only [keptL,List.mem_cons,List.not_mem_nil,or_false] at hl
  rcases hl with rfl|rfl|rfl|rfl|rfl|rfl|rfl|rfl|rfl|rfl|rfl|rfl|rfl|rfl|rfl|rfl|rfl|rfl|rfl|rfl|rfl|rfl|rfl|rfl|rfl|rfl|rfl|rfl|rfl|rfl|rfl|rfl
  all_goals
   go_enter Tryz.func204,Tryz.ntmps204
   go_wp2_with fail
   go_ret
   exact ⟨rfl,rfl⟩
end Go.Proofs.YtfehpdliobapfaaGreatDoor.L
