/- ScopeRaw: what is wrong with nodes that are no program or no method. -/
import Derived.Test.YtgegiianlkpefaaGreatDoorRPaPl
import Derived.Test.YtgegiianlkpefaaGreatDoorRScPl
set_option linter.unusedVariables false
set_option linter.unusedSimpArgs false
namespace Go.Proofs.YtgegiianlkpefaaGreatDoor.G
structure Ty where
 B : Int
 N : ByteArray
 D : Int
 M : ByteArray
 i : Nat
 j : Nat
 e : List Nat
structure An where
 kind : Int
 text : ByteArray
 ty : Option Ty
 num : Int
 i : Nat
 j : Nat
inductive Fo where
 | nil
 | cons (a : An) (kids rest : Fo)
namespace Fo
def size : Fo -> Nat
 | nil=>0
 | cons _ k r=>k.size + 1 + r.size
def app : Fo -> Fo -> Fo
 | nil,g=>g
 | cons a k r,g=>cons a k (r.app g)
end Fo
def one (a : An) (k : Fo) : Fo:=.cons a k .nil
inductive Fn where
 | value
 | joined (c : Nat)
 | joinL (c f : Nat) (t : Fo)
 | signed
 | asked
 | askL (f : Nat) (t : Fo)
 | first
 | args
 | many (n : Nat)
 | block
 | stats
 | stat
def an (k : Int) (t : ByteArray) (i j : Nat) : An:=⟨k,t,none,0,i,j⟩
end Go.Proofs.YtgegiianlkpefaaGreatDoor.G
namespace Go.Proofs.YtgegiianlkpefaaGreatDoor.G
section
variable {α β : Type} {C : PC} {s t v : PS} {l m : List Nat} {u w : Fo} {n f c : Nat} {x : ByteArray}
theorem bnd_inv {m : PM α} {k : α -> PM β} {b : β} (h : bnd m k s = .ok b t) : ∃ a v,m s = .ok a v /\ k a v = .ok b t:=by
 unfold bnd at h
 cases hm : m s with
 | ok a v=>rw [hm] at h;exact ⟨a,v,rfl,h⟩
 | bad c z=>rw [hm] at h;cases h
 | out=>rw [hm] at h;cases h
end
end Go.Proofs.YtgegiianlkpefaaGreatDoor.G
namespace Go.Proofs.YtgegiianlkpefaaGreatDoor.G
namespace Fo
def len : Fo -> Nat
 | nil=>0
 | cons _ _ r=>r.len + 1
end Fo
section
variable {C : PC} {t : Ty} {m : UInt8} {d i j k n : Nat} {x : ByteArray} {u w : Fo} {g : Fn} {a : An}
end
end Go.Proofs.YtgegiianlkpefaaGreatDoor.G
namespace Go.Proofs.YtgegiianlkpefaaGreatDoor.S
def inBG : List Nd -> Nat -> Nat -> Bool
 | [],_,_=>false
 | x :: xs,a,i=>if (a : Int) ∈ x.kids then (if x.kind = 8 then true else inBG xs i (i + 1)) else inBG xs a (i + 1)
def start : Sc:=⟨[],fun _=>none,fun _=>none,[]⟩
end Go.Proofs.YtgegiianlkpefaaGreatDoor.S
