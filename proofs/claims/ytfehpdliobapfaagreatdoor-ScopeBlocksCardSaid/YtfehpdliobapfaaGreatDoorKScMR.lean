/- For any text and any numbers,ScopeBlocks,ScopeUses and ScopeMany return true and leave their arguments as they were. -/
import Derived.Test.YtfehpdliobapfaaGreatDoorKScMD
import Derived.Laws.AppendOwnNone
set_option linter.unusedVariables false
set_option linter.unusedSimpArgs false
namespace Go.Proofs.YtfehpdliobapfaaGreatDoor.S
open Go Go.RowKit
structure DS (w0:World) (g:Nat) (nv:Value) (root:Int) (w:World):Prop where
 bel:Below w0.heap.size w0 w
 box:Bx 25 w g [nv,.int .i64 root]
 at_:w0.heap.size<=g
theorem wpList_append_run {P:Program} {w:World} {ops:Array Oper} {rest:List Oper} {o:Oper} {a:Act} {Q:Exit->Act->World->Prop} (hgd:o.guard=none) (s x:Operand) (t:TypeId)
  (ho:o.op = .call { callee:=.builtin .append,args:=#[s,x],argTypes:=#[t,t] }) (v sv v':Value) (w':World) (hs:a.eval s=v) (hx:a.eval x=sv) (hrun:(Builtin.append_ #[t,t] o.type #[v,sv]).run P w = .ok v' w')
  (h:wpList P ops Q rest (a.put o.dst v') w'):wpList P ops Q (o :: rest) a w:=by
 refine wpList_plain hgd fun K hK=>?_
 unfold Oper.wp
 simp [execOp,ho,resolve,invoke,builtin,hs,hx,hrun,Result.andThen]
 exact hK _ _ h
theorem new_box {w w1:World} {T:TypeId} {cs:Array Value} (h:Below (w.alloc (.cells cs T)).heap.size (w.alloc (.cells cs T)) w1):Below w.heap.size w w1/\Bx T w1 w.heap.size cs.toList:=by
 have h1:Below w.heap.size w (w.alloc (.cells cs T)):=(Below.refl _ _).alloc (Nat.le_refl _) _
 exact ⟨after h1 h,(Bx.new T w cs).keep h⟩
theorem own_one (W:World) (a:Int) {B:Nat} (hB:B<=W.heap.size):(W.alloc (.cells #[.int .i64 a] 3)).ownsRow B 3 1 (.slice (some ⟨W.heap.size,0,none⟩) 1 1) 1 [.int .i64 a] :=
 ⟨rfl,.inr ⟨W.heap.size,1,#[.int .i64 a],rfl,hB,heap_alloc_new W _,Nat.le_refl _,by unfold maxLen;decide,rfl,rfl⟩⟩
structure RW (w0:World) (g:Nat) (nv:Value) (root:Int) (L:List Nat) (v:Value) (w:World):Prop where
 ds:DS w0 g nv root w
 own:w.ownsRow w0.heap.size 3 1 v L.length (numC (natI L))
end Go.Proofs.YtfehpdliobapfaaGreatDoor.S
