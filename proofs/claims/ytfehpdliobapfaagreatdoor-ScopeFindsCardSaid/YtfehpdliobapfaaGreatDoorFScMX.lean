/- For any text and any number,ScopeFinds returns true and leaves its arguments as they were. -/
import Derived.Test.YtfehpdliobapfaaGreatDoorFTrShaped
import Derived.Test.YtfehpdliobapfaaGreatDoorCards
import Derived.Test.YtfehpdliobapfaaGreatDoorTie
import Derived.Lib.LaidPrint
import Derived.ProofKit
import Derived.OpenShut
import Derived.ChangeOld
import Derived.Below
import Derived.Lib.SmallJoins
import Derived.Deep.Slices
import Derived.Deep.Fields
import Derived.ChangeSame
import Derived.ShutString
import Derived.LaidMore
import Derived.Lay
import Derived.SevenTiedAt
import Derived.Stop.Joined
set_option linter.unusedVariables false
set_option linter.unusedSimpArgs false
namespace Go.Proofs.YtfehpdliobapfaaGreatDoor
open Go Go.RowKit Go.Lib
open Go.ChangeShapes Go.WideShapes Go.ChangeAt
def shapeD (k:Nat):DataW Unit:=.agg [.lit (.string (nameL.getD k ⟨#[]⟩).data.toList),.lit (.int .i64 (shp k).least),.lit (.int .i64 (mostI (shp k).most)),.lit (.bool (shp k).text),.lit (.bool (shp k).typ)]
theorem shapes_data:(Rows.laid_caulker_tree_shapes:DataW Unit) = .agg ((List.range 46).map shapeD):=by kernel_rfl
theorem cSh:Tryz.prog.cellsOf 205=5:=by kernel_rfl
theorem cStr:Tryz.prog.cellsOf 9=1:=by kernel_rfl
theorem cInt:Tryz.prog.cellsOf 3=1:=by kernel_rfl
theorem cBool:Tryz.prog.cellsOf 4=1:=by kernel_rfl
theorem one_cell {cs:List Value} {o:Nat} {v:Value} (h:(cs.drop o).take 1=[v]):cs[o]? = some v:=by
 have:=congrArg (·[0]?) h
 simpa [List.getElem?_take,List.getElem?_drop] using this
theorem shape_cells {w:World} {fuel:Nat} {cs:List Value} {k:Nat} {p:List MemPlace} (h:DataW.trod (fun _=>()) Tryz.prog w 0 (fun _=>true) false fuel 205 cs=some (shapeD k,p)):∀ (j:Nat) (u:Value),(shapeC k)[j]? = some u->cs[j]? = some u:=by
 obtain ⟨xs,n,rfl,hx,hl,hxl,hall⟩:=DataW.trod_struct Tryz.underlying205 h
 have hxs:xs.map (·.1)=[.lit (.string (nameL.getD k ⟨#[]⟩).data.toList),.lit (.int .i64 (shp k).least),.lit (.int .i64 (mostI (shp k).most)),.lit (.bool (shp k).text),.lit (.bool (shp k).typ)]:=by
  have:=congrArg Prod.fst hx
  simpa [shapeD] using this.symm
 have h0:=hall 0 _ rfl
 have h1:=hall 1 _ rfl
 have h2:=hall 2 _ rfl
 have h3:=hall 3 _ rfl
 have h4:=hall 4 _ rfl
 have hlen:xs.length=5:=by have:=congrArg List.length hxs;simpa using this
 obtain ⟨x0,x1,x2,x3,x4,rfl⟩:∃ x0 x1 x2 x3 x4,xs=[x0,x1,x2,x3,x4]:=by
  match xs,hlen with
  | [x0,x1,x2,x3,x4],_=>exact ⟨_,_,_,_,_,rfl⟩
 simp only [List.getElem?_cons_zero,List.getElem?_cons_succ] at h0 h1 h2 h3 h4
 simp only [List.map_cons,List.map_nil,List.cons.injEq,and_true] at hxs
 obtain ⟨e0,e1,e2,e3,e4⟩:=hxs
 obtain ⟨s0,c0,d0,-⟩:=DataW.trod_string Tryz.underlying9 h0
 obtain ⟨s1,c1,d1,-⟩:=DataW.trod_int Tryz.underlying3 h1
 obtain ⟨s2,c2,d2,-⟩:=DataW.trod_int Tryz.underlying3 h2
 obtain ⟨s3,c3,d3⟩:=DataW.trod_bool Tryz.underlying4 h3
 obtain ⟨s4,c4,d4⟩:=DataW.trod_bool Tryz.underlying4 h4
 rw [d0] at e0
 rw [d1] at e1
 rw [d2] at e2
 rw [d3] at e3
 rw [d4] at e4
 simp only [DataW.lit.injEq,Lit.string.injEq,Lit.int.injEq,Lit.bool.injEq,true_and] at e0 e1 e2 e3 e4
 have e0':s0=nameL.getD k ⟨#[]⟩:=ByteArray.ext (Array.toList_inj.1 e0)
 subst e0' e1 e2 e3 e4
 change List.take (Tryz.prog.cellsOf 9) (List.drop 0 cs)=_ at c0
 change List.take (Tryz.prog.cellsOf 3) (List.drop 1 cs)=_ at c1
 change List.take (Tryz.prog.cellsOf 3) (List.drop 2 cs)=_ at c2
 change List.take (Tryz.prog.cellsOf 4) (List.drop 3 cs)=_ at c3
 change List.take (Tryz.prog.cellsOf 4) (List.drop 4 cs)=_ at c4
 rw [cStr] at c0
 rw [cInt] at c1 c2
 rw [cBool] at c3 c4
 intro j u hj
 match j,hj with
 | 0,hj=>rw [one_cell c0];exact hj
 | 1,hj=>rw [one_cell c1];exact hj
 | 2,hj=>rw [one_cell c2];exact hj
 | 3,hj=>rw [one_cell c3];exact hj
 | 4,hj=>rw [one_cell c4];exact hj
 | j+5,hj=>simp [shapeC] at hj
theorem shTab_of {W : World} (h : VarReads Tryz.prog W "caulker/tree.shapes" Rows.laid_caulker_tree_shapes) : ShTab W := by
 rw [shapes_data] at h
 obtain ⟨g,t,cs,fuel,p,hg,hty,hvar,hd⟩:=h
 obtain rfl := Option.some.inj ((show Tryz.prog.globalNamed "caulker/tree.shapes" = some 0 by kernel_rfl).symm.trans hg)
 obtain rfl:=Option.some.inj ((show (Tryz.prog.globals[0]?).map (·.type)=some 206 by kernel_rfl).symm.trans hty)
 have key:∀ k,k<46->∀ (j:Nat) (u:Value),(shapeC k)[j]? = some u->W.cell? ⟨0,k*5+j,none⟩=some u:=by
  intro k hk j u hj
  obtain ⟨fuel',d,q,hdi,he⟩:=array_elem Tryz.underlying206 hd k hk
  simp only [List.getElem?_map,List.getElem?_range hk,Option.map_some,Option.some.injEq] at hdi
  subst hdi
  rw [cSh] at he
  have e:=shape_cells he j u hj
  have hj5:j<5:=(List.getElem?_eq_some_iff.1 hj).1
  rw [World.var?_cell hg hvar (k*5+j),<- Array.getElem?_toList]
  rw [List.getElem?_take,if_pos hj5,List.getElem?_drop] at e
  exact e
 exact ⟨World.block_lt_of_cell? W _ (key 0 (by decide) 0 _ rfl),key⟩
abbrev laidL : List (String × DataW Unit) := [("unicode/utf8.acceptRanges", Rows.laid_unicode_utf8_acceptRanges), ("caulker/tree.shapes", Rows.laid_caulker_tree_shapes), ("unicode/utf8.first", Rows.laid_unicode_utf8_first)]
theorem tabs_of {W : World} (h : laidMet Tryz.prog laidL W) : ShTab W := shTab_of (laidMet.reads h (n := "caulker/tree.shapes") (.tail _ (.head _)))
theorem own:ownKnob Tryz.prog.godebug=none:=by kernel_rfl
end Go.Proofs.YtfehpdliobapfaaGreatDoor
