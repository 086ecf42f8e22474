/- ParseWhole -/
import Derived.Test.YtcllbfijhgiclaaGreatDoorWTrPen
import Derived.LaidMore
import Derived.ProofKit
import Derived.OpenShut
set_option linter.unusedVariables false
set_option linter.unusedSimpArgs false
namespace Go.Proofs.YtcllbfijhgiclaaGreatDoor
open Go Go.RowKit Go.Lib
def shapeD (k : Nat) : DataW Unit:=.agg [.lit (.string (nameL.getD k ⟨#[]⟩).data.toList),.lit (.int .i64 (shp k).least),.lit (.int .i64 (mostI (shp k).most)),.lit (.bool (shp k).text),.lit (.bool (shp k).typ)]
theorem shapes_data : (Rows.laid_caulker_tree_shapes : DataW Unit) = .agg ((List.range 46).map shapeD):=by kernel_rfl
theorem first_data : Rows.laid_unicode_utf8_first = firstData:=by kernel_rfl
theorem accept_data : (Rows.laid_unicode_utf8_acceptRanges : DataW Unit) = acceptData:=by kernel_rfl
theorem p16_data : Rows.laid_strconv_isPrint16 = sliceData .u16 goPrintTabs.p16:=by kernel_rfl
theorem n16_data : Rows.laid_strconv_isNotPrint16 = sliceData .u16 goPrintTabs.n16:=by kernel_rfl
theorem p32_data : Rows.laid_strconv_isPrint32 = sliceData .u32 goPrintTabs.p32:=by kernel_rfl
theorem n32_data : Rows.laid_strconv_isNotPrint32 = sliceData .u16 goPrintTabs.n32:=by kernel_rfl
theorem pow_data : (Rows.laid_internal_strconv_uint64pow10 : DataW Unit) = tabData .u64 pow10Tab:=by kernel_rfl
theorem cSh : Tryz.prog.cellsOf 126 = 5:=by kernel_rfl
theorem cStr : Tryz.prog.cellsOf 9 = 1:=by kernel_rfl
theorem cInt : Tryz.prog.cellsOf 3 = 1:=by kernel_rfl
theorem cBool : Tryz.prog.cellsOf 4 = 1:=by kernel_rfl
theorem one_cell {cs : List Value} {o : Nat} {v : Value} (h : (cs.drop o).take 1 = [v]) : cs[o]? = some v:=by
 have:=congrArg (·[0]?) h
 simpa [List.getElem?_take,List.getElem?_drop] using this
theorem shape_cells {w : World} {fuel : Nat} {cs : List Value} {k : Nat} {p : List MemPlace} (h : DataW.trod (fun _=>()) Tryz.prog w 0 (fun _=>true) false fuel 126 cs = some (shapeD k,p)) : ∀ (j : Nat) (u : Value),(shapeC k)[j]? = some u -> cs[j]? = some u:=by
 obtain ⟨xs,n,rfl,hx,hl,hxl,hall⟩:=DataW.trod_struct Tryz.underlying126 h
 have hxs : xs.map (·.1) = [.lit (.string (nameL.getD k ⟨#[]⟩).data.toList),.lit (.int .i64 (shp k).least),.lit (.int .i64 (mostI (shp k).most)),.lit (.bool (shp k).text),.lit (.bool (shp k).typ)]:=by
  have:=congrArg Prod.fst hx
  simpa [shapeD] using this.symm
 have h0:=hall 0 _ rfl
 have h1:=hall 1 _ rfl
 have h2:=hall 2 _ rfl
 have h3:=hall 3 _ rfl
 have h4:=hall 4 _ rfl
 have hlen : xs.length = 5:=by have:=congrArg List.length hxs;simpa using this
 obtain ⟨x0,x1,x2,x3,x4,rfl⟩ : ∃ x0 x1 x2 x3 x4,xs = [x0,x1,x2,x3,x4]:=by
  match xs,hlen with
  | [x0,x1,x2,x3,x4],_=>exact ⟨_,_,_,_,_,rfl⟩
 simp only [List.getElem?_cons_zero,List.getElem?_cons_succ] at h0 h1 h2 h3 h4
 simp only [List.map_cons,List.map_nil,List.cons.injEq,and_true] at hxs
 obtain ⟨e0,e1,e2,e3,e4⟩:=hxs
 obtain ⟨s0,c0,d0,-⟩:=DataW.trod_string Tryz.underlying9 h0
 obtain ⟨s1,c1,d1,-⟩:=DataW.trod_int Tryz.underlying3 h1
 obtain ⟨s2,c2,d2,-⟩:=DataW.trod_int Tryz.underlying3 h2
 obtain ⟨s3,c3,d3⟩:=DataW.trod_bool Tryz.underlying4 h3
 obtain ⟨s4,c4,d4⟩:=DataW.trod_bool Tryz.underlying4 h4
 rw [d0] at e0
 rw [d1] at e1
 rw [d2] at e2
 rw [d3] at e3
 rw [d4] at e4
 simp only [DataW.lit.injEq,Lit.string.injEq,Lit.int.injEq,Lit.bool.injEq,true_and] at e0 e1 e2 e3 e4
 have e0' : s0 = nameL.getD k ⟨#[]⟩:=ByteArray.ext (Array.toList_inj.1 e0)
 subst e0' e1 e2 e3 e4
 change List.take (Tryz.prog.cellsOf 9) (List.drop 0 cs) = _ at c0
 change List.take (Tryz.prog.cellsOf 3) (List.drop 1 cs) = _ at c1
 change List.take (Tryz.prog.cellsOf 3) (List.drop 2 cs) = _ at c2
 change List.take (Tryz.prog.cellsOf 4) (List.drop 3 cs) = _ at c3
 change List.take (Tryz.prog.cellsOf 4) (List.drop 4 cs) = _ at c4
 rw [cStr] at c0
 rw [cInt] at c1 c2
 rw [cBool] at c3 c4
 intro j u hj
 match j,hj with
 | 0,hj=>rw [one_cell c0];exact hj
 | 1,hj=>rw [one_cell c1];exact hj
 | 2,hj=>rw [one_cell c2];exact hj
 | 3,hj=>rw [one_cell c3];exact hj
 | 4,hj=>rw [one_cell c4];exact hj
 | j + 5,hj=>simp [shapeC] at hj
theorem shTab_of {W : World} (h : VarReads Tryz.prog W "caulker/tree.shapes" Rows.laid_caulker_tree_shapes) : ShTab W := by
 rw [shapes_data] at h
 obtain ⟨g,t,cs,fuel,p,hg,hty,hvar,hd⟩:=h
 obtain rfl := Option.some.inj ((show Tryz.prog.globalNamed "caulker/tree.shapes" = some 1 by kernel_rfl).symm.trans hg)
 obtain rfl:=Option.some.inj ((show (Tryz.prog.globals[1]?).map (·.type) = some 127 by kernel_rfl).symm.trans hty)
 have key : ∀ k,k < 46 -> ∀ (j : Nat) (u : Value),(shapeC k)[j]? = some u -> W.cell? ⟨1,k * 5 + j,none⟩ = some u:=by
  intro k hk j u hj
  obtain ⟨fuel',d,q,hdi,he⟩:=array_elem Tryz.underlying127 hd k hk
  simp only [List.getElem?_map,List.getElem?_range hk,Option.map_some,Option.some.injEq] at hdi
  subst hdi
  rw [cSh] at he
  have e:=shape_cells he j u hj
  have hj5 : j < 5:=(List.getElem?_eq_some_iff.1 hj).1
  rw [World.var?_cell hg hvar (k * 5 + j),<- Array.getElem?_toList]
  rw [List.getElem?_take,if_pos hj5,List.getElem?_drop] at e
  exact e
 exact ⟨World.block_lt_of_cell? W _ (key 0 (by decide) 0 _ rfl),key⟩
theorem printExtra : PrintExtra Tryz.prog Tryz.lays339_ren:=⟨by kernel_rfl,by kernel_rfl,by kernel_rfl,by kernel_rfl,by kernel_rfl,by kernel_rfl,by kernel_rfl,by kernel_rfl,by kernel_rfl,by kernel_rfl⟩
theorem u8Extra : U8Extra Tryz.prog Tryz.lays260_ren:=⟨by kernel_rfl,by kernel_rfl,by kernel_rfl,by kernel_rfl,by kernel_rfl,by kernel_rfl,by kernel_rfl⟩
abbrev laidL : List (String × DataW Unit) := [("math/bits.deBruijn32tab", Rows.laid_math_bits_deBruijn32tab), ("math/bits.deBruijn64tab", Rows.laid_math_bits_deBruijn64tab), ("internal/strconv.uint64pow10", Rows.laid_internal_strconv_uint64pow10), ("unicode/utf8.acceptRanges", Rows.laid_unicode_utf8_acceptRanges), ("caulker/tree.shapes", Rows.laid_caulker_tree_shapes), ("strconv.isGraphic", Rows.laid_strconv_isGraphic), ("strconv.isNotPrint16", Rows.laid_strconv_isNotPrint16), ("strconv.isNotPrint32", Rows.laid_strconv_isNotPrint32), ("strconv.isPrint16", Rows.laid_strconv_isPrint16), ("strconv.isPrint32", Rows.laid_strconv_isPrint32), ("unicode/utf8.first", Rows.laid_unicode_utf8_first)]
theorem tabs_of {W : World} (h : laidMet Tryz.prog laidL W) : Tabs W:=by
 have m2 := laidMet.reads h (n := "internal/strconv.uint64pow10") (.tail _ (.tail _ (.head _)))
 have m3 := laidMet.reads h (n := "unicode/utf8.acceptRanges") (.tail _ (.tail _ (.tail _ (.head _))))
 have m4 := laidMet.reads h (n := "caulker/tree.shapes") (.tail _ (.tail _ (.tail _ (.tail _ (.head _)))))
 have m6 := laidMet.reads h (n := "strconv.isNotPrint16") (.tail _ (.tail _ (.tail _ (.tail _ (.tail _ (.tail _ (.head _)))))))
 have m7 := laidMet.reads h (n := "strconv.isNotPrint32") (.tail _ (.tail _ (.tail _ (.tail _ (.tail _ (.tail _ (.tail _ (.head _))))))))
 have m8 := laidMet.reads h (n := "strconv.isPrint16") (.tail _ (.tail _ (.tail _ (.tail _ (.tail _ (.tail _ (.tail _ (.tail _ (.head _)))))))))
 have m9 := laidMet.reads h (n := "strconv.isPrint32") (.tail _ (.tail _ (.tail _ (.tail _ (.tail _ (.tail _ (.tail _ (.tail _ (.tail _ (.head _))))))))))
 have m10 := laidMet.reads h (n := "unicode/utf8.first") (.tail _ (.tail _ (.tail _ (.tail _ (.tail _ (.tail _ (.tail _ (.tail _ (.tail _ (.tail _ (.head _)))))))))))
 refine ⟨shTab_of m4,?_,?_,?_⟩
 ·rw [n16_data] at m6
  rw [n32_data] at m7
  rw [p16_data] at m8
  rw [p32_data] at m9
  exact printTabs_of_reads Tryz.lays339 printExtra m8 m6 m9 m7
 ·rw [accept_data] at m3
  rw [first_data] at m10
  exact utf8Tabs_of_reads Tryz.lays260 u8Extra m10 m3
 ·rw [pow_data] at m2
  obtain ⟨g,t,cs,fuel,p,hg,hty,hvar,hd⟩:=m2
  obtain rfl := Option.some.inj ((show Tryz.prog.globalNamed "internal/strconv.uint64pow10" = some 4 by kernel_rfl).symm.trans hg)
  obtain rfl:=Option.some.inj ((show (Tryz.prog.globals[4]?).map (·.type) = some 166 by kernel_rfl).symm.trans hty)
  unfold TabIs
  rw [hvar,<- cells_of_tab Tryz.underlying166 Tryz.underlying133 (by kernel_rfl) (by kernel_rfl) hd]
end Go.Proofs.YtcllbfijhgiclaaGreatDoor
