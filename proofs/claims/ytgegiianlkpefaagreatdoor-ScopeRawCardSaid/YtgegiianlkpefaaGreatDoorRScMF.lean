/- ScopeRaw: what is wrong with nodes that are no program or no method. -/
import Derived.Test.YtgegiianlkpefaaGreatDoorCards
import Derived.Test.YtgegiianlkpefaaGreatDoorTie
import Derived.Test.YtgegiianlkpefaaGreatDoorRScME
import Derived.Lib.LaidPrint
import Derived.ChangeOld
import Derived.ShutString
import Derived.LaidMore
import Derived.Lay
import Derived.SevenTiedAt
import Derived.Stop.Joined
set_option maxRecDepth 100000
set_option linter.unusedVariables false
set_option linter.unusedSimpArgs false
namespace Go.Proofs.YtgegiianlkpefaaGreatDoor
open Go Go.RowKit Go.Lib
open Go.ChangeShapes Go.WideShapes Go.ChangeAt
def shapeD (k : Nat) : DataW Unit:=.agg [.lit (.string (nameL.getD k ⟨#[]⟩).data.toList),.lit (.int .i64 (shp k).least),.lit (.int .i64 (mostI (shp k).most)),.lit (.bool (shp k).text),.lit (.bool (shp k).typ)]
theorem shapes_data : (Rows.laid_caulker_tree_shapes : DataW Unit) = .agg ((List.range 46).map shapeD):=by kernel_rfl
theorem cSh : Tryz.prog.cellsOf 205 = 5:=by kernel_rfl
theorem cStr : Tryz.prog.cellsOf 9 = 1:=by kernel_rfl
theorem cInt : Tryz.prog.cellsOf 3 = 1:=by kernel_rfl
theorem cBool : Tryz.prog.cellsOf 4 = 1:=by kernel_rfl
theorem one_cell {cs : List Value} {o : Nat} {v : Value} (h : (cs.drop o).take 1 = [v]) : cs[o]? = some v:=by
 have:=congrArg (·[0]?) h
 simpa [List.getElem?_take,List.getElem?_drop] using this
theorem shape_cells {w : World} {fuel : Nat} {cs : List Value} {k : Nat} {p : List MemPlace} (h : DataW.trod (fun _=>()) Tryz.prog w 0 (fun _=>true) false fuel 205 cs = some (shapeD k,p)) : ∀ (j : Nat) (u : Value),(shapeC k)[j]? = some u -> cs[j]? = some u:=by
 obtain ⟨xs,n,rfl,hx,hl,hxl,hall⟩:=DataW.trod_struct Tryz.underlying205 h
 have hxs : xs.map (·.1) = [.lit (.string (nameL.getD k ⟨#[]⟩).data.toList),.lit (.int .i64 (shp k).least),.lit (.int .i64 (mostI (shp k).most)),.lit (.bool (shp k).text),.lit (.bool (shp k).typ)]:=by
  have:=congrArg Prod.fst hx
  simpa [shapeD] using this.symm
 have h0:=hall 0 _ rfl
 have h1:=hall 1 _ rfl
 have h2:=hall 2 _ rfl
 have h3:=hall 3 _ rfl
 have h4:=hall 4 _ rfl
 have hlen : xs.length = 5:=by have:=congrArg List.length hxs;simpa using this
 obtain ⟨x0,x1,x2,x3,x4,rfl⟩ : ∃ x0 x1 x2 x3 x4,xs = [x0,x1,x2,x3,x4]:=by
  match xs,hlen with
  | [x0,x1,x2,x3,x4],_=>exact ⟨_,_,_,_,_,rfl⟩
 simp only [List.getElem?_cons_zero,List.getElem?_cons_succ] at h0 h1 h2 h3 h4
 simp only [List.map_cons,List.map_nil,List.cons.injEq,and_true] at hxs
 obtain ⟨e0,e1,e2,e3,e4⟩:=hxs
 obtain ⟨s0,c0,d0,-⟩:=DataW.trod_string Tryz.underlying9 h0
 obtain ⟨s1,c1,d1,-⟩:=DataW.trod_int Tryz.underlying3 h1
 obtain ⟨s2,c2,d2,-⟩:=DataW.trod_int Tryz.underlying3 h2
 obtain ⟨s3,c3,d3⟩:=DataW.trod_bool Tryz.underlying4 h3
 obtain ⟨s4,c4,d4⟩:=DataW.trod_bool Tryz.underlying4 h4
 rw [d0] at e0
 rw [d1] at e1
 rw [d2] at e2
 rw [d3] at e3
 rw [d4] at e4
 simp only [DataW.lit.injEq,Lit.string.injEq,Lit.int.injEq,Lit.bool.injEq,true_and] at e0 e1 e2 e3 e4
 have e0' : s0 = nameL.getD k ⟨#[]⟩:=ByteArray.ext (Array.toList_inj.1 e0)
 subst e0' e1 e2 e3 e4
 change List.take (Tryz.prog.cellsOf 9) (List.drop 0 cs) = _ at c0
 change List.take (Tryz.prog.cellsOf 3) (List.drop 1 cs) = _ at c1
 change List.take (Tryz.prog.cellsOf 3) (List.drop 2 cs) = _ at c2
 change List.take (Tryz.prog.cellsOf 4) (List.drop 3 cs) = _ at c3
 change List.take (Tryz.prog.cellsOf 4) (List.drop 4 cs) = _ at c4
 rw [cStr] at c0
 rw [cInt] at c1 c2
 rw [cBool] at c3 c4
 intro j u hj
 match j,hj with
 | 0,hj=>rw [one_cell c0];exact hj
 | 1,hj=>rw [one_cell c1];exact hj
 | 2,hj=>rw [one_cell c2];exact hj
 | 3,hj=>rw [one_cell c3];exact hj
 | 4,hj=>rw [one_cell c4];exact hj
 | j + 5,hj=>simp [shapeC] at hj
theorem shTab_of {W : World} (h : VarReads Tryz.prog W "caulker/tree.shapes" Rows.laid_caulker_tree_shapes) : ShTab W := by
 rw [shapes_data] at h
 obtain ⟨g,t,cs,fuel,p,hg,hty,hvar,hd⟩:=h
 obtain rfl := Option.some.inj ((show Tryz.prog.globalNamed "caulker/tree.shapes" = some 0 by kernel_rfl).symm.trans hg)
 obtain rfl:=Option.some.inj ((show (Tryz.prog.globals[0]?).map (·.type) = some 206 by kernel_rfl).symm.trans hty)
 have key : ∀ k,k < 46 -> ∀ (j : Nat) (u : Value),(shapeC k)[j]? = some u -> W.cell? ⟨0,k * 5 + j,none⟩ = some u:=by
  intro k hk j u hj
  obtain ⟨fuel',d,q,hdi,he⟩:=array_elem Tryz.underlying206 hd k hk
  simp only [List.getElem?_map,List.getElem?_range hk,Option.map_some,Option.some.injEq] at hdi
  subst hdi
  rw [cSh] at he
  have e:=shape_cells he j u hj
  have hj5 : j < 5:=(List.getElem?_eq_some_iff.1 hj).1
  rw [World.var?_cell hg hvar (k * 5 + j),<- Array.getElem?_toList]
  rw [List.getElem?_take,if_pos hj5,List.getElem?_drop] at e
  exact e
 exact ⟨World.block_lt_of_cell? W _ (key 0 (by decide) 0 _ rfl),key⟩
abbrev laidL : List (String × DataW Unit) := [("unicode/utf8.acceptRanges", Rows.laid_unicode_utf8_acceptRanges), ("caulker/tree.shapes", Rows.laid_caulker_tree_shapes), ("unicode/utf8.first", Rows.laid_unicode_utf8_first)]
theorem tabs_of {W : World} (h : laidMet Tryz.prog laidL W) : ShTab W := shTab_of (laidMet.reads h (n := "caulker/tree.shapes") (.tail _ (.head _)))
theorem own : ownKnob Tryz.prog.godebug = none:=by kernel_rfl
theorem laidOut : laidOutB Tryz.prog = true:=by kernel_rfl
open Go.ChangeShapes Go.WideShapes Go.ChangeAt Go.RowKit
open Go.ChangeMaps (open_string shut_string)
theorem scopeRaw_contract (H : Type) (enc : TypeId × Value -> H) (W : World) (base : Nat) (args : Array Value) (ds gs : List (DataW H)) (before : List MemPlace)
  (hval0 : ∀ (j : Nat) t v,Tryz.f11.params[j]? = some t -> args[j]? = some v -> Value.okWide Tryz.prog W .any base t v)
  (hW : DataW.Whole enc Tryz.prog Tryz.f11.params.toList Rows.scopeRawSpec.vars false W args.toList ds gs before) (hsz0 : (DataW.weightsEach Tryz.prog (Tryz.f11.params.toList ++ Rows.scopeRawSpec.plain.varTypes Tryz.prog) (ds ++ gs)).all (· <= reachBytes) = true) (hL : laidMetH Tryz.prog Rows.scopeRawRow.laid W) :
  Calls Tryz.prog 11 args W fun e W'=>∃ v,e = .returned v /\ Rows.scopeRawSpec.post enc Tryz.prog Tryz.f11 false true false false W args v W':=by
 have hval : ∀ (j : Nat) t v,Tryz.f11.params[j]? = some t -> args[j]? = some v -> Value.okWide Tryz.prog W .any base t v:=hval0
 have hW':=hW
 obtain ⟨p,q,hA0,hV,rfl,hfz,hnd⟩:=hW
 have hA : DataW.TrodAll enc Tryz.prog W 0 (fun _=>true) true Tryz.f11.params.toList args.toList ds p:=hA0
 have hsz : (DataW.weightsEach Tryz.prog (Tryz.f11.params.toList ++ []) (ds ++ gs)).all (· <= reachBytes) = true:=hsz0
 rw [Tryz.params11] at hA hval hsz
 obtain ⟨v0,vs0,d0,ds0,p0,q0,hargs,rfl,rfl,h0,r0⟩:=trodAll_cons hA
 obtain ⟨v1,vs1,d1,ds1,p1,q1,rfl,rfl,rfl,h1,r1⟩:=trodAll_cons r0
 obtain ⟨rfl,rfl,rfl⟩:=trodAll_nil r1
 obtain rfl : args = #[v0,v1]:=by cases args;simp_all
 obtain ⟨rfl,rfl⟩:=trodVars_none hV
 have k0:=h0
 have lt0 : ∀ x ∈ p0,x.block < W.heap.size:=by obtain ⟨m,hm⟩:=k0;exact DataW.trod_lt m _ _ _ hm
 obtain ⟨l0,root0,tv0,ll0,lg0⟩:=open_tree ⟨Tryz.underlying61,by kernel_rfl,rfl,by kernel_rfl,by kernel_rfl,by kernel_rfl,by kernel_rfl,by kernel_rfl,by kernel_rfl,by kernel_rfl,by kernel_rfl,Tryz.underlying59,Tryz.underlying45,Tryz.underlying57,Tryz.underlying3,Tryz.underlying2,Tryz.underlying9,by kernel_rfl,by kernel_rfl,by kernel_rfl,by kernel_rfl,by kernel_rfl,by kernel_rfl,by kernel_rfl,⟨rfl,rfl⟩,⟨rfl,rfl⟩,⟨rfl,rfl⟩,⟨rfl,rfl⟩,⟨rfl,rfl⟩,⟨rfl,rfl⟩⟩ Tryz.underlying23 Tryz.underlying25 (by kernel_rfl) (by kernel_rfl) rfl rfl (hval 0 25 v0 rfl rfl) h0
 have rd0:=lg0 (fun m hm=>by
  have:=List.all_eq_true.1 hsz m (DataW.weights_mem_each (j:=0) (t:=25) (d:=d0) rfl rfl m hm)
  exact of_decide_eq_true this)
 obtain ⟨a1,rfl,rfl,rfl,w1⟩:=open_int Tryz.underlying3 (hval 1 3 v1 rfl rfl) h1
 clear hA0 hval0
 refine (S.raw_any v0 l0 root0 tv0 rd0 a1 w1 (tabs_of (by rw [MakeChecks.laidMetH_plain _ _ _ (by kernel_rfl)] at hL;exact hL))).mono fun e W' ⟨he,bel⟩=>?_
 subst he
 exact ⟨_,rfl,_,_,_,[],_,[],hW',trodAll_mk1 (shut_bool Tryz.underlying4 _),(trodAll_cons_mk (Below.trod laidOut (by kernel_rfl) (of_decide_eq_true (by kernel_rfl)) k0 bel lt0) (trodAll_cons_mk (shut_int Tryz.underlying3 w1) trodAll_mk0)),rfl,bel.frame _,fun h=>by cases h⟩
theorem scopeRaw_lifted (os : Os) (started : os.Started) (H : Type) (enc : TypeId × Value -> H) :
  ReturnsInHanded {} Tryz.checked os 11 .any (fun w args=>(Rows.scopeRawSpec.pre enc Tryz.prog Tryz.f11 Rows.scopeRawRow.domain false w args /\ laidMetH Tryz.prog Rows.scopeRawRow.laid w) /\ sizedMet enc Tryz.prog Tryz.f11 (OpenSpec.ofChange Rows.scopeRawSpec) false w args)
   (Rows.scopeRawSpec.post enc Tryz.prog Tryz.f11 false true false false):=by
 refine returnsInHanded_of_change_and (C:=Tryz.checked) (X:=fun w _=>laidMetH Tryz.prog Rows.scopeRawRow.laid w) (fun _ _ _ hh h=>h.of_heap hh) own started (by kernel_rfl) Tryz.func11
  (ChangeSpec.witness_shaped (enc:=enc) (C:=Tryz.checked) (os:=os) (X:=fun w _=>laidMetH Tryz.prog Rows.scopeRawRow.laid w) false (World.laidAll Tryz.prog os laidL) #[.agg #[.slice none 0 0,.int .i64 0],.int .i64 0] 8 (World.laidAll_os _ _ _)
   (World.shaped_of_ZipB (by kernel_rfl) (by kernel_rfl)) (by kernel_rfl) (by kernel_rfl) (by kernel_rfl)
   (by rw [MakeChecks.laidMetH_plain _ _ _ (by kernel_rfl)];exact laidMet_laidAll _ (by kernel_rfl) (by kernel_rfl))) ?_
 intro W base args ds gs before hval hW _ hsz hL _
 exact scopeRaw_contract H enc W base args ds gs before hval hW hsz hL
set_option maxHeartbeats 40000000 in
theorem scopeRaw_said : Rows.ScopeRawSaid :=
 OpenClaim.holds_of_wide 11 Tryz.f11 rfl rfl rfl rfl rfl rfl rfl ⟨rfl,rfl,rfl,rfl,rfl⟩ rfl rfl rfl rfl rfl (by kernel_rfl) Tryz.func11 (by unfold joinedFacts;repeat' (with_reducible refine Bool.and_eq_true_iff.2 ⟨?_,?_⟩);all_goals (as_aux_lemma=>kernel_rfl))
  (of_decide_eq_true (by kernel_rfl)) (by unfold Func.isWrapper;first | (rw [if_pos (by decide +kernel)];kernel_rfl) | (rw [if_neg (by decide +kernel)];exact ⟨rfl,rfl⟩))
  (fun os started H enc _=>scopeRaw_lifted os started H enc)
theorem scopeRaw_plain (f : FuncId) (fn : Func) (hf : Tryz.pinned.checked.prog.funcNamed "caulker/caulkerlaw12.ScopeRaw" = some f) (hfn : Tryz.pinned.checked.prog.funcs[f]? = some fn) :
  true = Tryz.pinned.checked.prog.looks [] /\ ∀ (j : Nat) t,fn.params[j]? = some t -> Tryz.pinned.checked.prog.wantsStandIn t = false:=by
 obtain rfl : f = 11 := Option.some.inj ((show Tryz.prog.funcNamed "caulker/caulkerlaw12.ScopeRaw" = some 11 by kernel_rfl).symm.trans hf) |>.symm
 obtain rfl : fn = Tryz.f11:=(Option.some.inj (Tryz.func11.symm.trans hfn)).symm
 refine ⟨by kernel_rfl,fun j t ht=>?_⟩
 rw [Tryz.params11] at ht
 have hm:=Array.mem_of_getElem? ht
 simp only [List.mem_toArray,List.mem_cons,List.not_mem_nil,or_false] at hm
 rcases hm with rfl | rfl
 ·exact (show Tryz.prog.wantsStandIn 25 = false by kernel_rfl)
 ·exact (show Tryz.prog.wantsStandIn 3 = false by kernel_rfl)
theorem scopeRaw_proved : Rows.ScopeRawCardSaid :=
 Claim7.holds_tied_plain_at .later [] _ _ _ _ scopeRaw_said (fun _ h=>by cases h) (by kernel_rfl) (fun _ h=>by cases h) scopeRaw_row_tie rfl ⟨rfl,rfl⟩ (by kernel_rfl) rfl scopeRaw_plain (by kernel_rfl)
end Go.Proofs.YtgegiianlkpefaaGreatDoor
