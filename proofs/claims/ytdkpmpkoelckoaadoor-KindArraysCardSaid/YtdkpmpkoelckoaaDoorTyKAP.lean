/- For every type, KindArrays returns true and leaves its argument as it was: the elements of an array of a type are of that type. -/
import Derived.Test.YtdkpmpkoelckoaaDoorTyKA
import Derived.Test.YtdkpmpkoelckoaaDoorTyFrame
namespace Go.Proofs.YtdkpmpkoelckoaaDoor
open Go.ChangeShapes Go.WideShapes Go.ChangeAt Go.RowKit
open Go.ChangeMaps (open_string shut_string)
set_option linter.unusedVariables false

theorem ka_any (B : Int) (N : ByteArray) (D : Int) (M : ByteArray) (sN : N.size ≤ maxLen) (sM : M.size ≤ maxLen) (w : World) :
    Calls Tryd.prog 7 #[.agg #[.int .i64 B, .string N, .int .i64 D, .string M]] w fun e w' => e = .returned (.bool true) ∧ Below w.heap.size w w' := by
  cases hs : sm (B, N, D, M)
  · exact ka_big B N D M w sN sM hs
  · obtain ⟨tN, tM⟩ := sm_sizes hs
    cases ha : allB B N D M
    · exact ka_none B N D M w tN tM ha
    · cases hr : rightB B N D M
      · exact ka_lit B N D M w tN tM ha hr
      · obtain ⟨d, rfl, hd, hm⟩ := right_bounds hr
        match d, hr, hd with
        | 0, hr, hd =>
          by_cases h6 : B = 6
          · subst h6; exact ka_void N M w tN tM hr
          · by_cases ho : byS M 0 = 111
            · exact ka_opt0 B N M w tN tM hr h6 ho
            · exact ka_yes0 B N M w tN tM hr h6 ho
        | d + 1, hr, hd =>
          rw [show ((d + 1 : Nat) : Int) = (d : Int) + 1 by omega] at hr ⊢
          by_cases ho : byS M (d + 1) = 111
          · exact ka_optD B N d M w tN tM hr ho
          · by_cases h4 : d + 1 < 4
            · exact ka_yesD B N d M w tN tM hr h4 ho
            · obtain rfl : d = 3 := by omega
              exact ka_four B N M w tN tM hr ho

theorem kindArrays_laid (os : Os) : laidMet Tryd.prog Rows.kindArraysRow.laid ((laidWorld os).forCall (fun _ _ => 0) ⟨#[], #[.agg #[.int .i64 0, .string ⟨#[]⟩, .int .i64 0, .string ⟨#[]⟩]], []⟩).memory :=
  laidMet_of_run' 40 (by kernel_rfl) (by kernel_rfl)
theorem kindArrays_reads (os : Os) {H : Type} (enc : TypeId × Value → H) : ∃ x, DataW.whole enc Tryd.prog ((laidWorld os).forCall (fun _ _ => 0) ⟨#[], #[.agg #[.int .i64 0, .string ⟨#[]⟩, .int .i64 0, .string ⟨#[]⟩]], []⟩).memory Tryd.f7.params.toList Rows.kindArraysSpec.vars false (#[.agg #[.int .i64 0, .string ⟨#[]⟩, .int .i64 0, .string ⟨#[]⟩]] : Array Value).toList 8 = some x :=
  Option.isSome_iff_exists.1 (by kernel_rfl)

set_option maxRecDepth 100000 in
theorem kindArrays_contract (H : Type) (enc : TypeId × Value → H) (W : World) (base : Nat) (args : Array Value) (ds gs : List (DataW H)) (before : List MemPlace)
    (hval0 : ∀ (j : Nat) t v, Tryd.f7.params[j]? = some t → args[j]? = some v → Value.okWide Tryd.prog W .any base t v)
    (hW : DataW.Whole enc Tryd.prog Tryd.f7.params.toList Rows.kindArraysSpec.vars false W args.toList ds gs before) (hL : laidMetH Tryd.prog Rows.kindArraysRow.laid W) :
    Calls Tryd.prog 7 args W fun e W' => ∃ v, e = .returned v ∧ Rows.kindArraysSpec.post enc Tryd.prog Tryd.f7 false true false false W args v W' := by
  have hval : ∀ (j : Nat) t v, Tryd.f7.params[j]? = some t → args[j]? = some v → Value.okWide Tryd.prog W .any base t v := hval0
  have hW' := hW
  obtain ⟨p, q, hA0, hV, rfl, hfz, hnd⟩ := hW
  have hA : DataW.TrodAll enc Tryd.prog W 0 (fun _ => true) true Tryd.f7.params.toList args.toList ds p := hA0
  rw [Tryd.params7] at hA hval
  obtain ⟨v0, vs0, d0, ds0, p0, q0, hargs, rfl, rfl, h0, r0⟩ := trodAll_cons hA
  obtain ⟨rfl, rfl, rfl⟩ := trodAll_nil r0
  obtain rfl : args = #[v0] := by cases args; simp_all
  obtain ⟨rfl, rfl⟩ := trodVars_none hV
  have k0 := h0
  have lt0 : ∀ x ∈ p0, x.block < W.heap.size := by obtain ⟨m, hm⟩ := k0; exact DataW.trod_lt m _ _ _ hm
  obtain ⟨B0, N0, D0, M0, sN0, sM0, rfl⟩ := open_type Tryd.underlying24 Tryd.underlying3 Tryd.underlying9 (by kernel_rfl) (by kernel_rfl) rfl rfl rfl rfl (hval 0 24 v0 rfl rfl) h0
  clear hA0 hval0
  refine (ka_any B0 N0 D0 M0 sN0 sM0 W).mono fun e W' ⟨he, bel⟩ => ?_
  subst he
  exact ⟨_, rfl, _, _, _, [], _, [], hW', trodAll_mk1 (shut_bool Tryd.underlying4 _), (trodAll_cons_mk (Below.trod laidOut (by kernel_rfl) (of_decide_eq_true (by kernel_rfl)) k0 bel lt0) trodAll_mk0), rfl, bel.frame _, fun h => by cases h⟩

set_option maxRecDepth 100000 in
theorem kindArrays_lifted (os : Os) (started : os.Started) (H : Type) (enc : TypeId × Value → H) (F : Stop.Interp) :
    ReturnsInHanded {} Tryd.checked os 7 .any ((OpenSpec.ofChange Rows.kindArraysSpec).preRow enc Tryd.prog Tryd.f7 Rows.kindArraysRow.domain false Rows.kindArraysRow.laid) (((OpenSpec.ofChange Rows.kindArraysSpec).at F).post enc Tryd.prog Tryd.f7 false true false false) := by
  obtain ⟨x, hx⟩ := kindArrays_reads os enc
  refine returnsInHanded_of_row (C := Tryd.checked) (s := OpenSpec.ofChange Rows.kindArraysSpec) own started (by kernel_rfl) Tryd.func7
    (witness_row_at (enc := enc) (C := Tryd.checked) false (laidWorld os) #[.agg #[.int .i64 0, .string ⟨#[]⟩, .int .i64 0, .string ⟨#[]⟩]] rfl (by kernel_rfl) (by kernel_rfl) (by kernel_rfl)
      (OpenSpec.preRow_of_cond 8 hx (by kernel_rfl) (fun k hk => by cases hk) (by kernel_rfl) (kindArrays_laid os))) ?_
  intro W base args ds gs before hval hW _ _ _ hL _ _
  exact kindArrays_contract H enc W base args ds gs before hval hW hL

theorem kindArrays_said : Rows.KindArraysSaid :=
  OpenClaim.holds_of_cond 7 Tryd.f7 rfl rfl rfl rfl rfl rfl rfl ⟨rfl, rfl, rfl, rfl, rfl⟩ rfl rfl rfl rfl rfl (by kernel_rfl) Tryd.func7 (by kernel_rfl)
    (of_decide_eq_true (by kernel_rfl)) (by unfold Func.isWrapper; first | (rw [if_pos (by decide +kernel)]; kernel_rfl) | (rw [if_neg (by decide +kernel)]; exact ⟨rfl, rfl⟩))
    (fun os started H enc _ F => by rw [OpenClaim.pre_eq_preRow]; exact kindArrays_lifted os started H enc F)

theorem kindArrays_plain (f : FuncId) (fn : Func) (hf : Tryd.pinned.checked.prog.funcNamed "caulker/caulkerlaw10.KindArrays" = some f) (hfn : Tryd.pinned.checked.prog.funcs[f]? = some fn) :
    false = Tryd.pinned.checked.prog.looks [] ∧ ∀ (j : Nat) t, fn.params[j]? = some t → Tryd.pinned.checked.prog.wantsStandIn t = false := by
  obtain rfl : f = 7 := Option.some.inj ((show Tryd.prog.funcNamed "caulker/caulkerlaw10.KindArrays" = some 7 by kernel_rfl).symm.trans hf) |>.symm
  obtain rfl : fn = Tryd.f7 := (Option.some.inj (Tryd.func7.symm.trans hfn)).symm
  refine ⟨by kernel_rfl, fun j t ht => ?_⟩
  rw [Tryd.params7] at ht
  have hm := Array.mem_of_getElem? ht
  simp only [List.mem_toArray, List.mem_cons, List.not_mem_nil, or_false] at hm
  rcases hm with rfl
  · exact (show Tryd.prog.wantsStandIn 24 = false by kernel_rfl)

/-- THE CARD. -/
theorem kindArrays_proved : Rows.KindArraysCardSaid :=
  Claim7.holds_tied_plain_at .later [] _ _ _ _ kindArrays_said (fun _ h => by cases h) (by kernel_rfl) (fun _ h => by cases h) kindArrays_row_tie rfl ⟨rfl, rfl⟩ (by kernel_rfl) rfl kindArrays_plain (by kernel_rfl)
end Go.Proofs.YtdkpmpkoelckoaaDoor
