/- For any type, KindTells returns true and leaves its argument as it was: whether it may be, refers to something, its last mark, the layers that may have marks, and how it is written. -/
import Derived.Test.YtdkpmpkoelckoaaDoorTyTB
import Derived.Test.YtdkpmpkoelckoaaDoorTyTC
import Derived.Test.YtdkpmpkoelckoaaDoorTyTD
import Derived.Test.YtdkpmpkoelckoaaDoorTyTE
import Derived.Test.YtdkpmpkoelckoaaDoorTyFrame
namespace Go.Proofs.YtdkpmpkoelckoaaDoor
open Go.ChangeShapes Go.WideShapes Go.ChangeAt Go.RowKit
open Go.ChangeMaps (open_string shut_string)
set_option linter.unusedVariables false

theorem tl_one {M : ByteArray} {c : UInt8} (h : M.toList = [c]) : M = ⟨#[c]⟩ := toList_inj _ _ (by rw [h, ByteArray.toList_eq])
theorem kt_any (B : Int) (N : ByteArray) (D : Int) (M : ByteArray) (sN : N.size ≤ maxLen) (sM : M.size ≤ maxLen) (w : World) :
    Calls Tryd.prog 4 #[.agg #[.int .i64 B, .string N, .int .i64 D, .string M]] w fun e w' => e = .returned (.bool true) ∧ Below w.heap.size w w' := by
  cases hs : sm (B, N, D, M)
  · exact kt_big B N D M w sN sM hs
  · obtain ⟨tN, tM⟩ := sm_sizes hs
    cases ha : allB B N D M
    · exact kt_none B N D M w tN tM ha
    · cases hr : rightB B N D M
      · unfold allB at ha
        rw [hr, Bool.or_false] at ha
        unfold litB nullB noneB at ha
        simp only [Bool.or_eq_true, decide_eq_true_iff] at ha
        rcases ha with ⟨rfl, h1, rfl, h2⟩ | ⟨rfl, h1, rfl, h2⟩
        · obtain rfl := empty_of N ((tl_nil N).1 h1)
          obtain rfl := tl_one h2
          exact kt_null w
        · obtain rfl := empty_of N ((tl_nil N).1 h1)
          obtain rfl := tl_one h2
          exact kt_optn w
      · obtain ⟨d, rfl, hd, hm⟩ := right_bounds hr
        by_cases h5 : B = 5
        · by_cases hq : 0 < d
          · exact kt_5D B N d M w tN tM hr h5 hq
          · exact kt_50 B N d M w tN tM hr h5 (by omega)
        · by_cases hq : 0 < d
          · exact kt_nD B N d M w tN tM hr h5 hq
          · obtain rfl : d = 0 := by omega
            exact kt_n0 B N M w tN tM hr h5

theorem kindTells_laid (os : Os) : laidMet Tryd.prog Rows.kindTellsRow.laid ((laidWorld os).forCall (fun _ _ => 0) ⟨#[], #[.agg #[.int .i64 0, .string ⟨#[]⟩, .int .i64 0, .string ⟨#[]⟩]], []⟩).memory :=
  laidMet_of_run' 40 (by kernel_rfl) (by kernel_rfl)
theorem kindTells_reads (os : Os) {H : Type} (enc : TypeId × Value → H) : ∃ x, DataW.whole enc Tryd.prog ((laidWorld os).forCall (fun _ _ => 0) ⟨#[], #[.agg #[.int .i64 0, .string ⟨#[]⟩, .int .i64 0, .string ⟨#[]⟩]], []⟩).memory Tryd.f4.params.toList Rows.kindTellsSpec.vars false (#[.agg #[.int .i64 0, .string ⟨#[]⟩, .int .i64 0, .string ⟨#[]⟩]] : Array Value).toList 8 = some x :=
  Option.isSome_iff_exists.1 (by kernel_rfl)

set_option maxRecDepth 100000 in
theorem kindTells_contract (H : Type) (enc : TypeId × Value → H) (W : World) (base : Nat) (args : Array Value) (ds gs : List (DataW H)) (before : List MemPlace)
    (hval0 : ∀ (j : Nat) t v, Tryd.f4.params[j]? = some t → args[j]? = some v → Value.okWide Tryd.prog W .any base t v)
    (hW : DataW.Whole enc Tryd.prog Tryd.f4.params.toList Rows.kindTellsSpec.vars false W args.toList ds gs before) (hL : laidMetH Tryd.prog Rows.kindTellsRow.laid W) :
    Calls Tryd.prog 4 args W fun e W' => ∃ v, e = .returned v ∧ Rows.kindTellsSpec.post enc Tryd.prog Tryd.f4 false true false false W args v W' := by
  have hval : ∀ (j : Nat) t v, Tryd.f4.params[j]? = some t → args[j]? = some v → Value.okWide Tryd.prog W .any base t v := hval0
  have hW' := hW
  obtain ⟨p, q, hA0, hV, rfl, hfz, hnd⟩ := hW
  have hA : DataW.TrodAll enc Tryd.prog W 0 (fun _ => true) true Tryd.f4.params.toList args.toList ds p := hA0
  rw [Tryd.params4] at hA hval
  obtain ⟨v0, vs0, d0, ds0, p0, q0, hargs, rfl, rfl, h0, r0⟩ := trodAll_cons hA
  obtain ⟨rfl, rfl, rfl⟩ := trodAll_nil r0
  obtain rfl : args = #[v0] := by cases args; simp_all
  obtain ⟨rfl, rfl⟩ := trodVars_none hV
  have k0 := h0
  have lt0 : ∀ x ∈ p0, x.block < W.heap.size := by obtain ⟨m, hm⟩ := k0; exact DataW.trod_lt m _ _ _ hm
  obtain ⟨B0, N0, D0, M0, sN0, sM0, rfl⟩ := open_type Tryd.underlying24 Tryd.underlying3 Tryd.underlying9 (by kernel_rfl) (by kernel_rfl) rfl rfl rfl rfl (hval 0 24 v0 rfl rfl) h0
  clear hA0 hval0
  refine (kt_any B0 N0 D0 M0 sN0 sM0 W).mono fun e W' ⟨he, bel⟩ => ?_
  subst he
  exact ⟨_, rfl, _, _, _, [], _, [], hW', trodAll_mk1 (shut_bool Tryd.underlying4 _), (trodAll_cons_mk (Below.trod laidOut (by kernel_rfl) (of_decide_eq_true (by kernel_rfl)) k0 bel lt0) trodAll_mk0), rfl, bel.frame _, fun h => by cases h⟩

set_option maxRecDepth 100000 in
theorem kindTells_lifted (os : Os) (started : os.Started) (H : Type) (enc : TypeId × Value → H) (F : Stop.Interp) :
    ReturnsInHanded {} Tryd.checked os 4 .any ((OpenSpec.ofChange Rows.kindTellsSpec).preRow enc Tryd.prog Tryd.f4 Rows.kindTellsRow.domain false Rows.kindTellsRow.laid) (((OpenSpec.ofChange Rows.kindTellsSpec).at F).post enc Tryd.prog Tryd.f4 false true false false) := by
  obtain ⟨x, hx⟩ := kindTells_reads os enc
  refine returnsInHanded_of_row (C := Tryd.checked) (s := OpenSpec.ofChange Rows.kindTellsSpec) own started (by kernel_rfl) Tryd.func4
    (witness_row_at (enc := enc) (C := Tryd.checked) false (laidWorld os) #[.agg #[.int .i64 0, .string ⟨#[]⟩, .int .i64 0, .string ⟨#[]⟩]] rfl (by kernel_rfl) (by kernel_rfl) (by kernel_rfl)
      (OpenSpec.preRow_of_cond 8 hx (by kernel_rfl) (fun k hk => by cases hk) (by kernel_rfl) (kindTells_laid os))) ?_
  intro W base args ds gs before hval hW _ _ _ hL _ _
  exact kindTells_contract H enc W base args ds gs before hval hW hL

theorem kindTells_said : Rows.KindTellsSaid :=
  OpenClaim.holds_of_cond 4 Tryd.f4 rfl rfl rfl rfl rfl rfl rfl ⟨rfl, rfl, rfl, rfl, rfl⟩ rfl rfl rfl rfl rfl (by kernel_rfl) Tryd.func4 (by kernel_rfl)
    (of_decide_eq_true (by kernel_rfl)) (by unfold Func.isWrapper; first | (rw [if_pos (by decide +kernel)]; kernel_rfl) | (rw [if_neg (by decide +kernel)]; exact ⟨rfl, rfl⟩))
    (fun os started H enc _ F => by rw [OpenClaim.pre_eq_preRow]; exact kindTells_lifted os started H enc F)

theorem kindTells_plain (f : FuncId) (fn : Func) (hf : Tryd.pinned.checked.prog.funcNamed "caulker/caulkerlaw10.KindTells" = some f) (hfn : Tryd.pinned.checked.prog.funcs[f]? = some fn) :
    false = Tryd.pinned.checked.prog.looks [] ∧ ∀ (j : Nat) t, fn.params[j]? = some t → Tryd.pinned.checked.prog.wantsStandIn t = false := by
  obtain rfl : f = 4 := Option.some.inj ((show Tryd.prog.funcNamed "caulker/caulkerlaw10.KindTells" = some 4 by kernel_rfl).symm.trans hf) |>.symm
  obtain rfl : fn = Tryd.f4 := (Option.some.inj (Tryd.func4.symm.trans hfn)).symm
  refine ⟨by kernel_rfl, fun j t ht => ?_⟩
  rw [Tryd.params4] at ht
  have hm := Array.mem_of_getElem? ht
  simp only [List.mem_toArray, List.mem_cons, List.not_mem_nil, or_false] at hm
  rcases hm with rfl
  · exact (show Tryd.prog.wantsStandIn 24 = false by kernel_rfl)

/-- THE CARD. -/
theorem kindTells_proved : Rows.KindTellsCardSaid :=
  Claim7.holds_tied_plain_at .later [] _ _ _ _ kindTells_said (fun _ h => by cases h) (by kernel_rfl) (fun _ h => by cases h) kindTells_row_tie rfl ⟨rfl, rfl⟩ (by kernel_rfl) rfl kindTells_plain (by kernel_rfl)
end Go.Proofs.YtdkpmpkoelckoaaDoor
