/- For any three types, KindOrder returns true and leaves its arguments as they were: to have fewer marks is an order. -/
import Derived.Test.YtdkpmpkoelckoaaDoorTyOA
import Derived.Test.YtdkpmpkoelckoaaDoorTyFrame
namespace Go.Proofs.YtdkpmpkoelckoaaDoor
open Go.ChangeShapes Go.WideShapes Go.ChangeAt Go.RowKit
open Go.ChangeMaps (open_string shut_string)
set_option linter.unusedVariables false

theorem less_alike {B : Int} {N : ByteArray} {D : Int} {M : ByteArray} {B' : Int} {N' : ByteArray} {D' : Int} {M' : ByteArray} (h : lessB B N D M B' N' D' M' = true) : alikeB B N D M B' N' D' M' = true := by
  unfold lessB at h
  rw [Bool.and_eq_true] at h
  exact h.1
theorem ko_any (B : Int) (N : ByteArray) (D : Int) (M : ByteArray) (sN : N.size ≤ maxLen) (sM : M.size ≤ maxLen) (B' : Int) (N' : ByteArray) (D' : Int) (M' : ByteArray) (sN' : N'.size ≤ maxLen) (sM' : M'.size ≤ maxLen) (B2 : Int) (N2 : ByteArray) (D2 : Int) (M2 : ByteArray) (sN2 : N2.size ≤ maxLen) (sM2 : M2.size ≤ maxLen) (w : World) :
    Calls Tryd.prog 8 #[.agg #[.int .i64 B, .string N, .int .i64 D, .string M], .agg #[.int .i64 B', .string N', .int .i64 D', .string M'], .agg #[.int .i64 B2, .string N2, .int .i64 D2, .string M2]] w fun e w' => e = .returned (.bool true) ∧ Below w.heap.size w w' := by
  cases hs : (sm (B, N, D, M) && (sm (B', N', D', M') && sm (B2, N2, D2, M2)))
  · exact ko_big B N D M B' N' D' M' B2 N2 D2 M2 w sN sM sN' sM' sN2 sM2 hs
  · rw [Bool.and_eq_true, Bool.and_eq_true] at hs
    obtain ⟨tN, tM⟩ := sm_sizes hs.1
    obtain ⟨tN', tM'⟩ := sm_sizes hs.2.1
    obtain ⟨tN2, tM2⟩ := sm_sizes hs.2.2
    cases hx : lessB B N D M B' N' D' M'
    · cases ha : allB B N D M
      · exact ko_0f B N D M B' N' D' M' B2 N2 D2 M2 w tN tM tN' tM' tN2 tM2 ha hx
      · exact ko_0t B N D M B' N' D' M' B2 N2 D2 M2 w tN tM tN' tM' tN2 tM2 ha hx
    · have hal := less_alike hx
      obtain ⟨rfl, rfl, rfl, d, rfl, hd, hm, hm'⟩ := alike_yes hal
      have hxp := hx
      rw [less_parts] at hxp
      simp only [Bool.and_eq_true] at hxp
      obtain ⟨⟨ha, hb⟩, hf⟩ := hxp
      cases hy : lessB B' N' d M' B' N' d M
      · cases hz : lessB B' N' d M' B2 N2 D2 M2
        · exact ko_ff B' N' d M M' B2 N2 D2 M2 w tN tM tM' tN2 tM2 ha hx hy hz
        · obtain ⟨rfl, rfl, rfl, -⟩ := alike_yes (less_alike hz)
          refine ko_ft B2 N2 d M M' M2 w tN tM tM' tM2 ha hx hy hz ?_
          have hzp := hz
          rw [less_parts] at hzp ⊢
          simp only [Bool.and_eq_true] at hzp ⊢
          exact ⟨⟨ha, hzp.1.2⟩, few_trans hf hzp.2⟩
      · have hyp := hy
        rw [less_parts] at hyp
        simp only [Bool.and_eq_true] at hyp
        obtain rfl := few_anti hm hm' hf hyp.2
        cases hz : lessB B' N' d M B2 N2 D2 M2
        · exact ko_tf B' N' d M B2 N2 D2 M2 w tN tM tN2 tM2 ha hz
        · obtain ⟨rfl, rfl, rfl, -⟩ := alike_yes (less_alike hz)
          exact ko_tt B2 N2 d M M2 w tN tM tM2 ha hz hz

theorem kindOrder_laid (os : Os) : laidMet Tryd.prog Rows.kindOrderRow.laid ((laidWorld os).forCall (fun _ _ => 0) ⟨#[], #[.agg #[.int .i64 0, .string ⟨#[]⟩, .int .i64 0, .string ⟨#[]⟩], .agg #[.int .i64 0, .string ⟨#[]⟩, .int .i64 0, .string ⟨#[]⟩], .agg #[.int .i64 0, .string ⟨#[]⟩, .int .i64 0, .string ⟨#[]⟩]], []⟩).memory :=
  laidMet_of_run' 40 (by kernel_rfl) (by kernel_rfl)
theorem kindOrder_reads (os : Os) {H : Type} (enc : TypeId × Value → H) : ∃ x, DataW.whole enc Tryd.prog ((laidWorld os).forCall (fun _ _ => 0) ⟨#[], #[.agg #[.int .i64 0, .string ⟨#[]⟩, .int .i64 0, .string ⟨#[]⟩], .agg #[.int .i64 0, .string ⟨#[]⟩, .int .i64 0, .string ⟨#[]⟩], .agg #[.int .i64 0, .string ⟨#[]⟩, .int .i64 0, .string ⟨#[]⟩]], []⟩).memory Tryd.f8.params.toList Rows.kindOrderSpec.vars false (#[.agg #[.int .i64 0, .string ⟨#[]⟩, .int .i64 0, .string ⟨#[]⟩], .agg #[.int .i64 0, .string ⟨#[]⟩, .int .i64 0, .string ⟨#[]⟩], .agg #[.int .i64 0, .string ⟨#[]⟩, .int .i64 0, .string ⟨#[]⟩]] : Array Value).toList 8 = some x :=
  Option.isSome_iff_exists.1 (by kernel_rfl)

set_option maxRecDepth 100000 in
theorem kindOrder_contract (H : Type) (enc : TypeId × Value → H) (W : World) (base : Nat) (args : Array Value) (ds gs : List (DataW H)) (before : List MemPlace)
    (hval0 : ∀ (j : Nat) t v, Tryd.f8.params[j]? = some t → args[j]? = some v → Value.okWide Tryd.prog W .any base t v)
    (hW : DataW.Whole enc Tryd.prog Tryd.f8.params.toList Rows.kindOrderSpec.vars false W args.toList ds gs before) (hL : laidMetH Tryd.prog Rows.kindOrderRow.laid W) :
    Calls Tryd.prog 8 args W fun e W' => ∃ v, e = .returned v ∧ Rows.kindOrderSpec.post enc Tryd.prog Tryd.f8 false true false false W args v W' := by
  have hval : ∀ (j : Nat) t v, Tryd.f8.params[j]? = some t → args[j]? = some v → Value.okWide Tryd.prog W .any base t v := hval0
  have hW' := hW
  obtain ⟨p, q, hA0, hV, rfl, hfz, hnd⟩ := hW
  have hA : DataW.TrodAll enc Tryd.prog W 0 (fun _ => true) true Tryd.f8.params.toList args.toList ds p := hA0
  rw [Tryd.params8] at hA hval
  obtain ⟨v0, vs0, d0, ds0, p0, q0, hargs, rfl, rfl, h0, r0⟩ := trodAll_cons hA
  obtain ⟨v1, vs1, d1, ds1, p1, q1, rfl, rfl, rfl, h1, r1⟩ := trodAll_cons r0
  obtain ⟨v2, vs2, d2, ds2, p2, q2, rfl, rfl, rfl, h2, r2⟩ := trodAll_cons r1
  obtain ⟨rfl, rfl, rfl⟩ := trodAll_nil r2
  obtain rfl : args = #[v0, v1, v2] := by cases args; simp_all
  obtain ⟨rfl, rfl⟩ := trodVars_none hV
  have k0 := h0
  have lt0 : ∀ x ∈ p0, x.block < W.heap.size := by obtain ⟨m, hm⟩ := k0; exact DataW.trod_lt m _ _ _ hm
  obtain ⟨B0, N0, D0, M0, sN0, sM0, rfl⟩ := open_type Tryd.underlying24 Tryd.underlying3 Tryd.underlying9 (by kernel_rfl) (by kernel_rfl) rfl rfl rfl rfl (hval 0 24 v0 rfl rfl) h0
  have k1 := h1
  have lt1 : ∀ x ∈ p1, x.block < W.heap.size := by obtain ⟨m, hm⟩ := k1; exact DataW.trod_lt m _ _ _ hm
  obtain ⟨B1, N1, D1, M1, sN1, sM1, rfl⟩ := open_type Tryd.underlying24 Tryd.underlying3 Tryd.underlying9 (by kernel_rfl) (by kernel_rfl) rfl rfl rfl rfl (hval 1 24 v1 rfl rfl) h1
  have k2 := h2
  have lt2 : ∀ x ∈ p2, x.block < W.heap.size := by obtain ⟨m, hm⟩ := k2; exact DataW.trod_lt m _ _ _ hm
  obtain ⟨B2, N2, D2, M2, sN2, sM2, rfl⟩ := open_type Tryd.underlying24 Tryd.underlying3 Tryd.underlying9 (by kernel_rfl) (by kernel_rfl) rfl rfl rfl rfl (hval 2 24 v2 rfl rfl) h2
  clear hA0 hval0
  refine (ko_any B0 N0 D0 M0 sN0 sM0 B1 N1 D1 M1 sN1 sM1 B2 N2 D2 M2 sN2 sM2 W).mono fun e W' ⟨he, bel⟩ => ?_
  subst he
  exact ⟨_, rfl, _, _, _, [], _, [], hW', trodAll_mk1 (shut_bool Tryd.underlying4 _), (trodAll_cons_mk (Below.trod laidOut (by kernel_rfl) (of_decide_eq_true (by kernel_rfl)) k0 bel lt0) (trodAll_cons_mk (Below.trod laidOut (by kernel_rfl) (of_decide_eq_true (by kernel_rfl)) k1 bel lt1) (trodAll_cons_mk (Below.trod laidOut (by kernel_rfl) (of_decide_eq_true (by kernel_rfl)) k2 bel lt2) trodAll_mk0))), rfl, bel.frame _, fun h => by cases h⟩

set_option maxRecDepth 100000 in
theorem kindOrder_lifted (os : Os) (started : os.Started) (H : Type) (enc : TypeId × Value → H) (F : Stop.Interp) :
    ReturnsInHanded {} Tryd.checked os 8 .any ((OpenSpec.ofChange Rows.kindOrderSpec).preRow enc Tryd.prog Tryd.f8 Rows.kindOrderRow.domain false Rows.kindOrderRow.laid) (((OpenSpec.ofChange Rows.kindOrderSpec).at F).post enc Tryd.prog Tryd.f8 false true false false) := by
  obtain ⟨x, hx⟩ := kindOrder_reads os enc
  refine returnsInHanded_of_row (C := Tryd.checked) (s := OpenSpec.ofChange Rows.kindOrderSpec) own started (by kernel_rfl) Tryd.func8
    (witness_row_at (enc := enc) (C := Tryd.checked) false (laidWorld os) #[.agg #[.int .i64 0, .string ⟨#[]⟩, .int .i64 0, .string ⟨#[]⟩], .agg #[.int .i64 0, .string ⟨#[]⟩, .int .i64 0, .string ⟨#[]⟩], .agg #[.int .i64 0, .string ⟨#[]⟩, .int .i64 0, .string ⟨#[]⟩]] rfl (by kernel_rfl) (by kernel_rfl) (by kernel_rfl)
      (OpenSpec.preRow_of_cond 8 hx (by kernel_rfl) (fun k hk => by cases hk) (by kernel_rfl) (kindOrder_laid os))) ?_
  intro W base args ds gs before hval hW _ _ _ hL _ _
  exact kindOrder_contract H enc W base args ds gs before hval hW hL

theorem kindOrder_said : Rows.KindOrderSaid :=
  OpenClaim.holds_of_cond 8 Tryd.f8 rfl rfl rfl rfl rfl rfl rfl ⟨rfl, rfl, rfl, rfl, rfl⟩ rfl rfl rfl rfl rfl (by kernel_rfl) Tryd.func8 (by kernel_rfl)
    (of_decide_eq_true (by kernel_rfl)) (by unfold Func.isWrapper; first | (rw [if_pos (by decide +kernel)]; kernel_rfl) | (rw [if_neg (by decide +kernel)]; exact ⟨rfl, rfl⟩))
    (fun os started H enc _ F => by rw [OpenClaim.pre_eq_preRow]; exact kindOrder_lifted os started H enc F)

theorem kindOrder_plain (f : FuncId) (fn : Func) (hf : Tryd.pinned.checked.prog.funcNamed "caulker/caulkerlaw10.KindOrder" = some f) (hfn : Tryd.pinned.checked.prog.funcs[f]? = some fn) :
    false = Tryd.pinned.checked.prog.looks [] ∧ ∀ (j : Nat) t, fn.params[j]? = some t → Tryd.pinned.checked.prog.wantsStandIn t = false := by
  obtain rfl : f = 8 := Option.some.inj ((show Tryd.prog.funcNamed "caulker/caulkerlaw10.KindOrder" = some 8 by kernel_rfl).symm.trans hf) |>.symm
  obtain rfl : fn = Tryd.f8 := (Option.some.inj (Tryd.func8.symm.trans hfn)).symm
  refine ⟨by kernel_rfl, fun j t ht => ?_⟩
  rw [Tryd.params8] at ht
  have hm := Array.mem_of_getElem? ht
  simp only [List.mem_toArray, List.mem_cons, List.not_mem_nil, or_false] at hm
  rcases hm with rfl | rfl | rfl
  · exact (show Tryd.prog.wantsStandIn 24 = false by kernel_rfl)
  · exact (show Tryd.prog.wantsStandIn 24 = false by kernel_rfl)
  · exact (show Tryd.prog.wantsStandIn 24 = false by kernel_rfl)

/-- THE CARD. -/
theorem kindOrder_proved : Rows.KindOrderCardSaid :=
  Claim7.holds_tied_plain_at .later [] _ _ _ _ kindOrder_said (fun _ h => by cases h) (by kernel_rfl) (fun _ h => by cases h) kindOrder_row_tie rfl ⟨rfl, rfl⟩ (by kernel_rfl) rfl kindOrder_plain (by kernel_rfl)
end Go.Proofs.YtdkpmpkoelckoaaDoor
