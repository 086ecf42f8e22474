/- For every type, layer and mark, KindMarks returns true and leaves its arguments as they were: a type with another mark is that type, or isn't there, and why. -/
import Derived.Test.YtdkpmpkoelckoaaDoorTyMB
import Derived.Test.YtdkpmpkoelckoaaDoorTyMC
import Derived.Test.YtdkpmpkoelckoaaDoorTyMD
import Derived.Test.YtdkpmpkoelckoaaDoorTyFrame
namespace Go.Proofs.YtdkpmpkoelckoaaDoor
open Go.ChangeShapes Go.WideShapes Go.ChangeAt Go.RowKit
open Go.ChangeMaps (open_string shut_string)
set_option linter.unusedVariables false

theorem u8_of {a : Int} (h : (Lit.int .u8 a).wf = true) : ∃ m : UInt8, a = (m.toNat : Int) := by
  have h3 : IntKind.u8.min ≤ a ∧ a ≤ IntKind.u8.max := by simpa [Lit.wf] using h
  have h2 : 0 ≤ a ∧ a ≤ 255 := h3
  refine ⟨UInt8.ofNat a.toNat, ?_⟩
  show a = ((a.toNat % 256 : Nat) : Int)
  omega
theorem km_any (B : Int) (N : ByteArray) (D : Int) (M : ByteArray) (sN : N.size ≤ maxLen) (sM : M.size ≤ maxLen) (l : Int) (wl : (Lit.int .i64 l).wf = true) (a : Int) (wa : (Lit.int .u8 a).wf = true) (w : World) :
    Calls Tryd.prog 6 #[.agg #[.int .i64 B, .string N, .int .i64 D, .string M], .int .i64 l, .int .u8 a] w fun e w' => e = .returned (.bool true) ∧ Below w.heap.size w w' := by
  obtain ⟨m, rfl⟩ := u8_of wa
  cases hs : sm (B, N, D, M)
  · exact km_big B N D M l m w sN sM hs
  · obtain ⟨tN, tM⟩ := sm_sizes hs
    cases hr : rightB B N D M
    · exact km_bad B N D M l m w tN tM hr
    · obtain ⟨d, rfl, hd, hm⟩ := right_bounds hr
      by_cases hin : 0 ≤ l ∧ l ≤ d
      · obtain ⟨n, rfl⟩ : ∃ n : Nat, l = n := ⟨l.toNat, by omega⟩
        have hn : n ≤ d := by omega
        cases hx : rightB B N d (putM M d n m)
        · by_cases hq : d = 0 ∧ ¬ B = 5
          · exact km_no_noref B N d M n m w tN tM hr hn hx hq
          · cases hy : rightB B N d (putM M d d m)
            · by_cases h0 : 0 < d
              · exact km_no_rDno B N d M n m w tN tM hr hn hx h0 hy
              · exact km_no_r0no B N d M n m w tN tM hr hn hx (by omega) hy
            · by_cases h0 : 0 < d
              · exact km_no_rDyes B N d M n m w tN tM hr hn hx h0 hy
              · exact km_no_r0yes B N d M n m w tN tM hr hn hx (by omega) hy
        · by_cases hq : d = 0 ∧ ¬ B = 5
          · exact km_yes_noref B N d M n m w tN tM hr hn hx hq
          · cases hy : rightB B N d (putM M d d m)
            · by_cases h0 : 0 < d
              · exact km_yes_rDno B N d M n m w tN tM hr hn hx h0 hy
              · exact km_yes_r0no B N d M n m w tN tM hr hn hx (by omega) hy
            · by_cases h0 : 0 < d
              · exact km_yes_rDyes B N d M n m w tN tM hr hn hx h0 hy
              · exact km_yes_r0yes B N d M n m w tN tM hr hn hx (by omega) hy
      · have ho : l < 0 ∨ (d : Int) < l := by omega
        by_cases hq : d = 0 ∧ ¬ B = 5
        · exact km_out_noref B N d M l m w tN tM hr ho hq
        · cases hy : rightB B N d (putM M d d m)
          · by_cases h0 : 0 < d
            · exact km_out_rDno B N d M l m w tN tM hr ho h0 hy
            · exact km_out_r0no B N d M l m w tN tM hr ho (by omega) hy
          · by_cases h0 : 0 < d
            · exact km_out_rDyes B N d M l m w tN tM hr ho h0 hy
            · exact km_out_r0yes B N d M l m w tN tM hr ho (by omega) hy

theorem kindMarks_laid (os : Os) : laidMet Tryd.prog Rows.kindMarksRow.laid ((laidWorld os).forCall (fun _ _ => 0) ⟨#[], #[.agg #[.int .i64 0, .string ⟨#[]⟩, .int .i64 0, .string ⟨#[]⟩], .int .i64 0, .int .u8 0], []⟩).memory :=
  laidMet_of_run' 40 (by kernel_rfl) (by kernel_rfl)
theorem kindMarks_reads (os : Os) {H : Type} (enc : TypeId × Value → H) : ∃ x, DataW.whole enc Tryd.prog ((laidWorld os).forCall (fun _ _ => 0) ⟨#[], #[.agg #[.int .i64 0, .string ⟨#[]⟩, .int .i64 0, .string ⟨#[]⟩], .int .i64 0, .int .u8 0], []⟩).memory Tryd.f6.params.toList Rows.kindMarksSpec.vars false (#[.agg #[.int .i64 0, .string ⟨#[]⟩, .int .i64 0, .string ⟨#[]⟩], .int .i64 0, .int .u8 0] : Array Value).toList 8 = some x :=
  Option.isSome_iff_exists.1 (by kernel_rfl)

set_option maxRecDepth 100000 in
theorem kindMarks_contract (H : Type) (enc : TypeId × Value → H) (W : World) (base : Nat) (args : Array Value) (ds gs : List (DataW H)) (before : List MemPlace)
    (hval0 : ∀ (j : Nat) t v, Tryd.f6.params[j]? = some t → args[j]? = some v → Value.okWide Tryd.prog W .any base t v)
    (hW : DataW.Whole enc Tryd.prog Tryd.f6.params.toList Rows.kindMarksSpec.vars false W args.toList ds gs before) (hL : laidMetH Tryd.prog Rows.kindMarksRow.laid W) :
    Calls Tryd.prog 6 args W fun e W' => ∃ v, e = .returned v ∧ Rows.kindMarksSpec.post enc Tryd.prog Tryd.f6 false true false false W args v W' := by
  have hval : ∀ (j : Nat) t v, Tryd.f6.params[j]? = some t → args[j]? = some v → Value.okWide Tryd.prog W .any base t v := hval0
  have hW' := hW
  obtain ⟨p, q, hA0, hV, rfl, hfz, hnd⟩ := hW
  have hA : DataW.TrodAll enc Tryd.prog W 0 (fun _ => true) true Tryd.f6.params.toList args.toList ds p := hA0
  rw [Tryd.params6] at hA hval
  obtain ⟨v0, vs0, d0, ds0, p0, q0, hargs, rfl, rfl, h0, r0⟩ := trodAll_cons hA
  obtain ⟨v1, vs1, d1, ds1, p1, q1, rfl, rfl, rfl, h1, r1⟩ := trodAll_cons r0
  obtain ⟨v2, vs2, d2, ds2, p2, q2, rfl, rfl, rfl, h2, r2⟩ := trodAll_cons r1
  obtain ⟨rfl, rfl, rfl⟩ := trodAll_nil r2
  obtain rfl : args = #[v0, v1, v2] := by cases args; simp_all
  obtain ⟨rfl, rfl⟩ := trodVars_none hV
  have k0 := h0
  have lt0 : ∀ x ∈ p0, x.block < W.heap.size := by obtain ⟨m, hm⟩ := k0; exact DataW.trod_lt m _ _ _ hm
  obtain ⟨B0, N0, D0, M0, sN0, sM0, rfl⟩ := open_type Tryd.underlying24 Tryd.underlying3 Tryd.underlying9 (by kernel_rfl) (by kernel_rfl) rfl rfl rfl rfl (hval 0 24 v0 rfl rfl) h0
  obtain ⟨a1, rfl, rfl, rfl, w1⟩ := open_int Tryd.underlying3 (hval 1 3 v1 rfl rfl) h1
  obtain ⟨a2, rfl, rfl, rfl, w2⟩ := open_int Tryd.underlying5 (hval 2 5 v2 rfl rfl) h2
  clear hA0 hval0
  refine (km_any B0 N0 D0 M0 sN0 sM0 a1 w1 a2 w2 W).mono fun e W' ⟨he, bel⟩ => ?_
  subst he
  exact ⟨_, rfl, _, _, _, [], _, [], hW', trodAll_mk1 (shut_bool Tryd.underlying4 _), (trodAll_cons_mk (Below.trod laidOut (by kernel_rfl) (of_decide_eq_true (by kernel_rfl)) k0 bel lt0) (trodAll_cons_mk (shut_int Tryd.underlying3 w1) (trodAll_cons_mk (shut_int Tryd.underlying5 w2) trodAll_mk0))), rfl, bel.frame _, fun h => by cases h⟩

set_option maxRecDepth 100000 in
theorem kindMarks_lifted (os : Os) (started : os.Started) (H : Type) (enc : TypeId × Value → H) (F : Stop.Interp) :
    ReturnsInHanded {} Tryd.checked os 6 .any ((OpenSpec.ofChange Rows.kindMarksSpec).preRow enc Tryd.prog Tryd.f6 Rows.kindMarksRow.domain false Rows.kindMarksRow.laid) (((OpenSpec.ofChange Rows.kindMarksSpec).at F).post enc Tryd.prog Tryd.f6 false true false false) := by
  obtain ⟨x, hx⟩ := kindMarks_reads os enc
  refine returnsInHanded_of_row (C := Tryd.checked) (s := OpenSpec.ofChange Rows.kindMarksSpec) own started (by kernel_rfl) Tryd.func6
    (witness_row_at (enc := enc) (C := Tryd.checked) false (laidWorld os) #[.agg #[.int .i64 0, .string ⟨#[]⟩, .int .i64 0, .string ⟨#[]⟩], .int .i64 0, .int .u8 0] rfl (by kernel_rfl) (by kernel_rfl) (by kernel_rfl)
      (OpenSpec.preRow_of_cond 8 hx (by kernel_rfl) (fun k hk => by cases hk) (by kernel_rfl) (kindMarks_laid os))) ?_
  intro W base args ds gs before hval hW _ _ _ hL _ _
  exact kindMarks_contract H enc W base args ds gs before hval hW hL

theorem kindMarks_said : Rows.KindMarksSaid :=
  OpenClaim.holds_of_cond 6 Tryd.f6 rfl rfl rfl rfl rfl rfl rfl ⟨rfl, rfl, rfl, rfl, rfl⟩ rfl rfl rfl rfl rfl (by kernel_rfl) Tryd.func6 (by kernel_rfl)
    (of_decide_eq_true (by kernel_rfl)) (by unfold Func.isWrapper; first | (rw [if_pos (by decide +kernel)]; kernel_rfl) | (rw [if_neg (by decide +kernel)]; exact ⟨rfl, rfl⟩))
    (fun os started H enc _ F => by rw [OpenClaim.pre_eq_preRow]; exact kindMarks_lifted os started H enc F)

theorem kindMarks_plain (f : FuncId) (fn : Func) (hf : Tryd.pinned.checked.prog.funcNamed "caulker/caulkerlaw10.KindMarks" = some f) (hfn : Tryd.pinned.checked.prog.funcs[f]? = some fn) :
    false = Tryd.pinned.checked.prog.looks [] ∧ ∀ (j : Nat) t, fn.params[j]? = some t → Tryd.pinned.checked.prog.wantsStandIn t = false := by
  obtain rfl : f = 6 := Option.some.inj ((show Tryd.prog.funcNamed "caulker/caulkerlaw10.KindMarks" = some 6 by kernel_rfl).symm.trans hf) |>.symm
  obtain rfl : fn = Tryd.f6 := (Option.some.inj (Tryd.func6.symm.trans hfn)).symm
  refine ⟨by kernel_rfl, fun j t ht => ?_⟩
  rw [Tryd.params6] at ht
  have hm := Array.mem_of_getElem? ht
  simp only [List.mem_toArray, List.mem_cons, List.not_mem_nil, or_false] at hm
  rcases hm with rfl | rfl | rfl
  · exact (show Tryd.prog.wantsStandIn 24 = false by kernel_rfl)
  · exact (show Tryd.prog.wantsStandIn 3 = false by kernel_rfl)
  · exact (show Tryd.prog.wantsStandIn 5 = false by kernel_rfl)

/-- THE CARD. -/
theorem kindMarks_proved : Rows.KindMarksCardSaid :=
  Claim7.holds_tied_plain_at .later [] _ _ _ _ kindMarks_said (fun _ h => by cases h) (by kernel_rfl) (fun _ h => by cases h) kindMarks_row_tie rfl ⟨rfl, rfl⟩ (by kernel_rfl) rfl kindMarks_plain (by kernel_rfl)
end Go.Proofs.YtdkpmpkoelckoaaDoor
