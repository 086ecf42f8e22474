/- SpanGaps holds: for every size and every list of spans the call returns true, and makes only new memory. No condition. -/
import Derived.Test.YtonohpbkbifhnaaGapsY
namespace Go.Proofs.Ytonohpbkbifhnaa
open Go.ChangeShapes Go.WideShapes Go.ChangeAt Go.RowKit
set_option linter.unusedVariables false

theorem gapsl_zero (m cap : Nat) (src : Option Addr) (w : World) (hsrc : src = none → cap = 0) (hm : m ≤ 3000) :
    Calls Try.prog 8 #[.int .i64 m, .slice src 0 cap] w fun e w' => e = .returned (.bool true) ∧ Below w.heap.size w w' := by
  refine gapsl_yes m 0 cap src [] w rfl (Nat.zero_le _) (by omega) hm rfl rfl (Lib.hid (fun h => absurd h (by omega))) (Lib.hid (fun w1 _ => ?_)) (Lib.hid (fun w1 _ => ?_)) (Lib.hid (fun w1 _ => ?_))
  · refine (gaps_zero (m : Int) src cap w1 hsrc (chkB_iff.2 ⟨⟨by omega, by omega, by omega⟩, by omega, by omega⟩)).mono ?_
    rintro e w2 ⟨h, v, w3, rfl, _, hg⟩
    exact ⟨h, v, rfl, _, hg.2⟩
  · cases src with
    | none => rw [hsrc rfl]; exact sorted_none w1
    | some a => exact sorted_empty a cap w1
  · cases src with
    | none => exact .inl ⟨by rw [hsrc rfl], rfl⟩
    | some a => exact .inr ⟨a, 0, cap, rfl, rfl, fun j u hj => by simp [flat] at hj⟩

theorem gapsl_any {w : World} (m : Int) (_ : (Lit.int .i64 m).wf = true) (v : Value) (l : List (Int × Int)) (h : Spans w v l) :
    Calls Try.prog 8 #[.int .i64 m, v] w fun e w' => e = .returned (.bool true) ∧ Below w.heap.size w w' := by
  have zero : ∀ (src : Option Addr) (cap : Nat), (src = none → cap = 0) → Calls Try.prog 8 #[.int .i64 m, .slice src 0 cap] w fun e w' => e = .returned (.bool true) ∧ Below w.heap.size w w' := by
    intro src cap hs
    by_cases h1 : 3000 < m
    · exact gapsl_far m src 0 cap w (Nat.zero_le _) (.inr h1)
    · by_cases h2 : m < 0
      · exact gapsl_neg m src 0 cap w (by omega) h2
      · obtain ⟨M, rfl⟩ := Int.eq_ofNat_of_zero_le (show 0 ≤ m by omega)
        exact gapsl_zero M cap src w hs (by omega)
  rcases h with ⟨rfl, rfl⟩ | ⟨a, cap, rfl, rfl⟩ | ⟨b, off, n, cap, rfl, hl, h1, hn, hcap, hb, hr⟩
  · exact zero none 0 (fun _ => rfl)
  · exact zero (some a) cap (fun h => by cases h)
  · by_cases hf : 60 < n ∨ 3000 < m
    · exact gapsl_far m _ n cap w (by omega) hf
    · by_cases h2 : m < 0
      · exact gapsl_neg m _ n cap w (by omega) h2
      · obtain ⟨M, rfl⟩ := Int.eq_ofNat_of_zero_le (show 0 ≤ m by omega)
        cases hc : chkTo (M : Int) l
        · exact gapsl_out M b off n cap l w hl h1 hn hcap hb hr (by omega) (by omega) (by omega) hc
        · cases hs : sortedB l
          · exact gapsl_mix M b off n cap l w hl h1 hn hcap hb hr (by omega) (by omega) (by omega) hc hs
          · refine gapsl_yes M n cap _ l w hl hn (by omega) (by omega) hc hs (Lib.hid (fun _ => ⟨b, off, rfl, hb, hr⟩)) (Lib.hid (fun w1 hw => ?_)) (Lib.hid (fun w1 hw => ?_)) (Lib.hid (fun w1 hw => SrcIs.at hl (hr.below hw hb)))
            · refine (gaps_some (M : Int) b off n cap l w1 hl h1 hn hcap (Nat.lt_of_lt_of_le hb hw.size) (hr.below hw hb) (by omega) (chkB_iff.2 ⟨⟨by omega, by omega, by omega⟩, by omega, by omega⟩)).mono ?_
              rintro e w2 ⟨h12, hway⟩
              rcases hway with ⟨h, _⟩ | ⟨_, h, _⟩ | ⟨_, _, v, w3, h, _, hg⟩
              · exact absurd (hc.symm.trans h) (by simp)
              · exact absurd (hs.symm.trans h) (by simp)
              · exact ⟨h12, v, h, _, hg.2⟩
            · refine (sorted_some b off n cap l w1 hl h1 hn hcap (Nat.lt_of_lt_of_le hb hw.size) (hr.below hw hb)).mono ?_
              rw [hs]
              exact fun e w2 h => h

set_option maxRecDepth 100000 in
theorem spanGaps_lifted (os : Os) (started : os.Started) (H : Type) (enc : TypeId × Value → H) :
    ReturnsInHanded {} Try.checked os 8 .any (Rows.spanGapsSpec.pre6 enc Try.prog Try.f8 Rows.spanGapsRow.domain false) (Rows.spanGapsSpec.post enc Try.prog Try.f8 false true false false) := by
  refine returnsInHanded_of_change (C := Try.checked) own started (by kernel_rfl) Try.func8
    (ChangeSpec.witness6 (enc := enc) (C := Try.checked) false ⟨#[], #[.int .i64 0, .slice none 0 0], []⟩ 8 (by kernel_rfl) (by kernel_rfl) (by kernel_rfl) (by kernel_rfl)) ?_
  intro W base args ds gs before hval0 hW hcnd _
  have hval : ∀ (j : Nat) t v, Try.f8.params[j]? = some t → args[j]? = some v → Value.okWide Try.prog W .any base t v := hval0
  have hW' := hW
  obtain ⟨p, q, hA0, hV, rfl, hfz, hnd⟩ := hW
  have hA : DataW.TrodAll enc Try.prog W 0 (fun _ => true) true Try.f8.params.toList args.toList ds p := hA0
  rw [Try.params8] at hA hval
  obtain ⟨v0, vs0, d0, ds0, p0, q0, hargs, rfl, rfl, h0, r0⟩ := trodAll_cons hA
  obtain ⟨v1, vs1, d1, ds1, p1, q1, rfl, rfl, rfl, h1, r1⟩ := trodAll_cons r0
  obtain ⟨rfl, rfl, rfl⟩ := trodAll_nil r1
  obtain rfl : args = #[v0, v1] := by cases args; simp_all
  obtain ⟨rfl, rfl⟩ := trodVars_none hV
  obtain ⟨a0, rfl, rfl, rfl, w0⟩ := open_int Try.underlying3 (hval 0 3 v0 rfl rfl) h0
  have k1 := h1
  have lt1 : ∀ x ∈ p1, x.block < W.heap.size := by obtain ⟨m, hm⟩ := k1; exact DataW.trod_lt m _ _ _ hm
  obtain ⟨l1, sp1⟩ := open_spans Try.underlying36 Try.underlying24 Try.underlying3 (by kernel_rfl) (by kernel_rfl) rfl rfl (hval 1 36 v1 rfl rfl) h1
  clear hA0 hval0
  refine (gapsl_any a0 w0 v1 l1 sp1).mono fun e W' ⟨he, bel⟩ => ?_
  subst he
  exact ⟨_, rfl, _, _, _, [], _, [], hW', trodAll_mk1 (shut_bool Try.underlying4 _), (trodAll_cons_mk (shut_int Try.underlying3 w0) (trodAll_cons_mk (Below.trod laidOut (by kernel_rfl) (of_decide_eq_true (by kernel_rfl)) k1 bel lt1) trodAll_mk0)), rfl, bel.frame _, fun h => by cases h⟩

theorem spanGaps_over : Rows.spanGapsRow.holds Try.pinned (OpenSpec.ofChange Rows.spanGapsSpec) :=
  OpenClaim.holds_of_wide 8 Try.f8 rfl rfl rfl rfl rfl rfl rfl ⟨rfl, rfl, rfl, rfl, rfl⟩ rfl rfl rfl rfl rfl (by kernel_rfl) Try.func8 (by kernel_rfl)
    (of_decide_eq_true (by kernel_rfl)) (by unfold Func.isWrapper; first | (rw [if_pos (by decide +kernel)]; kernel_rfl) | (rw [if_neg (by decide +kernel)]; exact ⟨rfl, rfl⟩))
    (fun os started H enc _ => spanGaps_lifted os started H enc)

theorem spanGaps_proved : Rows.SpanGapsSaid := spanGaps_over

end Go.Proofs.Ytonohpbkbifhnaa
