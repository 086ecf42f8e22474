/- LexNames and LexQuotes: the walks. -/
import Derived.Test.YtgcokjobnpjhhaaLexM
import Derived.Test.YtgcokjobnpjhhaaLexK
namespace Go.Proofs.Ytgcokjobnpjhhaa
open Go Go.RowKit
set_option linter.unusedVariables false

theorem name_word (x : ByteArray) (h0 : 0 < x.size) : nameS x = (decide (wordG (byS x) x.size 0 = x.size) && decide (x.size ≤ 64) && !keptS x) := by
  unfold nameS wordG
  rw [decide_eq_true h0]
  cases hl : letterB (byS x 0)
  · rw [if_neg (by simp), decide_eq_false (show ¬ 0 = x.size by omega)]; simp
  · rw [if_pos ⟨h0, rfl⟩, Nat.sub_zero]
    cases decide (x.size ≤ 64) <;> cases decide (skipG inWordB (byS x) x.size 0 = x.size) <;> simp

set_option maxHeartbeats 4000000 in
theorem lexNames_any (x : ByteArray) (hs : x.size ≤ maxLen) (w : World) :
    Calls Try.prog 6 #[.string x] w fun e w' => e = .returned (.bool true) ∧ Below w.heap.size w w' := by
  have HM := Lib.hid hs
  unfold maxLen at hs
  by_cases h200 : 200 < x.size
  · have i0 : (200 : Int) < (x.size : Int) := by omega
    clear h200
    go_enter Try.func6, Try.ntmps6
    go_wp2_with (go_at_call 9; refine (cuts_any _).mono ?_; rintro e w1 ⟨rfl, h01⟩)
    go_ret
    exact ⟨rfl, h01⟩
  · have i0 : ¬ (200 : Int) < (x.size : Int) := by omega
    have HN := Lib.hid (fun w => name_any x w HM.out)
    have HK := Lib.hid (fun w => kept_any x w)
    have HR := Lib.hid (fun w => rkept_any x w)
    have HW := Lib.hid (fun w => word_any x 0 w (by omega) (Nat.zero_le _))
    by_cases h0 : x.size = 0
    · have he := lstr_empty x h0
      have E := Lib.hid (show nameS x = false by unfold nameS; simp [h0])
      rw [E.out] at HN
      clear h200 h0
      generalize keptS x = k at *
      go_enter Try.func6, Try.ntmps6
      go_wp2_with fail
      refine (cuts_any _).mono ?_
      rintro e w1 ⟨rfl, h01⟩
      have H1 := Lib.hid h01
      clear h01
      go_wp2_with fail
      refine (HK.out _).mono ?_
      rintro e w2 ⟨rfl, rfl⟩
      go_wp2_with fail
      refine (HR.out _).mono ?_
      rintro e w2 ⟨rfl, h12⟩
      have H2 := Lib.hid (after H1.out h12)
      clear h12
      have kk : (k != k) = false := by cases k <;> rfl
      go_wp2_with fail
      refine (HN.out _).mono ?_
      rintro e w3 ⟨rfl, rfl⟩
      go_wp2_with fail
      go_ret
      exact ⟨rfl, H2.out⟩
    · have he := lstr_full x h0
      have HE := Lib.hid (name_word x (by omega))
      generalize wordG (byS x) x.size 0 = a at *
      by_cases ha : a = x.size
      · have t1 : ((a : Int) == (x.size : Int)) = true := by simp; omega
        by_cases h64 : x.size ≤ 64
        · have i2 : (x.size : Int) ≤ 64 := by omega
          have E := Lib.hid (show nameS x = !keptS x by rw [HE.out, decide_eq_true ha, decide_eq_true h64]; rfl)
          rw [E.out] at HN
          clear h200 h0 ha h64 E HE
          generalize keptS x = k at *
          go_enter Try.func6, Try.ntmps6
          go_wp2_with fail
          refine (cuts_any _).mono ?_
          rintro e w1 ⟨rfl, h01⟩
          have H1 := Lib.hid h01
          clear h01
          go_wp2_with fail
          refine (HW.out _).mono ?_
          rintro e w2 ⟨rfl, rfl⟩
          go_wp2_with fail
          refine (HK.out _).mono ?_
          rintro e w2 ⟨rfl, rfl⟩
          go_wp2_with fail
          refine (HR.out _).mono ?_
          rintro e w2 ⟨rfl, h12⟩
          have H2 := Lib.hid (after H1.out h12)
          clear h12
          have kk : (k != k) = false := by cases k <;> rfl
          go_wp2_with fail
          refine (HN.out _).mono ?_
          rintro e w3 ⟨rfl, rfl⟩
          go_wp2_with fail
          refine (HR.out _).mono ?_
          rintro e w4 ⟨rfl, h24⟩
          have H4 := Lib.hid (after H2.out h24)
          clear h24
          go_wp2_with fail
          go_ret
          exact ⟨ret_bo (by cases k <;> rfl), H4.out⟩
        · have i2 : ¬ (x.size : Int) ≤ 64 := by omega
          have E := Lib.hid (show nameS x = false by rw [HE.out, decide_eq_true ha, decide_eq_false h64]; rfl)
          rw [E.out] at HN
          clear h200 h0 ha h64 E HE
          generalize keptS x = k at *
          go_enter Try.func6, Try.ntmps6
          go_wp2_with fail
          refine (cuts_any _).mono ?_
          rintro e w1 ⟨rfl, h01⟩
          have H1 := Lib.hid h01
          clear h01
          go_wp2_with fail
          refine (HW.out _).mono ?_
          rintro e w2 ⟨rfl, rfl⟩
          go_wp2_with fail
          refine (HK.out _).mono ?_
          rintro e w2 ⟨rfl, rfl⟩
          go_wp2_with fail
          refine (HR.out _).mono ?_
          rintro e w2 ⟨rfl, h12⟩
          have H2 := Lib.hid (after H1.out h12)
          clear h12
          have kk : (k != k) = false := by cases k <;> rfl
          go_wp2_with fail
          refine (HN.out _).mono ?_
          rintro e w3 ⟨rfl, rfl⟩
          go_wp2_with fail
          go_ret
          exact ⟨rfl, H2.out⟩
      · have t1 : ((a : Int) == (x.size : Int)) = false := by simp; omega
        have E := Lib.hid (show nameS x = false by rw [HE.out, decide_eq_false ha]; rfl)
        rw [E.out] at HN
        clear h200 h0 ha E HE
        generalize keptS x = k at *
        go_enter Try.func6, Try.ntmps6
        go_wp2_with fail
        refine (cuts_any _).mono ?_
        rintro e w1 ⟨rfl, h01⟩
        have H1 := Lib.hid h01
        clear h01
        go_wp2_with fail
        refine (HW.out _).mono ?_
        rintro e w2 ⟨rfl, rfl⟩
        go_wp2_with fail
        refine (HK.out _).mono ?_
        rintro e w2 ⟨rfl, rfl⟩
        go_wp2_with fail
        refine (HR.out _).mono ?_
        rintro e w2 ⟨rfl, h12⟩
        have H2 := Lib.hid (after H1.out h12)
        clear h12
        have kk : (k != k) = false := by cases k <;> rfl
        go_wp2_with fail
        refine (HN.out _).mono ?_
        rintro e w3 ⟨rfl, rfl⟩
        go_wp2_with fail
        go_ret
        exact ⟨rfl, H2.out⟩

end Go.Proofs.Ytgcokjobnpjhhaa
