/- Contracts of the document's Bare, and of the statements' small. -/
import Derived.Test.YtdkpmpkoelckoaaDoorTyP
namespace Go.Proofs.YtdkpmpkoelckoaaDoor
open Go Go.RowKit
set_option linter.unusedVariables false
set_option linter.unusedSimpArgs false

theorem blank5 (n : Nat) (h : n ≤ 5) : (⟨#[32, 32, 32, 32, 32]⟩ : ByteArray).extract 0 n = blankS n := by
  have : n = 0 ∨ n = 1 ∨ n = 2 ∨ n = 3 ∨ n = 4 ∨ n = 5 := by omega
  rcases this with rfl | rfl | rfl | rfl | rfl | rfl <;> decide +kernel
set_option maxHeartbeats 2000000 in
theorem refB_any (B : Int) (N : ByteArray) (D : Int) (M : ByteArray) (w : World) (hM : M.size ≤ 5) :
    Calls Tryd.prog 24 #[.agg #[.int .i64 B, .string N, .int .i64 D, .string M]] w fun e w' => e = .returned (.agg #[.int .i64 B, .string N, .int .i64 D, .string (blankS M.size)]) ∧ Below w.heap.size w w' := by
  have HB := Lib.hid (blank5 M.size hM)
  have i1 : (M.size : Int) ≤ 5 := by omega
  go_enter Tryd.func24, Tryd.ntmps24
  go_wp2_with fail
  refine bodyPost_ret (v := .agg #[.int .i64 B, .string N, .int .i64 D, .string ((⟨#[32, 32, 32, 32, 32]⟩ : ByteArray).extract 0 M.size)]) (by simp [results, Tryd.results24, go_sem]) rfl ?_
  exact ⟨by rw [HB.out], by repeat (first | exact Below.refl _ _ | apply Below.setCell _ (by first | omega | (simp <;> omega)) | apply Below.alloc _ (by first | omega | (simp <;> omega)))⟩

/-- types, one behind the other in memory -/
abbrev Ty4 := Int × ByteArray × Int × ByteArray
def Row4 (w : World) (b : Nat) (l : List Ty4) : Prop := b < w.heap.size ∧ ∀ i (h : i < l.length), w.cell? ⟨b, i * 4, none⟩ = some (.int .i64 l[i].1) ∧ w.cell? ⟨b, i * 4 + 1, none⟩ = some (.string l[i].2.1) ∧ w.cell? ⟨b, i * 4 + 2, none⟩ = some (.int .i64 l[i].2.2.1) ∧ w.cell? ⟨b, i * 4 + 3, none⟩ = some (.string l[i].2.2.2)
theorem Row4.keep {w w1 : World} {b : Nat} {l : List Ty4} (h : Row4 w b l) (hb : Below w.heap.size w w1) : Row4 w1 b l := by
  obtain ⟨h0, h1⟩ := h
  obtain ⟨hc, -⟩ := bcell hb
  exact ⟨Nat.lt_of_lt_of_le h0 hb.size, fun i hi => by rw [hc _ _ h0, hc _ _ h0, hc _ _ h0, hc _ _ h0]; exact h1 i hi⟩
/-- is a type of a size with which this is tried? -/
def sm (t : Ty4) : Bool := decide (t.2.1.size ≤ 60 ∧ t.2.2.2.size ≤ 60)
theorem sm_take {l : List Ty4} {k : Nat} (hk : k < l.length) (h : (l.take k).all sm = true) (x : sm l[k] = true) : (l.take (k + 1)).all sm = true := by
  rw [List.take_succ_eq_append_getElem hk, List.all_append, h, List.all_cons, x]; rfl
set_option maxHeartbeats 4000000 in
theorem small_any (b : Nat) (l : List Ty4) (w : World) (hl : l.length ≤ 5) (hr : Row4 w b l) (hs : ∀ t ∈ l, t.2.1.size ≤ maxLen ∧ t.2.2.2.size ≤ maxLen) :
    Calls Tryd.prog 15 #[.slice (some ⟨b, 0, none⟩) l.length l.length] w fun e w' => e = .returned (.bool (l.all sm)) ∧ Below w.heap.size w w' := by
  have HR := Lib.hid hr
  have hbl := hr.1
  have HS := Lib.hid hs
  obtain ⟨n, hn⟩ : ∃ n, n = l.length := ⟨_, rfl⟩
  have HN := Lib.hid hn
  rw [← hn] at hl ⊢
  clear hr hn hs
  go_enter Tryd.func15, Tryd.ntmps15
  go_wp2_with fail
  go_loopw [7] (fun i wr => ∃ k : Nat, k ≤ n ∧ i = .int .i64 k ∧ Below w.heap.size w wr ∧ (l.take k).all sm = true) (fun i _ => n - (intOf i).toNat)
  case atStart => exact ⟨0, Nat.zero_le _, rfl, Below.refl _ _, by simp⟩
  case round =>
    obtain ⟨k, hk, rfl, hbel, hall⟩ := hrel
    by_cases hlt : k < n
    · have hkl : k < l.length := by have := HN.out; omega
      have HA := Lib.hid hall
      have HB := Lib.hid hbel
      have hlt2 : b < wr.heap.size := Nat.lt_of_lt_of_le hbl hbel.size
      obtain ⟨r0, r1, r2, r3⟩ := (HR.out.keep hbel).2 k hkl
      have hz := HS.out l[k] (List.getElem_mem hkl)
      have HX := Lib.hid (show sm l[k] = decide (l[k].2.1.size ≤ 60 ∧ l[k].2.2.2.size ≤ 60) from rfl)
      have HI := Lib.hid (show l[k] ∈ l from List.getElem_mem hkl)
      have HT := Lib.hid (fun x => sm_take (k := k) hkl hall x)
      generalize l[k] = t at *
      obtain ⟨B, N, D, M⟩ := t
      simp only at r0 r1 r2 r3 hz
      unfold maxLen at hz
      obtain ⟨hz1, hz2⟩ := hz
      clear hall hbel
      by_cases h1 : 60 < N.size
      · have q1 : decide ((60 : Int) < (N.size : Int)) = true := decide_eq_true (by omega)
        have HF := Lib.hid (show l.all sm = false by
          rw [List.all_eq_false]; exact ⟨_, HI.out, by rw [HX.out]; simp; omega⟩)
        go_wp2_with fail
        go_ret
        exact ⟨ret_bo HF.out.symm, HB.out.alloc HB.out.size _⟩
      · have q1 : decide ((60 : Int) < (N.size : Int)) = false := decide_eq_false (by omega)
        by_cases h2 : 60 < M.size
        · have q2 : decide ((60 : Int) < (M.size : Int)) = true := decide_eq_true (by omega)
          have HF := Lib.hid (show l.all sm = false by
            rw [List.all_eq_false]; exact ⟨_, HI.out, by rw [HX.out]; simp; omega⟩)
          go_wp2_with fail
          go_ret
          exact ⟨ret_bo HF.out.symm, HB.out.alloc HB.out.size _⟩
        · have q2 : decide ((60 : Int) < (M.size : Int)) = false := decide_eq_false (by omega)
          have HG := Lib.hid (HT.out (by rw [HX.out]; simp; omega))
          go_wp2_with fail
          go_roundw
          case rel => exact ⟨k + 1, by omega, by go_num, HB.out.alloc HB.out.size _, HG.out⟩
          case measure => simp [intOf]; omega
    · have hk' : k = l.length := by have := HN.out; omega
      have HF := Lib.hid (show l.all sm = true by have h := hall; rw [hk', List.take_length] at h; exact h)
      have HB := Lib.hid hbel
      clear hk' hall hbel
      go_wp2_with fail
      go_ret
      exact ⟨ret_bo HF.out.symm, HB.out⟩
end Go.Proofs.YtdkpmpkoelckoaaDoor
