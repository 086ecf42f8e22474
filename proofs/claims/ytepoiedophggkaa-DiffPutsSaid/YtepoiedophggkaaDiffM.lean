/- DiffMakes: the walk. -/
import Derived.Test.YtepoiedophggkaaDiffK
import Derived.Test.YtepoiedophggkaaEditH
import Derived.Test.YtepoiedophggkaaDiffBack
namespace Go.Proofs.Ytepoiedophggkaa
open Go Go.RowKit
set_option linter.unusedVariables false

theorem DInv.shape {w w' : World} {l : List IEd} {v : Value} {n : Nat} (h : DInv w w' l v) (hn : l.length = n) : ∃ src cap, v = .slice src n cap ∧ EdsIn w' src l := by
  subst hn
  obtain ⟨_, ho, h0⟩ := h
  rcases ho.2 with ⟨hv, hn⟩ | ⟨g, cap, cur, hv, _, _, hc, hm, _⟩
  · exact ⟨none, 0, by rw [hn]; exact hv, fun h => by omega⟩
  · refine ⟨some ⟨g, 0, none⟩, cap, hv, fun _ => ⟨g, 0, rfl, ?_, fun i hi => ?_⟩⟩
    · subst hv; exact (ho.lt g rfl).2
    · subst hv
      have hc := ho.cells (g := g) rfl
      have e : ∀ j, (⟨g, 0, none⟩ : Addr).add j = ⟨g, j, none⟩ := fun j => by unfold Addr.add; by_cases h : j = 0 <;> simp [h]
      obtain ⟨k1, k2, k3⟩ := flatE_get l i hi
      have c1 := hc _ _ k1
      have c2 := hc _ _ k2
      have c3 := hc _ _ k3
      rw [e] at c1 c2 c3
      rw [Nat.zero_add]
      exact ⟨c1, c2, c3⟩
theorem text_cost : ∀ (L : List NEd), ∀ e ∈ L, e.2.2.size ≤ costN L
  | [], e, h => by cases h
  | x :: L, e, h => by
    rcases List.mem_cons.1 h with rfl | h
    · simp only [costN]; omega
    · have := text_cost L e h; simp only [costN]; omega
/-- what was found may be made, and is what was asked for -/
theorem FoundE.fits {a b : ByteArray} {L : List NEd} (h : FoundE a b L) (ha : a.size ≤ 16384) (hb : b.size ≤ 16384) (hf : farN a b ≤ 32768) :
    (a.size : Int) + growN L ≤ 65536 ∧ (∀ e ∈ L, e.2.2.size ≤ 65536) ∧ fitsE a.size (L.map toI) = 0 ∧ costE (L.map toI) = (farN a b : Nat) ∧ checkE a.size (L.map toI) = 0 ∧ ((L.length : Int) == 0) = (a.toList == b.toList) := by
  obtain ⟨f1, f2, f3, f4, f5, f6⟩ := h
  have hs := size_pieces a L 0 f1
  rw [f2] at hs
  have hg : (a.size : Int) + growN L ≤ 65536 := by omega
  have ht : ∀ e ∈ L, e.2.2.size ≤ 65536 := fun e he => by have := text_cost L e he; omega
  obtain ⟨v1, v2, v3⟩ := valid_fits f1 (by omega) (by omega) hg ht
  refine ⟨hg, ht, v1, by rw [v2, f3], v3, ?_⟩
  rw [Bool.eq_iff_iff, beq_iff_eq, beq_iff_eq, bytes_eq_list, ← farN_zero, ← f3]
  constructor
  · intro h
    have : L = [] := List.eq_nil_of_length_eq_zero (by omega)
    subst this; rfl
  · intro h
    cases L with
    | nil => rfl
    | cons e L =>
      have hc := f4 e (by simp)
      have he := f1.1
      simp only [costN] at h
      unfold Changes at hc
      omega

set_option maxRecDepth 100000 in
set_option maxHeartbeats 2000000 in
theorem diffMakes_in (a b : ByteArray) (w : World) (ha : a.size ≤ 400) (hb : b.size ≤ 400) (hab : a.size + b.size ≤ 512) :
    Calls Try.prog 8 #[.string a, .string b] w fun e w' => e = .returned (.bool true) ∧ Below w.heap.size w w' := by
  have hle := farN_le a b
  have HB := Lib.hid (fun w => bytes_near a b w (by omega) (by omega) (by omega))
  have HF := Lib.hid (fun w => far_near a b w (by omega) (by omega) (by omega))
  have HR := Lib.hid (fun w => refFar_any a b w ha hb)
  have k1 : ¬ 400 < (a.size : Int) := by omega
  have k2 : ¬ 400 < (b.size : Int) := by omega
  have k3 : ¬ 512 < (a.size : Int) + (b.size : Int) := by omega
  go_enter Try.func8, Try.ntmps8
  go_wp2_with fail
  refine (finds_any _).mono ?_
  rintro e w1 ⟨rfl, h01⟩
  have H1 := Lib.hid h01
  clear h01
  go_wp2_with fail
  refine (HB.out _).mono ?_
  rintro e w2 ⟨v2, wz, L, rfl, h12, hz, hfe, -, hd⟩
  obtain ⟨src, cap, rfl, hr⟩ := hd.shape (show (L.map toI).length = L.length by simp)
  have H2 := Lib.hid (after H1.out h12)
  obtain ⟨q1, q2, q3, q4, q5, q6⟩ := hfe.fits (by omega) (by omega) (by omega)
  obtain ⟨f1, f2, f3, f4, f5, f6⟩ := hfe
  have HA := Lib.hid (fun w hr => rapply_ok a src L.length cap L w rfl (by omega) (by omega) f1 q1 q3 q2 hr)
  rw [f2] at HA
  have HC := Lib.hid (fun w hr => cost_any src L.length cap (L.map toI) w (by simp) (by omega) (fun e he => by
    obtain ⟨x, hx, rfl⟩ := List.mem_map.1 he
    exact q2 x hx) hr)
  rw [q4] at HC
  have HQ := Lib.hid q6
  have HR2 := Lib.hid hr
  clear h12 hz hd q1 q2 q3 q4 q5 q6 f1 f2 f3 f4 f5 hr HB
  generalize farN a b = n at *
  generalize L.map toI = l at *
  generalize L.length = m at *
  go_wp2_with fail
  refine (HA.out _ HR2.out).mono ?_
  rintro e w3 ⟨rfl, h23⟩
  have HR3 := Lib.hid (HR2.out.step h23)
  have H3 := Lib.hid (after H2.out h23)
  clear h23
  go_wp2_with fail
  refine (HR.out _).mono ?_
  rintro e w4 ⟨rfl, h34⟩
  have HR4 := Lib.hid (HR3.out.step h34)
  have H4 := Lib.hid (after H3.out h34)
  clear h34
  go_wp2_with fail
  refine (HF.out _).mono ?_
  rintro e w5 ⟨rfl, h45⟩
  have HR5 := Lib.hid (HR4.out.step h45)
  have H5 := Lib.hid (after H4.out h45)
  clear h45
  go_wp2_with fail
  refine (HC.out _ HR5.out).mono ?_
  rintro e w6 ⟨rfl, h56⟩
  have H6 := Lib.hid (after H5.out h56)
  clear h56
  go_wp2_with fail
  go_ret
  refine ⟨ret_bl ?_, H6.out⟩
  rw [HQ.out]; simp

theorem diffMakes_any (a : ByteArray) (ha : a.size ≤ maxLen) (b : ByteArray) (hb : b.size ≤ maxLen) (w : World) :
    Calls Try.prog 8 #[.string a, .string b] w fun e w' => e = .returned (.bool true) ∧ Below w.heap.size w w' := by
  unfold maxLen at ha hb
  by_cases h1 : 400 < a.size
  · have k1 : 400 < (a.size : Int) := by omega
    go_enter Try.func8, Try.ntmps8
    go_wp2_with (go_at_call 26; refine (finds_any _).mono ?_; rintro e w1 ⟨rfl, h01⟩)
    go_ret
    exact ⟨rfl, h01⟩
  · have k1 : ¬ 400 < (a.size : Int) := by omega
    by_cases h2 : 400 < b.size
    · have k2 : 400 < (b.size : Int) := by omega
      go_enter Try.func8, Try.ntmps8
      go_wp2_with (go_at_call 26; refine (finds_any _).mono ?_; rintro e w1 ⟨rfl, h01⟩)
      go_ret
      exact ⟨rfl, h01⟩
    · have k2 : ¬ 400 < (b.size : Int) := by omega
      by_cases h3 : 512 < a.size + b.size
      · have k3 : 512 < (a.size : Int) + (b.size : Int) := by omega
        go_enter Try.func8, Try.ntmps8
        go_wp2_with (go_at_call 26; refine (finds_any _).mono ?_; rintro e w1 ⟨rfl, h01⟩)
        go_ret
        exact ⟨rfl, h01⟩
      · exact diffMakes_in a b w (by omega) (by omega) (by omega)

end Go.Proofs.Ytepoiedophggkaa
