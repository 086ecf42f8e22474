/- The statements' own first question of layer 4. -/
import Derived.Test.YtdhbcmbajbgblaaDiffI
namespace Go.Proofs.Ytdhbcmbajbgblaa
open Go Go.RowKit
set_option linter.unusedVariables false

def fa : ByteArray := ⟨#[67, 32, 120, 32, 61, 32, 110, 117, 108, 108, 59]⟩
def fb : ByteArray := ⟨#[67, 63, 32, 120, 32, 61, 32, 110, 117, 108, 108, 59]⟩
instance (a b : ByteArray) (n i : Nat) : Decidable (EndAt a b n i) := by unfold EndAt; infer_instance
theorem fa_far : farN fa fb = 1 := by
  have h1 : EndAt fa fb 1 0 := by decide +kernel
  have h2 := farN_least h1.way
  have h3 : farN fa fb ≠ 0 := fun h => by have := (farN_zero fa fb).1 h; revert this; decide +kernel
  omega
theorem fa_edits (i : Nat) (h : EndAt fa fb (farN fa fb) i) : diffE fa fb 0 0 (alikeF fa fb (farN fa fb) i) = [(1, 1, ⟨#[63]⟩)] := by
  rw [fa_far] at h ⊢
  have h3 : fa.size + 1 = fb.size + 2 * i := h.2.2
  have e1 : fa.size = 11 := rfl
  have e2 : fb.size = 12 := rfl
  have hi : i = 0 := by omega
  subst hi
  decide +kernel
def ga : ByteArray := ⟨#[97, 98, 99]⟩
def gb : ByteArray := ⟨#[97, 100, 99]⟩
theorem ga_far : farN ga gb = 2 := by
  have h1 : EndAt ga gb 2 1 := by decide +kernel
  have h2 := farN_least h1.way
  have h3 : farN ga gb ≠ 0 := fun h => by have := (farN_zero ga gb).1 h; revert this; decide +kernel
  obtain ⟨i, hi⟩ := farN_end ga gb
  have h4 : ga.size + farN ga gb = gb.size + 2 * i := hi.2.2
  have e1 : ga.size = 3 := rfl
  have e2 : gb.size = 3 := rfl
  omega
def kl : List IEd := [(1, 2, ⟨#[120]⟩)]
theorem kl_tk : tkK kl 1 = [(1, 2)] := by decide +kernel

set_option maxRecDepth 100000 in
set_option maxHeartbeats 2000000 in
theorem finds_any (w : World) : Calls Try.prog 5 #[] w fun e w' => e = .returned (.bool true) ∧ Below w.heap.size w w' := by
  have hb := fun w => bytes_near fa fb w (by decide) (by decide) (by rw [fa_far]; decide)
  have hf := fun w => far_near ga gb w (by decide) (by decide) (by rw [ga_far]; decide)
  rw [ga_far] at hf
  have HB := Lib.hid hb
  have HF := Lib.hid hf
  clear hb hf
  have q1 : ∀ w, (binOp .eql 27 (.agg #[.int .i64 1, .int .i64 1, .string ⟨#[63]⟩]) (.agg #[.int .i64 1, .int .i64 1, .string ⟨#[63]⟩])).run Try.prog w = .ok (.bool true) w := fun _ => by kernel_rfl
  have q2 : ∀ w, (binOp .eql 25 (.agg #[.int .i64 2, .int .i64 4]) (.agg #[.int .i64 2, .int .i64 4])).run Try.prog w = .ok (.bool true) w := fun _ => by kernel_rfl
  go_enter Try.func5, Try.ntmps5
  go_wp2_with fail
  refine (HB.out _).mono ?_
  rintro e w1 ⟨v1, w2, L, rfl, h01, hz, -, ⟨i, hi, hL⟩, hd⟩
  rw [fa_edits i hi] at hL
  subst hL
  obtain ⟨g1, cp1, hv1⟩ : ∃ g1 cp1, v1 = .slice (some ⟨g1, 0, none⟩) 1 cp1 := by
    rcases hd.2.1.2 with ⟨_, h0⟩ | ⟨g0, cap, cur, h0, _⟩
    · exact absurd h0 (by decide)
    · exact ⟨g0, cap, h0⟩
  subst hv1
  have hlt := hd.2.1.lt g1 rfl
  have hc := hd.2.1.cells (g := g1) rfl
  have e : ∀ j, (⟨g1, 0, none⟩ : Addr).add j = ⟨g1, j, none⟩ := fun j => by unfold Addr.add; by_cases h : j = 0 <;> simp [h]
  have c0 := hc 0 (.int .i64 1) rfl
  have c1 := hc 1 (.int .i64 1) rfl
  have c2 := hc 2 (.string ⟨#[63]⟩) rfl
  rw [e] at c0 c1 c2
  have H01 := Lib.hid h01
  clear hd hc e h01 hi
  go_wp2_with fail
  refine (HF.out _).mono ?_
  rintro e w3 ⟨rfl, h13⟩
  have c0 := keep h13 hlt.2 c0
  have c1 := keep h13 hlt.2 c1
  have c2 := keep h13 hlt.2 c2
  have hlt3 : g1 < w3.heap.size := Nat.lt_of_lt_of_le hlt.2 h13.size
  have H03 := Lib.hid (after H01.out h13)
  clear h13
  have hk := fun w hr => kept_ok ⟨#[97, 98, 99, 100]⟩ (some ⟨w3.heap.size, 0, none⟩) 1 1 kl w rfl (by decide) (by decide) hr (by decide +kernel) (by decide +kernel) (by decide +kernel)
  rw [kl_tk] at hk
  have HK := Lib.hid hk
  have HR : Hid (EdsIn (w3.alloc (.cells #[.int .i64 1, .int .i64 2, .string ⟨#[120]⟩] 27)) (some ⟨w3.heap.size, 0, none⟩) kl) := Lib.hid (fun _ => ⟨w3.heap.size, 0, rfl, by simp, fun i hi => by
    match i, hi with
    | 0, _ => simp [go_sem, kl]⟩)
  clear hk
  go_wp2_with fail
  refine (HK.out _ HR.out).mono ?_
  rintro e w4 ⟨h34, v4, w5, rfl, hz4, hg⟩
  have BA := (Below.refl w3.heap.size w3).alloc (Nat.le_refl _) (.cells #[.int .i64 1, .int .i64 2, .string ⟨#[120]⟩] 27)
  have hB := after BA h34
  have c0 := keep hB hlt3 c0
  have c1 := keep hB hlt3 c1
  have c2 := keep hB hlt3 c2
  have hgp : gapTo ([(1, 2)] ++ [(((⟨#[97, 98, 99, 100]⟩ : ByteArray).size : Int), ((⟨#[97, 98, 99, 100]⟩ : ByteArray).size : Int))]) (([(1, 2)] : List (Int × Int)).length + 1) = [(0, 1), (2, 4)] := by decide +kernel
  rw [hgp] at hg
  obtain ⟨g2, cp2, hv2⟩ : ∃ g2 cp2, v4 = .slice (some ⟨g2, 0, none⟩) 2 cp2 := by
    rcases hg.2.2 with ⟨_, h0⟩ | ⟨g0, cap, cur, h0, _⟩
    · exact absurd h0 (by decide)
    · exact ⟨g0, cap, h0⟩
  subst hv2
  have hcg := hg.2.cells (g := g2) rfl
  have e : ∀ j, (⟨g2, 0, none⟩ : Addr).add j = ⟨g2, j, none⟩ := fun j => by unfold Addr.add; by_cases h : j = 0 <;> simp [h]
  have d0 := hcg 2 (.int .i64 2) rfl
  have d1 := hcg 3 (.int .i64 4) rfl
  rw [e] at d0 d1
  have H04 := Lib.hid (after H03.out hB)
  clear hcg hg e hB BA h34 hgp
  go_wp2_with fail
  go_ret
  exact ⟨rfl, H04.out⟩

end Go.Proofs.Ytdhbcmbajbgblaa
