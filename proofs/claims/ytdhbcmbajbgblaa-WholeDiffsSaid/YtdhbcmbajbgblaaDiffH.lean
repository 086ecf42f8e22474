/- Contracts of diff's Far and Bytes where the fewest are found. -/
import Derived.Test.YtdhbcmbajbgblaaDiffE
import Derived.Test.YtdhbcmbajbgblaaDiffG
namespace Go.Proofs.Ytdhbcmbajbgblaa
open Go Go.RowKit
set_option linter.unusedVariables false

theorem least_is {a b : ByteArray} {n : Nat} (h : ∃ i, EndAt a b n i) (hno : ∀ m, m < n → ∀ i, ¬ EndAt a b m i) : n = farN a b := by
  obtain ⟨i, hi⟩ := h
  have h1 := farN_least hi.way
  obtain ⟨j, hj⟩ := farN_end a b
  rcases Nat.lt_or_ge (farN a b) n with hlt | hge
  · exact absurd hj (hno _ hlt j)
  · omega
theorem far_near (a b : ByteArray) (w : World) (ha : a.size ≤ 16384) (hb : b.size ≤ 16384) (h : farN a b ≤ 512) :
    Calls Try.prog 8 #[.string a, .string b] w fun e w' => e = .returned (.tuple #[.int .i64 (farN a b : Nat), .bool true]) ∧ Below w.heap.size w w' := by
  refine (far_any a b w ha hb).mono ?_
  rintro e w' ⟨⟨n, f, rfl, hf⟩, hbel⟩
  rcases hf with ⟨rfl, hn, hi, hno⟩ | ⟨rfl, rfl, hno⟩
  · rw [← least_is hi hno]; exact ⟨rfl, hbel⟩
  · obtain ⟨j, hj⟩ := farN_end a b
    exact absurd hj (hno _ h j)

/-- the edits that were found -/
def FoundE (a b : ByteArray) (L : List NEd) : Prop := EdOk a.size 0 L ∧ pieces a 0 L = b ∧ costN L = farN a b ∧ (∀ e ∈ L, Changes e) ∧ L.Pairwise (fun x y => x.2.1 < y.1) ∧ L.length ≤ 514
theorem diffE_len (s t : ByteArray) : ∀ (M : List Run) (w i : Nat), (diffE s t w i M).length ≤ M.length + 1
  | [], w, i => by unfold diffE; split <;> simp
  | r :: M, w, i => by
    have := diffE_len s t M (r.1 + r.2.2) (r.2.1 + r.2.2)
    unfold diffE
    rw [List.length_append]
    split <;> simp <;> omega

set_option maxRecDepth 100000 in
set_option maxHeartbeats 2000000 in
theorem bytes_near (a b : ByteArray) (w : World) (ha : a.size ≤ 16384) (hb : b.size ≤ 16384) (h : farN a b ≤ 512) :
    Calls Try.prog 9 #[.string a, .string b] w fun e w' => ∃ v w2 L, e = .returned (.tuple #[v, .bool true, .int .i64 0]) ∧ Below w.heap.size w w' ∧ w.heap.size ≤ w2.heap.size ∧ FoundE a b L ∧ (∃ i, EndAt a b (farN a b) i ∧ L = diffE a b 0 0 (alikeF a b (farN a b) i)) ∧ DInv w2 w' (L.map toI) v := by
  have HL := Lib.hid (fun w => tooLong_any a b w (by unfold maxLen; omega) (by unfold maxLen; omega))
  rw [longB_no ha hb] at HL
  go_enter Try.func9, Try.ntmps9
  go_wp2_with fail
  refine (HL.out _).mono ?_
  rintro e w1 ⟨rfl, rfl⟩
  go_wp2_with fail
  refine (search_any a b _ (by omega) (by omega)).mono ?_
  rintro e w2 (⟨n, g, v, i, rfl, hn, hend, hno, hinv⟩ | ⟨rfl, hno, hbel⟩)
  · obtain ⟨gv, cap, hv, hcap⟩ : ∃ gv cap, v = .slice (some ⟨gv, 0, none⟩) (n + 1) cap ∧ n + 1 ≤ cap := by
      rcases hinv.2.1.2 with ⟨_, h0⟩ | ⟨g0, cap, cur, h0, _, _, hc, _⟩
      · omega
      · exact ⟨g0, cap, h0, hc⟩
    subst hv
    have hN := least_is ⟨i, hend⟩ hno
    have HB := Lib.hid hinv.1
    have HR := Lib.hid hinv.rows
    have HE := Lib.hid hend
    have HNN := Lib.hid hN
    clear hinv hend hno hN
    go_wp2_with fail
    refine (alike_any a b gv n i cap g _ (by omega) (by omega) hn hcap HR.out ⟨i, HE.out⟩).mono ?_
    rintro e w3 ⟨v3, i3, rfl, h23, hend3, hown3⟩
    have hrun : RunOk a b 0 0 (alikeF a b n i3) := by
      obtain ⟨h1, h2, h3⟩ := hend3
      obtain ⟨k1, k2, k3⟩ := alike_does a b n i3 h1
      rw [h2, show a.size + n - 2 * i3 = b.size by omega] at k1
      exact k1.ok
    have hlen := alikeF_len a b n i3
    have hfd := found_does (a := a) (b := b) (i := i3) (HNN.out ▸ hend3)
    have HF : Hid (FoundE a b (diffE a b 0 0 (alikeF a b n i3))) := Lib.hid (by
      rw [← HNN.out] at hfd
      obtain ⟨f1, f2, f3, f4, f5⟩ := hfd
      exact ⟨f1, f2, by rw [f3]; exact HNN.out, f4, f5, by have := diffE_len a b (alikeF a b n i3) 0 0; omega⟩)
    have H23 := Lib.hid h23
    have HE3 := Lib.hid hend3
    have HO := Lib.hid hown3
    have HRUN := Lib.hid hrun
    have z3 := h23.size
    clear h23 hend3 hown3 hfd hrun
    go_wp2_with fail
    refine (diffEdits_any a b (alikeF a b n i3) v3 w2.heap.size _ z3 HO.out (by omega) (by omega) (by omega) HRUN.out).mono ?_
    rintro e w4 ⟨v4, w5, rfl, h34, hz, hd⟩
    have HEX : Hid (∃ i, EndAt a b (farN a b) i ∧ diffE a b 0 0 (alikeF a b n i3) = diffE a b 0 0 (alikeF a b (farN a b) i)) := Lib.hid (by rw [← HNN.out]; exact ⟨i3, HE3.out, rfl⟩)
    have B4 := Lib.hid (after HB.out (H23.out.trans h34))
    have HD := Lib.hid hd
    have HZ := Lib.hid (Nat.le_trans HB.out.size hz)
    clear h34 hd hz
    go_wp2_with fail
    go_ret3
    exact ⟨_, w5, _, rfl, B4.out, HZ.out, HF.out, HEX.out, HD.out⟩
  · obtain ⟨j, hj⟩ := farN_end a b
    exact absurd hj (hno _ h j)

end Go.Proofs.Ytdhbcmbajbgblaa
