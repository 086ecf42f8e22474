/- LexApart: the walk. -/
import Derived.Test.YtgcokjobnpjhhaaLexM
import Derived.IntWalk
namespace Go.Proofs.Ytgcokjobnpjhhaa
open Go Go.RowKit
set_option linter.unusedVariables false

/-- two texts with a line end between -/
def between2 (a b : ByteArray) : ByteArray := a ++ ⟨#[10]⟩ ++ b
theorem between2_size (a b : ByteArray) : (between2 a b).size = a.size + 1 + b.size := by
  unfold between2; rw [ByteArray.size_append, ByteArray.size_append]; rfl
theorem data_get (s : ByteArray) (k : Nat) (h : k < s.size) : byS s k = (s.data.toList.getD k 0).toNat := by
  rw [byS_get s k h, List.getD_eq_getElem?_getD, List.getElem?_eq_getElem (show k < s.data.toList.length by simpa using h)]
  rfl
theorem between2_data (a b : ByteArray) : (between2 a b).data.toList = a.data.toList ++ (10 :: b.data.toList) := by
  unfold between2
  rw [ByteArray.data_append, ByteArray.data_append, Array.toList_append, Array.toList_append]
  simp
theorem between2_left (a b : ByteArray) (j : Nat) (h : j < a.size) : byS (between2 a b) j = byS a j := by
  rw [data_get _ _ (by rw [between2_size]; omega), data_get _ _ h, between2_data, List.getD_eq_getElem?_getD, List.getD_eq_getElem?_getD, List.getElem?_append_left (by simpa using h)]
theorem between2_mid (a b : ByteArray) : byS (between2 a b) a.size = 10 := by
  rw [data_get _ _ (by rw [between2_size]; omega), between2_data, List.getD_eq_getElem?_getD, List.getElem?_append_right (by simp)]
  simp
theorem between2_right (a b : ByteArray) (j : Nat) (h : j < b.size) : byS b j = byS (between2 a b) (a.size + 1 + j) := by
  rw [data_get _ _ h, data_get _ _ (by rw [between2_size]; omega), between2_data, List.getD_eq_getElem?_getD, List.getD_eq_getElem?_getD, List.getElem?_append_right (by simp; omega)]
  have e : a.size + 1 + j - a.data.toList.length = j + 1 := by simp; omega
  rw [e]; rfl
theorem apart_lex (a b : ByteArray) (h : a.size + 1 + b.size ≤ 16384) : lexG (byS (between2 a b)) (between2 a b).size = if (lexG (byS a) a.size).2.1 ≠ 0 then ([], (lexG (byS a) a.size).2) else if (lexG (byS b) b.size).2.1 ≠ 0 then ([], (lexG (byS b) b.size).2.1, a.size + 1 + (lexG (byS b) b.size).2.2) else
      ((toksG (byS a) a.size (gapG (byS a) a.size 0) 0).1 ++ ((toksG (byS b) b.size (gapG (byS b) b.size 0) 0).1 ++ [(0, b.size, b.size)]).map (moveT (a.size + 1)), 0, 0) :=
  lex_apart (between2_size a b) (fun j hj => between2_left a b j hj) (between2_mid a b) (fun j hj => between2_right a b j hj) (by rw [between2_size]; exact h)
theorem lex_form {g : Nat → Nat} {n : Nat} (h : (lexG g n).2.1 = 0) : (lexG g n).1 = (toksG g n (gapG g n 0) 0).1 ++ [(0, n, n)] := by
  unfold lexG at h ⊢
  by_cases h1 : 65536 < n
  · rw [if_pos h1] at h; cases h
  · rw [if_neg h1] at h ⊢
    by_cases h2 : (toksG g n (gapG g n 0) 0).2.1 = 0
    · rw [if_pos h2]
    · rw [if_neg h2] at h; exact absurd h h2
theorem toks_bound {g : Nat → Nat} {n : Nat} (h : (lexG g n).2.1 = 0) (hn : n ≤ 1500) : ∀ x ∈ (lexG g n).1, x.2.1 ≤ 1500 ∧ x.2.2 ≤ 1500 := by
  obtain ⟨_, _, l, h1, h2, h3, _⟩ := lex_ok h
  rw [h1]
  intro x hx
  rcases List.mem_append.1 hx with hx | hx
  · obtain ⟨k, hk, rfl⟩ := List.getElem_of_mem hx
    have := h3 k hk
    obtain ⟨_, a2, a3, _⟩ := this
    omega
  · simp at hx; subst hx; simp only; omega

theorem toks_at_le {g : Nat → Nat} {n : Nat} : ∀ i c, i ≤ n → (toksG g n i c).2.2 ≤ n := by
  refine toks_ind g (fun i c hi ih => ?_)
  by_cases hlt : i < n
  · by_cases hc : c = 16384
    · subst hc; rw [toks_full hlt]; exact hi
    · by_cases ht : (tokenG g n i).1 = 0
      · rw [toks_next hlt hc ht]; exact ih hlt ht
      · rw [toks_bad hlt hc ht]; exact hi
  · rw [toks_end hlt]; exact hi
theorem lex_at_le {g : Nat → Nat} {n : Nat} (hn : n ≤ 1500) : (lexG g n).2.2 ≤ 20000 := by
  have := toks_at_le (g := g) (n := n) _ 0 (gap_le g (Nat.zero_le _))
  unfold lexG
  rw [if_neg (by omega)]
  split
  · simp
  · simp only; omega

set_option maxRecDepth 100000 in
set_option maxHeartbeats 8000000 in
theorem apart_badA (a b : ByteArray) (w : World) (ha : a.size ≤ 1500) (hb : b.size ≤ 1500) (hc : (lexG (byS a) a.size).2.1 ≠ 0) :
    Calls Try.prog 4 #[.string a, .string b] w fun e w' => e = .returned (.bool true) ∧ Below w.heap.size w w' := by
  have HA := Lib.hid (fun w => lex_any a w (by unfold maxLen; omega))
  have HB := Lib.hid (fun w => lex_any b w (by unfold maxLen; omega))
  have HZ := Lib.hid (fun w => lex_any (between2 a b) w (by rw [between2_size]; unfold maxLen; omega))
  rw [apart_lex a b (by omega), if_pos hc] at HZ
  generalize lexG (byS a) a.size = RA at *
  generalize lexG (byS b) b.size = RB at *
  obtain ⟨la, c, p⟩ := RA
  dsimp only at hc HZ
  have k1 : ¬ (1500 : Int) < (a.size : Int) := by omega
  have k2 : ¬ (1500 : Int) < (b.size : Int) := by omega
  have s3 : ¬ 9223372036854775807 < a.size + 1 := by omega
  have s4 : ¬ 9223372036854775807 < a.size + 1 + b.size := by omega
  have t1 : ((c : Int) != 0) = true := by simp; omega
  have HC := Lib.hid hc
  clear hc
  go_enter Try.func4, Try.ntmps4
  go_wp2_with fail
  refine (cuts_any _).mono ?_
  rintro e w1 ⟨rfl, h01⟩
  have H1 := Lib.hid h01
  clear h01
  go_wp2_with fail
  refine (HA.out _).mono ?_
  rintro e w2 hpa
  obtain ⟨h12, -, hbad⟩ := hpa
  have he := hbad HC.out
  subst he
  have H2 := Lib.hid (after H1.out h12)
  clear h12 hbad
  go_wp2_with fail
  refine (HB.out _).mono ?_
  rintro e w3 hpb
  obtain ⟨vb, fb0, fb1, he⟩ : ∃ (v : Value) (c q : Nat), e = .returned (.tuple #[v, .agg #[.int .i64 (c : Nat), .int .i64 (q : Nat)]]) := by
    obtain ⟨-, hg, hbb⟩ := hpb
    by_cases h0 : RB.2.1 = 0
    · obtain ⟨v, hv, _⟩ := hg h0
      exact ⟨v, 0, 0, hv⟩
    · exact ⟨_, _, _, hbb h0⟩
  subst he
  obtain ⟨h23, b0, b1, b2⟩ := box2 hpb.1
  have H3 := Lib.hid (after H2.out h23)
  clear h23 hpb
  go_wp2_with fail
  refine (HZ.out _).mono ?_
  rintro e w4 ⟨h34, -, hbad⟩
  have he := hbad HC.out
  subst he
  obtain ⟨h34', -, -, -⟩ := box2 h34
  have d0 := keep h34' b2 b0
  have d1 := keep h34' b2 b1
  have d2 : w2.heap.size < w4.heap.size := Nat.lt_of_lt_of_le b2 h34'.size
  have H4 := Lib.hid (after H3.out h34')
  clear h34 h34' hbad b0 b1 b2
  go_wp2_with fail
  go_ret
  exact ⟨rfl, H4.out.alloc H4.out.size _⟩

set_option maxRecDepth 100000 in
set_option maxHeartbeats 8000000 in
theorem apart_badB (a b : ByteArray) (w : World) (ha : a.size ≤ 1500) (hb : b.size ≤ 1500) (hca : (lexG (byS a) a.size).2.1 = 0) (hc : (lexG (byS b) b.size).2.1 ≠ 0) :
    Calls Try.prog 4 #[.string a, .string b] w fun e w' => e = .returned (.bool true) ∧ Below w.heap.size w w' := by
  have HA := Lib.hid (fun w => lex_any a w (by unfold maxLen; omega))
  have HB := Lib.hid (fun w => lex_any b w (by unfold maxLen; omega))
  have HZ := Lib.hid (fun w => lex_any (between2 a b) w (by rw [between2_size]; unfold maxLen; omega))
  have hle : (lexG (byS b) b.size).2.2 ≤ 20000 := lex_at_le hb
  rw [apart_lex a b (by omega), if_neg (fun h => h hca), if_pos hc] at HZ
  generalize lexG (byS a) a.size = RA at *
  generalize lexG (byS b) b.size = RB at *
  obtain ⟨lb, c, p⟩ := RB
  obtain ⟨la, c0, p0⟩ := RA
  dsimp only at hc hca HZ hle
  subst hca
  have k1 : ¬ (1500 : Int) < (a.size : Int) := by omega
  have k2 : ¬ (1500 : Int) < (b.size : Int) := by omega
  have s3 : ¬ 9223372036854775807 < a.size + 1 := by omega
  have s4 : ¬ 9223372036854775807 < a.size + 1 + b.size := by omega
  have t1 : ((c : Int) != 0) = true := by simp; omega
  have HC := Lib.hid hc
  clear hc
  go_enter Try.func4, Try.ntmps4
  go_wp2_with fail
  refine (cuts_any _).mono ?_
  rintro e w1 ⟨rfl, h01⟩
  have H1 := Lib.hid h01
  clear h01
  go_wp2_with fail
  refine (HA.out _).mono ?_
  rintro e w2 hpa
  obtain ⟨h12, hok, -⟩ := hpa
  obtain ⟨v, rfl, -⟩ := hok rfl
  have H2 := Lib.hid (after H1.out h12)
  clear h12 hok
  go_wp2_with fail
  refine (HB.out _).mono ?_
  rintro e w3 ⟨h23, -, hbad⟩
  have he := hbad HC.out
  subst he
  obtain ⟨h23', b0, b1, b2⟩ := box2 h23
  have H3 := Lib.hid (after H2.out h23')
  clear h23 h23' hbad
  go_wp2_with fail
  refine (HZ.out _).mono ?_
  rintro e w4 ⟨h34, -, hbad⟩
  have he := hbad HC.out
  subst he
  obtain ⟨h34', g0, g1, g2⟩ := box2 h34
  have d0 := keep h34' b2 b0
  have d1 := keep h34' b2 b1
  have d2 : w2.heap.size < w4.heap.size := Nat.lt_of_lt_of_le b2 h34'.size
  have H4 := Lib.hid (after H3.out h34')
  have hsum : ((a.size + 1 + p : Nat) : Int) = (p : Int) + (a.size : Int) + 1 := by omega
  rw [hsum]
  clear h34 h34' hbad b0 b1 b2 hsum
  go_wp2_with fail
  go_ret
  exact ⟨ret_bo (by simp), H4.out.alloc H4.out.size _⟩

end Go.Proofs.Ytgcokjobnpjhhaa
