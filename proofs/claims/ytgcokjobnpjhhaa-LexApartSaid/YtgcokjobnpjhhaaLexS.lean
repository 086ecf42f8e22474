/- LexApart: the walk where both texts are cut. -/
import Derived.Test.YtgcokjobnpjhhaaLexR
namespace Go.Proofs.Ytgcokjobnpjhhaa
open Go Go.RowKit
set_option linter.unusedVariables false

theorem apart_at (TA Y : List Tok) (e : Tok) (d k : Nat) (hk : k < (TA ++ Y.map (moveT d)).length) :
    (k < TA.length → ∃ x, (TA ++ [e])[k]? = some x ∧ (TA ++ Y.map (moveT d))[k]? = some x) ∧ (TA.length ≤ k → ∃ y, Y[k - TA.length]? = some y ∧ k - TA.length < Y.length ∧ (TA ++ Y.map (moveT d))[k]? = some (moveT d y)) := by
  refine ⟨fun h => ?_, fun h => ?_⟩
  · exact ⟨TA[k], by rw [List.getElem?_append_left h, List.getElem?_eq_getElem h], by rw [List.getElem?_append_left h, List.getElem?_eq_getElem h]⟩
  · have h2 : k - TA.length < Y.length := by simp at hk; omega
    exact ⟨Y[k - TA.length], by rw [List.getElem?_eq_getElem h2], h2, by rw [List.getElem?_append_right h, List.getElem?_map, List.getElem?_eq_getElem h2]; rfl⟩
theorem tokAt_get {w : World} {g : Nat} {l : List Tok} (h : TokAt w g 0 l) {k : Nat} {x : Tok} (hx : l[k]? = some x) : w.cell? ⟨g, k * 3, none⟩ = some (.int .i64 (x.1 : Nat)) ∧ w.cell? ⟨g, k * 3 + 1, none⟩ = some (.int .i64 (x.2.1 : Nat)) ∧ w.cell? ⟨g, k * 3 + 2, none⟩ = some (.int .i64 (x.2.2 : Nat)) := by
  obtain ⟨hk, he⟩ := List.getElem?_eq_some_iff.1 hx
  have := h k hk
  rw [Nat.zero_add, he] at this
  exact this

set_option maxRecDepth 100000 in
set_option maxHeartbeats 16000000 in
theorem apart_good (a b : ByteArray) (w : World) (ha : a.size ≤ 1500) (hb : b.size ≤ 1500) (hca : (lexG (byS a) a.size).2.1 = 0) (hcb : (lexG (byS b) b.size).2.1 = 0) :
    Calls Try.prog 4 #[.string a, .string b] w fun e w' => e = .returned (.bool true) ∧ Below w.heap.size w w' := by
  have HA := Lib.hid (fun w => lex_any a w (by unfold maxLen; omega))
  have HB := Lib.hid (fun w => lex_any b w (by unfold maxLen; omega))
  have HZ := Lib.hid (fun w => lex_any (between2 a b) w (by rw [between2_size]; unfold maxLen; omega))
  have fa := lex_form hca
  have fb := lex_form hcb
  have ba := toks_bound hca ha
  have bb := toks_bound hcb hb
  have hla := toks_len (g := byS a) (n := a.size) _ 0 (gap_le (byS a) (Nat.zero_le _))
  have hlb := toks_len (g := byS b) (n := b.size) _ 0 (gap_le (byS b) (Nat.zero_le _))
  rw [apart_lex a b (by omega), if_neg (fun h => h hca), if_neg (fun h => h hcb), ← fb] at HZ
  rw [fa] at ba
  generalize hTA : (toksG (byS a) a.size (gapG (byS a) a.size 0) 0).1 = TA at *
  generalize hTB : (toksG (byS b) b.size (gapG (byS b) b.size 0) 0).1 = TB at *
  generalize lexG (byS a) a.size = RA at *
  generalize lexG (byS b) b.size = RB at *
  obtain ⟨Y, cb, pb⟩ := RB
  obtain ⟨X, ca, pa⟩ := RA
  dsimp only at hca hcb HZ fa fb ba bb
  subst hca
  subst hcb
  have hX : X.length = TA.length + 1 := by rw [fa]; simp
  have hY : Y.length = TB.length + 1 := by rw [fb]; simp
  have HAT := Lib.hid (fun k hk => apart_at TA Y (0, a.size, a.size) (a.size + 1) k hk)
  rw [← fa] at HAT ba
  have hZ : (TA ++ Y.map (moveT (a.size + 1))).length = TA.length + Y.length := by simp
  generalize hZZ : TA ++ Y.map (moveT (a.size + 1)) = Z at *
  have HBA := Lib.hid ba
  have HBB := Lib.hid bb
  clear hZZ hTA hTB fa fb ba bb
  obtain ⟨NX, hNX⟩ : ∃ n, n = X.length := ⟨_, rfl⟩
  obtain ⟨NY, hNY⟩ : ∃ n, n = Y.length := ⟨_, rfl⟩
  obtain ⟨NZ, hNZ⟩ : ∃ n, n = Z.length := ⟨_, rfl⟩
  obtain ⟨NA, hNA⟩ : ∃ n, n = TA.length := ⟨_, rfl⟩
  have k3 : NX = NA + 1 := by omega
  have k4 : NZ = NA + NY := by omega
  have k5 : NX ≤ 1501 := by omega
  have k6 : NY ≤ 1501 := by omega
  have HK3 := Lib.hid k3
  have HK4 := Lib.hid k4
  have HNX := Lib.hid hNX
  have HNY := Lib.hid hNY
  have HNZ := Lib.hid hNZ
  have HNA := Lib.hid hNA
  have k1 : ¬ (1500 : Int) < (a.size : Int) := by omega
  have k2 : ¬ (1500 : Int) < (b.size : Int) := by omega
  have s3 : ¬ 9223372036854775807 < a.size + 1 := by omega
  have s4 : ¬ 9223372036854775807 < a.size + 1 + b.size := by omega
  have z1 : ((NZ : Int) != (NX : Int) + (NY : Int) - 1) = false := by simp; omega
  have z2 : NZ ≤ 3002 := by omega
  clear hla hlb hX hY hZ k3 k4 hNA
  go_enter Try.func4, Try.ntmps4
  go_wp2_with fail
  refine (cuts_any _).mono ?_
  rintro e w1 ⟨rfl, h01⟩
  have H1 := Lib.hid h01
  clear h01
  go_wp2_with fail
  refine (HA.out _).mono ?_
  rintro e w2 hpa
  obtain ⟨h12, hok, -⟩ := hpa
  obtain ⟨va, rfl, gx, capx, rfl, gx1, gx2, -, -, gx3⟩ := hok rfl
  rw [← hNX]
  have H2 := Lib.hid (after H1.out h12)
  have HX := Lib.hid gx3
  clear h12 hok gx3 hNX
  go_wp2_with fail
  refine (HB.out _).mono ?_
  rintro e w3 ⟨h23, hok, -⟩
  obtain ⟨vb, rfl, gy, capy, rfl, gy1, gy2, -, -, gy3⟩ := hok rfl
  rw [← hNY]
  obtain ⟨h23', b0, b1, b2⟩ := box2 h23
  have H3 := Lib.hid (after H2.out h23')
  have HX3 := Lib.hid (HX.out.below h23' gx2)
  have gx4 : gx < w3.heap.size := Nat.lt_of_lt_of_le gx2 h23'.size
  have HY := Lib.hid gy3
  clear h23 h23' hok gy3 hNY
  go_wp2_with fail
  refine (HZ.out _).mono ?_
  rintro e w4 ⟨h34, hok, -⟩
  obtain ⟨vz, rfl, gz, capz, rfl, gz1, gz2, -, -, gz3⟩ := hok rfl
  rw [← hNZ]
  obtain ⟨h34', g0, g1, g2⟩ := box2 h34
  have d0 := keep h34' b2 b0
  have d1 := keep h34' b2 b1
  have d2 : w2.heap.size < w4.heap.size := Nat.lt_of_lt_of_le b2 h34'.size
  have HX4 := Lib.hid (HX3.out.below h34' gx4)
  have HY4 := Lib.hid (HY.out.below h34' gy2)
  have HZ4 := Lib.hid gz3
  have gx5 : gx < w4.heap.size := Nat.lt_of_lt_of_le gx4 h34'.size
  have gy5 : gy < w4.heap.size := Nat.lt_of_lt_of_le gy2 h34'.size
  have H4 := Lib.hid (after H3.out h34')
  clear h34 h34' hok b0 b1 b2 gz3 hNZ gx1 gy1 gz1 gx2 gx4 gy2
  go_wp2_with fail
  go_loopw [97] (fun t wr => ∃ k : Nat, k ≤ NZ ∧ t = .int .i64 k ∧ Below w4.heap.size w4 wr) (fun t _ => NZ - (intOf t).toNat)
  case atStart => exact ⟨0, by omega, rfl, (Below.refl _ _).alloc (Nat.le_refl _) _⟩
  case round =>
    obtain ⟨k, hk, rfl, hbel⟩ := hrel
    have HBEL := Lib.hid hbel
    have hbs := hbel.size
    by_cases hlt : k < NZ
    · have i1 : (k : Int) < (NZ : Int) := by omega
      obtain ⟨hA, hB⟩ := HAT.out k (by rw [← HNZ.out]; exact hlt)
      have wx : gx < wr.heap.size := by omega
      have wy : gy < wr.heap.size := by omega
      have wz : gz < wr.heap.size := by omega
      by_cases hka : k < NA
      · obtain ⟨x, hx1, hx2⟩ := hA (by rw [← HNA.out]; exact hka)
        obtain ⟨c0, c1, c2⟩ := tokAt_get (HZ4.out.below hbel gz2) hx2
        obtain ⟨e0, e1, e2⟩ := tokAt_get (HX4.out.below hbel gx5) hx1
        have i2 : (k : Int) < (NX : Int) - 1 := by have := HK3.out; omega
        have i3 : (k : Int) < (NX : Int) := by omega
        obtain ⟨x0, x1, x2⟩ := x
        dsimp only at c0 c1 c2 e0 e1 e2
        clear hA hB hx1 hx2 hbel hka
        go_wp2_with fail
        exact ⟨⟨k + 1, by omega, by go_num, by have HB9 := HBEL.out; repeat (first | exact Below.refl _ _ | apply Below.setCell _ (by first | omega | (simp <;> omega)) | apply Below.alloc _ (by first | omega | (simp <;> omega)) | exact HB9 | refine after ?_ HB9)⟩, by simp [intOf] <;> omega⟩
      · obtain ⟨y, hy1, hy2, hy3⟩ := hB (by rw [← HNA.out]; omega)
        rw [← HNA.out] at hy1 hy2
        obtain ⟨c0, c1, c2⟩ := tokAt_get (HZ4.out.below hbel gz2) hy3
        obtain ⟨e0, e1, e2⟩ := tokAt_get (HY4.out.below hbel gy5) hy1
        have hyb := HBB.out y (List.mem_of_getElem? hy1)
        have i2 : ¬ (k : Int) < (NX : Int) - 1 := by have := HK3.out; omega
        obtain ⟨q, hq⟩ : ∃ q, q = k - NA := ⟨_, rfl⟩
        have hy2' : q < NY := by rw [hq, HNY.out]; exact hy2
        have i3 : (k : Int) - (NX : Int) + 1 = (q : Int) := by have := HK3.out; omega
        have i4 : (q : Int) < (NY : Int) := by omega
        obtain ⟨y0, y1, y2⟩ := y
        unfold moveT at c0 c1 c2
        dsimp only at c0 c1 c2 e0 e1 e2 hyb
        rw [← hq] at e0 e1 e2
        have u1 : ((a.size + 1 + y1 : Nat) : Int) = (y1 : Int) + ((a.size : Int) + 1) := by omega
        have u2 : ((a.size + 1 + y2 : Nat) : Int) = (y2 : Int) + ((a.size : Int) + 1) := by omega
        rw [u1] at c1
        rw [u2] at c2
        clear hA hB hy1 hy2 hy3 hbel hka u1 u2 hq
        go_wp2_with fail
        exact ⟨⟨k + 1, by omega, by go_num, by have HB9 := HBEL.out; repeat (first | exact Below.refl _ _ | apply Below.setCell _ (by first | omega | (simp <;> omega)) | apply Below.alloc _ (by first | omega | (simp <;> omega)) | exact HB9 | refine after ?_ HB9)⟩, by simp [intOf] <;> omega⟩
    · have hkz : k = NZ := by omega
      have HB := Lib.hid (after H4.out hbel)
      clear hbel
      go_wp2_with fail
      go_ret
      exact ⟨rfl, HB.out⟩

theorem lexApart_any (a : ByteArray) (ha : a.size ≤ maxLen) (b : ByteArray) (hb : b.size ≤ maxLen) (w : World) :
    Calls Try.prog 4 #[.string a, .string b] w fun e w' => e = .returned (.bool true) ∧ Below w.heap.size w w' := by
  unfold maxLen at ha hb
  by_cases h1 : 1500 < a.size
  · have k1 : (1500 : Int) < (a.size : Int) := by omega
    clear h1
    go_enter Try.func4, Try.ntmps4
    go_wp2_with (go_at_call 9; refine (cuts_any _).mono ?_; rintro e w1 ⟨rfl, h01⟩)
    go_ret
    exact ⟨rfl, h01⟩
  · by_cases h2 : 1500 < b.size
    · have k1 : ¬ (1500 : Int) < (a.size : Int) := by omega
      have k2 : (1500 : Int) < (b.size : Int) := by omega
      clear h1 h2
      go_enter Try.func4, Try.ntmps4
      go_wp2_with (go_at_call 9; refine (cuts_any _).mono ?_; rintro e w1 ⟨rfl, h01⟩)
      go_ret
      exact ⟨rfl, h01⟩
    · by_cases hca : (lexG (byS a) a.size).2.1 = 0
      · by_cases hcb : (lexG (byS b) b.size).2.1 = 0
        · exact apart_good a b w (by omega) (by omega) hca hcb
        · exact apart_badB a b w (by omega) (by omega) hca hcb
      · exact apart_badA a b w (by omega) (by omega) hca

end Go.Proofs.Ytgcokjobnpjhhaa
