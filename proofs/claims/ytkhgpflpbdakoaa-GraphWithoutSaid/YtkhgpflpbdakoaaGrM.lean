/- The statements' own small graph: the call. -/
import Derived.Test.YtkhgpflpbdakoaaGrL
namespace Go.Proofs.Ytkhgpflpbdakoaa
open Go Go.RowKit
set_option linter.unusedVariables false
set_option linter.unusedSimpArgs false

theorem cIn1 : EgIn (-1, 1, 2, 5) := ⟨⟨by decide, by decide⟩, ⟨by decide, by decide⟩, ⟨by decide, by decide⟩, ⟨by decide, by decide⟩⟩
theorem cIn2 : EgIn (1, 0, 0, 0) := ⟨⟨by decide, by decide⟩, ⟨by decide, by decide⟩, ⟨by decide, by decide⟩, ⟨by decide, by decide⟩⟩
theorem cAdd1 {w : World} {B : Nat} {S : GrS} (h : GrM w B 3 [] S) (hB : B ≤ w.heap.size) :
    Calls Try.prog 10 #[(.pointer (some ⟨S.g, 0, none⟩)), .agg #[.int .i64 (-1), .int .i64 1, .int .i64 2, .int .i64 5]] w fun x w' => x = .returned (.int .i64 0) ∧ AddPost w B 3 [] S (-1, 1, 2, 5) w' :=
  add_new h (-1, 1, 2, 5) cIn1 ⟨.inl rfl, by decide, by decide⟩ (by simp) (by decide) hB
theorem cAdd2 {w : World} {B : Nat} {S : GrS} (h : GrM w B 3 [(-1, 1, 2, 5)] S) (hB : B ≤ w.heap.size) :
    Calls Try.prog 10 #[(.pointer (some ⟨S.g, 0, none⟩)), .agg #[.int .i64 1, .int .i64 0, .int .i64 0, .int .i64 0]] w fun x w' => x = .returned (.int .i64 0) ∧ AddPost w B 3 [(-1, 1, 2, 5)] S (1, 0, 0, 0) w' :=
  add_new h (1, 0, 0, 0) cIn2 ⟨.inr ⟨by decide, by decide⟩, by decide, by decide⟩ (by decide) (by decide) hB

set_option maxRecDepth 100000 in
set_option maxHeartbeats 4000000 in
theorem lcomes_any (w : World) : Calls Try.prog 8 #[] w fun e w' => e = .returned (.bool true) ∧ Below w.heap.size w w' := by
  have HN := Lib.hid (fun w => new_yes 3 w (by decide))
  go_enter Try.func8, Try.ntmps8
  go_wp2_with fail
  refine (HN.out _).mono ?_
  rintro e w1 ⟨S, rfl, h1, g1⟩
  have B1 := Lib.hid h1
  have HA := Lib.hid (cAdd1 g1 h1.size)
  clear h1 g1 HN
  go_wp2_with fail
  refine HA.out.mono ?_
  rintro e w2 ⟨rfl, S2, hS2, g2, k2, o2⟩
  have B2 := Lib.hid (B1.out.trans k2.1)
  have HA2 := Lib.hid (cAdd2 g2 (B1.out.trans k2.1).size)
  rw [hS2] at HA2
  have HS2 := Lib.hid hS2
  clear hS2 g2 k2 o2 HA
  go_wp2_with fail
  refine HA2.out.mono ?_
  rintro e w3 ⟨rfl, S3, hS3, g3, k3, o3⟩
  have B3 := Lib.hid (B2.out.trans k3.1)
  replace g3 : GrM w3 w.heap.size 3 cL S3 := g3
  have e3 : S3.g = S.g := by rw [hS3, HS2.out]
  have HS := Lib.hid (solve_any g3 (by decide) (by decide) cL_ok)
  rw [e3] at HS
  have G3 := Lib.hid g3
  have E3 := Lib.hid e3
  clear k3 o3 hS3 e3 HA2
  clear g3
  go_wp2_with fail
  refine HS.out.mono ?_
  rintro e w4 ⟨v4, s4, rfl, hv4, f4, h4⟩
  have HP := Lib.hid (path_any (G3.out.step h4) (by decide) (by decide) cL_ok 0 (by decide))
  rw [E3.out] at HP
  have H4 := Lib.hid h4
  have V4 := Lib.hid hv4.bl
  have F4 := Lib.hid (cFar f4)
  clear hv4 f4 h4 HS
  go_wp2_with fail
  refine HP.out.mono ?_
  rintro e w5 ⟨v5, s5, p, rfl, hv5, f5, hp, h5⟩
  obtain ⟨eb, rfl⟩ := cPath f5 hp
  have H5 := Lib.hid (after H4.out h5)
  have V5 := Lib.hid hv5
  have h6 : Below w5.heap.size w5 (w5.alloc (.cells #[.int .i64 1] 3)) := by repeat (first | exact Below.refl _ _ | apply Below.setCell _ (by first | omega | (simp <;> omega)) | apply Below.alloc _ (by first | omega | (simp <;> omega)))
  have G6 := Lib.hid (G3.out.step (after H5.out h6))
  have HSh := Lib.hid (shut_any G6.out (by decide) (by decide) cL_ok (v := .slice (some ⟨w5.heap.size, 0, none⟩) 1 1) (l := [1]) ⟨_, _, rfl, fun j hj => ⟨w5.heap.size, 0, rfl, by simp, by
    have : j = 0 := by simpa using hj
    subst this
    exact (Bx.new 3 w5 #[.int .i64 1]).cell 0⟩⟩ (by decide))
  rw [E3.out] at HSh
  have H6 := Lib.hid (after H5.out h6)
  have B56 := Lib.hid (after h5 h6)
  have B6 := Lib.hid h6
  clear hv5 f5 hp h5 h6 HP
  go_wp2_with fail
  refine HSh.out.mono ?_
  rintro e w7 ⟨v7, c7, s7, rfl, -, -, hc7, h7⟩
  rw [cCut] at hc7
  obtain ⟨cs, cc, rfl, -⟩ := hc7
  have G7 := Lib.hid (G6.out.step h7)
  have V47 := Lib.hid (V4.out.step (after B56.out h7))
  have V57 := Lib.hid (V5.out.step (after B6.out h7))
  have H7 := Lib.hid (after H6.out h7)
  have HLen := Lib.hid (len_any G7.out)
  rw [E3.out] at HLen
  clear h7 HSh
  obtain ⟨bs, bc, rfl, hbx⟩ := V47.out
  obtain ⟨q0, q1, q2⟩ := F4.out
  obtain ⟨g0, o0, rfl, hg0, z0⟩ := hbx 0 (by decide)
  have z1 : w7.cell? ⟨g0, o0 + 1, none⟩ = some (.bool true) := by
    obtain ⟨g, o, hq, hg, hz⟩ := hbx 1 (by decide)
    cases hq
    rw [hz]
    show some (Value.bool (s4.far 1 != -1)) = _
    rw [q1]; rfl
  have z2 : w7.cell? ⟨g0, o0 + 2, none⟩ = some (.bool false) := by
    obtain ⟨g, o, hq, hg, hz⟩ := hbx 2 (by decide)
    cases hq
    rw [hz]
    show some (Value.bool (s4.far 2 != -1)) = _
    rw [q2]; rfl
  have z0 : w7.cell? ⟨g0, o0, none⟩ = some (.bool true) := by
    have : w7.cell? ⟨g0, o0, none⟩ = some (.bool (s4.far 0 != -1)) := z0
    rw [q0] at this
    exact this
  obtain ⟨ps, pc, rfl, hpx⟩ := V57.out
  obtain ⟨pg, po, rfl, hpg, p0, p1, p2, p3⟩ := hpx 0 (by simp)
  have p3 : w7.cell? ⟨pg, po + 3, none⟩ = some (.int .i64 5) := by
    have := p3
    rw [Nat.zero_mul, Nat.add_zero] at this
    exact this
  have FT : Hid ((s4.far 0 != -1) = true ∧ (s4.far 1 != -1) = true) := Lib.hid (by rw [q0, q1]; exact ⟨rfl, rfl⟩)
  have hpl : ([(-1, 1, 2, 5), eb] : List Eg).length = 2 := rfl
  rw [hpl] at *
  have hcl : ([(-1, 1, 2, 5)] : List Eg).length = 1 := rfl
  rw [hcl]
  clear hbx hpx p0 p1 p2 q0 q1 q2
  go_wp2_with fail
  refine HLen.out.mono ?_
  rintro e w8 ⟨rfl, hw⟩
  replace hw := hw.symm
  subst hw
  have HE := Lib.hid (edges_any G7.out (by decide))
  rw [E3.out] at HE
  go_wp2_with fail
  refine HE.out.mono ?_
  rintro e w9 ⟨v9, rfl, ho9, h9⟩
  obtain ⟨es, ec, rfl⟩ := own_any_shape ho9
  have HR := Lib.hid (right_any (G7.out.step h9) (by decide) (by decide) cL_ok (V47.out.step h9))
  rw [E3.out, cRight FT.out.1 FT.out.2] at HR
  have H9 := Lib.hid (after H7.out h9)
  have hel : cL.length = 2 := rfl
  rw [hel]
  clear ho9 h9 hel
  go_wp2_with fail
  refine HR.out.mono ?_
  rintro e w10 ⟨rfl, h10⟩
  have H10 := Lib.hid (after H9.out h10)
  clear h10
  go_wp2_with fail
  go_ret
  exact ⟨rfl, B3.out.trans (H10.out.mono B3.out.size)⟩
end Go.Proofs.Ytkhgpflpbdakoaa
