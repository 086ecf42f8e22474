/- GraphAdds: the walk. -/
import Derived.Test.YtkhgpflpbdakoaaGrM
namespace Go.Proofs.Ytkhgpflpbdakoaa
open Go Go.RowKit
set_option linter.unusedVariables false
set_option linter.unusedSimpArgs false

theorem eqE (x y : Eg) (w : World) : Sem.run Try.prog (binOp BinOp.eql 29 (.agg #[.int .i64 x.1, .int .i64 x.2.1, .int .i64 x.2.2.1, .int .i64 x.2.2.2]) (.agg #[.int .i64 y.1, .int .i64 y.2.1, .int .i64 y.2.2.1, .int .i64 y.2.2.2])) w = .ok (.bool (decide (x = y))) w := by
  obtain ⟨x1, x2, x3, x4⟩ := x
  obtain ⟨y1, y2, y3, y4⟩ := y
  go_simp
  by_cases h1 : x1 = y1
  · by_cases h2 : x2 = y2
    · by_cases h3 : x3 = y3
      · by_cases h4 : x4 = y4
        · simp [h1, h2, h3, h4]
        · simp [h1, h2, h3, h4]
      · simp [h1, h2, h3]
    · simp [h1, h2]
  · simp [h1]
theorem neE (x y : Eg) (w : World) : Sem.run Try.prog (binOp BinOp.neq 29 (.agg #[.int .i64 x.1, .int .i64 x.2.1, .int .i64 x.2.2.1, .int .i64 x.2.2.2]) (.agg #[.int .i64 y.1, .int .i64 y.2.1, .int .i64 y.2.2.1, .int .i64 y.2.2.2])) w = .ok (.bool (!decide (x = y))) w := by
  obtain ⟨x1, x2, x3, x4⟩ := x
  obtain ⟨y1, y2, y3, y4⟩ := y
  go_simp
  by_cases h1 : x1 = y1
  · by_cases h2 : x2 = y2
    · by_cases h3 : x3 = y3
      · by_cases h4 : x4 = y4
        · simp [h1, h2, h3, h4]
        · simp [h1, h2, h3, h4]
      · simp [h1, h2, h3]
    · simp [h1, h2]
  · simp [h1]
open Classical in
/-- what is told of an edge, as far as some are looked at -/
noncomputable def wantP (n : Nat) (A : List Eg) (e : Eg) : Int := if ¬ okE n e then 1 else if e ∈ A then 4 else 0

theorem addsA {w : World} (z : Int) (v : Value) (l : List Eg) (hv : EgV w v l) (hl : l.length ≤ 9223372036854775807) (h : 150 < l.length ∨ 9000 < z) :
    Calls Try.prog 3 #[.int .i64 z, v] w fun e w' => e = .returned (.bool true) ∧ Below w.heap.size w w' := by
  obtain ⟨src, cap, rfl, -⟩ := hv
  obtain ⟨m, hm⟩ : ∃ m, m = l.length := ⟨_, rfl⟩
  rw [← hm] at h ⊢
  clear hm
  by_cases h1 : 150 < m
  · have i1 : (150 : Int) < (m : Int) := by omega
    clear h
    go_enter Try.func3, Try.ntmps3
    go_wp2_with fail
    refine (lcomes_any _).mono ?_
    rintro e w1 ⟨rfl, k1⟩
    go_wp2_with fail
    go_ret
    exact ⟨rfl, k1⟩
  · have i1 : ¬ (150 : Int) < (m : Int) := by omega
    have i2 : (9000 : Int) < z := by omega
    clear h
    go_enter Try.func3, Try.ntmps3
    go_wp2_with fail
    refine (lcomes_any _).mono ?_
    rintro e w1 ⟨rfl, k1⟩
    go_wp2_with fail
    go_ret
    exact ⟨rfl, k1⟩
theorem addsB {w : World} (z : Int) (v : Value) (l : List Eg) (hv : EgV w v l) (hl : l.length ≤ 150) (hz : z ≤ 9000) (h : z < 0 ∨ 8192 < z) :
    Calls Try.prog 3 #[.int .i64 z, v] w fun e w' => e = .returned (.bool true) ∧ Below w.heap.size w w' := by
  obtain ⟨src, cap, rfl, -⟩ := hv
  obtain ⟨m, hm⟩ : ∃ m, m = l.length := ⟨_, rfl⟩
  rw [← hm] at hl ⊢
  clear hm
  have HNW := Lib.hid (fun w => new_no z w h)
  have i1 : ¬ (150 : Int) < (m : Int) := by omega
  have i2 : ¬ (9000 : Int) < z := by omega
  by_cases h1 : z < 0
  · clear h
    go_enter Try.func3, Try.ntmps3
    go_wp2_with fail
    refine (lcomes_any _).mono ?_
    rintro e w1 ⟨rfl, k1⟩
    go_wp2_with fail
    refine (HNW.out _).mono ?_
    rintro e w2 ⟨rfl, k2⟩
    go_wp2_with fail
    go_ret
    exact ⟨rfl, after k1 k2⟩
  · have i3 : (8192 : Int) < z := by omega
    clear h
    go_enter Try.func3, Try.ntmps3
    go_wp2_with fail
    refine (lcomes_any _).mono ?_
    rintro e w1 ⟨rfl, k1⟩
    go_wp2_with fail
    refine (HNW.out _).mono ?_
    rintro e w2 ⟨rfl, k2⟩
    go_wp2_with fail
    go_ret
    exact ⟨rfl, after k1 k2⟩
end Go.Proofs.Ytkhgpflpbdakoaa
