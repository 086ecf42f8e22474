/- The statements' build: a graph and its edges. -/
import Derived.Test.YtkhgpflpbdakoaaGrO
namespace Go.Proofs.Ytkhgpflpbdakoaa
open Go Go.RowKit
set_option linter.unusedVariables false
set_option linter.unusedSimpArgs false

theorem build_no {w : World} (z : Int) (v : Value) (l : List Eg) (hv : EgV w v l) (hl : l.length ≤ 9223372036854775807) (h : z < 0 ∨ 60 < z ∨ 150 < l.length) :
    Calls Try.prog 13 #[.int .i64 z, v] w fun e w' => e = .returned (.tuple #[.pointer none, .slice none 0 0, .bool false]) ∧ Below w.heap.size w w' := by
  obtain ⟨src, cap, rfl, -⟩ := hv
  obtain ⟨m, hm⟩ : ∃ m, m = l.length := ⟨_, rfl⟩
  rw [← hm] at h ⊢
  clear hm
  by_cases h1 : z < 0
  · clear h
    go_enter Try.func13, Try.ntmps13
    go_wp2_with fail
    go_ret3
    exact ⟨rfl, Below.refl _ _⟩
  · by_cases h2 : 60 < z
    · clear h
      go_enter Try.func13, Try.ntmps13
      go_wp2_with fail
      go_ret3
      exact ⟨rfl, Below.refl _ _⟩
    · have h3 : (150 : Int) < (m : Int) := by omega
      clear h
      go_enter Try.func13, Try.ntmps13
      go_wp2_with fail
      go_ret3
      exact ⟨rfl, Below.refl _ _⟩
/-- what build leaves -/
def BuildPost (w : World) (n : Nat) (e : Ending) (w' : World) : Prop :=
  ∃ g L av B top, e = .returned (.tuple #[.pointer (some ⟨g, 0, none⟩), av, .bool true]) ∧ AI w w' B n g top L 41 L av ∧ (∀ x ∈ L, okE' n x) ∧ L.length ≤ 150
theorem infoR : (Try.prog.info? 41).map (fun i => (i.zero, i.size, i.bytes)) = some (some (.agg #[.int .i64 0, .int .i64 0, .int .i64 0, .int .i64 0]), 4, 32) := by kernel_rfl
set_option maxRecDepth 100000 in
set_option maxHeartbeats 4000000 in
theorem build_any {w : World} (n : Nat) (hn : n ≤ 60) (v : Value) (l : List Eg) (hv : EgV w v l) (hin : ∀ e ∈ l, EgIn e) (hl : l.length ≤ 150) :
    Calls Try.prog 13 #[.int .i64 (n : Int), v] w (BuildPost w n) := by
  obtain ⟨src, cap, rfl, hx⟩ := hv
  have HX := Lib.hid hx
  have HIN := Lib.hid hin
  have HL := Lib.hid hl
  have HN := Lib.hid hn
  obtain ⟨m, hm⟩ : ∃ m, m = l.length := ⟨_, rfl⟩
  rw [← hm]
  have HM := Lib.hid hm
  have i1 : ¬ (150 : Int) < (m : Int) := by omega
  have i2 : ¬ (60 : Int) < (n : Int) := by omega
  have i3 : ¬ (n : Int) < 0 := by omega
  have HNW := Lib.hid (fun w => new_yes n w (by omega))
  clear hx hin hl hn hm
  go_enter Try.func13, Try.ntmps13
  go_wp2_with fail
  refine (HNW.out _).mono ?_
  rintro e w2 ⟨S0, rfl, k2, g2⟩
  have A0 := Lib.hid (AI.new (Below.refl _ _) k2 g2 41)
  obtain ⟨B, hB⟩ : ∃ B, B = w.heap.size := ⟨_, rfl⟩
  obtain ⟨g, hg⟩ : ∃ g, g = S0.g := ⟨_, rfl⟩
  rw [← hB, ← hg] at A0
  rw [← hg]
  clear k2 g2 HNW hB hg
  go_wp2_with fail
  clear i1 i2 i3
  obtain ⟨i0, hi0, hz0, hs0, hb0⟩ := info_parts infoR
  go_loopg [9, 32] m (fun gk av iv wr => ∃ (j : Nat), ∃ A : List Eg, ∃ top : Nat, iv = .int .i64 (j : Int) ∧ j + gk = m ∧ AI w wr B n g top A 41 A av ∧ A.length ≤ j ∧ ∀ x ∈ A, okE' n x)
  case atStart => exact ⟨0, [], _, rfl, by omega, A0.out, by simp, fun x hx => by cases hx⟩
  case round =>
    clear A0
    obtain ⟨j, A, top, rfl, hjk, hai, hAj, hok⟩ := hrel
    have AR := Lib.hid hai.tops
    have HAJ := Lib.hid hAj
    have HOK := Lib.hid hok
    have HA150 : Hid (A.length ≤ 150) := Lib.hid (by have := HM.out; have := HL.out; omega)
    clear hai hAj hok
    cases gk with
    | zero =>
      have d1 : decide ((j : Int) < (m : Int)) = false := decide_eq_false (by omega)
      have d2 : ¬ (j : Int) < (m : Int) := by omega
      have d3 : decide (j < m) = false := decide_eq_false (by omega)
      have d4 : ¬ j < m := by omega
      go_wp2_with fail
      go_ret3
      exact ⟨g, A, u9, B, _, rfl, AR.out, HOK.out, HA150.out⟩
    | succ gko =>
      have hjl : j < l.length := by rw [← HM.out]; omega
      obtain ⟨vg, off, rfl, hvg, e0, e1, e2, e3⟩ := HX.out j hjl
      have e0 := keep AR.out.bel hvg e0
      have e1 := keep AR.out.bel hvg e1
      have e2 := keep AR.out.bel hvg e2
      have e3 := keep AR.out.bel hvg e3
      have hvg := Nat.lt_of_lt_of_le hvg AR.out.bel.size
      have HE := Lib.hid (HIN.out _ (List.getElem_mem hjl))
      generalize l[j] = e at *
      have j1 : (j : Int) < (m : Int) := by omega
      have j2 : j < m := by omega
      have hw1 : IntKind.i64.wrap ((j : Int) + 1) = (j : Int) + 1 := IntWalk.i64_in _ ⟨by omega, by have := HM.out; have := HL.out; omega⟩
      have AX := Lib.hid (AR.out.step (show Below wr.heap.size wr (wr.alloc (.cells #[.int .i64 e.1, .int .i64 e.2.1, .int .i64 e.2.2.1, .int .i64 e.2.2.2] 29)) by repeat (first | exact Below.refl _ _ | apply Below.setCell _ (by first | omega | (simp <;> omega)) | apply Below.alloc _ (by first | omega | (simp <;> omega)))))
      have X9 : Hid (Bx 29 (wr.alloc (.cells #[.int .i64 e.1, .int .i64 e.2.1, .int .i64 e.2.2.1, .int .i64 e.2.2.2] 29)) wr.heap.size (egC e)) := Lib.hid (Bx.new 29 wr (egC e).toArray)
      by_cases ok : okE n e
      · by_cases mem : e ∈ A
        · have HA := Lib.hid (AX.out.twice e HE.out ok mem)
          clear ok mem
          go_wp2_with fail
          refine HA.out.mono ?_
          rintro x w5 ⟨rfl, h5⟩
          have A5 := Lib.hid (AX.out.step h5)
          clear h5
          go_wp2_with fail
          go_roundg gko
          case measure => omega
          case rel => exact ⟨j + 1, A, _, by push_cast; rfl, by omega, A5.out, by have := HAJ.out; omega, HOK.out⟩
        · have HA := Lib.hid (AX.out.fresh e HE.out ok mem (by have := HA150.out; omega))
          have HOK2 : Hid (∀ x ∈ A ++ [e], okE' n x) := Lib.hid (fun x hx => by
            rcases List.mem_append.1 hx with q | q
            · exact HOK.out x q
            · rw [List.mem_singleton] at q; rw [q]; exact ok)
          clear ok mem
          go_wp2_with fail
          refine HA.out.mono ?_
          rintro x w5 ⟨rfl, h5, k5⟩
          have x5 : Bx 29 w5 wr.heap.size (egC e) := X9.out.at_ (k := wr.heap.size) (k5 wr.heap.size (Nat.le_refl _) X9.out.lt)
          have A5 := Lib.hid h5
          obtain ⟨y0, y1, y2, y3, yl, yf⟩ := x5.four
          have B5 : Hid (Below w5.heap.size w5 (w5.alloc (.cells (egC e).toArray 41))) := Lib.hid (by repeat (first | exact Below.refl _ _ | apply Below.setCell _ (by first | omega | (simp <;> omega)) | apply Below.alloc _ (by first | omega | (simp <;> omega))))
          have HO5 : Hid ((w5.alloc (.cells (egC e).toArray 41)).ownsRow B 41 4 u9 A.length (flatG A)) := Lib.hid (A5.out.step B5.out).row.1
          have NEWS : Hid (∀ j u, (egC e)[j]? = some u → (w5.alloc (.cells (egC e).toArray 41)).cell? ((⟨w5.heap.size, 0, none⟩ : Addr).add j) = some u) := Lib.hid (by
            intro j u hj
            rw [add_at, Nat.zero_add]
            exact ((Bx.new 41 w5 (egC e).toArray).cell j).trans hj)
          have ONE : Hid (∀ u ∈ egC e, u.oneCell' = true) := Lib.hid (by
            intro u hu
            unfold egC at hu
            simp only [List.mem_cons, List.not_mem_nil, or_false] at hu
            rcases hu with rfl | rfl | rfl | rfl <;> rfl)
          have N1 : Hid (A.length + 1 ≤ maxLen) := Lib.hid (by have := HA150.out; unfold maxLen; omega)
          have N2 : Hid ((A.length + 1) * 32 ≤ 140737488355328) := Lib.hid (by have := HA150.out; omega)
          have N3 : Hid (B ≤ (w5.alloc (.cells (egC e).toArray 41)).heap.size) := Lib.hid (A5.out.step B5.out).row.2
          clear h5 k5 x5 e0 e1 e2 e3
          go_wp2_with (at_builtin; refine wpList_append_own_at _ (by rfl) (.tmp 40) (.tmp 42) 35 (by rfl) B 41 i0 (.agg #[.int .i64 0, .int .i64 0, .int .i64 0, .int .i64 0]) 4 32 Try.underlying35 hi0 hz0 hs0 hb0 rfl (by decide) u9 A.length (flatG A) (by rfl) HO5.out ⟨w5.heap.size, 0, none⟩ 1 1 (egC e) (by rfl) rfl NEWS.out ONE.out N1.out N2.out N3.out ?_; intro v9 w9 hown9 hgr9 hnil9 hat9)
          go_roundg gko
          case measure => omega
          case rel =>
            refine ⟨j + 1, A ++ [e], _, by push_cast; rfl, by omega, A5.out.push hown9 hgr9 hat9, by rw [List.length_append]; have := HAJ.out; simp; omega, HOK2.out⟩
      · have HA := Lib.hid (AX.out.range e HE.out ok)
        clear ok
        go_wp2_with fail
        refine HA.out.mono ?_
        rintro x w5 ⟨rfl, h5⟩
        have A5 := Lib.hid (AX.out.step h5)
        clear h5
        go_wp2_with fail
        go_roundg gko
        case measure => omega
        case rel => exact ⟨j + 1, A, _, by push_cast; rfl, by omega, A5.out, by have := HAJ.out; omega, HOK.out⟩
end Go.Proofs.Ytkhgpflpbdakoaa
