/- Contracts of a heap's Load, Class, Elem and Len. -/
import Derived.Test.YtfkcjnlhindhfaaHpE
namespace Go.Proofs.Ytfkcjnlhindhfaa
open Go Go.RowKit
set_option linter.unusedVariables false
set_option linter.unusedSimpArgs false

set_option maxHeartbeats 2000000 in
theorem load_no (b bB m : Nat) (L : List ThR) (v : Value) (k n : Int) (s : ByteArray) (j : Int) (w : World) (h : HpM w bB b L m v) (ht : thereN L k n = false) :
    Calls Try.prog 10 #[.pointer (some ⟨b, 0, none⟩), .agg #[.int .i64 k, .int .i64 n, .string s], .int .i64 j] w fun e w' => e = .returned (.tuple #[.agg #[.int .i64 0, .int .i64 0, .string ⟨#[]⟩], .int .i64 3]) ∧ Below w.heap.size w w' := by
  have HC := Lib.hid (fun w2 (hb : Below w.heap.size w w2) => cell_no b bB m L v k n s j w2 (h.step hb) ht)
  clear h ht
  go_enter Try.func10, Try.ntmps10
  go_wp2_with fail
  refine (HC.out _ (by repeat (first | exact Below.refl _ _ | apply Below.setCell _ (by first | omega | (simp <;> omega)) | apply Below.alloc _ (by first | omega | (simp <;> omega))))).mono ?_
  rintro e w1 ⟨rfl, h1⟩
  obtain ⟨hb1, x1, x2⟩ := box2 h1
  obtain ⟨q0, q1, q2, ql, qf⟩ := x2.three
  go_wp2_with fail
  refine bodyPost_ret (v := .tuple #[.agg #[.int .i64 0, .int .i64 0, .string ⟨#[]⟩], .int .i64 3]) (by simp [results, Try.results10, go_sem, q0, q1, q2]) rfl ?_
  exact ⟨rfl, hb1.trans (by repeat (first | exact Below.refl _ _ | apply Below.setCell _ (by first | omega | (simp <;> omega)) | apply Below.alloc _ (by first | omega | (simp <;> omega))))⟩
set_option maxHeartbeats 2000000 in
theorem load_out (b bB m : Nat) (L : List ThR) (v : Value) (i : Nat) (s : ByteArray) (j : Int) (w : World) (h : HpM w bB b L m v) (hi : i < L.length) (hj : j < 0 ∨ (L[i].1.vs.length : Int) ≤ j) :
    Calls Try.prog 10 #[.pointer (some ⟨b, 0, none⟩), .agg #[.int .i64 5, .int .i64 (i : Nat), .string s], .int .i64 j] w fun e w' => e = .returned (.tuple #[.agg #[.int .i64 0, .int .i64 0, .string ⟨#[]⟩], .int .i64 1]) ∧ Below w.heap.size w w' := by
  have HC := Lib.hid (fun w2 (hb : Below w.heap.size w w2) => cell_out b bB m L v i s j w2 (h.step hb) hi hj)
  clear h hj
  go_enter Try.func10, Try.ntmps10
  go_wp2_with fail
  refine (HC.out _ (by repeat (first | exact Below.refl _ _ | apply Below.setCell _ (by first | omega | (simp <;> omega)) | apply Below.alloc _ (by first | omega | (simp <;> omega))))).mono ?_
  rintro e w1 ⟨rfl, h1⟩
  obtain ⟨hb1, x1, x2⟩ := box2 h1
  obtain ⟨q0, q1, q2, ql, qf⟩ := x2.three
  go_wp2_with fail
  refine bodyPost_ret (v := .tuple #[.agg #[.int .i64 0, .int .i64 0, .string ⟨#[]⟩], .int .i64 1]) (by simp [results, Try.results10, go_sem, q0, q1, q2]) rfl ?_
  exact ⟨rfl, hb1.trans (by repeat (first | exact Below.refl _ _ | apply Below.setCell _ (by first | omega | (simp <;> omega)) | apply Below.alloc _ (by first | omega | (simp <;> omega))))⟩
set_option maxHeartbeats 2000000 in
theorem load_in (b bB m : Nat) (L : List ThR) (v : Value) (i : Nat) (s : ByteArray) (j : Nat) (w : World) (x : Vl) (h : HpM w bB b L m v) (hi : i < L.length) (hj : j < L[i].1.vs.length) (hx : L[i].1.vs[j] = x) :
    Calls Try.prog 10 #[.pointer (some ⟨b, 0, none⟩), .agg #[.int .i64 5, .int .i64 (i : Nat), .string s], .int .i64 (j : Nat)] w fun e w' => e = .returned (.tuple #[.agg #[.int .i64 x.1, .int .i64 x.2.1, .string x.2.2], .int .i64 0]) ∧ Below w.heap.size w w' := by
  have HC := Lib.hid (fun w2 (hb : Below w.heap.size w w2) => cell_in b bB m L v i s j w2 (h.step hb) hi hj)
  have HX := Lib.hid (fun w2 (hb : Below w.heap.size w w2) => And.intro (((h.step hb).cells _ (List.getElem_mem hi)).2.vcells j hj) ((h.step hb).cells _ (List.getElem_mem hi)).2.lt)
  have HV := Lib.hid (fun w => vown_any x.1 x.2.1 x.2.2 w (by rw [← hx]; exact (h.fit _ (List.getElem_mem hi)).vs _ (List.getElem_mem hj)))
  rw [hx] at HX
  clear h hx
  generalize hy : L[i].2 = y at *
  clear hy hj
  go_enter Try.func10, Try.ntmps10
  go_wp2_with fail
  refine (HC.out _ (by repeat (first | exact Below.refl _ _ | apply Below.setCell _ (by first | omega | (simp <;> omega)) | apply Below.alloc _ (by first | omega | (simp <;> omega))))).mono ?_
  rintro e w1 ⟨rfl, h1⟩
  obtain ⟨hb1, x1, x2⟩ := box2 h1
  have HB1 := Lib.hid hb1
  have X2 := Lib.hid x2
  obtain ⟨⟨c0, c1, c2⟩, cl⟩ := HX.out _ hb1
  clear h1 x1 x2
  go_wp2_with fail
  refine (HV.out _).mono ?_
  rintro e w2 ⟨rfl, h2⟩
  obtain ⟨q0, q1, q2, ql, qf⟩ := (X2.out.keep h2).three
  have hb2 := after HB1.out h2
  go_wp2_with fail
  refine bodyPost_ret (v := .tuple #[.agg #[.int .i64 x.1, .int .i64 x.2.1, .string x.2.2], .int .i64 0]) (by simp [results, Try.results10, go_sem, q0, q1, q2]) rfl ?_
  exact ⟨rfl, hb2.trans (by repeat (first | exact Below.refl _ _ | apply Below.setCell _ (by first | omega | (simp <;> omega)) | apply Below.alloc _ (by first | omega | (simp <;> omega))))⟩

set_option maxHeartbeats 2000000 in
theorem len_no (b bB m : Nat) (L : List ThR) (v : Value) (k n : Int) (s : ByteArray) (w : World) (h : HpM w bB b L m v) (ht : thereN L k n = false) :
    Calls Try.prog 16 #[.pointer (some ⟨b, 0, none⟩), .agg #[.int .i64 k, .int .i64 n, .string s]] w fun e w' => e = .returned (.int .i64 (-1)) ∧ Below w.heap.size w w' := by
  have HC := Lib.hid (fun w2 (hb : Below w.heap.size w w2) => hat_no b bB m L v k n s w2 (h.step hb) ht)
  clear h ht
  go_enter Try.func16, Try.ntmps16
  go_wp2_with fail
  refine (HC.out _ (by repeat (first | exact Below.refl _ _ | apply Below.setCell _ (by first | omega | (simp <;> omega)) | apply Below.alloc _ (by first | omega | (simp <;> omega))))).mono ?_
  rintro e w1 ⟨rfl, h1⟩
  obtain ⟨hb1, -⟩ := box1 h1
  go_wp2_with fail
  go_ret
  exact ⟨rfl, hb1⟩
set_option maxHeartbeats 2000000 in
theorem len_yes (b bB m : Nat) (L : List ThR) (v : Value) (i : Nat) (s : ByteArray) (w : World) (h : HpM w bB b L m v) (hi : i < L.length) :
    Calls Try.prog 16 #[.pointer (some ⟨b, 0, none⟩), .agg #[.int .i64 5, .int .i64 (i : Nat), .string s]] w fun e w' => e = .returned (.int .i64 (L[i].1.vs.length : Nat)) ∧ Below w.heap.size w w' := by
  obtain ⟨g, c, rfl, -⟩ := h.thing i hi
  have HC := Lib.hid (fun w2 (hb : Below w.heap.size w w2) => hat_yes b bB m L g c i s w2 (h.step hb) hi)
  have HT := Lib.hid (fun w2 (hb : Below w.heap.size w w2) => (h.step hb).thing i hi)
  have HF := Lib.hid (h.fit _ (List.getElem_mem hi))
  clear h
  generalize hy : L[i] = y at *
  have HY := Lib.hid hy
  clear hy
  go_enter Try.func16, Try.ntmps16
  go_wp2_with fail
  refine (HC.out _ (by repeat (first | exact Below.refl _ _ | apply Below.setCell _ (by first | omega | (simp <;> omega)) | apply Below.alloc _ (by first | omega | (simp <;> omega))))).mono ?_
  rintro e w1 ⟨rfl, h1⟩
  obtain ⟨hb1, -⟩ := box1 h1
  obtain ⟨g', c', hv, hg, c0, c1, c2, c3, c4, c5, c6⟩ := HT.out _ hb1
  simp only [Value.slice.injEq, Option.some.injEq, Addr.mk.injEq, and_true, true_and] at hv
  obtain ⟨rfl, rfl⟩ := hv
  go_wp2_with fail
  go_ret
  exact ⟨rfl, hb1⟩
set_option maxHeartbeats 2000000 in
theorem class_no (b bB m : Nat) (L : List ThR) (v : Value) (i : Nat) (s : ByteArray) (w : World) (h : HpM w bB b L m v) (hi : i < L.length) (ha : L[i].1.arr = true) :
    Calls Try.prog 14 #[.pointer (some ⟨b, 0, none⟩), .agg #[.int .i64 5, .int .i64 (i : Nat), .string s]] w fun e w' => e = .returned (.tuple #[.string ⟨#[]⟩, .bool false]) ∧ Below w.heap.size w w' := by
  obtain ⟨g, c, rfl, -⟩ := h.thing i hi
  have HC := Lib.hid (fun w2 (hb : Below w.heap.size w w2) => hat_yes b bB m L g c i s w2 (h.step hb) hi)
  have HT := Lib.hid (fun w2 (hb : Below w.heap.size w w2) => (h.step hb).thing i hi)
  have HF := Lib.hid (h.fit _ (List.getElem_mem hi))
  clear h
  generalize hy : L[i] = y at *
  have HY := Lib.hid hy
  clear hy
  go_enter Try.func14, Try.ntmps14
  go_wp2_with fail
  refine (HC.out _ (by repeat (first | exact Below.refl _ _ | apply Below.setCell _ (by first | omega | (simp <;> omega)) | apply Below.alloc _ (by first | omega | (simp <;> omega))))).mono ?_
  rintro e w1 ⟨rfl, h1⟩
  obtain ⟨hb1, -⟩ := box1 h1
  obtain ⟨g', c', hv, hg, c0, c1, c2, c3, c4, c5, c6⟩ := HT.out _ hb1
  simp only [Value.slice.injEq, Option.some.injEq, Addr.mk.injEq, and_true, true_and] at hv
  obtain ⟨rfl, rfl⟩ := hv
  go_wp2_with fail
  go_ret2
  exact ⟨rfl, hb1⟩
set_option maxHeartbeats 2000000 in
theorem class_yes (b bB m : Nat) (L : List ThR) (v : Value) (i : Nat) (s : ByteArray) (w : World) (h : HpM w bB b L m v) (hi : i < L.length) (ha : L[i].1.arr = false) :
    Calls Try.prog 14 #[.pointer (some ⟨b, 0, none⟩), .agg #[.int .i64 5, .int .i64 (i : Nat), .string s]] w fun e w' => e = .returned (.tuple #[.string L[i].1.cls, .bool true]) ∧ Below w.heap.size w w' := by
  obtain ⟨g, c, rfl, -⟩ := h.thing i hi
  have HC := Lib.hid (fun w2 (hb : Below w.heap.size w w2) => hat_yes b bB m L g c i s w2 (h.step hb) hi)
  have HT := Lib.hid (fun w2 (hb : Below w.heap.size w w2) => (h.step hb).thing i hi)
  have HF := Lib.hid (h.fit _ (List.getElem_mem hi))
  clear h
  generalize hy : L[i] = y at *
  have HY := Lib.hid hy
  clear hy
  have HL := Lib.hid (fun w => clone_any y.1.cls w HF.out.cls)
  clear HF
  go_enter Try.func14, Try.ntmps14
  go_wp2_with fail
  refine (HC.out _ (by repeat (first | exact Below.refl _ _ | apply Below.setCell _ (by first | omega | (simp <;> omega)) | apply Below.alloc _ (by first | omega | (simp <;> omega))))).mono ?_
  rintro e w1 ⟨rfl, h1⟩
  obtain ⟨hb1, -⟩ := box1 h1
  obtain ⟨g', c', hv, hg, c0, c1, c2, c3, c4, c5, c6⟩ := HT.out _ hb1
  simp only [Value.slice.injEq, Option.some.injEq, Addr.mk.injEq, and_true, true_and] at hv
  obtain ⟨rfl, rfl⟩ := hv
  go_wp2_with fail
  refine (HL.out _).mono ?_
  rintro e w2 ⟨rfl, h2⟩
  go_wp2_with fail
  go_ret2
  exact ⟨rfl, after hb1 h2⟩
set_option maxHeartbeats 2000000 in
theorem elem_no (b bB m : Nat) (L : List ThR) (v : Value) (i : Nat) (s : ByteArray) (w : World) (h : HpM w bB b L m v) (hi : i < L.length) (ha : L[i].1.arr = false) :
    Calls Try.prog 15 #[.pointer (some ⟨b, 0, none⟩), .agg #[.int .i64 5, .int .i64 (i : Nat), .string s]] w fun e w' => e = .returned (.tuple #[.agg #[.int .i64 0, .string ⟨#[]⟩, .int .i64 0, .string ⟨#[]⟩], .bool false]) ∧ Below w.heap.size w w' := by
  obtain ⟨g, c, rfl, -⟩ := h.thing i hi
  have HC := Lib.hid (fun w2 (hb : Below w.heap.size w w2) => hat_yes b bB m L g c i s w2 (h.step hb) hi)
  have HT := Lib.hid (fun w2 (hb : Below w.heap.size w w2) => (h.step hb).thing i hi)
  have HF := Lib.hid (h.fit _ (List.getElem_mem hi))
  clear h
  generalize hy : L[i] = y at *
  have HY := Lib.hid hy
  clear hy
  go_enter Try.func15, Try.ntmps15
  go_wp2_with fail
  refine (HC.out _ (by repeat (first | exact Below.refl _ _ | apply Below.setCell _ (by first | omega | (simp <;> omega)) | apply Below.alloc _ (by first | omega | (simp <;> omega))))).mono ?_
  rintro e w1 ⟨rfl, h1⟩
  obtain ⟨hb1, x1, x2⟩ := box2 h1
  obtain ⟨q0, q1, q2, q3, ql, qf⟩ := x2.four
  obtain ⟨g', c', hv, hg, c0, c1, c2, c3, c4, c5, c6⟩ := HT.out _ hb1
  simp only [Value.slice.injEq, Option.some.injEq, Addr.mk.injEq, and_true, true_and] at hv
  obtain ⟨rfl, rfl⟩ := hv
  go_wp2_with fail
  refine bodyPost_ret (v := .tuple #[.agg #[.int .i64 0, .string ⟨#[]⟩, .int .i64 0, .string ⟨#[]⟩], .bool false]) (by simp [results, Try.results15, go_sem, q0, q1, q2, q3]) rfl ?_
  exact ⟨rfl, hb1.trans (by repeat (first | exact Below.refl _ _ | apply Below.setCell _ (by first | omega | (simp <;> omega)) | apply Below.alloc _ (by first | omega | (simp <;> omega))))⟩
set_option maxHeartbeats 2000000 in
theorem elem_yes (b bB m : Nat) (L : List ThR) (v : Value) (i : Nat) (s : ByteArray) (w : World) (h : HpM w bB b L m v) (hi : i < L.length) (ha : L[i].1.arr = true) :
    Calls Try.prog 15 #[.pointer (some ⟨b, 0, none⟩), .agg #[.int .i64 5, .int .i64 (i : Nat), .string s]] w fun e w' => e = .returned (.tuple #[.agg #[.int .i64 L[i].1.ty.1, .string L[i].1.ty.2.1, .int .i64 L[i].1.ty.2.2.1, .string L[i].1.ty.2.2.2], .bool true]) ∧ Below w.heap.size w w' := by
  obtain ⟨g, c, rfl, -⟩ := h.thing i hi
  have HC := Lib.hid (fun w2 (hb : Below w.heap.size w w2) => hat_yes b bB m L g c i s w2 (h.step hb) hi)
  have HT := Lib.hid (fun w2 (hb : Below w.heap.size w w2) => (h.step hb).thing i hi)
  have HF := Lib.hid (h.fit _ (List.getElem_mem hi))
  clear h
  generalize hy : L[i] = y at *
  have HY := Lib.hid hy
  clear hy
  have HL := Lib.hid (fun w => own_any y.1.ty.1 y.1.ty.2.1 y.1.ty.2.2.1 y.1.ty.2.2.2 w HF.out.N HF.out.M)
  clear HF
  go_enter Try.func15, Try.ntmps15
  go_wp2_with fail
  refine (HC.out _ (by repeat (first | exact Below.refl _ _ | apply Below.setCell _ (by first | omega | (simp <;> omega)) | apply Below.alloc _ (by first | omega | (simp <;> omega))))).mono ?_
  rintro e w1 ⟨rfl, h1⟩
  obtain ⟨hb1, x1, x2⟩ := box2 h1
  have HB1 := Lib.hid hb1
  have X2 := Lib.hid x2
  obtain ⟨g', c', hv, hg, c0, c1, c2, c3, c4, c5, c6⟩ := HT.out _ hb1
  simp only [Value.slice.injEq, Option.some.injEq, Addr.mk.injEq, and_true, true_and] at hv
  obtain ⟨rfl, rfl⟩ := hv
  clear h1 x1 x2
  go_wp2_with fail
  refine (HL.out _).mono ?_
  rintro e w2 ⟨rfl, h2⟩
  obtain ⟨q0, q1, q2, q3, ql, qf⟩ := (X2.out.keep h2).four
  have hb2 := after HB1.out h2
  go_wp2_with fail
  refine bodyPost_ret (v := .tuple #[.agg #[.int .i64 y.1.ty.1, .string y.1.ty.2.1, .int .i64 y.1.ty.2.2.1, .string y.1.ty.2.2.2], .bool true]) (by simp [results, Try.results15, go_sem, q0, q1, q2, q3]) rfl ?_
  exact ⟨rfl, hb2.trans (by repeat (first | exact Below.refl _ _ | apply Below.setCell _ (by first | omega | (simp <;> omega)) | apply Below.alloc _ (by first | omega | (simp <;> omega))))⟩
end Go.Proofs.Ytfkcjnlhindhfaa
