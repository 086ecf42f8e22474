/- For any two whole numbers, ParseMany returns true and leaves its arguments as they were. -/
import Derived.Test.YtidannabjhbjpaaGreatDoorNPaMF
import Derived.Test.YtidannabjhbjpaaGreatDoorNPaPl
import Derived.Test.YtidannabjhbjpaaGreatDoorNLexPl
import Derived.Test.YtidannabjhbjpaaGreatDoorNTrFrame
set_option linter.unusedVariables false
set_option linter.unusedSimpArgs false
namespace Go.Proofs.YtidannabjhbjpaaGreatDoor
open Go Go.RowKit
section
variable {x : ByteArray} {W : List (Nat × List Nat)}
theorem pc_one (x : ByteArray) : UnitOne (pcOf x) := ⟨by show (L.intR (⟨#[49]⟩ : ByteArray)).2.toNat = 0; decide +kernel⟩
theorem len_of (h : L.WLex (L.natsOf x) W) : (pcOf x).toks.length = W.length + 1 := by
  obtain ⟨-, l, hl, hW⟩ := lex_wl h
  show (toksX x).length = _
  rw [hl, ← hW]; simp
theorem reps_map (n : Nat) (a : List (Nat × List Nat)) : (L.reps n a).map (fun t => (t.1, L.strN t.2)) = rpt n (a.map fun t => (t.1, L.strN t.2)) := by
  unfold L.reps rpt
  rw [List.map_flatten, List.map_replicate]
def Fits (b : Bool) (x : ByteArray) : Prop := (b = true → ∃ l, parsedX x = (l, 0, 0)) ∧ (b = false → ∃ z, parsedX x = ([], 2, z))
theorem fits_of {p q : Prop} [Decidable p] (hx : codeX x = 0) (h : (p → ∃ t, parseP (pcOf x) = .ok () t) ∧ (q → ∃ z, parseP (pcOf x) = .bad 2 z)) (hq : ¬ p → q) : Fits (decide p) x :=
  ⟨fun hn => by obtain ⟨t, e⟩ := h.1 (of_decide_eq_true hn); exact ⟨_, parsed_ok hx e⟩, fun hn => by obtain ⟨z, e⟩ := h.2 (hq (of_decide_eq_false hn)); exact ⟨z, parsed_bad hx e⟩⟩
theorem many0_of {n : Nat} (hn : n ≤ 100) (hx : L.natsOf x = L.reps n L.clsT) : Fits (decide (n ≤ 64)) x := by
  have hw : L.WLex (L.natsOf x) (L.reps n L.clsK) := by rw [hx]; exact L.wl_classes n (by omega)
  obtain ⟨h1, h2⟩ := lies_of hw
  have hl := len_of hw
  rw [reps_map, show (L.clsK.map fun t => (t.1, L.strN t.2)) = clsW from rfl] at h1
  rw [L.reps_len, show L.clsK.length = 4 from rfl] at h2 hl
  exact fits_of (lex_wl hw).1 (many0 (pc_nms x) n hn h1 (by omega) (by rw [Nat.mul_comm]; exact h2)) (fun h => by omega)
theorem many1_of {n : Nat} (hn : n ≤ 100) (hx : L.natsOf x = L.preT ++ (L.reps n L.fldT ++ [125])) : Fits (decide (n ≤ 64)) x := by
  have hw : L.WLex (L.natsOf x) (L.preK ++ (L.reps n L.fldK ++ [(5, [125])])) := by rw [hx]; exact L.wl_members n (by omega)
  obtain ⟨h1, h2⟩ := lies_of hw
  have hl := len_of hw
  rw [List.map_append, List.map_append, reps_map, show (L.preK.map fun t => (t.1, L.strN t.2)) = preW from rfl, show (L.fldK.map fun t => (t.1, L.strN t.2)) = fldW from rfl, show ([((5 : Nat), ([125] : List Nat))].map fun t => (t.1, L.strN t.2)) = [(5, ⟨#[125]⟩)] from rfl] at h1
  have e : (L.preK ++ (L.reps n L.fldK ++ [((5 : Nat), ([125] : List Nat))])).length = 3 * n + 4 := by simp [L.reps_len, L.preK, L.fldK]; omega
  rw [e] at h2 hl
  exact fits_of (lex_wl hw).1 (many1 (pc_nms x) n hn h1 (by omega) h2) (fun h => by omega)
theorem many2_of {r : Nat} (hr : r ≤ 99) (hx : L.natsOf x = L.methT ++ (40 :: (L.reps r L.parT ++ [105, 110, 116, 32, 120, 41, 123, 125, 125]))) : Fits (decide (r + 1 ≤ 64)) x := by
  have hw := L.wl_params r (by omega)
  rw [← hx] at hw
  obtain ⟨h1, h2⟩ := lies_of hw
  rw [List.map_append, List.map_cons, List.map_append, reps_map] at h1
  have h3 : Lies (pcOf x) (many2W r) 0 := h1
  have e := many2_len r
  have e2 : (L.methK ++ ((5, [40]) :: (L.reps r L.parK ++ [(1, [105, 110, 116]), (1, [120]), (5, [41]), (5, [123]), (5, [125]), (5, [125])]))).length = 12 + 3 * r := by simp [L.reps_len, L.methK, L.parK]; omega
  rw [e2] at h2
  exact fits_of (lex_wl hw).1 (many2 (pc_nms x) r hr h3 h2) (fun h => by omega)
theorem many3_of {r : Nat} (hr : r ≤ 99) (hx : L.natsOf x = L.shellT ++ (L.callT ++ (L.reps r L.argT ++ [49, 41, 59, 125, 125]))) : Fits (decide (r + 1 ≤ 64)) x := by
  have hw := L.wl_args r (by omega)
  rw [← hx] at hw
  obtain ⟨h1, h2⟩ := lies_of hw
  rw [List.map_append, List.map_append, List.map_append, reps_map] at h1
  have h3 : Lies (pcOf x) (many3W r) 0 := h1
  have e2 : (L.shellK ++ (L.callK ++ (L.reps r L.argK ++ [(2, [49]), (5, [41]), (5, [59]), (5, [125]), (5, [125])]))).length = 17 + 2 * r := by simp [L.reps_len, L.shellK, L.callK, L.argK]; omega
  rw [e2] at h2
  exact fits_of (lex_wl hw).1 (many3 (pc_nms x) (pc_one x) r hr h3 h2) (fun h => by omega)
theorem sums_of {n : Nat} (hn : n ≤ 100) (hx : L.natsOf x = L.shellT ++ ([123, 120, 61] ++ (49 :: (L.reps (41 * n) L.addT ++ [59, 125, 125])))) : Fits (decide (7 + 82 * n ≤ 8192)) x := by
  have hw := L.wl_sums (41 * n) (by omega)
  rw [← hx] at hw
  obtain ⟨h1, h2⟩ := lies_of hw
  simp only [List.map_append, List.map_cons, List.map_nil, reps_map] at h1
  have h3 : Lies (pcOf x) (sumW (41 * n)) 0 := h1
  have e2 : (L.shellK ++ ([(5, [123]), (1, [120]), (5, [61])] ++ ((2, [49]) :: (L.reps (41 * n) L.addK ++ [(5, [59]), (5, [125]), (5, [125])])))).length = 14 + 2 * (41 * n) := by simp [L.reps_len, L.shellK, L.addK]; omega
  rw [e2] at h2
  have hs := sums (pc_nms x) (pc_one x) (41 * n) (by omega) h3 h2
  exact fits_of (lex_wl hw).1 ⟨fun h => hs.1 (by omega), fun (h : 99 < n) => hs.2 (by omega)⟩ (fun h => by omega)
end
end Go.Proofs.YtidannabjhbjpaaGreatDoor
namespace Go.Proofs.YtidannabjhbjpaaGreatDoor
open Go Go.RowKit
def repS (s : ByteArray) (n : Nat) : ByteArray := ⟨(Lib.repeatL s.data.toList n).toArray⟩
theorem rpl_len (s : List UInt8) (n : Nat) : (Lib.repeatL s n).length = n * s.length := by
  induction n with
  | zero => simp [Lib.repeatL]
  | succ n ih => rw [Lib.repeatL, List.length_append, ih, Nat.succ_mul]; omega
theorem rpl_nats (s : List UInt8) (n : Nat) : (Lib.repeatL s n).map UInt8.toNat = L.reps n (s.map UInt8.toNat) := by
  induction n with
  | zero => rfl
  | succ n ih => rw [Lib.repeatL, List.map_append, ih, L.reps_succ]
theorem repS_size (s : ByteArray) (n : Nat) : (repS s n).size = n * s.size := by
  show (Lib.repeatL s.data.toList n).toArray.size = _
  rw [List.size_toArray, rpl_len]; rfl
theorem repS_nats (s : ByteArray) (n : Nat) : L.natsOf (repS s n) = L.reps n (L.natsOf s) := by
  unfold L.natsOf repS
  show ((Lib.repeatL s.data.toList n).toArray.toList).map UInt8.toNat = _
  rw [List.toList_toArray, rpl_nats]
theorem reps_any (s : ByteArray) (n : Nat) (w : World) (hn : n ≤ 100000) (hs : s.size ≤ 1000) : Calls Tryz.prog 24 #[.string s, .int .i64 (n : Nat)] w fun e w' => e = .returned (.string (repS s n)) ∧ Below w.heap.size w w' := by
  refine (Tryz.strings_Repeat s n w (by omega) (Nat.le_trans (Nat.mul_le_mul hs hn) (by omega))).mono ?_
  rintro e w' ⟨rfl, hb⟩
  exact ⟨rfl, hb⟩
theorem far_cell {w6 w7 w8 : World} {A1 : Obj} {c z : Value} {T : TypeId} (h7 : Below ((w6.alloc A1).alloc (.cells #[c, z] T)).heap.size ((w6.alloc A1).alloc (.cells #[c, z] T)) w7) (h8 : Below w7.heap.size w7 w8) (A B : Obj) : ((w8.alloc A).alloc B).cell? ⟨w6.heap.size + 1, 0, none⟩ = some c := by
  have s0 : ((w6.alloc A1).alloc (.cells #[c, z] T)).heap.size = w6.heap.size + 2 := by simp
  have s1 : ((w6.alloc A1).alloc (.cells #[c, z] T)).heap[w6.heap.size + 1]? = some (.cells #[c, z] T (0, 0)) := by
    have := heap_alloc_new (w6.alloc A1) (.cells #[c, z] T)
    simpa using this
  have h9 := after h7 h8
  have hs := h9.size
  have h : Below ((w6.alloc A1).alloc (.cells #[c, z] T)).heap.size ((w6.alloc A1).alloc (.cells #[c, z] T)) ((w8.alloc A).alloc B) := (h9.alloc hs A).alloc (by simp; omega) B
  rw [Lib.cell_of_heap ((h.block (w6.heap.size + 1) (by omega)).trans s1)]; rfl
theorem index4_0 (a b c d : ByteArray) (w : World) : Sem.run Tryz.prog (Instr.index 42 (.agg #[.string a, .string b, .string c, .string d]) (.int .i64 0)) w = Result.ok (.string a) w := by kernel_rfl
theorem index4_1 (a b c d : ByteArray) (w : World) : Sem.run Tryz.prog (Instr.index 42 (.agg #[.string a, .string b, .string c, .string d]) (.int .i64 1)) w = Result.ok (.string b) w := by kernel_rfl
theorem index4_2 (a b c d : ByteArray) (w : World) : Sem.run Tryz.prog (Instr.index 42 (.agg #[.string a, .string b, .string c, .string d]) (.int .i64 2)) w = Result.ok (.string c) w := by kernel_rfl
theorem index4_3 (a b c d : ByteArray) (w : World) : Sem.run Tryz.prog (Instr.index 42 (.agg #[.string a, .string b, .string c, .string d]) (.int .i64 3)) w = Result.ok (.string d) w := by kernel_rfl
def m0 (n : Nat) : ByteArray := repS (⟨#[99, 108, 97, 115, 115, 32, 65, 123, 125]⟩ : ByteArray) n
theorem m0_size (n : Nat) : (m0 n).size = n * 9 := repS_size _ n
theorem m0_nats (n : Nat) : L.natsOf (m0 n) = L.reps n L.clsT := repS_nats _ n
def m1 (n : Nat) : ByteArray := repS (⟨#[105, 110, 116, 32, 120, 59]⟩ : ByteArray) n
theorem m1_size (n : Nat) : (m1 n).size = n * 6 := repS_size _ n
theorem m1_nats (n : Nat) : L.natsOf (m1 n) = L.reps n L.fldT := repS_nats _ n
def m2 (n : Nat) : ByteArray := repS (⟨#[105, 110, 116, 32, 120, 44]⟩ : ByteArray) n
theorem m2_size (n : Nat) : (m2 n).size = n * 6 := repS_size _ n
theorem m2_nats (n : Nat) : L.natsOf (m2 n) = L.reps n L.parT := repS_nats _ n
def m3 (n : Nat) : ByteArray := repS (⟨#[49, 44]⟩ : ByteArray) n
theorem m3_size (n : Nat) : (m3 n).size = n * 2 := repS_size _ n
theorem m3_nats (n : Nat) : L.natsOf (m3 n) = L.reps n L.argT := repS_nats _ n
def m4 (n : Nat) : ByteArray := repS (⟨#[43, 49]⟩ : ByteArray) n
theorem m4_size (n : Nat) : (m4 n).size = n * 2 := repS_size _ n
theorem m4_nats (n : Nat) : L.natsOf (m4 n) = L.reps n L.addT := repS_nats _ n
theorem tx0_text (n : Nat) : L.natsOf (m0 n) = L.reps n L.clsT := m0_nats n
theorem tx0_size (n : Nat) (h : n ≤ 100) : (m0 n).size ≤ maxLen := by
  rw [m0_size]; unfold maxLen; omega
theorem tx0_fits (n : Nat) (h : n ≤ 100) : Fits (decide (n ≤ 64)) (m0 n) := many0_of h (tx0_text n)
theorem tx1_text (n : Nat) : L.natsOf ((⟨#[99, 108, 97, 115, 115, 32, 65, 123]⟩ : ByteArray) ++ m1 n ++ (⟨#[125]⟩ : ByteArray)) = L.preT ++ (L.reps n L.fldT ++ [125]) := by
  simp only [nats_app, m1_nats, List.append_assoc]
  rfl
theorem tx1_size (n : Nat) (h : n ≤ 100) : ((⟨#[99, 108, 97, 115, 115, 32, 65, 123]⟩ : ByteArray) ++ m1 n ++ (⟨#[125]⟩ : ByteArray)).size ≤ maxLen := by
  have e := congrArg List.length (tx1_text n)
  rw [nats_size] at e
  rw [e]
  unfold maxLen
  simp [L.reps_len, L.preT, L.fldT, L.methT, L.parT, L.shellT, L.callT, L.argT, L.addT]; omega
theorem tx1_fits (n : Nat) (h : n ≤ 100) : Fits (decide (n ≤ 64)) ((⟨#[99, 108, 97, 115, 115, 32, 65, 123]⟩ : ByteArray) ++ m1 n ++ (⟨#[125]⟩ : ByteArray)) := many1_of h (tx1_text n)
theorem tx2_text (r : Nat) : L.natsOf ((⟨#[99, 108, 97, 115, 115, 32, 65, 123, 105, 110, 116, 32, 102, 40]⟩ : ByteArray) ++ m2 r ++ (⟨#[105, 110, 116, 32, 120, 41, 123, 125, 125]⟩ : ByteArray)) = L.methT ++ (40 :: (L.reps r L.parT ++ [105, 110, 116, 32, 120, 41, 123, 125, 125])) := by
  simp only [nats_app, m2_nats, List.append_assoc]
  rfl
theorem tx2_size (r : Nat) (h : r ≤ 99) : ((⟨#[99, 108, 97, 115, 115, 32, 65, 123, 105, 110, 116, 32, 102, 40]⟩ : ByteArray) ++ m2 r ++ (⟨#[105, 110, 116, 32, 120, 41, 123, 125, 125]⟩ : ByteArray)).size ≤ maxLen := by
  have e := congrArg List.length (tx2_text r)
  rw [nats_size] at e
  rw [e]
  unfold maxLen
  simp [L.reps_len, L.preT, L.fldT, L.methT, L.parT, L.shellT, L.callT, L.argT, L.addT]; omega
theorem tx2_fits (r : Nat) (h : r ≤ 99) : Fits (decide (r + 1 ≤ 64)) ((⟨#[99, 108, 97, 115, 115, 32, 65, 123, 105, 110, 116, 32, 102, 40]⟩ : ByteArray) ++ m2 r ++ (⟨#[105, 110, 116, 32, 120, 41, 123, 125, 125]⟩ : ByteArray)) := many2_of h (tx2_text r)
theorem tx3_text (r : Nat) : L.natsOf ((⟨#[99, 108, 97, 115, 115, 32, 65, 123, 105, 110, 116, 32, 102, 40, 41, 123, 116, 104, 105, 115, 46, 102, 40]⟩ : ByteArray) ++ m3 r ++ (⟨#[49, 41, 59, 125, 125]⟩ : ByteArray)) = L.shellT ++ (L.callT ++ (L.reps r L.argT ++ [49, 41, 59, 125, 125])) := by
  simp only [nats_app, m3_nats, List.append_assoc]
  rfl
theorem tx3_size (r : Nat) (h : r ≤ 99) : ((⟨#[99, 108, 97, 115, 115, 32, 65, 123, 105, 110, 116, 32, 102, 40, 41, 123, 116, 104, 105, 115, 46, 102, 40]⟩ : ByteArray) ++ m3 r ++ (⟨#[49, 41, 59, 125, 125]⟩ : ByteArray)).size ≤ maxLen := by
  have e := congrArg List.length (tx3_text r)
  rw [nats_size] at e
  rw [e]
  unfold maxLen
  simp [L.reps_len, L.preT, L.fldT, L.methT, L.parT, L.shellT, L.callT, L.argT, L.addT]; omega
theorem tx3_fits (r : Nat) (h : r ≤ 99) : Fits (decide (r + 1 ≤ 64)) ((⟨#[99, 108, 97, 115, 115, 32, 65, 123, 105, 110, 116, 32, 102, 40, 41, 123, 116, 104, 105, 115, 46, 102, 40]⟩ : ByteArray) ++ m3 r ++ (⟨#[49, 41, 59, 125, 125]⟩ : ByteArray)) := many3_of h (tx3_text r)
theorem tx4_text (n : Nat) : L.natsOf ((⟨#[99, 108, 97, 115, 115, 32, 65, 123, 105, 110, 116, 32, 102, 40, 41, 123, 120, 61, 49]⟩ : ByteArray) ++ m4 (41 * n) ++ (⟨#[59, 125, 125]⟩ : ByteArray)) = L.shellT ++ ([123, 120, 61] ++ (49 :: (L.reps (41 * n) L.addT ++ [59, 125, 125]))) := by
  simp only [nats_app, m4_nats, List.append_assoc]
  rfl
theorem tx4_size (n : Nat) (h : n ≤ 100) : ((⟨#[99, 108, 97, 115, 115, 32, 65, 123, 105, 110, 116, 32, 102, 40, 41, 123, 120, 61, 49]⟩ : ByteArray) ++ m4 (41 * n) ++ (⟨#[59, 125, 125]⟩ : ByteArray)).size ≤ maxLen := by
  have e := congrArg List.length (tx4_text n)
  rw [nats_size] at e
  rw [e]
  unfold maxLen
  simp [L.reps_len, L.preT, L.fldT, L.methT, L.parT, L.shellT, L.callT, L.argT, L.addT]; omega
theorem tx4_fits (n : Nat) (h : n ≤ 100) : Fits (decide (7 + 82 * n ≤ 8192)) ((⟨#[99, 108, 97, 115, 115, 32, 65, 123, 105, 110, 116, 32, 102, 40, 41, 123, 120, 61, 49]⟩ : ByteArray) ++ m4 (41 * n) ++ (⟨#[59, 125, 125]⟩ : ByteArray)) := sums_of h (tx4_text n)
theorem many_pre (n r : Nat) (hr : r = n - 1) (hn : n ≤ 100) : (¬ 9223372036854775807 < 8 + (m1 n).size) ∧ (¬ 9223372036854775807 < 8 + (m1 n).size + 1) ∧ (¬ 9223372036854775807 < 14 + (m2 r).size) ∧ (¬ 9223372036854775807 < 14 + (m2 r).size + 9) ∧ (¬ 9223372036854775807 < 23 + (m3 r).size) ∧ (¬ 9223372036854775807 < 23 + (m3 r).size + 5) ∧ (¬ 9223372036854775807 < 19 + (m4 (41 * n)).size) ∧ (¬ 9223372036854775807 < 19 + (m4 (41 * n)).size + 3) ∧ (0 : Int) ≤ (n : Int) ∧ decide ((n : Int) < 0) = false ∧ decide ((100 : Int) < (n : Int)) = false ∧ IntKind.i64.wrap ((n : Int) - 1) = (n : Int) - 1 ∧ max (0 : Int) ((n : Int) - 1) = (r : Nat) ∧ IntKind.i64.wrap (41 * (n : Int)) = ((41 * n : Nat) : Int) ∧ IntKind.i64.wrap (82 * (n : Int)) = 82 * (n : Int) ∧ IntKind.i64.wrap (7 + 82 * (n : Int)) = 7 + 82 * (n : Int) :=
  ⟨by simp only [m1_size, m2_size, m3_size, m4_size]; omega, by simp only [m1_size, m2_size, m3_size, m4_size]; omega, by simp only [m1_size, m2_size, m3_size, m4_size]; omega, by simp only [m1_size, m2_size, m3_size, m4_size]; omega, by simp only [m1_size, m2_size, m3_size, m4_size]; omega, by simp only [m1_size, m2_size, m3_size, m4_size]; omega, by simp only [m1_size, m2_size, m3_size, m4_size]; omega, by simp only [m1_size, m2_size, m3_size, m4_size]; omega, by omega, decide_eq_false (by omega), decide_eq_false (by omega), IntWalk.i64_in _ ⟨by omega, by omega⟩, by omega, by rw [IntWalk.i64_in _ ⟨by omega, by omega⟩]; omega, IntWalk.i64_in _ ⟨by omega, by omega⟩, IntWalk.i64_in _ ⟨by omega, by omega⟩⟩
theorem hp0 (n : Nat) (h : n ≤ 100) (w2 : World) : Calls Tryz.prog 24 #[.string ⟨#[99, 108, 97, 115, 115, 32, 65, 123, 125]⟩, .int .i64 (n : Nat)] w2 fun e w9 => e = .returned (.string (m0 n)) ∧ Below w2.heap.size w2 w9 := reps_any _ _ w2 (by omega) (by decide)
theorem hp1 (n : Nat) (h : n ≤ 100) (w2 : World) : Calls Tryz.prog 24 #[.string ⟨#[105, 110, 116, 32, 120, 59]⟩, .int .i64 (n : Nat)] w2 fun e w9 => e = .returned (.string (m1 n)) ∧ Below w2.heap.size w2 w9 := reps_any _ _ w2 (by omega) (by decide)
theorem hp2 (r : Nat) (h : r ≤ 100) (w2 : World) : Calls Tryz.prog 24 #[.string ⟨#[105, 110, 116, 32, 120, 44]⟩, .int .i64 (r : Nat)] w2 fun e w9 => e = .returned (.string (m2 r)) ∧ Below w2.heap.size w2 w9 := reps_any _ _ w2 (by omega) (by decide)
theorem hp3 (r : Nat) (h : r ≤ 100) (w2 : World) : Calls Tryz.prog 24 #[.string ⟨#[49, 44]⟩, .int .i64 (r : Nat)] w2 fun e w9 => e = .returned (.string (m3 r)) ∧ Below w2.heap.size w2 w9 := reps_any _ _ w2 (by omega) (by decide)
theorem hp4 (n : Nat) (h : n ≤ 100) (w2 : World) : Calls Tryz.prog 24 #[.string ⟨#[43, 49]⟩, .int .i64 ((41 * n) : Nat)] w2 fun e w9 => e = .returned (.string (m4 (41 * n))) ∧ Below w2.heap.size w2 w9 := reps_any _ _ w2 (by omega) (by decide)
theorem parse_fits {b : Bool} (x : ByteArray) (hs : x.size ≤ maxLen) (h : Fits b x) (w : World) : Calls Tryz.prog 14 #[.string x] w fun e w' => Below w.heap.size w w' ∧ ∃ (s : Option Addr) (m c : Nat) (r k z : Int), e = .returned (.tuple #[.agg #[.slice s m c, .int .i64 r], .agg #[.int .i64 k, .int .i64 z]]) ∧ decide (k = 2) = !b ∧ decide (k = 0) = b := by
  cases b with
  | true =>
    obtain ⟨l, hl⟩ := h.1 rfl
    refine (parse_yes x w hs (by rw [hl])).mono ?_
    rintro e w' ⟨hb, s, c, rfl, -, -⟩
    exact ⟨hb, s, _, c, _, 0, 0, rfl, rfl, rfl⟩
  | false =>
    obtain ⟨z, hl⟩ := h.2 rfl
    refine (parse_no x w hs (c := 2) (z := z) (by rw [hl]) (by decide)).mono ?_
    rintro e w' ⟨hb, rfl⟩
    exact ⟨hb, none, 0, 0, 0, 2, z, rfl, rfl, rfl⟩
set_option maxRecDepth 100000 in
set_option maxHeartbeats 4000000 in
theorem manyw_out (n way : Int) (w : World) (hT : Tabs w) (h : n < 0 ∨ 100 < n ∨ way < 0 ∨ 3 < way) : Calls Tryz.prog 7 #[.int .i64 n, .int .i64 way] w fun e w' => e = .returned (.bool true) ∧ Below w.heap.size w w' := by
  have HR := Lib.hid (reads_any w hT)
  have HH := Lib.hid h
  clear h
  by_cases h0 : n < 0
  · have p0 : decide (n < 0) = true := decide_eq_true h0
    clear h0 hT
    go_enter Tryz.func7, Tryz.ntmps7
    go_wp2_with fail
    refine HR.out.mono ?_
    rintro e w1 ⟨rfl, hb⟩
    have B1 := Lib.hid hb
    clear hb
    go_wp2_with fail
    go_ret
    exact ⟨rfl, B1.out⟩
  have p0 : decide (n < 0) = false := decide_eq_false h0
  by_cases h1 : 100 < n
  · have p1 : decide (100 < n) = true := decide_eq_true h1
    clear h0 h1 hT
    go_enter Tryz.func7, Tryz.ntmps7
    go_wp2_with fail
    refine HR.out.mono ?_
    rintro e w1 ⟨rfl, hb⟩
    have B1 := Lib.hid hb
    clear hb
    go_wp2_with fail
    go_ret
    exact ⟨rfl, B1.out⟩
  have p1 : decide (100 < n) = false := decide_eq_false h1
  by_cases h2 : way < 0
  · have p2 : decide (way < 0) = true := decide_eq_true h2
    clear h0 h1 h2 hT
    go_enter Tryz.func7, Tryz.ntmps7
    go_wp2_with fail
    refine HR.out.mono ?_
    rintro e w1 ⟨rfl, hb⟩
    have B1 := Lib.hid hb
    clear hb
    go_wp2_with fail
    go_ret
    exact ⟨rfl, B1.out⟩
  have p2 : decide (way < 0) = false := decide_eq_false h2
  have p3 : decide (3 < way) = true := decide_eq_true (by have := HH.out; omega)
  clear h0 h1 h2 hT
  go_enter Tryz.func7, Tryz.ntmps7
  go_wp2_with fail
  refine HR.out.mono ?_
  rintro e w1 ⟨rfl, hb⟩
  have B1 := Lib.hid hb
  clear hb
  go_wp2_with fail
  go_ret
  exact ⟨rfl, B1.out⟩
set_option maxRecDepth 100000 in
set_option maxHeartbeats 4000000 in
theorem manyw0A (n r : Nat) (hr : r = n - 1) (hn : n ≤ 100) (w : World) (hT : Tabs w) : Calls Tryz.prog 7 #[.int .i64 (n : Nat), .int .i64 0] w fun e w' => e = .returned (.bool true) ∧ Below w.heap.size w w' := by
  have HR := Lib.hid (reads_any w hT)
  have hix := index4_0
  have HP0 := Lib.hid (hp0 n (by omega))
  have HP1 := Lib.hid (hp1 n (by omega))
  have HP2 := Lib.hid (hp2 r (by omega))
  have HP3 := Lib.hid (hp3 r (by omega))
  have HP4 := Lib.hid (hp4 n (by omega))
  obtain ⟨s0, s1, s2, s3, s4, s5, s6, s7, z0, p1, p2, i1, i2, i3, i4, i5⟩ := many_pre n r hr (by omega)
  have e1 : (!decide (n ≤ 64)) = decide ((64 : Int) < (n : Int)) := by rw [Bool.eq_iff_iff]; simp; omega
  have e2 : decide (n ≤ 64) = decide ((n : Int) ≤ 64) := by rw [Bool.eq_iff_iff]; simp; omega
  have e3 : (!decide (7 + 82 * n ≤ 8192)) = decide ((8192 : Int) < 7 + 82 * (n : Int)) := by rw [Bool.eq_iff_iff]; simp; omega
  have E1 := Lib.hid e1; have E2 := Lib.hid e2; have E3 := Lib.hid e3; clear e1 e2 e3
  have PA := Lib.hid (parse_fits _ (tx0_size n (by omega)) (tx0_fits n (by omega)))
  have PB := Lib.hid (parse_fits _ (tx4_size n (by omega)) (tx4_fits n (by omega)))
  clear hT hn hr
  go_enter Tryz.func7, Tryz.ntmps7
  go_wp2_with fail
  refine HR.out.mono ?_
  rintro e w1 ⟨rfl, hb⟩
  have B1 := Lib.hid hb
  clear hb
  go_wp2_with fail
  refine (HP0.out _).mono ?_
  rintro e w2 ⟨rfl, hb⟩
  have B2 := Lib.hid (after B1.out hb)
  clear hb B1
  go_wp2_with fail
  refine (HP1.out _).mono ?_
  rintro e w3 ⟨rfl, hb⟩
  have B3 := Lib.hid (after B2.out hb)
  clear hb B2
  go_wp2_with fail
  refine (HP2.out _).mono ?_
  rintro e w4 ⟨rfl, hb⟩
  have B4 := Lib.hid (after B3.out hb)
  clear hb B3
  go_wp2_with fail
  refine (HP3.out _).mono ?_
  rintro e w5 ⟨rfl, hb⟩
  have B5 := Lib.hid (after B4.out hb)
  clear hb B4
  go_wp2_with fail
  refine (PA.out _).mono ?_
  rintro e w6 ⟨hb, sA, mA, cA, rA, kA, zA, rfl, hA2, hA0⟩
  rw [E1.out] at hA2; rw [E2.out] at hA0; have HA2 := Lib.hid hA2; have HA0 := Lib.hid hA0
  have B6 := Lib.hid (after B5.out hb)
  clear hb hA2 hA0
  go_wp2_with fail
  refine (HP4.out _).mono ?_
  rintro e w7 ⟨rfl, hb⟩
  have B7 := Lib.hid (after ((B6.out.alloc B6.out.size _).alloc (by have := B6.out.size; simp; omega) _) hb)
  have C7 := Lib.hid hb
  clear hb
  go_wp2_with fail
  refine (PB.out _).mono ?_
  rintro e w8 ⟨hb, sB, mB, cB, rB, kB, zB, rfl, hB2, -⟩
  have hB4 : ((kB == 2) == decide ((8192 : Int) < 7 + 82 * (n : Int))) = true := by rw [← E3.out, ← hB2]; exact beq_self_eq_true _
  rw [E3.out] at hB2
  have B8 := Lib.hid (after B7.out hb)
  have FAR := far_cell C7.out hb
  clear hb
  have hA2 := HA2.out; have hA0 := HA0.out
  go_wp2_with fail
  go_ret
  exact ⟨rfl, (B8.out.alloc B8.out.size _).alloc (by have := B8.out.size; simp; omega) _⟩
set_option maxRecDepth 100000 in
set_option maxHeartbeats 4000000 in
theorem manyw1A (n r : Nat) (hr : r = n - 1) (hn : n ≤ 100) (w : World) (hT : Tabs w) : Calls Tryz.prog 7 #[.int .i64 (n : Nat), .int .i64 1] w fun e w' => e = .returned (.bool true) ∧ Below w.heap.size w w' := by
  have HR := Lib.hid (reads_any w hT)
  have hix := index4_1
  have HP0 := Lib.hid (hp0 n (by omega))
  have HP1 := Lib.hid (hp1 n (by omega))
  have HP2 := Lib.hid (hp2 r (by omega))
  have HP3 := Lib.hid (hp3 r (by omega))
  have HP4 := Lib.hid (hp4 n (by omega))
  obtain ⟨s0, s1, s2, s3, s4, s5, s6, s7, z0, p1, p2, i1, i2, i3, i4, i5⟩ := many_pre n r hr (by omega)
  have e1 : (!decide (n ≤ 64)) = decide ((64 : Int) < (n : Int)) := by rw [Bool.eq_iff_iff]; simp; omega
  have e2 : decide (n ≤ 64) = decide ((n : Int) ≤ 64) := by rw [Bool.eq_iff_iff]; simp; omega
  have e3 : (!decide (7 + 82 * n ≤ 8192)) = decide ((8192 : Int) < 7 + 82 * (n : Int)) := by rw [Bool.eq_iff_iff]; simp; omega
  have E1 := Lib.hid e1; have E2 := Lib.hid e2; have E3 := Lib.hid e3; clear e1 e2 e3
  have PA := Lib.hid (parse_fits _ (tx1_size n (by omega)) (tx1_fits n (by omega)))
  have PB := Lib.hid (parse_fits _ (tx4_size n (by omega)) (tx4_fits n (by omega)))
  clear hT hn hr
  go_enter Tryz.func7, Tryz.ntmps7
  go_wp2_with fail
  refine HR.out.mono ?_
  rintro e w1 ⟨rfl, hb⟩
  have B1 := Lib.hid hb
  clear hb
  go_wp2_with fail
  refine (HP0.out _).mono ?_
  rintro e w2 ⟨rfl, hb⟩
  have B2 := Lib.hid (after B1.out hb)
  clear hb B1
  go_wp2_with fail
  refine (HP1.out _).mono ?_
  rintro e w3 ⟨rfl, hb⟩
  have B3 := Lib.hid (after B2.out hb)
  clear hb B2
  go_wp2_with fail
  refine (HP2.out _).mono ?_
  rintro e w4 ⟨rfl, hb⟩
  have B4 := Lib.hid (after B3.out hb)
  clear hb B3
  go_wp2_with fail
  refine (HP3.out _).mono ?_
  rintro e w5 ⟨rfl, hb⟩
  have B5 := Lib.hid (after B4.out hb)
  clear hb B4
  go_wp2_with fail
  refine (PA.out _).mono ?_
  rintro e w6 ⟨hb, sA, mA, cA, rA, kA, zA, rfl, hA2, hA0⟩
  rw [E1.out] at hA2; rw [E2.out] at hA0; have HA2 := Lib.hid hA2; have HA0 := Lib.hid hA0
  have B6 := Lib.hid (after B5.out hb)
  clear hb hA2 hA0
  go_wp2_with fail
  refine (HP4.out _).mono ?_
  rintro e w7 ⟨rfl, hb⟩
  have B7 := Lib.hid (after ((B6.out.alloc B6.out.size _).alloc (by have := B6.out.size; simp; omega) _) hb)
  have C7 := Lib.hid hb
  clear hb
  go_wp2_with fail
  refine (PB.out _).mono ?_
  rintro e w8 ⟨hb, sB, mB, cB, rB, kB, zB, rfl, hB2, -⟩
  have hB4 : ((kB == 2) == decide ((8192 : Int) < 7 + 82 * (n : Int))) = true := by rw [← E3.out, ← hB2]; exact beq_self_eq_true _
  rw [E3.out] at hB2
  have B8 := Lib.hid (after B7.out hb)
  have FAR := far_cell C7.out hb
  clear hb
  have hA2 := HA2.out; have hA0 := HA0.out
  go_wp2_with fail
  go_ret
  exact ⟨rfl, (B8.out.alloc B8.out.size _).alloc (by have := B8.out.size; simp; omega) _⟩
set_option maxRecDepth 100000 in
set_option maxHeartbeats 4000000 in
theorem manyw2Z (n r : Nat) (hr : r = n - 1) (hn : n = 0) (w : World) (hT : Tabs w) : Calls Tryz.prog 7 #[.int .i64 (n : Nat), .int .i64 2] w fun e w' => e = .returned (.bool true) ∧ Below w.heap.size w w' := by
  have HR := Lib.hid (reads_any w hT)
  have hix := index4_2
  have HP0 := Lib.hid (hp0 n (by omega))
  have HP1 := Lib.hid (hp1 n (by omega))
  have HP2 := Lib.hid (hp2 r (by omega))
  have HP3 := Lib.hid (hp3 r (by omega))
  have HP4 := Lib.hid (hp4 n (by omega))
  obtain ⟨s0, s1, s2, s3, s4, s5, s6, s7, z0, p1, p2, i1, i2, i3, i4, i5⟩ := many_pre n r hr (by omega)
  have q5 : decide ((n : Int) = 0) = true := decide_eq_true (by omega)
  have q6 : ((n : Int) == 0) = true := beq_iff_eq.2 (by omega)
  clear hT hn hr
  go_enter Tryz.func7, Tryz.ntmps7
  go_wp2_with fail
  refine HR.out.mono ?_
  rintro e w1 ⟨rfl, hb⟩
  have B1 := Lib.hid hb
  clear hb
  go_wp2_with fail
  refine (HP0.out _).mono ?_
  rintro e w2 ⟨rfl, hb⟩
  have B2 := Lib.hid (after B1.out hb)
  clear hb B1
  go_wp2_with fail
  refine (HP1.out _).mono ?_
  rintro e w3 ⟨rfl, hb⟩
  have B3 := Lib.hid (after B2.out hb)
  clear hb B2
  go_wp2_with fail
  refine (HP2.out _).mono ?_
  rintro e w4 ⟨rfl, hb⟩
  have B4 := Lib.hid (after B3.out hb)
  clear hb B3
  go_wp2_with fail
  refine (HP3.out _).mono ?_
  rintro e w5 ⟨rfl, hb⟩
  have B5 := Lib.hid (after B4.out hb)
  clear hb B4
  go_wp2_with fail
  go_ret
  exact ⟨rfl, B5.out⟩
set_option maxRecDepth 100000 in
set_option maxHeartbeats 4000000 in
theorem manyw2A (n r : Nat) (hr : r = n - 1) (hl : 0 < n) (hn : n ≤ 100) (w : World) (hT : Tabs w) : Calls Tryz.prog 7 #[.int .i64 (n : Nat), .int .i64 2] w fun e w' => e = .returned (.bool true) ∧ Below w.heap.size w w' := by
  have HR := Lib.hid (reads_any w hT)
  have hix := index4_2
  have HP0 := Lib.hid (hp0 n (by omega))
  have HP1 := Lib.hid (hp1 n (by omega))
  have HP2 := Lib.hid (hp2 r (by omega))
  have HP3 := Lib.hid (hp3 r (by omega))
  have HP4 := Lib.hid (hp4 n (by omega))
  obtain ⟨s0, s1, s2, s3, s4, s5, s6, s7, z0, p1, p2, i1, i2, i3, i4, i5⟩ := many_pre n r hr (by omega)
  have q5 : decide ((n : Int) = 0) = false := decide_eq_false (by omega)
  have q6 : ((n : Int) == 0) = false := beq_eq_false_iff_ne.2 (by omega)
  have e1 : (!decide (r + 1 ≤ 64)) = decide ((64 : Int) < (n : Int)) := by rw [Bool.eq_iff_iff]; simp; omega
  have e2 : decide (r + 1 ≤ 64) = decide ((n : Int) ≤ 64) := by rw [Bool.eq_iff_iff]; simp; omega
  have e3 : (!decide (7 + 82 * n ≤ 8192)) = decide ((8192 : Int) < 7 + 82 * (n : Int)) := by rw [Bool.eq_iff_iff]; simp; omega
  have E1 := Lib.hid e1; have E2 := Lib.hid e2; have E3 := Lib.hid e3; clear e1 e2 e3
  have PA := Lib.hid (parse_fits _ (tx2_size r (by omega)) (tx2_fits r (by omega)))
  have PB := Lib.hid (parse_fits _ (tx4_size n (by omega)) (tx4_fits n (by omega)))
  clear hT hn hr hl
  go_enter Tryz.func7, Tryz.ntmps7
  go_wp2_with fail
  refine HR.out.mono ?_
  rintro e w1 ⟨rfl, hb⟩
  have B1 := Lib.hid hb
  clear hb
  go_wp2_with fail
  refine (HP0.out _).mono ?_
  rintro e w2 ⟨rfl, hb⟩
  have B2 := Lib.hid (after B1.out hb)
  clear hb B1
  go_wp2_with fail
  refine (HP1.out _).mono ?_
  rintro e w3 ⟨rfl, hb⟩
  have B3 := Lib.hid (after B2.out hb)
  clear hb B2
  go_wp2_with fail
  refine (HP2.out _).mono ?_
  rintro e w4 ⟨rfl, hb⟩
  have B4 := Lib.hid (after B3.out hb)
  clear hb B3
  go_wp2_with fail
  refine (HP3.out _).mono ?_
  rintro e w5 ⟨rfl, hb⟩
  have B5 := Lib.hid (after B4.out hb)
  clear hb B4
  go_wp2_with fail
  refine (PA.out _).mono ?_
  rintro e w6 ⟨hb, sA, mA, cA, rA, kA, zA, rfl, hA2, hA0⟩
  rw [E1.out] at hA2; rw [E2.out] at hA0; have HA2 := Lib.hid hA2; have HA0 := Lib.hid hA0
  have B6 := Lib.hid (after B5.out hb)
  clear hb hA2 hA0
  go_wp2_with fail
  refine (HP4.out _).mono ?_
  rintro e w7 ⟨rfl, hb⟩
  have B7 := Lib.hid (after ((B6.out.alloc B6.out.size _).alloc (by have := B6.out.size; simp; omega) _) hb)
  have C7 := Lib.hid hb
  clear hb
  go_wp2_with fail
  refine (PB.out _).mono ?_
  rintro e w8 ⟨hb, sB, mB, cB, rB, kB, zB, rfl, hB2, -⟩
  have hB4 : ((kB == 2) == decide ((8192 : Int) < 7 + 82 * (n : Int))) = true := by rw [← E3.out, ← hB2]; exact beq_self_eq_true _
  rw [E3.out] at hB2
  have B8 := Lib.hid (after B7.out hb)
  have FAR := far_cell C7.out hb
  clear hb
  have hA2 := HA2.out; have hA0 := HA0.out
  go_wp2_with fail
  go_ret
  exact ⟨rfl, (B8.out.alloc B8.out.size _).alloc (by have := B8.out.size; simp; omega) _⟩
set_option maxRecDepth 100000 in
set_option maxHeartbeats 4000000 in
theorem manyw3Z (n r : Nat) (hr : r = n - 1) (hn : n = 0) (w : World) (hT : Tabs w) : Calls Tryz.prog 7 #[.int .i64 (n : Nat), .int .i64 3] w fun e w' => e = .returned (.bool true) ∧ Below w.heap.size w w' := by
  have HR := Lib.hid (reads_any w hT)
  have hix := index4_3
  have HP0 := Lib.hid (hp0 n (by omega))
  have HP1 := Lib.hid (hp1 n (by omega))
  have HP2 := Lib.hid (hp2 r (by omega))
  have HP3 := Lib.hid (hp3 r (by omega))
  have HP4 := Lib.hid (hp4 n (by omega))
  obtain ⟨s0, s1, s2, s3, s4, s5, s6, s7, z0, p1, p2, i1, i2, i3, i4, i5⟩ := many_pre n r hr (by omega)
  have q5 : decide ((n : Int) = 0) = true := decide_eq_true (by omega)
  have q6 : ((n : Int) == 0) = true := beq_iff_eq.2 (by omega)
  clear hT hn hr
  go_enter Tryz.func7, Tryz.ntmps7
  go_wp2_with fail
  refine HR.out.mono ?_
  rintro e w1 ⟨rfl, hb⟩
  have B1 := Lib.hid hb
  clear hb
  go_wp2_with fail
  refine (HP0.out _).mono ?_
  rintro e w2 ⟨rfl, hb⟩
  have B2 := Lib.hid (after B1.out hb)
  clear hb B1
  go_wp2_with fail
  refine (HP1.out _).mono ?_
  rintro e w3 ⟨rfl, hb⟩
  have B3 := Lib.hid (after B2.out hb)
  clear hb B2
  go_wp2_with fail
  refine (HP2.out _).mono ?_
  rintro e w4 ⟨rfl, hb⟩
  have B4 := Lib.hid (after B3.out hb)
  clear hb B3
  go_wp2_with fail
  refine (HP3.out _).mono ?_
  rintro e w5 ⟨rfl, hb⟩
  have B5 := Lib.hid (after B4.out hb)
  clear hb B4
  go_wp2_with fail
  go_ret
  exact ⟨rfl, B5.out⟩
set_option maxRecDepth 100000 in
set_option maxHeartbeats 4000000 in
theorem manyw3A (n r : Nat) (hr : r = n - 1) (hl : 0 < n) (hn : n ≤ 100) (w : World) (hT : Tabs w) : Calls Tryz.prog 7 #[.int .i64 (n : Nat), .int .i64 3] w fun e w' => e = .returned (.bool true) ∧ Below w.heap.size w w' := by
  have HR := Lib.hid (reads_any w hT)
  have hix := index4_3
  have HP0 := Lib.hid (hp0 n (by omega))
  have HP1 := Lib.hid (hp1 n (by omega))
  have HP2 := Lib.hid (hp2 r (by omega))
  have HP3 := Lib.hid (hp3 r (by omega))
  have HP4 := Lib.hid (hp4 n (by omega))
  obtain ⟨s0, s1, s2, s3, s4, s5, s6, s7, z0, p1, p2, i1, i2, i3, i4, i5⟩ := many_pre n r hr (by omega)
  have q5 : decide ((n : Int) = 0) = false := decide_eq_false (by omega)
  have q6 : ((n : Int) == 0) = false := beq_eq_false_iff_ne.2 (by omega)
  have e1 : (!decide (r + 1 ≤ 64)) = decide ((64 : Int) < (n : Int)) := by rw [Bool.eq_iff_iff]; simp; omega
  have e2 : decide (r + 1 ≤ 64) = decide ((n : Int) ≤ 64) := by rw [Bool.eq_iff_iff]; simp; omega
  have e3 : (!decide (7 + 82 * n ≤ 8192)) = decide ((8192 : Int) < 7 + 82 * (n : Int)) := by rw [Bool.eq_iff_iff]; simp; omega
  have E1 := Lib.hid e1; have E2 := Lib.hid e2; have E3 := Lib.hid e3; clear e1 e2 e3
  have PA := Lib.hid (parse_fits _ (tx3_size r (by omega)) (tx3_fits r (by omega)))
  have PB := Lib.hid (parse_fits _ (tx4_size n (by omega)) (tx4_fits n (by omega)))
  clear hT hn hr hl
  go_enter Tryz.func7, Tryz.ntmps7
  go_wp2_with fail
  refine HR.out.mono ?_
  rintro e w1 ⟨rfl, hb⟩
  have B1 := Lib.hid hb
  clear hb
  go_wp2_with fail
  refine (HP0.out _).mono ?_
  rintro e w2 ⟨rfl, hb⟩
  have B2 := Lib.hid (after B1.out hb)
  clear hb B1
  go_wp2_with fail
  refine (HP1.out _).mono ?_
  rintro e w3 ⟨rfl, hb⟩
  have B3 := Lib.hid (after B2.out hb)
  clear hb B2
  go_wp2_with fail
  refine (HP2.out _).mono ?_
  rintro e w4 ⟨rfl, hb⟩
  have B4 := Lib.hid (after B3.out hb)
  clear hb B3
  go_wp2_with fail
  refine (HP3.out _).mono ?_
  rintro e w5 ⟨rfl, hb⟩
  have B5 := Lib.hid (after B4.out hb)
  clear hb B4
  go_wp2_with fail
  refine (PA.out _).mono ?_
  rintro e w6 ⟨hb, sA, mA, cA, rA, kA, zA, rfl, hA2, hA0⟩
  rw [E1.out] at hA2; rw [E2.out] at hA0; have HA2 := Lib.hid hA2; have HA0 := Lib.hid hA0
  have B6 := Lib.hid (after B5.out hb)
  clear hb hA2 hA0
  go_wp2_with fail
  refine (HP4.out _).mono ?_
  rintro e w7 ⟨rfl, hb⟩
  have B7 := Lib.hid (after ((B6.out.alloc B6.out.size _).alloc (by have := B6.out.size; simp; omega) _) hb)
  have C7 := Lib.hid hb
  clear hb
  go_wp2_with fail
  refine (PB.out _).mono ?_
  rintro e w8 ⟨hb, sB, mB, cB, rB, kB, zB, rfl, hB2, -⟩
  have hB4 : ((kB == 2) == decide ((8192 : Int) < 7 + 82 * (n : Int))) = true := by rw [← E3.out, ← hB2]; exact beq_self_eq_true _
  rw [E3.out] at hB2
  have B8 := Lib.hid (after B7.out hb)
  have FAR := far_cell C7.out hb
  clear hb
  have hA2 := HA2.out; have hA0 := HA0.out
  go_wp2_with fail
  go_ret
  exact ⟨rfl, (B8.out.alloc B8.out.size _).alloc (by have := B8.out.size; simp; omega) _⟩
end Go.Proofs.YtidannabjhbjpaaGreatDoor
namespace Go.Proofs.YtidannabjhbjpaaGreatDoor
open Go.ChangeShapes Go.WideShapes Go.ChangeAt Go.RowKit
open Go.ChangeMaps (open_string shut_string)
theorem manyw_any (n : Int) (wn : (Lit.int .i64 n).wf = true) (way : Int) (ww : (Lit.int .i64 way).wf = true) (w : World) (hT : Tabs w) : Calls Tryz.prog 7 #[.int .i64 n, .int .i64 way] w fun e w' => e = .returned (.bool true) ∧ Below w.heap.size w w' := by
  by_cases h : n < 0 ∨ 100 < n ∨ way < 0 ∨ 3 < way
  · exact manyw_out n way w hT h
  · obtain ⟨m, rfl⟩ : ∃ m : Nat, n = m := ⟨n.toNat, by omega⟩
    have hw : way = 0 ∨ way = 1 ∨ way = 2 ∨ way = 3 := by omega
    have h1 : m ≤ 100 := by omega
    by_cases h0 : 0 < m
    · rcases hw with rfl | rfl | rfl | rfl
      · exact manyw0A m (m - 1) rfl h1 w hT
      · exact manyw1A m (m - 1) rfl h1 w hT
      · exact manyw2A m (m - 1) rfl h0 h1 w hT
      · exact manyw3A m (m - 1) rfl h0 h1 w hT
    · have h2 : m = 0 := by omega
      rcases hw with rfl | rfl | rfl | rfl
      · exact manyw0A m (m - 1) rfl h1 w hT
      · exact manyw1A m (m - 1) rfl h1 w hT
      · exact manyw2Z m (m - 1) rfl h2 w hT
      · exact manyw3Z m (m - 1) rfl h2 w hT
set_option maxRecDepth 100000 in
theorem parseMany_contract (H : Type) (enc : TypeId × Value → H) (W : World) (base : Nat) (args : Array Value) (ds gs : List (DataW H)) (before : List MemPlace)
    (hval0 : ∀ (j : Nat) t v, Tryz.f7.params[j]? = some t → args[j]? = some v → Value.okWide Tryz.prog W .any base t v)
    (hW : DataW.Whole enc Tryz.prog Tryz.f7.params.toList Rows.parseManySpec.vars false W args.toList ds gs before) (hL : laidMetH Tryz.prog Rows.parseManyRow.laid W) :
    Calls Tryz.prog 7 args W fun e W' => ∃ v, e = .returned v ∧ Rows.parseManySpec.post enc Tryz.prog Tryz.f7 false true false false W args v W' := by
  have hval : ∀ (j : Nat) t v, Tryz.f7.params[j]? = some t → args[j]? = some v → Value.okWide Tryz.prog W .any base t v := hval0
  have hW' := hW
  obtain ⟨p, q, hA0, hV, rfl, hfz, hnd⟩ := hW
  have hA : DataW.TrodAll enc Tryz.prog W 0 (fun _ => true) true Tryz.f7.params.toList args.toList ds p := hA0
  rw [Tryz.params7] at hA hval
  obtain ⟨v0, vs0, d0, ds0, p0, q0, hargs, rfl, rfl, h0, r0⟩ := trodAll_cons hA
  obtain ⟨v1, vs1, d1, ds1, p1, q1, rfl, rfl, rfl, h1, r1⟩ := trodAll_cons r0
  obtain ⟨rfl, rfl, rfl⟩ := trodAll_nil r1
  obtain rfl : args = #[v0, v1] := by cases args; simp_all
  obtain ⟨rfl, rfl⟩ := trodVars_none hV
  obtain ⟨a0, rfl, rfl, rfl, w0⟩ := open_int Tryz.underlying3 (hval 0 3 v0 rfl rfl) h0
  obtain ⟨a1, rfl, rfl, rfl, w1⟩ := open_int Tryz.underlying3 (hval 1 3 v1 rfl rfl) h1
  clear hA0 hval0
  refine (manyw_any a0 w0 a1 w1 W (tabs_of (by rw [MakeChecks.laidMetH_plain _ _ _ (by kernel_rfl)] at hL; exact hL))).mono fun e W' ⟨he, bel⟩ => ?_
  subst he
  exact ⟨_, rfl, _, _, _, [], _, [], hW', trodAll_mk1 (shut_bool Tryz.underlying4 _), (trodAll_cons_mk (shut_int Tryz.underlying3 w0) (trodAll_cons_mk (shut_int Tryz.underlying3 w1) trodAll_mk0)), rfl, bel.frame _, fun h => by cases h⟩
set_option maxRecDepth 100000 in
theorem parseMany_lifted (os : Os) (started : os.Started) (H : Type) (enc : TypeId × Value → H) :
    ReturnsInHanded {} Tryz.checked os 7 .any (fun w args => (Rows.parseManySpec.pre enc Tryz.prog Tryz.f7 Rows.parseManyRow.domain false w args ∧ laidMetH Tryz.prog Rows.parseManyRow.laid w) ∧ sizedMet enc Tryz.prog Tryz.f7 (OpenSpec.ofChange Rows.parseManySpec) false w args)
      (Rows.parseManySpec.post enc Tryz.prog Tryz.f7 false true false false) := by
  refine returnsInHanded_of_change_and (C := Tryz.checked) (X := fun w _ => laidMetH Tryz.prog Rows.parseManyRow.laid w) (fun _ _ _ hh h => h.of_heap hh) own started (by kernel_rfl) Tryz.func7
    (ChangeSpec.witness_shaped (enc := enc) (C := Tryz.checked) (os := os) (X := fun w _ => laidMetH Tryz.prog Rows.parseManyRow.laid w) false (World.laidAll Tryz.prog os laidL) #[.int .i64 0, .int .i64 0] 8 (World.laidAll_os _ _ _)
      (World.shaped_of_ZipB (by kernel_rfl) (by kernel_rfl)) (by kernel_rfl) (by kernel_rfl) (by kernel_rfl)
      (by rw [MakeChecks.laidMetH_plain _ _ _ (by kernel_rfl)]; exact laidMet_laidAll _ (by kernel_rfl) (by kernel_rfl))) ?_
  intro W base args ds gs before hval hW _ _ hL _
  exact parseMany_contract H enc W base args ds gs before hval hW hL
theorem parseMany_said : Rows.ParseManySaid :=
  OpenClaim.holds_of_wide 7 Tryz.f7 rfl rfl rfl rfl rfl rfl rfl ⟨rfl, rfl, rfl, rfl, rfl⟩ rfl rfl rfl rfl rfl (by kernel_rfl) Tryz.func7 (by kernel_rfl)
    (of_decide_eq_true (by kernel_rfl)) (by unfold Func.isWrapper; first | (rw [if_pos (by decide +kernel)]; kernel_rfl) | (rw [if_neg (by decide +kernel)]; exact ⟨rfl, rfl⟩))
    (fun os started H enc _ => parseMany_lifted os started H enc)
theorem parseMany_plain (f : FuncId) (fn : Func) (hf : Tryz.pinned.checked.prog.funcNamed "caulker/caulkerlaw08.ParseMany" = some f) (hfn : Tryz.pinned.checked.prog.funcs[f]? = some fn) :
    true = Tryz.pinned.checked.prog.looks [] ∧ ∀ (j : Nat) t, fn.params[j]? = some t → Tryz.pinned.checked.prog.wantsStandIn t = false := by
  obtain rfl : f = 7 := Option.some.inj ((show Tryz.prog.funcNamed "caulker/caulkerlaw08.ParseMany" = some 7 by kernel_rfl).symm.trans hf) |>.symm
  obtain rfl : fn = Tryz.f7 := (Option.some.inj (Tryz.func7.symm.trans hfn)).symm
  refine ⟨by kernel_rfl, fun j t ht => ?_⟩
  rw [Tryz.params7] at ht
  have hm := Array.mem_of_getElem? ht
  simp only [List.mem_toArray, List.mem_cons, List.not_mem_nil, or_false] at hm
  rcases hm with rfl | rfl
  · exact (show Tryz.prog.wantsStandIn 3 = false by kernel_rfl)
  · exact (show Tryz.prog.wantsStandIn 3 = false by kernel_rfl)
theorem parseMany_proved : Rows.ParseManyCardSaid :=
  Claim7.holds_tied_plain_at .later [] _ _ _ _ parseMany_said (fun _ h => by cases h) (by kernel_rfl) (fun _ h => by cases h) parseMany_row_tie rfl ⟨rfl, rfl⟩ (by kernel_rfl) rfl parseMany_plain (by kernel_rfl)
end Go.Proofs.YtidannabjhbjpaaGreatDoor
