/- LATER IS LATER: the walk. -/
import Derived.Test.YtcmeeehhhnmfgaaDoorTells
namespace Go.Proofs.YtcmeeehhhnmfgaaDoor
open Go.RowKit
set_option linter.unusedVariables false

theorem begsTo_mono (s : ByteArray) (k m : Nat) : (begsTo s k).length ≤ (begsTo s (k + m)).length := by
  obtain ⟨r, hr, _⟩ := begsTo_more s k m
  rw [hr]; simp
/-- the later one of two bytes has the later place -/
theorem place_lt (s : ByteArray) (a b : Nat) (h : a < b) : lineN s a < lineN s b ∨ (lineN s a = lineN s b ∧ colN s a < colN s b) := by
  obtain ⟨m, rfl⟩ : ∃ m, b = a + m := ⟨b - a, by omega⟩
  obtain ⟨r, hr, hx⟩ := begsTo_more s a m
  cases r with
  | nil =>
    right
    have e1 : lineN s (a + m) = lineN s a := by unfold lineN; rw [hr]; simp
    have e2 : begN s (a + m) = begN s a := by unfold begN; simp only [hr, List.append_nil]
    have := begN_le s a
    exact ⟨e1.symm, by unfold colN; rw [e2]; omega⟩
  | cons x r =>
    left
    unfold lineN; rw [hr]; simp

set_option maxHeartbeats 1000000 in
theorem order_out (s : ByteArray) (a b : Int) (w : World) (hn : Tab w) (hs : s.size < 9223372036854775808) (h : 65536 < s.size ∨ a < 0 ∨ (s.size : Int) < b ∨ b ≤ a) :
    Calls Tryd.prog 7 #[.string s, .int .i64 a, .int .i64 b] w fun e w' => e = .returned (.bool true) ∧ Below w.heap.size w w' := by
  have HS := Lib.hid hs
  have HH := Lib.hid h
  clear h
  go_enter Tryd.func7, Tryd.ntmps7
  go_wp2_with fail
  refine (tells_any _ hn).mono ?_
  rintro e w1 ⟨rfl, h01⟩
  by_cases k1 : (65536 : Int) < (s.size : Int)
  · go_wp2_with fail
    go_ret
    exact ⟨rfl, h01⟩
  by_cases k2 : a < 0
  · go_wp2_with fail
    go_ret
    exact ⟨rfl, h01⟩
  by_cases k3 : (s.size : Int) < b
  · go_wp2_with fail
    go_ret
    exact ⟨rfl, h01⟩
  have k4 : b ≤ a := by have := HH.out; omega
  go_wp2_with fail
  go_ret
  exact ⟨rfl, h01⟩

theorem lines_q (s : ByteArray) (p : Nat) (w : World) (ht : TableAt w p s) :
    Calls Tryd.prog 19 #[.pointer (some ⟨p, 0, none⟩)] w fun e w' => e = .returned (.int .i64 ((begs s).length : Nat)) ∧ ∃ m, w' = w.drewN m :=
  (lines_any s p w ht).mono fun e w' ⟨h1, h2⟩ => ⟨h1, 0, by subst h2; rfl⟩

set_option maxHeartbeats 1000000 in
theorem order_in (s : ByteArray) (a b : Nat) (w : World) (hn : Tab w) (hs : s.size ≤ 65536) (hab : a < b) (hb : b ≤ s.size) :
    Calls Tryd.prog 7 #[.string s, .int .i64 (a : Nat), .int .i64 (b : Nat)] w fun e w' => e = .returned (.bool true) ∧ Below w.heap.size w w' := by
  have HS := Lib.hid hs
  have HN := Lib.hid hn
  have HP := Lib.hid (place_lt s a b hab)
  have HLA := Lib.hid (lineN_le s a (by omega))
  have HLB := Lib.hid (lineN_le s b hb)
  clear hn
  go_enter Tryd.func7, Tryd.ntmps7
  go_wp2_with fail
  refine (tells_any _ HN.out).mono ?_
  rintro e w1 ⟨rfl, h01⟩
  have HN1 := Lib.hid (HN.out.step h01)
  clear HN
  go_wp2_with fail
  refine (lof_any s _ HS.out).mono ?_
  rintro e w2 ⟨p, rfl, hp, ht, h12⟩
  have H2 : Hold w p s [] w2 := ⟨after h01 h12, ht, HN1.out.step h12, fun x hx => absurd hx (by simp)⟩
  have hpl := ht.lt
  clear ht h01 h12 HN1
  go_wp2_with fail
  refine (at_yes s p a _ HS.out H2.tab (by omega)).mono ?_
  rintro e w3 ⟨rfl, h23⟩
  have H3 := (H2.step h23).box (.int .i64 (lineN s a : Nat)) (.int .i64 (colN s a : Nat)) 28
  clear H2 h23
  go_wp2_with fail
  refine (at_yes s p b _ HS.out H3.tab hb).mono ?_
  rintro e w4 ⟨rfl, h34⟩
  have H4 := (H3.step h34).box (.int .i64 (lineN s b : Nat)) (.int .i64 (colN s b : Nat)) 28
  have c0 : w4.cell? ⟨w3.heap.size, 0, none⟩ = some (.int .i64 (lineN s a : Nat)) := (H3.step h34).cell (by simp)
  have c1 : w4.cell? ⟨w3.heap.size, 1, none⟩ = some (.int .i64 (colN s a : Nat)) := (H3.step h34).cell (by simp)
  have b4 : w3.heap.size < w4.heap.size := (H3.step h34).lt (o := 0) (v := .int .i64 (lineN s a : Nat)) (by simp)
  have d0 : (w4.alloc (.cells #[.int .i64 (lineN s b : Nat), .int .i64 (colN s b : Nat)] 28)).cell? ⟨w4.heap.size, 0, none⟩ = some (.int .i64 (lineN s b : Nat)) := H4.cell (by simp)
  have e0 : (w4.alloc (.cells #[.int .i64 (lineN s b : Nat), .int .i64 (colN s b : Nat)] 28)).cell? ⟨w3.heap.size, 0, none⟩ = some (.int .i64 (lineN s a : Nat)) := H4.cell (by simp)
  clear H3 h34
  have hla := HLA.out
  have hlb := HLB.out
  have hca : 1 ≤ (colN s a : Int) := by unfold colN; omega
  have hcb : 1 ≤ (colN s b : Int) := by unfold colN; omega
  have hla1 : 1 ≤ (lineN s a : Int) := by omega
  have hlb1 : (lineN s b : Int) ≤ ((begs s).length : Int) := by omega
  have GL := Lib.hid (fun w ht => lines_q s p w ht)
  have hp : (lineN s a : Int) < (lineN s b : Int) ∨ ((lineN s a : Int) = (lineN s b : Int) ∧ (colN s a : Int) < (colN s b : Int)) := by have := HP.out; omega
  clear HP HLA HLB hla hlb
  generalize (lineN s a : Int) = A at *
  generalize (lineN s b : Int) = B at *
  generalize (colN s a : Int) = C at *
  generalize (colN s b : Int) = D at *
  generalize ((begs s).length : Int) = M at *
  clear hca
  have T4 := H4.tab
  rcases hp with hlt | ⟨heq, hlt⟩
  · go_wp2_with fail
    go_quiet (first | (go_at_call 19; refine Calls.quiet_of (GL.out _ (TableAt.drewN T4 _))))
    go_wp2_with fail
    go_ret
    have hb := H4.bel
    exact ⟨rfl, by repeat (first | exact Below.refl _ _ | refine below_drewN ?_ _ | apply Below.setCell _ (by first | omega | (simp <;> omega)) | apply Below.alloc _ (by first | omega | (simp <;> omega)) | exact hb | refine after ?_ hb)⟩
  · subst heq
    go_wp2_with fail
    go_quiet (first | (go_at_call 19; refine Calls.quiet_of (GL.out _ (TableAt.drewN T4 _))))
    go_wp2_with fail
    go_ret
    have hb := H4.bel
    exact ⟨rfl, by repeat (first | exact Below.refl _ _ | refine below_drewN ?_ _ | apply Below.setCell _ (by first | omega | (simp <;> omega)) | apply Below.alloc _ (by first | omega | (simp <;> omega)) | exact hb | refine after ?_ hb)⟩

theorem order_any (s : ByteArray) (hs0 : s.size ≤ maxLen) (a : Int) (ha : (Lit.int .i64 a).wf = true) (b : Int) (hb : (Lit.int .i64 b).wf = true) (w : World) (hn : Tab w) :
    Calls Tryd.prog 7 #[.string s, .int .i64 a, .int .i64 b] w fun e w' => e = .returned (.bool true) ∧ Below w.heap.size w w' := by
  have hs : s.size < 9223372036854775808 := by unfold maxLen at hs0; omega
  by_cases h : 65536 < s.size ∨ a < 0 ∨ (s.size : Int) < b ∨ b ≤ a
  · exact order_out s a b w hn hs h
  · obtain ⟨k, rfl⟩ : ∃ k : Nat, a = k := ⟨a.toNat, by omega⟩
    obtain ⟨m, rfl⟩ : ∃ k : Nat, b = k := ⟨b.toNat, by omega⟩
    exact order_in s k m w hn (by omega) (by omega) (by omega)

end Go.Proofs.YtcmeeehhhnmfgaaDoor
