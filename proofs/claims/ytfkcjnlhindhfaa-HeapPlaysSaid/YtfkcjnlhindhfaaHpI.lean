/- Contract of a heap's Array. -/
import Derived.Test.YtfkcjnlhindhfaaHpH
namespace Go.Proofs.Ytfkcjnlhindhfaa
open Go Go.RowKit
set_option linter.unusedVariables false
set_option linter.unusedSimpArgs false

set_option maxHeartbeats 2000000 in
theorem array_range (b bB n : Nat) (L : List ThR) (v : Value) (tB : Int) (tN : ByteArray) (tD : Int) (tM : ByteArray) (c : Int) (w : World) (hc : c < 0) :
    Calls Try.prog 9 #[.pointer (some ⟨b, 0, none⟩), .agg #[.int .i64 tB, .string tN, .int .i64 tD, .string tM], .int .i64 c] w fun e w' => e = .returned (.tuple #[.agg #[.int .i64 0, .int .i64 0, .string ⟨#[]⟩], .int .i64 1]) ∧ Below w.heap.size w w' := by
  go_enter Try.func9, Try.ntmps9
  go_wp2_with fail
  refine bodyPost_ret (v := .tuple #[.agg #[.int .i64 0, .int .i64 0, .string ⟨#[]⟩], .int .i64 1]) (by simp [results, Try.results9, go_sem]) rfl ?_
  exact ⟨rfl, by repeat (first | exact Below.refl _ _ | apply Below.setCell _ (by first | omega | (simp <;> omega)) | apply Below.alloc _ (by first | omega | (simp <;> omega)))⟩
set_option maxHeartbeats 2000000 in
theorem array_long (b bB n : Nat) (L : List ThR) (v : Value) (tB : Int) (tN : ByteArray) (tD : Int) (tM : ByteArray) (c : Int) (w : World) (h : HpM w bB b L n v) (h0 : ¬ c < 0) (hr : (decide (L.length < 4096) && decide (c ≤ 65536 - n)) = false) :
    Calls Try.prog 9 #[.pointer (some ⟨b, 0, none⟩), .agg #[.int .i64 tB, .string tN, .int .i64 tD, .string tM], .int .i64 c] w fun e w' => e = .returned (.tuple #[.agg #[.int .i64 0, .int .i64 0, .string ⟨#[]⟩], .int .i64 2]) ∧ Below w.heap.size w w' := by
  have HR := Lib.hid (fun w2 (hb : Below w.heap.size w w2) => room_any b bB n L v c w2 (h.step hb))
  have HE := Lib.hid hr
  clear h hr
  go_enter Try.func9, Try.ntmps9
  go_wp2_with fail
  refine (HR.out _ (by repeat (first | exact Below.refl _ _ | apply Below.setCell _ (by first | omega | (simp <;> omega)) | apply Below.alloc _ (by first | omega | (simp <;> omega))))).mono ?_
  rintro e w1 ⟨he, h1⟩
  rw [HE.out] at he
  subst he
  obtain ⟨hb1, x1, x2⟩ := box2 h1
  obtain ⟨q0, q1, q2, ql, qf⟩ := x2.three
  go_wp2_with fail
  refine bodyPost_ret (v := .tuple #[.agg #[.int .i64 0, .int .i64 0, .string ⟨#[]⟩], .int .i64 2]) (by simp [results, Try.results9, go_sem, q0, q1, q2]) rfl ?_
  exact ⟨rfl, hb1.trans (by repeat (first | exact Below.refl _ _ | apply Below.setCell _ (by first | omega | (simp <;> omega)) | apply Below.alloc _ (by first | omega | (simp <;> omega))))⟩

set_option maxRecDepth 100000 in
set_option maxHeartbeats 4000000 in
theorem array_yes (b bB n : Nat) (L : List ThR) (v : Value) (tB : Int) (tN : ByteArray) (tD : Int) (tM : ByteArray) (m : Nat) (w : World) (h : HpM w bB b L n v) (hB : bB ≤ w.heap.size) (hL : L.length < 4096) (hn : n + m ≤ 65536)
    (hN : tN.size ≤ 281474976710656) (hM : tM.size ≤ 281474976710656) :
    Calls Try.prog 9 #[.pointer (some ⟨b, 0, none⟩), .agg #[.int .i64 tB, .string tN, .int .i64 tD, .string tM], .int .i64 (m : Nat)] w (MadeH w bB b L n ⟨true, ⟨#[]⟩, (tB, tN, tD, tM), List.replicate m (emptyV tB tD tM)⟩) := by
  have HR := Lib.hid (fun w2 (hb : Below w.heap.size w w2) => room_any b bB n L v (m : Nat) w2 (h.step hb))
  have HE := Lib.hid (show (decide (L.length < 4096) && decide ((m : Int) ≤ 65536 - n)) = true by simp [hL]; omega)
  have HC := Lib.hid (fun w => own_any tB tN tD tM w hN hM)
  have HH := Lib.hid h
  have HLL := Lib.hid hL
  have HN := Lib.hid hn
  have HCS := Lib.hid (And.intro hN hM)
  have HEm := Lib.hid (fun w => empty_any tB tN tD tM w (by omega))
  clear h hL hN hM
  have hmk0 := make_vals m (by omega)
  have MK := Lib.hid hmk0
  obtain ⟨l, hl⟩ : ∃ l : List Unit, l = List.replicate m () := ⟨_, rfl⟩
  have hlm : l.length = m := by rw [hl]; simp
  have hrep : l.map (fun _ => emptyV tB tD tM) = List.replicate m (emptyV tB tD tM) := by rw [hl]; simp
  have ML := Lib.hid hlm
  have HREP := Lib.hid hrep
  clear hl hlm hrep hmk0
  have m0 : ¬ (m : Int) < 0 := by omega
  go_enter Try.func9, Try.ntmps9
  go_wp2_with fail
  refine (HR.out _ (by repeat (first | exact Below.refl _ _ | apply Below.setCell _ (by first | omega | (simp <;> omega)) | apply Below.alloc _ (by first | omega | (simp <;> omega))))).mono ?_
  rintro e w1 ⟨he, h1⟩
  rw [HE.out] at he
  subst he
  obtain ⟨hb1, x0, x1⟩ := box2 h1
  have B1 := Lib.hid hb1
  have X0 := Lib.hid x0
  have X1 := Lib.hid x1
  have hsz : w.heap.size + 1 < w1.heap.size := x1.lt
  clear hb1 x0 x1 h1 HR HE
  have hmk := MK.out w1
  go_wp2_with fail
  clear hmk MK
  go_loopw [24] (fun i wr => ∃ k : Nat, k ≤ m ∧ i = .int .i64 k ∧ Below w1.heap.size w1 wr ∧ Bx 32 wr w1.heap.size (flatV (rowK (fun _ => emptyV tB tD tM) l k))) (fun i _ => m - (intOf i).toNat)
  case atStart => exact ⟨0, Nat.zero_le _, rfl, (Below.refl _ _).alloc (Nat.le_refl _) _, by rw [rowK_zero, ML.out]; exact Bx.new 32 w1 (flatV (zeroV m)).toArray⟩
  case round =>
    obtain ⟨k, hk, rfl, hbr, hxr⟩ := hrel
    have BR := Lib.hid hbr
    have XR := Lib.hid hxr
    have hszr : w1.heap.size < wr.heap.size := hxr.lt
    clear hbr hxr
    have Y0 := Lib.hid (show Bx 30 wr w.heap.size [.int .i64 tB, .string tN, .int .i64 tD, .string tM] from X0.out.at_ (k := 0) (BR.out.block _ (by omega)))
    obtain ⟨y0, y1, y2, y3, yl, yf⟩ := Y0.out.four
    by_cases hlt : k < m
    · have hkl : k < l.length := by rw [ML.out]; exact hlt
      have HNX := Lib.hid (rowK_next (fun _ => emptyV tB tD tM) l k hkl)
      have HRL := Lib.hid (rowK_len (fun _ => emptyV tB tD tM) l k (by omega))
      clear hkl
      go_wp2_with fail
      refine (HEm.out _).mono ?_
      rintro e w5 ⟨rfl, h5⟩
      have H5 := Lib.hid h5
      have X5 := Lib.hid (XR.out.keep H5.out)
      obtain ⟨z, r0, r1, r2⟩ := X5.out.vsome k (by rw [HRL.out, ML.out]; exact hlt)
      have rl := X5.out.lt
      have rf := X5.out.frozen
      clear h5 y0 y1 y2 y3 yl yf
      have hm2 : m ≤ 65536 := by omega
      go_wp2_with fail
      have HZ : Hid (Below w1.heap.size w1 (w5.setCells w1.heap.size (k * 3) (vC (emptyV tB tD tM))) ∧ Bx 32 (w5.setCells w1.heap.size (k * 3) (vC (emptyV tB tD tM))) w1.heap.size (flatV (rowK (fun _ => emptyV tB tD tM) l (k + 1)))) := Lib.hid (by
        refine ⟨(BR.out.trans (H5.out.mono (by omega))).trans (fill_below _ (Nat.le_refl _) _ _ _), ?_⟩
        rw [← HNX.out]
        exact X5.out.vset k (by rw [HRL.out, ML.out]; exact hlt) _)
      go_roundw
      case rel => exact ⟨k + 1, by omega, by go_num, HZ.out.1, HZ.out.2⟩
      case measure => simp [intOf]; omega
    · have hk' : k = m := by omega
      subst hk'
      have XA := Lib.hid (show Bx 32 wr w1.heap.size (flatV (List.replicate k (emptyV tB tD tM))) by have := XR.out; rw [← HREP.out]; rw [← ML.out, rowK_all] at this; exact this)
      have B2 := Lib.hid (B1.out.trans (BR.out.mono (by omega)))
      have X2 := Lib.hid (show Bx 32 wr (w.heap.size + 1) [.int .i64 0, .int .i64 0, .string ⟨#[]⟩] from X1.out.at_ (k := 0) (BR.out.block _ hsz))
      have HA := Lib.hid (fun w2 (h2 : Below wr.heap.size wr w2) => add_any b bB n L v true ⟨#[]⟩ tB tN tD tM (List.replicate k (emptyV tB tD tM)) w1.heap.size w2 (HH.out.step (after B2.out h2)) (by have := (after B2.out h2).size; omega) HLL.out (by rw [List.length_replicate]; exact HN.out) (by omega)
        (XA.out.keep h2) (fun x hx => by have := (HH.out.cells x hx).2.lt; omega)
        ⟨Nat.zero_le _, HCS.out.1, HCS.out.2, by rw [List.length_replicate]; have := HN.out; omega, fun x hx => by
          rw [(List.mem_replicate.1 hx).2, (emptyV_text _ _ _).1]
          decide⟩)
      rw [List.length_replicate] at HA
      clear X1 XR X0
      go_wp2_with fail
      refine (HC.out _).mono ?_
      rintro e w6 ⟨rfl, h6⟩
      go_wp2_with fail
      refine (HA.out _ h6).mono ?_
      rintro e w7 ⟨rfl, h7, ⟨v7, hp7⟩, k7⟩
      have hbw : b < w.heap.size := HH.out.box.lt
      have hb0 : w.heap.size + 1 ≠ b := by omega
      have X7 := Lib.hid (k7.bx (X2.out.keep h6) (by decide) hb0)
      have HP7 := Lib.hid hp7
      have H7 := Lib.hid h7
      have K7 := Lib.hid k7
      have H6 := Lib.hid h6
      obtain ⟨q0, q1, q2, ql, qf⟩ := X7.out.three
      clear h7 hp7 k7 h6 y0 y1 y2 y3 yl yf
      go_wp2_with fail
      refine bodyPost_ret (v := .tuple #[.agg #[.int .i64 5, .int .i64 (L.length : Nat), .string ⟨#[]⟩], .int .i64 0]) (by simp [results, Try.results9, go_sem, q0, q1, q2]) rfl ?_
      have HS2 := Lib.hid (Same.sets (w.heap.size + 1) [.int .i64 5, .int .i64 (L.length : Nat), .string ⟨#[]⟩] 0 w7)
      have hne : ∀ y ∈ L ++ [((⟨true, ⟨#[]⟩, (tB, tN, tD, tM), List.replicate k (emptyV tB tD tM)⟩ : Th), w1.heap.size)], y.2 ≠ w.heap.size + 1 := fun y hy e => by
        rcases List.mem_append.1 hy with hy | hy
        · have := (HH.out.cells y hy).2.lt
          omega
        · rw [List.mem_singleton] at hy
          subst hy
          simp at e
          omega
      refine ⟨rfl, ?_, ⟨w1.heap.size, v7, HP7.out.same HS2.out (by omega) (own_ne HP7.out.own X7.out (by decide)) hne, by omega⟩, KeptT.out (KeptT.trans (KeptT.of_below b (after B2.out H6.out)) K7.out) HS2.out (Nat.le_succ _)⟩
      exact (((after B2.out H6.out).mono hB).trans H7.out).trans (fill_below (w.heap.size + 1) (by omega) [.int .i64 5, .int .i64 (L.length : Nat), .string ⟨#[]⟩] 0 _)
end Go.Proofs.Ytfkcjnlhindhfaa
