/- Contract of a heap's Object. -/
import Derived.Test.YtfkcjnlhindhfaaHpG
namespace Go.Proofs.Ytfkcjnlhindhfaa
open Go Go.RowKit
set_option linter.unusedVariables false
set_option linter.unusedSimpArgs false

theorem infoVal : (Try.prog.info? 32).map (fun i => (i.zero, i.size, i.bytes)) = some (some (.agg #[.int .i64 0, .int .i64 0, .string ⟨#[]⟩]), 3, 32) := by kernel_rfl
theorem zeroV_len (n : Nat) : (zeroV n).length = n := by unfold zeroV; simp
theorem zeroV_at (n i : Nat) (h : i < (zeroV n).length) : (zeroV n)[i]'h = (0, 0, ⟨#[]⟩) := (List.mem_replicate.1 (show (zeroV n)[i]'h ∈ List.replicate n (0, 0, ⟨#[]⟩) from List.getElem_mem h)).2
theorem made_zero (n : Nat) : madeCells #[.int .i64 0, .int .i64 0, .string ⟨#[]⟩] (n * 3) = (flatV (zeroV n)).toArray := by
  apply Array.ext_getElem?
  intro i
  by_cases h : i < n * 3
  · have h3 : i % 3 < 3 := Nat.mod_lt _ (by omega)
    have hi : i / 3 < (zeroV n).length := by rw [zeroV_len]; omega
    have e := fm_at vC 3 (fun _ => rfl) (zeroV n) (i / 3) hi (i % 3) h3
    rw [show i / 3 * 3 + i % 3 = i by omega] at e
    have e2 : (zeroV n)[i / 3]'hi = (0, 0, ⟨#[]⟩) := zeroV_at n _ hi
    rw [e2] at e
    simp only [List.getElem?_toArray]
    unfold flatV
    rw [e]
    unfold madeCells
    rw [Array.getElem?_map, Array.getElem?_range, if_pos h]
    simp only [Option.map_some]
    have : i % 3 = 0 ∨ i % 3 = 1 ∨ i % 3 = 2 := by omega
    show some (#[Value.int .i64 0, .int .i64 0, .string ⟨#[]⟩][i % 3]!) = _
    rcases this with q | q | q <;> rw [q] <;> rfl
  · rw [Array.getElem?_eq_none (by rw [size_madeCells]; omega), Array.getElem?_eq_none (by simp [flatV_len, zeroV_len]; omega)]
theorem make_vals (n : Nat) (hn : n ≤ 1000000) (w : World) : (Instr.makeSlice 38 (.int .i64 n) (.int .i64 n)).run Try.prog w = .ok (.slice (some ⟨w.heap.size, 0, none⟩) n n) (w.alloc (.cells (flatV (zeroV n)).toArray 32)) := by
  obtain ⟨i0, hi, hz, hs, hb⟩ := info_parts infoVal
  have hr := run_make (P := Try.prog) w 38 32 i0 _ Try.underlying38 hi hz .i64 .i64 n n (by omega) (Int.le_refl _) (by rw [hb]; omega) (by omega)
  simp only [Int.toNat_natCast, hs] at hr
  rw [hr, ← made_zero]
  rfl
/-- the row of a making loop's round -/
def rowK {α : Type} (f : α → Vl) (l : List α) (k : Nat) : List Vl := (l.take k).map f ++ zeroV (l.length - k)
theorem rowK_len {α : Type} (f : α → Vl) (l : List α) (k : Nat) (hk : k ≤ l.length) : (rowK f l k).length = l.length := by unfold rowK; rw [List.length_append, zeroV_len, List.length_map, List.length_take]; omega
theorem rowK_zero {α : Type} (f : α → Vl) (l : List α) : rowK f l 0 = zeroV l.length := by unfold rowK; simp
theorem rowK_all {α : Type} (f : α → Vl) (l : List α) : rowK f l l.length = l.map f := by unfold rowK zeroV; simp
theorem rowK_next {α : Type} (f : α → Vl) (l : List α) (k : Nat) (hk : k < l.length) : (rowK f l k).set k (f l[k]) = rowK f l (k + 1) := by
  unfold rowK
  rw [List.set_append_right _ _ (by rw [List.length_map, List.length_take]; omega), List.length_map, List.length_take, show k - min k l.length = 0 by omega]
  rw [List.take_succ_eq_append_getElem hk, List.map_append, List.append_assoc]
  congr 1
  obtain ⟨m, hm⟩ : ∃ m, l.length - k = m + 1 := ⟨l.length - k - 1, by omega⟩
  rw [hm, show l.length - (k + 1) = m by omega]
  unfold zeroV
  rw [List.replicate_succ]
  rfl

theorem Bx.vsome {T : TypeId} {w : World} {g : Nat} {l : List Vl} (h : Bx T w g (flatV l)) (i : Nat) (hi : i < l.length) :
    ∃ z : Vl, w.cell? ⟨g, i * 3, none⟩ = some (.int .i64 z.1) ∧ w.cell? ⟨g, i * 3 + 1, none⟩ = some (.int .i64 z.2.1) ∧ w.cell? ⟨g, i * 3 + 2, none⟩ = some (.string z.2.2) := ⟨_, h.vcells i hi⟩
/-- types in memory -/
def TysIn (w : World) (src : Option Addr) (l : List Ty4) : Prop := 0 < l.length → ∃ b off, src = some ⟨b, off, none⟩ ∧ b < w.heap.size ∧ ∀ i (h : i < l.length), w.cell? ⟨b, off + i * 4, none⟩ = some (.int .i64 l[i].1) ∧ w.cell? ⟨b, off + i * 4 + 1, none⟩ = some (.string l[i].2.1) ∧ w.cell? ⟨b, off + i * 4 + 2, none⟩ = some (.int .i64 l[i].2.2.1) ∧ w.cell? ⟨b, off + i * 4 + 3, none⟩ = some (.string l[i].2.2.2)
theorem TysIn.step {w w' : World} {src : Option Addr} {l : List Ty4} (h : TysIn w src l) (hb : Below w.heap.size w w') : TysIn w' src l := fun h0 => by
  obtain ⟨b, off, h1, h2, h3⟩ := h h0
  exact ⟨b, off, h1, Nat.lt_of_lt_of_le h2 hb.size, fun i hi => ⟨keep hb h2 (h3 i hi).1, keep hb h2 (h3 i hi).2.1, keep hb h2 (h3 i hi).2.2.1, keep hb h2 (h3 i hi).2.2.2⟩⟩

def MadeH (w : World) (B b : Nat) (L : List ThR) (n : Nat) (t : Th) (e : Ending) (w' : World) : Prop :=
  e = .returned (.tuple #[.agg #[.int .i64 5, .int .i64 (L.length : Nat), .string ⟨#[]⟩], .int .i64 0]) ∧ Below B w w' ∧ (∃ g v', HpM w' B b (L ++ [(t, g)]) (n + t.vs.length) v' ∧ w.heap.size ≤ g) ∧ KeptT w w' b

set_option maxHeartbeats 2000000 in
theorem object_no (b bB n : Nat) (L : List ThR) (v : Value) (cls : ByteArray) (src : Option Addr) (len cap : Nat) (w : World) (h : HpM w bB b L n v) (hr : (decide (L.length < 4096) && decide ((len : Int) ≤ 65536 - n)) = false) (hl : len ≤ 9223372036854775807) :
    Calls Try.prog 6 #[.pointer (some ⟨b, 0, none⟩), .string cls, .slice src len cap] w fun e w' => e = .returned (.tuple #[.agg #[.int .i64 0, .int .i64 0, .string ⟨#[]⟩], .int .i64 2]) ∧ Below w.heap.size w w' := by
  have HR := Lib.hid (fun w2 (hb : Below w.heap.size w w2) => room_any b bB n L v (len : Nat) w2 (h.step hb))
  have HE := Lib.hid hr
  clear h hr
  go_enter Try.func6, Try.ntmps6
  go_wp2_with fail
  refine (HR.out _ (by repeat (first | exact Below.refl _ _ | apply Below.setCell _ (by first | omega | (simp <;> omega)) | apply Below.alloc _ (by first | omega | (simp <;> omega))))).mono ?_
  rintro e w1 ⟨he, h1⟩
  rw [HE.out] at he
  subst he
  obtain ⟨hb1, x1⟩ := box1 h1
  obtain ⟨q0, q1, q2, ql, qf⟩ := x1.three
  go_wp2_with fail
  refine bodyPost_ret (v := .tuple #[.agg #[.int .i64 0, .int .i64 0, .string ⟨#[]⟩], .int .i64 2]) (by simp [results, Try.results6, go_sem, q0, q1, q2]) rfl ?_
  exact ⟨rfl, hb1.trans (by repeat (first | exact Below.refl _ _ | apply Below.setCell _ (by first | omega | (simp <;> omega)) | apply Below.alloc _ (by first | omega | (simp <;> omega))))⟩

set_option maxRecDepth 100000 in
set_option maxHeartbeats 4000000 in
theorem object_yes (b bB n : Nat) (L : List ThR) (v : Value) (cls : ByteArray) (src : Option Addr) (l : List Ty4) (cap : Nat) (w : World) (h : HpM w bB b L n v) (hB : bB ≤ w.heap.size) (hL : L.length < 4096) (hn : n + l.length ≤ 65536)
    (hc : cls.size ≤ 281474976710656) (hs : TysIn w src l) (hM : ∀ t ∈ l, t.2.2.2.size ≤ 9223372036854775807) :
    Calls Try.prog 6 #[.pointer (some ⟨b, 0, none⟩), .string cls, .slice src l.length cap] w (MadeH w bB b L n ⟨false, cls, (0, ⟨#[]⟩, 0, ⟨#[]⟩), l.map emptyT⟩) := by
  have HR := Lib.hid (fun w2 (hb : Below w.heap.size w w2) => room_any b bB n L v (l.length : Nat) w2 (h.step hb))
  have HE := Lib.hid (show (decide (L.length < 4096) && decide ((l.length : Int) ≤ 65536 - n)) = true by simp [hL]; omega)
  have HC := Lib.hid (fun w => clone_any cls w hc)
  have HH := Lib.hid h
  have HS := Lib.hid hs
  have HM := Lib.hid hM
  have HLL := Lib.hid hL
  have HN := Lib.hid hn
  have HCS := Lib.hid hc
  clear h hs hM hc hL
  have hmk0 := make_vals l.length (by omega)
  have MK := Lib.hid hmk0
  generalize hl : l.length = m at *
  have ML := Lib.hid hl
  clear hl hmk0
  go_enter Try.func6, Try.ntmps6
  go_wp2_with fail
  refine (HR.out _ (by repeat (first | exact Below.refl _ _ | apply Below.setCell _ (by first | omega | (simp <;> omega)) | apply Below.alloc _ (by first | omega | (simp <;> omega))))).mono ?_
  rintro e w1 ⟨he, h1⟩
  rw [HE.out] at he
  subst he
  obtain ⟨hb1, x1⟩ := box1 h1
  have B1 := Lib.hid hb1
  have X1 := Lib.hid x1
  have hsz : w.heap.size < w1.heap.size := x1.lt
  clear hb1 x1 h1 HR HE
  have hmk := MK.out w1
  go_wp2_with fail
  clear hmk MK
  go_loopw [22] (fun i wr => ∃ k : Nat, k ≤ m ∧ i = .int .i64 k ∧ Below w1.heap.size w1 wr ∧ Bx 32 wr w1.heap.size (flatV (rowK emptyT l k))) (fun i _ => m - (intOf i).toNat)
  case atStart => exact ⟨0, Nat.zero_le _, rfl, (Below.refl _ _).alloc (Nat.le_refl _) _, by rw [rowK_zero, ML.out]; exact Bx.new 32 w1 (flatV (zeroV m)).toArray⟩
  case round =>
    obtain ⟨k, hk, rfl, hbr, hxr⟩ := hrel
    have BR := Lib.hid hbr
    have XR := Lib.hid hxr
    have hszr : w1.heap.size < wr.heap.size := hxr.lt
    clear hbr hxr
    by_cases hlt : k < m
    · have hkl : k < l.length := by rw [ML.out]; exact hlt
      obtain ⟨bs, off, rfl, hbs, hat⟩ := HS.out (by omega)
      obtain ⟨t0, t1, t2, t3⟩ := hat k hkl
      have HMK := Lib.hid (HM.out _ (List.getElem_mem hkl))
      have HNX := Lib.hid (rowK_next emptyT l k hkl)
      have HRL := Lib.hid (rowK_len emptyT l k (by omega))
      have B2 := Lib.hid (B1.out.trans (BR.out.mono (by omega)))
      have t0' := keep B2.out hbs t0
      have t1' := keep B2.out hbs t1
      have t2' := keep B2.out hbs t2
      have t3' := keep B2.out hbs t3
      have hbs2 : bs < wr.heap.size := Nat.lt_of_lt_of_le hbs B2.out.size
      clear t0 t1 t2 t3 hat
      generalize l[k] = y at *
      obtain ⟨tB, tN, tD, tM⟩ := y
      simp only at t0' t1' t2' t3'
      have HEm := Lib.hid (fun w => empty_any tB tN tD tM w HMK.out)
      clear hkl
      go_wp2_with fail
      refine (HEm.out _).mono ?_
      rintro e w5 ⟨rfl, h5⟩
      have hba : Below wr.heap.size wr (wr.alloc (.cells #[.int .i64 tB, .string tN, .int .i64 tD, .string tM] 30)) := (Below.refl _ _).alloc (Nat.le_refl _) _
      have H5 := Lib.hid (after hba h5)
      have X5 := Lib.hid (XR.out.keep H5.out)
      obtain ⟨z, r0, r1, r2⟩ := X5.out.vsome k (by rw [HRL.out, ML.out]; exact hlt)
      have rl := X5.out.lt
      have rf := X5.out.frozen
      clear hba h5 t0' t1' t2' t3' hbs2 hbs
      have hm2 : m ≤ 65536 := by omega
      go_wp2_with fail
      have HZ : Hid (Below w1.heap.size w1 (w5.setCells w1.heap.size (k * 3) (vC (emptyV tB tD tM))) ∧ Bx 32 (w5.setCells w1.heap.size (k * 3) (vC (emptyV tB tD tM))) w1.heap.size (flatV (rowK emptyT l (k + 1)))) := Lib.hid (by
        refine ⟨(BR.out.trans (H5.out.mono (by omega))).trans (fill_below _ (Nat.le_refl _) _ _ _), ?_⟩
        rw [← HNX.out]
        exact X5.out.vset k (by rw [HRL.out, ML.out]; exact hlt) _)
      go_roundw
      case rel => exact ⟨k + 1, by omega, by go_num, HZ.out.1, HZ.out.2⟩
      case measure => simp [intOf]; omega
    · have hk' : k = m := by omega
      subst hk'
      have XA := Lib.hid (show Bx 32 wr w1.heap.size (flatV (l.map emptyT)) by have := XR.out; rw [← ML.out, rowK_all] at this; exact this)
      have B2 := Lib.hid (B1.out.trans (BR.out.mono (by omega)))
      have X2 := Lib.hid (show Bx 32 wr w.heap.size [.int .i64 0, .int .i64 0, .string ⟨#[]⟩] from X1.out.at_ (k := 0) (BR.out.block _ hsz))
      have HA := Lib.hid (fun w2 (h2 : Below wr.heap.size wr w2) => add_any b bB n L v false cls 0 ⟨#[]⟩ 0 ⟨#[]⟩ (l.map emptyT) w1.heap.size w2 (HH.out.step (after B2.out h2)) (by have := (after B2.out h2).size; omega) HLL.out (by rw [List.length_map, ML.out]; exact HN.out) (by omega)
        (XA.out.keep h2) (fun x hx => by have := (HH.out.cells x hx).2.lt; omega)
        ⟨HCS.out, Nat.zero_le _, Nat.zero_le _, by rw [List.length_map, ML.out]; have := HN.out; omega, fun x hx => by
          obtain ⟨y, -, rfl⟩ := List.mem_map.1 hx
          unfold emptyT
          rw [(emptyV_text _ _ _).1]
          decide⟩)
      have hml : (l.map emptyT).length = k := by rw [List.length_map]; exact ML.out
      rw [hml] at HA
      clear X1 XR
      go_wp2_with fail
      refine (HC.out _).mono ?_
      rintro e w6 ⟨rfl, h6⟩
      go_wp2_with fail
      refine (HA.out _ h6).mono ?_
      rintro e w7 ⟨rfl, h7, ⟨v7, hp7⟩, k7⟩
      have hbw : b < w.heap.size := HH.out.box.lt
      have hb0 : w.heap.size ≠ b := by omega
      have X7 := Lib.hid (k7.bx (X2.out.keep h6) (by decide) hb0)
      have HP7 := Lib.hid hp7
      have H7 := Lib.hid h7
      have K7 := Lib.hid k7
      have H6 := Lib.hid h6
      obtain ⟨q0, q1, q2, ql, qf⟩ := X7.out.three
      clear h7 hp7 k7 h6
      go_wp2_with fail
      refine bodyPost_ret (v := .tuple #[.agg #[.int .i64 5, .int .i64 (L.length : Nat), .string ⟨#[]⟩], .int .i64 0]) (by simp [results, Try.results6, go_sem, q0, q1, q2]) rfl ?_
      have HS2 := Lib.hid (Same.sets w.heap.size [.int .i64 5, .int .i64 (L.length : Nat), .string ⟨#[]⟩] 0 w7)
      have hne : ∀ y ∈ L ++ [((⟨false, cls, (0, ⟨#[]⟩, 0, ⟨#[]⟩), l.map emptyT⟩ : Th), w1.heap.size)], y.2 ≠ w.heap.size := fun y hy e => by
        rcases List.mem_append.1 hy with hy | hy
        · have := (HH.out.cells y hy).2.lt
          omega
        · rw [List.mem_singleton] at hy
          subst hy
          simp at e
          omega
      refine ⟨rfl, ?_, ⟨w1.heap.size, v7, HP7.out.same HS2.out (by omega) (own_ne HP7.out.own X7.out (by decide)) hne, by omega⟩, KeptT.out (KeptT.trans (KeptT.of_below b (after B2.out H6.out)) K7.out) HS2.out (Nat.le_refl _)⟩
      exact (((after B2.out H6.out).mono hB).trans H7.out).trans (fill_below w.heap.size hB [.int .i64 5, .int .i64 (L.length : Nat), .string ⟨#[]⟩] 0 _)
end Go.Proofs.Ytfkcjnlhindhfaa
