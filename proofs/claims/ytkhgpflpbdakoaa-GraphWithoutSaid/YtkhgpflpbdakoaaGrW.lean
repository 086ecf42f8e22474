/- Contracts of graph's comes and of a graph's Right. -/
import Derived.Test.YtkhgpflpbdakoaaGrV
namespace Go.Proofs.Ytkhgpflpbdakoaa
open Go Go.RowKit
set_option linter.unusedVariables false
set_option linter.unusedSimpArgs false

/-- a list of yes and no, as it reads -/
def BlV (w : World) (v : Value) (n : Nat) (F : Nat → Bool) : Prop := ∃ src cap, v = .slice src n cap ∧ ∀ j, j < n → ∃ g off, src = some ⟨g, off, none⟩ ∧ g < w.heap.size ∧ w.cell? ⟨g, off + j, none⟩ = some (.bool (F j))
theorem BlV.step {w w' : World} {v : Value} {n : Nat} {F : Nat → Bool} (h : BlV w v n F) (hb : Below w.heap.size w w') : BlV w' v n F := by
  obtain ⟨src, cap, hv, hx⟩ := h
  refine ⟨src, cap, hv, fun j hj => ?_⟩
  obtain ⟨g, off, h1, h2, h3⟩ := hx j hj
  exact ⟨g, off, h1, Nat.lt_of_lt_of_le h2 hb.size, keep hb h2 h3⟩
theorem NewB.bl {w0 w : World} {n : Nat} {F : Nat → Bool} {v : Value} (h : NewB w0 w n F v) : BlV w v n F := by
  obtain ⟨b, rfl, hb, hx⟩ := h
  refine ⟨_, _, rfl, fun j hj => ⟨b, 0, rfl, hx.lt, ?_⟩⟩
  rw [Nat.zero_add, hx.cell, rowB_at _ hj]
/-- null comes along an edge -/
def comesP (F : Nat → Bool) (e : Eg) : Bool := e.1 == -1 || F e.1.toNat
set_option maxHeartbeats 1000000 in
theorem comes_any {w : World} {v : Value} {n : Nat} {F : Nat → Bool} (h : BlV w v n F) (e : Eg) (he : okE' n e) :
    Calls Try.prog 29 #[v, (.agg #[.int .i64 e.1, .int .i64 e.2.1, .int .i64 e.2.2.1, .int .i64 e.2.2.2])] w fun x w' => x = .returned (.bool (comesP F e)) ∧ Below w.heap.size w w' := by
  obtain ⟨src, cap, rfl, hx⟩ := h
  by_cases h1 : e.1 = -1
  · have i1 : (e.1 == -1) = true := by simpa using h1
    have hc : comesP F e = true := by unfold comesP; rw [i1]; rfl
    rw [hc]
    clear h1 hx hc
    go_enter Try.func29, Try.ntmps29
    go_wp2_with fail
    go_ret
    exact ⟨rfl, by repeat (first | exact Below.refl _ _ | apply Below.setCell _ (by first | omega | (simp <;> omega)) | apply Below.alloc _ (by first | omega | (simp <;> omega)))⟩
  · obtain ⟨h2, h3⟩ := he.1.resolve_left h1
    obtain ⟨g, off, rfl, hg, hc⟩ := hx e.1.toNat (by omega)
    have i1 : (e.1 == -1) = false := by simpa using h1
    have hcm : comesP F e = F e.1.toNat := by unfold comesP; rw [i1]; rfl
    rw [hcm]
    clear hx hcm
    go_enter Try.func29, Try.ntmps29
    go_wp2_with fail
    go_ret
    exact ⟨by first | rfl | simp, by repeat (first | exact Below.refl _ _ | apply Below.setCell _ (by first | omega | (simp <;> omega)) | apply Below.alloc _ (by first | omega | (simp <;> omega)))⟩
/-- a set that is right -/
def rightP (L : List Eg) (F : Nat → Bool) : Bool := L.all fun e => !(comesP F e && !F e.2.1.toNat)

theorem right_len {w : World} {B n : Nat} {L : List Eg} {S : GrS} (h : GrM w B n L S) {src : Option Addr} {m cap : Nat} (hm : m ≠ n) :
    Calls Try.prog 16 #[(.pointer (some ⟨S.g, 0, none⟩)), .slice src m cap] w fun x w' => x = .returned (.bool false) ∧ Below w.heap.size w w' := by
  obtain ⟨c0, c1, c2, c3, cl, cf⟩ := h.cells
  have i1 : ((m : Int) == (n : Int)) = false := by simp; omega
  go_enter Try.func16, Try.ntmps16
  go_wp2_with fail
  go_ret
  exact ⟨rfl, by repeat (first | exact Below.refl _ _ | apply Below.setCell _ (by first | omega | (simp <;> omega)) | apply Below.alloc _ (by first | omega | (simp <;> omega)))⟩
set_option maxRecDepth 100000 in
set_option maxHeartbeats 2000000 in
theorem right_any {w : World} {B n : Nat} {L : List Eg} {S : GrS} (h : GrM w B n L S) (hn : n ≤ 8192) (hL : L.length ≤ 16384) (hok : ∀ e ∈ L, okE' n e) {v : Value} {F : Nat → Bool} (hv : BlV w v n F) :
    Calls Try.prog 16 #[(.pointer (some ⟨S.g, 0, none⟩)), v] w fun x w' => x = .returned (.bool (rightP L F)) ∧ Below w.heap.size w w' := by
  obtain ⟨c0, c1, c2, c3, cl, cf⟩ := h.cells
  obtain ⟨es, ec, hes, hec⟩ := h.ev_cells
  rw [hes] at c1
  have HEC := Lib.hid hec
  have HC := Lib.hid (fun (w' : World) (hb : Below w.heap.size w w') (e : Eg) (he : e ∈ L) => comes_any (hv.step hb) e (hok e he))
  have HV := Lib.hid hv
  have HOK := Lib.hid hok
  obtain ⟨bs, bc, rfl, hbx⟩ := hv
  have HBX := Lib.hid hbx
  have HL := Lib.hid hL
  clear h hes hec hn hL hok hbx
  obtain ⟨nl, hnl⟩ : ∃ nl, nl = L.length := ⟨_, rfl⟩
  rw [← hnl] at c1
  have HNL := Lib.hid hnl
  clear hnl
  go_enter Try.func16, Try.ntmps16
  go_wp2_with fail
  clear c0 c1 c2 c3 cl cf
  go_loopg [19] nl (fun gk iv wr => ∃ j : Nat, iv = .int .i64 (j : Int) ∧ j + gk = nl ∧ Below w.heap.size w wr ∧ rightP (L.take j) F = true)
  case atStart => exact ⟨0, rfl, by omega, Below.refl _ _, rfl⟩
  case round =>
    obtain ⟨j, rfl, hjk, hbel, hr⟩ := hrel
    have BL := Lib.hid hbel
    have HR := Lib.hid hr
    clear hbel hr
    cases gk with
    | zero =>
      have d1 : decide ((j : Int) < (nl : Int)) = false := decide_eq_false (by omega)
      have d2 : ¬ (j : Int) < (nl : Int) := by omega
      have d3 : decide (j < nl) = false := decide_eq_false (by omega)
      have d4 : ¬ j < nl := by omega
      go_wp2_with fail
      go_ret
      refine ⟨?_, BL.out⟩
      have := HR.out
      rw [show j = L.length by rw [← HNL.out]; omega, List.take_length] at this
      rw [this]
      rfl
    | succ gk =>
      have hjn : j < L.length := by rw [← HNL.out]; omega
      obtain ⟨ge, rfl, hge, e0, e1, e2, e3⟩ := HEC.out j hjn
      have e0 := keep BL.out hge e0
      have e1 := keep BL.out hge e1
      have e2 := keep BL.out hge e2
      have e3 := keep BL.out hge e3
      have hge := Nat.lt_of_lt_of_le hge BL.out.size
      have hmem := List.getElem_mem hjn
      have HT : Hid (rightP (L.take (j + 1)) F = (rightP (L.take j) F && !(comesP F L[j] && !F L[j].2.1.toNat))) := Lib.hid (by
        unfold rightP
        rw [List.take_succ_eq_append_getElem hjn, List.all_append]
        simp)
      have HMEM := Lib.hid hmem
      have HTO := Lib.hid (HOK.out _ hmem).2
      have HB2 : Hid (∀ w', Below wr.heap.size wr w' → ∃ g off, bs = some ⟨g, off, none⟩ ∧ g < w'.heap.size ∧ w'.cell? ⟨g, off + L[j].2.1.toNat, none⟩ = some (.bool (F L[j].2.1.toNat))) := Lib.hid (fun w' hb => by
        obtain ⟨g, off, h1, h2, h3⟩ := HBX.out L[j].2.1.toNat (by have := HTO.out; omega)
        have h4 := after BL.out hb
        exact ⟨g, off, h1, Nat.lt_of_lt_of_le h2 h4.size, keep h4 h2 h3⟩)
      have HALL : Hid (comesP F L[j] = true → F L[j].2.1.toNat = false → rightP L F = false) := Lib.hid (fun q1 q2 => by
        unfold rightP
        rw [List.all_eq_false]
        exact ⟨L[j], hmem, by rw [q1, q2]; simp⟩)
      have HC2 := Lib.hid (fun w' hb => HC.out w' (after BL.out hb) L[j] hmem)
      generalize L[j] = ed at *
      have i1 : (j : Int) < (nl : Int) := by omega
      have i2 : j < nl := by omega
      have hw1 : IntKind.i64.wrap ((j : Int) + 1) = (j : Int) + 1 := IntWalk.i64_in _ ⟨by omega, by have := HNL.out; have := HL.out; omega⟩
      clear hmem
      go_wp2_with fail
      refine (HC2.out _ (by repeat (first | exact Below.refl _ _ | apply Below.setCell _ (by first | omega | (simp <;> omega)) | apply Below.alloc _ (by first | omega | (simp <;> omega))))).mono ?_
      rintro x w2 ⟨rfl, h2⟩
      have b2 : Below wr.heap.size wr w2 := after (by repeat (first | exact Below.refl _ _ | apply Below.setCell _ (by first | omega | (simp <;> omega)) | apply Below.alloc _ (by first | omega | (simp <;> omega)))) h2
      have x2 : Bx 29 w2 wr.heap.size (egC ed) := (Bx.new 29 wr (egC ed).toArray).keep h2
      obtain ⟨g, off, rfl, hg, hc⟩ := HB2.out w2 b2
      obtain ⟨y0, y1, y2, y3, yl, yf⟩ := x2.four
      have B2 := Lib.hid (after BL.out b2)
      obtain ⟨t0, t1⟩ := HTO.out
      clear h2 b2 x2
      cases hcm : comesP F ed with
      | false =>
        have HR2 : Hid (rightP (L.take (j + 1)) F = true) := Lib.hid (by rw [HT.out, HR.out, hcm]; rfl)
        clear hcm
        go_wp2_with fail
        go_roundg gk
        case measure => omega
        case rel => exact ⟨j + 1, by push_cast; rfl, by omega, B2.out, HR2.out⟩
      | true =>
        cases hft : F ed.2.1.toNat with
        | true =>
          have HR2 : Hid (rightP (L.take (j + 1)) F = true) := Lib.hid (by rw [HT.out, HR.out, hcm, hft]; rfl)
          rw [hft] at hc
          clear hcm hft
          go_wp2_with fail
          go_roundg gk
          case measure => omega
          case rel => exact ⟨j + 1, by push_cast; rfl, by omega, B2.out, HR2.out⟩
        | false =>
          have HR2 := Lib.hid (HALL.out hcm hft)
          rw [hft] at hc
          clear hcm hft
          go_wp2_with fail
          go_ret
          exact ⟨by rw [HR2.out]; rfl, B2.out⟩
end Go.Proofs.Ytkhgpflpbdakoaa
