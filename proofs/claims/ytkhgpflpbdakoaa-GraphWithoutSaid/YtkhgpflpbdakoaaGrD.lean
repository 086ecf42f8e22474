/- Contract of a graph's Add where nothing is added. -/
import Derived.Test.YtkhgpflpbdakoaaGrC
namespace Go.Proofs.Ytkhgpflpbdakoaa
open Go Go.RowKit
set_option linter.unusedVariables false
set_option linter.unusedSimpArgs false

theorem GrP.look {w : World} {B n : Nat} {L : List Eg} {S : GrS} (h : GrP w B n L L L S) {e : Eg} (he : EgIn e) (b : Bool) (hb : b = true ↔ e ∈ L) :
    (Instr.lookup 55 (.map (some S.mt)) (egA e) true).run Try.prog w = .ok (.tuple #[.agg #[], .bool b]) w := by
  have hz : (zeroValue 58).run Try.prog w = .ok (.agg #[]) w := by kernel_rfl
  have := h.there.look edge_keyed Try.underlying55 hz (egA_key he) true
  rw [if_pos rfl] at this
  rw [this]
  cases b with
  | true => rw [setF_yes (hb.1 rfl)]; rfl
  | false => rw [setF_no (fun q => by have := hb.2 q; cases this)]; rfl
/-- behind the copy of the edge -/
def AddS (w : World) (e : Eg) (w' : World) : Prop := Below w.heap.size w w' ∧ Bx 29 w' w.heap.size (egC e)
theorem AddS.start (w : World) (e : Eg) : AddS w e (w.alloc (.cells (egC e).toArray 29)) := ⟨by repeat (first | exact Below.refl _ _ | apply Below.setCell _ (by first | omega | (simp <;> omega)) | apply Below.alloc _ (by first | omega | (simp <;> omega))), by simpa using Bx.new 29 w (egC e).toArray⟩
theorem AddS.alloc {w w' : World} {e : Eg} (h : AddS w e w') (o : Obj) : AddS w e (w'.alloc o) := ⟨h.1.alloc h.1.size o, h.2.alloc o⟩
theorem AddS.drew {w w' : World} {e : Eg} (h : AddS w e w') : AddS w e w'.drew := ⟨h.1.trans (Below.refl _ _).drew, h.2⟩
theorem AddS.all {w w' : World} {e : Eg} (h : AddS w e w') {B n : Nat} {L : List Eg} {S : GrS} (g : GrM w B n L S) (he : EgIn e) (b : Bool) (hb : b = true ↔ e ∈ L) :
    w'.cell? ⟨S.g, 0, none⟩ = some (.int .i64 n) ∧ w'.cell? ⟨S.g, 1, none⟩ = some S.ev ∧ w'.cell? ⟨S.g, 2, none⟩ = some (.map (some S.mo)) ∧ w'.cell? ⟨S.g, 3, none⟩ = some (.map (some S.mt)) ∧
    w'.cell? ⟨w.heap.size, 0, none⟩ = some (.int .i64 e.1) ∧ w'.cell? ⟨w.heap.size, 1, none⟩ = some (.int .i64 e.2.1) ∧ w'.cell? ⟨w.heap.size, 2, none⟩ = some (.int .i64 e.2.2.1) ∧ w'.cell? ⟨w.heap.size, 3, none⟩ = some (.int .i64 e.2.2.2) ∧
    (Instr.lookup 55 (.map (some S.mt)) (.agg #[.int .i64 e.1, .int .i64 e.2.1, .int .i64 e.2.2.1, .int .i64 e.2.2.2]) true).run Try.prog w' = .ok (.tuple #[.agg #[], .bool b]) w' ∧ AddS w e w' := by
  obtain ⟨c0, c1, c2, c3, _, _⟩ := (g.step h.1).cells
  obtain ⟨d0, d1, d2, d3, _, _⟩ := h.2.four
  exact ⟨c0, c1, c2, c3, d0, d1, d2, d3, (g.step h.1).look he b hb, h⟩

theorem has_yes {w : World} {B n : Nat} {L : List Eg} {S : GrS} (h : GrM w B n L S) {z : Int} (h1 : 0 ≤ z ∧ z < n) :
    Calls Try.prog 24 #[(.pointer (some ⟨S.g, 0, none⟩)), .int .i64 z] w fun e w' => e = .returned (.bool true) ∧ w' = w := by
  have := has_any h z
  rwa [show decide (0 ≤ z ∧ z < n) = true by simpa using h1] at this
theorem has_no {w : World} {B n : Nat} {L : List Eg} {S : GrS} (h : GrM w B n L S) {z : Int} (h1 : ¬ (0 ≤ z ∧ z < n)) :
    Calls Try.prog 24 #[(.pointer (some ⟨S.g, 0, none⟩)), .int .i64 z] w fun e w' => e = .returned (.bool false) ∧ w' = w := by
  have := has_any h z
  rwa [show decide (0 ≤ z ∧ z < n) = false by simpa using h1] at this
/-- may an edge be there? -/
def okE (n : Nat) (e : Eg) : Prop := (e.1 = -1 ∨ (0 ≤ e.1 ∧ e.1 < n)) ∧ 0 ≤ e.2.1 ∧ e.2.1 < n
set_option maxRecDepth 100000 in
set_option maxHeartbeats 1000000 in
theorem add_range {w : World} {B n : Nat} {L : List Eg} {S : GrS} (h : GrM w B n L S) (e : Eg) (he : EgIn e) (h1 : ¬ okE n e) :
    Calls Try.prog 10 #[(.pointer (some ⟨S.g, 0, none⟩)), .agg #[.int .i64 e.1, .int .i64 e.2.1, .int .i64 e.2.2.1, .int .i64 e.2.2.2]] w fun x w' => x = .returned (.int .i64 1) ∧ Below w.heap.size w w' := by
  obtain ⟨b, hb⟩ : ∃ b : Bool, b = true ↔ e ∈ L := ⟨@decide (e ∈ L) (Classical.propDecidable _), by simp⟩
  have HB := Lib.hid hb
  have HE := Lib.hid he
  have G := Lib.hid h
  have H1 := Lib.hid h1
  clear hb he h h1
  obtain ⟨W1, hW1⟩ : ∃ W1, W1 = w.alloc (.cells (egC e).toArray 29) := ⟨_, rfl⟩
  have A1 : Hid (AddS w e W1) := Lib.hid (by rw [hW1]; exact AddS.start w e)
  go_enter Try.func10, Try.ntmps10
  go_wp2_with fail
  have hW2 : w.alloc (.cells #[.int .i64 e.1, .int .i64 e.2.1, .int .i64 e.2.2.1, .int .i64 e.2.2.2] 29) = W1 := hW1.symm
  rw [hW2]
  clear hW1 hW2
  obtain ⟨c0, c1, c2, c3, d0, d1, d2, d3, lk, -⟩ := A1.out.all G.out HE.out b HB.out
  go_region_held3 (fun w' => w'.cell? ⟨S.g, 0, none⟩ = some (.int .i64 n) ∧ w'.cell? ⟨S.g, 1, none⟩ = some S.ev ∧ w'.cell? ⟨S.g, 2, none⟩ = some (.map (some S.mo)) ∧ w'.cell? ⟨S.g, 3, none⟩ = some (.map (some S.mt)) ∧ w'.cell? ⟨w.heap.size, 0, none⟩ = some (.int .i64 e.1) ∧ w'.cell? ⟨w.heap.size, 1, none⟩ = some (.int .i64 e.2.1) ∧ w'.cell? ⟨w.heap.size, 2, none⟩ = some (.int .i64 e.2.2.1) ∧ w'.cell? ⟨w.heap.size, 3, none⟩ = some (.int .i64 e.2.2.2) ∧ (Instr.lookup 55 (.map (some S.mt)) (.agg #[.int .i64 e.1, .int .i64 e.2.1, .int .i64 e.2.2.1, .int .i64 e.2.2.2]) true).run Try.prog w' = .ok (.tuple #[.agg #[], .bool b]) w' ∧ AddS w e w')
    (first | exact A1.out.all G.out HE.out b HB.out | exact A1.out.drew.all G.out HE.out b HB.out | exact (A1.out.alloc _).all G.out HE.out b HB.out | exact (A1.out.alloc _).drew.all G.out HE.out b HB.out | exact (A1.out.drew.alloc _).all G.out HE.out b HB.out) (fail)
  all_goals
    have A2 : Hid (AddS w e (W1.alloc (.cells #[] 58)).drew) := Lib.hid (A1.out.alloc _).drew
    clear c0 c1 c2 c3 d0 d1 d2 d3 lk A1
    generalize (W1.alloc (.cells #[] 58)).drew = W2 at *
  all_goals
    obtain ⟨d0, d1, d2, d3, dl, df⟩ := A2.out.2.four
    obtain ⟨c0, c1, c2, c3, cl, cf⟩ := (G.out.step A2.out.1).cells
    have HR := Lib.hid A2.out.1
    have hn1 := H1.out
    unfold okE at hn1
    clear HB HE H1
    by_cases q1 : e.1 = -1
    · have HT := Lib.hid (has_no (G.out.step A2.out.1) (show ¬ (0 ≤ e.2.1 ∧ e.2.1 < n) from fun q => hn1 ⟨.inl q1, q⟩))
      clear G A2 hn1
      go_wp2_with fail
      refine HT.out.mono ?_
      rintro x w' ⟨rfl, rfl⟩
      go_wp2_with fail
      go_ret
      exact ⟨rfl, HR.out⟩
    · by_cases q2 : 0 ≤ e.1 ∧ e.1 < n
      · have HF := Lib.hid (has_yes (G.out.step A2.out.1) q2)
        have HT := Lib.hid (has_no (G.out.step A2.out.1) (show ¬ (0 ≤ e.2.1 ∧ e.2.1 < n) from fun q => hn1 ⟨.inr q2, q⟩))
        clear G A2 hn1 q2
        go_wp2_with fail
        refine HF.out.mono ?_
        rintro x w' ⟨rfl, rfl⟩
        go_wp2_with fail
        refine HT.out.mono ?_
        rintro x w' ⟨rfl, rfl⟩
        go_wp2_with fail
        go_ret
        exact ⟨rfl, HR.out⟩
      · have HF := Lib.hid (has_no (G.out.step A2.out.1) q2)
        clear G A2 hn1 q2
        go_wp2_with fail
        refine HF.out.mono ?_
        rintro x w' ⟨rfl, rfl⟩
        go_wp2_with fail
        go_ret
        exact ⟨rfl, HR.out⟩
set_option maxRecDepth 100000 in
set_option maxHeartbeats 1000000 in
theorem add_twice {w : World} {B n : Nat} {L : List Eg} {S : GrS} (h : GrM w B n L S) (e : Eg) (he : EgIn e) (h1 : okE n e) (h2 : e ∈ L) :
    Calls Try.prog 10 #[(.pointer (some ⟨S.g, 0, none⟩)), .agg #[.int .i64 e.1, .int .i64 e.2.1, .int .i64 e.2.2.1, .int .i64 e.2.2.2]] w fun x w' => x = .returned (.int .i64 4) ∧ Below w.heap.size w w' := by
  obtain ⟨b, hb, hbb⟩ : ∃ b : Bool, (b = true ↔ e ∈ L) ∧ b = true := ⟨true, by simp [h2], rfl⟩
  have HB := Lib.hid hb
  have HE := Lib.hid he
  have G := Lib.hid h
  have H1 := Lib.hid h1
  have HBB := Lib.hid hbb
  clear hb he h h1 h2 hbb
  obtain ⟨W1, hW1⟩ : ∃ W1, W1 = w.alloc (.cells (egC e).toArray 29) := ⟨_, rfl⟩
  have A1 : Hid (AddS w e W1) := Lib.hid (by rw [hW1]; exact AddS.start w e)
  go_enter Try.func10, Try.ntmps10
  go_wp2_with fail
  have hW2 : w.alloc (.cells #[.int .i64 e.1, .int .i64 e.2.1, .int .i64 e.2.2.1, .int .i64 e.2.2.2] 29) = W1 := hW1.symm
  rw [hW2]
  clear hW1 hW2
  obtain ⟨c0, c1, c2, c3, d0, d1, d2, d3, lk, -⟩ := A1.out.all G.out HE.out b HB.out
  go_region_held3 (fun w' => w'.cell? ⟨S.g, 0, none⟩ = some (.int .i64 n) ∧ w'.cell? ⟨S.g, 1, none⟩ = some S.ev ∧ w'.cell? ⟨S.g, 2, none⟩ = some (.map (some S.mo)) ∧ w'.cell? ⟨S.g, 3, none⟩ = some (.map (some S.mt)) ∧ w'.cell? ⟨w.heap.size, 0, none⟩ = some (.int .i64 e.1) ∧ w'.cell? ⟨w.heap.size, 1, none⟩ = some (.int .i64 e.2.1) ∧ w'.cell? ⟨w.heap.size, 2, none⟩ = some (.int .i64 e.2.2.1) ∧ w'.cell? ⟨w.heap.size, 3, none⟩ = some (.int .i64 e.2.2.2) ∧ (Instr.lookup 55 (.map (some S.mt)) (.agg #[.int .i64 e.1, .int .i64 e.2.1, .int .i64 e.2.2.1, .int .i64 e.2.2.2]) true).run Try.prog w' = .ok (.tuple #[.agg #[], .bool b]) w' ∧ AddS w e w')
    (first | exact A1.out.all G.out HE.out b HB.out | exact A1.out.drew.all G.out HE.out b HB.out | exact (A1.out.alloc _).all G.out HE.out b HB.out | exact (A1.out.alloc _).drew.all G.out HE.out b HB.out | exact (A1.out.drew.alloc _).all G.out HE.out b HB.out) (fail)
  all_goals
    have A2 : Hid (AddS w e (W1.alloc (.cells #[] 58)).drew) := Lib.hid (A1.out.alloc _).drew
    clear c0 c1 c2 c3 d0 d1 d2 d3 lk A1
    generalize (W1.alloc (.cells #[] 58)).drew = W2 at *
  all_goals
    obtain ⟨d0, d1, d2, d3, dl, df⟩ := A2.out.2.four
    obtain ⟨c0, c1, c2, c3, cl, cf⟩ := (G.out.step A2.out.1).cells
    have HR := Lib.hid A2.out.1
    have hn1 := H1.out
    have hbb := HBB.out
    subst hbb
    unfold okE at hn1
    have HT := Lib.hid (has_yes (G.out.step A2.out.1) hn1.2)
    clear HB HE H1 HBB
    by_cases q1 : e.1 = -1
    · clear G A2 hn1
      go_wp2_with fail
      refine HT.out.mono ?_
      rintro x w' ⟨rfl, rfl⟩
      go_wp2_with fail
      go_ret
      exact ⟨rfl, HR.out⟩
    · have HF := Lib.hid (has_yes (G.out.step A2.out.1) (hn1.1.resolve_left q1))
      clear G A2 hn1
      go_wp2_with fail
      refine HF.out.mono ?_
      rintro x w' ⟨rfl, rfl⟩
      go_wp2_with fail
      refine HT.out.mono ?_
      rintro x w' ⟨rfl, rfl⟩
      go_wp2_with fail
      go_ret
      exact ⟨rfl, HR.out⟩
end Go.Proofs.Ytkhgpflpbdakoaa
