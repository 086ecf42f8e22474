/- Contract of a builder's Tree. -/
import Derived.Test.YtfalgnapghienaaGreatDoorTrAt
namespace Go.Proofs.YtfalgnapghienaaGreatDoor
open Go Go.RowKit
set_option linter.unusedVariables false
set_option linter.unusedSimpArgs false

def TreePost (w : World) (l : List Nd) (root : Int) (e : Ending) (w' : World) : Prop := ∃ s c, e = .returned (.agg #[.slice s l.length c, .int .i64 root]) ∧ Below w.heap.size w w' ∧ NewNds w' w.heap.size (.slice s l.length c) l
theorem NewNds.sets2 {w : World} {B b : Nat} {v u u' : Value} {l : List Nd} {cs : List Value} (h : NewNds w B v l) (hb : Bx 24 w b cs) : NewNds ((w.setCell ⟨b, 0, none⟩ u).setCell ⟨b, 1, none⟩ u') B v l := h.set2 hb

set_option maxRecDepth 100000 in
set_option maxHeartbeats 4000000 in
theorem btree_any (T : TypeId) (rest : List Value) (bB b : Nat) (L : List NdR) (v : Value) (w : World) (hb : Bld T rest w bB b L v) (hL : L.length ≤ 16384) (h0 : 0 < L.length) (hf : ∀ x ∈ L.map (·.1), NdFit x) :
    Calls Tryz.prog 21 #[.pointer (some ⟨b, 0, none⟩)] w (TreePost w (L.map (·.1)) ((L.length : Int) - 1)) := by
  have HV := Lib.hid hb.nds
  obtain ⟨vs, vc, rfl⟩ := hb.shape
  have HC := Lib.hid (fun (w2 : World) (hb : Below w.heap.size w w2) => copy_any (L.map (·.1)) (.slice vs L.length vc) ((L.length : Int) - 1) w2 (HV.out.step hb) (by rw [List.length_map]; omega) hf)
  have HB := Lib.hid hb
  have hbl := hb.box.lt
  have hml : (L.map (·.1)).length = L.length := by simp
  have HML := Lib.hid hml
  clear hb hf hml HV
  generalize hn : L.length = n at *
  have mx : max ((n : Int) - 1) 0 = (n : Int) - 1 := by omega
  have wr1 : IntKind.i64.wrap ((n : Int) - 1) = (n : Int) - 1 := IntWalk.i64_in _ ⟨by omega, by omega⟩
  obtain ⟨W3, hW3⟩ : ∃ W3, W3 = w.alloc (.cells #[.slice none 0 0, .int .i64 0] 24) := ⟨_, rfl⟩
  have HB3 : Hid (Below w.heap.size w W3) := Lib.hid (by rw [hW3]; exact (Below.refl _ _).alloc (Nat.le_refl _) _)
  have X3 : Hid (Bx 24 W3 w.heap.size [.slice none 0 0, .int .i64 0]) := Lib.hid (by rw [hW3]; exact Bx.new 24 w _)
  have HW3 := Lib.hid hW3
  have c0 := (HB.out.box.keep HB3.out).cell 0
  simp only [List.getElem?_cons_zero] at c0
  have HNL := Lib.hid hn
  clear hW3 hn
  go_enter Tryz.func21, Tryz.ntmps21
  go_wp2_with fail
  rw [← HW3.out]
  go_region_law (first
    | (go_simp
       go_at_call 22
       refine (HC.out _ (HB3.out.drew)).mono ?_
       rintro e W4 ⟨s1, c1, rfl, h34, n1⟩
       rw [HML.out] at n1
       have H4 := Lib.hid (after HB3.out.drew h34)
       have R4 := Lib.hid ((show Bx 24 W3.drew w.heap.size _ from X3.out).keep h34)
       have N4 := Lib.hid (n1.mono (B' := w.heap.size) (by have := HB3.out.size; simpa using this))
       obtain ⟨r0, r1, rl, rf⟩ := R4.out.two
       clear h34 n1))
  all_goals
    clear c0
    go_wp2_with fail
    refine bodyPost_ret (v := .agg #[.slice s1 L.length c1, .int .i64 ((n : Int) - 1)]) (by simp [results, Tryz.results21, go_sem, r0, r1]) rfl ?_
    exact ⟨s1, c1, by rw [HML.out, HNL.out], (H4.out.setCell (Nat.le_refl _) _).setCell (Nat.le_refl _) _, by rw [HML.out, HNL.out]; exact N4.out.sets2 R4.out⟩
end Go.Proofs.YtfalgnapghienaaGreatDoor
