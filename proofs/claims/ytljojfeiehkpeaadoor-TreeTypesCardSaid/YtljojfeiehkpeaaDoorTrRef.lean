/- Contracts of the document's Right: the parts of XTyD, XTyF, XTyN, XTyO that need no package kind (written by gen_ref.py). -/
import Derived.Test.YtljojfeiehkpeaaDoorTrType
import Derived.Test.YtljojfeiehkpeaaDoorTrTextC
namespace Go.Proofs.YtljojfeiehkpeaaDoor
open Go Go.RowKit
set_option linter.unusedVariables false
set_option linter.unusedSimpArgs false

theorem right_bounds {B : Int} {N : ByteArray} {D : Int} {M : ByteArray} (h : rightB B N D M = true) : ∃ d : Nat, D = d ∧ d ≤ 4 ∧ M.size = d + 1 := by
  unfold rightB marksB at h
  simp only [Bool.and_eq_true, decide_eq_true_iff] at h
  obtain ⟨⟨⟨h1, h2⟩, h3⟩, ⟨⟨h4, h5⟩, h6⟩, h7⟩ := h
  exact ⟨D.toNat, by omega, by omega, h4⟩
/-- a type's box, and that all else is kept -/
structure TyS (w0 : World) (p : Nat) (B : Int) (N : ByteArray) (D : Int) (M : ByteArray) (w : World) : Prop where
  at_ : TyAt w p B N D M
  bel : Below w0.heap.size w0 w
theorem TyS.new (w : World) (B : Int) (N : ByteArray) (D : Int) (M : ByteArray) (T : TypeId) : TyS w w.heap.size B N D M (w.alloc (.cells #[.int .i64 B, .string N, .int .i64 D, .string M] T)) :=
  ⟨TyAt.new w B N D M T, (Below.refl _ _).alloc (Nat.le_refl _) _⟩
theorem TyS.keep {w0 w w1 : World} {p : Nat} {B : Int} {N : ByteArray} {D : Int} {M : ByteArray} (h : TyS w0 p B N D M w) (hb : Below w.heap.size w w1) : TyS w0 p B N D M w1 := ⟨h.1.keep hb, after h.2 hb⟩
theorem TyS.drew {w0 w : World} {p : Nat} {B : Int} {N : ByteArray} {D : Int} {M : ByteArray} (h : TyS w0 p B N D M w) : TyS w0 p B N D M w.drew := h.keep ((Below.refl _ _).drew)
theorem TyS.all {w0 w : World} {p : Nat} {B : Int} {N : ByteArray} {D : Int} {M : ByteArray} (h : TyS w0 p B N D M w) : w.cell? ⟨p, 0, none⟩ = some (.int .i64 B) ∧ w.cell? ⟨p, 1, none⟩ = some (.string N) ∧ w.cell? ⟨p, 2, none⟩ = some (.int .i64 D) ∧ w.cell? ⟨p, 3, none⟩ = some (.string M) ∧ TyS w0 p B N D M w :=
  ⟨h.1.2.1, h.1.2.2.1, h.1.2.2.2.1, h.1.2.2.2.2.1, h⟩

/-- are the marks below a layer ones that may be there? -/
def okAt (B : Int) (d : Nat) (M : ByteArray) (i : Nat) : Prop := (byS M i = 32 ∨ byS M i = 63 ∨ byS M i = 111) ∧ (byS M i = 32 ∨ i ≠ 0 ∨ B = 5) ∧ (byS M i = 111 → d ≤ i)
instance (B : Int) (d : Nat) (M : ByteArray) (i : Nat) : Decidable (okAt B d M i) := by unfold okAt; exact inferInstance
def okTo (B : Int) (d : Nat) (M : ByteArray) (k : Nat) : Bool := decide (∀ i, i < k → okAt B d M i)
theorem okTo_next {B : Int} {d : Nat} {M : ByteArray} {k : Nat} (h : okTo B d M k = true) : okTo B d M (k + 1) = decide (okAt B d M k) := by
  unfold okTo at h ⊢
  rw [decide_eq_true_iff] at h
  rw [Bool.eq_iff_iff, decide_eq_true_iff, decide_eq_true_iff]
  constructor
  · intro g; exact g k (by omega)
  · intro g i hi
    by_cases hik : i = k
    · rw [hik]; exact g
    · exact h i (by omega)
theorem okTo_stop {B : Int} {d : Nat} {M : ByteArray} {k n : Nat} (h : ¬ okAt B d M k) (hk : k < n) : okTo B d M n = false := by
  unfold okTo
  rw [decide_eq_false_iff_not]
  intro g; exact h (g k hk)
theorem ok_marks (B : Int) (d : Nat) (M : ByteArray) (hm : M.size = d + 1) : okTo B d M (d + 1) = marksB B d M := by
  unfold okTo marksB innerM lastM okAt
  rw [Bool.eq_iff_iff]
  simp only [decide_eq_true_iff, Bool.and_eq_true, Bool.or_eq_true]
  constructor
  · intro h
    refine ⟨⟨⟨hm, ?_⟩, ?_⟩, ?_⟩
    · have := h 0 (by omega); omega
    · intro i hi; have := h i (by omega); omega
    · have := h d (by omega); omega
  · rintro ⟨⟨⟨-, h1⟩, h2⟩, h3⟩ i hi
    by_cases hid : i = d
    · subst hid
      refine ⟨h3, ?_, fun _ => Nat.le_refl _⟩
      by_cases h0 : i = 0
      · subst h0; omega
      · omega
    · have := h2 i (by omega)
      refine ⟨by omega, ?_, by omega⟩
      by_cases h0 : i = 0
      · subst h0; omega
      · omega

set_option maxHeartbeats 8000000 in
/-- the loop, from its start on -/
theorem refR_in (B : Int) (N : ByteArray) (d : Nat) (M : ByteArray) (w : World) (hM : M.size ≤ 60) (hd : d ≤ 4) (hm : M.size = d + 1) (hB : 1 ≤ B ∧ B ≤ 6) (hN : B = 5 ↔ N.size ≠ 0) (h6 : B = 6 → d = 0) :
    Calls Tryd.prog 8 #[.agg #[.int .i64 B, .string N, .int .i64 (d : Int), .string M]] w fun e w' => e = .returned (.bool (marksB B d M)) ∧ Below w.heap.size w w' := by
  have E := Lib.hid (ok_marks B d M hm).symm
  have HM := Lib.hid hm
  have e1 : (M.size : Int) = (d : Int) + 1 := by omega
  have z1 : decide ((d : Int) < 0) = false := decide_eq_false (by omega)
  have z2 : decide ((4 : Int) < (d : Int)) = false := decide_eq_false (by omega)
  have z3 : IntKind.i64.wrap ((d : Int) + 1 - 1) = (d : Int) := by rw [show (d : Int) + 1 - 1 = (d : Int) by omega]; exact IntWalk.i64_in _ ⟨by omega, by omega⟩
  have z4 : decide (B < 1) = false := decide_eq_false (by omega)
  have z5 : decide (6 < B) = false := decide_eq_false (by omega)
  by_cases h5 : B = 5
  · obtain ⟨n1, n2⟩ := tl_ne N (hN.1 h5)
    have g5 : (B == 5) = true := by simpa using h5
    have g5' : (B != 5) = false := by simp [h5]
    have g6 : (B == 6) = false := by rw [h5]; rfl
    have H5 := Lib.hid h5
    clear hN hm h5 h6 hB
    go_enter Tryd.func8, Tryd.ntmps8
    go_wp2_with fail
    go_loopw [3] (fun i wr => ∃ k : Nat, k ≤ d + 1 ∧ i = .int .i64 k ∧ okTo B d M k = true ∧ wr = w.alloc (.cells #[.int .i64 B, .string N, .int .i64 (d : Int), .string M] 23)) (fun i _ => d + 1 - (intOf i).toNat)
    case atStart => exact ⟨0, Nat.zero_le _, rfl, by simp [okTo], rfl⟩
    case round =>
      obtain ⟨k, hk, rfl, hf, rfl⟩ := hrel
      by_cases hlt : k < d + 1
      · have HF := Lib.hid hf
        have hkm : k < M.size := by have := HM.out; omega
        have C := Lib.hid (byS_get M k hkm)
        have hkd : decide ((k : Int) < (d : Int)) = decide (k < d) := by simp
        clear hf
        by_cases h32 : M[k].toNat = 32
        · have HOK := Lib.hid (show okAt B d M k by unfold okAt; rw [C.out, h32]; omega)
          have r1 : ((M[k].toNat : Int) != 32) = false := by rw [h32]; rfl
          have r2 : ((M[k].toNat : Int) == 111) = false := by rw [h32]; rfl
          clear h32
          have HG := Lib.hid (show okTo B d M (k + 1) = true by rw [okTo_next HF.out, decide_eq_true_iff]; exact HOK.out)
          by_cases hk0 : k = 0
          · subst hk0
            go_wp2_with fail
            go_roundw
            case rel => exact ⟨1, by omega, rfl, HG.out, by trivial⟩
            case measure => simp [intOf]
          · have q0 : ((k : Int) == 0) = false := by simp; omega
            clear hk0
            go_wp2_with fail
            go_roundw
            case rel => exact ⟨k + 1, by omega, by go_num, HG.out, by trivial⟩
            case measure => simp [intOf]; omega
        · by_cases h63 : M[k].toNat = 63
          · have HOK := Lib.hid (show okAt B d M k by unfold okAt; rw [C.out, h63]; have := H5.out; omega)
            have r1 : ((M[k].toNat : Int) != 32) = true := by rw [h63]; rfl
            have r2 : ((M[k].toNat : Int) == 111) = false := by rw [h63]; rfl
            have r3 : ((M[k].toNat : Int) != 63) = false := by rw [h63]; rfl
            clear h32 h63
            have HG := Lib.hid (show okTo B d M (k + 1) = true by rw [okTo_next HF.out, decide_eq_true_iff]; exact HOK.out)
            by_cases hk0 : k = 0
            · subst hk0
              go_wp2_with fail
              go_roundw
              case rel => exact ⟨1, by omega, rfl, HG.out, by trivial⟩
              case measure => simp [intOf]
            · have q0 : ((k : Int) == 0) = false := by simp; omega
              clear hk0
              go_wp2_with fail
              go_roundw
              case rel => exact ⟨k + 1, by omega, by go_num, HG.out, by trivial⟩
              case measure => simp [intOf]; omega
          · by_cases h111 : M[k].toNat = 111
            · have r1 : ((M[k].toNat : Int) != 32) = true := by rw [h111]; rfl
              have r2 : ((M[k].toNat : Int) == 111) = true := by rw [h111]; rfl
              have r3 : ((M[k].toNat : Int) != 63) = true := by rw [h111]; rfl
              have r4 : ((M[k].toNat : Int) != 111) = false := by rw [h111]; rfl
              by_cases hkd2 : k < d
              · have HNO := Lib.hid (show ¬ okAt B d M k by unfold okAt; rw [C.out, h111]; omega)
                have r5 : decide ((k : Int) < (d : Int)) = true := decide_eq_true (by omega)
                clear h32 h63 h111 hkd
                by_cases hk0 : k = 0
                · subst hk0
                  go_wp2_with fail
                  go_ret
                  exact ⟨ret_bo (by rw [E.out]; exact (okTo_stop HNO.out hlt).symm), by repeat (first | exact Below.refl _ _ | apply Below.setCell _ (by first | omega | (simp <;> omega)) | apply Below.alloc _ (by first | omega | (simp <;> omega)))⟩
                · have q0 : ((k : Int) == 0) = false := by simp; omega
                  clear hk0
                  go_wp2_with fail
                  go_ret
                  exact ⟨ret_bo (by rw [E.out]; exact (okTo_stop HNO.out hlt).symm), by repeat (first | exact Below.refl _ _ | apply Below.setCell _ (by first | omega | (simp <;> omega)) | apply Below.alloc _ (by first | omega | (simp <;> omega)))⟩
              · have HOK := Lib.hid (show okAt B d M k by unfold okAt; rw [C.out, h111]; have := H5.out; omega)
                have r5 : decide ((k : Int) < (d : Int)) = false := decide_eq_false (by omega)
                clear h32 h63 h111 hkd
                have HG := Lib.hid (show okTo B d M (k + 1) = true by rw [okTo_next HF.out, decide_eq_true_iff]; exact HOK.out)
                by_cases hk0 : k = 0
                · subst hk0
                  go_wp2_with fail
                  go_roundw
                  case rel => exact ⟨1, by omega, rfl, HG.out, by trivial⟩
                  case measure => simp [intOf]
                · have q0 : ((k : Int) == 0) = false := by simp; omega
                  clear hk0
                  go_wp2_with fail
                  go_roundw
                  case rel => exact ⟨k + 1, by omega, by go_num, HG.out, by trivial⟩
                  case measure => simp [intOf]; omega
            · have HNO := Lib.hid (show ¬ okAt B d M k by unfold okAt; rw [C.out]; omega)
              have r1 : ((M[k].toNat : Int) != 32) = true := by simp; omega
              have r3 : ((M[k].toNat : Int) != 63) = true := by simp; omega
              have r4 : ((M[k].toNat : Int) != 111) = true := by simp; omega
              clear h32 h63 h111
              by_cases hk0 : k = 0
              · subst hk0
                go_wp2_with fail
                go_ret
                exact ⟨ret_bo (by rw [E.out]; exact (okTo_stop HNO.out hlt).symm), by repeat (first | exact Below.refl _ _ | apply Below.setCell _ (by first | omega | (simp <;> omega)) | apply Below.alloc _ (by first | omega | (simp <;> omega)))⟩
              · have q0 : ((k : Int) == 0) = false := by simp; omega
                clear hk0
                go_wp2_with fail
                go_ret
                exact ⟨ret_bo (by rw [E.out]; exact (okTo_stop HNO.out hlt).symm), by repeat (first | exact Below.refl _ _ | apply Below.setCell _ (by first | omega | (simp <;> omega)) | apply Below.alloc _ (by first | omega | (simp <;> omega)))⟩
      · have hk' : k = d + 1 := by omega
        subst hk'
        go_wp2_with fail
        go_ret
        exact ⟨ret_bo (by rw [E.out]; exact hf.symm), by repeat (first | exact Below.refl _ _ | apply Below.setCell _ (by first | omega | (simp <;> omega)) | apply Below.alloc _ (by first | omega | (simp <;> omega)))⟩
  · have n1 : N.toList = [] := (tl_nil N).2 (by apply Classical.byContradiction; intro h; exact h5 (hN.2 h))
    have n2 : (N.toList == []) = true := by rw [n1]; rfl
    have g5 : (B == 5) = false := by simpa using h5
    have g5' : (B != 5) = true := by simpa using h5
    have H5 := Lib.hid h5
    by_cases hb6 : B = 6
    · have z6 : decide ((0 : Int) < (d : Int)) = false := decide_eq_false (by have := h6 hb6; omega)
      have z7 : decide (0 < d) = false := decide_eq_false (by have := h6 hb6; omega)
      have g6 : (B == 6) = true := by simpa using hb6
      clear hN hm h5 h6 hB hb6
      go_enter Tryd.func8, Tryd.ntmps8
      go_wp2_with fail
      go_loopw [3] (fun i wr => ∃ k : Nat, k ≤ d + 1 ∧ i = .int .i64 k ∧ okTo B d M k = true ∧ wr = w.alloc (.cells #[.int .i64 B, .string N, .int .i64 (d : Int), .string M] 23)) (fun i _ => d + 1 - (intOf i).toNat)
      case atStart => exact ⟨0, Nat.zero_le _, rfl, by simp [okTo], rfl⟩
      case round =>
        obtain ⟨k, hk, rfl, hf, rfl⟩ := hrel
        by_cases hlt : k < d + 1
        · have HF := Lib.hid hf
          have hkm : k < M.size := by have := HM.out; omega
          have C := Lib.hid (byS_get M k hkm)
          have hkd : decide ((k : Int) < (d : Int)) = decide (k < d) := by simp
          clear hf
          by_cases h32 : M[k].toNat = 32
          · have HOK := Lib.hid (show okAt B d M k by unfold okAt; rw [C.out, h32]; omega)
            have r1 : ((M[k].toNat : Int) != 32) = false := by rw [h32]; rfl
            have r2 : ((M[k].toNat : Int) == 111) = false := by rw [h32]; rfl
            clear h32
            have HG := Lib.hid (show okTo B d M (k + 1) = true by rw [okTo_next HF.out, decide_eq_true_iff]; exact HOK.out)
            by_cases hk0 : k = 0
            · subst hk0
              go_wp2_with fail
              go_roundw
              case rel => exact ⟨1, by omega, rfl, HG.out, by trivial⟩
              case measure => simp [intOf]
            · have q0 : ((k : Int) == 0) = false := by simp; omega
              clear hk0
              go_wp2_with fail
              go_roundw
              case rel => exact ⟨k + 1, by omega, by go_num, HG.out, by trivial⟩
              case measure => simp [intOf]; omega
          · by_cases h63 : M[k].toNat = 63
            · have r1 : ((M[k].toNat : Int) != 32) = true := by rw [h63]; rfl
              have r2 : ((M[k].toNat : Int) == 111) = false := by rw [h63]; rfl
              have r3 : ((M[k].toNat : Int) != 63) = false := by rw [h63]; rfl
              by_cases hz : k = 0
              · have HNO := Lib.hid (show ¬ okAt B d M k by unfold okAt; rw [C.out, h63]; have := H5.out; omega)
                clear h32 h63
                subst hz
                go_wp2_with fail
                go_ret
                exact ⟨ret_bo (by rw [E.out]; exact (okTo_stop HNO.out hlt).symm), by repeat (first | exact Below.refl _ _ | apply Below.setCell _ (by first | omega | (simp <;> omega)) | apply Below.alloc _ (by first | omega | (simp <;> omega)))⟩
              · have HOK := Lib.hid (show okAt B d M k by unfold okAt; rw [C.out, h63]; omega)
                clear h32 h63
                have HG := Lib.hid (show okTo B d M (k + 1) = true by rw [okTo_next HF.out, decide_eq_true_iff]; exact HOK.out)
                have q0 : ((k : Int) == 0) = false := by simp; omega
                clear hz
                go_wp2_with fail
                go_roundw
                case rel => exact ⟨k + 1, by omega, by go_num, HG.out, by trivial⟩
                case measure => simp [intOf]; omega
            · by_cases h111 : M[k].toNat = 111
              · have r1 : ((M[k].toNat : Int) != 32) = true := by rw [h111]; rfl
                have r2 : ((M[k].toNat : Int) == 111) = true := by rw [h111]; rfl
                have r3 : ((M[k].toNat : Int) != 63) = true := by rw [h111]; rfl
                have r4 : ((M[k].toNat : Int) != 111) = false := by rw [h111]; rfl
                by_cases hkd2 : k < d
                · have HNO := Lib.hid (show ¬ okAt B d M k by unfold okAt; rw [C.out, h111]; omega)
                  have r5 : decide ((k : Int) < (d : Int)) = true := decide_eq_true (by omega)
                  clear h32 h63 h111 hkd
                  by_cases hk0 : k = 0
                  · subst hk0
                    go_wp2_with fail
                    go_ret
                    exact ⟨ret_bo (by rw [E.out]; exact (okTo_stop HNO.out hlt).symm), by repeat (first | exact Below.refl _ _ | apply Below.setCell _ (by first | omega | (simp <;> omega)) | apply Below.alloc _ (by first | omega | (simp <;> omega)))⟩
                  · have q0 : ((k : Int) == 0) = false := by simp; omega
                    clear hk0
                    go_wp2_with fail
                    go_ret
                    exact ⟨ret_bo (by rw [E.out]; exact (okTo_stop HNO.out hlt).symm), by repeat (first | exact Below.refl _ _ | apply Below.setCell _ (by first | omega | (simp <;> omega)) | apply Below.alloc _ (by first | omega | (simp <;> omega)))⟩
                · have r5 : decide ((k : Int) < (d : Int)) = false := decide_eq_false (by omega)
                  by_cases hz : k = 0
                  · have HNO := Lib.hid (show ¬ okAt B d M k by unfold okAt; rw [C.out, h111]; have := H5.out; omega)
                    clear h32 h63 h111 hkd
                    subst hz
                    go_wp2_with fail
                    go_ret
                    exact ⟨ret_bo (by rw [E.out]; exact (okTo_stop HNO.out hlt).symm), by repeat (first | exact Below.refl _ _ | apply Below.setCell _ (by first | omega | (simp <;> omega)) | apply Below.alloc _ (by first | omega | (simp <;> omega)))⟩
                  · have HOK := Lib.hid (show okAt B d M k by unfold okAt; rw [C.out, h111]; omega)
                    clear h32 h63 h111 hkd
                    have HG := Lib.hid (show okTo B d M (k + 1) = true by rw [okTo_next HF.out, decide_eq_true_iff]; exact HOK.out)
                    have q0 : ((k : Int) == 0) = false := by simp; omega
                    clear hz
                    go_wp2_with fail
                    go_roundw
                    case rel => exact ⟨k + 1, by omega, by go_num, HG.out, by trivial⟩
                    case measure => simp [intOf]; omega
              · have HNO := Lib.hid (show ¬ okAt B d M k by unfold okAt; rw [C.out]; omega)
                have r1 : ((M[k].toNat : Int) != 32) = true := by simp; omega
                have r3 : ((M[k].toNat : Int) != 63) = true := by simp; omega
                have r4 : ((M[k].toNat : Int) != 111) = true := by simp; omega
                clear h32 h63 h111
                by_cases hk0 : k = 0
                · subst hk0
                  go_wp2_with fail
                  go_ret
                  exact ⟨ret_bo (by rw [E.out]; exact (okTo_stop HNO.out hlt).symm), by repeat (first | exact Below.refl _ _ | apply Below.setCell _ (by first | omega | (simp <;> omega)) | apply Below.alloc _ (by first | omega | (simp <;> omega)))⟩
                · have q0 : ((k : Int) == 0) = false := by simp; omega
                  clear hk0
                  go_wp2_with fail
                  go_ret
                  exact ⟨ret_bo (by rw [E.out]; exact (okTo_stop HNO.out hlt).symm), by repeat (first | exact Below.refl _ _ | apply Below.setCell _ (by first | omega | (simp <;> omega)) | apply Below.alloc _ (by first | omega | (simp <;> omega)))⟩
        · have hk' : k = d + 1 := by omega
          subst hk'
          go_wp2_with fail
          go_ret
          exact ⟨ret_bo (by rw [E.out]; exact hf.symm), by repeat (first | exact Below.refl _ _ | apply Below.setCell _ (by first | omega | (simp <;> omega)) | apply Below.alloc _ (by first | omega | (simp <;> omega)))⟩
    · have g6 : (B == 6) = false := by simpa using hb6
      clear hN hm h5 h6 hB hb6
      go_enter Tryd.func8, Tryd.ntmps8
      go_wp2_with fail
      go_loopw [3] (fun i wr => ∃ k : Nat, k ≤ d + 1 ∧ i = .int .i64 k ∧ okTo B d M k = true ∧ wr = w.alloc (.cells #[.int .i64 B, .string N, .int .i64 (d : Int), .string M] 23)) (fun i _ => d + 1 - (intOf i).toNat)
      case atStart => exact ⟨0, Nat.zero_le _, rfl, by simp [okTo], rfl⟩
      case round =>
        obtain ⟨k, hk, rfl, hf, rfl⟩ := hrel
        by_cases hlt : k < d + 1
        · have HF := Lib.hid hf
          have hkm : k < M.size := by have := HM.out; omega
          have C := Lib.hid (byS_get M k hkm)
          have hkd : decide ((k : Int) < (d : Int)) = decide (k < d) := by simp
          clear hf
          by_cases h32 : M[k].toNat = 32
          · have HOK := Lib.hid (show okAt B d M k by unfold okAt; rw [C.out, h32]; omega)
            have r1 : ((M[k].toNat : Int) != 32) = false := by rw [h32]; rfl
            have r2 : ((M[k].toNat : Int) == 111) = false := by rw [h32]; rfl
            clear h32
            have HG := Lib.hid (show okTo B d M (k + 1) = true by rw [okTo_next HF.out, decide_eq_true_iff]; exact HOK.out)
            by_cases hk0 : k = 0
            · subst hk0
              go_wp2_with fail
              go_roundw
              case rel => exact ⟨1, by omega, rfl, HG.out, by trivial⟩
              case measure => simp [intOf]
            · have q0 : ((k : Int) == 0) = false := by simp; omega
              clear hk0
              go_wp2_with fail
              go_roundw
              case rel => exact ⟨k + 1, by omega, by go_num, HG.out, by trivial⟩
              case measure => simp [intOf]; omega
          · by_cases h63 : M[k].toNat = 63
            · have r1 : ((M[k].toNat : Int) != 32) = true := by rw [h63]; rfl
              have r2 : ((M[k].toNat : Int) == 111) = false := by rw [h63]; rfl
              have r3 : ((M[k].toNat : Int) != 63) = false := by rw [h63]; rfl
              by_cases hz : k = 0
              · have HNO := Lib.hid (show ¬ okAt B d M k by unfold okAt; rw [C.out, h63]; have := H5.out; omega)
                clear h32 h63
                subst hz
                go_wp2_with fail
                go_ret
                exact ⟨ret_bo (by rw [E.out]; exact (okTo_stop HNO.out hlt).symm), by repeat (first | exact Below.refl _ _ | apply Below.setCell _ (by first | omega | (simp <;> omega)) | apply Below.alloc _ (by first | omega | (simp <;> omega)))⟩
              · have HOK := Lib.hid (show okAt B d M k by unfold okAt; rw [C.out, h63]; omega)
                clear h32 h63
                have HG := Lib.hid (show okTo B d M (k + 1) = true by rw [okTo_next HF.out, decide_eq_true_iff]; exact HOK.out)
                have q0 : ((k : Int) == 0) = false := by simp; omega
                clear hz
                go_wp2_with fail
                go_roundw
                case rel => exact ⟨k + 1, by omega, by go_num, HG.out, by trivial⟩
                case measure => simp [intOf]; omega
            · by_cases h111 : M[k].toNat = 111
              · have r1 : ((M[k].toNat : Int) != 32) = true := by rw [h111]; rfl
                have r2 : ((M[k].toNat : Int) == 111) = true := by rw [h111]; rfl
                have r3 : ((M[k].toNat : Int) != 63) = true := by rw [h111]; rfl
                have r4 : ((M[k].toNat : Int) != 111) = false := by rw [h111]; rfl
                by_cases hkd2 : k < d
                · have HNO := Lib.hid (show ¬ okAt B d M k by unfold okAt; rw [C.out, h111]; omega)
                  have r5 : decide ((k : Int) < (d : Int)) = true := decide_eq_true (by omega)
                  clear h32 h63 h111 hkd
                  by_cases hk0 : k = 0
                  · subst hk0
                    go_wp2_with fail
                    go_ret
                    exact ⟨ret_bo (by rw [E.out]; exact (okTo_stop HNO.out hlt).symm), by repeat (first | exact Below.refl _ _ | apply Below.setCell _ (by first | omega | (simp <;> omega)) | apply Below.alloc _ (by first | omega | (simp <;> omega)))⟩
                  · have q0 : ((k : Int) == 0) = false := by simp; omega
                    clear hk0
                    go_wp2_with fail
                    go_ret
                    exact ⟨ret_bo (by rw [E.out]; exact (okTo_stop HNO.out hlt).symm), by repeat (first | exact Below.refl _ _ | apply Below.setCell _ (by first | omega | (simp <;> omega)) | apply Below.alloc _ (by first | omega | (simp <;> omega)))⟩
                · have r5 : decide ((k : Int) < (d : Int)) = false := decide_eq_false (by omega)
                  by_cases hz : k = 0
                  · have HNO := Lib.hid (show ¬ okAt B d M k by unfold okAt; rw [C.out, h111]; have := H5.out; omega)
                    clear h32 h63 h111 hkd
                    subst hz
                    go_wp2_with fail
                    go_ret
                    exact ⟨ret_bo (by rw [E.out]; exact (okTo_stop HNO.out hlt).symm), by repeat (first | exact Below.refl _ _ | apply Below.setCell _ (by first | omega | (simp <;> omega)) | apply Below.alloc _ (by first | omega | (simp <;> omega)))⟩
                  · have HOK := Lib.hid (show okAt B d M k by unfold okAt; rw [C.out, h111]; omega)
                    clear h32 h63 h111 hkd
                    have HG := Lib.hid (show okTo B d M (k + 1) = true by rw [okTo_next HF.out, decide_eq_true_iff]; exact HOK.out)
                    have q0 : ((k : Int) == 0) = false := by simp; omega
                    clear hz
                    go_wp2_with fail
                    go_roundw
                    case rel => exact ⟨k + 1, by omega, by go_num, HG.out, by trivial⟩
                    case measure => simp [intOf]; omega
              · have HNO := Lib.hid (show ¬ okAt B d M k by unfold okAt; rw [C.out]; omega)
                have r1 : ((M[k].toNat : Int) != 32) = true := by simp; omega
                have r3 : ((M[k].toNat : Int) != 63) = true := by simp; omega
                have r4 : ((M[k].toNat : Int) != 111) = true := by simp; omega
                clear h32 h63 h111
                by_cases hk0 : k = 0
                · subst hk0
                  go_wp2_with fail
                  go_ret
                  exact ⟨ret_bo (by rw [E.out]; exact (okTo_stop HNO.out hlt).symm), by repeat (first | exact Below.refl _ _ | apply Below.setCell _ (by first | omega | (simp <;> omega)) | apply Below.alloc _ (by first | omega | (simp <;> omega)))⟩
                · have q0 : ((k : Int) == 0) = false := by simp; omega
                  clear hk0
                  go_wp2_with fail
                  go_ret
                  exact ⟨ret_bo (by rw [E.out]; exact (okTo_stop HNO.out hlt).symm), by repeat (first | exact Below.refl _ _ | apply Below.setCell _ (by first | omega | (simp <;> omega)) | apply Below.alloc _ (by first | omega | (simp <;> omega)))⟩
        · have hk' : k = d + 1 := by omega
          subst hk'
          go_wp2_with fail
          go_ret
          exact ⟨ret_bo (by rw [E.out]; exact hf.symm), by repeat (first | exact Below.refl _ _ | apply Below.setCell _ (by first | omega | (simp <;> omega)) | apply Below.alloc _ (by first | omega | (simp <;> omega)))⟩
theorem rightB_no4 {B : Int} {N : ByteArray} {D : Int} {M : ByteArray} (h : ¬ (M.size : Int) - 1 = D) : rightB B N D M = false := by
  cases hr : rightB B N D M
  · rfl
  · obtain ⟨d, hd, -, hm⟩ := right_bounds hr
    omega
set_option maxHeartbeats 4000000 in
theorem refR_any (B : Int) (N : ByteArray) (D : Int) (M : ByteArray) (w : World) (hM : M.size ≤ 60) :
    Calls Tryd.prog 8 #[.agg #[.int .i64 B, .string N, .int .i64 D, .string M]] w fun e w' => e = .returned (.bool (rightB B N D M)) ∧ Below w.heap.size w w' := by
  have z3 : IntKind.i64.wrap ((M.size : Int) - 1) = (M.size : Int) - 1 := IntWalk.i64_in _ ⟨by omega, by omega⟩
  by_cases h0 : D < 0
  · have E := Lib.hid (rightB_no3 (B := B) (N := N) (D := D) (M := M) (by omega))
    have q1 : decide (D < 0) = true := decide_eq_true h0
    clear h0
    go_enter Tryd.func8, Tryd.ntmps8
    go_wp2_with fail
    all_goals go_ret
    all_goals exact ⟨ret_bo E.out.symm, by repeat (first | exact Below.refl _ _ | apply Below.setCell _ (by first | omega | (simp <;> omega)) | apply Below.alloc _ (by first | omega | (simp <;> omega)))⟩
  · have q1 : decide (D < 0) = false := decide_eq_false h0
    by_cases h1 : 4 < D
    · have E := Lib.hid (rightB_no3 (B := B) (N := N) (D := D) (M := M) (by omega))
      have q2 : decide (4 < D) = true := decide_eq_true h1
      clear h0 h1
      go_enter Tryd.func8, Tryd.ntmps8
      go_wp2_with fail
      all_goals go_ret
      all_goals exact ⟨ret_bo E.out.symm, by repeat (first | exact Below.refl _ _ | apply Below.setCell _ (by first | omega | (simp <;> omega)) | apply Below.alloc _ (by first | omega | (simp <;> omega)))⟩
    · have q2 : decide (4 < D) = false := decide_eq_false h1
      by_cases h2 : (M.size : Int) - 1 = D
      · by_cases h3 : B < 1
        · have E := Lib.hid (rightB_no1 (B := B) (N := N) (D := D) (M := M) (by omega))
          have q4 : decide (B < 1) = true := decide_eq_true h3
          have q3 : ((M.size : Int) - 1 != D) = false := by simpa using h2
          clear h0 h1 h2 h3
          go_enter Tryd.func8, Tryd.ntmps8
          go_wp2_with fail
          all_goals go_ret
          all_goals exact ⟨ret_bo E.out.symm, by repeat (first | exact Below.refl _ _ | apply Below.setCell _ (by first | omega | (simp <;> omega)) | apply Below.alloc _ (by first | omega | (simp <;> omega)))⟩
        · have q4 : decide (B < 1) = false := decide_eq_false h3
          by_cases h4 : 6 < B
          · have E := Lib.hid (rightB_no1 (B := B) (N := N) (D := D) (M := M) (by omega))
            have q5 : decide (6 < B) = true := decide_eq_true h4
            have q3 : ((M.size : Int) - 1 != D) = false := by simpa using h2
            clear h0 h1 h2 h3 h4
            go_enter Tryd.func8, Tryd.ntmps8
            go_wp2_with fail
            all_goals go_ret
            all_goals exact ⟨ret_bo E.out.symm, by repeat (first | exact Below.refl _ _ | apply Below.setCell _ (by first | omega | (simp <;> omega)) | apply Below.alloc _ (by first | omega | (simp <;> omega)))⟩
          · have q5 : decide (6 < B) = false := decide_eq_false h4
            by_cases hN : B = 5 ↔ N.size ≠ 0
            · by_cases h6 : B = 6 → D = 0
              · obtain ⟨d, rfl⟩ : ∃ d : Nat, D = d := ⟨D.toNat, by omega⟩
                rw [rightB_yes (M := M) ⟨by omega, by omega⟩ hN ⟨by omega, by omega, h6⟩, Int.toNat_natCast]
                exact refR_in B N d M w hM (by omega) (by omega) ⟨by omega, by omega⟩ hN (fun h => by have := h6 h; omega)
              · have E := Lib.hid (rightB_no3 (B := B) (N := N) (D := D) (M := M) (fun h => h6 h.2.2))
                have q3 : ((M.size : Int) - 1 != D) = false := by simpa using h2
                have hb6 : B = 6 := Classical.byContradiction fun h => h6 fun g => absurd g h
                have hd0 : 0 < D := by omega
                have n1 : N.toList = [] := (tl_nil N).2 (by apply Classical.byContradiction; intro h; have := hN.2 h; omega)
                have n2 : (N.toList == []) = true := by rw [n1]; rfl
                have g5 : (B == 5) = false := by rw [hb6]; rfl
                have g5' : (B != 5) = true := by rw [hb6]; rfl
                have g6 : (B == 6) = true := by rw [hb6]; rfl
                have z6 : decide (0 < D) = true := decide_eq_true hd0
                clear h0 h1 h2 h3 h4 hN h6 hb6 hd0
                go_enter Tryd.func8, Tryd.ntmps8
                go_wp2_with fail
                all_goals go_ret
                all_goals exact ⟨ret_bo E.out.symm, by repeat (first | exact Below.refl _ _ | apply Below.setCell _ (by first | omega | (simp <;> omega)) | apply Below.alloc _ (by first | omega | (simp <;> omega)))⟩
            · have E := Lib.hid (rightB_no2 (B := B) (N := N) (D := D) (M := M) hN)
              have q3 : ((M.size : Int) - 1 != D) = false := by simpa using h2
              by_cases h5 : B = 5
              · have n1 : N.toList = [] := (tl_nil N).2 (by apply Classical.byContradiction; intro h; exact hN ⟨fun _ => h, fun _ => h5⟩)
                have n2 : (N.toList == []) = true := by rw [n1]; rfl
                have g5 : (B == 5) = true := by simpa using h5
                clear h0 h1 h2 h3 h4 hN h5
                go_enter Tryd.func8, Tryd.ntmps8
                go_wp2_with fail
                all_goals go_ret
                all_goals exact ⟨ret_bo E.out.symm, by repeat (first | exact Below.refl _ _ | apply Below.setCell _ (by first | omega | (simp <;> omega)) | apply Below.alloc _ (by first | omega | (simp <;> omega)))⟩
              · obtain ⟨n1, n2⟩ := tl_ne N (by intro h; exact hN ⟨fun h' => absurd h' h5, fun h' => absurd h h'⟩)
                have g5 : (B == 5) = false := by simpa using h5
                have g5' : (B != 5) = true := by simpa using h5
                clear h0 h1 h2 h3 h4 hN h5
                go_enter Tryd.func8, Tryd.ntmps8
                go_wp2_with fail
                all_goals go_ret
                all_goals exact ⟨ret_bo E.out.symm, by repeat (first | exact Below.refl _ _ | apply Below.setCell _ (by first | omega | (simp <;> omega)) | apply Below.alloc _ (by first | omega | (simp <;> omega)))⟩
      · have E := Lib.hid (rightB_no4 (B := B) (N := N) (D := D) (M := M) h2)
        have q3 : ((M.size : Int) - 1 != D) = true := by simpa using h2
        clear h0 h1 h2
        go_enter Tryd.func8, Tryd.ntmps8
        go_wp2_with fail
        all_goals go_ret
        all_goals exact ⟨ret_bo E.out.symm, by repeat (first | exact Below.refl _ _ | apply Below.setCell _ (by first | omega | (simp <;> omega)) | apply Below.alloc _ (by first | omega | (simp <;> omega)))⟩

end Go.Proofs.YtljojfeiehkpeaaDoor
