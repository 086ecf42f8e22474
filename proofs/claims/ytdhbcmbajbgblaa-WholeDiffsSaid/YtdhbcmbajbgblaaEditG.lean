/- Contracts of the document's own Check and Apply. -/
import Derived.Test.YtdhbcmbajbgblaaEditF
import Derived.RegionTactic
namespace Go.Proofs.Ytdhbcmbajbgblaa
open Go Go.RowKit
set_option linter.unusedVariables false

set_option maxHeartbeats 2000000 in
theorem rcheck_any (m : Nat) (src : Option Addr) (n cap : Nat) (l : List IEd) (w : World) (hl : l.length = n) (hn : n ≤ maxLen) (hm : m ≤ maxLen) (hr : EdsIn w src l) :
    Calls Try.prog 7 #[.int .i64 (m : Nat), .slice src n cap] w fun e w' => e = .returned (.int .i64 (checkE m l)) ∧ Below w.heap.size w w' := by
  have HR := Lib.hid hr
  have HL := Lib.hid hl
  unfold maxLen at hn hm
  clear hr hl
  by_cases hlong : 4096 < n
  · have E := Lib.hid (show checkE m l = 2 by unfold checkE; rw [if_pos (by have := HL.out; omega)])
    have hlong' : 4096 < (n : Int) := by omega
    go_enter Try.func7, Try.ntmps7
    go_wp2_with fail
    go_ret
    exact ⟨by rw [E.out]; rfl, Below.refl _ _⟩
  · have hshort : n ≤ 4096 := by omega
    clear hlong
    have HE : Hid (checkE m l = if firstE m l = 0 then (if ordE l (n - 1) = true then 0 else 7) else firstE m l) := Lib.hid (by
      unfold checkE; rw [if_neg (by have := HL.out; omega), HL.out])
    go_enter Try.func7, Try.ntmps7
    go_wp2_with fail
    go_loopw [5] (fun i wr => ∃ k : Nat, k ≤ n ∧ i = .int .i64 k ∧ firstE m (l.take k) = 0 ∧ Below w.heap.size w wr) (fun i _ => n - (intOf i).toNat)
    case atStart => exact ⟨0, Nat.zero_le _, rfl, rfl, Below.refl _ _⟩
    case round =>
      obtain ⟨k, hk, rfl, hall, hbel⟩ := hrel
      have HA := Lib.hid hall
      have HBEL := Lib.hid hbel
      have hsz := hbel.size
      clear hall
      by_cases hlt : k < n
      · have hkl : k < l.length := by rw [HL.out]; exact hlt
        obtain ⟨b, off, rfl, hb, hrow⟩ := HR.out (by omega)
        obtain ⟨c0, c1, c2⟩ := (hrow.below hbel hb) k hkl
        have FN := Lib.hid (fun h => firstE_found (n := m) hkl HA.out h)
        have FT := Lib.hid (firstE_take (n := m) hkl HA.out)
        clear hbel hrow
        revert c0 c1 c2 FN FT
        generalize l[k] = x
        obtain ⟨x1, x2, x3⟩ := x
        intro c0 c1 c2 FN FT
        dsimp only at c0 c1 c2 FN FT
        clear hkl
        have HB := HBEL.out
        by_cases hz : 65536 < x3.size
        · have E := Lib.hid (show checkE m l = 2 by
            have h1 : oneE m (x1, x2, x3) = 2 := by unfold oneE; rw [if_pos (by simp only; omega)]
            have h2 := FN.out (by rw [h1]; omega)
            rw [HE.out, h2, h1]; rfl)
          clear HB
          go_wp2_with fail
          go_ret
          have HB := HBEL.out
          exact ⟨by rw [E.out]; rfl, by repeat (first | exact Below.refl _ _ | apply Below.setCell _ (by first | omega | (simp <;> omega)) | apply Below.alloc _ (by first | omega | (simp <;> omega)) | exact HB | refine after ?_ HB)⟩
        · by_cases hc : 0 ≤ x1 ∧ x1 ≤ x2 ∧ x2 ≤ m ∧ (m : Int) ≤ 65536
          · have hm : chkB x1 x2 m = true := chkB_iff.2 ⟨⟨by omega, by omega, by omega⟩, by omega, by omega⟩
            have h1 : oneE m (x1, x2, x3) = 0 := by unfold oneE; rw [if_neg (by simp only; omega), hm]; rfl
            have ER := Lib.hid (FT.out.trans h1)
            obtain ⟨q1, q2, q3, q4⟩ := hc
            clear hm h1 HB
            go_wp2_with fail
            go_roundw
            case rel =>
              have HB := HBEL.out
              exact ⟨k + 1, by omega, by go_num, ER.out, by repeat (first | exact Below.refl _ _ | apply Below.setCell _ (by first | omega | (simp <;> omega)) | apply Below.alloc _ (by first | omega | (simp <;> omega)) | exact HB | refine after ?_ HB)⟩
            case measure => simp [intOf]; omega
          · have hm : chkB x1 x2 m = false := by
              cases h : chkB x1 x2 m
              · rfl
              · have := chkB_iff.1 h; omega
            have h1 : oneE m (x1, x2, x3) = 1 := by unfold oneE; rw [if_neg (by simp only; omega), hm]; rfl
            have E := Lib.hid (show checkE m l = 1 by
              have h2 := FN.out (by rw [h1]; omega)
              rw [HE.out, h2, h1]; rfl)
            clear hm h1 HB
            go_wp2_with fail
            all_goals first | (go_ret; have HB := HBEL.out; exact ⟨by rw [E.out]; rfl, by repeat (first | exact Below.refl _ _ | apply Below.setCell _ (by first | omega | (simp <;> omega)) | apply Below.alloc _ (by first | omega | (simp <;> omega)) | exact HB | refine after ?_ HB)⟩) | (exfalso; omega)
      · have hk' : k = n := by omega
        subst hk'
        have HF0 : Hid (firstE m l = 0) := Lib.hid (by have := HA.out; rwa [← HL.out, List.take_length] at this)
        have HE2 : Hid (checkE m l = if ordE l (k - 1) = true then 0 else 7) := Lib.hid (by rw [HE.out, HF0.out]; rfl)
        clear hbel
        rename World => w3
        go_wp2_with fail
        go_loopw [7] (fun i wr => ∃ j : Nat, (j = 0 ∨ j ≤ k - 1) ∧ i = .int .i64 ((j : Int) + 1) ∧ ordE l j = true ∧ Below w.heap.size w wr) (fun i _ => k - (intOf i).toNat)
        case atStart => exact ⟨0, .inl rfl, rfl, rfl, HBEL.out⟩
        case round =>
          clear HBEL
          obtain ⟨j, hj, rfl, hord, hbel⟩ := hrel
          have HBEL := Lib.hid hbel
          have hsz := hbel.size
          have HOR := Lib.hid hord
          clear hord hbel
          by_cases hlt : j + 1 < k
          · have hjl : j < l.length := by rw [HL.out]; omega
            have hjl1 : j + 1 < l.length := by rw [HL.out]; omega
            obtain ⟨b, off, rfl, hb, hrow⟩ := HR.out (by omega)
            obtain ⟨c0, c1, c2⟩ := (hrow.below HBEL.out hb) j hjl
            obtain ⟨d0, d1, d2⟩ := (hrow.below HBEL.out hb) (j + 1) hjl1
            have HP : Hid (nextB l j = decide (l[j].2.1 ≤ l[j + 1].1)) := Lib.hid (by unfold nextB; rw [getE l j hjl, getE l (j + 1) hjl1])
            have HS := Lib.hid (fun (h : nextB l j = false) => ordE_stop h (show j < k - 1 by omega))
            have HT := Lib.hid (fun (h : nextB l j = true) => (show ordE l (j + 1) = true by rw [ordE_succ, HOR.out, h]; rfl))
            clear hrow
            revert c0 c1 c2 d0 d1 d2 HP
            generalize l[j] = x
            generalize l[j + 1] = y
            obtain ⟨x1, x2, x3⟩ := x
            obtain ⟨y1, y2, y3⟩ := y
            intro c0 c1 c2 d0 d1 d2 HP
            dsimp only at c0 c1 c2 d0 d1 d2 HP
            clear hjl hjl1
            have hbw : b < wr.heap.size := by omega
            have iw : IntKind.i64.wrap ((j : Int) + 1 - 1) = (j : Int) := by rw [show (j : Int) + 1 - 1 = (j : Int) by omega]; exact IntWalk.i64_in _ ⟨by omega, by omega⟩
            have i1 : (j : Int) < (k : Int) := by omega
            have i2 : (j : Int) + 1 < (k : Int) := by omega
            have i3 : (0 : Int) ≤ (j : Int) + 1 := by omega
            have i6 : ((j : Int) + 1).toNat = j + 1 := by omega
            by_cases hgt : y1 < x2
            · have E := Lib.hid (show checkE m l = 7 by rw [HE2.out, HS.out (by rw [HP.out]; simp; omega)]; rfl)
              go_wp2_with fail
              go_region
              all_goals
                go_wp2_with fail
                go_ret
                have HB := HBEL.out
                exact ⟨by rw [E.out]; rfl, by repeat (first | exact Below.refl _ _ | refine below_drewN ?_ _ | apply Below.setCell _ (by first | omega | (simp <;> omega)) | apply Below.alloc _ (by first | omega | (simp <;> omega)) | exact HB | refine after ?_ HB)⟩
            · have E := Lib.hid (HT.out (by rw [HP.out]; simp; omega))
              go_wp2_with fail
              go_region
              all_goals
                go_wp2_with fail
                have HB := HBEL.out
                exact ⟨⟨j + 1, by omega, by go_num, E.out, by repeat (first | exact Below.refl _ _ | refine below_drewN ?_ _ | apply Below.setCell _ (by first | omega | (simp <;> omega)) | apply Below.alloc _ (by first | omega | (simp <;> omega)) | exact HB | refine after ?_ HB)⟩, by simp [intOf]; omega⟩
          · have E := Lib.hid (show checkE m l = 0 by
              rw [HE2.out]
              have : ordE l (k - 1) = true := by
                by_cases h0 : j = 0
                · have : k - 1 = 0 := by omega
                  rw [this]; rfl
                · have : k - 1 = j := by omega
                  rw [this]; exact HOR.out
              rw [this]; rfl)
            go_wp2_with fail
            go_ret
            exact ⟨by rw [E.out]; rfl, HBEL.out⟩

end Go.Proofs.Ytdhbcmbajbgblaa
