/- Edits in memory; contracts of edit.Check, and of the statements' own Check. -/
import Derived.Test.YtdhbcmbajbgblaaSpanE
import Derived.Test.YtdhbcmbajbgblaaSpanG
import Derived.Test.YtdhbcmbajbgblaaPieces
import Derived.Deep.RegionHeld3
import Derived.BigQuiet
namespace Go.Proofs.Ytdhbcmbajbgblaa
open Go Go.RowKit
set_option linter.unusedVariables false

/-- an edit as memory has it -/
abbrev IEd := Int × Int × ByteArray
abbrev noEd : IEd := (0, 0, ByteArray.empty)
/-- a list of edits lies in memory from a place on, three cells each -/
def EditAt (w : World) (b off : Nat) (l : List IEd) : Prop :=
  ∀ i (h : i < l.length), w.cell? ⟨b, off + i * 3, none⟩ = some (.int .i64 l[i].1) ∧ w.cell? ⟨b, off + i * 3 + 1, none⟩ = some (.int .i64 l[i].2.1) ∧ w.cell? ⟨b, off + i * 3 + 2, none⟩ = some (.string l[i].2.2)
theorem EditAt.below {w w' : World} {B b off : Nat} {l : List IEd} (h : EditAt w b off l) (hb : Below B w w') (hB : b < B) : EditAt w' b off l := fun i hi =>
  ⟨(hb.cell (p := ⟨b, off + i * 3, none⟩) hB).trans (h i hi).1, (hb.cell (p := ⟨b, off + i * 3 + 1, none⟩) hB).trans (h i hi).2.1, (hb.cell (p := ⟨b, off + i * 3 + 2, none⟩) hB).trans (h i hi).2.2⟩
/-- a list of edits, nil or not -/
def EdsIn (w : World) (src : Option Addr) (l : List IEd) : Prop := 0 < l.length → ∃ b off, src = some ⟨b, off, none⟩ ∧ b < w.heap.size ∧ EditAt w b off l
theorem EdsIn.step {w w' : World} {src : Option Addr} {l : List IEd} (h : EdsIn w src l) (hb : Below w.heap.size w w') : EdsIn w' src l := fun h0 => by
  obtain ⟨b, off, h1, h2, h3⟩ := h h0
  exact ⟨b, off, h1, Nat.lt_of_lt_of_le h2 hb.size, h3.below hb h2⟩

/-- what is wrong with one edit -/
def oneE (n : Int) (e : IEd) : Int := if 65536 < e.2.2.size then 2 else errI (chkB e.1 e.2.1 n) 1
def firstE (n : Int) : List IEd → Int
  | [] => 0
  | e :: l => if oneE n e = 0 then firstE n l else oneE n e
theorem firstE_snoc (n : Int) (e : IEd) : ∀ l, firstE n (l ++ [e]) = if firstE n l = 0 then oneE n e else firstE n l
  | [] => by
    by_cases h : oneE n e = 0 <;> simp [firstE, h]
  | x :: l => by
    have ih := firstE_snoc n e l
    by_cases h : oneE n x = 0 <;> simp [firstE, h, ih]
theorem firstE_take {n : Int} {l : List IEd} {k : Nat} (h : k < l.length) (h0 : firstE n (l.take k) = 0) : firstE n (l.take (k + 1)) = oneE n l[k] := by
  rw [List.take_succ_eq_append_getElem h, firstE_snoc, if_pos h0]
theorem firstE_stop {n c : Int} (hc : c ≠ 0) : ∀ {a b : List IEd}, firstE n a = c → firstE n (a ++ b) = c
  | [], b, h => absurd h (by simp [firstE]; omega)
  | x :: a, b, h => by
    by_cases hx : oneE n x = 0
    · simp only [List.cons_append, firstE, hx, if_true] at *; exact firstE_stop hc h
    · simp only [List.cons_append, firstE, hx, if_false] at *; exact h
theorem firstE_found {n : Int} {l : List IEd} {k : Nat} (h : k < l.length) (h0 : firstE n (l.take k) = 0) (h1 : oneE n l[k] ≠ 0) : firstE n l = oneE n l[k] := by
  have h2 := firstE_take h h0
  have := firstE_stop h1 (b := l.drop (k + 1)) h2
  rwa [List.take_append_drop] at this
/-- do two neighbours stand in order? -/
def nextB (l : List IEd) (j : Nat) : Bool := decide ((l.getD j noEd).2.1 ≤ (l.getD (j + 1) noEd).1)
def ordE (l : List IEd) (k : Nat) : Bool := (List.range k).all (nextB l)
theorem ordE_succ (l : List IEd) (k : Nat) : ordE l (k + 1) = (ordE l k && nextB l k) := by
  unfold ordE; rw [List.range_succ, List.all_append]; simp
theorem ordE_stop {l : List IEd} {k m : Nat} (h : nextB l k = false) (hk : k < m) : ordE l m = false := by
  unfold ordE
  rw [List.all_eq_false]
  exact ⟨k, List.mem_range.2 hk, by simp [h]⟩
/-- what Check answers -/
def checkE (n : Int) (l : List IEd) : Int :=
  if 4096 < l.length then 2 else if firstE n l = 0 then (if ordE l (l.length - 1) = true then 0 else 7) else firstE n l
theorem getE (l : List IEd) (k : Nat) (h : k < l.length) : l.getD k noEd = l[k] := by
  rw [List.getD_eq_getElem?_getD, List.getElem?_eq_getElem h]; rfl

set_option maxHeartbeats 1000000 in
theorem echeck_any (m : Int) (src : Option Addr) (n cap : Nat) (l : List IEd) (w : World) (hl : l.length = n) (hn : n ≤ maxLen) (hr : EdsIn w src l) :
    Calls Try.prog 15 #[.int .i64 m, .slice src n cap] w fun e w' => e = .returned (.int .i64 (checkE m l)) ∧ Below w.heap.size w w' := by
  have HR := Lib.hid hr
  have HL := Lib.hid hl
  unfold maxLen at hn
  clear hr hl
  by_cases hlong : 4096 < n
  · have E := Lib.hid (show checkE m l = 2 by unfold checkE; rw [if_pos (by have := HL.out; omega)])
    go_enter Try.func15, Try.ntmps15
    go_wp2_with fail
    go_ret
    exact ⟨by rw [E.out]; rfl, Below.refl _ _⟩
  · have hshort : n ≤ 4096 := by omega
    clear hlong
    have HE : Hid (checkE m l = if firstE m l = 0 then (if ordE l (n - 1) = true then 0 else 7) else firstE m l) := Lib.hid (by
      unfold checkE; rw [if_neg (by have := HL.out; omega), HL.out])
    go_enter Try.func15, Try.ntmps15
    go_wp2_with fail
    go_loopw [14] (fun i wr => ∃ k : Nat, k ≤ n ∧ i = .int .i64 k ∧ firstE m (l.take k) = 0 ∧ Below w.heap.size w wr) (fun i _ => n - (intOf i).toNat)
    case atStart => exact ⟨0, Nat.zero_le _, rfl, rfl, Below.refl _ _⟩
    case round =>
      obtain ⟨k, hk, rfl, hall, hbel⟩ := hrel
      have HA := Lib.hid hall
      have HBEL := Lib.hid hbel
      have hsz := hbel.size
      clear hall
      by_cases hlt : k < n
      · have hkl : k < l.length := by rw [HL.out]; exact hlt
        obtain ⟨b, off, rfl, hb, hrow⟩ := HR.out (by omega)
        obtain ⟨c0, c1, c2⟩ := (hrow.below hbel hb) k hkl
        have FN := Lib.hid (fun h => firstE_found (n := m) hkl HA.out h)
        have FT := Lib.hid (firstE_take (n := m) hkl HA.out)
        clear hbel hrow
        revert c0 c1 c2 FN FT
        generalize l[k] = x
        obtain ⟨x1, x2, x3⟩ := x
        intro c0 c1 c2 FN FT
        dsimp only at c0 c1 c2 FN FT
        clear hkl
        by_cases hz : 65536 < x3.size
        · have E := Lib.hid (show checkE m l = 2 by
            have h1 : oneE m (x1, x2, x3) = 2 := by unfold oneE; rw [if_pos (by simp only; omega)]
            have h2 := FN.out (by rw [h1]; omega)
            rw [HE.out, h2, h1]; rfl)
          go_wp2_with fail
          go_ret
          have HB := HBEL.out
          exact ⟨by rw [E.out]; rfl, by repeat (first | exact Below.refl _ _ | apply Below.setCell _ (by first | omega | (simp <;> omega)) | apply Below.alloc _ (by first | omega | (simp <;> omega)) | exact HB | refine after ?_ HB)⟩
        · cases hm : chkB x1 x2 m
          · have h1 : oneE m (x1, x2, x3) = 1 := by unfold oneE; rw [if_neg (by simp only; omega), hm]; rfl
            have E := Lib.hid (show checkE m l = 1 by
              have h2 := FN.out (by rw [h1]; omega)
              rw [HE.out, h2, h1]; rfl)
            have EC := Lib.hid (show errI (chkB x1 x2 m) 1 = 1 by rw [hm]; rfl)
            clear hm h1
            go_wp2_with fail
            refine (check_any _ _ _ _).mono ?_
            rw [EC.out]
            rintro e w2 ⟨rfl, h12⟩
            go_wp2_with fail
            go_ret
            exact ⟨by rw [E.out]; rfl, after HBEL.out (after ((Below.refl _ _).alloc (Nat.le_refl _) _) h12)⟩
          · have h1 : oneE m (x1, x2, x3) = 0 := by unfold oneE; rw [if_neg (by simp only; omega), hm]; rfl
            have ER := Lib.hid (FT.out.trans h1)
            have EC := Lib.hid (show errI (chkB x1 x2 m) 1 = 0 by rw [hm]; rfl)
            clear hm h1
            go_wp2_with fail
            refine (check_any _ _ _ _).mono ?_
            rw [EC.out]
            rintro e w2 ⟨rfl, h12⟩
            have H2 := Lib.hid (after HBEL.out (after ((Below.refl _ _).alloc (Nat.le_refl _) _) h12))
            clear h12
            go_wp2_with fail
            go_roundw
            case rel => exact ⟨k + 1, by omega, by go_num, ER.out, H2.out⟩
            case measure => simp [intOf]; omega
      · have hk' : k = n := by omega
        subst hk'
        have HF0 : Hid (firstE m l = 0) := Lib.hid (by have := HA.out; rwa [← HL.out, List.take_length] at this)
        have HE2 : Hid (checkE m l = if ordE l (k - 1) = true then 0 else 7) := Lib.hid (by rw [HE.out, HF0.out]; rfl)
        clear hbel
        rename World => w3
        go_wp2_with fail
        go_loopw [33] (fun i wr => ∃ j : Nat, (j = 0 ∨ j ≤ k - 1) ∧ i = .int .i64 j ∧ ordE l j = true ∧ Below w.heap.size w wr) (fun i _ => k - (intOf i).toNat)
        case atStart => exact ⟨0, .inl rfl, rfl, rfl, HBEL.out⟩
        case round =>
          clear HBEL
          obtain ⟨j, hj, rfl, hord, hbel⟩ := hrel
          have HBEL := Lib.hid hbel
          have hsz := hbel.size
          clear hbel
          have HOR := Lib.hid hord
          clear hord
          by_cases hlt : j + 1 < k
          · have hjl : j < l.length := by rw [HL.out]; omega
            have hjl1 : j + 1 < l.length := by rw [HL.out]; omega
            obtain ⟨b, off, rfl, hb, hrow⟩ := HR.out (by omega)
            have c1 := ((hrow.below HBEL.out hb) j hjl).2.1
            have d0 := ((hrow.below HBEL.out hb) (j + 1) hjl1).1
            have HP : Hid (nextB l j = decide (l[j].2.1 ≤ l[j + 1].1)) := Lib.hid (by unfold nextB; rw [getE l j hjl, getE l (j + 1) hjl1])
            have HS := Lib.hid (fun (h : nextB l j = false) => ordE_stop h (show j < k - 1 by omega))
            have HT := Lib.hid (fun (h : nextB l j = true) => (show ordE l (j + 1) = true by rw [ordE_succ, HOR.out, h]; rfl))
            clear hrow
            revert c1 d0 HP
            generalize l[j].2.1 = x
            generalize l[j + 1].1 = y
            intro c1 d0 HP
            clear hjl hjl1
            have hbw : b < wr.heap.size := by omega
            have i1 : (j : Int) < (k : Int) := by omega
            have i2 : (j : Int) + 1 < (k : Int) := by omega
            have i3 : (0 : Int) ≤ (j : Int) + 1 := by omega
            have i4 : j < k := by omega
            have iw : IntKind.i64.wrap ((j : Int) + 1) = (j : Int) + 1 := IntWalk.i64_in _ ⟨by omega, by omega⟩
            have i6 : ((j : Int) + 1).toNat = j + 1 := by omega
            by_cases hgt : y < x
            · have E := Lib.hid (show checkE m l = 7 by rw [HE2.out, HS.out (by rw [HP.out]; simp; omega)]; rfl)
              have dl : decide (y < x) = true := decide_eq_true hgt
              go_wp2_with fail
              go_quiet (fail)
              go_wp2_with fail
              go_ret
              exact ⟨by rw [E.out]; rfl, below_drewN HBEL.out _⟩
            · have E := Lib.hid (HT.out (by rw [HP.out]; simp; omega))
              have dl : decide (y < x) = false := decide_eq_false hgt
              go_wp2_with fail
              go_quiet (fail)
              go_wp2_with fail
              go_roundw
              case rel => exact ⟨j + 1, by omega, by go_num, E.out, below_drewN HBEL.out _⟩
              case measure => simp [intOf]; omega
          · have E := Lib.hid (show checkE m l = 0 by
              rw [HE2.out]
              have : ordE l (k - 1) = true := by
                by_cases h0 : j = 0
                · have : k - 1 = 0 := by omega
                  rw [this]; rfl
                · have : k - 1 = j := by omega
                  rw [this]; exact HOR.out
              rw [this]; rfl)
            go_wp2_with fail
            go_ret
            exact ⟨by rw [E.out]; rfl, HBEL.out⟩

end Go.Proofs.Ytdhbcmbajbgblaa
