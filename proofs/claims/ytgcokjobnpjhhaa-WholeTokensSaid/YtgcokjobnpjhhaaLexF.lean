/- Contracts of said, Unquote and token. -/
import Derived.Test.YtgcokjobnpjhhaaLexE
import Derived.Test.YtgcokjobnpjhhaaBuilderB
namespace Go.Proofs.Ytgcokjobnpjhhaa
open Go Go.RowKit
set_option linter.unusedVariables false

def ofN (l : List Nat) : List UInt8 := l.map Nat.toUInt8
def strN (l : List Nat) : ByteArray := ⟨(ofN l).toArray⟩
theorem ofN_snoc (l : List Nat) (c : Nat) : ofN (l ++ [c]) = ofN l ++ [c.toUInt8] := by simp [ofN]
theorem cells_snoc (l : List Nat) (c : Nat) (h : c < 256) : Lib.byteCells (ofN (l ++ [c])) = Lib.byteCells (ofN l) ++ [.int .u8 (c : Int)] := by
  rw [ofN_snoc]; simp [Lib.byteCells]; omega
def idxW (k : Nat) : Int := Lib.indexByte (⟨#[110, 116, 34, 92]⟩ : ByteArray).data.toList k.toUInt8
theorem idxW_all : ∀ k, k < 256 → (meantS k = none → idxW k < 0) := by decide +kernel
theorem idxW110 : idxW 110 = 0 := by decide
theorem idxW116 : idxW 116 = 1 := by decide
theorem idxW34 : idxW 34 = 2 := by decide
theorem idxW92 : idxW 92 = 3 := by decide
theorem meant_cases {k m : Nat} (h : meantS k = some m) : (k = 110 ∧ m = 10) ∨ (k = 116 ∧ m = 9) ∨ (k = 34 ∧ m = 34) ∨ (k = 92 ∧ m = 92) := by
  unfold meantS at h
  split at h
  · injection h; omega
  · split at h
    · injection h; omega
    · split at h
      · injection h; omega
      · split at h
        · injection h; omega
        · cases h
theorem writ_any (k : Nat) (w : World) :
    Calls Try.prog 28 #[.string ⟨#[110, 116, 34, 92]⟩, .int .u8 (k : Int)] w fun e w' => e = .returned (.int .i64 (idxW k)) ∧ w = w' :=
  (Try.strings_IndexByte ⟨#[110, 116, 34, 92]⟩ (k : Int) w).mono fun e w' h => ⟨by rw [h.1]; rfl, h.2.symm⟩

/-- one step -/
theorem said_end {g : Nat → Nat} {n i : Nat} {b : Bool} {acc : List Nat} (h : n ≤ i) : saidG g n i b acc = (61, []) := by
  unfold saidG; rw [show n - i = 0 by omega]; rfl
theorem said_step {g : Nat → Nat} {n i : Nat} {b : Bool} {acc : List Nat} (h : i < n) : saidG g n i b acc =
    if seenB (g i) = false then (60, []) else
    if b = true then (match meantS (g i) with | none => (5, []) | some m => saidG g n (i + 1) false (acc ++ [m])) else
    if g i = 34 then (0, acc) else if g i = 92 then saidG g n (i + 1) true acc else saidG g n (i + 1) false (acc ++ [g i]) := by
  unfold saidG
  rw [show n - i = (n - (i + 1)) + 1 by omega]
  rfl

/-- while a text is told -/
def SayInv (w wr : World) (acc : List Nat) : Prop := Below w.heap.size w wr ∧ w.heap.size < wr.heap.size ∧ Lib.IsBuilderF 55 5 w.heap.size w.heap.size (Lib.byteCells (ofN acc)) wr
theorem SayInv.wrote {w wr w2 : World} {acc : List Nat} {c : Nat} (h : SayInv w wr acc) (hc : c < 256) (h1 : Lib.IsBuilderF 55 5 w.heap.size w.heap.size (Lib.byteCells (ofN acc) ++ [.int .u8 (c : Int)]) w2) (hb : Below w.heap.size wr w2) : SayInv w w2 (acc ++ [c]) :=
  ⟨h.1.trans hb, by have := hb.size; have := h.2.1; omega, by rw [cells_snoc _ _ hc]; exact h1⟩
def SaidPost (w : World) (R : Nat × List Nat) (e : Ending) (w' : World) : Prop := e = .returned (.tuple #[.string (strN R.2), .int .i64 (R.1 : Nat)]) ∧ Below w.heap.size w w'

set_option maxRecDepth 100000 in
set_option maxHeartbeats 4000000 in
theorem said_any (x : ByteArray) (w : World) (h0 : 0 < x.size) (hs : x.size ≤ 65536) :
    Calls Try.prog 33 #[.string x] w (SaidPost w (saidG (byS x) x.size 1 false [])) := by
  obtain ⟨R, hR⟩ : ∃ R, saidG (byS x) x.size 1 false [] = R := ⟨_, rfl⟩
  rw [hR]
  have HR := Lib.hid hR
  have HI0 : Hid (SayInv w (w.alloc (.cells #[.pointer none, .slice none 0 0] 55)) []) := Lib.hid
    ⟨(Below.refl _ _).alloc (Nat.le_refl _) _, by simp, Lib.IsBuilderF.of (Lib.fresh_isBuilder 55 5 w)⟩
  clear hR
  go_enter Try.func33, Try.ntmps33
  go_wp2_with fail
  go_loopw [12, 5] (fun t b wr => ∃ (j : Nat) (bb : Bool) (acc : List Nat), j + 1 ≤ x.size ∧ acc.length ≤ j ∧ t = .int .i64 j ∧ b = .bool bb ∧ saidG (byS x) x.size (j + 1) bb acc = R ∧ SayInv w wr acc) (fun t _ _ => x.size - (intOf t).toNat)
  case atStart => exact ⟨0, false, [], by omega, by simp, rfl, rfl, HR.out, HI0.out⟩
  case round =>
    obtain ⟨j, bb, acc, hj, hacc, rfl, rfl, hk, hinv⟩ := hrel
    have HK := Lib.hid hk
    have HI := Lib.hid hinv
    clear hk hinv HI0 HR
    by_cases hlt : j + 1 < x.size
    · have i1 : (j : Int) < (x.size : Int) - 1 := by omega
      have HB := Lib.hid (byS_get x (j + 1) hlt)
      have HST := Lib.hid (said_step (g := byS x) (b := bb) (acc := acc) hlt)
      rw [HB.out, HK.out] at HST
      have hc256 : x[j + 1].toNat < 256 := UInt8.toNat_lt _
      have HC := Lib.hid hc256
      have HS := Lib.hid (fun w => seen_any x[j + 1].toNat w)
      have HW := Lib.hid (fun w => writ_any x[j + 1].toNat w)
      cases hs : seenB x[j + 1].toNat
      · rw [hs] at HS
        have E := Lib.hid (show R = (60, []) by rw [HST.out, if_pos hs])
        clear hs
        go_wp2_with (first | (go_at_call 29; refine (HS.out _).mono ?_; rintro e w1 ⟨rfl, rfl⟩) | (go_at_call 28; refine (HW.out _).mono ?_; rintro e w1 ⟨rfl, rfl⟩))
        go_ret2
        exact ⟨by rw [E.out]; rfl, HI.out.1⟩
      · rw [hs] at HS
        have HSN : Hid (R = if bb = true then (match meantS x[j + 1].toNat with | none => (5, []) | some m => saidG (byS x) x.size (j + 1 + 1) false (acc ++ [m])) else if x[j + 1].toNat = 34 then (0, acc) else if x[j + 1].toNat = 92 then saidG (byS x) x.size (j + 1 + 1) true acc else saidG (byS x) x.size (j + 1 + 1) false (acc ++ [x[j + 1].toNat])) := Lib.hid (by rw [HST.out, if_neg (by simp [hs])])
        clear hs HST
        cases bb
        · by_cases h34 : x[j + 1].toNat = 34
          · have t1 : ((x[j + 1].toNat : Int) == 34) = true := by rw [h34]; rfl
            have E := Lib.hid (show R = (0, acc) by rw [HSN.out, if_neg (by simp), if_pos h34])
            clear h34 hc256
            go_wp2_with (first | (go_at_call 29; refine (HS.out _).mono ?_; rintro e w1 ⟨rfl, rfl⟩) | (go_at_call 28; refine (HW.out _).mono ?_; rintro e w1 ⟨rfl, rfl⟩))
            refine (Try.Builder_String_any_k _ _ (ofN acc) _ HI.out.2.2 (by have := HI.out.2.1; omega)).mono ?_
            rintro e w3 ⟨rfl, -, g2, -⟩
            have G2 := Lib.hid g2
            clear g2
            go_wp2_with fail
            go_ret2
            exact ⟨by rw [E.out]; rfl, HI.out.1.trans G2.out⟩
          · have t1 : ((x[j + 1].toNat : Int) == 34) = false := by simp; omega
            by_cases h92 : x[j + 1].toNat = 92
            · have t2 : ((x[j + 1].toNat : Int) == 92) = true := by rw [h92]; rfl
              have E := Lib.hid (show saidG (byS x) x.size (j + 1 + 1) true acc = R by rw [HSN.out, if_neg (by simp), if_neg h34, if_pos h92])
              clear h34 h92 hc256
              go_wp2_with (first | (go_at_call 29; refine (HS.out _).mono ?_; rintro e w1 ⟨rfl, rfl⟩) | (go_at_call 28; refine (HW.out _).mono ?_; rintro e w1 ⟨rfl, rfl⟩))
              go_roundw
              case rel => exact ⟨j + 1, true, acc, by omega, by omega, by go_num, rfl, E.out, HI.out⟩
              case measure => simp [intOf]; omega
            · have t2 : ((x[j + 1].toNat : Int) == 92) = false := by simp; omega
              have E := Lib.hid (show saidG (byS x) x.size (j + 1 + 1) false (acc ++ [x[j + 1].toNat]) = R by rw [HSN.out, if_neg (by simp), if_neg h34, if_neg h92])
              clear h34 h92 hc256
              go_wp2_with fail
              refine (HS.out _).mono ?_
              rintro e w1 ⟨rfl, rfl⟩
              go_wp2_with fail
              refine (writeByte_any _ _ _ _ _ HI.out.2.2 (by simp [Lib.byteCells, ofN]; omega) (by have := HI.out.2.1; omega)).mono ?_
              rintro e w2 ⟨rfl, g1, g2, -⟩
              have HN := Lib.hid (HI.out.wrote HC.out g1 g2)
              clear g1 g2
              go_wp2_with fail
              go_roundw
              case rel => exact ⟨j + 1, false, acc ++ [x[j + 1].toNat], by omega, by simp; omega, by go_num, rfl, E.out, HN.out⟩
              case measure => simp [intOf]; omega
        · cases hm : meantS x[j + 1].toNat with
          | none =>
            have hneg := idxW_all _ hc256 hm
            have E := Lib.hid (show R = (5, []) by rw [HSN.out, if_pos rfl, hm])
            clear hm hc256
            generalize idxW x[j + 1].toNat = v at *
            go_wp2_with (first | (go_at_call 29; refine (HS.out _).mono ?_; rintro e w1 ⟨rfl, rfl⟩) | (go_at_call 28; refine (HW.out _).mono ?_; rintro e w1 ⟨rfl, rfl⟩))
            go_ret2
            exact ⟨by rw [E.out]; rfl, HI.out.1⟩
          | some m =>
            have E := Lib.hid (show saidG (byS x) x.size (j + 1 + 1) false (acc ++ [m]) = R by rw [HSN.out, if_pos rfl, hm])
            have hmc := meant_cases hm
            clear hm hc256 HC HSN
            rcases hmc with ⟨q1, q2⟩ | ⟨q1, q2⟩ | ⟨q1, q2⟩ | ⟨q1, q2⟩
            all_goals
              subst q2
              rw [q1] at HW
              first | rw [idxW110] at HW | rw [idxW116] at HW | rw [idxW34] at HW | rw [idxW92] at HW
              have hv : (x[j + 1].toNat : Int) = ((_ : Nat) : Int) := congrArg Nat.cast q1
              have HV := Lib.hid hv
              have HQ := Lib.hid q1
              clear hv q1
              go_wp2_with fail
              refine (HS.out _).mono ?_
              rintro e w1 ⟨rfl, rfl⟩
              go_wp2_with fail
              rw [HQ.out]
              refine (HW.out _).mono ?_
              rintro e w1 ⟨rfl, rfl⟩
              go_wp2_with fail
              refine (writeByte_any _ _ _ _ _ HI.out.2.2 (by simp [Lib.byteCells, ofN]; omega) (by have := HI.out.2.1; omega)).mono ?_
              rintro e w2 ⟨rfl, g1, g2, -⟩
              have HN := Lib.hid (HI.out.wrote (by decide) g1 g2)
              clear g1 g2
              go_wp2_with fail
              go_roundw
              case rel => exact ⟨j + 1, false, _, by omega, by simp; omega, by go_num, rfl, E.out, HN.out⟩
              case measure => simp [intOf]; omega
    · have i1 : ¬ (j : Int) < (x.size : Int) - 1 := by omega
      have E := Lib.hid (show R = (61, []) by rw [← HK.out, said_end (by omega)])
      go_wp2_with fail
      go_ret2
      exact ⟨by rw [E.out]; rfl, HI.out.1⟩

end Go.Proofs.Ytgcokjobnpjhhaa
