/- SpanCovers: the walk. -/
import Derived.Test.YtcmeeehhhnmfgaaCoversA
import Derived.Test.YtcmeeehhhnmfgaaSpanG
import Derived.Test.YtcmeeehhhnmfgaaFrame
namespace Go.Proofs.Ytcmeeehhhnmfgaa
open Go.RowKit
set_option linter.unusedVariables false

/-- what holds behind the first loop's rounds -/
def CvInv (w w2 wr : World) (X Y : Int) : Prop :=
  Below w.heap.size w wr ∧ w2.heap.size < wr.heap.size ∧ wr.cell? ⟨w2.heap.size, 0, none⟩ = some (.int .i64 X) ∧ wr.cell? ⟨w2.heap.size, 1, none⟩ = some (.int .i64 Y)
theorem CvInv.alloc {w w2 wr : World} {X Y : Int} (h : CvInv w w2 wr X Y) (hw : w.heap.size ≤ w2.heap.size) (o : Obj) : CvInv w w2 (wr.alloc o) X Y := by
  obtain ⟨hbel, hz, c0, c1⟩ := h
  refine ⟨hbel.alloc (by omega) _, by simp; omega, ?_, ?_⟩
  · simp [go_sem, hz, c0]
  · simp [go_sem, hz, c1]
theorem CvInv.step {w w2 wr wx : World} {X Y : Int} (h : CvInv w w2 wr X Y) (hw : w.heap.size ≤ w2.heap.size) (hb : Below wr.heap.size wr wx) : CvInv w w2 wx X Y := by
  obtain ⟨hbel, hz, c0, c1⟩ := h
  exact ⟨hbel.trans (hb.mono (by omega)), by have := hb.size; omega, keep hb hz c0, keep hb hz c1⟩
theorem CvInv.drewN {w w2 wr : World} {X Y : Int} (h : CvInv w w2 wr X Y) (k : Nat) : CvInv w w2 (wr.drewN k) X Y := by
  obtain ⟨hbel, hz, c0, c1⟩ := h
  exact ⟨below_drewN hbel k, hz, c0, c1⟩

set_option maxHeartbeats 1000000 in
theorem covers_yes (b off n cap : Nat) (s0 s1 : Int) (t : List (Int × Int)) (w : World) (hl : t.length + 1 = n) (hn : n ≤ cap) (hcap : cap ≤ maxLen) (hb : b < w.heap.size) (hr : SpanAt w b off ((s0, s1) :: t)) (hall : allB ((s0, s1) :: t) = true) (h40 : n ≤ 40) :
    Calls Try.prog 5 #[.slice (some ⟨b, off, none⟩) n cap] w fun e w' => e = .returned (.bool true) ∧ Below w.heap.size w w' := by
  have hcap0 := hcap
  unfold maxLen at hcap
  have HR := Lib.hid hr
  have HL := Lib.hid hl
  have HA := Lib.hid hall
  have hn1 : 0 < (n : Int) := by omega
  have hn0 : 0 < n := by omega
  have h40' : ¬ (40 < (n : Int)) := by omega
  clear hr hl hall
  go_enter Try.func5, Try.ntmps5
  go_wp2_with fail
  refine (spans_any _).mono ?_
  rintro e w1 ⟨rfl, h01⟩
  go_wp2_with fail
  refine (cover_some b off n cap s0 s1 t _ HL.out hn hcap0 (Nat.lt_of_lt_of_le hb h01.size) (HR.out.below h01 hb) HA.out).mono ?_
  rintro e w2 ⟨rfl, h12⟩
  have h02 := after h01 h12
  have z02 := h02.size
  obtain ⟨HH, HF, HT⟩ := covers_law s0 s1 t HA.out
  generalize hX : covF s0 t = X at *
  generalize hY : covT s1 t = Y at *
  generalize hS : (s0, s1) :: t = l at *
  have HHH := Lib.hid HH
  have HFF := Lib.hid HF
  have HTT := Lib.hid HT
  have HLL := Lib.hid (show l.length = n by rw [← hS]; simp; exact HL.out)
  clear hX hY hS HH HF HT HL
  go_wp2_with fail
  go_loopw [5, 6, 28] (fun g t i wr => ∃ k : Nat, k ≤ n ∧ i = .int .i64 k ∧ g = .bool (allB (l.take k)) ∧ t = .int .i64 (sumI (l.take k)) ∧ CvInv w w2 wr X Y) (fun _ _ i _ => n - (intOf i).toNat)
  case atStart => exact ⟨0, Nat.zero_le _, rfl, rfl, rfl, by repeat (first | exact Below.refl _ _ | apply Below.setCell _ (by first | omega | (simp <;> omega)) | apply Below.alloc _ (by first | omega | (simp <;> omega)) | exact h02 | refine after ?_ h02), by simp, by simp [go_sem], by simp [go_sem]⟩
  case round =>
    obtain ⟨k, hk, rfl, rfl, rfl, hinv⟩ := hrel
    have HI := Lib.hid hinv
    obtain ⟨hbel, hz, c0, c1⟩ := hinv
    have hsz := hbel.size
    by_cases hlt : k < n
    · have hkl : k < l.length := by rw [HLL.out]; exact hlt
      obtain ⟨x0, x1⟩ := (HR.out.below hbel hb) k hkl
      have b1 := lenI_bd l[k].1 l[k].2
      have b2 := sumI_bd (l.take k)
      have b3 : ((l.take k).length : Int) ≤ k := by have := List.length_take_le k l; omega
      have b4 : sumI (l.take k) ≤ 65536 * (k : Int) := by omega
      have b5 := b2.1
      have E := Lib.hid (sumI_snoc l k hkl)
      have A := Lib.hid (allB_snoc l k hkl)
      clear b1 b2 b3
      cases hm : mayB l[k].1 l[k].2 <;> cases ha : allB (l.take k)
      all_goals
        have A2 := Lib.hid (by have := A.out; rwa [hm, ha] at this)
        clear A
      · have E2 := Lib.hid (by have := E.out; rwa [lenI_no hm, Int.add_zero] at this)
        clear E
        go_wp2_with (go_at_call 15; refine (may_any _ _ _).mono ?_; rintro e w' ⟨rfl, rfl⟩)
        go_roundw
        case rel => exact ⟨k + 1, by omega, by go_num, by rw [A2.out]; rfl, by rw [E2.out], (HI.out.alloc z02 _).alloc z02 _⟩
        case measure => simp [intOf]; omega
      · have E2 := Lib.hid (by have := E.out; rwa [lenI_no hm, Int.add_zero] at this)
        clear E
        go_wp2_with (go_at_call 15; refine (may_any _ _ _).mono ?_; rintro e w' ⟨rfl, rfl⟩)
        go_roundw
        case rel => exact ⟨k + 1, by omega, by go_num, by rw [A2.out]; rfl, by rw [E2.out], ((HI.out.alloc z02 _).alloc z02 _).alloc z02 _⟩
        case measure => simp [intOf]; omega
      · obtain ⟨m1, m2, m3⟩ := mayB_iff.1 hm
        have E2 := Lib.hid (by have := E.out; rwa [lenI_yes hm] at this)
        clear E
        go_wp2_with (go_at_call 15; refine (may_any _ _ _).mono ?_; rintro e w' ⟨rfl, rfl⟩)
        go_roundw
        case rel => exact ⟨k + 1, by omega, by go_num, by rw [A2.out]; rfl, by rw [E2.out], (HI.out.alloc z02 _).alloc z02 _⟩
        case measure => simp [intOf]; omega
      · obtain ⟨m1, m2, m3⟩ := mayB_iff.1 hm
        have E2 := Lib.hid (by have := E.out; rwa [lenI_yes hm] at this)
        clear E
        go_wp2_with (go_at_call 15; refine (may_any _ _ _).mono ?_; rintro e w' ⟨rfl, rfl⟩)
        go_roundw
        case rel => exact ⟨k + 1, by omega, by go_num, by rw [A2.out]; rfl, by rw [E2.out], ((HI.out.alloc z02 _).alloc z02 _).alloc z02 _⟩
        case measure => simp [intOf]; omega
    · have hkl : k = l.length := by have := HLL.out; omega
      have E1 := Lib.hid (show allB (l.take k) = true by rw [hkl, List.take_length]; exact HA.out)
      have E2 := Lib.hid (show sumI (l.take k) = sumI l by rw [hkl, List.take_length])
      clear hkl
      rw [E1.out, E2.out]
      go_wp2_with fail
      refine (sum_some b off n cap l _ HLL.out hn hcap0 (Nat.lt_of_lt_of_le hb hsz) (HR.out.below hbel hb) (by omega)).mono ?_
      rintro e w3 ⟨rfl, h23⟩
      have HI3 := Lib.hid (HI.out.step z02 h23)
      clear HI hbel hz c0 c1 h23
      obtain ⟨hbel, hz, c0, c1⟩ := HI3.out
      go_wp2_with fail
      go_loopw [9, 10, 63] (fun p q i wr => ∃ k : Nat, k ≤ n ∧ i = .int .i64 k ∧ p = .bool (anyF X (l.take k)) ∧ q = .bool (anyT Y (l.take k)) ∧ CvInv w w2 wr X Y) (fun _ _ i _ => n - (intOf i).toNat)
      case atStart => exact ⟨0, Nat.zero_le _, rfl, rfl, rfl, HI3.out⟩
      case round =>
        clear HI3 hbel hz c0 c1
        obtain ⟨k, hk, rfl, rfl, rfl, hinv⟩ := hrel
        have HI := Lib.hid hinv
        obtain ⟨hbel, hz, c0, c1⟩ := hinv
        have hsz := hbel.size
        by_cases hlt : k < n
        · have hkl : k < l.length := by rw [HLL.out]; exact hlt
          obtain ⟨x0, x1⟩ := (HR.out.below hbel hb) k hkl
          have HK := Lib.hid (HHH.out l[k] (List.getElem_mem hkl))
          have A := Lib.hid (anyF_snoc X l k hkl)
          have B := Lib.hid (anyT_snoc Y l k hkl)
          cases hp : anyF X (l.take k) <;> cases hq : anyT Y (l.take k)
          all_goals
            have A2 := Lib.hid (by have := A.out; rwa [hp] at this)
            have B2 := Lib.hid (by have := B.out; rwa [hq] at this)
            clear A B hp hq
            go_wp2_with fail
            refine (holds_any _ _ _ _ _).mono ?_
            rw [HK.out]
            rintro e w4 ⟨rfl, h34⟩
            obtain ⟨h34', y0, y1, z34⟩ := box2 h34
            clear h34
            have HI4 := Lib.hid (HI.out.step z02 h34')
            obtain ⟨hbel4, hz4, d0, d1⟩ := HI4.out
            go_wp2_with fail
            go_quiet (fail)
            go_wp2_with fail
            go_roundw
            case rel => exact ⟨k + 1, by omega, by go_num, by rw [A2.out]; rfl, by rw [B2.out]; rfl, HI4.out.drewN _⟩
            case measure => simp [intOf]; omega
        · have hkl : k = l.length := by have := HLL.out; omega
          have E1 := Lib.hid (show anyF X (l.take k) = true by rw [hkl, List.take_length]; exact HFF.out)
          have E2 := Lib.hid (show anyT Y (l.take k) = true by rw [hkl, List.take_length]; exact HTT.out)
          clear hkl
          rw [E1.out, E2.out]
          go_wp2_with fail
          go_ret
          exact ⟨rfl, hbel⟩

end Go.Proofs.Ytcmeeehhhnmfgaa
