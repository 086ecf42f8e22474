/- The walk of HeapFull. -/
import Derived.Test.YtiklcojcojbcgaaHpJ
import Derived.Laws.IdiomStrings
namespace Go.Proofs.Ytiklcojcojbcgaa
open Go Go.RowKit
set_option linter.unusedVariables false
set_option linter.unusedSimpArgs false

theorem infoU8 : (Try.prog.info? 5).map (fun i => (i.zero, i.size, i.bytes)) = some (some (.int .u8 0), 1, 1) := by kernel_rfl
/-- a text of so many noughts -/
def repN (m : Nat) : ByteArray := ⟨(List.replicate m (0 : UInt8)).toArray⟩
theorem repN_size (m : Nat) : (repN m).size = m := by unfold repN ByteArray.size; simp
theorem made_text (m : Nat) (hm : m ≤ 100000) (w : World) : ∃ W1, (Instr.makeSlice 53 (.int .i64 (m : Int)) (.int .i64 (m : Int))).run Try.prog w = .ok (.slice (some ⟨w.heap.size, 0, none⟩) m m) W1 ∧ Below w.heap.size w W1 ∧
    (convert 53 9 (.slice (some ⟨w.heap.size, 0, none⟩) m m)).run Try.prog W1 = .ok (.string (repN m)) W1 := by
  obtain ⟨i0, hi, hz, hs, hb⟩ := info_parts infoU8
  have hr := run_make (P := Try.prog) w 53 5 i0 _ Try.underlying53 hi hz .i64 .i64 m m (by omega) (Int.le_refl _) (by rw [hb]; omega) (by omega)
  simp only [Int.toNat_natCast, hs, Nat.mul_one] at hr
  refine ⟨_, hr, (Below.refl _ _).alloc (Nat.le_refl _) _, ?_⟩
  have := run_convert_bytes_back (P := Try.prog) (w.alloc (.cells (madeCells (Value.int .u8 0).cells m) 5)) 53 9 5 ⟨w.heap.size, 0, none⟩ m (List.replicate m (0 : UInt8)) Try.underlying53 Try.underlying5 Try.underlying9 (fun j hj => by
    rw [List.length_replicate] at hj
    rw [add_at, Nat.zero_add, cell_at (heap_alloc_new w _)]
    unfold madeCells
    rw [Array.getElem?_map, Array.getElem?_range, if_pos hj]
    simp [Value.cells, Nat.mod_one])
  rw [List.length_replicate] at this
  exact this

def Keeps : Prop := ∀ w : World, Calls Try.prog 5 #[] w fun e w' => e = .returned (.bool true) ∧ Below w.heap.size w w'
def YesP (w : World) (e : Ending) (w' : World) : Prop := e = .returned (.bool true) ∧ Below w.heap.size w w'

set_option maxHeartbeats 4000000 in
theorem full_out (HK : Keeps) (o c t : Int) (w : World) (h : ¬ ((0 ≤ o ∧ o ≤ 4200) ∧ (0 ≤ c ∧ c ≤ 70000) ∧ 0 ≤ t ∧ t ≤ 2000)) : Calls Try.prog 4 #[.int .i64 o, .int .i64 c, .int .i64 t] w (YesP w) := by
  have HKH := Lib.hid HK
  clear HK
  by_cases h1 : o < 0
  · clear h
    go_enter Try.func4, Try.ntmps4
    go_wp2_with fail
    refine (HKH.out _).mono ?_
    rintro e w1 ⟨rfl, h1'⟩
    go_wp2_with fail
    go_ret
    exact ⟨rfl, h1'⟩
  by_cases h2 : 4200 < o
  · clear h
    have d1 : decide (o < 0) = false := decide_eq_false h1
    go_enter Try.func4, Try.ntmps4
    go_wp2_with fail
    refine (HKH.out _).mono ?_
    rintro e w1 ⟨rfl, h1'⟩
    go_wp2_with fail
    go_ret
    exact ⟨rfl, h1'⟩
  by_cases h3 : c < 0
  · clear h
    have d1 : decide (o < 0) = false := decide_eq_false h1
    have d2 : decide (4200 < o) = false := decide_eq_false h2
    go_enter Try.func4, Try.ntmps4
    go_wp2_with fail
    refine (HKH.out _).mono ?_
    rintro e w1 ⟨rfl, h1'⟩
    go_wp2_with fail
    go_ret
    exact ⟨rfl, h1'⟩
  by_cases h4 : 70000 < c
  · clear h
    have d1 : decide (o < 0) = false := decide_eq_false h1
    have d2 : decide (4200 < o) = false := decide_eq_false h2
    have d3 : decide (c < 0) = false := decide_eq_false h3
    go_enter Try.func4, Try.ntmps4
    go_wp2_with fail
    refine (HKH.out _).mono ?_
    rintro e w1 ⟨rfl, h1'⟩
    go_wp2_with fail
    go_ret
    exact ⟨rfl, h1'⟩
  by_cases h5 : t < 0
  · clear h
    have d1 : decide (o < 0) = false := decide_eq_false h1
    have d2 : decide (4200 < o) = false := decide_eq_false h2
    have d3 : decide (c < 0) = false := decide_eq_false h3
    have d4 : decide (70000 < c) = false := decide_eq_false h4
    go_enter Try.func4, Try.ntmps4
    go_wp2_with fail
    refine (HKH.out _).mono ?_
    rintro e w1 ⟨rfl, h1'⟩
    go_wp2_with fail
    go_ret
    exact ⟨rfl, h1'⟩
  · have h6 : 2000 < t := by omega
    clear h
    have d1 : decide (o < 0) = false := decide_eq_false h1
    have d2 : decide (4200 < o) = false := decide_eq_false h2
    have d3 : decide (c < 0) = false := decide_eq_false h3
    have d4 : decide (70000 < c) = false := decide_eq_false h4
    have d5 : decide (t < 0) = false := decide_eq_false h5
    go_enter Try.func4, Try.ntmps4
    go_wp2_with fail
    refine (HKH.out _).mono ?_
    rintro e w1 ⟨rfl, h1'⟩
    go_wp2_with fail
    go_ret
    exact ⟨rfl, h1'⟩

/-- objects without fields -/
def full_th : Th := ⟨false, ⟨#[65]⟩, (0, ⟨#[]⟩, 0, ⟨#[]⟩), []⟩
structure FInv (w1 wr : World) (k : Nat) : Prop where
  bel : Below w1.heap.size w1 wr
  hp : ∃ L v, HpM wr w1.heap.size w1.heap.size L 0 v ∧ L.length = min k 4096

set_option maxRecDepth 100000 in
set_option maxHeartbeats 8000000 in
theorem full_in (HK : Keeps) (o c t : Nat) (w : World) (ho : o ≤ 4200) (hc : c ≤ 70000) (ht : t ≤ 2000) : Calls Try.prog 4 #[.int .i64 (o : Nat), .int .i64 (c : Nat), .int .i64 (t : Nat)] w (YesP w) := by
  have HKH := Lib.hid HK
  clear HK
  have d1 : decide ((o : Int) < 0) = false := decide_eq_false (by omega)
  have d2 : decide ((4200 : Int) < (o : Int)) = false := decide_eq_false (by omega)
  have d3 : decide ((c : Int) < 0) = false := decide_eq_false (by omega)
  have d4 : decide ((70000 : Int) < (c : Int)) = false := decide_eq_false (by omega)
  have d5 : decide ((t : Int) < 0) = false := decide_eq_false (by omega)
  have d6 : decide ((2000 : Int) < (t : Int)) = false := decide_eq_false (by omega)
  go_enter Try.func4, Try.ntmps4
  go_wp2_with fail
  refine (HKH.out _).mono ?_
  rintro e w1 ⟨rfl, hb1⟩
  have B1 := Lib.hid hb1
  clear hb1 HKH
  go_wp2_with fail
  go_loopw [46] (fun i wr => ∃ k : Nat, k ≤ o ∧ i = .int .i64 k ∧ FInv w1 wr k) (fun i _ => o - (intOf i).toNat)
  case atStart => exact ⟨0, Nat.zero_le _, rfl, (Below.refl _ _).alloc (Nat.le_refl _) _, [], _, HpM.new w1, by simp⟩
  case round =>
    obtain ⟨k, hk, rfl, hinv⟩ := hrel
    have FI := Lib.hid hinv
    clear hinv
    have hsw : w1.heap.size ≤ wr.heap.size := FI.out.bel.size
    obtain ⟨L, v, hp, hL⟩ := FI.out.hp
    have HP := Lib.hid hp
    have HL := Lib.hid hL
    clear hp hL
    by_cases hlt : k < o
    · by_cases h4 : k < 4096
      · have h4' : (k : Int) < 4096 := by omega
        have HO := Lib.hid (object_yes w1.heap.size w1.heap.size 0 L v ⟨#[65]⟩ none [] 0 wr HP.out hsw (by have := HL.out; omega) (by simp) (Nat.le_of_ble_eq_true rfl) (fun h => absurd h (by simp)) (fun t ht => by cases ht))
        go_wp2_with fail
        refine HO.out.mono ?_
        rintro e w2 ⟨rfl, hb, ⟨g, v', hp, hg⟩, hkt⟩
        have HZ : Hid (FInv w1 (w2.alloc (.cells #[.int .i64 5, .int .i64 (L.length : Nat), .string ⟨#[]⟩] 32)) (k + 1)) := Lib.hid (by
          have hb2 : Below w2.heap.size w2 (w2.alloc (.cells #[.int .i64 5, .int .i64 (L.length : Nat), .string ⟨#[]⟩] 32)) := (Below.refl _ _).alloc (Nat.le_refl _) _
          have hb3 := FI.out.bel.trans hb
          exact ⟨hb3.trans (hb2.mono hb3.size), _, v', hp.step hb2, by rw [List.length_append, HL.out]; simp; omega⟩)
        clear hb hp hg hkt HO
        go_wp2_with fail
        go_roundw
        case rel => exact ⟨k + 1, by omega, by go_num, HZ.out⟩
        case measure => simp [intOf]; omega
      · have h4' : ¬ (k : Int) < 4096 := by omega
        have hro : (decide (L.length < 4096) && decide (((0 : Nat) : Int) ≤ 65536 - ((0 : Nat) : Int))) = false := by
          have : ¬ L.length < 4096 := by rw [HL.out]; omega
          simp [this]
        have HO := Lib.hid (object_no w1.heap.size w1.heap.size 0 L v ⟨#[65]⟩ none 0 0 wr HP.out hro (by omega))
        clear hro
        go_wp2_with fail
        refine HO.out.mono ?_
        rintro e w2 ⟨rfl, hb⟩
        have HZ : Hid (FInv w1 (w2.alloc (.cells #[.int .i64 0, .int .i64 0, .string ⟨#[]⟩] 32)) (k + 1)) := Lib.hid (by
          have hb2 : Below w2.heap.size w2 (w2.alloc (.cells #[.int .i64 0, .int .i64 0, .string ⟨#[]⟩] 32)) := (Below.refl _ _).alloc (Nat.le_refl _) _
          have hb3 := after hb hb2
          exact ⟨FI.out.bel.trans (hb3.mono hsw), _, v, HP.out.step hb3, by rw [HL.out]; omega⟩)
        clear hb HO
        go_wp2_with fail
        go_roundw
        case rel => exact ⟨k + 1, by omega, by go_num, HZ.out⟩
        case measure => simp [intOf]; omega
    · have hk' : k = o := by omega
      subst hk'
      clear HP HL
      have BR := Lib.hid (after B1.out FI.out.bel)
      clear FI B1
      have P2 : Hid (HpM (wr.alloc (.cells #[.slice none 0 0, .int .i64 0] 26)) wr.heap.size wr.heap.size [] 0 (.slice none 0 0)) := Lib.hid (HpM.new wr)
      have hB2 : wr.heap.size ≤ (wr.alloc (.cells #[.slice none 0 0, .int .i64 0] 26)).heap.size := by simp
      have BR2 : Hid (Below w.heap.size w (wr.alloc (.cells #[.slice none 0 0, .int .i64 0] 26))) := Lib.hid (BR.out.alloc BR.out.size _)
      have hsr : w.heap.size ≤ wr.heap.size := BR.out.size
      clear hsw
      by_cases hc6 : c ≤ 65536
      · have hci : decide ((c : Int) ≤ 65536) = true := decide_eq_true (by omega)
        have HO := Lib.hid (array_yes wr.heap.size wr.heap.size 0 [] (.slice none 0 0) 1 ⟨#[]⟩ 0 ⟨#[32]⟩ c _ P2.out hB2 (Nat.succ_pos _) (by omega) (Nat.zero_le _) (Nat.le_of_ble_eq_true rfl))
        go_wp2_with fail
        refine HO.out.mono ?_
        rintro e w3 ⟨rfl, hb, ⟨g, v', hp, hg⟩, hkt⟩
        simp only [List.nil_append, List.length_replicate, Nat.zero_add] at hp
        have hb2 : Below w3.heap.size w3 (w3.alloc (.cells #[.int .i64 5, .int .i64 0, .string ⟨#[]⟩] 32)) := (Below.refl _ _).alloc (Nat.le_refl _) _
        have hbr3 := hb.size
        have P3 := Lib.hid (hp.step hb2)
        have BR3 := Lib.hid ((BR2.out.trans (hb.mono hsr)).trans (hb2.mono (by simp at hbr3; omega)))
        have hB3 : wr.heap.size ≤ (w3.alloc (.cells #[.int .i64 5, .int .i64 0, .string ⟨#[]⟩] 32)).heap.size := by simp at *; omega
        clear hb hp hg hkt HO P2 hB2 BR2 hb2 hbr3
        by_cases hc7 : c < 65536
        · have hcj : decide ((c : Int) < 65536) = true := decide_eq_true (by omega)
          have HO := Lib.hid (array_yes wr.heap.size wr.heap.size c _ v' 1 ⟨#[]⟩ 0 ⟨#[32]⟩ 1 _ P3.out hB3 (Nat.succ_lt_succ (Nat.succ_pos _)) (by omega) (Nat.zero_le _) (Nat.le_of_ble_eq_true rfl))
          go_wp2_with fail
          refine HO.out.mono ?_
          rintro e w4 ⟨rfl, hb, hp, hkt⟩
          have BR4 := Lib.hid (BR3.out.trans (hb.mono hsr))
          clear hb hp hkt HO P3 hB3 BR3
          obtain ⟨V, mk, vb, cv⟩ := made_text t (by omega) (w4.alloc (.cells #[.int .i64 5, .int .i64 1, .string ⟨#[]⟩] 32))
          have BR5 := Lib.hid (after (BR4.out.alloc BR4.out.size (.cells #[.int .i64 5, .int .i64 1, .string ⟨#[]⟩] 32)) vb)
          simp only [World.size_alloc] at mk cv
          have hA : (repN t).size = t := repN_size t
          generalize repN t = a at *
          clear vb BR4 hc6 hc ho d1 d2 d3 d4 d5 d6
          try clear hc7
          have hs1 : ¬ 9223372036854775807 < a.size + 1 := by omega
          have hs2 : ¬ 9223372036854775807 < a.size + a.size := by omega
          have wr2 : IntKind.i64.wrap (2 * (t : Int)) = 2 * (t : Int) := IntWalk.i64_in _ ⟨by omega, by omega⟩
          have hx1 : (⟨#[120]⟩ : ByteArray).size = 1 := rfl
          have HA := Lib.hid hA
          clear hA
          by_cases t1 : t ≤ 512
          · have e1 : (t : Int) < 1024 := by omega
            have e2 : 2 * (t : Int) ≤ 1024 := by omega
            go_wp2_with fail
            refine (join_yes a ⟨#[120]⟩ _ (by rw [HA.out, hx1]; omega)).mono ?_
            rintro e w6 ⟨rfl, h6⟩
            clear hci
            try clear hcj
            have BR6 := Lib.hid (after BR5.out h6)
            go_wp2_with fail
            refine (join_yes a a _ (by rw [HA.out]; omega)).mono ?_
            rintro e w7 ⟨rfl, h7⟩
            have BR7 := Lib.hid (after BR6.out h7)
            clear h6 h7
            go_wp2_with fail
            go_ret
            exact ⟨by first | rfl | simp, BR7.out⟩
          by_cases t2 : t < 1024
          · have e1 : (t : Int) < 1024 := by omega
            have e2 : ¬ 2 * (t : Int) ≤ 1024 := by omega
            go_wp2_with fail
            refine (join_yes a ⟨#[120]⟩ _ (by rw [HA.out, hx1]; omega)).mono ?_
            rintro e w6 ⟨rfl, h6⟩
            clear hci
            try clear hcj
            have BR6 := Lib.hid (after BR5.out h6)
            go_wp2_with fail
            refine (join_no a a _ (by rw [HA.out]; omega) (by rw [HA.out]; omega) (by rw [HA.out]; omega)).mono ?_
            rintro e w7 ⟨rfl, h7⟩
            have BR7 := Lib.hid (after BR6.out h7)
            clear h6 h7
            go_wp2_with fail
            go_ret
            exact ⟨by first | rfl | simp, BR7.out⟩
          · have e1 : ¬ (t : Int) < 1024 := by omega
            have e2 : ¬ 2 * (t : Int) ≤ 1024 := by omega
            go_wp2_with fail
            refine (join_no a ⟨#[120]⟩ _ (by rw [HA.out]; omega) (by rw [hx1]; omega) (by rw [HA.out, hx1]; omega)).mono ?_
            rintro e w6 ⟨rfl, h6⟩
            clear hci
            try clear hcj
            have BR6 := Lib.hid (after BR5.out h6)
            go_wp2_with fail
            refine (join_no a a _ (by rw [HA.out]; omega) (by rw [HA.out]; omega) (by rw [HA.out]; omega)).mono ?_
            rintro e w7 ⟨rfl, h7⟩
            have BR7 := Lib.hid (after BR6.out h7)
            clear h6 h7
            go_wp2_with fail
            go_ret
            exact ⟨by first | rfl | simp, BR7.out⟩
        · have hcj : decide ((c : Int) < 65536) = false := decide_eq_false (by omega)
          have hc8 : c = 65536 := by omega
          have HO := Lib.hid (array_long wr.heap.size wr.heap.size c _ v' 1 ⟨#[]⟩ 0 ⟨#[32]⟩ 1 _ P3.out (by omega) (by rw [Bool.and_eq_false_iff]; exact .inr (decide_eq_false (by omega))))
          clear hc8
          go_wp2_with fail
          refine HO.out.mono ?_
          rintro e w4 ⟨rfl, hb⟩
          have BR4 := Lib.hid (BR3.out.trans (hb.mono BR3.out.size))
          clear hb HO P3 hB3 BR3
          obtain ⟨V, mk, vb, cv⟩ := made_text t (by omega) (w4.alloc (.cells #[.int .i64 0, .int .i64 0, .string ⟨#[]⟩] 32))
          have BR5 := Lib.hid (after (BR4.out.alloc BR4.out.size (.cells #[.int .i64 0, .int .i64 0, .string ⟨#[]⟩] 32)) vb)
          simp only [World.size_alloc] at mk cv
          have hA : (repN t).size = t := repN_size t
          generalize repN t = a at *
          clear vb BR4 hc6 hc ho d1 d2 d3 d4 d5 d6
          try clear hc7
          have hs1 : ¬ 9223372036854775807 < a.size + 1 := by omega
          have hs2 : ¬ 9223372036854775807 < a.size + a.size := by omega
          have wr2 : IntKind.i64.wrap (2 * (t : Int)) = 2 * (t : Int) := IntWalk.i64_in _ ⟨by omega, by omega⟩
          have hx1 : (⟨#[120]⟩ : ByteArray).size = 1 := rfl
          have HA := Lib.hid hA
          clear hA
          by_cases t1 : t ≤ 512
          · have e1 : (t : Int) < 1024 := by omega
            have e2 : 2 * (t : Int) ≤ 1024 := by omega
            go_wp2_with fail
            refine (join_yes a ⟨#[120]⟩ _ (by rw [HA.out, hx1]; omega)).mono ?_
            rintro e w6 ⟨rfl, h6⟩
            clear hci
            try clear hcj
            have BR6 := Lib.hid (after BR5.out h6)
            go_wp2_with fail
            refine (join_yes a a _ (by rw [HA.out]; omega)).mono ?_
            rintro e w7 ⟨rfl, h7⟩
            have BR7 := Lib.hid (after BR6.out h7)
            clear h6 h7
            go_wp2_with fail
            go_ret
            exact ⟨by first | rfl | simp, BR7.out⟩
          by_cases t2 : t < 1024
          · have e1 : (t : Int) < 1024 := by omega
            have e2 : ¬ 2 * (t : Int) ≤ 1024 := by omega
            go_wp2_with fail
            refine (join_yes a ⟨#[120]⟩ _ (by rw [HA.out, hx1]; omega)).mono ?_
            rintro e w6 ⟨rfl, h6⟩
            clear hci
            try clear hcj
            have BR6 := Lib.hid (after BR5.out h6)
            go_wp2_with fail
            refine (join_no a a _ (by rw [HA.out]; omega) (by rw [HA.out]; omega) (by rw [HA.out]; omega)).mono ?_
            rintro e w7 ⟨rfl, h7⟩
            have BR7 := Lib.hid (after BR6.out h7)
            clear h6 h7
            go_wp2_with fail
            go_ret
            exact ⟨by first | rfl | simp, BR7.out⟩
          · have e1 : ¬ (t : Int) < 1024 := by omega
            have e2 : ¬ 2 * (t : Int) ≤ 1024 := by omega
            go_wp2_with fail
            refine (join_no a ⟨#[120]⟩ _ (by rw [HA.out]; omega) (by rw [hx1]; omega) (by rw [HA.out, hx1]; omega)).mono ?_
            rintro e w6 ⟨rfl, h6⟩
            clear hci
            try clear hcj
            have BR6 := Lib.hid (after BR5.out h6)
            go_wp2_with fail
            refine (join_no a a _ (by rw [HA.out]; omega) (by rw [HA.out]; omega) (by rw [HA.out]; omega)).mono ?_
            rintro e w7 ⟨rfl, h7⟩
            have BR7 := Lib.hid (after BR6.out h7)
            clear h6 h7
            go_wp2_with fail
            go_ret
            exact ⟨by first | rfl | simp, BR7.out⟩
      · have hci : decide ((c : Int) ≤ 65536) = false := decide_eq_false (by omega)
        have HO := Lib.hid (array_long wr.heap.size wr.heap.size 0 [] (.slice none 0 0) 1 ⟨#[]⟩ 0 ⟨#[32]⟩ (c : Nat) _ P2.out (by omega) (by rw [Bool.and_eq_false_iff]; exact .inr (decide_eq_false (by omega))))
        go_wp2_with fail
        refine HO.out.mono ?_
        rintro e w3 ⟨rfl, hb⟩
        have hb2 : Below w3.heap.size w3 (w3.alloc (.cells #[.int .i64 0, .int .i64 0, .string ⟨#[]⟩] 32)) := (Below.refl _ _).alloc (Nat.le_refl _) _
        have hbr3 := hb.size
        have hb3 := after hb hb2
        have P3 := Lib.hid (P2.out.step hb3)
        have BR3 := Lib.hid (after BR2.out hb3)
        have hB3 : wr.heap.size ≤ (w3.alloc (.cells #[.int .i64 0, .int .i64 0, .string ⟨#[]⟩] 32)).heap.size := by simp at *; omega
        clear hb HO P2 hB2 BR2 hb2 hbr3 hb3
        have HO := Lib.hid (array_yes wr.heap.size wr.heap.size 0 [] (.slice none 0 0) 1 ⟨#[]⟩ 0 ⟨#[32]⟩ 1 _ P3.out hB3 (Nat.succ_pos _) (by omega) (Nat.zero_le _) (Nat.le_of_ble_eq_true rfl))
        go_wp2_with fail
        refine HO.out.mono ?_
        rintro e w4 ⟨rfl, hb, hp, hkt⟩
        have BR4 := Lib.hid (BR3.out.trans (hb.mono hsr))
        clear hb hp hkt HO P3 hB3 BR3
        obtain ⟨V, mk, vb, cv⟩ := made_text t (by omega) (w4.alloc (.cells #[.int .i64 5, .int .i64 0, .string ⟨#[]⟩] 32))
        have BR5 := Lib.hid (after (BR4.out.alloc BR4.out.size (.cells #[.int .i64 5, .int .i64 0, .string ⟨#[]⟩] 32)) vb)
        simp only [World.size_alloc] at mk cv
        have hA : (repN t).size = t := repN_size t
        generalize repN t = a at *
        clear vb BR4 hc6 hc ho d1 d2 d3 d4 d5 d6
        try clear hc7
        have hs1 : ¬ 9223372036854775807 < a.size + 1 := by omega
        have hs2 : ¬ 9223372036854775807 < a.size + a.size := by omega
        have wr2 : IntKind.i64.wrap (2 * (t : Int)) = 2 * (t : Int) := IntWalk.i64_in _ ⟨by omega, by omega⟩
        have hx1 : (⟨#[120]⟩ : ByteArray).size = 1 := rfl
        have HA := Lib.hid hA
        clear hA
        by_cases t1 : t ≤ 512
        · have e1 : (t : Int) < 1024 := by omega
          have e2 : 2 * (t : Int) ≤ 1024 := by omega
          go_wp2_with fail
          refine (join_yes a ⟨#[120]⟩ _ (by rw [HA.out, hx1]; omega)).mono ?_
          rintro e w6 ⟨rfl, h6⟩
          clear hci
          try clear hcj
          have BR6 := Lib.hid (after BR5.out h6)
          go_wp2_with fail
          refine (join_yes a a _ (by rw [HA.out]; omega)).mono ?_
          rintro e w7 ⟨rfl, h7⟩
          have BR7 := Lib.hid (after BR6.out h7)
          clear h6 h7
          go_wp2_with fail
          go_ret
          exact ⟨by first | rfl | simp, BR7.out⟩
        by_cases t2 : t < 1024
        · have e1 : (t : Int) < 1024 := by omega
          have e2 : ¬ 2 * (t : Int) ≤ 1024 := by omega
          go_wp2_with fail
          refine (join_yes a ⟨#[120]⟩ _ (by rw [HA.out, hx1]; omega)).mono ?_
          rintro e w6 ⟨rfl, h6⟩
          clear hci
          try clear hcj
          have BR6 := Lib.hid (after BR5.out h6)
          go_wp2_with fail
          refine (join_no a a _ (by rw [HA.out]; omega) (by rw [HA.out]; omega) (by rw [HA.out]; omega)).mono ?_
          rintro e w7 ⟨rfl, h7⟩
          have BR7 := Lib.hid (after BR6.out h7)
          clear h6 h7
          go_wp2_with fail
          go_ret
          exact ⟨by first | rfl | simp, BR7.out⟩
        · have e1 : ¬ (t : Int) < 1024 := by omega
          have e2 : ¬ 2 * (t : Int) ≤ 1024 := by omega
          go_wp2_with fail
          refine (join_no a ⟨#[120]⟩ _ (by rw [HA.out]; omega) (by rw [hx1]; omega) (by rw [HA.out, hx1]; omega)).mono ?_
          rintro e w6 ⟨rfl, h6⟩
          clear hci
          try clear hcj
          have BR6 := Lib.hid (after BR5.out h6)
          go_wp2_with fail
          refine (join_no a a _ (by rw [HA.out]; omega) (by rw [HA.out]; omega) (by rw [HA.out]; omega)).mono ?_
          rintro e w7 ⟨rfl, h7⟩
          have BR7 := Lib.hid (after BR6.out h7)
          clear h6 h7
          go_wp2_with fail
          go_ret
          exact ⟨by first | rfl | simp, BR7.out⟩
end Go.Proofs.Ytiklcojcojbcgaa
