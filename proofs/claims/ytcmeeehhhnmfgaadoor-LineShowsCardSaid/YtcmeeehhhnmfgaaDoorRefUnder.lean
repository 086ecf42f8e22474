/- The document's own answer: the signs under a line. -/
import Derived.Test.YtcmeeehhhnmfgaaDoorLinePoint
namespace Go.Proofs.YtcmeeehhhnmfgaaDoor
open Go.RowKit
set_option linter.unusedVariables false

def repS (j : Nat) : ByteArray := ⟨(List.replicate j 94).toArray⟩
theorem repS_zero (P : ByteArray) : P ++ repS 0 = P := by
  apply ByteArray.ext; rw [ByteArray.data_append]; simp [repS]
theorem repS_succ (P : ByteArray) (j : Nat) : P ++ repS (j + 1) = P ++ repS j ++ ⟨#[94]⟩ := by
  apply ByteArray.ext
  simp only [ByteArray.data_append]
  apply Array.ext'
  simp [repS, List.replicate_succ']
theorem blankS_succ (x : ByteArray) (k : Nat) (h : k < x.size) : blankS (x.extract 0 (k + 1)) = blankS (x.extract 0 k) ++ ⟨#[blankB (byteAt x k)]⟩ := by
  have hl : k < x.data.toList.length := by simpa using h
  have e : ∀ m, (x.extract 0 m).data.toList = x.data.toList.take m := by
    intro m; rw [ByteArray.data_extract]; simp
  apply ByteArray.ext
  unfold blankS
  rw [ByteArray.data_append, e, e, List.take_add_one]
  simp only [List.getElem?_eq_getElem hl, byteAt, List.getD_eq_getElem?_getD, Option.getD_some, Option.toList_some, List.map_append, List.map_cons, List.map_nil]
  simp
theorem blankS_none (x : ByteArray) : blankS (x.extract 0 0) = ⟨#[]⟩ := by
  apply ByteArray.ext
  unfold blankS
  rw [ByteArray.data_extract]; simp
theorem byteAt_eq (s : ByteArray) (i : Nat) : (((byteAt s i).toNat : Int) == 9) = (byteAt s i == 9) := by
  have := byteAt_int s i
  rw [bne, bne] at this
  simpa using this

/-- how many signs -/
def underN (x : ByteArray) (c n : Nat) : Nat := (max (min (n : Int) ((x.size : Int) - ((c : Int) - 1))) 1).toNat
/-- what stands under a line -/
def underS (x : ByteArray) (c n : Nat) : ByteArray := blankS (x.extract 0 (min (c - 1) x.size)) ++ repS (underN x c n)

set_option maxRecDepth 100000 in
set_option maxHeartbeats 1000000 in
theorem under_any (x : ByteArray) (c n : Nat) (w : World) (hx : x.size ≤ 65536) (h1 : 1 ≤ c) (hc : c ≤ 65537) (hn : n ≤ 65537) :
    Calls Tryd.prog 23 #[.string x, .int .i64 (c : Nat), .int .i64 (n : Nat)] w fun e w' => e = .returned (.string (underS x c n)) ∧ Below w.heap.size w w' := by
  go_enter Tryd.func23, Tryd.ntmps23
  go_wp2_with fail
  go_loopw [7, 8] (fun u i wr => ∃ k : Nat, k ≤ min (c - 1) x.size ∧ i = .int .i64 k ∧ u = .string (blankS (x.extract 0 k)) ∧ w = wr) (fun _ i _ => min (c - 1) x.size - (intOf i).toNat)
  case atStart => exact ⟨0, Nat.zero_le _, rfl, by rw [blankS_none], rfl⟩
  case round =>
    obtain ⟨k, hk, rfl, rfl, rfl⟩ := hrel
    have hbs := blankS_size (x.extract 0 k)
    rw [ByteArray.size_extract] at hbs
    by_cases hlt : k < min (c - 1) x.size
    · have hkx : k < x.size := by omega
      have hkc : (k : Int) < (c : Int) - 1 := by omega
      have n1 : ¬ 9223372036854775807 < (blankS (x.extract 0 k)).size + 1 := by omega
      have BS := Lib.hid (blankS_succ x k hkx)
      have HK := Lib.hid hlt
      have hidx : (x[k].toNat : Int) = ((byteAt x k).toNat : Int) := by
        unfold byteAt
        have h' : k < x.data.toList.length := by simpa using hkx
        rw [List.getD_eq_getElem?_getD, List.getElem?_eq_getElem h']
        rfl
      clear hbs hlt
      generalize blankS (x.extract 0 k) = q at *
      by_cases h9 : byteAt x k = 9
      · have hb : ((x[k].toNat : Int) == 9) = true := by rw [hidx, byteAt_eq]; simp [h9]
        have RB : Hid (blankB (byteAt x k) = 9) := Lib.hid (by unfold blankB; rw [if_pos h9])
        clear hidx h9
        go_wp2_with fail
        go_roundw
        case rel => exact ⟨k + 1, by have := HK.out; omega, by go_num, by rw [BS.out, RB.out], trivial⟩
        case measure => have := HK.out; simp [intOf]; omega
      · have hb : ((x[k].toNat : Int) == 9) = false := by rw [hidx, byteAt_eq]; simp [h9]
        have RB : Hid (blankB (byteAt x k) = 32) := Lib.hid (by unfold blankB; rw [if_neg h9])
        clear hidx h9
        go_wp2_with fail
        go_roundw
        case rel => exact ⟨k + 1, by have := HK.out; omega, by go_num, by rw [BS.out, RB.out], trivial⟩
        case measure => have := HK.out; simp [intOf]; omega
    · have hk' : k = min (c - 1) x.size := by omega
      have HPS := Lib.hid (show ∀ j, j ≤ 65537 → (blankS (x.extract 0 k) ++ repS j).size ≤ 200000 from fun j hj => by
        rw [ByteArray.size_append]
        have : (repS j).size = j := by show (List.replicate j 94).toArray.size = j; simp
        omega)
      have HU := Lib.hid (show underS x c n = blankS (x.extract 0 k) ++ repS (underN x c n) by unfold underS; rw [hk'])
      have hstop : ¬ ((k : Int) < (c : Int) - 1 ∧ (k : Int) < (x.size : Int)) := by omega
      clear hbs
      generalize blankS (x.extract 0 k) = P at *
      have hways : ¬ (k : Int) < (c : Int) - 1 ∨ ((k : Int) < (c : Int) - 1 ∧ ¬ k < x.size) := by omega
      have HW := Lib.hid hways
      have HNN : Hid (underN x c n = (max (min (n : Int) ((x.size : Int) - ((c : Int) - 1))) 1).toNat) := Lib.hid rfl
      have hk65 : k ≤ 65536 := by omega
      clear hways hstop hlt hk hk'
      generalize hN : underN x c n = N at *
      clear hN
      have hN65 : N ≤ 65537 := by have := HNN.out; omega
      rcases HW.out with q1 | ⟨q1, q2⟩
      · by_cases d1 : (x.size : Int) - ((c : Int) - 1) < (n : Int)
        · by_cases d2 : (x.size : Int) - ((c : Int) - 1) < 1
          · have e1 : N = 1 := by have := HNN.out; omega
            subst e1
            go_wp2_with fail
            go_loopw [7, 9] (fun u i wr => ∃ j : Nat, j ≤ 1 ∧ i = .int .i64 j ∧ u = .string (P ++ repS j) ∧ w = wr) (fun _ i _ => 1 - (intOf i).toNat)
            case atStart => exact ⟨0, Nat.zero_le _, rfl, by rw [repS_zero], rfl⟩
            case round =>
              obtain ⟨j, hj, rfl, rfl, rfl⟩ := hrel
              by_cases hlt : j < 1
              · have hsz := HPS.out j (by omega)
                have n1 : ¬ 9223372036854775807 < (P ++ repS j).size + 1 := by omega
                have RS := Lib.hid (repS_succ P j)
                clear hsz
                generalize P ++ repS j = q at *
                go_wp2_with fail
                go_roundw
                case rel => exact ⟨j + 1, by omega, by go_num, by rw [RS.out], trivial⟩
                case measure => simp [intOf]; omega
              · have hj' : j = 1 := by omega
                subst hj'
                go_wp2_with fail
                go_ret
                exact ⟨by rw [HU.out]; rfl, Below.refl _ _⟩
          · have e1 : (x.size : Int) - ((c : Int) - 1) = (N : Int) := by have := HNN.out; omega
            have e2 : 1 ≤ N := by omega
            go_wp2_with fail
            go_loopw [7, 9] (fun u i wr => ∃ j : Nat, j ≤ N ∧ i = .int .i64 j ∧ u = .string (P ++ repS j) ∧ w = wr) (fun _ i _ => N - (intOf i).toNat)
            case atStart => exact ⟨0, Nat.zero_le _, rfl, by rw [repS_zero], rfl⟩
            case round =>
              obtain ⟨j, hj, rfl, rfl, rfl⟩ := hrel
              by_cases hlt : j < N
              · have hsz := HPS.out j (by omega)
                have n1 : ¬ 9223372036854775807 < (P ++ repS j).size + 1 := by omega
                have RS := Lib.hid (repS_succ P j)
                clear hsz
                generalize P ++ repS j = q at *
                go_wp2_with fail
                go_roundw
                case rel => exact ⟨j + 1, by omega, by go_num, by rw [RS.out], trivial⟩
                case measure => simp [intOf]; omega
              · have hj' : j = N := by omega
                subst hj'
                go_wp2_with fail
                go_ret
                exact ⟨by rw [HU.out]; rfl, Below.refl _ _⟩
        · by_cases d2 : n < 1
          · have e1 : N = 1 := by have := HNN.out; omega
            subst e1
            go_wp2_with fail
            go_loopw [7, 9] (fun u i wr => ∃ j : Nat, j ≤ 1 ∧ i = .int .i64 j ∧ u = .string (P ++ repS j) ∧ w = wr) (fun _ i _ => 1 - (intOf i).toNat)
            case atStart => exact ⟨0, Nat.zero_le _, rfl, by rw [repS_zero], rfl⟩
            case round =>
              obtain ⟨j, hj, rfl, rfl, rfl⟩ := hrel
              by_cases hlt : j < 1
              · have hsz := HPS.out j (by omega)
                have n1 : ¬ 9223372036854775807 < (P ++ repS j).size + 1 := by omega
                have RS := Lib.hid (repS_succ P j)
                clear hsz
                generalize P ++ repS j = q at *
                go_wp2_with fail
                go_roundw
                case rel => exact ⟨j + 1, by omega, by go_num, by rw [RS.out], trivial⟩
                case measure => simp [intOf]; omega
              · have hj' : j = 1 := by omega
                subst hj'
                go_wp2_with fail
                go_ret
                exact ⟨by rw [HU.out]; rfl, Below.refl _ _⟩
          · have e1 : N = n := by have := HNN.out; omega
            subst e1
            go_wp2_with fail
            go_loopw [7, 9] (fun u i wr => ∃ j : Nat, j ≤ N ∧ i = .int .i64 j ∧ u = .string (P ++ repS j) ∧ w = wr) (fun _ i _ => N - (intOf i).toNat)
            case atStart => exact ⟨0, Nat.zero_le _, rfl, by rw [repS_zero], rfl⟩
            case round =>
              obtain ⟨j, hj, rfl, rfl, rfl⟩ := hrel
              by_cases hlt : j < N
              · have hsz := HPS.out j (by omega)
                have n1 : ¬ 9223372036854775807 < (P ++ repS j).size + 1 := by omega
                have RS := Lib.hid (repS_succ P j)
                clear hsz
                generalize P ++ repS j = q at *
                go_wp2_with fail
                go_roundw
                case rel => exact ⟨j + 1, by omega, by go_num, by rw [RS.out], trivial⟩
                case measure => simp [intOf]; omega
              · have hj' : j = N := by omega
                subst hj'
                go_wp2_with fail
                go_ret
                exact ⟨by rw [HU.out]; rfl, Below.refl _ _⟩
      · have d1 : (x.size : Int) - ((c : Int) - 1) < (n : Int) := by omega
        have d2 : (x.size : Int) - ((c : Int) - 1) < 1 := by omega
        have e1 : N = 1 := by have := HNN.out; omega
        subst e1
        go_wp2_with fail
        go_loopw [7, 9] (fun u i wr => ∃ j : Nat, j ≤ 1 ∧ i = .int .i64 j ∧ u = .string (P ++ repS j) ∧ w = wr) (fun _ i _ => 1 - (intOf i).toNat)
        case atStart => exact ⟨0, Nat.zero_le _, rfl, by rw [repS_zero], rfl⟩
        case round =>
          obtain ⟨j, hj, rfl, rfl, rfl⟩ := hrel
          by_cases hlt : j < 1
          · have hsz := HPS.out j (by omega)
            have n1 : ¬ 9223372036854775807 < (P ++ repS j).size + 1 := by omega
            have RS := Lib.hid (repS_succ P j)
            clear hsz
            generalize P ++ repS j = q at *
            go_wp2_with fail
            go_roundw
            case rel => exact ⟨j + 1, by omega, by go_num, by rw [RS.out], trivial⟩
            case measure => simp [intOf]; omega
          · have hj' : j = 1 := by omega
            subst hj'
            go_wp2_with fail
            go_ret
            exact ⟨by rw [HU.out]; rfl, Below.refl _ _⟩

end Go.Proofs.YtcmeeehhhnmfgaaDoor
