/- Contract of the document's own Apply. -/
import Derived.Test.YtepoiedophggkaaEditG
namespace Go.Proofs.Ytepoiedophggkaa
open Go Go.RowKit
set_option linter.unusedVariables false

set_option maxHeartbeats 2000000 in
theorem rapply_long (s : ByteArray) (v : Value) (w : World) (hs : 65536 < s.size) :
    Calls Try.prog 19 #[.string s, v] w fun e w' => e = .returned (.tuple #[.string ⟨#[]⟩, .int .i64 2]) ∧ Below w.heap.size w w' := by
  have hs' : 65536 < (s.size : Int) := by omega
  go_enter Try.func19, Try.ntmps19
  go_wp2_with fail
  go_ret2
  exact ⟨rfl, Below.refl _ _⟩

theorem rapply_check (s : ByteArray) (src : Option Addr) (n cap : Nat) (l : List IEd) (w : World) (hl : l.length = n) (hn : n ≤ maxLen) (hs : s.size ≤ 65536) (hr : EdsIn w src l) (hc : checkE s.size l ≠ 0) :
    Calls Try.prog 19 #[.string s, .slice src n cap] w fun e w' => e = .returned (.tuple #[.string ⟨#[]⟩, .int .i64 (checkE s.size l)]) ∧ Below w.heap.size w w' := by
  have CK := Lib.hid (fun w hr => rcheck_any s.size src n cap l w hl hn (by unfold maxLen; omega) hr)
  generalize checkE s.size l = c at *
  have hc1 : (c == 0) = false := by simp; exact hc
  have hs' : (s.size : Int) ≤ 65536 := by omega
  go_enter Try.func19, Try.ntmps19
  go_wp2_with fail
  refine (CK.out _ hr).mono ?_
  rintro e w1 ⟨rfl, h01⟩
  go_wp2_with fail
  go_ret2
  exact ⟨rfl, h01⟩

set_option maxHeartbeats 2000000 in
theorem rapply_grows (s : ByteArray) (src : Option Addr) (n cap : Nat) (l : List IEd) (w : World) (hl : l.length = n) (hn : n ≤ maxLen) (hs : s.size ≤ 65536) (hr : EdsIn w src l) (hc : checkE s.size l = 0) (hg : 65536 < (s.size : Int) + growE l) :
    Calls Try.prog 19 #[.string s, .slice src n cap] w fun e w' => e = .returned (.tuple #[.string ⟨#[]⟩, .int .i64 2]) ∧ Below w.heap.size w w' := by
  have CK := Lib.hid (fun w hr => rcheck_any s.size src n cap l w hl hn (by unfold maxLen; omega) hr)
  obtain ⟨k1, k2, k3⟩ := checkE_zero hc
  have HR := Lib.hid hr
  have HL := Lib.hid hl
  have HC := Lib.hid hc
  have HALL := Lib.hid k2
  have hnn : n ≤ 4096 := by omega
  have hs' : (s.size : Int) ≤ 65536 := by omega
  clear hr hl hc k1 k2 k3
  go_enter Try.func19, Try.ntmps19
  go_wp2_with fail
  refine (CK.out _ HR.out).mono ?_
  rw [HC.out]
  rintro e w1 ⟨rfl, h01⟩
  have H01 := Lib.hid h01
  clear h01
  go_wp2_with fail
  go_loopw [7, 8] (fun c i wr => ∃ k : Nat, k ≤ n ∧ i = .int .i64 k ∧ c = .int .i64 ((s.size : Int) + growE (l.take k)) ∧ Below w.heap.size w wr) (fun _ i _ => n - (intOf i).toNat)
  case atStart => exact ⟨0, Nat.zero_le _, rfl, by simp [growE], H01.out⟩
  case round =>
    clear H01
    obtain ⟨k, hk, rfl, rfl, hbel⟩ := hrel
    have H01 := Lib.hid hbel
    clear hbel
    have hbd := growE_bd (l.take k) (fun e he => (HALL.out e (List.mem_of_mem_take he)).1)
    have hlen : ((l.take k).length : Int) ≤ 4096 := by rw [List.length_take]; omega
    have hg1 : growE (l.take k) ≤ 65536 * 4096 := by omega
    have hg2 : -(65536 * 4096) ≤ growE (l.take k) := by omega
    clear hbd hlen
    by_cases hlt : k < n
    · have hkl : k < l.length := by rw [HL.out]; exact hlt
      obtain ⟨b, off, rfl, hb, hrow⟩ := HR.out (by omega)
      obtain ⟨c0, c1, c2⟩ := (hrow.below H01.out hb) k hkl
      have SN := Lib.hid (growE_snoc l k hkl)
      have x3s := (HALL.out _ (List.getElem_mem hkl)).1
      have x4s := mayB_iff.2 (chkB_iff.1 (HALL.out _ (List.getElem_mem hkl)).2).1
      clear hrow
      revert c0 c1 c2 SN x3s x4s
      generalize l[k] = x
      obtain ⟨x1, x2, x3⟩ := x
      intro c0 c1 c2 SN x3s x4s
      dsimp only at c0 c1 c2 SN x3s x4s
      rw [lenI_yes x4s] at SN
      obtain ⟨q1, q2, q3⟩ := mayB_iff.1 x4s
      generalize growE (l.take k) = c at *
      have hbw : b < wr.heap.size := Nat.lt_of_lt_of_le hb H01.out.size
      have iw : IntKind.i64.wrap (x2 - x1) = x2 - x1 := IntWalk.i64_in _ ⟨by omega, by omega⟩
      have iw2 : IntKind.i64.wrap ((x3.size : Int) - (x2 - x1)) = (x3.size : Int) - (x2 - x1) := IntWalk.i64_in _ ⟨by omega, by omega⟩
      clear hkl x4s
      go_wp2_with fail
      go_quiet (fail)
      go_wp2_with fail
      go_roundw
      case rel => exact ⟨k + 1, by omega, by go_num, by rw [SN.out, Int.add_assoc], below_drewN H01.out _⟩
      case measure => simp [intOf]; omega
    · have hk' : k = n := by omega
      subst hk'
      have E1 : growE (l.take k) = growE l := by rw [← HL.out, List.take_length]
      rw [E1] at *
      clear E1
      generalize growE l = g at *
      go_wp2_with fail
      go_ret2
      exact ⟨rfl, H01.out⟩

theorem lastTo_le (s : ByteArray) (L : List NEd) (h : EdOk s.size 0 L) (k : Nat) (hk : k ≤ L.length) : (lastTo s L k).size ≤ s.size + (pieces s 0 L).size := by
  have := made_pieces s L k hk
  have h2 := congrArg ByteArray.size this
  rw [ByteArray.size_append] at h2
  unfold lastTo
  rw [ByteArray.size_append, ByteArray.size_extract]
  omega

set_option maxHeartbeats 2000000 in
theorem rapply_ok (s : ByteArray) (src : Option Addr) (n cap : Nat) (L : List NEd) (w : World) (hl : L.length = n) (hn : n ≤ 4096) (hs : s.size ≤ 65536) (hok : EdOk s.size 0 L) (hsz : (s.size : Int) + growN L ≤ 65536) (hfit : fitsE s.size (L.map toI) = 0) (ht : ∀ e ∈ L, e.2.2.size ≤ 65536) (hr : EdsIn w src (L.map toI)) :
    Calls Try.prog 19 #[.string s, .slice src n cap] w fun e w' => e = .returned (.tuple #[.string (pieces s 0 L), .int .i64 0]) ∧ Below w.heap.size w w' := by
  have HML := Lib.hid (show (L.map toI).length = n by simpa using hl)
  have CK := Lib.hid (fun w hr => rcheck_any s.size src n cap (L.map toI) w HML.out (by unfold maxLen; omega) (by unfold maxLen; omega) hr)
  obtain ⟨-, f2, f3⟩ := fitsE_zero hfit
  obtain ⟨k1, k2, k3⟩ := checkE_zero f2
  have HR := Lib.hid hr
  have HLN := Lib.hid hl
  have HC := Lib.hid f2
  have HG := Lib.hid f3
  have HALL := Lib.hid k2
  have HOK := Lib.hid hok
  have HT := Lib.hid ht
  have HPS := Lib.hid (show (pieces s 0 L).size ≤ 65536 by have := size_pieces s L 0 hok; omega)
  have HSTART := Lib.hid (lastTo_all s L hok)
  have HEND := Lib.hid (lastTo_zero s L)
  have hnn : n ≤ 4096 := by omega
  have hs' : (s.size : Int) ≤ 65536 := by omega
  clear hr hl f2 f3 k1 k2 k3 hok ht
  obtain ⟨l, hml⟩ : ∃ l, l = L.map toI := ⟨_, rfl⟩
  rw [← hml] at HR HC HG HALL CK HML
  have HL := HML
  have HM := Lib.hid hml
  clear hml
  go_enter Try.func19, Try.ntmps19
  go_wp2_with fail
  refine (CK.out _ HR.out).mono ?_
  rw [HC.out]
  rintro e w1 ⟨rfl, h01⟩
  have H01 := Lib.hid h01
  clear h01
  go_wp2_with fail
  go_loopw [7, 8] (fun c i wr => ∃ k : Nat, k ≤ n ∧ i = .int .i64 k ∧ c = .int .i64 ((s.size : Int) + growE (l.take k)) ∧ Below w.heap.size w wr) (fun _ i _ => n - (intOf i).toNat)
  case atStart => exact ⟨0, Nat.zero_le _, rfl, by simp [growE], H01.out⟩
  case round =>
    clear H01
    obtain ⟨k, hk, rfl, rfl, hbel⟩ := hrel
    have H01 := Lib.hid hbel
    clear hbel
    have hbd := growE_bd (l.take k) (fun e he => (HALL.out e (List.mem_of_mem_take he)).1)
    have hlen : ((l.take k).length : Int) ≤ 4096 := by rw [List.length_take]; omega
    have hg1 : growE (l.take k) ≤ 65536 * 4096 := by omega
    have hg2 : -(65536 * 4096) ≤ growE (l.take k) := by omega
    clear hbd hlen
    by_cases hlt : k < n
    · have hkl : k < l.length := by rw [HL.out]; exact hlt
      obtain ⟨b, off, rfl, hb, hrow⟩ := HR.out (by omega)
      obtain ⟨c0, c1, c2⟩ := (hrow.below H01.out hb) k hkl
      have SN := Lib.hid (growE_snoc l k hkl)
      have x3s := (HALL.out _ (List.getElem_mem hkl)).1
      have x4s := mayB_iff.2 (chkB_iff.1 (HALL.out _ (List.getElem_mem hkl)).2).1
      clear hrow
      revert c0 c1 c2 SN x3s x4s
      generalize l[k] = x
      obtain ⟨x1, x2, x3⟩ := x
      intro c0 c1 c2 SN x3s x4s
      dsimp only at c0 c1 c2 SN x3s x4s
      rw [lenI_yes x4s] at SN
      obtain ⟨q1, q2, q3⟩ := mayB_iff.1 x4s
      generalize growE (l.take k) = c at *
      have hbw : b < wr.heap.size := Nat.lt_of_lt_of_le hb H01.out.size
      have iw : IntKind.i64.wrap (x2 - x1) = x2 - x1 := IntWalk.i64_in _ ⟨by omega, by omega⟩
      have iw2 : IntKind.i64.wrap ((x3.size : Int) - (x2 - x1)) = (x3.size : Int) - (x2 - x1) := IntWalk.i64_in _ ⟨by omega, by omega⟩
      clear hkl x4s
      go_wp2_with fail
      go_quiet (fail)
      go_wp2_with fail
      go_roundw
      case rel => exact ⟨k + 1, by omega, by go_num, by rw [SN.out, Int.add_assoc], below_drewN H01.out _⟩
      case measure => simp [intOf]; omega
    · have hk' : k = n := by omega
      subst hk'
      have E1 : growE (l.take k) = growE l := by rw [← HL.out, List.take_length]
      rw [E1] at *
      clear E1
      have hgg := HG.out
      generalize growE l = g at *
      have HSK := Lib.hid (show lastTo s L k = s by have := HSTART.out; rwa [HLN.out] at this)
      go_wp2_with fail
      go_loopw [0, 9] (fun t i wr => ∃ j : Nat, j ≤ k ∧ i = .int .i64 ((j : Int) - 1) ∧ t = .string (lastTo s L j) ∧ Below w.heap.size w wr) (fun _ i _ => (intOf i + 1).toNat)
      case atStart => exact ⟨k, Nat.le_refl _, rfl, by rw [HSK.out], H01.out⟩
      case round =>
        clear H01
        obtain ⟨j, hj, rfl, rfl, hbel⟩ := hrel
        have H01 := Lib.hid hbel
        clear hbel
        cases j with
        | zero =>
          have E0 := HEND.out
          generalize lastTo s L 0 = T at *
          have HE0 := Lib.hid E0
          clear E0
          go_wp2_with fail
          go_ret2
          exact ⟨by rw [← HE0.out]; rfl, H01.out⟩
        | succ q =>
          have hql : q < L.length := by rw [HLN.out]; omega
          obtain ⟨b, off, hsrc, hb, hrow⟩ := HR.out (by have := HML.out; omega)
          rw [HM.out] at hrow
          subst hsrc
          obtain ⟨c0, c1, c2⟩ := (hrow.below H01.out hb) q (by simpa using hql)
          rw [toI_get] at c0 c1 c2
          obtain ⟨o1, o2, o3⟩ := HOK.out.at' hql
          have x3s := HT.out _ (List.getElem_mem hql)
          have ST := Lib.hid (lastTo_step s L HOK.out q hql)
          have eg : L.getD q (0, 0, ByteArray.empty) = L[q] := by rw [List.getD_eq_getElem?_getD, List.getElem?_eq_getElem hql]; rfl
          rw [eg] at ST
          have T1 := lastTo_le s L HOK.out (q + 1) (by omega)
          have T2 : L[q].2.1 ≤ (lastTo s L (q + 1)).size := by
            have e1 := (madeTo_succ s L q hql).2
            unfold lastTo
            rw [ByteArray.size_append, ByteArray.size_extract, e1]; omega
          have hps := HPS.out
          have hbw : b < wr.heap.size := Nat.lt_of_lt_of_le hb H01.out.size
          clear hrow eg
          revert c0 c1 c2 o1 o2 o3 x3s ST T2
          generalize L[q] = x
          obtain ⟨x1, x2, x3⟩ := x
          intro c0 c1 c2 o1 o2 o3 x3s ST T2
          unfold toI at c0 c1 c2
          dsimp only at c0 c1 c2 o1 o2 o3 x3s ST T2
          generalize lastTo s L (q + 1) = T at *
          have i0 : ((q + 1 : Nat) : Int) - 1 = (q : Int) := by omega
          rw [i0]
          have i1 : (0 : Int) ≤ (q : Int) := by omega
          have i2 : (q : Int) < (k : Int) := by omega
          have i4 : q < k := by omega
          have z1 : x1 ≤ T.size := by omega
          have z2 : (T.extract 0 x1).size ≤ 131072 := by rw [ByteArray.size_extract]; omega
          have z3 : (T.extract x2 T.size).size ≤ 131072 := by rw [ByteArray.size_extract]; omega
          have n1 : ¬ 9223372036854775807 < (T.extract 0 x1).size + x3.size := by omega
          have n2 : ¬ 9223372036854775807 < (T.extract 0 x1 ++ x3).size + (T.extract x2 T.size).size := by rw [ByteArray.size_append]; omega
          clear hql T1 hps
          go_wp2_with fail
          go_quiet (fail)
          go_wp2_with fail
          exact ⟨⟨q, by omega, rfl, by rw [ST.out], below_drewN H01.out _⟩, by simp [intOf] <;> omega⟩

/-- what the document's Apply answers where edits may not be made -/
theorem rapply_no (s : ByteArray) (src : Option Addr) (n cap : Nat) (l : List IEd) (w : World) (hl : l.length = n) (hn : n ≤ maxLen) (hr : EdsIn w src l) (hf : fitsE s.size l ≠ 0) :
    Calls Try.prog 19 #[.string s, .slice src n cap] w fun e w' => e = .returned (.tuple #[.string ⟨#[]⟩, .int .i64 (fitsE s.size l)]) ∧ Below w.heap.size w w' := by
  by_cases h1 : 65536 < s.size
  · have e : fitsE s.size l = 2 := by unfold fitsE; rw [if_pos h1]
    rw [e]; exact rapply_long s _ w h1
  · by_cases h2 : checkE s.size l = 0
    · by_cases h3 : 65536 < (s.size : Int) + growE l
      · have e : fitsE s.size l = 2 := by unfold fitsE; rw [if_neg h1, if_pos h2, if_pos h3]
        rw [e]; exact rapply_grows s src n cap l w hl hn (by omega) hr h2 h3
      · exact absurd (by unfold fitsE; rw [if_neg h1, if_pos h2, if_neg h3]) hf
    · have e : fitsE s.size l = checkE s.size l := by unfold fitsE; rw [if_neg h1, if_neg h2]
      rw [e]; exact rapply_check s src n cap l w hl hn (by omega) hr h2

end Go.Proofs.Ytepoiedophggkaa
