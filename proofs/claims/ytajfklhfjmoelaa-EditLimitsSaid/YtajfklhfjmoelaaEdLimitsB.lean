/- EditLimits: the long way. -/
import Derived.Test.YtajfklhfjmoelaaEdLimits
namespace Go.Proofs.Ytajfklhfjmoelaa
open Go Go.RowKit
set_option linter.unusedVariables false

theorem limits_one (n : Nat) (hn : n ≤ 4200) : ∃ (t : ByteArray) (c : Int), (∀ src cap w, EdsIn w src ((insN 0 n).map toI) → Calls Try.prog 18 #[.string (zerosB 5000), .slice src n cap] w fun e w' => e = .returned (.tuple #[.string t, .int .i64 c]) ∧ Below w.heap.size w w') ∧
    ((n ≤ 4096 ∧ c = 0 ∧ t.size = 5000 + n) ∨ (4096 < n ∧ c = 2)) := by
  have hz : (zerosB 5000).size = 5000 := zerosB_size 5000
  have hl : (insN 0 n).length = n := insN_len n 0
  have hok : EdOk (zerosB 5000).size 0 (insN 0 n) := insN_ok _ n 0 0 (Nat.le_refl _) (by omega) (by omega)
  by_cases h : n ≤ 4096
  · have hg : ((zerosB 5000).size : Int) + growN (insN 0 n) ≤ 65536 := by rw [insN_grow]; omega
    have hf := (valid_fits hok (by omega) (by omega) hg (insN_text n 0)).1
    refine ⟨pieces (zerosB 5000) 0 (insN 0 n), 0, fun src cap w hr => apply_ok (zerosB 5000) src n cap (insN 0 n) w hl h (by omega) hok hg hf (insN_text n 0) hr, .inl ⟨h, rfl, ?_⟩⟩
    have := size_pieces (zerosB 5000) (insN 0 n) 0 hok
    rw [insN_grow] at this
    omega
  · have hf : fitsE (zerosB 5000).size ((insN 0 n).map toI) = 2 := by
      have hc : checkE (zerosB 5000).size ((insN 0 n).map toI) = 2 := by unfold checkE; rw [if_pos (by simp [hl]; omega)]
      unfold fitsE
      rw [if_neg (by omega), hc]; rfl
    refine ⟨⟨#[]⟩, 2, fun src cap w hr => ?_, .inr ⟨by omega, rfl⟩⟩
    have := apply_no (zerosB 5000) src n cap ((insN 0 n).map toI) w (by simpa using hl) (by unfold maxLen; omega) (by omega) hr
    rwa [hf] at this

theorem limits_two (m : Nat) (hm : m ≤ 70000) : ∃ (t : ByteArray) (c : Int), (∀ g w, g < w.heap.size → EditAt w g 0 [(0, 0, zerosB m)] → Calls Try.prog 18 #[.string (zerosB 5000), .slice (some ⟨g, 0, none⟩) 1 1] w fun e w' => e = .returned (.tuple #[.string t, .int .i64 c]) ∧ Below w.heap.size w w') ∧
    ((m ≤ 60536 ∧ c = 0 ∧ t.size = 5000 + m) ∨ (60536 < m ∧ c = 2 ∧ t = ⟨#[]⟩)) := by
  have hz : (zerosB 5000).size = 5000 := zerosB_size 5000
  have hzm := zerosB_size m
  have hok : EdOk (zerosB 5000).size 0 [(0, 0, zerosB m)] := ⟨Nat.le_refl _, Nat.le_refl _, by show (0 : Nat) ≤ _; omega⟩
  have hgr : growN [(0, 0, zerosB m)] = m := by simp only [growN]; omega
  have hmap : [((0 : Nat), (0 : Nat), zerosB m)].map toI = [(0, 0, zerosB m)] := rfl
  by_cases h : m ≤ 60536
  · have hg : ((zerosB 5000).size : Int) + growN [(0, 0, zerosB m)] ≤ 65536 := by rw [hgr]; omega
    have ht : ∀ e ∈ [((0 : Nat), (0 : Nat), zerosB m)], e.2.2.size ≤ 65536 := fun e he => by simp at he; subst he; simp only; omega
    have hf := (valid_fits hok (by simp) (by omega) hg ht).1
    refine ⟨pieces (zerosB 5000) 0 [(0, 0, zerosB m)], 0, fun g w hb hr => apply_ok (zerosB 5000) _ 1 1 [(0, 0, zerosB m)] w rfl (by omega) (by omega) hok hg hf ht (fun _ => ⟨g, 0, rfl, hb, hr⟩), .inl ⟨h, rfl, ?_⟩⟩
    have := size_pieces (zerosB 5000) [(0, 0, zerosB m)] 0 hok
    rw [hgr] at this
    omega
  · have hf : fitsE (zerosB 5000).size [(0, 0, zerosB m)] = 2 := by
      unfold fitsE
      rw [if_neg (by omega)]
      by_cases hq : 65536 < m
      · have hc : checkE (zerosB 5000).size [(0, 0, zerosB m)] = 2 := by
          have h1 : firstE ((zerosB 5000).size : Int) [(0, 0, zerosB m)] = 2 := by simp [firstE, oneE, hzm, hq]
          unfold checkE; rw [if_neg (by simp), h1]; rfl
        rw [hc]; rfl
      · have hc : checkE (zerosB 5000).size [(0, 0, zerosB m)] = 0 := by
          have h1 : firstE ((zerosB 5000).size : Int) [(0, 0, zerosB m)] = 0 := by
            have : chkB 0 0 ((zerosB 5000).size : Int) = true := by rw [hz]; rfl
            simp [firstE, oneE, hzm, hq, this, errI]
          unfold checkE; rw [if_neg (by simp), h1]; rfl
        have hg : growE [(0, 0, zerosB m)] = m := by simp [growE, hzm, lenI]
        rw [hc, if_pos rfl, hg, if_pos (by omega)]
    refine ⟨⟨#[]⟩, 2, fun g w hb hr => ?_, .inr ⟨by omega, rfl, rfl⟩⟩
    have := apply_no (zerosB 5000) (some ⟨g, 0, none⟩) 1 1 [(0, 0, zerosB m)] w rfl (by unfold maxLen; omega) (by omega) (fun _ => ⟨g, 0, rfl, hb, hr⟩)
    rwa [hf] at this

set_option maxRecDepth 100000 in
set_option maxHeartbeats 2000000 in
theorem elimits_in (n m : Nat) (w : World) (hn : n ≤ 4200) (hm : m ≤ 70000) :
    Calls Try.prog 7 #[.int .i64 (n : Nat), .int .i64 (m : Nat)] w fun e w' => e = .returned (.bool true) ∧ Below w.heap.size w w' := by
  obtain ⟨t1, c1, h1, q1⟩ := limits_one n hn
  obtain ⟨t2, c2, h2, q2⟩ := limits_two m hm
  have A1 := Lib.hid h1
  have A2 := Lib.hid h2
  have Q1 := Lib.hid q1
  have Q2 := Lib.hid q2
  clear h1 h2 q1 q2
  obtain ⟨i0, hi, hz0, hz1, hz2⟩ := info_parts infoEdit
  have a1 : ¬ ((n : Int) < 0) := by omega
  have a2 : ¬ ((4200 : Int) < (n : Int)) := by omega
  have a3 : ¬ ((m : Int) < 0) := by omega
  have a4 : ¬ ((70000 : Int) < (m : Int)) := by omega
  have a5 : ¬ (4200 < n) := by omega
  have a6 : ¬ (70000 < m) := by omega
  go_enter Try.func7, Try.ntmps7
  go_wp2_with fail
  refine (edits_any _).mono ?_
  rintro e w1 ⟨rfl, h01⟩
  obtain ⟨w2, mk1, cv1, h12⟩ := made_zeros 5000 w1 (by omega)
  have e5 : ((5000 : Nat) : Int) = 5000 := rfl
  rw [e5] at mk1
  have b2 := Lib.hid (after h01 h12)
  clear h01 h12
  go_wp2_with fail
  go_loopw [6, 33] (fun u i wr => ∃ k : Nat, k ≤ n ∧ i = .int .i64 k ∧ InInv w2 wr ((insN 0 k).map toI) u) (fun _ i _ => n - (intOf i).toNat)
  case atStart => exact ⟨0, Nat.zero_le _, rfl, Below.refl _ _, rfl, .inl ⟨rfl, rfl⟩⟩
  case round =>
    obtain ⟨k, hk, rfl, hinv⟩ := hrel
    have hll : ((insN 0 k).map toI).length = k := by simp [insN_len]
    by_cases hlt : k < n
    · have hsz := hinv.1.size
      have HI := Lib.hid hinv
      have HO := Lib.hid hinv.2
      have EN : Hid ((insN 0 (k + 1)).map toI = (insN 0 k).map toI ++ [((k : Int), (k : Int), xB)]) := Lib.hid (by rw [insN_snoc]; simp [toI])
      rw [hll] at HO
      clear hinv
      go_wp2_with (at_builtin; refine wpList_append_own _ rfl _ _ 22 rfl w2.heap.size 37 i0 (.agg #[.int .i64 0, .int .i64 0, .string ⟨#[]⟩]) 3 32 Try.underlying22 hi hz0 hz1 hz2 rfl (by decide) _ _ _ rfl (HO.out.alloc _) ⟨wr.heap.size, 0, none⟩ 1 1 [.int .i64 k, .int .i64 k, .string ⟨#[120]⟩] rfl rfl ?c1 ?c2 ?c3 ?c4 ?c5 ?_)
      case c1 =>
        intro j u hj
        match j, hj with
        | 0, hj => simp at hj; subst hj; simp [Addr.add, go_sem]
        | 1, hj => simp at hj; subst hj; simp [Addr.add, go_sem]
        | 2, hj => simp at hj; subst hj; simp [Addr.add, go_sem]
      case c2 => intro u hu; simp at hu; rcases hu with rfl | rfl <;> rfl
      case c3 => unfold maxLen; omega
      case c4 => omega
      case c5 => simp; omega
      intro v' w3 hown' hgrow _
      have HV := Lib.hid (HI.out.yes (x := ((k : Int), (k : Int), xB)) (by rw [hll]; exact hown') hgrow)
      clear hown' hgrow
      go_wp2_with fail
      exact ⟨⟨k + 1, by omega, by go_num, by rw [EN.out]; exact HV.out⟩, by simp [intOf]; omega⟩
    · have hk' : k = n := by omega
      subst hk'
      have b3 := Lib.hid (b2.out.trans (hinv.1.mono b2.out.size))
      obtain ⟨src, cap, rfl, hin⟩ := hinv.in
      rw [hll]
      have HIN := Lib.hid hin
      clear hinv hin
      have C1 := Lib.hid (A1.out src cap wr HIN.out)
      rcases Q1.out with ⟨p1, rfl, p3⟩ | ⟨p1, rfl⟩
      · have p4 : (k : Int) ≤ 4096 := by omega
        go_wp2_with fail
        refine C1.out.mono ?_
        rintro e w4 ⟨rfl, h34⟩
        obtain ⟨w5, mk2, cv2, h45⟩ := made_zeros m w4 (by omega)
        have b5 := Lib.hid (after (after b3.out h34) h45)
        clear h34 h45 C1
        go_wp2_with fail
        refine (A2.out (w5.heap.size + 1) _ (by simp) ?he).mono ?_
        case he =>
          intro i hi
          have hi0 : i = 0 := by simp at hi; omega
          subst hi0
          have hz : (w5.alloc (.cells #[.int .i64 0, .int .i64 0, .string (zerosB m)] 37)).heap.size = w5.heap.size + 1 := by simp
          rw [← hz]
          simp [go_sem]
        rintro e w6 ⟨rfl, h56⟩
        have b6 := Lib.hid (after (after b5.out ((Below.refl w5.heap.size w5).alloc (Nat.le_refl _) _)) (((Below.refl _ _).alloc (Nat.le_refl _) _).trans (h56.mono (by simp))))
        rcases Q2.out with ⟨r1, rfl, r3⟩ | ⟨r1, rfl, rfl⟩
        · have r4 : (m : Int) ≤ 60536 := by omega
          go_wp2_with fail
          go_ret
          exact ⟨by simp, b6.out⟩
        · have r4 : ¬ ((m : Int) ≤ 60536) := by omega
          go_wp2_with fail
          go_ret
          exact ⟨by simp, b6.out⟩
      · have p4 : ¬ ((k : Int) ≤ 4096) := by omega
        go_wp2_with fail
        refine C1.out.mono ?_
        rintro e w4 ⟨rfl, h34⟩
        obtain ⟨w5, mk2, cv2, h45⟩ := made_zeros m w4 (by omega)
        have b5 := Lib.hid (after (after b3.out h34) h45)
        clear h34 h45 C1
        go_wp2_with fail
        refine (A2.out (w5.heap.size + 1) _ (by simp) ?he).mono ?_
        case he =>
          intro i hi
          have hi0 : i = 0 := by simp at hi; omega
          subst hi0
          have hz : (w5.alloc (.cells #[.int .i64 0, .int .i64 0, .string (zerosB m)] 37)).heap.size = w5.heap.size + 1 := by simp
          rw [← hz]
          simp [go_sem]
        rintro e w6 ⟨rfl, h56⟩
        have b6 := Lib.hid (after (after b5.out ((Below.refl w5.heap.size w5).alloc (Nat.le_refl _) _)) (((Below.refl _ _).alloc (Nat.le_refl _) _).trans (h56.mono (by simp))))
        rcases Q2.out with ⟨r1, rfl, r3⟩ | ⟨r1, rfl, rfl⟩
        · have r4 : (m : Int) ≤ 60536 := by omega
          go_wp2_with fail
          go_ret
          exact ⟨by simp, b6.out⟩
        · have r4 : ¬ ((m : Int) ≤ 60536) := by omega
          go_wp2_with fail
          go_ret
          exact ⟨by simp, b6.out⟩

theorem elimits_any (n : Int) (_ : (Lit.int .i64 n).wf = true) (m : Int) (_ : (Lit.int .i64 m).wf = true) (w : World) :
    Calls Try.prog 7 #[.int .i64 n, .int .i64 m] w fun e w' => e = .returned (.bool true) ∧ Below w.heap.size w w' := by
  by_cases h : n < 0 ∨ 4200 < n ∨ m < 0 ∨ 70000 < m
  · exact elimits_far n m w h
  · have := elimits_in n.toNat m.toNat w (by omega) (by omega)
    rwa [show ((n.toNat : Nat) : Int) = n by omega, show ((m.toNat : Nat) : Int) = m by omega] at this

end Go.Proofs.Ytajfklhfjmoelaa
