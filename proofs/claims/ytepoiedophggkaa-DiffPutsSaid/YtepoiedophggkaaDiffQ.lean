/- DiffPuts: the walk. -/
import Derived.Test.YtepoiedophggkaaDiffO
import Derived.Test.YtepoiedophggkaaIntFrame
namespace Go.Proofs.Ytepoiedophggkaa
open Go Go.RowKit
set_option linter.unusedVariables false

theorem puts_only {n : Nat} : ∀ (L : List NEd) (a : Nat), EdOk n a L → growN L ≤ (costN L : Nat) ∧ (((costN L : Nat) : Int) ≤ growN L → ∀ e ∈ L, e.1 = e.2.1)
  | [], a, _ => by simp [growN, costN]
  | e :: L, a, h => by
    obtain ⟨h1, h2, h3⟩ := h
    obtain ⟨i1, i2⟩ := puts_only L _ h3
    simp only [growN, costN]
    refine ⟨by omega, fun hq x hx => ?_⟩
    rcases List.mem_cons.1 hx with rfl | hx
    · omega
    · exact i2 (by omega) x hx
/-- one put in more -/
theorem put_far (t S p : ByteArray) (K : Nat) (hK : K ≤ S.size) : farN t (S.extract 0 K ++ p ++ S.extract K S.size) ≤ farN t S + p.size ∧ (S.extract 0 K ++ p ++ S.extract K S.size).size = S.size + p.size := by
  have h1 : EdOk S.size 0 [(K, K, p)] := ⟨Nat.zero_le _, Nat.le_refl _, hK⟩
  have h2 : pieces S 0 [(K, K, p)] = S.extract 0 K ++ p ++ S.extract K S.size := by simp [pieces]
  have h3 := farN_least (way_of_edits h1 h2)
  have h4 := farN_tri t S (S.extract 0 K ++ p ++ S.extract K S.size)
  simp only [costN] at h3
  refine ⟨by omega, ?_⟩
  simp only [ByteArray.size_append, ByteArray.size_extract]
  omega

set_option maxRecDepth 100000 in
set_option maxHeartbeats 4000000 in
theorem diffPuts_in (t p : ByteArray) (src : Option Addr) (m cap : Nat) (l : List Int) (w : World) (hl : l.length = m) (hr : IntsIn w src l) (ht : t.size ≤ 300) (hm : m ≤ 20) (hp : p.size ≤ 10) :
    Calls Try.prog 13 #[.string t, .slice src m cap, .string p] w fun e w' => e = .returned (.bool true) ∧ Below w.heap.size w w' := by
  have k1 : ¬ 300 < (t.size : Int) := by omega
  have k2 : ¬ 20 < (m : Int) := by omega
  have k3 : ¬ 10 < (p.size : Int) := by omega
  have HL := Lib.hid hl
  clear hl
  go_enter Try.func13, Try.ntmps13
  go_wp2_with fail
  refine (finds_any _).mono ?_
  rintro e w1 ⟨rfl, h01⟩
  have HR1 := Lib.hid (hr.step h01)
  have H1 := Lib.hid h01
  clear h01 hr
  go_wp2_with fail
  go_loopw [7, 8, 34] (fun s n i wr => ∃ (j N : Nat) (S : ByteArray), j ≤ m ∧ i = .int .i64 j ∧ s = .string S ∧ n = .int .i64 N ∧ N ≤ 10 * j ∧ S.size = t.size + N ∧ farN t S ≤ N ∧ Below w1.heap.size w1 wr) (fun _ _ i _ => m - (intOf i).toNat)
  case atStart => exact ⟨0, 0, t, Nat.zero_le _, rfl, rfl, rfl, by omega, rfl, by have := (farN_zero t t).2 rfl; omega, Below.refl _ _⟩
  case round =>
    obtain ⟨j, N, S, hj, rfl, rfl, rfl, hN, hS, hF, hbel⟩ := hrel
    have HBEL := Lib.hid hbel
    by_cases hlt : j < m
    · have hjl : j < l.length := by rw [HL.out]; exact hlt
      obtain ⟨b, off, hs, hb, hrow⟩ := (HR1.out.step hbel) (by omega)
      subst hs
      have c0 := hrow j hjl
      generalize l[j] = x at c0
      obtain ⟨K, hK⟩ : ∃ K : Nat, max 0 (min x (S.size : Int)) = (K : Int) := ⟨(max 0 (min x (S.size : Int))).toNat, by omega⟩
      have hKS : K ≤ S.size := by omega
      have hKI : (K : Int) ≤ (S.size : Int) := by omega
      obtain ⟨q1, q2⟩ := put_far t S p K hKS
      have p1 : ¬ maxLen < (S.extract 0 K).size + p.size := by rw [ByteArray.size_extract]; unfold maxLen; omega
      have p2 : ¬ maxLen < (S.extract 0 K ++ p).size + (S.extract K S.size).size := by rw [ByteArray.size_append, ByteArray.size_extract, ByteArray.size_extract]; unfold maxLen; omega
      have HNEW : Hid ((S.extract 0 K ++ p ++ S.extract K S.size).size = t.size + (N + p.size) ∧ farN t (S.extract 0 K ++ p ++ S.extract K S.size) ≤ N + p.size) := Lib.hid ⟨by omega, by omega⟩
      have i1 : (j : Int) < (m : Int) := by omega
      have w3 : IntKind.i64.wrap ((N : Int) + (p.size : Int)) = (N : Int) + (p.size : Int) := IntWalk.i64_in _ ⟨by omega, by omega⟩
      have SZ : (S.size : Int) ≤ 500 := by omega
      have HSZ := Lib.hid hS
      clear q1 q2 hbel hrow hF hjl hS
      go_wp2_with fail
      go_quiet (fail)
      go_wp2_with fail
      exact ⟨⟨j + 1, N + p.size, _, by omega, by go_num, rfl, vl_int (by omega), by omega, HNEW.out.1, HNEW.out.2, below_drewN HBEL.out _⟩, by simp [intOf] <;> omega⟩
    · have hj' : j = m := by omega
      subst hj'
      have hsub := farN_sub t S
      have hfN : farN t S = N := by omega
      have HB := Lib.hid (fun w => bytes_near t S w (by omega) (by omega) (by omega))
      have H2 := Lib.hid (after H1.out hbel)
      clear hbel HBEL
      go_wp2_with fail
      refine (HB.out _).mono ?_
      rintro e w3 ⟨v3, wz, L, rfl, h23, hz, hfe, -, hd⟩
      obtain ⟨src2, cap2, rfl, hrow⟩ := hd.row (show (L.map toI).length = L.length by simp)
      have H3 := Lib.hid (after H2.out h23)
      obtain ⟨q1, q2, q3, q4, q5, q6⟩ := hfe.fits (by omega) (by omega) (by omega)
      obtain ⟨f1, f2, f3, f4, f5, f6⟩ := hfe
      have hsz := size_pieces t L 0 f1
      rw [f2] at hsz
      have HON := Lib.hid ((puts_only L 0 f1).2 (by omega))
      have hll : (L.map toI).length = L.length := by simp
      have hr3 : EdsIn w3 src2 (L.map toI) := fun h0 => by
        obtain ⟨g, h1, h2, h3⟩ := hrow (by omega)
        exact ⟨g, 0, h1, h2, h3⟩
      have HC := Lib.hid (fun w hr => cost_any src2 L.length cap2 (L.map toI) w hll (by omega) (fun e he => by
        obtain ⟨x, hx, rfl⟩ := List.mem_map.1 he
        exact q2 x hx) hr)
      rw [q4, hfN] at HC
      have HR3 := Lib.hid hr3
      have HROW := Lib.hid hrow
      obtain ⟨z, hz2⟩ : ∃ z, z = L.length := ⟨_, rfl⟩
      have HZ := Lib.hid hz2
      have hzb : z ≤ 514 := by omega
      rw [← hz2] at HC HROW ⊢
      clear h23 hz hd hrow q1 q2 q3 q4 q5 q6 f1 f2 f3 f4 f5 f6 hsz hll hr3 hz2 HB hsub hfN hF
      go_wp2_with fail
      refine (HC.out _ HR3.out).mono ?_
      rintro e w4 ⟨rfl, h34⟩
      have H4 := Lib.hid (after H3.out h34)
      have B34 := Lib.hid h34
      clear h34
      go_wp2_with fail
      go_loopw [78] (fun i wr => ∃ k : Nat, k ≤ z ∧ i = .int .i64 k ∧ Below w4.heap.size w4 wr) (fun i _ => z - (intOf i).toNat)
      case atStart => exact ⟨0, Nat.zero_le _, rfl, Below.refl _ _⟩
      case round =>
        obtain ⟨k, hk, rfl, hbel⟩ := hrel
        have HBEL := Lib.hid hbel
        by_cases hlt : k < z
        · have hkl : k < L.length := by rw [← HZ.out]; exact hlt
          obtain ⟨g, hs, hg, hrow⟩ := HROW.out (by omega)
          subst hs
          have hg4 : g < w4.heap.size := Nat.lt_of_lt_of_le hg B34.out.size
          have hrow := (hrow.below B34.out hg).below hbel hg4
          have hgr := Nat.lt_of_lt_of_le hg4 hbel.size
          obtain ⟨c0, c1, c2⟩ := hrow k (by simpa using hkl)
          rw [Nat.zero_add, toI_get L k (by simpa using hkl)] at c0 c1 c2
          have hon := HON.out _ (List.getElem_mem hkl)
          clear hrow hbel hg
          revert c0 c1 c2 hon
          generalize L[k] = x
          obtain ⟨x1, x2, x3⟩ := x
          intro c0 c1 c2 hon
          unfold toI at c0 c1 c2
          dsimp only at c0 c1 c2 hon
          subst hon
          clear hkl
          have i1 : (k : Int) < (z : Int) := by omega
          go_wp2_with fail
          exact ⟨⟨k + 1, by omega, by go_num, HBEL.out.alloc HBEL.out.size _⟩, by simp [intOf] <;> omega⟩
        · have hk' : k = z := by omega
          subst hk'
          have H5 := Lib.hid (after H4.out hbel)
          clear hbel HBEL
          go_wp2_with fail
          go_ret
          exact ⟨rfl, H5.out⟩

theorem diffPuts_any {w : World} (t : ByteArray) (ht : t.size ≤ maxLen) (v : Value) (l : List Int) (h : Ints w v l) (p : ByteArray) (hp : p.size ≤ maxLen) :
    Calls Try.prog 13 #[.string t, v, .string p] w fun e w' => e = .returned (.bool true) ∧ Below w.heap.size w w' := by
  obtain ⟨src, n, cap, rfl, hl, hn, hr⟩ := h
  unfold maxLen at ht hp hn
  by_cases h1 : 300 < t.size
  · have k1 : 300 < (t.size : Int) := by omega
    clear hr hl
    go_enter Try.func13, Try.ntmps13
    go_wp2_with (go_at_call 26; refine (finds_any _).mono ?_; rintro e w1 ⟨rfl, h01⟩)
    go_ret
    exact ⟨rfl, h01⟩
  · have k1 : ¬ 300 < (t.size : Int) := by omega
    by_cases h2 : 20 < n
    · have k2 : 20 < (n : Int) := by omega
      clear hr hl
      go_enter Try.func13, Try.ntmps13
      go_wp2_with (go_at_call 26; refine (finds_any _).mono ?_; rintro e w1 ⟨rfl, h01⟩)
      go_ret
      exact ⟨rfl, h01⟩
    · have k2 : ¬ 20 < (n : Int) := by omega
      by_cases h3 : 10 < p.size
      · have k3 : 10 < (p.size : Int) := by omega
        clear hr hl
        go_enter Try.func13, Try.ntmps13
        go_wp2_with (go_at_call 26; refine (finds_any _).mono ?_; rintro e w1 ⟨rfl, h01⟩)
        go_ret
        exact ⟨rfl, h01⟩
      · exact diffPuts_in t p src n cap l w hl hr (by omega) (by omega) (by omega)

end Go.Proofs.Ytepoiedophggkaa
