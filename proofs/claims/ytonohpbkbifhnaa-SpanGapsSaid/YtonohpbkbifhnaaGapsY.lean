/- SpanGaps: the walk, spans in order. -/
import Derived.Test.YtonohpbkbifhnaaGapsO
import Derived.Test.YtonohpbkbifhnaaJoinRows
import Derived.Test.YtonohpbkbifhnaaFrame
import Derived.Test.YtonohpbkbifhnaaGapFacts
import Derived.Lib.AppendZeros
namespace Go.Proofs.Ytonohpbkbifhnaa
open Go Go.RowKit
set_option linter.unusedVariables false

theorem SrcIs.step {w w' : World} {x : Value} {l : List (Int × Int)} (h : SrcIs w x l) (hb : Below w.heap.size w w') (hlt : ∀ b, x.ownBlock = some b → b < w.heap.size) : SrcIs w' x l :=
  h.grown (row := none) ⟨hb.os, hb.tape, hb.output, hb.size, fun k hk _ => hb.block k hk⟩ (fun b hb' => ⟨hlt b hb', by simp⟩)

/-- the gaps' row, as a value -/
theorem row_value {w : World} {base : Nat} {v : Value} {g : List (Int × Int)} (h : w.ownsRow base 24 2 v g.length (flat g)) :
    ∃ sa vc, v = .slice sa g.length vc ∧ (0 < g.length → ∃ gb, sa = some ⟨gb, 0, none⟩ ∧ gb < w.heap.size ∧ SpanAt w gb 0 g) := by
  rcases h.2 with ⟨h1, h2⟩ | ⟨b, cap, cur, h1, h2⟩
  · exact ⟨none, 0, by rw [h1, h2], fun hp => by omega⟩
  · refine ⟨_, _, h1, fun _ => ⟨b, rfl, (h.lt b (by rw [h1]; rfl)).2, fun i hi => ?_⟩⟩
    have hc := h.cells (g := b) (by rw [h1]; rfl)
    have g0 := flat_get g (i * 2)
    have g1 := flat_get g (i * 2 + 1)
    rw [if_pos (by omega), show i * 2 / 2 = i by omega, List.getElem?_eq_getElem hi] at g0
    rw [if_neg (by omega), show (i * 2 + 1) / 2 = i by omega, List.getElem?_eq_getElem hi] at g1
    have c0 := hc _ _ g0
    have c1 := hc _ _ g1
    rw [add_none] at c0 c1
    exact ⟨c0, by rw [Nat.add_assoc]; exact c1⟩

/-- while the places are counted: how many spans so far hold each -/
def SeenInv (w wb wr : World) (S m : Nat) (cnt : Nat → Nat) : Prop :=
  Below w.heap.size w wr ∧ (∀ b o, b < wb.heap.size → b ≠ S → wr.cell? ⟨b, o, none⟩ = wb.cell? ⟨b, o, none⟩) ∧ wb.heap.size ≤ wr.heap.size ∧
  (∀ j, j < m → wr.cell? ⟨S, j, none⟩ = some (.int .i64 (cnt j : Nat))) ∧ (∀ j, wr.frozen? ⟨S, j, none⟩ = false)
theorem SeenInv.start {w wr : World} {S m : Nat} {cnt : Nat → Nat} (h1 : Below w.heap.size w wr) (h4 : ∀ j, j < m → wr.cell? ⟨S, j, none⟩ = some (.int .i64 (cnt j : Nat))) (h5 : ∀ j, wr.frozen? ⟨S, j, none⟩ = false) : SeenInv w wr wr S m cnt :=
  ⟨h1, fun _ _ _ _ => rfl, Nat.le_refl _, h4, h5⟩
theorem SeenInv.box {w wb wr : World} {S m : Nat} {cnt : Nat → Nat} (h : SeenInv w wb wr S m cnt) (hS : S < wb.heap.size) (c : Array Value) (T : TypeId) :
    SeenInv w (wr.alloc (.cells c T)) (wr.alloc (.cells c T)) S m cnt := by
  obtain ⟨h1, h2, h3, h4, h5⟩ := h
  have hb : Below wr.heap.size wr (wr.alloc (.cells c T)) := (Below.refl _ _).alloc (Nat.le_refl _) _
  exact SeenInv.start (after h1 hb) (fun j hj => keep hb (by omega) (h4 j hj)) (fun j => ((bcell hb).2 _ _ (by omega)).trans (h5 j))
theorem SeenInv.back {w wb wr wi : World} {S m : Nat} {cnt cnt' : Nat → Nat} {c : Array Value} {T : TypeId} (h : SeenInv w wb wr S m cnt) (k : SeenInv w (wr.alloc (.cells c T)) wi S m cnt') : SeenInv w wb wi S m cnt' := by
  obtain ⟨h1, h2, h3, h4, h5⟩ := h
  obtain ⟨k1, k2, k3, k4, k5⟩ := k
  have hb : Below wr.heap.size wr (wr.alloc (.cells c T)) := (Below.refl _ _).alloc (Nat.le_refl _) _
  have hz := hb.size
  exact ⟨k1, fun b o hbb hne => (k2 b o (by omega) hne).trans (((bcell hb).1 b o (by omega)).trans (h2 b o hbb hne)), by omega, k4, k5⟩
theorem SeenInv.inc {w wk wr : World} {S m : Nat} {cnt cnt' : Nat → Nat} (h : SeenInv w wk wr S m cnt) (hS : w.heap.size ≤ S) (x : Nat) (hx : x < m) (e1 : cnt' x = cnt x + 1) (e2 : ∀ j, j ≠ x → cnt' j = cnt j) :
    SeenInv w wk (wr.setCell ⟨S, x, none⟩ (.int .i64 ((cnt x : Int) + 1))) S m cnt' := by
  obtain ⟨h1, h2, h3, h4, h5⟩ := h
  refine ⟨h1.setCell hS _, fun b o hb hne => ?_, by simpa [World.setCell] using h3, fun j hj => ?_, fun j => ?_⟩
  · rw [World.cell?_setCell_other _ _ _ _ (by simp <;> omega)]; exact h2 b o hb hne
  · by_cases hq : j = x
    · subst hq
      rw [World.cell?_setCell_same _ _ _ (h4 j hj), e1]; rfl
    · rw [World.cell?_setCell_other _ _ _ _ (by simp <;> omega), e2 j hq]; exact h4 j hj
  · rw [World.frozen?_setCell]; exact h5 j
theorem SeenInv.span {w wb wr : World} {S m G : Nat} {cnt : Nat → Nat} {L : List (Int × Int)} (h : SeenInv w wb wr S m cnt) (hr : SpanAt wb G 0 L) (hG : G < wb.heap.size) (hne : G ≠ S) : SpanAt wr G 0 L := fun i hi =>
  ⟨(h.2.1 _ _ hG hne).trans (hr i hi).1, (h.2.1 _ _ hG hne).trans (hr i hi).2⟩

theorem cntN_le (j : Int) (l : List (Int × Int)) : cntN j l ≤ l.length := by
  induction l with
  | nil => simp [cntN]
  | cons x l ih => have e : cntN j (x :: l) = covN j x + cntN j l := by simp [cntN]
                   have : covN j x ≤ 1 := by unfold covN; split <;> omega
                   rw [e]; simp; omega
theorem cntN_take (j : Int) (l : List (Int × Int)) (k : Nat) (h : k < l.length) : cntN j (l.take (k + 1)) = cntN j (l.take k) + covN j l[k] := by
  rw [List.take_succ_eq_append_getElem h, cntN_snoc]

/-- spans as the call takes them: each in the text, in order -/
theorem ord_of {m : Int} {l : List (Int × Int)} (hc : chkTo m l = true) (hs : sortedB l = true) : Ord l ∧ (∀ k, k < l.length → (l.getD k (0, 0)).2 ≤ m) ∧ ∀ x ∈ l, 0 ≤ x.1 ∧ x.1 ≤ x.2 ∧ x.2 ≤ m := by
  have h0 : ∀ x ∈ l, 0 ≤ x.1 ∧ x.1 ≤ x.2 ∧ x.2 ≤ m := fun x hx => by
    unfold chkTo at hc
    have := chkB_iff.1 (List.all_eq_true.1 hc x hx)
    omega
  have hg : ∀ k, k < l.length → l.getD k (0, 0) ∈ l := fun k hk => by rw [getD_get l k hk]; exact List.getElem_mem _
  refine ⟨⟨fun k hk => ?_, fun k hk => ?_⟩, fun k hk => (h0 _ (hg k hk)).2.2, h0⟩
  · have := h0 _ (hg k hk); omega
  · unfold sortedB at hs
    have h1 : okTo l (l.length - 1) = true := by
      cases h : okTo l (l.length - 1)
      · rw [h] at hs; simp at hs
      · rfl
    unfold okTo at h1
    have h2 := List.all_eq_true.1 h1 k (List.mem_range.2 (by omega))
    unfold pairB at h2
    have h3 : decide ((l.getD k (0, 0)).2 ≤ (l.getD (k + 1) (0, 0)).1) = true := by
      cases h : decide ((l.getD k (0, 0)).2 ≤ (l.getD (k + 1) (0, 0)).1)
      · rw [h] at h2; simp at h2
      · rfl
    exact of_decide_eq_true h3
/-- what the statement asks of the gaps -/
theorem gaps_facts {m n : Nat} {l : List (Int × Int)} (hn : l.length = n) (hc : chkTo (m : Nat) l = true) (hs : sortedB l = true) :
    (∀ x ∈ l ++ gapTo (l ++ [((m : Int), (m : Int))]) (n + 1), 0 ≤ x.1 ∧ x.1 ≤ x.2 ∧ x.2 ≤ m) ∧ (∀ j : Nat, j < m → cntN j (l ++ gapTo (l ++ [((m : Int), (m : Int))]) (n + 1)) = 1) ∧
    (∀ k, k < (gapTo (l ++ [((m : Int), (m : Int))]) (n + 1)).length → ((gapTo (l ++ [((m : Int), (m : Int))]) (n + 1)).getD k (0, 0)).1 < ((gapTo (l ++ [((m : Int), (m : Int))]) (n + 1)).getD k (0, 0)).2) ∧
    (∀ k, k + 1 < (gapTo (l ++ [((m : Int), (m : Int))]) (n + 1)).length → ((gapTo (l ++ [((m : Int), (m : Int))]) (n + 1)).getD k (0, 0)).2 ≤ ((gapTo (l ++ [((m : Int), (m : Int))]) (n + 1)).getD (k + 1) (0, 0)).1) := by
  subst hn
  obtain ⟨o1, o2, o3⟩ := ord_of hc hs
  have hw := gap_whole o1 (Int.natCast_nonneg m) o2
  obtain ⟨g1, g2⟩ := gap_order hw (l.length + 1) (by simp)
  have e : atTo (l ++ [((m : Int), (m : Int))]) (l.length + 1) = m := by
    show ((l ++ [((m : Int), (m : Int))]).getD l.length (0, 0)).2 = m
    rw [List.getD_eq_getElem?_getD, List.getElem?_append_right (Nat.le_refl _)]; simp
  rw [e] at g1
  refine ⟨fun x hx => ?_, fun j hj => gap_once o1 (Int.natCast_nonneg m) o2 j (by omega) (by omega), fun k h => by rw [getD_get _ k h]; exact (g1 _ (List.getElem_mem h)).2.1, fun k h => ?_⟩
  · rcases List.mem_append.1 hx with hx | hx
    · exact o3 x hx
    · have := g1 x hx; omega
  · rw [getD_get _ k (by omega), getD_get _ (k + 1) h]; exact List.pairwise_iff_getElem.1 g2 k (k + 1) (by omega) h (by omega)

set_option maxRecDepth 100000 in
set_option maxHeartbeats 4000000 in
theorem gapsl_yes (m n cap : Nat) (src : Option Addr) (l : List (Int × Int)) (w : World) (hl : l.length = n) (hn : n ≤ cap) (h60 : n ≤ 60) (hm : m ≤ 3000) (hc : chkTo (m : Nat) l = true) (hs : sortedB l = true)
    (HR : Hid (0 < n → ∃ b off, src = some ⟨b, off, none⟩ ∧ b < w.heap.size ∧ SpanAt w b off l))
    (HG : Hid (∀ w1, Below w.heap.size w w1 → Calls Try.prog 22 #[.int .i64 (m : Int), .slice src n cap] w1 fun e w2 => Below w1.heap.size w1 w2 ∧ ∃ v, e = .returned (.tuple #[v, .int .i64 0]) ∧ ∃ base, w2.ownsRow base 24 2 v (gapTo (l ++ [((m : Int), (m : Int))]) (n + 1)).length (flat (gapTo (l ++ [((m : Int), (m : Int))]) (n + 1)))))
    (SRT : Hid (∀ w1, Below w.heap.size w w1 → Calls Try.prog 23 #[.slice src n cap] w1 fun e w2 => e = .returned (.bool true) ∧ Below w1.heap.size w1 w2))
    (HX : Hid (∀ w1, Below w.heap.size w w1 → SrcIs w1 (.slice src n cap) l)) :
    Calls Try.prog 8 #[.int .i64 m, .slice src n cap] w fun e w' => e = .returned (.bool true) ∧ Below w.heap.size w w' := by
  have HO : Hid (ordQ l l.length = true) := Lib.hid (by
    by_cases h0 : l.length = 0
    · rw [h0]; rfl
    · exact (ordQ_all hc (by omega)).trans hs)
  have HFACT := Lib.hid (gaps_facts hl hc hs)
  have HGL := Lib.hid (gapTo_len (l ++ [((m : Int), (m : Int))]) (n + 1))
  have HL := Lib.hid hl
  have HF := Lib.hid hc
  clear hs hl hc
  go_enter Try.func8, Try.ntmps8
  go_wp2_with fail
  refine (spans_any _).mono ?_
  rintro e w1 ⟨rfl, h01⟩
  go_wp2_with fail
  refine (HG.out w1 h01).mono ?_
  rintro e w2 ⟨h12, v, rfl, base, hv⟩
  have HVS := Lib.hid (SrcIs.row hv)
  have HVB := Lib.hid (fun b hb => (hv.lt b hb).2)
  obtain ⟨sa, vc, rfl, hvv⟩ := row_value hv
  have HV := Lib.hid hvv
  have H02 := Lib.hid (after h01 h12)
  clear h01 h12 HG hv hvv
  generalize gapTo (l ++ [((m : Int), (m : Int))]) (n + 1) = g at *
  generalize hgl : g.length = gn at *
  go_wp2_with fail
  go_loopw [7, 8, 46] (fun p q i wr => ∃ k : Nat, k ≤ n ∧ i = .int .i64 k ∧ p = .bool (chkTo (m : Nat) (l.take k)) ∧ q = .bool (ordQ l k) ∧ Below w.heap.size w wr ∧ Below w2.heap.size w2 wr) (fun _ _ i _ => n - (intOf i).toNat)
  case atStart => exact ⟨0, Nat.zero_le _, rfl, rfl, rfl, H02.out, Below.refl _ _⟩
  case round =>
    obtain ⟨k, hk, rfl, rfl, rfl, hbel, hbel2⟩ := hrel
    have HBEL2 := Lib.hid hbel2
    clear hbel2
    have HB := hbel
    have hsz := hbel.size
    by_cases hlt : k < n
    · obtain ⟨b, off, rfl, hb, hr⟩ := HR.out (by omega)
      have HRR := Lib.hid hr
      have hbw : b < wr.heap.size := by omega
      clear hr
      have hkl : k < l.length := by rw [HL.out]; exact hlt
      obtain ⟨c0, c1⟩ := (HRR.out.below hbel hb) k hkl
      have SN := Lib.hid (chkTo_snoc (m : Nat) l k hkl)
      have HBEL := Lib.hid hbel
      clear hbel HB
      cases k with
      | zero =>
        have HQ : Hid (ordQ l (0 + 1) = true) := Lib.hid rfl
        rw [show ordQ l 0 = true from rfl, show chkTo (m : Nat) (l.take 0) = true from rfl]
        rw [show chkTo (m : Nat) (l.take 0) = true from rfl] at SN
        revert c0 c1 SN
        generalize l[0] = x
        obtain ⟨x1, x2⟩ := x
        intro c0 c1 SN
        dsimp only at c0 c1 SN
        rw [show off + 0 * 2 = off by omega] at c0 c1
        clear hkl
        cases hm : mayB x1 x2
        all_goals
          go_wp2_with (go_at_call 15; refine (may_any _ _ _).mono ?_; rintro e w' ⟨rfl, rfl⟩)
          all_goals
            have HB := HBEL.out
            have HB2 := HBEL2.out
            have hs2 := HB2.size
            exact ⟨⟨0 + 1, by omega, by go_num, congrArg Value.bool (by rw [SN.out, Bool.eq_iff_iff]; simp [chkB, hm] <;> omega), congrArg Value.bool (by rw [HQ.out]), by repeat (first | exact Below.refl _ _ | apply Below.setCell _ (by first | omega | (simp <;> omega)) | apply Below.alloc _ (by first | omega | (simp <;> omega)) | exact HB | refine after ?_ HB), by (repeat (first | exact Below.refl _ _ | exact HB2 | apply Below.alloc _ (by first | omega | (simp <;> omega))))⟩, by simp [intOf]; omega⟩
      | succ j =>
        obtain ⟨d0, d1⟩ := (HRR.out.below HBEL.out hb) j (by omega)
        have HQ : Hid (ordQ l (j + 1 + 1) = (ordQ l (j + 1) && ordB l[j] l[j + 1])) := Lib.hid (by show (ordQ l (j + 1) && ordB (l.getD j (0, 0)) (l.getD (j + 1) (0, 0))) = _; rw [getD_get l j (by omega), getD_get l (j + 1) hkl])
        revert c0 c1 SN d0 d1 HQ
        generalize l[j + 1] = x
        generalize l[j] = y
        obtain ⟨x1, x2⟩ := x
        obtain ⟨y1, y2⟩ := y
        intro c0 c1 SN d0 d1 HQ
        dsimp only at c0 c1 SN d0 d1 HQ
        clear hkl
        cases hO : ordQ l (j + 1) <;> cases hI : chkTo (m : Nat) (l.take (j + 1)) <;> cases hm : mayB x1 x2
        all_goals
          rw [hO] at HQ
          rw [hI] at SN
          go_wp2_with (go_at_call 15; refine (may_any _ _ _).mono ?_; rintro e w' ⟨rfl, rfl⟩)
          all_goals
            have HB := HBEL.out
            have HB2 := HBEL2.out
            have hs2 := HB2.size
            exact ⟨⟨j + 1 + 1, by omega, by go_num, congrArg Value.bool (by rw [SN.out, Bool.eq_iff_iff]; simp [chkB, hm] <;> omega), congrArg Value.bool (by rw [HQ.out, Bool.eq_iff_iff]; simp [ordB] <;> omega), by repeat (first | exact Below.refl _ _ | apply Below.setCell _ (by first | omega | (simp <;> omega)) | apply Below.alloc _ (by first | omega | (simp <;> omega)) | exact HB | refine after ?_ HB), by (repeat (first | exact Below.refl _ _ | exact HB2 | apply Below.alloc _ (by first | omega | (simp <;> omega))))⟩, by simp [intOf]; omega⟩
    · have hk' : k = l.length := by have := HL.out; omega
      have E : chkTo (m : Nat) (l.take k) = true := by rw [hk', List.take_length]; exact HF.out
      have E2 : ordQ l k = true := by rw [hk']; exact HO.out
      rw [E, E2]
      have HB1 := Lib.hid HB
      have HB2 := HBEL2
      clear E E2 hk' HB hbel
      go_wp2_with fail
      refine (SRT.out wr HB1.out).mono ?_
      rintro e w4 ⟨rfl, h34⟩
      obtain ⟨W1, hmk, hms, hmb, hmc, hmf⟩ := made_ints m w4 (by omega)
      obtain ⟨va, wa, vb, wb, hap1, hap2, hbw1, G, cap', rfl, hc1, hc2, hG1, hG2, hG3⟩ := append_two W1 (.slice src n cap) (.slice sa gn vc) l g
        (fun W hW => HX.out _ (after (after HB1.out (after h34 hmb)) hW))
        (HVS.out.step (after HB2.out (after h34 hmb)) HVB.out) (fun b' hb' => by have := HVB.out b' hb'; have := HB2.out.size; have := h34.size; omega) (by have := HL.out; have := HGL.out; omega)
      have HMC := Lib.hid hmc
      have HMF := Lib.hid hmf
      have HMB := Lib.hid hmb
      have HBW := Lib.hid hbw1
      have HG3 := Lib.hid hG3
      clear hmc hmf hmb hbw1 hG3
      rw [HL.out, hgl] at hap2 hc1
      go_wp2_with (at_builtin; first | refine Lib.wpList_append_run _ rfl _ _ _ _ rfl _ _ rfl rfl _ _ hap1 ?_ | refine Lib.wpList_append_run _ rfl _ _ _ _ rfl _ _ rfl rfl _ _ hap2 ?_)
      clear hap1 hap2 hmk
      have hS0 : w.heap.size ≤ w4.heap.size := (after HB1.out h34).size
      have hGS : G ≠ w4.heap.size := by omega
      have hS3 : w2.heap.size ≤ w4.heap.size := (after HB2.out h34).size
      have hgn : gn ≤ n + 1 := HGL.out
      have hS1 : w4.heap.size < wb.heap.size := by have := HBW.out.size; omega
      have HSI : Hid (SeenInv w wb wb w4.heap.size m (fun j => cntN j ((l ++ g).take 0))) := Lib.hid (SeenInv.start (after (after (after HB1.out h34) HMB.out) HBW.out) (fun j hj => keep HBW.out hms (HMC.out j hj)) (fun j => ((bcell HBW.out).2 _ _ hms).trans (HMF.out j)))
      have HLL := Lib.hid (show (l ++ g).length = n + gn by rw [List.length_append, HL.out, hgl])
      have HKEEP := Lib.hid (after (after (after HB2.out h34) HMB.out) HBW.out)
      clear HMC HMF HMB HBW h34 hms
      obtain ⟨SS, hSS⟩ : ∃ SS, SS = w4.heap.size := ⟨_, rfl⟩
      rw [← hSS] at hS0 hGS hS1 hS3 HSI ⊢
      clear hSS
      go_loopw [121] (fun i wr' => ∃ k2 : Nat, k2 ≤ n + gn ∧ i = .int .i64 k2 ∧ SeenInv w wb wr' SS m (fun j => cntN j ((l ++ g).take k2))) (fun i _ => n + gn - (intOf i).toNat)
      case atStart => exact ⟨0, Nat.zero_le _, rfl, HSI.out⟩
      case round =>
        obtain ⟨k2, hk2, rfl, hsi⟩ := hrel
        have HSI2 := Lib.hid hsi
        by_cases hlt2 : k2 < n + gn
        · have hkl : k2 < (l ++ g).length := by rw [HLL.out]; exact hlt2
          obtain ⟨x0, x1⟩ := (hsi.span HG3.out hG2 hGS) k2 hkl
          obtain ⟨b0, b1, b2⟩ := HFACT.out.1 _ (List.getElem_mem hkl)
          have HCT := Lib.hid (fun j : Nat => cntN_take (j : Int) (l ++ g) k2 hkl)
          have HCB := Lib.hid (fun j : Nat => Nat.le_trans (cntN_le (j : Int) ((l ++ g).take k2)) (List.length_take_le _ _))
          have HX := Lib.hid (hsi.box hS1 #[.int .i64 (l ++ g)[k2].1, .int .i64 (l ++ g)[k2].2] 24)
          have hsz' := hsi.2.2.1
          clear hsi
          revert x0 x1 b0 b1 b2 HCT HX
          generalize (l ++ g)[k2] = x
          obtain ⟨xa, xb⟩ := x
          intro x0 x1 b0 b1 b2 HCT HX
          dsimp only at x0 x1 b0 b1 b2 HCT HX
          rw [Nat.zero_add] at x0 x1
          obtain ⟨a1, rfl⟩ := Int.eq_ofNat_of_zero_le b0
          obtain ⟨a2, rfl⟩ := Int.eq_ofNat_of_zero_le (show 0 ≤ xb by omega)
          have b1' : a1 ≤ a2 := by omega
          have b2' : a2 ≤ m := by omega
          clear b0 b1 b2 hkl
          rename World => wo
          go_wp2_with fail
          go_loopw [15] (fun i wi => ∃ x : Nat, a1 ≤ x ∧ x ≤ a2 ∧ i = .int .i64 x ∧ SeenInv w (wo.alloc (.cells #[.int .i64 a1, .int .i64 a2] 24)) wi SS m (fun j => cntN j ((l ++ g).take k2) + if a1 ≤ j ∧ j < x then 1 else 0)) (fun i _ => a2 - (intOf i).toNat)
          case atStart =>
            refine ⟨a1, Nat.le_refl _, b1', rfl, ?_⟩
            have e : (fun j : Nat => cntN (j : Int) ((l ++ g).take k2) + if a1 ≤ j ∧ j < a1 then 1 else 0) = fun j : Nat => cntN (j : Int) ((l ++ g).take k2) := by
              funext j; rw [if_neg (by omega)]; rfl
            rw [e]; exact HX.out
          case round =>
            obtain ⟨x, hx1, hx2, rfl, hsx⟩ := hrel
            have HSX := Lib.hid hsx
            have y0 : wr.cell? ⟨wo.heap.size, 0, none⟩ = some (.int .i64 (a1 : Int)) := (hsx.2.1 (wo.heap.size) 0 (by simp) (by omega)).trans (by simp [go_sem])
            have y1 : wr.cell? ⟨wo.heap.size, 1, none⟩ = some (.int .i64 (a2 : Int)) := (hsx.2.1 (wo.heap.size) 1 (by simp) (by omega)).trans (by simp [go_sem])
            by_cases hlt3 : x < a2
            · have z0 : wr.cell? ⟨SS, x, none⟩ = some (.int .i64 (cntN (x : Int) ((l ++ g).take k2) : Nat)) := by
                have := hsx.2.2.2.1 x (by omega)
                dsimp only at this
                rw [if_neg (show ¬ (a1 ≤ x ∧ x < x) by omega)] at this
                exact this
              have z1 := hsx.2.2.2.2 x
              have hcb := HCB.out x
              have HC1 := Lib.hid (show (cntN (x : Int) ((l ++ g).take k2) + if a1 ≤ x ∧ x < x then 1 else 0) = cntN (x : Int) ((l ++ g).take k2) by rw [if_neg (by omega)]; rfl)
              clear hsx
              generalize hcg : cntN (x : Int) ((l ++ g).take k2) = c at *
              have HCG := Lib.hid hcg
              clear hcg
              have hc1000 : (c : Int) ≤ 1000 := by have := HGL.out; omega
              clear hcb
              go_wp2_with fail
              go_roundw
              case rel =>
                refine ⟨x + 1, by omega, by omega, by go_num, ?_⟩
                have := HSX.out.inc hS0 x (by omega) (cnt' := fun j : Nat => cntN (j : Int) ((l ++ g).take k2) + if a1 ≤ j ∧ j < x + 1 then 1 else 0) (by rw [if_neg (show ¬ (a1 ≤ x ∧ x < x) by omega), if_pos (by omega)]) (fun j hj => by
                  by_cases hq : a1 ≤ j ∧ j < x
                  · rw [if_pos hq, if_pos (by omega)]
                  · rw [if_neg hq, if_neg (by omega)])
                rw [HCG.out, HC1.out] at this
                exact this
              case measure => simp [intOf]; omega
            · have hxe : x = a2 := by omega
              subst hxe
              clear hsx
              go_wp2_with fail
              go_roundw
              case rel =>
                refine ⟨k2 + 1, by omega, by go_num, ?_⟩
                have := HSI2.out.back HSX.out
                have e : (fun j : Nat => cntN (j : Int) ((l ++ g).take (k2 + 1))) = fun j : Nat => cntN (j : Int) ((l ++ g).take k2) + if a1 ≤ j ∧ j < x then 1 else 0 := by
                  funext j
                  rw [HCT.out j]
                  unfold covN
                  by_cases hq : a1 ≤ j ∧ j < x
                  · rw [if_pos hq, if_pos (by simp only; omega)]
                  · rw [if_neg hq, if_neg (by simp only; omega)]
                rw [e]; exact this
              case measure => simp [intOf]; omega
        · have hke : k2 = (l ++ g).length := by have := HLL.out; omega
          have HSI3 : Hid (∀ j : Nat, j < m → wr.cell? ⟨SS, j, none⟩ = some (.int .i64 1)) := Lib.hid (fun j hj => by
            have := hsi.2.2.2.1 j hj
            simp only at this
            rw [this, hke, List.take_length, HFACT.out.2.1 j hj]; rfl)
          clear hke
          have HB5 := Lib.hid hsi.1
          have HK5 := Lib.hid (fun (gb o : Nat) (hgb : gb < w2.heap.size) => (hsi.2.1 gb o (by have := HKEEP.out.size; omega) (by omega)).trans (((bcell HKEEP.out).1 gb o hgb)))
          have hz5 := hsi.2.2.1
          clear hsi
          rename World => w5
          go_wp2_with fail
          go_loopw [142] (fun i wi => ∃ k3 : Nat, k3 ≤ m ∧ i = .int .i64 k3 ∧ wi = w5) (fun i _ => m - (intOf i).toNat)
          case atStart => exact ⟨0, Nat.zero_le _, rfl, rfl⟩
          case round =>
            obtain ⟨k3, hk3, rfl, rfl⟩ := hrel
            by_cases hlt4 : k3 < m
            · have z0 := HSI3.out k3 hlt4
              go_wp2_with fail
              go_roundw
              case rel => exact ⟨k3 + 1, by omega, by go_num, by first | rfl | trivial⟩
              case measure => simp [intOf]; omega
            · rename World => w6
              go_wp2_with fail
              go_loopw [151] (fun i wi => ∃ k4 : Nat, k4 ≤ gn ∧ i = .int .i64 k4 ∧ Below w6.heap.size w6 wi) (fun i _ => gn - (intOf i).toNat)
              case atStart => exact ⟨0, Nat.zero_le _, rfl, Below.refl _ _⟩
              case round =>
                obtain ⟨k4, hk4, rfl, hb6⟩ := hrel
                have HB6 := Lib.hid hb6
                have hz6 := hb6.size
                by_cases hlt5 : k4 < gn
                · obtain ⟨gb, rfl, hgb, hrow⟩ := HV.out (by omega)
                  have hkg : k4 < g.length := by omega
                  have hgb6 : gb < w6.heap.size := by have := HKEEP.out.size; omega
                  have e0 := (hrow k4 hkg).1
                  have e1 := (hrow k4 hkg).2
                  rw [Nat.zero_add] at e0 e1
                  rw [← HK5.out gb _ hgb] at e0 e1
                  have c0 := keep hb6 hgb6 e0
                  have c1 := keep hb6 hgb6 e1
                  have q1 := HFACT.out.2.2.1 k4 (by omega)
                  rw [getD_get g k4 hkg] at q1
                  have hgbw : gb < wr.heap.size := by omega
                  have HROW := Lib.hid hrow
                  clear hrow e0 e1 hb6
                  cases k4 with
                  | zero =>
                    revert c0 c1 q1
                    generalize g[0] = x
                    obtain ⟨x1, x2⟩ := x
                    intro c0 c1 q1
                    dsimp only at c0 c1 q1
                    rw [show 0 * 2 = 0 by omega] at c0 c1
                    have d0 : decide (x2 ≤ x1) = false := decide_eq_false (by omega)
                    go_wp2_with fail
                    go_quiet (fail)
                    go_wp2_with fail
                    go_roundw
                    case rel => exact ⟨0 + 1, by omega, by go_num, below_drewN (HB6.out.alloc hz6 _) _⟩
                    case measure => simp [intOf]; omega
                  | succ j =>
                    have f1 := (HROW.out j (by omega)).2
                    rw [Nat.zero_add, ← HK5.out gb _ hgb] at f1
                    have c2 := keep HB6.out hgb6 f1
                    have q2 := HFACT.out.2.2.2 j (by omega)
                    rw [getD_get g j (by omega), getD_get g (j + 1) hkg] at q2
                    clear f1
                    revert c0 c1 q1 c2 q2
                    generalize g[j + 1] = x
                    generalize g[j] = y
                    obtain ⟨x1, x2⟩ := x
                    obtain ⟨y1, y2⟩ := y
                    intro c0 c1 q1 c2 q2
                    dsimp only at c0 c1 q1 c2 q2
                    have d0 : decide (x2 ≤ x1) = false := decide_eq_false (by omega)
                    have d1 : decide (x1 < y2) = false := decide_eq_false (by omega)
                    have d2 : decide (0 < (j : Int) + 1) = true := decide_eq_true (by omega)
                    have d3 : (j : Int) + 1 - 1 = (j : Int) := by omega
                    clear hkg
                    go_wp2_with fail
                    go_quiet (fail)
                    go_wp2_with fail
                    go_roundw
                    case rel => exact ⟨j + 1 + 1, by omega, by go_num, below_drewN (HB6.out.alloc hz6 _) _⟩
                    case measure => simp [intOf]; omega
                · have hke : k4 = gn := by omega
                  subst hke
                  go_wp2_with fail
                  go_ret
                  exact ⟨rfl, after HB5.out hb6⟩

end Go.Proofs.Ytonohpbkbifhnaa
