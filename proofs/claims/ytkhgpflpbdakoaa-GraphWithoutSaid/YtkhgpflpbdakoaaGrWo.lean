/- GraphWithout: the walk. -/
import Derived.Test.YtkhgpflpbdakoaaGrWm
import Derived.Test.YtkhgpflpbdakoaaGrFt
import Derived.Deep.AppendLies
namespace Go.Proofs.Ytkhgpflpbdakoaa
open Go Go.RowKit
set_option linter.unusedVariables false
set_option linter.unusedSimpArgs false

theorem step_append_r {P : Program} {ops : Array Oper} {o : Oper} {a : Act} {w : World} {K : Act → World → Prop} {Q : Exit → Act → World → Prop} {E : Prop}
    (hg : o.guard = none) (s x : Operand) (t : TypeId) (hop : o.op = Op.call { callee := Callee.builtin Builtin.append, args := #[s, x], argTypes := #[t, t] })
    (base : Nat) (e : TypeId) (i : TypeInfo) (z : Value) (size bytes : Nat) (h1 : P.underlying t = some (.slice e)) (h2 : P.info? e = some i) (h3 : i.zero = some z) (h4 : i.size = size) (h5 : i.bytes = bytes) (h6 : z.cells.size = size) (h7 : 0 < size)
    (v : Value) (n : Nat) (xs : List Value) (hs : a.eval s = v) (hown : w.ownsRow base e size v n xs)
    (ad : Addr) (m c : Nat) (news : List Value) (hx : a.eval x = .slice (some ad) m c) (hn : news.length = m * size) (hc : ∀ j u, news[j]? = some u → w.cell? (ad.add j) = some u) (h1c : ∀ u ∈ news, u.oneCell' = true)
    (b1 : n + m ≤ maxLen) (b2 : (n + m) * bytes ≤ 140737488355328) (hb : base ≤ w.heap.size)
    (hK : ∀ v' w', w'.ownsRow base e size v' (n + m) (xs ++ news) → w.grownBy w' v.ownBlock → (v' = .slice none 0 0 ↔ v = .slice none 0 0 ∧ m = 0) → K (a.put o.dst v') w') :
    if Region.wanted o (yielded ops a.tmps) = true then Oper.wp P o a w K Q else E := by
  have hw : Region.wanted o (yielded ops a.tmps) = true := by simp [Region.wanted, hg]
  rw [if_pos hw]
  obtain ⟨v', w', hrun, r1, r2, r3⟩ := run_append_own (P := P) w base t o.type e i z size bytes h1 h2 h3 h4 h5 h6 h7 v n xs hown ad m c news hn hc h1c b1 b2 hb
  unfold Oper.wp
  simp [execOp, hop, resolve, invoke, builtin, hs, hx, hrun, Result.andThen]
  exact hK v' w' r1 r2 r3

theorem withoutN {w : World} (z : Int) (v : Value) (l : List Eg) (hv : EgV w v l) (hl : l.length ≤ 9223372036854775807) (h : z < 0 ∨ 60 < z ∨ 150 < l.length) (y : Int) :
    Calls Try.prog 7 #[.int .i64 z, v, .int .i64 y] w fun e w' => e = .returned (.bool true) ∧ Below w.heap.size w w' := by
  have HB := Lib.hid (fun (w1 : World) (hb : Below w.heap.size w w1) => build_no z v l (hv.step hb) hl h)
  clear hv hl h
  go_enter Try.func7, Try.ntmps7
  go_wp2_with fail
  refine (lcomes_any _).mono ?_
  rintro e w1 ⟨rfl, k1⟩
  have K1 := Lib.hid k1
  go_wp2_with fail
  refine (HB.out _ k1).mono ?_
  rintro e w2 ⟨rfl, k2⟩
  have K2 := Lib.hid k2
  clear k1 k2
  go_wp2_with fail
  go_ret
  exact ⟨rfl, after K1.out K2.out⟩

/-- the edges as they are, or but one -/
def restX (L : List Eg) (k : Int) : List Eg := if 0 ≤ k ∧ k < L.length then restL L k.toNat else L
theorem restX_least {L : List Eg} {k : Int} {n : Nat} {F : Nat → Bool} (h : leastP (restX L k) opAll n F) : leastP L (opBut k) n F := by
  unfold restX at h
  by_cases q : 0 ≤ k ∧ k < L.length
  · rw [if_pos q] at h
    obtain ⟨j, rfl⟩ : ∃ j : Nat, k = (j : Int) := ⟨k.toNat, by omega⟩
    exact least_rest (by omega) h
  · rw [if_neg q] at h
    exact least_out q h
theorem restX_mem {L : List Eg} {k : Int} {e : Eg} (h : e ∈ restX L k) : e ∈ L := by
  unfold restX at h
  split at h
  · exact rest_mem h
  · exact h
theorem restX_len (L : List Eg) (k : Int) : (restX L k).length ≤ L.length := by
  unfold restX
  split
  · rw [rest_len (by omega)]; omega
  · exact Nat.le_refl _

theorem grown_below {w w' : World} {B n : Nat} {e : TypeId} {s : Nat} {v : Value} {xs : List Value} (h : w.ownsRow B e s v n xs) (hB : B ≤ w.heap.size) (hg : w.grownBy w' v.ownBlock) : Below B w w' :=
  ⟨hg.os, hg.tape, hg.output, hg.size, fun k hk => hg.block k (Nat.lt_of_lt_of_le hk hB) (fun q => by have := row_base h q.symm; omega)⟩
theorem own_cap {w : World} {B n : Nat} {e : TypeId} {s : Nat} {g : Option Addr} {c : Nat} {xs : List Value} (h : w.ownsRow B e s (.slice g n c) n xs) : n ≤ c ∧ c ≤ maxLen := by
  rcases h.2 with ⟨hv, h0⟩ | ⟨g2, cap, cur, hv, _, _, h1, h2, _⟩
  · simp only [Value.slice.injEq] at hv
    obtain ⟨_, _, rfl⟩ := hv
    exact ⟨by omega, Nat.zero_le _⟩
  · simp only [Value.slice.injEq] at hv
    obtain ⟨_, _, rfl⟩ := hv
    exact ⟨h1, h2⟩
theorem flat_take {L : List Eg} {k : Nat} {j : Nat} {u : Value} (h : (flatG (L.take k))[j]? = some u) : (flatG L)[j]? = some u := by
  have e : flatG L = flatG (L.take k) ++ flatG (L.drop k) := by
    conv => lhs; rw [← List.take_append_drop k L]
    unfold flatG
    rw [List.flatMap_append]
  have hj : j < (flatG (L.take k)).length := by
    rcases Nat.lt_or_ge j (flatG (L.take k)).length with q | q
    · exact q
    · rw [List.getElem?_eq_none q] at h; cases h
  rw [e, List.getElem?_append_left hj]
  exact h
theorem flat_drop {L : List Eg} {k : Nat} (hk : k ≤ L.length) {j : Nat} {u : Value} (h : (flatG (L.drop k))[j]? = some u) : (flatG L)[k * 4 + j]? = some u := by
  have e : flatG L = flatG (L.take k) ++ flatG (L.drop k) := by
    conv => lhs; rw [← List.take_append_drop k L]
    unfold flatG
    rw [List.flatMap_append]
  have hl : (flatG (L.take k)).length = k * 4 := by rw [flatG_len, List.length_take]; omega
  rw [e, List.getElem?_append_right (by omega), hl]
  rw [show k * 4 + j - k * 4 = j by omega]
  exact h

set_option maxRecDepth 100000 in
set_option maxHeartbeats 8000000 in
theorem withoutY {w : World} (n : Nat) (hn : n ≤ 60) (v : Value) (l : List Eg) (hv : EgV w v l) (hin : ∀ e ∈ l, EgIn e) (hl : l.length ≤ 150) (z : Int) (hz64 : In64 z) :
    Calls Try.prog 7 #[.int .i64 (n : Int), v, .int .i64 z] w fun e w' => e = .returned (.bool true) ∧ Below w.heap.size w w' := by
  have HB := Lib.hid (fun (w1 : World) (hb : Below w.heap.size w w1) => build_any n hn v l (hv.step hb) hin hl)
  have HN := Lib.hid hn
  clear hv hin hl hn
  go_enter Try.func7, Try.ntmps7
  go_wp2_with fail
  refine (lcomes_any _).mono ?_
  rintro e w1 ⟨rfl, k1⟩
  have K1 := Lib.hid k1
  go_wp2_with fail
  refine (HB.out _ k1).mono ?_
  rintro e w2 ⟨g, L, av, B, top, rfl, hai, hok, hL⟩
  clear HB k1
  have K2 := Lib.hid (after K1.out hai.bel)
  obtain ⟨S, hSg, hG⟩ := hai.graph
  subst hSg
  have HEV := Lib.hid (EgV.of_row hai.row.1)
  obtain ⟨ag, ac, rfl⟩ := own_any_shape hai.row.1
  have OC := Lib.hid (own_cap hai.row.1)
  have HG := Lib.hid hG
  have HOK := Lib.hid hok
  have HL := Lib.hid hL
  have HSO := Lib.hid (solve_any hG (by have := HN.out; omega) (by omega) hok)
  clear hai hok hL hG K1
  obtain ⟨nl, hnl⟩ : ∃ nl, nl = L.length := ⟨_, rfl⟩
  rw [← hnl] at HEV OC ⊢
  have HNL := Lib.hid hnl
  clear hnl
  go_wp2_with fail
  refine HSO.out.mono ?_
  rintro e w3 ⟨v3, s, rfl, hv3, hfo, h3⟩
  have FL := Lib.hid (found_least HOK.out hfo)
  have V3 := Lib.hid hv3.bl
  have K3 := Lib.hid (after K2.out h3)
  have B23 := Lib.hid h3
  have HWO := Lib.hid (without_any (HG.out.step h3) (by have := HN.out; omega) (by have := HL.out; omega) HOK.out z)
  have DS : Hid (∀ y : Nat, y < n → ∃ d, Dist L opAll y d) := Lib.hid (fun y hy => ⟨_, hfo.1.dist HOK.out hfo.2.1 y hy⟩)
  clear hv3 hfo h3 HSO
  go_wp2_with fail
  refine HWO.out.mono ?_
  rintro e w4 ⟨v4, s2, rfl, hv4, hfo, h4⟩
  have FW := Lib.hid (found_least HOK.out hfo)
  have V4 := Lib.hid hv4.bl
  have V3 := Lib.hid (V3.out.step h4)
  have K4 := Lib.hid (after K3.out h4)
  have B24 := Lib.hid (after B23.out h4)
  obtain ⟨g3, c3, rfl, hx3⟩ := V3.out
  have X3 : Hid (BlAt w4 g3 n (fun z => s.far z != -1)) := Lib.hid hx3
  obtain ⟨g4, c4, rfl, hx4⟩ := V4.out
  have X4 : Hid (BlAt w4 g4 n (fun z => s2.far z != -1)) := Lib.hid hx4
  have HE4 := Lib.hid (HEV.out.step B24.out)
  obtain ⟨fa, hfa⟩ : ∃ fa : Nat → Bool, fa = fun z => s.far z != -1 := ⟨_, rfl⟩
  obtain ⟨fw, hfw⟩ : ∃ fw : Nat → Bool, fw = fun z => s2.far z != -1 := ⟨_, rfl⟩
  rw [← hfa] at X3 FL
  rw [← hfw] at X4 FW
  clear hv4 hfo h4 HWO hx3 hx4 V3 V4 B23 K3 HEV hfa hfw
  go_upto_region 8 with fail
  obtain ⟨q, hq⟩ : ∃ q : Bool, q = true ↔ (0 ≤ z ∧ z < L.length) := ⟨decide (0 ≤ z ∧ z < L.length), by simp⟩
  have HQ := Lib.hid hq
  clear hq
  go_cut [39] from 32 to 39 (fun s39 wz => s39 = .bool q ∧ wz = w4)
  case first =>
    by_cases p1 : 0 ≤ z
    · by_cases p2 : z < (nl : Int)
      · have hd : q = true := HQ.out.2 ⟨p1, by rw [← HNL.out]; exact p2⟩
        go_wp2_with fail
        go_meet
        exact ⟨by rw [hd], rfl⟩
      · have hd : q = false := by
          cases q with
          | false => rfl
          | true => exact absurd (by rw [HNL.out]; exact (HQ.out.1 rfl).2) p2
        go_wp2_with fail
        go_meet
        exact ⟨by rw [hd], rfl⟩
    · have hd : q = false := by
        cases q with
        | false => rfl
        | true => exact absurd (HQ.out.1 rfl).1 p1
      go_wp2_with fail
      go_meet
      exact ⟨by rw [hd], rfl⟩
  case rest =>
    obtain ⟨rfl, hw⟩ := hcut
    replace hw := hw.symm
    subst hw
    go_upto_if 39 with fail
    go_cut [12] from 40 to 49 (fun s12 wz => EgV wz s12 (restX L z) ∧ Below w4.heap.size w4 wz)
    case first =>
      cases q with
      | true =>
        have hz := HQ.out.1 rfl
        obtain ⟨k, rfl⟩ : ∃ k : Nat, z = (k : Int) := ⟨z.toNat, by omega⟩
        have hkl : k < L.length := by omega
        obtain ⟨xg, xc, hxv, hxx⟩ := HE4.out
        obtain ⟨b, off, hag, hbl, -⟩ := hxx 0 (by omega)
        simp only [Value.slice.injEq] at hxv
        obtain ⟨hag2, -, -⟩ := hxv
        subst hag2
        subst hag
        clear hxx
        obtain ⟨-, hfl⟩ := HE4.out.flat
        have HFL := Lib.hid (hfl b off rfl)
        clear hfl
        have FT : Hid (∀ W, Below w4.heap.size w4 W → ∀ j u, (flatG (L.take k))[j]? = some u → W.cell? ((⟨b, off, none⟩ : Addr).add j) = some u) := Lib.hid (fun W hW j u hj => by
          have := HFL.out j u (flat_take hj)
          rw [add_at] at this ⊢
          exact keep hW hbl this)
        obtain ⟨a2, hpa⟩ : ∃ a2 : Addr, (if ac = k + 1 then some (⟨b, off, none⟩ : Addr) else some ⟨b, off + (k + 1) * 4, none⟩) = some a2 := by
          by_cases g : ac = k + 1
          · exact ⟨_, by rw [if_pos g]⟩
          · exact ⟨_, by rw [if_neg g]⟩
        have FD : Hid (∀ W, Below w4.heap.size w4 W → ∀ j u, (flatG (L.drop (k + 1)))[j]? = some u → W.cell? (a2.add j) = some u) := Lib.hid (fun W hW j u hj => by
          by_cases g : ac = k + 1
          · have : L.drop (k + 1) = [] := List.drop_eq_nil_of_le (by have := OC.out.1; have := HNL.out; omega)
            rw [this] at hj
            simp [flatG] at hj
          · rw [if_neg g] at hpa
            cases hpa
            have := HFL.out _ u (flat_drop (by omega) hj)
            rw [add_at] at this ⊢
            rw [Nat.add_assoc]
            exact keep hW hbl this)
        have LT : Hid ((flatG (L.take k)).length = k * 4) := Lib.hid (by rw [flatG_len, List.length_take]; omega)
        have LD : Hid ((flatG (L.drop (k + 1))).length = (nl - (k + 1)) * 4) := Lib.hid (by rw [flatG_len, List.length_drop, HNL.out])
        have N1 : Hid (0 + k ≤ maxLen) := Lib.hid (by have := HL.out; unfold maxLen; omega)
        have N2 : Hid ((0 + k) * 32 ≤ 140737488355328) := Lib.hid (by have := HL.out; omega)
        have N3 : Hid (0 + k + (nl - (k + 1)) ≤ maxLen) := Lib.hid (by have := HL.out; have := HNL.out; unfold maxLen; omega)
        have N4 : Hid ((0 + k + (nl - (k + 1))) * 32 ≤ 140737488355328) := Lib.hid (by have := HL.out; have := HNL.out; omega)
        obtain ⟨i0, hi0, hz0, hs0, hb0⟩ := info_parts infoR
        have OWN0 : Hid (∀ W : World, W.heap = (w4.alloc (.cells #[] 41)).heap → W.ownsRow w4.heap.size 41 4 (.slice (some ⟨w4.heap.size, 0, none⟩) 0 0) 0 []) := Lib.hid (fun W hW => ⟨rfl, .inr ⟨w4.heap.size, 0, #[], rfl, Nat.le_refl _, by rw [hW]; have := Bx.new 41 w4 #[]; simpa [Bx] using this, Nat.le_refl _, Nat.zero_le _, rfl, rfl⟩⟩)
        have hk1 : k ≤ ac := by have := OC.out.1; have := HNL.out; omega
        have hk2 : k + 1 ≤ nl := by have := HNL.out; omega
        have hk3 : nl ≤ ac := OC.out.1
        have hw1 : IntKind.i64.wrap ((k : Int) + 1) = (k : Int) + 1 := IntWalk.i64_in _ ⟨by omega, by have := HL.out; have := HNL.out; omega⟩
        have hw2 : ((k : Int) + 1).toNat = k + 1 := by omega
        have hw3 : (0 : Int) ≤ (k : Int) + 1 := by omega
        have hw4 : (k : Int) + 1 ≤ (nl : Int) := by omega
        go_wp2_with fail
        go_region_law (first
          | (refine step_append_r rfl (.tmp 44) (.tmp 48) 35 rfl w4.heap.size 41 i0 (.agg #[.int .i64 0, .int .i64 0, .int .i64 0, .int .i64 0]) 4 32 Try.underlying35 hi0 hz0 hs0 hb0 rfl (by decide) v9 (0 + k) ([] ++ flatG (L.take k)) (by simp [Act.eval]) HO9.out a2 (nl - (k + 1)) (ac - (k + 1)) (flatG (L.drop (k + 1))) (by simp [Act.eval]) LD.out (FD.out _ B9.out) (flatG_one _) N3.out N4.out B9.out.size ?_
             intro v10 w10 hown10 hgr10 _
             have B10 : Hid (Below w4.heap.size w4 w10) := Lib.hid (B9.out.trans (grown_below HO9.out B9.out.size hgr10))
             have HO10 := Lib.hid hown10
             clear hown10 hgr10)
          | (
             refine step_append_r rfl (.tmp 40) (.tmp 43) 35 rfl w4.heap.size 41 i0 (.agg #[.int .i64 0, .int .i64 0, .int .i64 0, .int .i64 0]) 4 32 Try.underlying35 hi0 hz0 hs0 hb0 rfl (by decide) (.slice (some ⟨w4.heap.size, 0, none⟩) 0 0) 0 [] (by simp [Act.eval]) (OWN0.out _ rfl) ⟨b, off, none⟩ k ac (flatG (L.take k)) (by simp [Act.eval]) LT.out (FT.out _ (by repeat (first | exact Below.refl _ _ | apply below_drew | apply Below.alloc _ (by first | omega | (simp <;> omega))))) (flatG_one _) N1.out N2.out (by simp) ?_
             intro v9 w9 hown9 hgr9 _
             have B9 : Hid (Below w4.heap.size w4 w9) := Lib.hid (Below.trans (by repeat (first | exact Below.refl _ _ | apply below_drew | apply Below.alloc _ (by first | omega | (simp <;> omega)))) (grown_below (OWN0.out (w4.alloc (.cells #[] 41)).drew rfl) (by simp) hgr9))
             have HO9 := Lib.hid hown9
             clear hown9 hgr9))
        have HR : Hid (restX L (k : Int) = L.take k ++ L.drop (k + 1)) := Lib.hid (by unfold restX; rw [if_pos hz, Int.toNat_natCast]; rfl)
        have HFR : Hid (flatG (L.take k ++ L.drop (k + 1)) = [] ++ flatG (L.take k) ++ flatG (L.drop (k + 1))) := Lib.hid (by unfold flatG; rw [List.flatMap_append, List.nil_append])
        have HLR : Hid ((L.take k ++ L.drop (k + 1)).length = 0 + k + (nl - (k + 1))) := Lib.hid (by rw [List.length_append, List.length_take, List.length_drop, HNL.out]; omega)
        go_wp2_with fail
        go_meet
        refine ⟨?_, B10.out⟩
        rw [HR.out]
        apply EgV.of_row (T := 41) (B := w4.heap.size)
        rw [HFR.out, HLR.out]
        exact HO10.out
      | false =>
        have hr : restX L z = L := by unfold restX; rw [if_neg (fun g => by have := HQ.out.2 g; cases this)]
        go_wp2_with fail
        go_meet
        exact ⟨by rw [hr]; exact HE4.out, Below.refl _ _⟩
    case rest =>
      rename World => w5
      obtain ⟨hrv, h5⟩ := hcut
      have HRV := Lib.hid hrv
      have K5 := Lib.hid (after K4.out h5)
      have B25 := Lib.hid (after B24.out h5)
      have X3 := Lib.hid (X3.out.step h5)
      have X4 := Lib.hid (X4.out.step h5)
      have HE5 := Lib.hid (HE4.out.step h5)
      have HRS := Lib.hid (rsolve_any n (by have := HN.out; omega) (restX L z) (by have := HL.out; have := restX_len L z; omega) (fun e he => HOK.out e (restX_mem he)) hrv (sv := .slice none 0 0) (l := []) ⟨none, 0, rfl, fun j hj => absurd hj (by simp)⟩ (by simp))
      rw [opShut_nil] at HRS
      clear hrv h5 K4 B24 HE4 HRV
      go_wp2_with fail
      refine HRS.out.mono ?_
      rintro e w6 ⟨v6, G6, rfl, hv6, hle, h6⟩
      have EQ : Hid (∀ y, y < n → fw y = G6 y) := Lib.hid (fun y hy => least_eq FW.out (restX_least hle) hy)
      have LS : Hid (∀ y, y < n → fw y = true → fa y = true) := Lib.hid (fun y hy h => least_less FW.out FL.out hy h)
      have V6 := Lib.hid hv6.bl
      have K6 := Lib.hid (after K5.out h6)
      have B26 := Lib.hid (after B25.out h6)
      have X3 := Lib.hid (X3.out.step h6)
      have X4 := Lib.hid (X4.out.step h6)
      have HE6 := Lib.hid (HE5.out.step h6)
      obtain ⟨g6, c6, rfl, hx6⟩ := V6.out
      have X6 : Hid (BlAt w6 g6 n G6) := Lib.hid hx6
      clear hv6 hle h6 HRS hx6 V6 K5 B25 HE5
      go_wp2_with fail
      go_loopg [59] n (fun gk iv wr => ∃ j : Nat, iv = .int .i64 (j : Int) ∧ j + gk = n ∧ Below w6.heap.size w6 wr)
      case atStart => exact ⟨0, rfl, by omega, Below.refl _ _⟩
      case round =>
        obtain ⟨j, rfl, hjk, hbel⟩ := hrel
        have BL := Lib.hid hbel
        clear hbel
        rename World => w7
        cases gk with
        | zero =>
          have d1 : decide ((j : Int) < (n : Int)) = false := decide_eq_false (by omega)
          have d2 : ¬ (j : Int) < (n : Int) := by omega
          have d3 : decide (j < n) = false := decide_eq_false (by omega)
          have d4 : ¬ j < n := by omega
          go_wp2_with fail
          go_ret
          exact ⟨rfl, after K6.out BL.out⟩
        | succ gk =>
          have hjn : j < n := by omega
          obtain ⟨b3, o3, rfl, hb3, x3⟩ := (X3.out.step BL.out) j hjn
          obtain ⟨b4, o4, rfl, hb4, x4⟩ := (X4.out.step BL.out) j hjn
          obtain ⟨b6, o6, rfl, hb6, x6⟩ := (X6.out.step BL.out) j hjn
          rw [← EQ.out j hjn] at x6
          have hls := LS.out j hjn
          have HOW := Lib.hid (fun h1 h2 => on_way FW.out FL.out hjn h1 h2)
          generalize fw j = qw at *
          generalize fa j = qa at *
          have i1 : (j : Int) < (n : Int) := by omega
          have i2 : (0 : Int) ≤ (j : Int) := by omega
          have hw1 : IntKind.i64.wrap ((j : Int) + 1) = (j : Int) + 1 := IntWalk.i64_in _ ⟨by omega, by have := HN.out; omega⟩
          cases qw with
          | true =>
            have hqa := hls rfl
            subst hqa
            clear hls HOW
            go_wp2_with fail
            go_quiet (fail)
            go_wp2_with fail
            go_quiet (fail)
            go_wp2_with fail
            go_roundg gk
            case measure => omega
            case rel => exact ⟨j + 1, by push_cast; rfl, by omega, below_drewN BL.out _⟩
          | false =>
            clear hls
            cases qa with
            | false =>
              clear HOW
              go_wp2_with fail
              go_quiet (fail)
              go_wp2_with fail
              go_quiet (fail)
              go_wp2_with fail
              go_roundg gk
              case measure => omega
              case rel => exact ⟨j + 1, by push_cast; rfl, by omega, below_drewN BL.out _⟩
            | true =>
              obtain ⟨jx, hjx, rfl, hon⟩ := HOW.out rfl rfl
              have HON := Lib.hid hon
              clear HOW hon
              go_wp2_with fail
              go_quiet (fail)
              go_wp2_with fail
              have BN := Lib.hid (below_drewN BL.out (show Nat from nq))
              have x3 : (w7.drewN nq).cell? ⟨b3, o3 + j, none⟩ = some (.bool true) := x3
              have x4 : (w7.drewN nq).cell? ⟨b4, o4 + j, none⟩ = some (.bool false) := x4
              have hb3 : b3 < (w7.drewN nq).heap.size := hb3
              have hb4 : b4 < (w7.drewN nq).heap.size := hb4
              generalize w7.drewN nq = w8 at *
              obtain ⟨xg, xc, hxv, hxx⟩ := HE6.out.step BN.out
              obtain ⟨b, off, hag, hbl, e0, e1, e2, e3⟩ := hxx jx hjx
              simp only [Value.slice.injEq] at hxv
              obtain ⟨hag2, -, -⟩ := hxv
              subst hag2
              subst hag
              clear hxx x6
              have HME := Lib.hid (HON.out)
              have HPA := Lib.hid (fun (W : World) (hW : Below w8.heap.size w8 W) => path_all (HG.out.step (after B26.out (after BN.out hW))) (by have := HN.out; omega) (by have := HL.out; omega) HOK.out (j : Int))
              obtain ⟨dj, hdj⟩ := DS.out j hjn
              have HDJ := Lib.hid hdj
              clear hdj
              generalize L[jx] = e at *
              have k1 : jx ≤ ac := by have := OC.out.1; have := HNL.out; omega
              have k2 : jx + 1 ≤ ac := by have := OC.out.1; have := HNL.out; omega
              have k3 : ¬ ac = jx := by omega
              have k4 : (jx : Int) < (nl : Int) := by have := HNL.out; omega
              have k5 : (0 : Int) ≤ (jx : Int) := by omega
              have k6 : (jx : Int) ≤ (jx : Int) + 1 := by omega
              have k7 : (jx : Int) + 1 ≤ (ac : Int) := by omega
              have k8 : jx + 1 - jx = 1 := by omega
              have hw2 : IntKind.i64.wrap ((jx : Int) + 1) = (jx : Int) + 1 := IntWalk.i64_in _ ⟨by omega, by have := HL.out; omega⟩
              have hw3 : ((jx : Int) + 1).toNat = jx + 1 := by omega
              have hw4 : (0 : Int) ≤ (jx : Int) + 1 := by omega
              have HIN : Hid (∀ W : World, Below w8.heap.size w8 W → EgV W (.slice (some ⟨b, off + jx * 4, none⟩) 1 (ac - jx)) [e]) := Lib.hid (fun W hW => ⟨_, _, rfl, fun i hi => by
                have hi0 : i = 0 := by simp at hi; omega
                subst hi0
                refine ⟨b, off + jx * 4, rfl, Nat.lt_of_lt_of_le hbl hW.size, ?_⟩
                exact ⟨by simpa using keep hW hbl e0, by simpa using keep hW hbl e1, by simpa using keep hW hbl e2, by simpa using keep hW hbl e3⟩⟩)
              have KE : Hid (∀ W : World, Below w8.heap.size w8 W → b < W.heap.size ∧ W.cell? ⟨b, off + jx * 4, none⟩ = some (.int .i64 e.1) ∧ W.cell? ⟨b, off + jx * 4 + 1, none⟩ = some (.int .i64 e.2.1) ∧ W.cell? ⟨b, off + jx * 4 + 2, none⟩ = some (.int .i64 e.2.2.1) ∧ W.cell? ⟨b, off + jx * 4 + 3, none⟩ = some (.int .i64 e.2.2.2)) := Lib.hid (fun W hW => ⟨Nat.lt_of_lt_of_le hbl hW.size, keep hW hbl e0, keep hW hbl e1, keep hW hbl e2, keep hW hbl e3⟩)
              have KEEP : Hid (∀ W : World, Below w8.heap.size w8 W → W.cell? ⟨b3, o3 + j, none⟩ = some (.bool true) ∧ W.cell? ⟨b4, o4 + j, none⟩ = some (.bool false) ∧ W.cell? ⟨b, off + jx * 4, none⟩ = some (.int .i64 e.1) ∧ W.cell? ⟨b, off + jx * 4 + 1, none⟩ = some (.int .i64 e.2.1) ∧ W.cell? ⟨b, off + jx * 4 + 2, none⟩ = some (.int .i64 e.2.2.1) ∧ W.cell? ⟨b, off + jx * 4 + 3, none⟩ = some (.int .i64 e.2.2.2) ∧ Below w8.heap.size w8 W) := Lib.hid (fun W hW => ⟨keep hW hb3 x3, keep hW hb4 x4, keep hW hbl e0, keep hW hbl e1, keep hW hbl e2, keep hW hbl e3, hW⟩)
              clear KE k1
              go_region_held3 (fun W => W.cell? ⟨b3, o3 + j, none⟩ = some (.bool true) ∧ W.cell? ⟨b4, o4 + j, none⟩ = some (.bool false) ∧ W.cell? ⟨b, off + jx * 4, none⟩ = some (.int .i64 e.1) ∧ W.cell? ⟨b, off + jx * 4 + 1, none⟩ = some (.int .i64 e.2.1) ∧ W.cell? ⟨b, off + jx * 4 + 2, none⟩ = some (.int .i64 e.2.2.1) ∧ W.cell? ⟨b, off + jx * 4 + 3, none⟩ = some (.int .i64 e.2.2.2) ∧ Below w8.heap.size w8 W)
                (first | exact KEEP.out _ (Below.refl _ _) | exact KEEP.out _ (Below.refl _ _).drew | exact KEEP.out _ BI.out | exact KEEP.out _ BF.out | exact KEEP.out _ BP.out)
                (first
                | (go_at_call 17
                   refine (HPA.out _ (by first | exact Below.refl _ _ | exact (Below.refl _ _).drew | assumption)).mono ?_
                   rintro x wP ⟨vP, pP, rfl, hvP, hwt, hbP⟩
                   have BP : Hid (Below w8.heap.size w8 wP) := Lib.hid (Below.trans (by first | exact Below.refl _ _ | exact (Below.refl _ _).drew | assumption) hbP)
                   have HFI := Lib.hid (find_in hvP (by have := hwt.1; omega) e (HME.out _ hwt _ HDJ.out))
                   clear hvP hwt hbP)
                | (go_at_call 23
                   refine HFI.out.mono ?_
                   rintro x wF ⟨rfl, hbF⟩
                   have BF := Lib.hid (after BP.out hbF)
                   clear hbF)
                | (go_at_call 20
                   refine (in_any (HIN.out _ BF.out) (by simp) e).mono ?_
                   rw [show decide (e ∈ [e]) = true by simp]
                   rintro x wI ⟨rfl, hbI⟩
                   have BI := Lib.hid (after BF.out hbI)
                   clear hbI))
              all_goals
                go_wp2_with fail
                go_roundg gk
                case measure => omega
                case rel => exact ⟨j + 1, by push_cast; rfl, by omega, after BN.out BI.out⟩
end Go.Proofs.Ytkhgpflpbdakoaa
