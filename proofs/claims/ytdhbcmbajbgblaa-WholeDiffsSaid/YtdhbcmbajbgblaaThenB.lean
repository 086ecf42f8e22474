/- Contract of through: what is left by both. -/
import Derived.Test.YtdhbcmbajbgblaaThenA
import Derived.RegionTactic
namespace Go.Proofs.Ytdhbcmbajbgblaa
open Go Go.RowKit
set_option linter.unusedVariables false

def lenV : Value → Nat
  | .slice _ n _ => n
  | _ => 0
/-- none of its numbers is great -/
def SmallR (l : List Run) : Prop := ∀ r ∈ l, r.1 ≤ 1000000000 ∧ r.2.1 ≤ 1000000000 ∧ r.2.2 ≤ 1000000000
theorem SmallR.tail {a : Run} {l : List Run} (h : SmallR (a :: l)) : SmallR l := fun r hr => h r (List.mem_cons_of_mem _ hr)

theorem RnInv.drew {w wr : World} {v : Value} {l : List Run} (h : RnInv w wr l v) : RnInv w wr.drew l v := ⟨h.1.drew, h.2⟩
theorem RnInv.yes1 {w wr w2 : World} {v v' : Value} {l : List Run} {x : Run} {o' : Obj} (h : RnInv w wr l v)
    (hown' : w2.ownsRow w.heap.size 91 3 v' (l.length + 1) (flatR l ++ [.int .i64 (x.1 : Nat), .int .i64 (x.2.1 : Nat), .int .i64 (x.2.2 : Nat)])) (hg : (wr.alloc o').grownBy w2 v.ownBlock) : RnInv w w2 (l ++ [x]) v' := by
  obtain ⟨hbel, ho⟩ := h
  refine ⟨Below.grown (hbel.alloc hbel.size o') hg (by simp; have := hbel.size; omega) (fun j hj => (ho.lt j hj).1), ?_⟩
  rw [flatR_snoc]; simpa using hown'
theorem cell_grown {W w3 : World} {o' : Obj} {row : Option Nat} {P j : Nat} {u : Value} (hg : (W.alloc o').grownBy w3 row) (hP : P < W.heap.size) (hne : some P ≠ row) (hu : W.cell? ⟨P, j, none⟩ = some u) : w3.cell? ⟨P, j, none⟩ = some u := by
  have h1 : w3.heap[P]? = (W.alloc o').heap[P]? := hg.block _ (by simp; omega) hne
  have h2 : (W.alloc o').cell? ⟨P, j, none⟩ = some u := keep ((Below.refl W.heap.size W).alloc (Nat.le_refl _) o') hP hu
  unfold World.cell? at h2 ⊢
  simp only [h1]
  exact h2

theorem RunAt.rest {w : World} {b off na cap : Nat} {a : Run} {l : List Run} (h : RunAt w b off (a :: l)) (hl : l.length = na) (hc : na + 1 ≤ cap) (hm : cap ≤ maxLen) (hb : b < w.heap.size) :
    RunsIn w (.slice (if cap = 1 then some ⟨b, off, none⟩ else some ⟨b, off + 3, none⟩) na (cap - 1)) l :=
  ⟨_, _, by rw [hl], by omega, by omega, fun h0 => ⟨b, off + 3, by rw [if_neg (by omega)], hb, fun i hi => by
    have := h (i + 1) (by simp; omega)
    rw [show off + (i + 1) * 3 = off + 3 + i * 3 by omega] at this
    simpa using this⟩⟩
theorem RunAt.whole {w : World} {b off n cap : Nat} {l : List Run} (h : RunAt w b off l) (hl : l.length = n) (hc : n ≤ cap) (hm : cap ≤ maxLen) (hb : b < w.heap.size) : RunsIn w (.slice (some ⟨b, off, none⟩) n cap) l :=
  ⟨_, _, by rw [hl], by omega, hm, fun _ => ⟨b, off, rfl, hb, h⟩⟩

set_option maxRecDepth 100000 in
set_option maxHeartbeats 4000000 in
theorem through_any (A B : List Run) (va vb : Value) (w : World) (ha : RunsIn w va A) (hb : RunsIn w vb B) (hA : SmallR A) (hB : SmallR B) (hl : A.length + B.length ≤ 20000) :
    Calls Try.prog 23 #[va, vb] w fun e w' => ∃ v, e = .returned v ∧ RnInv w w' (thr A B) v := by
  obtain ⟨i0, hi, hz0, hz1, hz2⟩ := info_parts infoRun
  have HA := Lib.hid ha
  have HB := Lib.hid hb
  have SA := Lib.hid hA
  have SB := Lib.hid hB
  clear ha hb hA hB
  go_enter Try.func23, Try.ntmps23
  go_wp2_with fail
  go_loopw [0, 1, 5] (fun x0 x1 u wr => ∃ (A' B' G : List Run) (v : Value), RunsIn w x0 A' ∧ RunsIn w x1 B' ∧ u = v ∧ RnInv w wr G v ∧ G ++ thr A' B' = thr A B ∧ SmallR A' ∧ SmallR B' ∧ G.length + A'.length + B'.length ≤ 20000) (fun x0 x1 _ _ => lenV x0 + lenV x1)
  case atStart => exact ⟨A, B, [], _, HA.out, HB.out, rfl, ⟨Below.refl _ _, rfl, .inl ⟨rfl, rfl⟩⟩, rfl, SA.out, SB.out, by simpa using hl⟩
  case round =>
    obtain ⟨A', B', G, v, rA, rB, rfl, hinv, hth, sA, sB, hlen⟩ := hrel
    obtain ⟨srcA, capA, rfl, ca1, ca2, rA⟩ := rA
    obtain ⟨srcB, capB, rfl, cb1, cb2, rB⟩ := rB
    unfold maxLen at ca2 cb2
    rcases A' with _ | ⟨a, A'⟩
    · go_wp2_with fail
      go_ret
      exact ⟨_, rfl, by rw [← hth]; simpa [thr] using hinv⟩
    · rcases B' with _ | ⟨b, B'⟩
      · go_wp2_with fail
        go_ret
        exact ⟨_, rfl, by rw [← hth]; simpa [thr] using hinv⟩
      · obtain ⟨ba, offa, rfl, hba, ra⟩ := rA (by simp)
        obtain ⟨bb, offb, rfl, hbb, rb⟩ := rB (by simp)
        obtain ⟨c0, c1, c2⟩ := (ra.below hinv.1 hba) 0 (by simp)
        obtain ⟨d0, d1, d2⟩ := (rb.below hinv.1 hbb) 0 (by simp)
        have hsz := hinv.1.size
        have hba' := Nat.lt_of_lt_of_le hba hsz
        have hbb' := Nat.lt_of_lt_of_le hbb hsz
        rw [Nat.zero_mul, Nat.add_zero] at c0 c1 c2 d0 d1 d2
        simp only [List.getElem_cons_zero] at c0 c1 c2 d0 d1 d2
        have la : (a :: A').length = A'.length + 1 := rfl
        have lb : (b :: B').length = B'.length + 1 := rfl
        rw [la, lb]
        rw [la] at ca1
        rw [lb] at cb1
        have HRA := Lib.hid ra
        have HRB := Lib.hid rb
        have HI := Lib.hid hinv
        have HTH := Lib.hid hth
        have HSA := Lib.hid sA
        have HSB := Lib.hid sB
        have sa := sA a (List.mem_cons_self ..)
        have sb := sB b (List.mem_cons_self ..)
        clear ra rb rA rB hinv hth sA sB la lb
        generalize hna : A'.length = na at *
        generalize hnb : B'.length = nb at *
        have HNA := Lib.hid hna
        have HNB := Lib.hid hnb
        clear hna hnb
        obtain ⟨a1, a2, a3⟩ := a
        obtain ⟨b1, b2, b3⟩ := b
        dsimp only at c0 c1 c2 d0 d1 d2 sa sb
        have i1 : (0 : Int) < (na : Int) + 1 := by omega
        have i2 : (0 : Int) < (nb : Int) + 1 := by omega
        go_wp2_with fail
        go_region
        · obtain ⟨W2, hW2⟩ : ∃ W2, W2 = ((wr.alloc (Obj.cells #[Value.int IntKind.i64 (a1 : Int), Value.int IntKind.i64 (a2 : Int), Value.int IntKind.i64 (a3 : Int)] 91)).alloc (Obj.cells #[Value.int IntKind.i64 (b1 : Int), Value.int IntKind.i64 (b2 : Int), Value.int IntKind.i64 (b3 : Int)] 91)).drew := ⟨_, rfl⟩
          have hz : (wr.alloc (Obj.cells #[Value.int IntKind.i64 (a1 : Int), Value.int IntKind.i64 (a2 : Int), Value.int IntKind.i64 (a3 : Int)] 91)).heap.size = wr.heap.size + 1 := by simp
          have p0 : W2.cell? ⟨wr.heap.size, 0, none⟩ = some (.int .i64 (a1 : Int)) := by rw [hW2]; simp [go_sem]
          have p1 : W2.cell? ⟨wr.heap.size, 1, none⟩ = some (.int .i64 (a2 : Int)) := by rw [hW2]; simp [go_sem]
          have p2 : W2.cell? ⟨wr.heap.size, 2, none⟩ = some (.int .i64 (a3 : Int)) := by rw [hW2]; simp [go_sem]
          have q0 : W2.cell? ⟨wr.heap.size + 1, 0, none⟩ = some (.int .i64 (b1 : Int)) := by rw [hW2, ← hz]; simp [go_sem]
          have q1 : W2.cell? ⟨wr.heap.size + 1, 1, none⟩ = some (.int .i64 (b2 : Int)) := by rw [hW2, ← hz]; simp [go_sem]
          have q2 : W2.cell? ⟨wr.heap.size + 1, 2, none⟩ = some (.int .i64 (b3 : Int)) := by rw [hW2, ← hz]; simp [go_sem]
          have hzW : W2.heap.size = wr.heap.size + 2 := by rw [hW2]; simp
          have H2 : Hid (RnInv w W2 G u5) := Lib.hid (by rw [hW2]; exact ((HI.out.alloc _).alloc _).drew)
          have hown : ∀ j, u5.ownBlock = some j → j < wr.heap.size := fun j hj => (HI.out.2.lt j hj).2
          rw [← hW2]
          clear hW2 hz c0 c1 c2 d0 d1 d2 HI
          generalize hP1 : wr.heap.size + 1 = PB at *
          generalize hP0 : wr.heap.size = PA at *
          have lA : PA < W2.heap.size := by omega
          have lB : PB < W2.heap.size := by omega
          have nA : some PA ≠ u5.ownBlock := fun e => by have := hown _ e.symm; omega
          have nB : some PB ≠ u5.ownBlock := fun e => by have := hown _ e.symm; omega
          clear hP1 hP0 hzW hown
          have NA := Lib.hid nA
          have NB := Lib.hid nB
          clear nA nB
          have m1 : IntKind.i64.wrap ((a2 : Int) + a3) = (a2 : Int) + a3 := IntWalk.i64_in _ ⟨by omega, by omega⟩
          have m2 : IntKind.i64.wrap ((b1 : Int) + b3) = (b1 : Int) + b3 := IntWalk.i64_in _ ⟨by omega, by omega⟩
          obtain ⟨F, hF⟩ : ∃ F : Nat, F = max a2 b1 := ⟨_, rfl⟩
          obtain ⟨T, hT⟩ : ∃ T : Nat, T = min (a2 + a3) (b1 + b3) := ⟨_, rfl⟩
          have zF : max (a2 : Int) (b1 : Int) = (F : Int) := by omega
          have zT : min ((a2 : Int) + a3) ((b1 : Int) + b3) = (T : Int) := by omega
          have f1 : a2 ≤ F := by omega
          have f2 : b1 ≤ F := by omega
          have f3 : F ≤ 1000000000 := by omega
          have f4 : T ≤ 2000000000 := by omega
          have HR : Hid (thr ((a1, a2, a3) :: A') ((b1, b2, b3) :: B') = (if F < T then [(a1 + F - a2, b2 + F - b1, T - F)] else []) ++ if T = a2 + a3 then thr A' ((b1, b2, b3) :: B') else thr ((a1, a2, a3) :: A') B') := Lib.hid (by rw [thr, hF, hT])
          clear hF hT
          obtain ⟨G2, hG2⟩ : ∃ G2, G2 = G ++ (if F < T then [(a1 + F - a2, b2 + F - b1, T - F)] else []) := ⟨_, rfl⟩
          have HG2 := Lib.hid hG2
          have HGL : Hid (G2.length ≤ G.length + 1) := Lib.hid (by rw [hG2]; split <;> simp)
          clear hG2
          have HO := Lib.hid H2.out.2
          have gl : G.length ≤ 20000 := by omega
          by_cases hq : F < T
          · have e1 : ((a1 + F - a2 : Nat) : Int) = (a1 : Int) + F - a2 := by omega
            have e2 : ((b2 + F - b1 : Nat) : Int) = (b2 : Int) + F - b1 := by omega
            have e3 : ((T - F : Nat) : Int) = (T : Int) - F := by omega
            have E1 := Lib.hid e1
            have E2 := Lib.hid e2
            have E3 := Lib.hid e3
            clear e1 e2 e3
            go_wp2_with (at_builtin; refine wpList_append_own _ rfl _ _ 58 rfl w.heap.size 91 i0 (.agg #[.int .i64 0, .int .i64 0, .int .i64 0]) 3 24 Try.underlying58 hi hz0 hz1 hz2 rfl (by decide) _ _ _ rfl (HO.out.alloc _) ⟨W2.heap.size, 0, none⟩ 1 1 [.int .i64 ((a1 : Int) + F - a2), .int .i64 ((b2 : Int) + F - b1), .int .i64 ((T : Int) - F)] rfl rfl ?c1 ?c2 ?c3 ?c4 ?c5 ?_)
            case c1 =>
              intro j u hj
              match j, hj with
              | 0, hj => simp at hj; subst hj; simp [Addr.add, go_sem]
              | 1, hj => simp at hj; subst hj; simp [Addr.add, go_sem]
              | 2, hj => simp at hj; subst hj; simp [Addr.add, go_sem]
            case c2 => intro u hu; simp at hu; rcases hu with rfl | rfl | rfl <;> rfl
            case c3 => unfold maxLen; omega
            case c4 => omega
            case c5 => simp; have := H2.out.1.size; omega
            intro v' w3 hown' hgrow _
            have r1 := cell_grown hgrow lA NA.out p1
            have r2 := cell_grown hgrow lA NA.out p2
            have HV : Hid (RnInv w w3 G2 v') := Lib.hid (by
              rw [HG2.out, if_pos hq]
              refine H2.out.yes1 (x := (a1 + F - a2, b2 + F - b1, T - F)) ?_ hgrow
              rw [E1.out, E2.out, E3.out]; exact hown')
            clear hown' hgrow p0 p1 p2 q0 q1 q2
            by_cases hT : T = a2 + a3
            · have zz : ((T : Int) == (a2 : Int) + (a3 : Int)) = true := by simp; omega
              have HT := Lib.hid hT
              clear hT
              go_wp2_with fail
              refine ⟨⟨A', (b1, b2, b3) :: B', G2, _, HRA.out.rest HNA.out ca1 (by unfold maxLen; omega) hba, HRB.out.whole (by rw [List.length_cons, HNB.out]) cb1 (by unfold maxLen; omega) hbb, rfl, HV.out, ?_, HSA.out.tail, HSB.out, ?_⟩, by simp [lenV]⟩
              · rw [HG2.out, ← HTH.out, HR.out, if_pos HT.out, List.append_assoc]
              · have := HGL.out; simp only [List.length_cons] at hlen ⊢; omega
            · have zz : ((T : Int) == (a2 : Int) + (a3 : Int)) = false := by rw [Bool.eq_false_iff]; intro h; simp at h; omega
              have HT := Lib.hid hT
              clear hT
              go_wp2_with fail
              refine ⟨⟨(a1, a2, a3) :: A', B', G2, _, HRA.out.whole (by rw [List.length_cons, HNA.out]) ca1 (by unfold maxLen; omega) hba, HRB.out.rest HNB.out cb1 (by unfold maxLen; omega) hbb, rfl, HV.out, ?_, HSA.out, HSB.out.tail, ?_⟩, by simp [lenV]⟩
              · rw [HG2.out, ← HTH.out, HR.out, if_neg HT.out, List.append_assoc]
              · have := HGL.out; simp only [List.length_cons] at hlen ⊢; omega
          · have HV : Hid (RnInv w W2 G2 u5) := Lib.hid (by rw [HG2.out, if_neg hq, List.append_nil]; exact H2.out)
            by_cases hT : T = a2 + a3
            · have zz : ((T : Int) == (a2 : Int) + (a3 : Int)) = true := by simp; omega
              have HT := Lib.hid hT
              clear hT
              go_wp2_with fail
              refine ⟨⟨A', (b1, b2, b3) :: B', G2, _, HRA.out.rest HNA.out ca1 (by unfold maxLen; omega) hba, HRB.out.whole (by rw [List.length_cons, HNB.out]) cb1 (by unfold maxLen; omega) hbb, rfl, HV.out, ?_, HSA.out.tail, HSB.out, ?_⟩, by simp [lenV]⟩
              · rw [HG2.out, ← HTH.out, HR.out, if_pos HT.out, List.append_assoc]
              · have := HGL.out; simp only [List.length_cons] at hlen ⊢; omega
            · have zz : ((T : Int) == (a2 : Int) + (a3 : Int)) = false := by rw [Bool.eq_false_iff]; intro h; simp at h; omega
              have HT := Lib.hid hT
              clear hT
              go_wp2_with fail
              refine ⟨⟨(a1, a2, a3) :: A', B', G2, _, HRA.out.whole (by rw [List.length_cons, HNA.out]) ca1 (by unfold maxLen; omega) hba, HRB.out.rest HNB.out cb1 (by unfold maxLen; omega) hbb, rfl, HV.out, ?_, HSA.out, HSB.out.tail, ?_⟩, by simp [lenV]⟩
              · rw [HG2.out, ← HTH.out, HR.out, if_neg HT.out, List.append_assoc]
              · have := HGL.out; simp only [List.length_cons] at hlen ⊢; omega
        · obtain ⟨W2, hW2⟩ : ∃ W2, W2 = ((wr.alloc (Obj.cells #[Value.int IntKind.i64 (b1 : Int), Value.int IntKind.i64 (b2 : Int), Value.int IntKind.i64 (b3 : Int)] 91)).alloc (Obj.cells #[Value.int IntKind.i64 (a1 : Int), Value.int IntKind.i64 (a2 : Int), Value.int IntKind.i64 (a3 : Int)] 91)).drew := ⟨_, rfl⟩
          have hz : (wr.alloc (Obj.cells #[Value.int IntKind.i64 (b1 : Int), Value.int IntKind.i64 (b2 : Int), Value.int IntKind.i64 (b3 : Int)] 91)).heap.size = wr.heap.size + 1 := by simp
          have p0 : W2.cell? ⟨wr.heap.size + 1, 0, none⟩ = some (.int .i64 (a1 : Int)) := by rw [hW2, ← hz]; simp [go_sem]
          have p1 : W2.cell? ⟨wr.heap.size + 1, 1, none⟩ = some (.int .i64 (a2 : Int)) := by rw [hW2, ← hz]; simp [go_sem]
          have p2 : W2.cell? ⟨wr.heap.size + 1, 2, none⟩ = some (.int .i64 (a3 : Int)) := by rw [hW2, ← hz]; simp [go_sem]
          have q0 : W2.cell? ⟨wr.heap.size, 0, none⟩ = some (.int .i64 (b1 : Int)) := by rw [hW2]; simp [go_sem]
          have q1 : W2.cell? ⟨wr.heap.size, 1, none⟩ = some (.int .i64 (b2 : Int)) := by rw [hW2]; simp [go_sem]
          have q2 : W2.cell? ⟨wr.heap.size, 2, none⟩ = some (.int .i64 (b3 : Int)) := by rw [hW2]; simp [go_sem]
          have hzW : W2.heap.size = wr.heap.size + 2 := by rw [hW2]; simp
          have H2 : Hid (RnInv w W2 G u5) := Lib.hid (by rw [hW2]; exact ((HI.out.alloc _).alloc _).drew)
          have hown : ∀ j, u5.ownBlock = some j → j < wr.heap.size := fun j hj => (HI.out.2.lt j hj).2
          rw [← hW2]
          clear hW2 hz c0 c1 c2 d0 d1 d2 HI
          generalize hP1 : wr.heap.size + 1 = PA at *
          generalize hP0 : wr.heap.size = PB at *
          have lA : PA < W2.heap.size := by omega
          have lB : PB < W2.heap.size := by omega
          have nA : some PA ≠ u5.ownBlock := fun e => by have := hown _ e.symm; omega
          have nB : some PB ≠ u5.ownBlock := fun e => by have := hown _ e.symm; omega
          clear hP1 hP0 hzW hown
          have NA := Lib.hid nA
          have NB := Lib.hid nB
          clear nA nB
          have m1 : IntKind.i64.wrap ((a2 : Int) + a3) = (a2 : Int) + a3 := IntWalk.i64_in _ ⟨by omega, by omega⟩
          have m2 : IntKind.i64.wrap ((b1 : Int) + b3) = (b1 : Int) + b3 := IntWalk.i64_in _ ⟨by omega, by omega⟩
          obtain ⟨F, hF⟩ : ∃ F : Nat, F = max a2 b1 := ⟨_, rfl⟩
          obtain ⟨T, hT⟩ : ∃ T : Nat, T = min (a2 + a3) (b1 + b3) := ⟨_, rfl⟩
          have zF : max (a2 : Int) (b1 : Int) = (F : Int) := by omega
          have zT : min ((a2 : Int) + a3) ((b1 : Int) + b3) = (T : Int) := by omega
          have f1 : a2 ≤ F := by omega
          have f2 : b1 ≤ F := by omega
          have f3 : F ≤ 1000000000 := by omega
          have f4 : T ≤ 2000000000 := by omega
          have HR : Hid (thr ((a1, a2, a3) :: A') ((b1, b2, b3) :: B') = (if F < T then [(a1 + F - a2, b2 + F - b1, T - F)] else []) ++ if T = a2 + a3 then thr A' ((b1, b2, b3) :: B') else thr ((a1, a2, a3) :: A') B') := Lib.hid (by rw [thr, hF, hT])
          clear hF hT
          obtain ⟨G2, hG2⟩ : ∃ G2, G2 = G ++ (if F < T then [(a1 + F - a2, b2 + F - b1, T - F)] else []) := ⟨_, rfl⟩
          have HG2 := Lib.hid hG2
          have HGL : Hid (G2.length ≤ G.length + 1) := Lib.hid (by rw [hG2]; split <;> simp)
          clear hG2
          have HO := Lib.hid H2.out.2
          have gl : G.length ≤ 20000 := by omega
          by_cases hq : F < T
          · have e1 : ((a1 + F - a2 : Nat) : Int) = (a1 : Int) + F - a2 := by omega
            have e2 : ((b2 + F - b1 : Nat) : Int) = (b2 : Int) + F - b1 := by omega
            have e3 : ((T - F : Nat) : Int) = (T : Int) - F := by omega
            have E1 := Lib.hid e1
            have E2 := Lib.hid e2
            have E3 := Lib.hid e3
            clear e1 e2 e3
            go_wp2_with (at_builtin; refine wpList_append_own _ rfl _ _ 58 rfl w.heap.size 91 i0 (.agg #[.int .i64 0, .int .i64 0, .int .i64 0]) 3 24 Try.underlying58 hi hz0 hz1 hz2 rfl (by decide) _ _ _ rfl (HO.out.alloc _) ⟨W2.heap.size, 0, none⟩ 1 1 [.int .i64 ((a1 : Int) + F - a2), .int .i64 ((b2 : Int) + F - b1), .int .i64 ((T : Int) - F)] rfl rfl ?c1 ?c2 ?c3 ?c4 ?c5 ?_)
            case c1 =>
              intro j u hj
              match j, hj with
              | 0, hj => simp at hj; subst hj; simp [Addr.add, go_sem]
              | 1, hj => simp at hj; subst hj; simp [Addr.add, go_sem]
              | 2, hj => simp at hj; subst hj; simp [Addr.add, go_sem]
            case c2 => intro u hu; simp at hu; rcases hu with rfl | rfl | rfl <;> rfl
            case c3 => unfold maxLen; omega
            case c4 => omega
            case c5 => simp; have := H2.out.1.size; omega
            intro v' w3 hown' hgrow _
            have r1 := cell_grown hgrow lA NA.out p1
            have r2 := cell_grown hgrow lA NA.out p2
            have HV : Hid (RnInv w w3 G2 v') := Lib.hid (by
              rw [HG2.out, if_pos hq]
              refine H2.out.yes1 (x := (a1 + F - a2, b2 + F - b1, T - F)) ?_ hgrow
              rw [E1.out, E2.out, E3.out]; exact hown')
            clear hown' hgrow p0 p1 p2 q0 q1 q2
            by_cases hT : T = a2 + a3
            · have zz : ((T : Int) == (a2 : Int) + (a3 : Int)) = true := by simp; omega
              have HT := Lib.hid hT
              clear hT
              go_wp2_with fail
              refine ⟨⟨A', (b1, b2, b3) :: B', G2, _, HRA.out.rest HNA.out ca1 (by unfold maxLen; omega) hba, HRB.out.whole (by rw [List.length_cons, HNB.out]) cb1 (by unfold maxLen; omega) hbb, rfl, HV.out, ?_, HSA.out.tail, HSB.out, ?_⟩, by simp [lenV]⟩
              · rw [HG2.out, ← HTH.out, HR.out, if_pos HT.out, List.append_assoc]
              · have := HGL.out; simp only [List.length_cons] at hlen ⊢; omega
            · have zz : ((T : Int) == (a2 : Int) + (a3 : Int)) = false := by rw [Bool.eq_false_iff]; intro h; simp at h; omega
              have HT := Lib.hid hT
              clear hT
              go_wp2_with fail
              refine ⟨⟨(a1, a2, a3) :: A', B', G2, _, HRA.out.whole (by rw [List.length_cons, HNA.out]) ca1 (by unfold maxLen; omega) hba, HRB.out.rest HNB.out cb1 (by unfold maxLen; omega) hbb, rfl, HV.out, ?_, HSA.out, HSB.out.tail, ?_⟩, by simp [lenV]⟩
              · rw [HG2.out, ← HTH.out, HR.out, if_neg HT.out, List.append_assoc]
              · have := HGL.out; simp only [List.length_cons] at hlen ⊢; omega
          · have HV : Hid (RnInv w W2 G2 u5) := Lib.hid (by rw [HG2.out, if_neg hq, List.append_nil]; exact H2.out)
            by_cases hT : T = a2 + a3
            · have zz : ((T : Int) == (a2 : Int) + (a3 : Int)) = true := by simp; omega
              have HT := Lib.hid hT
              clear hT
              go_wp2_with fail
              refine ⟨⟨A', (b1, b2, b3) :: B', G2, _, HRA.out.rest HNA.out ca1 (by unfold maxLen; omega) hba, HRB.out.whole (by rw [List.length_cons, HNB.out]) cb1 (by unfold maxLen; omega) hbb, rfl, HV.out, ?_, HSA.out.tail, HSB.out, ?_⟩, by simp [lenV]⟩
              · rw [HG2.out, ← HTH.out, HR.out, if_pos HT.out, List.append_assoc]
              · have := HGL.out; simp only [List.length_cons] at hlen ⊢; omega
            · have zz : ((T : Int) == (a2 : Int) + (a3 : Int)) = false := by rw [Bool.eq_false_iff]; intro h; simp at h; omega
              have HT := Lib.hid hT
              clear hT
              go_wp2_with fail
              refine ⟨⟨(a1, a2, a3) :: A', B', G2, _, HRA.out.whole (by rw [List.length_cons, HNA.out]) ca1 (by unfold maxLen; omega) hba, HRB.out.rest HNB.out cb1 (by unfold maxLen; omega) hbb, rfl, HV.out, ?_, HSA.out, HSB.out.tail, ?_⟩, by simp [lenV]⟩
              · rw [HG2.out, ← HTH.out, HR.out, if_neg HT.out, List.append_assoc]
              · have := HGL.out; simp only [List.length_cons] at hlen ⊢; omega

end Go.Proofs.Ytdhbcmbajbgblaa
