/- Contract of tree's walk over a node. -/
import Derived.Test.YtfalgnapghienaaGreatDoorTrCheck
import Derived.Test.YtfalgnapghienaaGreatDoorTrAt
import Derived.Test.YtfalgnapghienaaGreatDoorTrWalk
namespace Go.Proofs.YtfalgnapghienaaGreatDoor
open Go Go.RowKit
set_option linter.unusedVariables false
set_option linter.unusedSimpArgs false

def natI (s : List Nat) : List Int := s.map fun (x : Nat) => (x : Int)
/-- how far one has walked: the walk's block, and the row of those that were seen -/
structure WkInv (W0 w : World) (b : Nat) (nv : Value) (s : List Nat) (sv : Value) : Prop where
  bel : Below b W0 w
  box : Bx 72 w b [nv, sv]
  own : w.ownsRow b 3 1 sv s.length (numC (natI s))
theorem natI_len (s : List Nat) : (natI s).length = s.length := by simp [natI]
theorem numC_len (l : List Int) : (numC l).length = l.length := by simp [numC]
theorem WkInv.drew {W0 w : World} {b : Nat} {nv : Value} {s : List Nat} {sv : Value} (h : WkInv W0 w b nv s sv) (n : Nat) : WkInv W0 (w.drewN n) b nv s sv := ⟨⟨h.bel.os, h.bel.tape, h.bel.output, h.bel.size, h.bel.block⟩, h.box, h.own⟩
theorem WkInv.shape {W0 w : World} {b : Nat} {nv : Value} {s : List Nat} {sv : Value} (h : WkInv W0 w b nv s sv) : ∃ a c, sv = .slice a s.length c := by
  rcases h.own.2 with ⟨hv, h0⟩ | ⟨g, cap, cur, hv, _⟩
  · exact ⟨none, 0, by rw [hv, h0]⟩
  · exact ⟨_, cap, hv⟩
theorem WkInv.yes {W0 w w' : World} {b : Nat} {nv : Value} {s : List Nat} {sv v' : Value} {a : Nat} {o' : Obj} (h : WkInv W0 w b nv s sv)
    (hown : w'.ownsRow b 3 1 v' (s.length + 1) (numC (natI s) ++ [.int .i64 (a : Nat)])) (hg : (w.alloc o').grownBy w' sv.ownBlock) : Bx 72 w' b [nv, sv] ∧ WkInv W0 (w'.setCell ⟨b, 1, none⟩ v') b nv (s ++ [a]) v' := by
  have hbl := h.box.lt
  have hrow : sv.ownBlock ≠ some b := by
    rcases h.own.2 with ⟨rfl, _⟩ | ⟨g, cap, cur, rfl, _, hg2, _⟩
    · simp [Value.ownBlock]
    · intro e
      simp [Value.ownBlock] at e
      subst e
      have := h.box
      unfold Bx at this
      rw [this] at hg2
      simp at hg2
  have hbx : Bx 72 w' b [nv, sv] := by
    have := h.box
    unfold Bx at *
    rw [hg.block b (by simp; omega) (fun e => hrow e.symm), Below.heap_alloc w _ b hbl]; exact this
  have hB : b ≤ w.heap.size := by omega
  have h1 : Below b W0 w' := h.bel.trans (Below.grown ((Below.refl b w).alloc hB o') hg (by simp; omega) (fun j hj => (h.own.lt j hj).1))
  refine ⟨hbx, ⟨h1.setCell (p := ⟨b, 1, none⟩) (Nat.le_refl _) v', by simpa using hbx.set 1 v', ?_⟩⟩
  have e1 : numC (natI (s ++ [a])) = numC (natI s) ++ [.int .i64 (a : Nat)] := by simp [numC, natI]
  rw [e1, List.length_append]
  obtain ⟨q1, q2⟩ := hown
  refine ⟨by simpa using q1, ?_⟩
  rcases q2 with ⟨_, q⟩ | ⟨g, cap, cur, hv, hBg, hg2, q⟩
  · omega
  · refine .inr ⟨g, cap, cur, hv, hBg, ?_, by simpa using q⟩
    rw [heap_setCell_other _ _ g v' (fun e => ?_)]
    · exact hg2
    · simp at e
      subst e
      unfold Bx at hbx
      rw [hbx] at hg2
      simp at hg2

def FromPost (W0 : World) (b : Nat) (nv : Value) (s : List Nat) (e : Ending) (w' : World) : Prop := e = .returned (.bool true) ∧ ∃ sv, WkInv W0 w' b nv s sv

set_option maxRecDepth 100000 in
set_option maxHeartbeats 4000000 in
theorem from_any {l : List Nd} {root : Int} (P : ProgOk l root) (W0 : World) (b : Nat) (nv : Value) (hn : NdsV W0 nv l) (hb : W0.heap.size ≤ b) : ∀ (a : Nat), a < l.length → ∀ (s : List Nat) (sv : Value) (w : World), WkInv W0 w b nv s sv → (s ++ walkS l a).Nodup → (∀ x ∈ s, x < l.length) → (∀ x ∈ l, NdFit x) →
    Calls Tryz.prog 41 #[.pointer (some ⟨b, 0, none⟩), .int .i64 (a : Nat)] w (FromPost W0 b nv (s ++ walkS l a)) := by
  obtain ⟨nsrc, ncap, rfl, hns⟩ := hn
  intro a
  induction a using Nat.strongRecOn with
  | _ a ih =>
    intro ha s sv w hinv hnd hs hf
    obtain ⟨nb, noff, rfl, hnb, hrow⟩ := hns (by omega)
    obtain ⟨kv, ev, hx⟩ := hrow a ha
    have hroom := walk_room P ha hnd hs
    have hP := P.long
    have HW := Lib.hid (walk_eq P ha)
    have HK := Lib.hid (kidsOf_get l a ha)
    have HA := Lib.hid (P.ahead a ha)
    have HKB := (hf _ (List.getElem_mem ha)).kids
    obtain ⟨ks, kc, hkv, hks⟩ := hx.kids
    have c3 := (hx.step hnb (hinv.bel.mono hb)).c3
    rw [hkv] at c3
    have HC3 : Hid (∀ w2 : World, Below W0.heap.size W0 w2 → w2.cell? ⟨nb, noff + a * 13 + 3, none⟩ = some (.slice ks l[a].kids.length kc)) := Lib.hid (fun w2 h2 => by have := (hx.step hnb h2).c3; rwa [hkv] at this)
    obtain ⟨ss, sc, rfl⟩ := hinv.shape
    have d0 := hinv.box.cell 0
    have d1 := hinv.box.cell 1
    have dl := hinv.box.lt
    have df := hinv.box.frozen 1
    simp only [List.getElem?_cons_zero, List.getElem?_cons_succ] at d0 d1
    have HI := Lib.hid hinv
    have HND := Lib.hid hnd
    have HS := Lib.hid hs
    have HIH := Lib.hid ih
    have HFF := Lib.hid hf
    have HKS := Lib.hid hks
    have HAL := Lib.hid ha
    obtain ⟨i0, hi, hz0, hz1, hz2⟩ := info_parts infoInt
    clear hinv hnd hs ih hf hks hx hrow hkv
    generalize hkk : l[a].kids = K at *
    clear hkk
    obtain ⟨n, hnn⟩ : ∃ n, l.length = n := ⟨_, rfl⟩
    have HNN := Lib.hid hnn
    rw [hnn] at d0 hroom hP ha
    obtain ⟨m, hm⟩ : ∃ m, s.length = m := ⟨_, rfl⟩
    have HM := Lib.hid hm
    rw [hm] at d1 hroom
    clear hnn hm
    have q1 : decide ((a : Int) < 0) = false := decide_eq_false (by omega)
    have q2 : decide ((n : Int) ≤ (a : Int)) = false := decide_eq_false (by omega)
    have q2n : decide (n ≤ a) = false := decide_eq_false (by omega)
    have q3 : ((m : Int) == (n : Int)) = false := by simp; omega
    have q3n : (m == n) = false := by simp; omega
    go_enter Tryz.func41, Tryz.ntmps41
    go_wp2_with fail
    go_quiet (fail)
    have H5 := Lib.hid (HI.out.drew nq)
    have d0 : (w.drewN nq).cell? ⟨b, 0, none⟩ = some (.slice (some ⟨nb, noff, none⟩) n ncap) := d0
    have d1 : (w.drewN nq).cell? ⟨b, 1, none⟩ = some (.slice ss m sc) := d1
    have df : (w.drewN nq).frozen? ⟨b, 1, none⟩ = false := df
    have dl : b < (w.drewN nq).heap.size := dl
    generalize w.drewN nq = W5 at *
    have HO : Hid (W5.ownsRow b 3 1 (.slice ss m sc) m (numC (natI s))) := Lib.hid (by have := H5.out.own; rwa [HM.out] at this)
    go_wp2_with (at_builtin; refine wpList_append_own _ rfl _ _ 35 rfl b 3 i0 (.int .i64 0) 1 8 Tryz.underlying35 hi hz0 hz1 hz2 rfl (by decide) _ _ _ rfl (HO.out.alloc _) ⟨_, 0, none⟩ 1 1 [.int .i64 (a : Nat)] rfl rfl ?c1 ?c2 ?c3 ?c4 ?c5 ?_)
    case c1 =>
      intro j u hj
      match j, hj with
      | 0, hj => simp at hj; subst hj; simp [Addr.add, go_sem]
    case c2 => intro u hu; simp at hu; subst hu; rfl
    case c3 => unfold maxLen; omega
    case c4 => omega
    case c5 => simp; omega
    intro v' w2 hown' hgrow _
    obtain ⟨g, gc, rfl⟩ := own_shape hown'
    have HY := Lib.hid (H5.out.yes (by rw [HM.out]; exact hown') (by rw [HM.out]; exact hgrow))
    have e0 : w2.cell? ⟨b, 0, none⟩ = some (.slice (some ⟨nb, noff, none⟩) n ncap) := by have := HY.out.1.cell 0; rwa [HNN.out] at this
    have e1 := HY.out.1.cell 1
    have ef := HY.out.1.frozen 1
    simp only [List.getElem?_cons_zero, List.getElem?_cons_succ] at e1
    have c3 := HC3.out _ (HY.out.2.bel.mono hb)
    clear hown' hgrow H5 HO HI d0 d1 df dl
    go_wp2_with fail
    clear e0 e1 ef c3 q1 q2 q2n q3 q3n
    have HL : Hid (∀ j, j ≤ K.length → ∃ Y, s ++ walkS l a = (s ++ a :: ((K.map Int.toNat).take j).flatMap (walkS l)) ++ Y) := Lib.hid (fun j hj => by
      refine ⟨((K.map Int.toNat).drop j).flatMap (walkS l), ?_⟩
      rw [HW.out, HK.out]
      conv => lhs; rw [← List.take_append_drop j (K.map Int.toNat)]
      rw [List.flatMap_append]
      simp)
    have HLT : Hid (∀ j, j ≤ K.length → ∀ x ∈ s ++ a :: ((K.map Int.toNat).take j).flatMap (walkS l), x < l.length) := Lib.hid (fun j hj x hx => by
      obtain ⟨Y, hY⟩ := HL.out j hj
      have : x ∈ s ++ walkS l a := by rw [hY]; exact List.mem_append_left _ hx
      rcases List.mem_append.1 this with h | h
      · exact HS.out x h
      · have := walk_le P a HAL.out x h
        have := HAL.out
        omega)
    go_loopw [50] (fun i wr => ∃ (j : Nat) (sv : Value), j ≤ K.length ∧ i = .int .i64 j ∧ WkInv W0 wr b (.slice (some ⟨nb, noff, none⟩) l.length ncap) (s ++ a :: ((K.map Int.toNat).take j).flatMap (walkS l)) sv) (fun i _ => K.length - (intOf i).toNat)
    case atStart => exact ⟨0, _, Nat.zero_le _, rfl, by simpa using HY.out.2⟩
    case round =>
      clear HY
      obtain ⟨j, sv, hj, rfl, hinv⟩ := hrel
      have HV := Lib.hid hinv
      clear hinv
      by_cases hlt : j < K.length
      · obtain ⟨kb, koff, rfl, hkb, hkrow⟩ := HKS.out (by omega)
        have c0 := keep (HV.out.bel.mono hb) hkb (hkrow j hlt)
        obtain ⟨h0, h1⟩ := HA.out K[j] (List.getElem_mem hlt)
        have HT : Hid ((K.map Int.toNat).take (j + 1) = (K.map Int.toNat).take j ++ [K[j].toNat]) := Lib.hid (by rw [List.take_succ_eq_append_getElem (by simpa using hlt)]; simp)
        clear hkrow
        generalize K[j] = k at *
        obtain ⟨q, rfl⟩ : ∃ q : Nat, k = q := ⟨k.toNat, by omega⟩
        have HN : Hid (s ++ a :: ((K.map Int.toNat).take (j + 1)).flatMap (walkS l) = (s ++ a :: ((K.map Int.toNat).take j).flatMap (walkS l)) ++ walkS l q) := Lib.hid (by rw [HT.out, List.flatMap_append]; simp)
        have HND2 : Hid (((s ++ a :: ((K.map Int.toNat).take j).flatMap (walkS l)) ++ walkS l q).Nodup) := Lib.hid (by
          rw [← HN.out]
          obtain ⟨Y, hY⟩ := HL.out (j + 1) hlt
          have := HND.out
          rw [hY] at this
          exact (List.nodup_append.1 this).1)
        have hqa : q < a := by omega
        have HC := Lib.hid (HIH.out q hqa (Nat.lt_trans hqa HAL.out) _ sv wr HV.out HND2.out (HLT.out j hj) HFF.out)
        clear h0 h1
        go_wp2_with fail
        refine HC.out.mono ?_
        rintro e w3 ⟨rfl, sv', h3⟩
        have H3 := Lib.hid h3
        clear h3
        go_wp2_with fail
        go_roundw
        case rel => exact ⟨j + 1, sv', by omega, by go_num, by rw [HN.out]; exact H3.out⟩
        case measure => simp [intOf]; omega
      · have hj' : j = K.length := by omega
        subst hj'
        have HZ : Hid (WkInv W0 wr b (.slice (some ⟨nb, noff, none⟩) l.length ncap) (s ++ walkS l a) sv) := Lib.hid (by
          have := HV.out
          rw [List.take_of_length_le (by simp)] at this
          rw [HW.out, HK.out]; exact this)
        go_wp2_with fail
        go_ret
        exact ⟨rfl, sv, HZ.out⟩
end Go.Proofs.YtfalgnapghienaaGreatDoor
