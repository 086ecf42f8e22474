/- Contract of tree's Depth. -/
import Derived.Test.YtfalgnapghienaaGreatDoorTrMark
import Derived.Deep.RegionLaw
namespace Go.Proofs.YtfalgnapghienaaGreatDoor
open Go Go.RowKit
set_option linter.unusedVariables false
set_option linter.unusedSimpArgs false

/-- the depths found so far; those behind are 0 -/
def depL (l : List Nd) (n j : Nat) : List Value := (List.range n).map fun i => .int .i64 ((if i < j then deepS l i else 0 : Nat) : Int)
theorem depL_len (l : List Nd) (n j : Nat) : (depL l n j).length = n := by simp [depL]
theorem depL_at {l : List Nd} {n j i : Nat} (h : i < n) : (depL l n j)[i]? = some (.int .i64 ((if i < j then deepS l i else 0 : Nat) : Int)) := by simp [depL, h]
theorem depL_zero (l : List Nd) (n : Nat) : depL l n 0 = List.replicate n (.int .i64 0) := by
  unfold depL
  apply List.ext_getElem?
  intro i
  by_cases h : i < n
  · simp [h]
  · simp [h]
theorem depL_set {l : List Nd} {n j : Nat} (h : j < n) (v : Nat) (hv : v = deepS l j) : (depL l n j).set j (.int .i64 (v : Int)) = depL l n (j + 1) := by
  apply List.ext_getElem?
  intro i
  by_cases hi : i < n
  · by_cases hk : j = i
    · subst hk
      rw [List.getElem?_set_self (by rw [depL_len]; exact hi), depL_at hi, if_pos (by omega), hv]
    · rw [List.getElem?_set_ne hk, depL_at hi, depL_at hi]
      by_cases h2 : i < j
      · rw [if_pos h2, if_pos (by omega)]
      · rw [if_neg h2, if_neg (by omega)]
  · rw [List.getElem?_eq_none (by rw [List.length_set, depL_len]; omega), List.getElem?_eq_none (by rw [depL_len]; omega)]
theorem made_ints (l : List Nd) (n : Nat) (W : World) (hn : n ≤ 16384) : (Instr.makeSlice 35 (.int .i64 (n : Int)) (.int .i64 (n : Int))).run Tryz.prog W = .ok (.slice (some ⟨W.heap.size, 0, none⟩) n n) (W.alloc (.cells (depL l n 0).toArray 3)) := by
  obtain ⟨i0, hi, hz0, hz1, hz2⟩ := info_parts infoInt
  have := run_make (P := Tryz.prog) W 35 3 i0 (.int .i64 0) Tryz.underlying35 hi hz0 .i64 .i64 n n (by omega) (Int.le_refl _) (by rw [hz2]; omega) (by omega)
  simp only [Int.toNat_natCast] at this
  have e : madeCells (Value.int .i64 0).cells (n * i0.size) = (depL l n 0).toArray := by
    rw [hz1, Nat.mul_one]
    apply Array.ext'
    rw [depL_zero]
    exact toList_madeCells_one (.int .i64 0) n
  rw [this, e]
/-- the greatest depth among the first ones that a node is made of -/
def dpTo (l : List Nd) (K : List Nat) (t : Nat) : Nat := (K.take t).foldl (fun m k => max m (deepS l k)) 0
theorem dpTo_succ (l : List Nd) (K : List Nat) (t : Nat) (h : t < K.length) : dpTo l K (t + 1) = max (dpTo l K t) (deepS l K[t]) := by
  unfold dpTo
  rw [List.take_succ_eq_append_getElem h, List.foldl_append]; rfl
theorem deep_le {l : List Nd} {root : Int} (P : ProgOk l root) : ∀ a, a < l.length → deepS l a ≤ a + 1 := by
  intro a
  induction a using Nat.strongRecOn with
  | _ a ih =>
    intro ha
    rw [deep_eq P ha]
    have key : ∀ (K : List Nat) (m : Nat), (∀ k ∈ K, k < a) → m ≤ a → K.foldl (fun m k => max m (deepS l k)) m ≤ a := by
      intro K
      induction K with
      | nil => intro m _ h; exact h
      | cons k K ih2 =>
        intro m hK hm
        rw [List.foldl_cons]
        have hk := hK k List.mem_cons_self
        have := ih k hk (by omega)
        exact ih2 _ (fun x hx => hK x (List.mem_cons_of_mem _ hx)) (by omega)
    have := key (kidsOf l a) 0 (fun k hk => kidsOf_lt P ha hk) (Nat.zero_le _)
    omega
theorem dpTo_le {l : List Nd} {root : Int} (P : ProgOk l root) {a : Nat} (ha : a < l.length) (K : List Nat) (hK : ∀ k ∈ K, k < a) : ∀ t, t ≤ K.length → dpTo l K t ≤ a := by
  intro t
  induction t with
  | zero => intro _; exact Nat.zero_le _
  | succ t ih =>
    intro h
    rw [dpTo_succ l K t h]
    have h1 := hK K[t] (List.getElem_mem h)
    have := deep_le P K[t] (by omega)
    have := ih (by omega)
    omega

set_option maxRecDepth 100000 in
set_option maxHeartbeats 4000000 in
theorem depth_any (l : List Nd) (nv : Value) (root : Int) (w : World) (hT : ShTab w) (hn : NdsV w nv l) (hl : l.length ≤ 1099511627776) (hf : ∀ x ∈ l, NdFit x) :
    Calls Tryz.prog 12 #[.agg #[nv, .int .i64 root]] w fun e w' => e = .returned (.int .i64 ((if checkE l root = 0 then deepS l (l.length - 1) else 0 : Nat) : Int)) ∧ Below w.heap.size w w' := by
  have HC := Lib.hid (fun (w2 : World) (hb : Below w.heap.size w w2) => check_any l nv root w2 (hT.step hb) (hn.step hb) hl hf)
  obtain ⟨src, cap, rfl, hns⟩ := hn
  have hba : Below w.heap.size w (w.alloc (.cells #[.slice src l.length cap, .int .i64 root] 24)) := (Below.refl _ _).alloc (Nat.le_refl _) _
  have HBA := Lib.hid hba
  clear hba
  by_cases hc : checkE l root = 0
  · have P := check_ok l root hc
    have hP := P.long
    have hs := P.some_
    have hr := P.root_
    rw [if_pos hc]
    rw [hc] at HC
    obtain ⟨b, off, rfl, hb, hrow⟩ := hns hs
    have HROW := Lib.hid hrow
    have HF := Lib.hid hf
    obtain ⟨m, hm⟩ : ∃ m, l.length - 1 = m := ⟨_, rfl⟩
    have hrm : root = (m : Int) := by omega
    subst hrm
    have hmn : m < l.length := by omega
    rw [hm]
    have HMK := Lib.hid (fun W => made_ints l l.length W hP)
    clear hc hns hrow hf hr hm hs
    go_enter Tryz.func12, Tryz.ntmps12
    go_wp2_with fail
    refine (HC.out _ HBA.out).mono ?_
    rintro e w1 ⟨rfl, hb1⟩
    have B1 := Lib.hid (after HBA.out hb1)
    have X1 := Lib.hid ((Bx.new 24 w #[.slice (some ⟨b, off, none⟩) l.length cap, .int .i64 (m : Int)]).keep hb1)
    obtain ⟨a0, a1, al, af⟩ := X1.out.two
    clear hb1
    obtain ⟨n, hnn⟩ : ∃ n, l.length = n := ⟨_, rfl⟩
    have HN := Lib.hid hnn
    rw [hnn] at a0 hP hmn
    have HMN : Hid (∀ W : World, (Instr.makeSlice 35 (.int .i64 (n : Int)) (.int .i64 (n : Int))).run Tryz.prog W = .ok (.slice (some ⟨W.heap.size, 0, none⟩) n n) (W.alloc (.cells (depL l n 0).toArray 3))) := Lib.hid (fun W => by have := HMK.out W; rwa [hnn] at this)
    clear hnn HMK
    go_wp2_with fail
    rw [HMN.out]
    simp only [Result.andThen_ok]
    rw [Oper.upon_value]
    go_wp2_with fail
    obtain ⟨g, hg⟩ : ∃ g, g = w1.heap.size := ⟨_, rfl⟩
    have HG := Lib.hid hg
    have HB1 : Hid (Bx 3 (w1.alloc (.cells (depL l n 0).toArray 3)) g (depL l n 0)) := Lib.hid (by rw [hg]; exact Bx.new 3 w1 _)
    have HB2 : Hid (Below g w1 (w1.alloc (.cells (depL l n 0).toArray 3))) := Lib.hid (by rw [hg]; exact (Below.refl _ _).alloc (Nat.le_refl _) _)
    rw [← hg]
    clear hg HMN a0 a1 al af HC
    go_loopw [18] (fun a wr => ∃ j : Nat, j ≤ n ∧ a = .int .i64 j ∧ Bx 3 wr g (depL l n j) ∧ Below g w1 wr) (fun a _ => n - (intOf a).toNat)
    case atStart => exact ⟨0, Nat.zero_le _, rfl, HB1.out, HB2.out⟩
    case round =>
      clear HB1 HB2
      obtain ⟨j, hj, rfl, hbx, hbl⟩ := hrel
      have HBX := Lib.hid hbx
      have HBL := Lib.hid hbl
      clear hbx hbl
      have BW := Lib.hid (B1.out.trans (HBL.out.mono (by have := HG.out; have := B1.out.size; omega)))
      by_cases hlt : j < n
      · have hjl : j < l.length := by have := HN.out; omega
        obtain ⟨kv, ev, hnd0⟩ := HROW.out j hjl
        have hnd := hnd0.step hb BW.out
        have HF1 := Lib.hid (HF.out _ (List.getElem_mem hjl)).kids
        have hk0 := hnd0.kids
        have HA := Lib.hid (P.ahead j hjl)
        have HDE := Lib.hid (deep_eq P hjl)
        have HKO := Lib.hid (kidsOf_get l j hjl)
        clear hnd0
        generalize l[j] = y at *
        obtain ⟨kind, sf, st, kids, text, B, N, D, M, num, wf, wt, ends⟩ := y
        obtain ⟨ks, kc, hkv, hks⟩ := hk0
        obtain ⟨-, ⟨es, ec, hev, hes⟩, e0, e1, e2, e3, e4, e5, e6, e7, e8, e9, e10, e11, e12⟩ := hnd
        simp only at hkv hks hev e0 e1 e2 e3 e4 e5 e6 e7 e8 e9 e10 e11 e12
        have hkl : kids.length ≤ 17592186044416 := HF1.out
        have hka : ∀ k ∈ kids, 0 ≤ k ∧ k < (j : Nat) := HA.out
        subst hkv hev
        have HKS := Lib.hid hks
        have HKA := Lib.hid hka
        have HKN : Hid (∀ k ∈ kids.map Int.toNat, k < j) := Lib.hid (fun k hk => by
          obtain ⟨x, hx, rfl⟩ := List.mem_map.1 hk
          have := hka x hx; omega)
        have HDP : Hid (deepS l j = dpTo l (kids.map Int.toNat) kids.length + 1) := Lib.hid (by
          rw [HDE.out, HKO.out]
          unfold dpTo
          rw [List.take_of_length_le (by simp)])
        clear HF1 HA hks hes hka
        go_wp2_with fail
        have HW0 : Hid (Bx 3 (wr.alloc (.cells #[.int .i64 kind, .int .i64 sf, .int .i64 st, .slice ks kids.length kc, .string text, .int .i64 B, .string N, .int .i64 D, .string M, .int .i64 num, .int .i64 wf, .int .i64 wt, .slice es ends.length ec] 46)) g ((depL l n j).set j (.int .i64 ((dpTo l (kids.map Int.toNat) 0 : Nat) : Int)))) := Lib.hid (by
          have h1 := HBX.out.alloc (.cells #[.int .i64 kind, .int .i64 sf, .int .i64 st, .slice ks kids.length kc, .string text, .int .i64 B, .string N, .int .i64 D, .string M, .int .i64 num, .int .i64 wf, .int .i64 wt, .slice es ends.length ec] 46)
          have h2 : (depL l n j).set j (.int .i64 ((dpTo l (kids.map Int.toNat) 0 : Nat) : Int)) = depL l n j := by
            apply List.ext_getElem?
            intro i
            by_cases hk : j = i
            · subst hk
              rw [List.getElem?_set_self (by rw [depL_len]; exact hlt), depL_at hlt, if_neg (by omega)]; rfl
            · rw [List.getElem?_set_ne hk]
          rw [h2]; exact h1)
        have HWB : Hid (Below g w1 (wr.alloc (.cells #[.int .i64 kind, .int .i64 sf, .int .i64 st, .slice ks kids.length kc, .string text, .int .i64 B, .string N, .int .i64 D, .string M, .int .i64 num, .int .i64 wf, .int .i64 wt, .slice es ends.length ec] 46))) := Lib.hid (HBL.out.alloc (by have := HBL.out.size; have := HG.out; omega) _)
        clear e0 e1 e2 e3 e4 e5 e6 e7 e8 e9 e10 e11 e12 HBX HBL
        rename World => wo
        go_loopw [26] (fun a wr => ∃ t : Nat, t ≤ kids.length ∧ a = .int .i64 t ∧ Bx 3 wr g ((depL l n j).set j (.int .i64 ((dpTo l (kids.map Int.toNat) t : Nat) : Int))) ∧ Below g w1 wr) (fun a _ => kids.length - (intOf a).toNat)
        case atStart => exact ⟨0, Nat.zero_le _, rfl, HW0.out, HWB.out⟩
        case round =>
          clear HW0 HWB
          obtain ⟨t, ht, rfl, hbx, hbl⟩ := hrel
          have HBX := Lib.hid hbx
          have HBL := Lib.hid hbl
          clear hbx hbl
          by_cases htl : t < kids.length
          · obtain ⟨kb, koff, rfl, hkb, hkrow⟩ := HKS.out (by omega)
            have c0 := keep (B1.out.trans (HBL.out.mono (by have := HG.out; have := B1.out.size; omega))) hkb (hkrow t htl)
            have hq := HKA.out kids[t] (List.getElem_mem htl)
            have HST : Hid (dpTo l (kids.map Int.toNat) (t + 1) = max (dpTo l (kids.map Int.toNat) t) (deepS l kids[t].toNat)) := Lib.hid (by
              rw [dpTo_succ l _ t (by simpa using htl)]; simp)
            clear hkrow
            generalize kids[t] = q0 at *
            obtain ⟨q, rfl⟩ : ∃ q : Nat, q0 = q := ⟨q0.toNat, by omega⟩
            have hqj : q < j := by omega
            have d0 : wr.cell? ⟨g, j, none⟩ = some (.int .i64 ((dpTo l (kids.map Int.toNat) t : Nat) : Int)) := by
              rw [HBX.out.cell, List.getElem?_set_self (by rw [depL_len]; exact hlt)]
            have d1 : wr.cell? ⟨g, q, none⟩ = some (.int .i64 ((deepS l q : Nat) : Int)) := by
              rw [HBX.out.cell, List.getElem?_set_ne (by omega), depL_at (by omega), if_pos hqj]
            have df := HBX.out.frozen j
            have dg := HBX.out.lt
            have HS2 : Hid (Bx 3 (wr.setCell ⟨g, j, none⟩ (.int .i64 ((dpTo l (kids.map Int.toNat) (t + 1) : Nat) : Int))) g ((depL l n j).set j (.int .i64 ((dpTo l (kids.map Int.toNat) (t + 1) : Nat) : Int)))) := Lib.hid (by
              have := HBX.out.set j (.int .i64 ((dpTo l (kids.map Int.toNat) (t + 1) : Nat) : Int))
              rwa [List.set_set] at this)
            have hst := HST.out
            simp only [Int.toNat_natCast] at hst
            generalize hx1 : dpTo l (kids.map Int.toNat) (t + 1) = x1 at *
            have HX1 := Lib.hid hx1
            clear hx1
            generalize dpTo l (kids.map Int.toNat) t = x0 at *
            generalize deepS l q = x2 at *
            have mx : max (x0 : Int) (x2 : Int) = (x1 : Int) := by omega
            have HX := Lib.hid hst
            have i1 : q < n := by omega
            have i2 : (q : Int) < (n : Int) := by omega
            have i3 : (j : Int) < (n : Int) := by omega
            clear hst HST hq
            go_wp2_with fail
            go_region_law (fail)
            all_goals
              clear c0 d0 d1 df mx i1 i2 i3
              go_wp2_with fail
              exact ⟨⟨t + 1, by omega, by go_num, by rw [HX1.out]; exact HS2.out, HBL.out.setCell (Nat.le_refl _) _ |>.drew⟩, by simp [intOf]; omega⟩
          · have ht' : t = kids.length := by omega
            have d0 : wr.cell? ⟨g, j, none⟩ = some (.int .i64 ((dpTo l (kids.map Int.toNat) t : Nat) : Int)) := by
              rw [HBX.out.cell, List.getElem?_set_self (by rw [depL_len]; exact hlt)]
            have df := HBX.out.frozen j
            have hle := dpTo_le P hjl (kids.map Int.toNat) HKN.out t (by rw [List.length_map]; exact ht)
            have HS2 : Hid (Bx 3 (wr.setCell ⟨g, j, none⟩ (.int .i64 ((dpTo l (kids.map Int.toNat) t : Nat) + 1 : Int))) g (depL l n (j + 1))) := Lib.hid (by
              have := HBX.out.set j (.int .i64 (((dpTo l (kids.map Int.toNat) t + 1 : Nat)) : Int))
              rw [List.set_set, depL_set hlt _ (by rw [HDP.out, ht'])] at this
              exact this)
            subst ht'
            generalize dpTo l (kids.map Int.toNat) kids.length = x0 at *
            go_wp2_with fail
            exact ⟨⟨j + 1, by omega, by go_num, HS2.out, HBL.out.setCell (Nat.le_refl _) _⟩, by simp [intOf]; omega⟩
      · have hj' : j = n := by omega
        subst hj'
        have d0 : wr.cell? ⟨g, m, none⟩ = some (.int .i64 ((deepS l m : Nat) : Int)) := by
          rw [HBX.out.cell, depL_at hmn, if_pos hmn]
        obtain ⟨a0, a1, al, af⟩ := (X1.out.keepB HBL.out (by have := X1.out.lt; have := HG.out; omega)).two
        go_wp2_with fail
        go_ret
        exact ⟨rfl, BW.out⟩
  · rw [if_neg hc]
    generalize checkE l root = c at *
    have q3 : (c != 0) = true := by simpa using hc
    clear hc hns hf
    go_enter Tryz.func12, Tryz.ntmps12
    go_wp2_with fail
    refine (HC.out _ HBA.out).mono ?_
    rintro e w1 ⟨rfl, hb1⟩
    have B1 := Lib.hid (after HBA.out hb1)
    clear hb1
    go_wp2_with fail
    go_ret
    exact ⟨rfl, B1.out⟩
end Go.Proofs.YtfalgnapghienaaGreatDoor
