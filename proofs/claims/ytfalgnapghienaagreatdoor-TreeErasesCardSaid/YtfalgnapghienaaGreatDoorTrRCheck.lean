/- Contract of the document's Check (written by gen_rcheck.py). -/
import Derived.Test.YtfalgnapghienaaGreatDoorTrRAll
import Derived.Test.YtfalgnapghienaaGreatDoorTrRefM
import Derived.Deep.DeepCutAuto
import Derived.Deep.CutRange
import Derived.OrdersHeld
namespace Go.Proofs.YtfalgnapghienaaGreatDoor
open Go Go.RowKit
set_option linter.unusedVariables false
set_option linter.unusedSimpArgs false

/-- which nodes are used, as cells: 1 or 0 -/
def usesL (n : Nat) (u : List Nat) : List Value := (List.range n).map fun i => .int .i64 (if i ∈ u then 1 else 0)
theorem usesL_len (n : Nat) (u : List Nat) : (usesL n u).length = n := by simp [usesL]
theorem usesL_at {n : Nat} {u : List Nat} {k : Nat} (S : List Value) (h : k < n) : (usesL n u ++ S)[k]? = some (.int .i64 (if k ∈ u then 1 else 0)) := by
  rw [List.getElem?_append_left (by rw [usesL_len]; exact h)]
  simp [usesL, h]
theorem usesL_nil (n : Nat) : usesL n [] = numC (List.replicate n 0) := by
  unfold usesL numC
  apply List.ext_getElem?
  intro i
  by_cases h : i < n
  · simp [h]
  · simp [h]
theorem usesL_set {n : Nat} {u : List Nat} {k : Nat} (S : List Value) (h : k < n) : (usesL n u ++ S).set k (.int .i64 1) = usesL n (k :: u) ++ S := by
  rw [List.set_append_left _ _ (by rw [usesL_len]; exact h)]
  congr 1
  apply List.ext_getElem?
  intro i
  by_cases hi : i < n
  · by_cases hk : k = i
    · subst hk
      rw [List.getElem?_set_self (by rw [usesL_len]; exact hi)]
      simp [usesL, hi]
    · rw [List.getElem?_set_ne hk]
      have hik : ¬ i = k := Ne.symm hk
      simp [usesL, hi, hik]
  · rw [List.getElem?_eq_none (by rw [List.length_set, usesL_len]; omega), List.getElem?_eq_none (by rw [usesL_len]; omega)]

/-- a program's box, and the row of which nodes are used -/
structure US (w0 : World) (g : Nat) (nv : Value) (root : Int) (gu n : Nat) (S : List Value) (u : List Nat) (w : World) : Prop where
  ds : DS w0 g nv root w
  row : Bx 3 w gu (usesL n u ++ S)
  ge : w0.heap.size ≤ gu
theorem US.keep {w0 w w1 : World} {g : Nat} {nv : Value} {root : Int} {gu n : Nat} {S : List Value} {u : List Nat} (h : US w0 g nv root gu n S u w) (hb : Below w.heap.size w w1) : US w0 g nv root gu n S u w1 := ⟨h.ds.keep hb, h.row.keep hb, h.ge⟩
theorem US.take {w0 w : World} {g : Nat} {nv : Value} {root : Int} {gu n : Nat} {S : List Value} {u : List Nat} (h : US w0 g nv root gu n S u w) {k : Nat} (hk : k < n) : US w0 g nv root gu n S (k :: u) (w.setCell ⟨gu, k, none⟩ (.int .i64 1)) := by
  have hne : g ≠ gu := fun e => by
    have h1 := h.row
    have h2 := h.ds.box
    unfold Bx at h1 h2
    rw [← e, h2] at h1
    simp at h1
  refine ⟨⟨h.ds.bel.setCell h.ge _, h.ds.box.other hne _ _, h.ds.at_⟩, ?_, h.ge⟩
  have := h.row.set k (.int .i64 1)
  rwa [usesL_set S hk] at this
/-- .. and a node in its box -/
structure NS (w0 : World) (g : Nat) (nv : Value) (root : Int) (gu n : Nat) (S : List Value) (u : List Nat) (s : Nat) (x : Nd) (kv ev : Value) (w : World) : Prop where
  us : US w0 g nv root gu n S u w
  box : BoxN w s (ndL x kv ev)
theorem NS.keep {w0 w w1 : World} {g : Nat} {nv : Value} {root : Int} {gu n : Nat} {S : List Value} {u : List Nat} {s : Nat} {x : Nd} {kv ev : Value} (h : NS w0 g nv root gu n S u s x kv ev w) (hb : Below w.heap.size w w1) : NS w0 g nv root gu n S u s x kv ev w1 := ⟨h.us.keep hb, h.box.keep hb⟩
theorem NS.drew {w0 w : World} {g : Nat} {nv : Value} {root : Int} {gu n : Nat} {S : List Value} {u : List Nat} {s : Nat} {x : Nd} {kv ev : Value} (h : NS w0 g nv root gu n S u s x kv ev w) : NS w0 g nv root gu n S u s x kv ev w.drew := h.keep ((Below.refl _ _).drew)
theorem NS.all {w0 w : World} {g : Nat} {nv : Value} {root : Int} {gu n : Nat} {S : List Value} {u : List Nat} {s : Nat} {x : Nd} {kv ev : Value} (h : NS w0 g nv root gu n S u s x kv ev w) :
    w.cell? ⟨s, 0, none⟩ = some (.int .i64 x.kind) ∧ w.cell? ⟨s, 3, none⟩ = some kv ∧ w.cell? ⟨s, 4, none⟩ = some (.string x.text) ∧ w.cell? ⟨s, 5, none⟩ = some (.int .i64 x.B) ∧ w.cell? ⟨s, 6, none⟩ = some (.string x.N) ∧ w.cell? ⟨s, 7, none⟩ = some (.int .i64 x.D) ∧ w.cell? ⟨s, 8, none⟩ = some (.string x.M) ∧ NS w0 g nv root gu n S u s x kv ev w :=
  ⟨h.box.cell 0, h.box.cell 3, h.box.cell 4, h.box.cell 5, h.box.cell 6, h.box.cell 7, h.box.cell 8, h⟩
def overO : Option Nat → Nat → Bool
  | none, _ => false
  | some m, n => decide (m < n)
theorem over_eq (s : Shp) (n : Nat) : overB s n = overO s.most n := by unfold overB overO; cases s.most <;> rfl
theorem rtext2_any (k : Int) (w : World) : Calls Tryz.prog 29 #[.int .i64 k] w fun e w' => e = .returned (.bool (rtextB k)) ∧ Below w.heap.size w w' := (rtext_any k w).mono fun e w' h => ⟨h.1, by rw [h.2]; exact Below.refl _ _⟩
theorem rtyped2_any (k : Int) (w : World) : Calls Tryz.prog 30 #[.int .i64 k] w fun e w' => e = .returned (.bool (rtypedB k)) ∧ Below w.heap.size w w' := (rtyped_any k w).mono fun e w' h => ⟨h.1, by rw [h.2]; exact Below.refl _ _⟩
theorem below_drewN' {B : Nat} {w0 w : World} (h : Below B w0 w) (m : Nat) : Below B w0 (w.drewN m) := ⟨h.os, h.tape, h.output, h.size, h.block⟩
theorem lstr_empty (s : ByteArray) (h : s.size = 0) : s.toList.isEmpty = true := by
  have : s = ⟨#[]⟩ := by
    apply ByteArray.ext
    apply Array.eq_empty_of_size_eq_zero h
  subst this; rw [ByteArray.toList_eq]; rfl
theorem lstr_full (s : ByteArray) (h : s.size ≠ 0) : s.toList.isEmpty = false := by
  rw [ByteArray.toList_eq]
  cases hs : s.data.toList.isEmpty
  · rfl
  · rw [List.isEmpty_iff, ← List.length_eq_zero_iff] at hs
    exact absurd (show s.size = 0 from hs) h
theorem NS.take {w0 w : World} {g : Nat} {nv : Value} {root : Int} {gu n : Nat} {S : List Value} {u : List Nat} {s : Nat} {x : Nd} {kv ev : Value} (h : NS w0 g nv root gu n S u s x kv ev w) {k : Nat} (hk : k < n) : NS w0 g nv root gu n S (k :: u) s x kv ev (w.setCell ⟨gu, k, none⟩ (.int .i64 1)) := by
  have hne : s ≠ gu := fun e => by
    have h1 := h.us.row
    have h2 := h.box
    unfold Bx at h1
    unfold BoxN at h2
    rw [← e, h2] at h1
    simp at h1
  exact ⟨h.us.take hk, h.box.other hne _ _⟩
theorem nmS_some : ∀ i : Fin 46, 0 < i.1 → (nmS ((i.1 : Nat) : Int)).size ≠ 0 := by decide
theorem nmS_ne {k : Nat} (h0 : 0 < k) (h1 : k < 46) : (nmS (k : Int)).toList.isEmpty = false := lstr_full _ (nmS_some ⟨k, h1⟩ h0)

set_option maxRecDepth 100000 in
set_option maxHeartbeats 4000000 in
theorem rcheck_any (l : List Nd) (nv : Value) (root : Int) (w : World) (hn : NdsV w nv l) (hl : l.length ≤ 300) (hf : ∀ x ∈ l, x.kids.length ≤ 100 ∧ x.text.size ≤ 200 ∧ x.N.size ≤ 200 ∧ x.M.size ≤ 50) :
    Calls Tryz.prog 9 #[.agg #[nv, .int .i64 root]] w (ChkPost w (checkE l root)) := by
  obtain ⟨src, cap, rfl, hsrc⟩ := hn
  by_cases h0 : l.length = 0
  ·
    have E := Lib.hid (show checkE l root = 5 by unfold checkE; rw [if_neg (by omega), if_pos (.inl h0)])
    clear hsrc hf
    rw [h0]
    go_enter Tryz.func9, Tryz.ntmps9
    go_wp2_with fail
    go_ret
    exact ⟨by rw [E.out]; rfl, by repeat (first | exact Below.refl _ _ | apply Below.setCell _ (by first | omega | (simp <;> omega)) | apply Below.alloc _ (by first | omega | (simp <;> omega)))⟩
  · obtain ⟨b, off, rfl, hb, hrow⟩ := hsrc (by omega)
    obtain ⟨m, hm⟩ : ∃ m, l.length = m + 1 := ⟨l.length - 1, by omega⟩
    have q1 : decide ((16384 : Int) < ((m : Int) + 1)) = false := decide_eq_false (by omega)
    have q2 : (((m : Int) + 1) == 0) = false := by simp; omega
    have hmb : m < 300 := by omega
    have HM := Lib.hid hm
    by_cases hr : root = (m : Int)
    · subst hr
      obtain ⟨kv, ev, hnd⟩ := hrow m (by omega)
      have c0 := hnd.c0
      have HK : Hid (l.getLast?.map Nd.kind = some (l[m]'(by omega)).kind) := Lib.hid (by
        rw [List.getLast?_eq_getElem?, List.getElem?_eq_getElem (by omega)]
        simp [hm])
      generalize (l[m]'(by omega)).kind = kd at *
      by_cases hk : kd = 1
      · subst hk
        have HE : Hid (checkE l (m : Int) = if (checkL l 0 []).1 ≠ 0 then (checkL l 0 []).1 else if ∀ j, j < m → j ∈ (checkL l 0 []).2 then 0 else 3) := Lib.hid (by
          unfold checkE
          rw [if_neg (by omega), if_neg (fun h => by
            rcases h with h | h | h
            · omega
            · exact h (by omega)
            · exact h HK.out)]
          simp only [hm, Nat.add_sub_cancel])
        have HROW := Lib.hid hrow
        have HF := Lib.hid hf
        have D0 := Lib.hid (DS.new w (.slice (some ⟨b, off, none⟩) (m + 1) cap) (m : Int))
        obtain ⟨W0, hW0⟩ : ∃ W0, W0 = w.alloc (.cells #[(.slice (some ⟨b, off, none⟩) (m + 1) cap), .int .i64 (m : Int)] 24) := ⟨_, rfl⟩
        rw [← hW0] at D0
        have HW0 := Lib.hid hW0
        clear hrow hf h0 hnd hW0
        rw [hm]
        clear hm
        go_enter Tryz.func9, Tryz.ntmps9
        go_wp2_with fail
        try rw [← HW0.out]
        clear HW0 c0
        go_loopw [4, 5] (fun v i wr => ∃ (k : Nat) (x : Value), k ≤ m + 1 ∧ i = .int .i64 k ∧ v = x ∧ DS w w.heap.size (.slice (some ⟨b, off, none⟩) (m + 1) cap) (m : Int) wr ∧ wr.ownsRow (w.heap.size + 1) 3 1 x k (numC (List.replicate k 0))) (fun _ i _ => m + 1 - (intOf i).toNat)
        case atStart => exact ⟨0, _, Nat.zero_le _, rfl, rfl, D0.out, World.ownsRow_nil _ _ _ _⟩
        case round =>
          clear D0
          obtain ⟨k, x, hk, rfl, rfl, hd, ho⟩ := hrel
          have HD := Lib.hid hd
          have HO := Lib.hid ho
          by_cases hlt : k < m + 1
          ·
            have hs : w.heap.size + 1 ≤ wr.heap.size := by have := hd.box.lt; omega
            have hka : KidsV (wr.alloc (.cells #[.int .i64 0] 3)) (.slice (some ⟨wr.heap.size, 0, none⟩) 1 1) [0] := by
              refine owns_kids (B := w.heap.size + 1) (n := 1) ?_ rfl (by decide)
              exact own_one wr 0 hs
            obtain ⟨v', w', hrun, hown', hgr⟩ := append_nums 35 (wr.alloc (.cells #[.int .i64 0] 3)) (w.heap.size + 1) k u4 (numC (List.replicate k 0)) (ho.alloc _) _ [0] hka (by simp; omega) (by simp; omega)
            have HR := Lib.hid hrun
            have HO2 : Hid (w'.ownsRow (w.heap.size + 1) 3 1 v' (k + 1) (numC (List.replicate (k + 1) 0))) := Lib.hid (by
              have e : numC (List.replicate k 0) ++ numC [0] = numC (List.replicate (k + 1) 0) := by
                unfold numC; rw [← List.map_append, List.replicate_succ']
              rw [e] at hown'; exact hown')
            have HD2 : Hid (DS w w.heap.size (.slice (some ⟨b, off, none⟩) (m + 1) cap) (m : Int) w') := Lib.hid (by
              have h1 := hd.keep ((Below.refl wr.heap.size wr).alloc (Nat.le_refl _) (.cells #[.int .i64 0] 3))
              refine ⟨Below.grown h1.bel hgr h1.bel.size (fun j hj => by have := (ho.lt j hj).1; omega), h1.box.grown hgr (fun e => by have := (ho.lt w.heap.size e.symm).1; omega), h1.at_⟩)
            clear hka hrun hown' hgr hd ho hs HD HO
            go_wp2_with (first | (at_builtin; refine wpList_append_run rfl _ _ 35 rfl u4 (.slice (some ⟨wr.heap.size, 0, none⟩) 1 1) v' w' rfl rfl HR.out ?_) | (at_builtin; skip))
            go_roundw
            case rel => exact ⟨k + 1, v', by omega, by go_num, rfl, HD2.out, HO2.out⟩
            case measure => simp [intOf]; omega
          · have hkm : m + 1 = k := by omega
            subst hkm
            clear hlt hk hd ho
            obtain ⟨-, ⟨-, h0'⟩ | ⟨gu, cu, cur, hv, hge, hcur, hnc, hcm, hcs, htk⟩⟩ := HO.out
            · omega
            subst hv
            obtain ⟨S, hS⟩ : ∃ S, S = cur.toList.drop (m + 1) := ⟨_, rfl⟩
            have HU0 : Hid (US w w.heap.size (.slice (some ⟨b, off, none⟩) (m + 1) cap) (m : Int) gu (m + 1) S [] wr) := Lib.hid ⟨HD.out, (by
              unfold Bx
              rw [hcur, usesL_nil, hS]
              congr 2
              apply Array.ext'
              rw [Nat.mul_one] at htk
              show cur.toList = (numC (List.replicate (m + 1) 0) ++ cur.toList.drop (m + 1))
              rw [← htk, List.take_append_drop]), by omega⟩
            clear hS hcur hnc hcm hcs htk HO HD hge
            go_wp2_with fail
            rename World => wo
            go_loopw [6] (fun a wr => ∃ (k : Nat) (u : List Nat), k ≤ m + 1 ∧ a = .int .i64 k ∧ checkL l 0 [] = checkL (l.drop k) k u ∧ US w w.heap.size (.slice (some ⟨b, off, none⟩) (m + 1) cap) (m : Int) gu (m + 1) S u wr) (fun a _ => m + 1 - (intOf a).toNat)
            case atStart => exact ⟨0, [], Nat.zero_le _, rfl, rfl, HU0.out⟩
            case round =>
              clear HU0
              obtain ⟨k, u, hk, rfl, heq, hu⟩ := hrel
              have HEQ := Lib.hid heq
              have HU := Lib.hid hu
              obtain ⟨a0, a1, al, af⟩ := hu.ds.box.two
              clear heq hu
              by_cases hlt : k < m + 1
              · have hkl : k < l.length := by have := HM.out; omega
                obtain ⟨kv, ev, hnd0⟩ := HROW.out k hkl
                have hnd := hnd0.step hb HU.out.ds.bel
                have HD : Hid (l.drop k = l[k] :: l.drop (k + 1)) := Lib.hid (List.drop_eq_getElem_cons hkl)
                have HF1 := Lib.hid (HF.out _ (List.getElem_mem hkl))
                have hk0 := hnd0.kids
                clear hnd0
                generalize l[k] = y at *
                obtain ⟨kind, sf, st, kids, text, B, N, D, M, num, wf, wt, ends⟩ := y
                obtain ⟨ks, kc, hkv, hks⟩ := hk0
                have HKS := Lib.hid hks
                obtain ⟨-, ⟨es, ec, hev, -⟩, e0, e1, e2, e3, e4, e5, e6, e7, e8, e9, e10, e11, e12⟩ := hnd
                simp only at hkv hks hev e0 e1 e2 e3 e4 e5 e6 e7 e8 e9 e10 e11 e12
                subst hkv hev
                obtain ⟨s, hs⟩ : ∃ s, s = wr.heap.size := ⟨_, rfl⟩
                have NS1 : Hid (NS w w.heap.size (.slice (some ⟨b, off, none⟩) (m + 1) cap) (m : Int) gu (m + 1) S u s ⟨kind, sf, st, kids, text, B, N, D, M, num, wf, wt, ends⟩ (.slice ks kids.length kc) (.slice es ends.length ec) (wr.alloc (.cells #[.int .i64 kind, .int .i64 sf, .int .i64 st, .slice ks kids.length kc, .string text, .int .i64 B, .string N, .int .i64 D, .string M, .int .i64 num, .int .i64 wf, .int .i64 wt, .slice es ends.length ec] 46))) := Lib.hid ⟨HU.out.keep ((Below.refl _ _).alloc (Nat.le_refl _) _), by rw [hs]; exact BoxN.new wr #[.int .i64 kind, .int .i64 sf, .int .i64 st, .slice ks kids.length kc, .string text, .int .i64 B, .string N, .int .i64 D, .string M, .int .i64 num, .int .i64 wf, .int .i64 wt, .slice es ends.length ec]⟩
                have HS := Lib.hid hs
                clear hks hs HU
                by_cases hkn : 0 < kind ∧ kind < 46
                · obtain ⟨q, rfl⟩ : ∃ q : Nat, kind = q := ⟨kind.toNat, by omega⟩
                  have q0 : 0 < q := by omega
                  have q46 : q < 46 := by omega
                  have hne := nmS_ne q0 q46
                  clear hkn
                  go_wp2_with fail
                  refine (rname_any (q : Nat) _).mono ?_
                  rintro e w2 ⟨rfl, hb2⟩
                  have NS2 := Lib.hid (NS1.out.keep hb2)
                  obtain ⟨-, -, -, -, -, -, -, n2⟩ := NS2.out.all
                  clear hb2 NS1 n2 a0 a1 al af e0 e1 e2 e3 e4 e5 e6 e7 e8 e9 e10 e11 e12
                  generalize nmS (q : Int) = X at *
                  try rw [← HS.out]
                  go_upto_region 17 with fail
                  have HKN : Hid (knownB (q : Int) = true) := Lib.hid (by unfold knownB; exact decide_eq_true ⟨by omega, by omega⟩)
                  go_cut [79] from 44 to 165 (fun c wx => c = .bool (decide (kids.length < (shp (q : Int)).least) || overB (shp (q : Int)) kids.length) ∧ NS w w.heap.size (.slice (some ⟨b, off, none⟩) (m + 1) cap) (m : Int) gu (m + 1) S u s ⟨(q : Nat), sf, st, kids, text, B, N, D, M, num, wf, wt, ends⟩ (.slice ks kids.length kc) (.slice es ends.length ec) wx)
                  case first =>
                    clear HEQ HD HKS HF HROW HE HK HF1 hne
                    have HLE := Lib.hid (fun W => rleast_any q q46 W)
                    have HMO := Lib.hid (fun W => rmost_any q q46 W)
                    unfold rmostI at HMO
                    obtain ⟨L, hL⟩ : ∃ L, (shp (q : Int)).least = L := ⟨_, rfl⟩
                    rw [hL] at HLE
                    have HL := Lib.hid hL
                    clear hL
                    obtain ⟨mo, hmo⟩ : ∃ mo, (shp (q : Int)).most = mo := ⟨_, rfl⟩
                    rw [hmo] at HMO
                    have HOV : Hid (overB (shp (q : Int)) kids.length = overO mo kids.length) := Lib.hid (by rw [← hmo]; exact over_eq _ _)
                    clear hmo
                    by_cases c1 : kids.length < L
                    · have q1 : decide ((kids.length : Int) < (L : Int)) = true := decide_eq_true (by omega)
                      have q1n : decide (kids.length < L) = true := decide_eq_true c1
                      have C1 := Lib.hid c1
                      refine wp_region_held_drew (S := (fun w' => w'.cell? ⟨s, 0, none⟩ = some (.int .i64 (q : Nat)) ∧ w'.cell? ⟨s, 3, none⟩ = some (.slice ks kids.length kc) ∧ w'.cell? ⟨s, 4, none⟩ = some (.string text) ∧ w'.cell? ⟨s, 5, none⟩ = some (.int .i64 B) ∧ w'.cell? ⟨s, 6, none⟩ = some (.string N) ∧ w'.cell? ⟨s, 7, none⟩ = some (.int .i64 D) ∧ w'.cell? ⟨s, 8, none⟩ = some (.string M) ∧ NS w w.heap.size (.slice (some ⟨b, off, none⟩) (m + 1) cap) (m : Int) gu (m + 1) S u s ⟨(q : Nat), sf, st, kids, text, B, N, D, M, num, wf, wt, ends⟩ (.slice ks kids.length kc) (.slice es ends.length ec) w')) (by kernel_rfl) (NS2.out.drew.all) (fun hHeld => ?_)
                      (refine wpAnyH_take (i := 0) (v := ?vv0) rfl (by kernel_rfl) (by kernel_rfl) (by kernel_rfl) (fun _ _ _ h => h) (Or.inl ⟨by rfl, ?hy0⟩) (by assumption) ?rest0; case hy0 => (intro w hSw; (try dsimp only at hSw); go_simp; try with_reducible rfl))
                      (try simp only [List.getElem_toArray, List.getElem_cons_zero, List.getElem_cons_succ, Act.put, List.setIfInBounds_toArray, List.set_cons_zero, List.set_cons_succ])
                      (refine wpAnyH_take (i := 1) (v := ?vv1) rfl (by kernel_rfl) (by kernel_rfl) (by kernel_rfl) (fun _ _ _ h => h) (Or.inl ⟨by rfl, ?hy1⟩) (by assumption) ?rest1; case hy1 => (intro w hSw; (try dsimp only at hSw); go_simp; try with_reducible rfl))
                      (try simp only [List.getElem_toArray, List.getElem_cons_zero, List.getElem_cons_succ, Act.put, List.setIfInBounds_toArray, List.set_cons_zero, List.set_cons_succ])
                      (refine wpAnyH_take (i := 2) (v := ?vv2) rfl (by kernel_rfl) (by kernel_rfl) (by kernel_rfl) (fun _ _ _ h => h) (Or.inl ⟨by rfl, ?hy2⟩) (by assumption) ?rest2; case hy2 => (intro w hSw; (try dsimp only at hSw); go_simp; try with_reducible rfl))
                      (try simp only [List.getElem_toArray, List.getElem_cons_zero, List.getElem_cons_succ, Act.put, List.setIfInBounds_toArray, List.set_cons_zero, List.set_cons_succ])
                      (refine wpAnyH_take (i := 3) (v := ?vv3) rfl (by kernel_rfl) (by kernel_rfl) (by kernel_rfl) (fun _ _ _ h => h) (Or.inl ⟨by rfl, ?hy3⟩) (by assumption) ?rest3; case hy3 => (intro w hSw; (try dsimp only at hSw); go_simp; try with_reducible rfl))
                      (try simp only [List.getElem_toArray, List.getElem_cons_zero, List.getElem_cons_succ, Act.put, List.setIfInBounds_toArray, List.set_cons_zero, List.set_cons_succ])
                      (refine wpAnyH_take (i := 4) (v := ?vv4) rfl (by kernel_rfl) (by kernel_rfl) (by kernel_rfl) (fun _ _ _ h => h) (Or.inl ⟨by rfl, ?hy4⟩) (by assumption) ?rest4; case hy4 => (intro w hSw; (try dsimp only at hSw); go_simp; try with_reducible rfl))
                      (try simp only [List.getElem_toArray, List.getElem_cons_zero, List.getElem_cons_succ, Act.put, List.setIfInBounds_toArray, List.set_cons_zero, List.set_cons_succ])
                      (refine wpAnyH_ready (rs := [5]) (by kernel_rfl) (List.cons_ne_nil _ _) ?_; refine AllReadyH.cons rfl (fun K hK => ?_) AllReadyH.nil; go_simp; go_split_ands; refine (HLE.out _).mono ?_; rintro e wz ⟨rfl, hb2⟩; (try go_wp2_with fail); refine hK.out _ _ ?hS5 (fun hHeld2 => ?rest5); (case hS5 => (exact (NS.keep (by assumption) hb2).all)); clear hK K; (try simp only [List.getElem_toArray, List.getElem_cons_zero, List.getElem_cons_succ, Act.put, List.setIfInBounds_toArray, List.set_cons_zero, List.set_cons_succ]))
                      (refine wpAnyH_take (i := 6) (v := ?vv6) rfl (by kernel_rfl) (by kernel_rfl) (by kernel_rfl) (fun _ _ _ h => h) (Or.inl ⟨by rfl, ?hy6⟩) (by assumption) ?rest6; case hy6 => (intro w hSw; (try dsimp only at hSw); go_simp; try with_reducible rfl))
                      (try simp only [List.getElem_toArray, List.getElem_cons_zero, List.getElem_cons_succ, Act.put, List.setIfInBounds_toArray, List.set_cons_zero, List.set_cons_succ])
                      (first | rw [q1n] | rw [q1] | skip)
                      (refine wpAnyH_take (i := 7) (v := ?vv7) rfl (by kernel_rfl) (by kernel_rfl) (by kernel_rfl) (fun _ _ _ h => h) (Or.inl ⟨by rfl, ?hy7⟩) (by assumption) ?rest7; case hy7 => (intro w hSw; (try dsimp only at hSw); go_simp; try with_reducible rfl))
                      (try simp only [List.getElem_toArray, List.getElem_cons_zero, List.getElem_cons_succ, Act.put, List.setIfInBounds_toArray, List.set_cons_zero, List.set_cons_succ])
                      first | (refine wpAnyH_take (i := 8) (v := undef) rfl (by kernel_rfl) (by kernel_rfl) (by kernel_rfl) (fun _ _ _ h => h) (Or.inr ⟨by rfl, rfl⟩) (by assumption) ?_) | (refine wpAnyH_take (i := 8) (v := ?vv8) rfl (by kernel_rfl) (by kernel_rfl) (by kernel_rfl) (fun _ _ _ h => h) (Or.inl ⟨by rfl, ?hy8⟩) (by assumption) ?rest8; case hy8 => (intro w hSw; (try dsimp only at hSw); go_simp; try with_reducible rfl))
                      (try simp only [List.getElem_toArray, List.getElem_cons_zero, List.getElem_cons_succ, Act.put, List.setIfInBounds_toArray, List.set_cons_zero, List.set_cons_succ])
                      first | (refine wpAnyH_take (i := 9) (v := undef) rfl (by kernel_rfl) (by kernel_rfl) (by kernel_rfl) (fun _ _ _ h => h) (Or.inr ⟨by rfl, rfl⟩) (by assumption) ?_) | (refine wpAnyH_take (i := 9) (v := ?vv9) rfl (by kernel_rfl) (by kernel_rfl) (by kernel_rfl) (fun _ _ _ h => h) (Or.inl ⟨by rfl, ?hy9⟩) (by assumption) ?rest9; case hy9 => (intro w hSw; (try dsimp only at hSw); go_simp; try with_reducible rfl))
                      (try simp only [List.getElem_toArray, List.getElem_cons_zero, List.getElem_cons_succ, Act.put, List.setIfInBounds_toArray, List.set_cons_zero, List.set_cons_succ])
                      first
                        | (refine wpAnyH_take (i := 10) (v := undef) rfl (by kernel_rfl) (by kernel_rfl) (by kernel_rfl) (fun _ _ _ h => h) (Or.inr ⟨by rfl, rfl⟩) (by assumption) ?_; (try simp only [List.getElem_toArray, List.getElem_cons_zero, List.getElem_cons_succ, Act.put, List.setIfInBounds_toArray, List.set_cons_zero, List.set_cons_succ]))
                        | (refine wpAnyH_ready (rs := [10]) (by kernel_rfl) (List.cons_ne_nil _ _) ?_; refine AllReadyH.cons rfl (fun K hK => ?_) AllReadyH.nil; go_simp; go_split_ands; refine (HMO.out _).mono ?_; rintro e wz ⟨rfl, hb2⟩; (try go_wp2_with fail); refine hK.out _ _ ?hS10 (fun hHeld2 => ?rest10); (case hS10 => (exact (NS.keep (by assumption) hb2).all)); clear hK K; (try simp only [List.getElem_toArray, List.getElem_cons_zero, List.getElem_cons_succ, Act.put, List.setIfInBounds_toArray, List.set_cons_zero, List.set_cons_succ]))
                      first | (refine wpAnyH_take (i := 11) (v := undef) rfl (by kernel_rfl) (by kernel_rfl) (by kernel_rfl) (fun _ _ _ h => h) (Or.inr ⟨by rfl, rfl⟩) (by assumption) ?_) | (refine wpAnyH_take (i := 11) (v := ?vv11) rfl (by kernel_rfl) (by kernel_rfl) (by kernel_rfl) (fun _ _ _ h => h) (Or.inl ⟨by rfl, ?hy11⟩) (by assumption) ?rest11; case hy11 => (intro w hSw; (try dsimp only at hSw); go_simp; try with_reducible rfl))
                      (try simp only [List.getElem_toArray, List.getElem_cons_zero, List.getElem_cons_succ, Act.put, List.setIfInBounds_toArray, List.set_cons_zero, List.set_cons_succ])
                      (first | rw [q3] | rw [q3n] | skip)
                      first | (refine wpAnyH_take (i := 12) (v := undef) rfl (by kernel_rfl) (by kernel_rfl) (by kernel_rfl) (fun _ _ _ h => h) (Or.inr ⟨by rfl, rfl⟩) (by assumption) ?_) | (refine wpAnyH_take (i := 12) (v := ?vv12) rfl (by kernel_rfl) (by kernel_rfl) (by kernel_rfl) (fun _ _ _ h => h) (Or.inl ⟨by rfl, ?hy12⟩) (by assumption) ?rest12; case hy12 => (intro w hSw; (try dsimp only at hSw); go_simp; try with_reducible rfl))
                      (try simp only [List.getElem_toArray, List.getElem_cons_zero, List.getElem_cons_succ, Act.put, List.setIfInBounds_toArray, List.set_cons_zero, List.set_cons_succ])
                      first | (refine wpAnyH_take (i := 13) (v := undef) rfl (by kernel_rfl) (by kernel_rfl) (by kernel_rfl) (fun _ _ _ h => h) (Or.inr ⟨by rfl, rfl⟩) (by assumption) ?_) | (refine wpAnyH_take (i := 13) (v := ?vv13) rfl (by kernel_rfl) (by kernel_rfl) (by kernel_rfl) (fun _ _ _ h => h) (Or.inl ⟨by rfl, ?hy13⟩) (by assumption) ?rest13; case hy13 => (intro w hSw; (try dsimp only at hSw); go_simp; try with_reducible rfl))
                      (try simp only [List.getElem_toArray, List.getElem_cons_zero, List.getElem_cons_succ, Act.put, List.setIfInBounds_toArray, List.set_cons_zero, List.set_cons_succ])
                      first | (refine wpAnyH_take (i := 14) (v := undef) rfl (by kernel_rfl) (by kernel_rfl) (by kernel_rfl) (fun _ _ _ h => h) (Or.inr ⟨by rfl, rfl⟩) (by assumption) ?_) | (refine wpAnyH_take (i := 14) (v := ?vv14) rfl (by kernel_rfl) (by kernel_rfl) (by kernel_rfl) (fun _ _ _ h => h) (Or.inl ⟨by rfl, ?hy14⟩) (by assumption) ?rest14; case hy14 => (intro w hSw; (try dsimp only at hSw); go_simp; try with_reducible rfl))
                      (try simp only [List.getElem_toArray, List.getElem_cons_zero, List.getElem_cons_succ, Act.put, List.setIfInBounds_toArray, List.set_cons_zero, List.set_cons_succ])
                      first | (refine wpAnyH_take (i := 15) (v := undef) rfl (by kernel_rfl) (by kernel_rfl) (by kernel_rfl) (fun _ _ _ h => h) (Or.inr ⟨by rfl, rfl⟩) (by assumption) ?_) | (refine wpAnyH_take (i := 15) (v := ?vv15) rfl (by kernel_rfl) (by kernel_rfl) (by kernel_rfl) (fun _ _ _ h => h) (Or.inl ⟨by rfl, ?hy15⟩) (by assumption) ?rest15; case hy15 => (intro w hSw; (try dsimp only at hSw); go_simp; try with_reducible rfl))
                      (try simp only [List.getElem_toArray, List.getElem_cons_zero, List.getElem_cons_succ, Act.put, List.setIfInBounds_toArray, List.set_cons_zero, List.set_cons_succ])
                      first | (refine wpAnyH_take (i := 16) (v := undef) rfl (by kernel_rfl) (by kernel_rfl) (by kernel_rfl) (fun _ _ _ h => h) (Or.inr ⟨by rfl, rfl⟩) (by assumption) ?_) | (refine wpAnyH_take (i := 16) (v := ?vv16) rfl (by kernel_rfl) (by kernel_rfl) (by kernel_rfl) (fun _ _ _ h => h) (Or.inl ⟨by rfl, ?hy16⟩) (by assumption) ?rest16; case hy16 => (intro w hSw; (try dsimp only at hSw); go_simp; try with_reducible rfl))
                      (try simp only [List.getElem_toArray, List.getElem_cons_zero, List.getElem_cons_succ, Act.put, List.setIfInBounds_toArray, List.set_cons_zero, List.set_cons_succ])
                      first | (refine wpAnyH_take (i := 17) (v := undef) rfl (by kernel_rfl) (by kernel_rfl) (by kernel_rfl) (fun _ _ _ h => h) (Or.inr ⟨by rfl, rfl⟩) (by assumption) ?_) | (refine wpAnyH_take (i := 17) (v := ?vv17) rfl (by kernel_rfl) (by kernel_rfl) (by kernel_rfl) (fun _ _ _ h => h) (Or.inl ⟨by rfl, ?hy17⟩) (by assumption) ?rest17; case hy17 => (intro w hSw; (try dsimp only at hSw); go_simp; try with_reducible rfl))
                      (try simp only [List.getElem_toArray, List.getElem_cons_zero, List.getElem_cons_succ, Act.put, List.setIfInBounds_toArray, List.set_cons_zero, List.set_cons_succ])
                      first
                        | (refine wpAnyH_take (i := 18) (v := undef) rfl (by kernel_rfl) (by kernel_rfl) (by kernel_rfl) (fun _ _ _ h => h) (Or.inr ⟨by rfl, rfl⟩) (by assumption) ?_; (try simp only [List.getElem_toArray, List.getElem_cons_zero, List.getElem_cons_succ, Act.put, List.setIfInBounds_toArray, List.set_cons_zero, List.set_cons_succ]))
                        | (refine wpAnyH_ready (rs := [18]) (by kernel_rfl) (List.cons_ne_nil _ _) ?_; refine AllReadyH.cons rfl (fun K hK => ?_) AllReadyH.nil; go_simp; go_split_ands; refine (HMO.out _).mono ?_; rintro e wz ⟨rfl, hb2⟩; (try go_wp2_with fail); refine hK.out _ _ ?hS18 (fun hHeld2 => ?rest18); (case hS18 => (exact (NS.keep (by assumption) hb2).all)); clear hK K; (try simp only [List.getElem_toArray, List.getElem_cons_zero, List.getElem_cons_succ, Act.put, List.setIfInBounds_toArray, List.set_cons_zero, List.set_cons_succ]))
                      first | (refine wpAnyH_take (i := 19) (v := undef) rfl (by kernel_rfl) (by kernel_rfl) (by kernel_rfl) (fun _ _ _ h => h) (Or.inr ⟨by rfl, rfl⟩) (by assumption) ?_) | (refine wpAnyH_take (i := 19) (v := ?vv19) rfl (by kernel_rfl) (by kernel_rfl) (by kernel_rfl) (fun _ _ _ h => h) (Or.inl ⟨by rfl, ?hy19⟩) (by assumption) ?rest19; case hy19 => (intro w hSw; (try dsimp only at hSw); go_simp; try with_reducible rfl))
                      (try simp only [List.getElem_toArray, List.getElem_cons_zero, List.getElem_cons_succ, Act.put, List.setIfInBounds_toArray, List.set_cons_zero, List.set_cons_succ])
                      (first | rw [q2n] | rw [q2] | skip)
                      first | (refine wpAnyH_take (i := 20) (v := undef) rfl (by kernel_rfl) (by kernel_rfl) (by kernel_rfl) (fun _ _ _ h => h) (Or.inr ⟨by rfl, rfl⟩) (by assumption) ?_) | (refine wpAnyH_take (i := 20) (v := ?vv20) rfl (by kernel_rfl) (by kernel_rfl) (by kernel_rfl) (fun _ _ _ h => h) (Or.inl ⟨by rfl, ?hy20⟩) (by assumption) ?rest20; case hy20 => (intro w hSw; (try dsimp only at hSw); go_simp; try with_reducible rfl))
                      (try simp only [List.getElem_toArray, List.getElem_cons_zero, List.getElem_cons_succ, Act.put, List.setIfInBounds_toArray, List.set_cons_zero, List.set_cons_succ])
                      (refine wpAnyH_take (i := 21) (v := ?vv21) rfl (by kernel_rfl) (by kernel_rfl) (by kernel_rfl) (fun _ _ _ h => h) (Or.inl ⟨by rfl, ?hy21⟩) (by assumption) ?rest21; case hy21 => (intro w hSw; (try dsimp only at hSw); go_simp; try with_reducible rfl))
                      (try simp only [List.getElem_toArray, List.getElem_cons_zero, List.getElem_cons_succ, Act.put, List.setIfInBounds_toArray, List.set_cons_zero, List.set_cons_succ])
                      refine wpAnyH_done (by kernel_rfl) ?_ _
                      go_split_ands
                      go_wp2_with fail
                      go_meet
                      exact ⟨by rw [HL.out, decide_eq_true C1.out]; rfl, by assumption⟩
                    · have q1 : decide ((kids.length : Int) < (L : Int)) = false := decide_eq_false (by omega)
                      have q1n : decide (kids.length < L) = false := decide_eq_false c1
                      have i1 : L ≤ kids.length := by omega
                      have C1 := Lib.hid c1
                      clear c1
                      cases mo with
                      | none =>
                        simp only [overO] at HMO HOV
                        refine wp_region_held_drew (S := (fun w' => w'.cell? ⟨s, 0, none⟩ = some (.int .i64 (q : Nat)) ∧ w'.cell? ⟨s, 3, none⟩ = some (.slice ks kids.length kc) ∧ w'.cell? ⟨s, 4, none⟩ = some (.string text) ∧ w'.cell? ⟨s, 5, none⟩ = some (.int .i64 B) ∧ w'.cell? ⟨s, 6, none⟩ = some (.string N) ∧ w'.cell? ⟨s, 7, none⟩ = some (.int .i64 D) ∧ w'.cell? ⟨s, 8, none⟩ = some (.string M) ∧ NS w w.heap.size (.slice (some ⟨b, off, none⟩) (m + 1) cap) (m : Int) gu (m + 1) S u s ⟨(q : Nat), sf, st, kids, text, B, N, D, M, num, wf, wt, ends⟩ (.slice ks kids.length kc) (.slice es ends.length ec) w')) (by kernel_rfl) (NS2.out.drew.all) (fun hHeld => ?_)
                        (refine wpAnyH_take (i := 0) (v := ?vv22) rfl (by kernel_rfl) (by kernel_rfl) (by kernel_rfl) (fun _ _ _ h => h) (Or.inl ⟨by rfl, ?hy22⟩) (by assumption) ?rest22; case hy22 => (intro w hSw; (try dsimp only at hSw); go_simp; try with_reducible rfl))
                        (try simp only [List.getElem_toArray, List.getElem_cons_zero, List.getElem_cons_succ, Act.put, List.setIfInBounds_toArray, List.set_cons_zero, List.set_cons_succ])
                        (refine wpAnyH_take (i := 1) (v := ?vv23) rfl (by kernel_rfl) (by kernel_rfl) (by kernel_rfl) (fun _ _ _ h => h) (Or.inl ⟨by rfl, ?hy23⟩) (by assumption) ?rest23; case hy23 => (intro w hSw; (try dsimp only at hSw); go_simp; try with_reducible rfl))
                        (try simp only [List.getElem_toArray, List.getElem_cons_zero, List.getElem_cons_succ, Act.put, List.setIfInBounds_toArray, List.set_cons_zero, List.set_cons_succ])
                        (refine wpAnyH_take (i := 2) (v := ?vv24) rfl (by kernel_rfl) (by kernel_rfl) (by kernel_rfl) (fun _ _ _ h => h) (Or.inl ⟨by rfl, ?hy24⟩) (by assumption) ?rest24; case hy24 => (intro w hSw; (try dsimp only at hSw); go_simp; try with_reducible rfl))
                        (try simp only [List.getElem_toArray, List.getElem_cons_zero, List.getElem_cons_succ, Act.put, List.setIfInBounds_toArray, List.set_cons_zero, List.set_cons_succ])
                        (refine wpAnyH_take (i := 3) (v := ?vv25) rfl (by kernel_rfl) (by kernel_rfl) (by kernel_rfl) (fun _ _ _ h => h) (Or.inl ⟨by rfl, ?hy25⟩) (by assumption) ?rest25; case hy25 => (intro w hSw; (try dsimp only at hSw); go_simp; try with_reducible rfl))
                        (try simp only [List.getElem_toArray, List.getElem_cons_zero, List.getElem_cons_succ, Act.put, List.setIfInBounds_toArray, List.set_cons_zero, List.set_cons_succ])
                        (refine wpAnyH_take (i := 4) (v := ?vv26) rfl (by kernel_rfl) (by kernel_rfl) (by kernel_rfl) (fun _ _ _ h => h) (Or.inl ⟨by rfl, ?hy26⟩) (by assumption) ?rest26; case hy26 => (intro w hSw; (try dsimp only at hSw); go_simp; try with_reducible rfl))
                        (try simp only [List.getElem_toArray, List.getElem_cons_zero, List.getElem_cons_succ, Act.put, List.setIfInBounds_toArray, List.set_cons_zero, List.set_cons_succ])
                        (refine wpAnyH_ready (rs := [5]) (by kernel_rfl) (List.cons_ne_nil _ _) ?_; refine AllReadyH.cons rfl (fun K hK => ?_) AllReadyH.nil; go_simp; go_split_ands; refine (HLE.out _).mono ?_; rintro e wz ⟨rfl, hb2⟩; (try go_wp2_with fail); refine hK.out _ _ ?hS27 (fun hHeld2 => ?rest27); (case hS27 => (exact (NS.keep (by assumption) hb2).all)); clear hK K; (try simp only [List.getElem_toArray, List.getElem_cons_zero, List.getElem_cons_succ, Act.put, List.setIfInBounds_toArray, List.set_cons_zero, List.set_cons_succ]))
                        (refine wpAnyH_take (i := 6) (v := ?vv28) rfl (by kernel_rfl) (by kernel_rfl) (by kernel_rfl) (fun _ _ _ h => h) (Or.inl ⟨by rfl, ?hy28⟩) (by assumption) ?rest28; case hy28 => (intro w hSw; (try dsimp only at hSw); go_simp; try with_reducible rfl))
                        (try simp only [List.getElem_toArray, List.getElem_cons_zero, List.getElem_cons_succ, Act.put, List.setIfInBounds_toArray, List.set_cons_zero, List.set_cons_succ])
                        (first | rw [q1n] | rw [q1] | skip)
                        (refine wpAnyH_take (i := 7) (v := ?vv29) rfl (by kernel_rfl) (by kernel_rfl) (by kernel_rfl) (fun _ _ _ h => h) (Or.inl ⟨by rfl, ?hy29⟩) (by assumption) ?rest29; case hy29 => (intro w hSw; (try dsimp only at hSw); go_simp; try with_reducible rfl))
                        (try simp only [List.getElem_toArray, List.getElem_cons_zero, List.getElem_cons_succ, Act.put, List.setIfInBounds_toArray, List.set_cons_zero, List.set_cons_succ])
                        first | (refine wpAnyH_take (i := 8) (v := undef) rfl (by kernel_rfl) (by kernel_rfl) (by kernel_rfl) (fun _ _ _ h => h) (Or.inr ⟨by rfl, rfl⟩) (by assumption) ?_) | (refine wpAnyH_take (i := 8) (v := ?vv30) rfl (by kernel_rfl) (by kernel_rfl) (by kernel_rfl) (fun _ _ _ h => h) (Or.inl ⟨by rfl, ?hy30⟩) (by assumption) ?rest30; case hy30 => (intro w hSw; (try dsimp only at hSw); go_simp; try with_reducible rfl))
                        (try simp only [List.getElem_toArray, List.getElem_cons_zero, List.getElem_cons_succ, Act.put, List.setIfInBounds_toArray, List.set_cons_zero, List.set_cons_succ])
                        first | (refine wpAnyH_take (i := 9) (v := undef) rfl (by kernel_rfl) (by kernel_rfl) (by kernel_rfl) (fun _ _ _ h => h) (Or.inr ⟨by rfl, rfl⟩) (by assumption) ?_) | (refine wpAnyH_take (i := 9) (v := ?vv31) rfl (by kernel_rfl) (by kernel_rfl) (by kernel_rfl) (fun _ _ _ h => h) (Or.inl ⟨by rfl, ?hy31⟩) (by assumption) ?rest31; case hy31 => (intro w hSw; (try dsimp only at hSw); go_simp; try with_reducible rfl))
                        (try simp only [List.getElem_toArray, List.getElem_cons_zero, List.getElem_cons_succ, Act.put, List.setIfInBounds_toArray, List.set_cons_zero, List.set_cons_succ])
                        first
                          | (refine wpAnyH_take (i := 10) (v := undef) rfl (by kernel_rfl) (by kernel_rfl) (by kernel_rfl) (fun _ _ _ h => h) (Or.inr ⟨by rfl, rfl⟩) (by assumption) ?_; (try simp only [List.getElem_toArray, List.getElem_cons_zero, List.getElem_cons_succ, Act.put, List.setIfInBounds_toArray, List.set_cons_zero, List.set_cons_succ]))
                          | (refine wpAnyH_ready (rs := [10]) (by kernel_rfl) (List.cons_ne_nil _ _) ?_; refine AllReadyH.cons rfl (fun K hK => ?_) AllReadyH.nil; go_simp; go_split_ands; refine (HMO.out _).mono ?_; rintro e wz ⟨rfl, hb2⟩; (try go_wp2_with fail); refine hK.out _ _ ?hS32 (fun hHeld2 => ?rest32); (case hS32 => (exact (NS.keep (by assumption) hb2).all)); clear hK K; (try simp only [List.getElem_toArray, List.getElem_cons_zero, List.getElem_cons_succ, Act.put, List.setIfInBounds_toArray, List.set_cons_zero, List.set_cons_succ]))
                        first | (refine wpAnyH_take (i := 11) (v := undef) rfl (by kernel_rfl) (by kernel_rfl) (by kernel_rfl) (fun _ _ _ h => h) (Or.inr ⟨by rfl, rfl⟩) (by assumption) ?_) | (refine wpAnyH_take (i := 11) (v := ?vv33) rfl (by kernel_rfl) (by kernel_rfl) (by kernel_rfl) (fun _ _ _ h => h) (Or.inl ⟨by rfl, ?hy33⟩) (by assumption) ?rest33; case hy33 => (intro w hSw; (try dsimp only at hSw); go_simp; try with_reducible rfl))
                        (try simp only [List.getElem_toArray, List.getElem_cons_zero, List.getElem_cons_succ, Act.put, List.setIfInBounds_toArray, List.set_cons_zero, List.set_cons_succ])
                        (first | rw [q3] | rw [q3n] | skip)
                        first | (refine wpAnyH_take (i := 12) (v := undef) rfl (by kernel_rfl) (by kernel_rfl) (by kernel_rfl) (fun _ _ _ h => h) (Or.inr ⟨by rfl, rfl⟩) (by assumption) ?_) | (refine wpAnyH_take (i := 12) (v := ?vv34) rfl (by kernel_rfl) (by kernel_rfl) (by kernel_rfl) (fun _ _ _ h => h) (Or.inl ⟨by rfl, ?hy34⟩) (by assumption) ?rest34; case hy34 => (intro w hSw; (try dsimp only at hSw); go_simp; try with_reducible rfl))
                        (try simp only [List.getElem_toArray, List.getElem_cons_zero, List.getElem_cons_succ, Act.put, List.setIfInBounds_toArray, List.set_cons_zero, List.set_cons_succ])
                        first | (refine wpAnyH_take (i := 13) (v := undef) rfl (by kernel_rfl) (by kernel_rfl) (by kernel_rfl) (fun _ _ _ h => h) (Or.inr ⟨by rfl, rfl⟩) (by assumption) ?_) | (refine wpAnyH_take (i := 13) (v := ?vv35) rfl (by kernel_rfl) (by kernel_rfl) (by kernel_rfl) (fun _ _ _ h => h) (Or.inl ⟨by rfl, ?hy35⟩) (by assumption) ?rest35; case hy35 => (intro w hSw; (try dsimp only at hSw); go_simp; try with_reducible rfl))
                        (try simp only [List.getElem_toArray, List.getElem_cons_zero, List.getElem_cons_succ, Act.put, List.setIfInBounds_toArray, List.set_cons_zero, List.set_cons_succ])
                        first | (refine wpAnyH_take (i := 14) (v := undef) rfl (by kernel_rfl) (by kernel_rfl) (by kernel_rfl) (fun _ _ _ h => h) (Or.inr ⟨by rfl, rfl⟩) (by assumption) ?_) | (refine wpAnyH_take (i := 14) (v := ?vv36) rfl (by kernel_rfl) (by kernel_rfl) (by kernel_rfl) (fun _ _ _ h => h) (Or.inl ⟨by rfl, ?hy36⟩) (by assumption) ?rest36; case hy36 => (intro w hSw; (try dsimp only at hSw); go_simp; try with_reducible rfl))
                        (try simp only [List.getElem_toArray, List.getElem_cons_zero, List.getElem_cons_succ, Act.put, List.setIfInBounds_toArray, List.set_cons_zero, List.set_cons_succ])
                        first | (refine wpAnyH_take (i := 15) (v := undef) rfl (by kernel_rfl) (by kernel_rfl) (by kernel_rfl) (fun _ _ _ h => h) (Or.inr ⟨by rfl, rfl⟩) (by assumption) ?_) | (refine wpAnyH_take (i := 15) (v := ?vv37) rfl (by kernel_rfl) (by kernel_rfl) (by kernel_rfl) (fun _ _ _ h => h) (Or.inl ⟨by rfl, ?hy37⟩) (by assumption) ?rest37; case hy37 => (intro w hSw; (try dsimp only at hSw); go_simp; try with_reducible rfl))
                        (try simp only [List.getElem_toArray, List.getElem_cons_zero, List.getElem_cons_succ, Act.put, List.setIfInBounds_toArray, List.set_cons_zero, List.set_cons_succ])
                        first | (refine wpAnyH_take (i := 16) (v := undef) rfl (by kernel_rfl) (by kernel_rfl) (by kernel_rfl) (fun _ _ _ h => h) (Or.inr ⟨by rfl, rfl⟩) (by assumption) ?_) | (refine wpAnyH_take (i := 16) (v := ?vv38) rfl (by kernel_rfl) (by kernel_rfl) (by kernel_rfl) (fun _ _ _ h => h) (Or.inl ⟨by rfl, ?hy38⟩) (by assumption) ?rest38; case hy38 => (intro w hSw; (try dsimp only at hSw); go_simp; try with_reducible rfl))
                        (try simp only [List.getElem_toArray, List.getElem_cons_zero, List.getElem_cons_succ, Act.put, List.setIfInBounds_toArray, List.set_cons_zero, List.set_cons_succ])
                        first | (refine wpAnyH_take (i := 17) (v := undef) rfl (by kernel_rfl) (by kernel_rfl) (by kernel_rfl) (fun _ _ _ h => h) (Or.inr ⟨by rfl, rfl⟩) (by assumption) ?_) | (refine wpAnyH_take (i := 17) (v := ?vv39) rfl (by kernel_rfl) (by kernel_rfl) (by kernel_rfl) (fun _ _ _ h => h) (Or.inl ⟨by rfl, ?hy39⟩) (by assumption) ?rest39; case hy39 => (intro w hSw; (try dsimp only at hSw); go_simp; try with_reducible rfl))
                        (try simp only [List.getElem_toArray, List.getElem_cons_zero, List.getElem_cons_succ, Act.put, List.setIfInBounds_toArray, List.set_cons_zero, List.set_cons_succ])
                        first
                          | (refine wpAnyH_take (i := 18) (v := undef) rfl (by kernel_rfl) (by kernel_rfl) (by kernel_rfl) (fun _ _ _ h => h) (Or.inr ⟨by rfl, rfl⟩) (by assumption) ?_; (try simp only [List.getElem_toArray, List.getElem_cons_zero, List.getElem_cons_succ, Act.put, List.setIfInBounds_toArray, List.set_cons_zero, List.set_cons_succ]))
                          | (refine wpAnyH_ready (rs := [18]) (by kernel_rfl) (List.cons_ne_nil _ _) ?_; refine AllReadyH.cons rfl (fun K hK => ?_) AllReadyH.nil; go_simp; go_split_ands; refine (HMO.out _).mono ?_; rintro e wz ⟨rfl, hb2⟩; (try go_wp2_with fail); refine hK.out _ _ ?hS40 (fun hHeld2 => ?rest40); (case hS40 => (exact (NS.keep (by assumption) hb2).all)); clear hK K; (try simp only [List.getElem_toArray, List.getElem_cons_zero, List.getElem_cons_succ, Act.put, List.setIfInBounds_toArray, List.set_cons_zero, List.set_cons_succ]))
                        first | (refine wpAnyH_take (i := 19) (v := undef) rfl (by kernel_rfl) (by kernel_rfl) (by kernel_rfl) (fun _ _ _ h => h) (Or.inr ⟨by rfl, rfl⟩) (by assumption) ?_) | (refine wpAnyH_take (i := 19) (v := ?vv41) rfl (by kernel_rfl) (by kernel_rfl) (by kernel_rfl) (fun _ _ _ h => h) (Or.inl ⟨by rfl, ?hy41⟩) (by assumption) ?rest41; case hy41 => (intro w hSw; (try dsimp only at hSw); go_simp; try with_reducible rfl))
                        (try simp only [List.getElem_toArray, List.getElem_cons_zero, List.getElem_cons_succ, Act.put, List.setIfInBounds_toArray, List.set_cons_zero, List.set_cons_succ])
                        (first | rw [q2n] | rw [q2] | skip)
                        first | (refine wpAnyH_take (i := 20) (v := undef) rfl (by kernel_rfl) (by kernel_rfl) (by kernel_rfl) (fun _ _ _ h => h) (Or.inr ⟨by rfl, rfl⟩) (by assumption) ?_) | (refine wpAnyH_take (i := 20) (v := ?vv42) rfl (by kernel_rfl) (by kernel_rfl) (by kernel_rfl) (fun _ _ _ h => h) (Or.inl ⟨by rfl, ?hy42⟩) (by assumption) ?rest42; case hy42 => (intro w hSw; (try dsimp only at hSw); go_simp; try with_reducible rfl))
                        (try simp only [List.getElem_toArray, List.getElem_cons_zero, List.getElem_cons_succ, Act.put, List.setIfInBounds_toArray, List.set_cons_zero, List.set_cons_succ])
                        (refine wpAnyH_take (i := 21) (v := ?vv43) rfl (by kernel_rfl) (by kernel_rfl) (by kernel_rfl) (fun _ _ _ h => h) (Or.inl ⟨by rfl, ?hy43⟩) (by assumption) ?rest43; case hy43 => (intro w hSw; (try dsimp only at hSw); go_simp; try with_reducible rfl))
                        (try simp only [List.getElem_toArray, List.getElem_cons_zero, List.getElem_cons_succ, Act.put, List.setIfInBounds_toArray, List.set_cons_zero, List.set_cons_succ])
                        refine wpAnyH_done (by kernel_rfl) ?_ _
                        go_split_ands
                        go_wp2_with fail
                        go_meet
                        exact ⟨by rw [HL.out, HOV.out, decide_eq_false C1.out]; rfl, by assumption⟩
                      | some mx =>
                        simp only [overO] at HMO HOV
                        have q3 : decide ((0 : Int) ≤ (mx : Int)) = true := decide_eq_true (by omega)
                        by_cases c2 : mx < kids.length
                        · have q2 : decide ((mx : Int) < (kids.length : Int)) = true := decide_eq_true (by omega)
                          have q2n : decide (mx < kids.length) = true := decide_eq_true c2
                          have C2 := Lib.hid c2
                          refine wp_region_held_drew (S := (fun w' => w'.cell? ⟨s, 0, none⟩ = some (.int .i64 (q : Nat)) ∧ w'.cell? ⟨s, 3, none⟩ = some (.slice ks kids.length kc) ∧ w'.cell? ⟨s, 4, none⟩ = some (.string text) ∧ w'.cell? ⟨s, 5, none⟩ = some (.int .i64 B) ∧ w'.cell? ⟨s, 6, none⟩ = some (.string N) ∧ w'.cell? ⟨s, 7, none⟩ = some (.int .i64 D) ∧ w'.cell? ⟨s, 8, none⟩ = some (.string M) ∧ NS w w.heap.size (.slice (some ⟨b, off, none⟩) (m + 1) cap) (m : Int) gu (m + 1) S u s ⟨(q : Nat), sf, st, kids, text, B, N, D, M, num, wf, wt, ends⟩ (.slice ks kids.length kc) (.slice es ends.length ec) w')) (by kernel_rfl) (NS2.out.drew.all) (fun hHeld => ?_)
                          (refine wpAnyH_take (i := 0) (v := ?vv44) rfl (by kernel_rfl) (by kernel_rfl) (by kernel_rfl) (fun _ _ _ h => h) (Or.inl ⟨by rfl, ?hy44⟩) (by assumption) ?rest44; case hy44 => (intro w hSw; (try dsimp only at hSw); go_simp; try with_reducible rfl))
                          (try simp only [List.getElem_toArray, List.getElem_cons_zero, List.getElem_cons_succ, Act.put, List.setIfInBounds_toArray, List.set_cons_zero, List.set_cons_succ])
                          (refine wpAnyH_take (i := 1) (v := ?vv45) rfl (by kernel_rfl) (by kernel_rfl) (by kernel_rfl) (fun _ _ _ h => h) (Or.inl ⟨by rfl, ?hy45⟩) (by assumption) ?rest45; case hy45 => (intro w hSw; (try dsimp only at hSw); go_simp; try with_reducible rfl))
                          (try simp only [List.getElem_toArray, List.getElem_cons_zero, List.getElem_cons_succ, Act.put, List.setIfInBounds_toArray, List.set_cons_zero, List.set_cons_succ])
                          (refine wpAnyH_take (i := 2) (v := ?vv46) rfl (by kernel_rfl) (by kernel_rfl) (by kernel_rfl) (fun _ _ _ h => h) (Or.inl ⟨by rfl, ?hy46⟩) (by assumption) ?rest46; case hy46 => (intro w hSw; (try dsimp only at hSw); go_simp; try with_reducible rfl))
                          (try simp only [List.getElem_toArray, List.getElem_cons_zero, List.getElem_cons_succ, Act.put, List.setIfInBounds_toArray, List.set_cons_zero, List.set_cons_succ])
                          (refine wpAnyH_take (i := 3) (v := ?vv47) rfl (by kernel_rfl) (by kernel_rfl) (by kernel_rfl) (fun _ _ _ h => h) (Or.inl ⟨by rfl, ?hy47⟩) (by assumption) ?rest47; case hy47 => (intro w hSw; (try dsimp only at hSw); go_simp; try with_reducible rfl))
                          (try simp only [List.getElem_toArray, List.getElem_cons_zero, List.getElem_cons_succ, Act.put, List.setIfInBounds_toArray, List.set_cons_zero, List.set_cons_succ])
                          (refine wpAnyH_take (i := 4) (v := ?vv48) rfl (by kernel_rfl) (by kernel_rfl) (by kernel_rfl) (fun _ _ _ h => h) (Or.inl ⟨by rfl, ?hy48⟩) (by assumption) ?rest48; case hy48 => (intro w hSw; (try dsimp only at hSw); go_simp; try with_reducible rfl))
                          (try simp only [List.getElem_toArray, List.getElem_cons_zero, List.getElem_cons_succ, Act.put, List.setIfInBounds_toArray, List.set_cons_zero, List.set_cons_succ])
                          (refine wpAnyH_ready (rs := [5]) (by kernel_rfl) (List.cons_ne_nil _ _) ?_; refine AllReadyH.cons rfl (fun K hK => ?_) AllReadyH.nil; go_simp; go_split_ands; refine (HLE.out _).mono ?_; rintro e wz ⟨rfl, hb2⟩; (try go_wp2_with fail); refine hK.out _ _ ?hS49 (fun hHeld2 => ?rest49); (case hS49 => (exact (NS.keep (by assumption) hb2).all)); clear hK K; (try simp only [List.getElem_toArray, List.getElem_cons_zero, List.getElem_cons_succ, Act.put, List.setIfInBounds_toArray, List.set_cons_zero, List.set_cons_succ]))
                          (refine wpAnyH_take (i := 6) (v := ?vv50) rfl (by kernel_rfl) (by kernel_rfl) (by kernel_rfl) (fun _ _ _ h => h) (Or.inl ⟨by rfl, ?hy50⟩) (by assumption) ?rest50; case hy50 => (intro w hSw; (try dsimp only at hSw); go_simp; try with_reducible rfl))
                          (try simp only [List.getElem_toArray, List.getElem_cons_zero, List.getElem_cons_succ, Act.put, List.setIfInBounds_toArray, List.set_cons_zero, List.set_cons_succ])
                          (first | rw [q1n] | rw [q1] | skip)
                          (refine wpAnyH_take (i := 7) (v := ?vv51) rfl (by kernel_rfl) (by kernel_rfl) (by kernel_rfl) (fun _ _ _ h => h) (Or.inl ⟨by rfl, ?hy51⟩) (by assumption) ?rest51; case hy51 => (intro w hSw; (try dsimp only at hSw); go_simp; try with_reducible rfl))
                          (try simp only [List.getElem_toArray, List.getElem_cons_zero, List.getElem_cons_succ, Act.put, List.setIfInBounds_toArray, List.set_cons_zero, List.set_cons_succ])
                          first | (refine wpAnyH_take (i := 8) (v := undef) rfl (by kernel_rfl) (by kernel_rfl) (by kernel_rfl) (fun _ _ _ h => h) (Or.inr ⟨by rfl, rfl⟩) (by assumption) ?_) | (refine wpAnyH_take (i := 8) (v := ?vv52) rfl (by kernel_rfl) (by kernel_rfl) (by kernel_rfl) (fun _ _ _ h => h) (Or.inl ⟨by rfl, ?hy52⟩) (by assumption) ?rest52; case hy52 => (intro w hSw; (try dsimp only at hSw); go_simp; try with_reducible rfl))
                          (try simp only [List.getElem_toArray, List.getElem_cons_zero, List.getElem_cons_succ, Act.put, List.setIfInBounds_toArray, List.set_cons_zero, List.set_cons_succ])
                          first | (refine wpAnyH_take (i := 9) (v := undef) rfl (by kernel_rfl) (by kernel_rfl) (by kernel_rfl) (fun _ _ _ h => h) (Or.inr ⟨by rfl, rfl⟩) (by assumption) ?_) | (refine wpAnyH_take (i := 9) (v := ?vv53) rfl (by kernel_rfl) (by kernel_rfl) (by kernel_rfl) (fun _ _ _ h => h) (Or.inl ⟨by rfl, ?hy53⟩) (by assumption) ?rest53; case hy53 => (intro w hSw; (try dsimp only at hSw); go_simp; try with_reducible rfl))
                          (try simp only [List.getElem_toArray, List.getElem_cons_zero, List.getElem_cons_succ, Act.put, List.setIfInBounds_toArray, List.set_cons_zero, List.set_cons_succ])
                          first
                            | (refine wpAnyH_take (i := 10) (v := undef) rfl (by kernel_rfl) (by kernel_rfl) (by kernel_rfl) (fun _ _ _ h => h) (Or.inr ⟨by rfl, rfl⟩) (by assumption) ?_; (try simp only [List.getElem_toArray, List.getElem_cons_zero, List.getElem_cons_succ, Act.put, List.setIfInBounds_toArray, List.set_cons_zero, List.set_cons_succ]))
                            | (refine wpAnyH_ready (rs := [10]) (by kernel_rfl) (List.cons_ne_nil _ _) ?_; refine AllReadyH.cons rfl (fun K hK => ?_) AllReadyH.nil; go_simp; go_split_ands; refine (HMO.out _).mono ?_; rintro e wz ⟨rfl, hb2⟩; (try go_wp2_with fail); refine hK.out _ _ ?hS54 (fun hHeld2 => ?rest54); (case hS54 => (exact (NS.keep (by assumption) hb2).all)); clear hK K; (try simp only [List.getElem_toArray, List.getElem_cons_zero, List.getElem_cons_succ, Act.put, List.setIfInBounds_toArray, List.set_cons_zero, List.set_cons_succ]))
                          first | (refine wpAnyH_take (i := 11) (v := undef) rfl (by kernel_rfl) (by kernel_rfl) (by kernel_rfl) (fun _ _ _ h => h) (Or.inr ⟨by rfl, rfl⟩) (by assumption) ?_) | (refine wpAnyH_take (i := 11) (v := ?vv55) rfl (by kernel_rfl) (by kernel_rfl) (by kernel_rfl) (fun _ _ _ h => h) (Or.inl ⟨by rfl, ?hy55⟩) (by assumption) ?rest55; case hy55 => (intro w hSw; (try dsimp only at hSw); go_simp; try with_reducible rfl))
                          (try simp only [List.getElem_toArray, List.getElem_cons_zero, List.getElem_cons_succ, Act.put, List.setIfInBounds_toArray, List.set_cons_zero, List.set_cons_succ])
                          (first | rw [q3] | rw [q3n] | skip)
                          first | (refine wpAnyH_take (i := 12) (v := undef) rfl (by kernel_rfl) (by kernel_rfl) (by kernel_rfl) (fun _ _ _ h => h) (Or.inr ⟨by rfl, rfl⟩) (by assumption) ?_) | (refine wpAnyH_take (i := 12) (v := ?vv56) rfl (by kernel_rfl) (by kernel_rfl) (by kernel_rfl) (fun _ _ _ h => h) (Or.inl ⟨by rfl, ?hy56⟩) (by assumption) ?rest56; case hy56 => (intro w hSw; (try dsimp only at hSw); go_simp; try with_reducible rfl))
                          (try simp only [List.getElem_toArray, List.getElem_cons_zero, List.getElem_cons_succ, Act.put, List.setIfInBounds_toArray, List.set_cons_zero, List.set_cons_succ])
                          first | (refine wpAnyH_take (i := 13) (v := undef) rfl (by kernel_rfl) (by kernel_rfl) (by kernel_rfl) (fun _ _ _ h => h) (Or.inr ⟨by rfl, rfl⟩) (by assumption) ?_) | (refine wpAnyH_take (i := 13) (v := ?vv57) rfl (by kernel_rfl) (by kernel_rfl) (by kernel_rfl) (fun _ _ _ h => h) (Or.inl ⟨by rfl, ?hy57⟩) (by assumption) ?rest57; case hy57 => (intro w hSw; (try dsimp only at hSw); go_simp; try with_reducible rfl))
                          (try simp only [List.getElem_toArray, List.getElem_cons_zero, List.getElem_cons_succ, Act.put, List.setIfInBounds_toArray, List.set_cons_zero, List.set_cons_succ])
                          first | (refine wpAnyH_take (i := 14) (v := undef) rfl (by kernel_rfl) (by kernel_rfl) (by kernel_rfl) (fun _ _ _ h => h) (Or.inr ⟨by rfl, rfl⟩) (by assumption) ?_) | (refine wpAnyH_take (i := 14) (v := ?vv58) rfl (by kernel_rfl) (by kernel_rfl) (by kernel_rfl) (fun _ _ _ h => h) (Or.inl ⟨by rfl, ?hy58⟩) (by assumption) ?rest58; case hy58 => (intro w hSw; (try dsimp only at hSw); go_simp; try with_reducible rfl))
                          (try simp only [List.getElem_toArray, List.getElem_cons_zero, List.getElem_cons_succ, Act.put, List.setIfInBounds_toArray, List.set_cons_zero, List.set_cons_succ])
                          first | (refine wpAnyH_take (i := 15) (v := undef) rfl (by kernel_rfl) (by kernel_rfl) (by kernel_rfl) (fun _ _ _ h => h) (Or.inr ⟨by rfl, rfl⟩) (by assumption) ?_) | (refine wpAnyH_take (i := 15) (v := ?vv59) rfl (by kernel_rfl) (by kernel_rfl) (by kernel_rfl) (fun _ _ _ h => h) (Or.inl ⟨by rfl, ?hy59⟩) (by assumption) ?rest59; case hy59 => (intro w hSw; (try dsimp only at hSw); go_simp; try with_reducible rfl))
                          (try simp only [List.getElem_toArray, List.getElem_cons_zero, List.getElem_cons_succ, Act.put, List.setIfInBounds_toArray, List.set_cons_zero, List.set_cons_succ])
                          first | (refine wpAnyH_take (i := 16) (v := undef) rfl (by kernel_rfl) (by kernel_rfl) (by kernel_rfl) (fun _ _ _ h => h) (Or.inr ⟨by rfl, rfl⟩) (by assumption) ?_) | (refine wpAnyH_take (i := 16) (v := ?vv60) rfl (by kernel_rfl) (by kernel_rfl) (by kernel_rfl) (fun _ _ _ h => h) (Or.inl ⟨by rfl, ?hy60⟩) (by assumption) ?rest60; case hy60 => (intro w hSw; (try dsimp only at hSw); go_simp; try with_reducible rfl))
                          (try simp only [List.getElem_toArray, List.getElem_cons_zero, List.getElem_cons_succ, Act.put, List.setIfInBounds_toArray, List.set_cons_zero, List.set_cons_succ])
                          first | (refine wpAnyH_take (i := 17) (v := undef) rfl (by kernel_rfl) (by kernel_rfl) (by kernel_rfl) (fun _ _ _ h => h) (Or.inr ⟨by rfl, rfl⟩) (by assumption) ?_) | (refine wpAnyH_take (i := 17) (v := ?vv61) rfl (by kernel_rfl) (by kernel_rfl) (by kernel_rfl) (fun _ _ _ h => h) (Or.inl ⟨by rfl, ?hy61⟩) (by assumption) ?rest61; case hy61 => (intro w hSw; (try dsimp only at hSw); go_simp; try with_reducible rfl))
                          (try simp only [List.getElem_toArray, List.getElem_cons_zero, List.getElem_cons_succ, Act.put, List.setIfInBounds_toArray, List.set_cons_zero, List.set_cons_succ])
                          first
                            | (refine wpAnyH_take (i := 18) (v := undef) rfl (by kernel_rfl) (by kernel_rfl) (by kernel_rfl) (fun _ _ _ h => h) (Or.inr ⟨by rfl, rfl⟩) (by assumption) ?_; (try simp only [List.getElem_toArray, List.getElem_cons_zero, List.getElem_cons_succ, Act.put, List.setIfInBounds_toArray, List.set_cons_zero, List.set_cons_succ]))
                            | (refine wpAnyH_ready (rs := [18]) (by kernel_rfl) (List.cons_ne_nil _ _) ?_; refine AllReadyH.cons rfl (fun K hK => ?_) AllReadyH.nil; go_simp; go_split_ands; refine (HMO.out _).mono ?_; rintro e wz ⟨rfl, hb2⟩; (try go_wp2_with fail); refine hK.out _ _ ?hS62 (fun hHeld2 => ?rest62); (case hS62 => (exact (NS.keep (by assumption) hb2).all)); clear hK K; (try simp only [List.getElem_toArray, List.getElem_cons_zero, List.getElem_cons_succ, Act.put, List.setIfInBounds_toArray, List.set_cons_zero, List.set_cons_succ]))
                          first | (refine wpAnyH_take (i := 19) (v := undef) rfl (by kernel_rfl) (by kernel_rfl) (by kernel_rfl) (fun _ _ _ h => h) (Or.inr ⟨by rfl, rfl⟩) (by assumption) ?_) | (refine wpAnyH_take (i := 19) (v := ?vv63) rfl (by kernel_rfl) (by kernel_rfl) (by kernel_rfl) (fun _ _ _ h => h) (Or.inl ⟨by rfl, ?hy63⟩) (by assumption) ?rest63; case hy63 => (intro w hSw; (try dsimp only at hSw); go_simp; try with_reducible rfl))
                          (try simp only [List.getElem_toArray, List.getElem_cons_zero, List.getElem_cons_succ, Act.put, List.setIfInBounds_toArray, List.set_cons_zero, List.set_cons_succ])
                          (first | rw [q2n] | rw [q2] | skip)
                          first | (refine wpAnyH_take (i := 20) (v := undef) rfl (by kernel_rfl) (by kernel_rfl) (by kernel_rfl) (fun _ _ _ h => h) (Or.inr ⟨by rfl, rfl⟩) (by assumption) ?_) | (refine wpAnyH_take (i := 20) (v := ?vv64) rfl (by kernel_rfl) (by kernel_rfl) (by kernel_rfl) (fun _ _ _ h => h) (Or.inl ⟨by rfl, ?hy64⟩) (by assumption) ?rest64; case hy64 => (intro w hSw; (try dsimp only at hSw); go_simp; try with_reducible rfl))
                          (try simp only [List.getElem_toArray, List.getElem_cons_zero, List.getElem_cons_succ, Act.put, List.setIfInBounds_toArray, List.set_cons_zero, List.set_cons_succ])
                          (refine wpAnyH_take (i := 21) (v := ?vv65) rfl (by kernel_rfl) (by kernel_rfl) (by kernel_rfl) (fun _ _ _ h => h) (Or.inl ⟨by rfl, ?hy65⟩) (by assumption) ?rest65; case hy65 => (intro w hSw; (try dsimp only at hSw); go_simp; try with_reducible rfl))
                          (try simp only [List.getElem_toArray, List.getElem_cons_zero, List.getElem_cons_succ, Act.put, List.setIfInBounds_toArray, List.set_cons_zero, List.set_cons_succ])
                          refine wpAnyH_done (by kernel_rfl) ?_ _
                          go_split_ands
                          go_wp2_with fail
                          go_meet
                          exact ⟨by rw [HL.out, HOV.out, decide_eq_false C1.out, decide_eq_true C2.out]; rfl, by assumption⟩
                        · have q2 : decide ((mx : Int) < (kids.length : Int)) = false := decide_eq_false (by omega)
                          have q2n : decide (mx < kids.length) = false := decide_eq_false c2
                          have i2 : kids.length ≤ mx := by omega
                          have C2 := Lib.hid c2
                          clear c2
                          refine wp_region_held_drew (S := (fun w' => w'.cell? ⟨s, 0, none⟩ = some (.int .i64 (q : Nat)) ∧ w'.cell? ⟨s, 3, none⟩ = some (.slice ks kids.length kc) ∧ w'.cell? ⟨s, 4, none⟩ = some (.string text) ∧ w'.cell? ⟨s, 5, none⟩ = some (.int .i64 B) ∧ w'.cell? ⟨s, 6, none⟩ = some (.string N) ∧ w'.cell? ⟨s, 7, none⟩ = some (.int .i64 D) ∧ w'.cell? ⟨s, 8, none⟩ = some (.string M) ∧ NS w w.heap.size (.slice (some ⟨b, off, none⟩) (m + 1) cap) (m : Int) gu (m + 1) S u s ⟨(q : Nat), sf, st, kids, text, B, N, D, M, num, wf, wt, ends⟩ (.slice ks kids.length kc) (.slice es ends.length ec) w')) (by kernel_rfl) (NS2.out.drew.all) (fun hHeld => ?_)
                          (refine wpAnyH_take (i := 0) (v := ?vv66) rfl (by kernel_rfl) (by kernel_rfl) (by kernel_rfl) (fun _ _ _ h => h) (Or.inl ⟨by rfl, ?hy66⟩) (by assumption) ?rest66; case hy66 => (intro w hSw; (try dsimp only at hSw); go_simp; try with_reducible rfl))
                          (try simp only [List.getElem_toArray, List.getElem_cons_zero, List.getElem_cons_succ, Act.put, List.setIfInBounds_toArray, List.set_cons_zero, List.set_cons_succ])
                          (refine wpAnyH_take (i := 1) (v := ?vv67) rfl (by kernel_rfl) (by kernel_rfl) (by kernel_rfl) (fun _ _ _ h => h) (Or.inl ⟨by rfl, ?hy67⟩) (by assumption) ?rest67; case hy67 => (intro w hSw; (try dsimp only at hSw); go_simp; try with_reducible rfl))
                          (try simp only [List.getElem_toArray, List.getElem_cons_zero, List.getElem_cons_succ, Act.put, List.setIfInBounds_toArray, List.set_cons_zero, List.set_cons_succ])
                          (refine wpAnyH_take (i := 2) (v := ?vv68) rfl (by kernel_rfl) (by kernel_rfl) (by kernel_rfl) (fun _ _ _ h => h) (Or.inl ⟨by rfl, ?hy68⟩) (by assumption) ?rest68; case hy68 => (intro w hSw; (try dsimp only at hSw); go_simp; try with_reducible rfl))
                          (try simp only [List.getElem_toArray, List.getElem_cons_zero, List.getElem_cons_succ, Act.put, List.setIfInBounds_toArray, List.set_cons_zero, List.set_cons_succ])
                          (refine wpAnyH_take (i := 3) (v := ?vv69) rfl (by kernel_rfl) (by kernel_rfl) (by kernel_rfl) (fun _ _ _ h => h) (Or.inl ⟨by rfl, ?hy69⟩) (by assumption) ?rest69; case hy69 => (intro w hSw; (try dsimp only at hSw); go_simp; try with_reducible rfl))
                          (try simp only [List.getElem_toArray, List.getElem_cons_zero, List.getElem_cons_succ, Act.put, List.setIfInBounds_toArray, List.set_cons_zero, List.set_cons_succ])
                          (refine wpAnyH_take (i := 4) (v := ?vv70) rfl (by kernel_rfl) (by kernel_rfl) (by kernel_rfl) (fun _ _ _ h => h) (Or.inl ⟨by rfl, ?hy70⟩) (by assumption) ?rest70; case hy70 => (intro w hSw; (try dsimp only at hSw); go_simp; try with_reducible rfl))
                          (try simp only [List.getElem_toArray, List.getElem_cons_zero, List.getElem_cons_succ, Act.put, List.setIfInBounds_toArray, List.set_cons_zero, List.set_cons_succ])
                          (refine wpAnyH_ready (rs := [5]) (by kernel_rfl) (List.cons_ne_nil _ _) ?_; refine AllReadyH.cons rfl (fun K hK => ?_) AllReadyH.nil; go_simp; go_split_ands; refine (HLE.out _).mono ?_; rintro e wz ⟨rfl, hb2⟩; (try go_wp2_with fail); refine hK.out _ _ ?hS71 (fun hHeld2 => ?rest71); (case hS71 => (exact (NS.keep (by assumption) hb2).all)); clear hK K; (try simp only [List.getElem_toArray, List.getElem_cons_zero, List.getElem_cons_succ, Act.put, List.setIfInBounds_toArray, List.set_cons_zero, List.set_cons_succ]))
                          (refine wpAnyH_take (i := 6) (v := ?vv72) rfl (by kernel_rfl) (by kernel_rfl) (by kernel_rfl) (fun _ _ _ h => h) (Or.inl ⟨by rfl, ?hy72⟩) (by assumption) ?rest72; case hy72 => (intro w hSw; (try dsimp only at hSw); go_simp; try with_reducible rfl))
                          (try simp only [List.getElem_toArray, List.getElem_cons_zero, List.getElem_cons_succ, Act.put, List.setIfInBounds_toArray, List.set_cons_zero, List.set_cons_succ])
                          (first | rw [q1n] | rw [q1] | skip)
                          (refine wpAnyH_take (i := 7) (v := ?vv73) rfl (by kernel_rfl) (by kernel_rfl) (by kernel_rfl) (fun _ _ _ h => h) (Or.inl ⟨by rfl, ?hy73⟩) (by assumption) ?rest73; case hy73 => (intro w hSw; (try dsimp only at hSw); go_simp; try with_reducible rfl))
                          (try simp only [List.getElem_toArray, List.getElem_cons_zero, List.getElem_cons_succ, Act.put, List.setIfInBounds_toArray, List.set_cons_zero, List.set_cons_succ])
                          first | (refine wpAnyH_take (i := 8) (v := undef) rfl (by kernel_rfl) (by kernel_rfl) (by kernel_rfl) (fun _ _ _ h => h) (Or.inr ⟨by rfl, rfl⟩) (by assumption) ?_) | (refine wpAnyH_take (i := 8) (v := ?vv74) rfl (by kernel_rfl) (by kernel_rfl) (by kernel_rfl) (fun _ _ _ h => h) (Or.inl ⟨by rfl, ?hy74⟩) (by assumption) ?rest74; case hy74 => (intro w hSw; (try dsimp only at hSw); go_simp; try with_reducible rfl))
                          (try simp only [List.getElem_toArray, List.getElem_cons_zero, List.getElem_cons_succ, Act.put, List.setIfInBounds_toArray, List.set_cons_zero, List.set_cons_succ])
                          first | (refine wpAnyH_take (i := 9) (v := undef) rfl (by kernel_rfl) (by kernel_rfl) (by kernel_rfl) (fun _ _ _ h => h) (Or.inr ⟨by rfl, rfl⟩) (by assumption) ?_) | (refine wpAnyH_take (i := 9) (v := ?vv75) rfl (by kernel_rfl) (by kernel_rfl) (by kernel_rfl) (fun _ _ _ h => h) (Or.inl ⟨by rfl, ?hy75⟩) (by assumption) ?rest75; case hy75 => (intro w hSw; (try dsimp only at hSw); go_simp; try with_reducible rfl))
                          (try simp only [List.getElem_toArray, List.getElem_cons_zero, List.getElem_cons_succ, Act.put, List.setIfInBounds_toArray, List.set_cons_zero, List.set_cons_succ])
                          first
                            | (refine wpAnyH_take (i := 10) (v := undef) rfl (by kernel_rfl) (by kernel_rfl) (by kernel_rfl) (fun _ _ _ h => h) (Or.inr ⟨by rfl, rfl⟩) (by assumption) ?_; (try simp only [List.getElem_toArray, List.getElem_cons_zero, List.getElem_cons_succ, Act.put, List.setIfInBounds_toArray, List.set_cons_zero, List.set_cons_succ]))
                            | (refine wpAnyH_ready (rs := [10]) (by kernel_rfl) (List.cons_ne_nil _ _) ?_; refine AllReadyH.cons rfl (fun K hK => ?_) AllReadyH.nil; go_simp; go_split_ands; refine (HMO.out _).mono ?_; rintro e wz ⟨rfl, hb2⟩; (try go_wp2_with fail); refine hK.out _ _ ?hS76 (fun hHeld2 => ?rest76); (case hS76 => (exact (NS.keep (by assumption) hb2).all)); clear hK K; (try simp only [List.getElem_toArray, List.getElem_cons_zero, List.getElem_cons_succ, Act.put, List.setIfInBounds_toArray, List.set_cons_zero, List.set_cons_succ]))
                          first | (refine wpAnyH_take (i := 11) (v := undef) rfl (by kernel_rfl) (by kernel_rfl) (by kernel_rfl) (fun _ _ _ h => h) (Or.inr ⟨by rfl, rfl⟩) (by assumption) ?_) | (refine wpAnyH_take (i := 11) (v := ?vv77) rfl (by kernel_rfl) (by kernel_rfl) (by kernel_rfl) (fun _ _ _ h => h) (Or.inl ⟨by rfl, ?hy77⟩) (by assumption) ?rest77; case hy77 => (intro w hSw; (try dsimp only at hSw); go_simp; try with_reducible rfl))
                          (try simp only [List.getElem_toArray, List.getElem_cons_zero, List.getElem_cons_succ, Act.put, List.setIfInBounds_toArray, List.set_cons_zero, List.set_cons_succ])
                          (first | rw [q3] | rw [q3n] | skip)
                          first | (refine wpAnyH_take (i := 12) (v := undef) rfl (by kernel_rfl) (by kernel_rfl) (by kernel_rfl) (fun _ _ _ h => h) (Or.inr ⟨by rfl, rfl⟩) (by assumption) ?_) | (refine wpAnyH_take (i := 12) (v := ?vv78) rfl (by kernel_rfl) (by kernel_rfl) (by kernel_rfl) (fun _ _ _ h => h) (Or.inl ⟨by rfl, ?hy78⟩) (by assumption) ?rest78; case hy78 => (intro w hSw; (try dsimp only at hSw); go_simp; try with_reducible rfl))
                          (try simp only [List.getElem_toArray, List.getElem_cons_zero, List.getElem_cons_succ, Act.put, List.setIfInBounds_toArray, List.set_cons_zero, List.set_cons_succ])
                          first | (refine wpAnyH_take (i := 13) (v := undef) rfl (by kernel_rfl) (by kernel_rfl) (by kernel_rfl) (fun _ _ _ h => h) (Or.inr ⟨by rfl, rfl⟩) (by assumption) ?_) | (refine wpAnyH_take (i := 13) (v := ?vv79) rfl (by kernel_rfl) (by kernel_rfl) (by kernel_rfl) (fun _ _ _ h => h) (Or.inl ⟨by rfl, ?hy79⟩) (by assumption) ?rest79; case hy79 => (intro w hSw; (try dsimp only at hSw); go_simp; try with_reducible rfl))
                          (try simp only [List.getElem_toArray, List.getElem_cons_zero, List.getElem_cons_succ, Act.put, List.setIfInBounds_toArray, List.set_cons_zero, List.set_cons_succ])
                          first | (refine wpAnyH_take (i := 14) (v := undef) rfl (by kernel_rfl) (by kernel_rfl) (by kernel_rfl) (fun _ _ _ h => h) (Or.inr ⟨by rfl, rfl⟩) (by assumption) ?_) | (refine wpAnyH_take (i := 14) (v := ?vv80) rfl (by kernel_rfl) (by kernel_rfl) (by kernel_rfl) (fun _ _ _ h => h) (Or.inl ⟨by rfl, ?hy80⟩) (by assumption) ?rest80; case hy80 => (intro w hSw; (try dsimp only at hSw); go_simp; try with_reducible rfl))
                          (try simp only [List.getElem_toArray, List.getElem_cons_zero, List.getElem_cons_succ, Act.put, List.setIfInBounds_toArray, List.set_cons_zero, List.set_cons_succ])
                          first | (refine wpAnyH_take (i := 15) (v := undef) rfl (by kernel_rfl) (by kernel_rfl) (by kernel_rfl) (fun _ _ _ h => h) (Or.inr ⟨by rfl, rfl⟩) (by assumption) ?_) | (refine wpAnyH_take (i := 15) (v := ?vv81) rfl (by kernel_rfl) (by kernel_rfl) (by kernel_rfl) (fun _ _ _ h => h) (Or.inl ⟨by rfl, ?hy81⟩) (by assumption) ?rest81; case hy81 => (intro w hSw; (try dsimp only at hSw); go_simp; try with_reducible rfl))
                          (try simp only [List.getElem_toArray, List.getElem_cons_zero, List.getElem_cons_succ, Act.put, List.setIfInBounds_toArray, List.set_cons_zero, List.set_cons_succ])
                          first | (refine wpAnyH_take (i := 16) (v := undef) rfl (by kernel_rfl) (by kernel_rfl) (by kernel_rfl) (fun _ _ _ h => h) (Or.inr ⟨by rfl, rfl⟩) (by assumption) ?_) | (refine wpAnyH_take (i := 16) (v := ?vv82) rfl (by kernel_rfl) (by kernel_rfl) (by kernel_rfl) (fun _ _ _ h => h) (Or.inl ⟨by rfl, ?hy82⟩) (by assumption) ?rest82; case hy82 => (intro w hSw; (try dsimp only at hSw); go_simp; try with_reducible rfl))
                          (try simp only [List.getElem_toArray, List.getElem_cons_zero, List.getElem_cons_succ, Act.put, List.setIfInBounds_toArray, List.set_cons_zero, List.set_cons_succ])
                          first | (refine wpAnyH_take (i := 17) (v := undef) rfl (by kernel_rfl) (by kernel_rfl) (by kernel_rfl) (fun _ _ _ h => h) (Or.inr ⟨by rfl, rfl⟩) (by assumption) ?_) | (refine wpAnyH_take (i := 17) (v := ?vv83) rfl (by kernel_rfl) (by kernel_rfl) (by kernel_rfl) (fun _ _ _ h => h) (Or.inl ⟨by rfl, ?hy83⟩) (by assumption) ?rest83; case hy83 => (intro w hSw; (try dsimp only at hSw); go_simp; try with_reducible rfl))
                          (try simp only [List.getElem_toArray, List.getElem_cons_zero, List.getElem_cons_succ, Act.put, List.setIfInBounds_toArray, List.set_cons_zero, List.set_cons_succ])
                          first
                            | (refine wpAnyH_take (i := 18) (v := undef) rfl (by kernel_rfl) (by kernel_rfl) (by kernel_rfl) (fun _ _ _ h => h) (Or.inr ⟨by rfl, rfl⟩) (by assumption) ?_; (try simp only [List.getElem_toArray, List.getElem_cons_zero, List.getElem_cons_succ, Act.put, List.setIfInBounds_toArray, List.set_cons_zero, List.set_cons_succ]))
                            | (refine wpAnyH_ready (rs := [18]) (by kernel_rfl) (List.cons_ne_nil _ _) ?_; refine AllReadyH.cons rfl (fun K hK => ?_) AllReadyH.nil; go_simp; go_split_ands; refine (HMO.out _).mono ?_; rintro e wz ⟨rfl, hb2⟩; (try go_wp2_with fail); refine hK.out _ _ ?hS84 (fun hHeld2 => ?rest84); (case hS84 => (exact (NS.keep (by assumption) hb2).all)); clear hK K; (try simp only [List.getElem_toArray, List.getElem_cons_zero, List.getElem_cons_succ, Act.put, List.setIfInBounds_toArray, List.set_cons_zero, List.set_cons_succ]))
                          first | (refine wpAnyH_take (i := 19) (v := undef) rfl (by kernel_rfl) (by kernel_rfl) (by kernel_rfl) (fun _ _ _ h => h) (Or.inr ⟨by rfl, rfl⟩) (by assumption) ?_) | (refine wpAnyH_take (i := 19) (v := ?vv85) rfl (by kernel_rfl) (by kernel_rfl) (by kernel_rfl) (fun _ _ _ h => h) (Or.inl ⟨by rfl, ?hy85⟩) (by assumption) ?rest85; case hy85 => (intro w hSw; (try dsimp only at hSw); go_simp; try with_reducible rfl))
                          (try simp only [List.getElem_toArray, List.getElem_cons_zero, List.getElem_cons_succ, Act.put, List.setIfInBounds_toArray, List.set_cons_zero, List.set_cons_succ])
                          (first | rw [q2n] | rw [q2] | skip)
                          first | (refine wpAnyH_take (i := 20) (v := undef) rfl (by kernel_rfl) (by kernel_rfl) (by kernel_rfl) (fun _ _ _ h => h) (Or.inr ⟨by rfl, rfl⟩) (by assumption) ?_) | (refine wpAnyH_take (i := 20) (v := ?vv86) rfl (by kernel_rfl) (by kernel_rfl) (by kernel_rfl) (fun _ _ _ h => h) (Or.inl ⟨by rfl, ?hy86⟩) (by assumption) ?rest86; case hy86 => (intro w hSw; (try dsimp only at hSw); go_simp; try with_reducible rfl))
                          (try simp only [List.getElem_toArray, List.getElem_cons_zero, List.getElem_cons_succ, Act.put, List.setIfInBounds_toArray, List.set_cons_zero, List.set_cons_succ])
                          (refine wpAnyH_take (i := 21) (v := ?vv87) rfl (by kernel_rfl) (by kernel_rfl) (by kernel_rfl) (fun _ _ _ h => h) (Or.inl ⟨by rfl, ?hy87⟩) (by assumption) ?rest87; case hy87 => (intro w hSw; (try dsimp only at hSw); go_simp; try with_reducible rfl))
                          (try simp only [List.getElem_toArray, List.getElem_cons_zero, List.getElem_cons_succ, Act.put, List.setIfInBounds_toArray, List.set_cons_zero, List.set_cons_succ])
                          refine wpAnyH_done (by kernel_rfl) ?_ _
                          go_split_ands
                          go_wp2_with fail
                          go_meet
                          exact ⟨by rw [HL.out, HOV.out, decide_eq_false C1.out, decide_eq_false C2.out]; rfl, by assumption⟩
                  case rest =>
                    obtain ⟨rfl, hn3⟩ := hcut
                    have NS3 := Lib.hid hn3
                    clear hn3 NS2
                    cases hb17 : (decide (kids.length < (shp (q : Int)).least) || overB (shp (q : Int)) kids.length) with
                    | true =>
                      have hsh : shapedE ⟨(q : Nat), sf, st, kids, text, B, N, D, M, num, wf, wt, ends⟩ = 131 := by
                        unfold shapedE
                        rw [if_neg (by rw [HKN.out]; decide), if_pos hb17]
                      have E : Hid (checkE l (m : Int) = 131) := Lib.hid (by
                        have h1 : checkL l 0 [] = (131, u) := by rw [HEQ.out, HD.out, checkL_shape _ _ _ _ (by rw [hsh]; decide), hsh]
                        rw [HE.out, h1]; simp)
                      clear hsh
                      go_wp2_with fail
                      go_ret
                      exact ⟨by rw [E.out]; rfl, NS3.out.us.ds.bel⟩
                    | false =>
                      have HB17 := Lib.hid hb17
                      go_upto_region 19 with fail
                      go_cut [88] from 44 to 165 (fun c wx => c = .bool (!(rtextB (q : Int)) && decide (text.size ≠ 0)) ∧ NS w w.heap.size (.slice (some ⟨b, off, none⟩) (m + 1) cap) (m : Int) gu (m + 1) S u s ⟨(q : Nat), sf, st, kids, text, B, N, D, M, num, wf, wt, ends⟩ (.slice ks kids.length kc) (.slice es ends.length ec) wx)
                      case first =>
                        clear HEQ HD HKS HF HROW HE HK HF1 HB17
                        obtain ⟨c0, c3, c4, -, -, -, -, -⟩ := NS3.out.all
                        cases ht : rtextB (q : Int) with
                        | true =>
                          have HT := Lib.hid (fun W => rtext_any (q : Int) W)
                          rw [ht] at HT
                          have HTB := Lib.hid ht
                          clear ht
                          go_wp2_with fail
                          refine (HT.out _).mono ?_
                          rintro e w1 ⟨rfl, rfl⟩
                          go_wp2_with fail
                          go_meet
                          exact ⟨by rw [HTB.out]; rfl, NS3.out⟩
                        | false =>
                          have HT := Lib.hid (fun W => rtext_any (q : Int) W)
                          rw [ht] at HT
                          have HTB := Lib.hid ht
                          clear ht
                          by_cases hx : text.size = 0
                          · have q1 := lstr_empty text hx
                            have HX := Lib.hid (decide_eq_false (show ¬ text.size ≠ 0 by omega))
                            clear hx
                            go_wp2_with fail
                            refine (HT.out _).mono ?_
                            rintro e w1 ⟨rfl, rfl⟩
                            go_wp2_with fail
                            go_meet
                            exact ⟨by rw [HTB.out, HX.out]; rfl, NS3.out⟩
                          · have q1 := lstr_full text hx
                            have HX := Lib.hid (decide_eq_true (show text.size ≠ 0 from hx))
                            clear hx
                            go_wp2_with fail
                            refine (HT.out _).mono ?_
                            rintro e w1 ⟨rfl, rfl⟩
                            go_wp2_with fail
                            go_meet
                            exact ⟨by rw [HTB.out, HX.out]; rfl, NS3.out⟩
                      case rest =>
                        obtain ⟨rfl, hn4⟩ := hcut
                        clear NS3
                        have NS3 := Lib.hid hn4
                        clear hn4
                        cases hb19 : (!(rtextB (q : Int)) && decide (text.size ≠ 0)) with
                        | true =>
                          have hsh : shapedE ⟨(q : Nat), sf, st, kids, text, B, N, D, M, num, wf, wt, ends⟩ = 5 := by
                            unfold shapedE
                            rw [if_neg (by rw [HKN.out]; decide), if_neg (by rw [HB17.out]; decide), if_pos (by rw [rtext_shp q q46] at hb19; rw [Bool.and_comm] at hb19; rw [hb19]; rfl)]
                          have E : Hid (checkE l (m : Int) = 5) := Lib.hid (by
                            have h1 : checkL l 0 [] = (5, u) := by rw [HEQ.out, HD.out, checkL_shape _ _ _ _ (by rw [hsh]; decide), hsh]
                            rw [HE.out, h1]; simp)
                          clear hsh
                          go_wp2_with fail
                          go_ret
                          exact ⟨by rw [E.out]; rfl, NS3.out.us.ds.bel⟩
                        | false =>
                          have HB19 := Lib.hid hb19
                          go_upto_region 21 with fail
                          go_cut [127] from 44 to 165 (fun c wx => c = .bool ((rtypedB (q : Int) && !rightB B N D M) || (!rtypedB (q : Int) && !zeroT ⟨(q : Nat), sf, st, kids, text, B, N, D, M, num, wf, wt, ends⟩)) ∧ NS w w.heap.size (.slice (some ⟨b, off, none⟩) (m + 1) cap) (m : Int) gu (m + 1) S u s ⟨(q : Nat), sf, st, kids, text, B, N, D, M, num, wf, wt, ends⟩ (.slice ks kids.length kc) (.slice es ends.length ec) wx)
                          case first =>
                            clear HEQ HD HKS HF HROW HE HK HB17 HB19
                            obtain ⟨c0, c3, c4, c5, c6, c7, c8, -⟩ := NS3.out.all
                            cases ht : rtypedB (q : Int) with
                            | true =>
                              have HT := Lib.hid (fun W => rtyped_any (q : Int) W)
                              rw [ht] at HT
                              have HR := Lib.hid (fun W => refR_any B N D M W (by have := HF1.out.2.2.2; omega))
                              cases hr : rightB B N D M with
                              | true =>
                                rw [hr] at HR
                                have HTB := Lib.hid ht
                                have HRB := Lib.hid hr
                                clear ht hr
                                go_wp2_with fail
                                refine (HT.out _).mono ?_
                                rintro e w1 ⟨rfl, rfl⟩
                                go_wp2_with fail
                                refine (HR.out _).mono ?_
                                rintro e w4 ⟨rfl, hb4⟩
                                have NS4 := Lib.hid (NS3.out.keep hb4)
                                clear hb4 c0 c3 c4 c5 c6 c7 c8
                                obtain ⟨c0, -, -, -, -, -, -, -⟩ := NS4.out.all
                                go_wp2_with fail
                                refine (HT.out _).mono ?_
                                rintro e w1 ⟨rfl, rfl⟩
                                go_wp2_with fail
                                go_meet
                                exact ⟨by rw [HTB.out, HRB.out]; rfl, NS4.out⟩
                              | false =>
                                rw [hr] at HR
                                have HTB := Lib.hid ht
                                have HRB := Lib.hid hr
                                clear ht hr
                                go_wp2_with fail
                                refine (HT.out _).mono ?_
                                rintro e w1 ⟨rfl, rfl⟩
                                go_wp2_with fail
                                refine (HR.out _).mono ?_
                                rintro e w4 ⟨rfl, hb4⟩
                                have NS4 := Lib.hid (NS3.out.keep hb4)
                                clear hb4
                                go_wp2_with fail
                                go_meet
                                exact ⟨by rw [HTB.out, HRB.out]; rfl, NS4.out⟩
                            | false =>
                              have HT := Lib.hid (fun W => rtyped_any (q : Int) W)
                              rw [ht] at HT
                              have HTB := Lib.hid ht
                              clear ht
                              have HZ : Hid (zeroT ⟨(q : Nat), sf, st, kids, text, B, N, D, M, num, wf, wt, ends⟩ = decide (B = 0 ∧ N.size = 0 ∧ D = 0 ∧ M.size = 0)) := Lib.hid rfl
                              by_cases z1 : B = 0
                              · subst z1
                                by_cases z2 : N.size = 0
                                · have y2 := lstr_empty N z2
                                  by_cases z3 : D = 0
                                  · subst z3
                                    by_cases z4 : M.size = 0
                                    · have y4 := lstr_empty M z4
                                      have X := Lib.hid (decide_eq_true (show (0 : Int) = 0 ∧ N.size = 0 ∧ (0 : Int) = 0 ∧ M.size = 0 from ⟨rfl, z2, rfl, z4⟩))
                                      clear z2 z4
                                      go_wp2_with fail
                                      refine (HT.out _).mono ?_
                                      rintro e w1 ⟨rfl, rfl⟩
                                      go_wp2_with fail
                                      refine (HT.out _).mono ?_
                                      rintro e w1 ⟨rfl, rfl⟩
                                      go_wp2_with fail
                                      go_meet
                                      exact ⟨by rw [HTB.out, HZ.out, X.out]; rfl, NS3.out⟩
                                    · have y4 := lstr_full M z4
                                      have X := Lib.hid (decide_eq_false (show ¬ ((0 : Int) = 0 ∧ N.size = 0 ∧ (0 : Int) = 0 ∧ M.size = 0) from fun h => z4 h.2.2.2))
                                      clear z2 z4
                                      go_wp2_with fail
                                      refine (HT.out _).mono ?_
                                      rintro e w1 ⟨rfl, rfl⟩
                                      go_wp2_with fail
                                      refine (HT.out _).mono ?_
                                      rintro e w1 ⟨rfl, rfl⟩
                                      go_wp2_with fail
                                      go_meet
                                      exact ⟨by rw [HTB.out, HZ.out, X.out]; rfl, NS3.out⟩
                                  · have y3 : (D == 0) = false := by simpa using z3
                                    have X := Lib.hid (decide_eq_false (show ¬ ((0 : Int) = 0 ∧ N.size = 0 ∧ D = 0 ∧ M.size = 0) from fun h => z3 h.2.2.1))
                                    clear z2
                                    go_wp2_with fail
                                    refine (HT.out _).mono ?_
                                    rintro e w1 ⟨rfl, rfl⟩
                                    go_wp2_with fail
                                    refine (HT.out _).mono ?_
                                    rintro e w1 ⟨rfl, rfl⟩
                                    go_wp2_with fail
                                    go_meet
                                    exact ⟨by rw [HTB.out, HZ.out, X.out]; rfl, NS3.out⟩
                                · have y2 := lstr_full N z2
                                  have X := Lib.hid (decide_eq_false (show ¬ ((0 : Int) = 0 ∧ N.size = 0 ∧ D = 0 ∧ M.size = 0) from fun h => z2 h.2.1))
                                  clear z2
                                  go_wp2_with fail
                                  refine (HT.out _).mono ?_
                                  rintro e w1 ⟨rfl, rfl⟩
                                  go_wp2_with fail
                                  refine (HT.out _).mono ?_
                                  rintro e w1 ⟨rfl, rfl⟩
                                  go_wp2_with fail
                                  go_meet
                                  exact ⟨by rw [HTB.out, HZ.out, X.out]; rfl, NS3.out⟩
                              · have y1 : (B == 0) = false := by simpa using z1
                                have X := Lib.hid (decide_eq_false (show ¬ (B = 0 ∧ N.size = 0 ∧ D = 0 ∧ M.size = 0) from fun h => z1 h.1))
                                go_wp2_with fail
                                refine (HT.out _).mono ?_
                                rintro e w1 ⟨rfl, rfl⟩
                                go_wp2_with fail
                                refine (HT.out _).mono ?_
                                rintro e w1 ⟨rfl, rfl⟩
                                go_wp2_with fail
                                go_meet
                                exact ⟨by rw [HTB.out, HZ.out, X.out]; rfl, NS3.out⟩
                          case rest =>
                            obtain ⟨rfl, hn5⟩ := hcut
                            clear NS3
                            have NS3 := Lib.hid hn5
                            clear hn5
                            cases hb21 : ((rtypedB (q : Int) && !rightB B N D M) || (!rtypedB (q : Int) && !zeroT ⟨(q : Nat), sf, st, kids, text, B, N, D, M, num, wf, wt, ends⟩)) with
                            | true =>
                              have hsh : shapedE ⟨(q : Nat), sf, st, kids, text, B, N, D, M, num, wf, wt, ends⟩ = 5 := by
                                unfold shapedE
                                rw [if_neg (by rw [HKN.out]; decide), if_neg (by rw [HB17.out]; decide), if_pos (by rw [rtyped_shp q q46] at hb21; rw [Bool.or_comm ((shp (q : Int)).typ && _) _] at hb21; rw [Bool.and_comm (!(shp (q : Int)).typ) _] at hb21; rw [Bool.or_assoc, hb21, Bool.or_true])]
                              have E : Hid (checkE l (m : Int) = 5) := Lib.hid (by
                                have h1 : checkL l 0 [] = (5, u) := by rw [HEQ.out, HD.out, checkL_shape _ _ _ _ (by rw [hsh]; decide), hsh]
                                rw [HE.out, h1]; simp)
                              clear hsh
                              go_wp2_with fail
                              go_ret
                              exact ⟨by rw [E.out]; rfl, NS3.out.us.ds.bel⟩
                            | false =>
                              have HB21 := Lib.hid hb21
                              have HSH : Hid (shapedE ⟨(q : Nat), sf, st, kids, text, B, N, D, M, num, wf, wt, ends⟩ = 0) := Lib.hid (by
                                unfold shapedE
                                rw [if_neg (by rw [HKN.out]; decide), if_neg (by rw [HB17.out]; decide), if_neg]
                                have h19 := HB19.out
                                have h21 := HB21.out
                                rw [rtext_shp q q46, Bool.and_comm] at h19
                                rw [rtyped_shp q q46, Bool.or_comm ((shp (q : Int)).typ && _) _, Bool.and_comm (!(shp (q : Int)).typ) _] at h21
                                rw [Bool.or_assoc, h21, Bool.or_false]
                                rw [h19]; decide)
                              clear HB17 HB19 HB21 HKN
                              go_wp2_with fail
                              go_loopw [8] (fun a wr => ∃ (j : Nat) (v : List Nat), j ≤ kids.length ∧ a = .int .i64 j ∧ takeE k kids u = takeE k (kids.drop j) v ∧ NS w w.heap.size (.slice (some ⟨b, off, none⟩) (m + 1) cap) (m : Int) gu (m + 1) S v s ⟨(q : Nat), sf, st, kids, text, B, N, D, M, num, wf, wt, ends⟩ (.slice ks kids.length kc) (.slice es ends.length ec) wr) (fun a _ => kids.length - (intOf a).toNat)
                              case atStart => exact ⟨0, u, Nat.zero_le _, rfl, rfl, NS3.out⟩
                              case round =>
                                clear NS3
                                obtain ⟨j, v, hj, rfl, he, hns⟩ := hrel
                                have HEK := Lib.hid he
                                have HV := Lib.hid hns
                                obtain ⟨c0, c3, -, -, -, -, -, -⟩ := hns.all
                                have hkk : kids.length ≤ 100 := HF1.out.1
                                clear he hns
                                by_cases hjl : j < kids.length
                                · obtain ⟨kb, ko, rfl, hkb, hrow⟩ := HKS.out (by omega)
                                  have ck := keep HV.out.us.ds.bel hkb (hrow j hjl)
                                  have HDK : Hid (kids.drop j = kids[j] :: kids.drop (j + 1)) := Lib.hid (List.drop_eq_getElem_cons hjl)
                                  clear hrow
                                  generalize kids[j] = kk at *
                                  by_cases h1 : kk < 0 ∨ (k : Int) ≤ kk
                                  · have hT : takeE k kids u = (7, v) := by rw [HEK.out, HDK.out]; unfold takeE; rw [if_pos h1]
                                    have E : Hid (checkE l (m : Int) = 7) := Lib.hid (by
                                      have h1 : checkL l 0 [] = (7, v) := by rw [HEQ.out, HD.out, checkL_take _ _ _ _ HSH.out (by rw [hT]; simp), hT]
                                      rw [HE.out, h1]; simp)
                                    clear hT
                                    by_cases hk0 : kk < 0
                                    · have q0 : decide (kk < 0) = true := decide_eq_true hk0
                                      clear h1
                                      go_wp2_with fail
                                      go_ret
                                      exact ⟨by rw [E.out]; rfl, HV.out.us.ds.bel⟩
                                    · have q0 : decide (kk < 0) = false := decide_eq_false hk0
                                      have q1 : decide ((k : Int) ≤ kk) = true := decide_eq_true (by omega)
                                      clear h1
                                      go_wp2_with fail
                                      go_ret
                                      exact ⟨by rw [E.out]; rfl, HV.out.us.ds.bel⟩
                                  · obtain ⟨p, rfl⟩ : ∃ x : Nat, kk = x := ⟨kk.toNat, by omega⟩
                                    have q0 : decide ((p : Int) < 0) = false := decide_eq_false (by omega)
                                    have q1 : decide ((k : Int) ≤ (p : Int)) = false := decide_eq_false (by omega)
                                    have q1n : decide (k ≤ p) = false := decide_eq_false (by omega)
                                    have hpn : p < m + 1 := by omega
                                    have d0 : wr.cell? ⟨gu, p, none⟩ = some (.int .i64 (if p ∈ v then 1 else 0)) := by rw [HV.out.us.row.cell]; exact usesL_at S hpn
                                    have df := HV.out.us.row.frozen p
                                    have dl := HV.out.us.row.lt
                                    have H1 := Lib.hid h1
                                    clear h1
                                    by_cases h2 : p ∈ v
                                    · have hT : takeE k kids u = (4, v) := by
                                        rw [HEK.out, HDK.out]; unfold takeE
                                        rw [if_neg H1.out, if_pos (by simpa using h2)]
                                      have E : Hid (checkE l (m : Int) = 4) := Lib.hid (by
                                        have h1 : checkL l 0 [] = (4, v) := by rw [HEQ.out, HD.out, checkL_take _ _ _ _ HSH.out (by rw [hT]; simp), hT]
                                        rw [HE.out, h1]; simp)
                                      rw [if_pos h2] at d0
                                      clear hT h2
                                      go_wp2_with fail
                                      go_ret
                                      exact ⟨by rw [E.out]; rfl, HV.out.us.ds.bel⟩
                                    · have HST : Hid (takeE k kids u = takeE k (kids.drop (j + 1)) (p :: v)) := Lib.hid (by
                                        rw [HEK.out, HDK.out, take_step H1.out (by simpa using h2)]; rfl)
                                      have HV2 := Lib.hid (HV.out.take hpn)
                                      rw [if_neg h2] at d0
                                      clear h2 HV
                                      go_wp2_with fail
                                      go_roundw
                                      case rel => exact ⟨j + 1, p :: v, by omega, by go_num, HST.out, HV2.out⟩
                                      case measure => simp [intOf]; omega
                                · have hj' : j = kids.length := by omega
                                  have hT : takeE k kids u = (0, v) := by rw [HEK.out, hj', List.drop_length]; rfl
                                  have HST : Hid (checkL l 0 [] = checkL (l.drop (k + 1)) (k + 1) v) := Lib.hid (by
                                    rw [HEQ.out, HD.out, checkL_step _ _ _ _ HSH.out (by rw [hT]), hT])
                                  have HU2 := Lib.hid HV.out.us
                                  clear hT hj' HV
                                  go_wp2_with fail
                                  go_roundw
                                  case rel =>
                                    (repeat apply Exists.intro)
                                    exact ⟨⟨k + 1, v, by omega, by go_num, HST.out, HU2.out⟩, rfl⟩
                                  case measure => simp [intOf]; omega
                ·
                  have hsh : shapedE ⟨kind, sf, st, kids, text, B, N, D, M, num, wf, wt, ends⟩ = 3 := by
                    unfold shapedE
                    rw [if_pos (by unfold knownB; exact decide_eq_false hkn)]
                  have E : Hid (checkE l (m : Int) = 3) := Lib.hid (by
                    have h1 : checkL l 0 [] = (3, u) := by rw [HEQ.out, HD.out, checkL_shape _ _ _ _ (by rw [hsh]; decide), hsh]
                    rw [HE.out, h1]; simp)
                  have hnm := nmS_no hkn
                  have he0 : (⟨#[]⟩ : ByteArray).toList.isEmpty = true := lstr_empty _ rfl
                  clear hkn hsh
                  go_wp2_with fail
                  refine (rname_any kind _).mono ?_
                  rw [hnm]
                  rintro e w2 ⟨rfl, hb2⟩
                  have NS2 := Lib.hid (NS1.out.keep hb2)
                  clear hb2 NS1
                  go_wp2_with fail
                  go_ret
                  exact ⟨by rw [E.out]; rfl, NS2.out.us.ds.bel⟩
              ·
                have hkm : m + 1 = k := by omega
                subst hkm
                have HE2 : Hid (checkE l (m : Int) = if ∀ j, j < m → j ∈ u then 0 else 3) := Lib.hid (by
                  have h1 : checkL l 0 [] = (0, u) := by rw [HEQ.out, ← HM.out, List.drop_length]; rfl
                  rw [HE.out, h1]; simp)
                clear hlt hk a0 a1 al af
                go_wp2_with fail
                rename World => wi
                go_loopw [9] (fun a wr => ∃ i : Nat, i ≤ m ∧ a = .int .i64 i ∧ (∀ j, j < i → j ∈ u) ∧ US w w.heap.size (.slice (some ⟨b, off, none⟩) (m + 1) cap) (m : Int) gu (m + 1) S u wr) (fun a _ => m - (intOf a).toNat)
                case atStart => exact ⟨0, Nat.zero_le _, rfl, (fun j h => absurd h (by omega)), HU.out⟩
                case round =>
                  clear HU
                  obtain ⟨i, hi, rfl, hall, hu⟩ := hrel
                  have HA := Lib.hid hall
                  have HU := Lib.hid hu
                  clear hall hu
                  by_cases hlt : i < m
                  · have hin : i < m + 1 := by omega
                    have d0 : wr.cell? ⟨gu, i, none⟩ = some (.int .i64 (if i ∈ u then 1 else 0)) := by rw [HU.out.row.cell]; exact usesL_at S hin
                    by_cases h2 : i ∈ u
                    · rw [if_pos h2] at d0
                      have H2 := Lib.hid h2
                      clear h2
                      go_wp2_with fail
                      go_roundw
                      case rel => exact ⟨i + 1, by omega, by go_num, (fun j h => by
                        by_cases hji : j < i
                        · exact HA.out j hji
                        · have : j = i := by omega
                          rw [this]; exact H2.out), HU.out⟩
                      case measure => simp [intOf]; omega
                    · rw [if_neg h2] at d0
                      have E : Hid (checkE l (m : Int) = 3) := Lib.hid (by rw [HE2.out, if_neg (fun h => h2 (h i hlt))])
                      clear h2
                      go_wp2_with fail
                      go_ret
                      exact ⟨by rw [E.out]; rfl, HU.out.ds.bel⟩
                  · have E : Hid (checkE l (m : Int) = 0) := Lib.hid (by rw [HE2.out, if_pos (fun j hj => HA.out j (by omega))])
                    have him : i = m := by omega
                    subst him
                    clear hlt
                    go_wp2_with fail
                    go_ret
                    exact ⟨by rw [E.out]; rfl, HU.out.ds.bel⟩
      ·
        have E := Lib.hid (show checkE l (m : Int) = 5 by unfold checkE; rw [if_neg (by omega), if_pos (.inr (.inr (by rw [HK.out]; simpa using hk)))])
        clear hrow hf h0 hnd
        rw [hm]
        clear hm
        go_enter Tryz.func9, Tryz.ntmps9
        go_wp2_with fail
        go_ret
        exact ⟨by rw [E.out]; rfl, by repeat (first | exact Below.refl _ _ | apply Below.setCell _ (by first | omega | (simp <;> omega)) | apply Below.alloc _ (by first | omega | (simp <;> omega)))⟩
    ·
      have E := Lib.hid (show checkE l root = 5 by unfold checkE; rw [if_neg (by omega), if_pos (.inr (.inl (by omega)))])
      clear hrow hf h0
      rw [hm]
      clear hm
      go_enter Tryz.func9, Tryz.ntmps9
      go_wp2_with fail
      go_ret
      exact ⟨by rw [E.out]; rfl, by repeat (first | exact Below.refl _ _ | apply Below.setCell _ (by first | omega | (simp <;> omega)) | apply Below.alloc _ (by first | omega | (simp <;> omega)))⟩
end Go.Proofs.YtfalgnapghienaaGreatDoor
