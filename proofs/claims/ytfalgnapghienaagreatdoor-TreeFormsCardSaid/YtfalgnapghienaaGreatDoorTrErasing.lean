/- Contract of tree's Erase. -/
import Derived.Test.YtfalgnapghienaaGreatDoorTrNode
import Derived.Test.YtfalgnapghienaaGreatDoorTrTree
namespace Go.Proofs.YtfalgnapghienaaGreatDoor
open Go Go.RowKit
set_option linter.unusedVariables false
set_option linter.unusedSimpArgs false

/-- which node stands for one -/
def stepT (tw : List Nat) (n : Nat) (x : Nd) : Nat := if x.kind = 40 ∨ x.kind = 41 ∨ x.kind = 45 then (toOf tw (x.kids.headD 0)).toNat else if x.kind = 43 ∨ x.kind = 44 then n + 1 else n
theorem eraseStep_to (mk : List Nd) (tw : List Nat) (x : Nd) : (eraseStep ⟨mk, tw⟩ x).to = tw ++ [stepT tw mk.length x] := by
  unfold eraseStep stepT
  split
  · rfl
  · split <;> rfl

theorem node_any (bB b tb n : Nat) (tw : List Nat) (L : List NdR) (v : Value) (x : Nd) (kv ev : Value) (w : World)
    (hx : (x.kind = 40 ∨ x.kind = 41 ∨ x.kind = 43 ∨ x.kind = 44 ∨ x.kind = 45) → 0 < x.kids.length)
    (hb : Bld 74 [.slice (some ⟨tb, 0, none⟩) n n] w bB b L v) (hB : bB ≤ w.heap.size) (hL : L.length + 1 < 16384) (htb : tb < bB) (hto : Bx 3 w tb (toL n tw)) (hn : n ≤ 16384) (hka : ∀ k ∈ x.kids, 0 ≤ k ∧ k < (n : Nat))
    (hk : NumsB w bB kv x.kids) (he : NumsB w bB ev x.ends) (hf : NdFit x) (sm : x.M.size ≤ 140737488355328) :
    Calls Tryz.prog 42 #[.pointer (some ⟨b, 0, none⟩), .agg #[.int .i64 x.kind, .int .i64 x.sf, .int .i64 x.st, kv, .string x.text, .int .i64 x.B, .string x.N, .int .i64 x.D, .string x.M, .int .i64 x.num, .int .i64 x.wf, .int .i64 x.wt, ev]] w
      (NodePost (.slice (some ⟨tb, 0, none⟩) n n) w bB b (eraseStep ⟨L.map (·.1), tw⟩ x).made (stepT tw L.length x)) := by
  obtain ⟨kind, sf, st, kids, text, B, N, D, M, num, wf, wt, ends⟩ := x
  simp only at hx hka hk he sm ⊢
  have lk := hf.kids
  have le := hf.ends
  have sx := hf.text
  have sn := hf.N
  simp only at lk le sx sn
  clear hf
  by_cases h40 : kind = 40
  · subst h40
    exact node40_any bB b tb n tw L v sf st kids text B N D M num wf wt ends kv ev w (Lib.hid (hx (by decide))) hb hB hL htb hto hn hka hk he lk le sx sn sm
  by_cases h41 : kind = 41
  · subst h41
    exact node41_any bB b tb n tw L v sf st kids text B N D M num wf wt ends kv ev w (Lib.hid (hx (by decide))) hb hB hL htb hto hn hka hk he lk le sx sn sm
  by_cases h45 : kind = 45
  · subst h45
    exact node45_any bB b tb n tw L v sf st kids text B N D M num wf wt ends kv ev w (Lib.hid (hx (by decide))) hb hB hL htb hto hn hka hk he lk le sx sn sm
  by_cases h43 : kind = 43
  · subst h43
    have h := node43_any bB b tb n tw L v sf st kids text B N D M num wf wt ends kv ev w (Lib.hid (hx (by decide))) hb hB hL htb hto hn hka hk he lk le sx sn sm
    have e : (eraseStep ⟨L.map (·.1), tw⟩ ⟨43, sf, st, kids, text, B, N, D, M, num, wf, wt, ends⟩).made = L.map (·.1) ++ [nullNd st, ⟨34, sf, st, [toOf tw (kids.headD 0), (L.length : Nat)], ⟨#[33, 61]⟩, B, N, D, M, num, wf, wt, ends⟩] := by
      rw [show (L.length : Nat) = (L.map (·.1)).length from (List.length_map _).symm]; rfl
    rw [e]; exact h
  by_cases h44 : kind = 44
  · subst h44
    have h := node44_any bB b tb n tw L v sf st kids text B N D M num wf wt ends kv ev w (Lib.hid (hx (by decide))) hb hB hL htb hto hn hka hk he lk le sx sn sm
    have e : (eraseStep ⟨L.map (·.1), tw⟩ ⟨44, sf, st, kids, text, B, N, D, M, num, wf, wt, ends⟩).made = L.map (·.1) ++ [nullNd st, ⟨34, sf, st, [toOf tw (kids.headD 0), (L.length : Nat)], ⟨#[61, 61]⟩, B, N, D, M, num, wf, wt, ends⟩] := by
      rw [show (L.length : Nat) = (L.map (·.1)).length from (List.length_map _).symm]; rfl
    rw [e]; exact h
  by_cases h42 : kind = 42
  · subst h42
    exact node42_any bB b tb n tw L v sf st kids text B N D M num wf wt ends kv ev w hb hB hL htb hto hn hka hk he lk le sx sn sm
  · have h := nodeK_any bB b tb n tw L v kind sf st kids text B N D M num wf wt ends kv ev w (by simpa using h40) (by simpa using h41) (by simpa using h45) (by simpa using h42) (by simpa using h43) (by simpa using h44) hb hB hL htb hto hn hka hk he lk le sx sn sm
    have e : (eraseStep ⟨L.map (·.1), tw⟩ ⟨kind, sf, st, kids, text, B, N, D, M, num, wf, wt, ends⟩).made = L.map (·.1) ++ [⟨kind, sf, st, kids.map (toOf tw), text, B, N, D, blankT M.size, num, wf, wt, ends⟩] := by
      unfold eraseStep keptNd
      simp only
      rw [if_neg (by omega), if_neg (by omega), if_neg h42]
    have e2 : stepT tw L.length ⟨kind, sf, st, kids, text, B, N, D, M, num, wf, wt, ends⟩ = L.length := by
      unfold stepT
      simp only
      rw [if_neg (by omega), if_neg (by omega)]
    rw [e, e2]; exact h

theorem toL_set {n : Nat} {tw : List Nat} (h : tw.length < n) (r : Nat) : (toL n tw).set tw.length (.int .i64 (r : Int)) = toL n (tw ++ [r]) := by
  apply List.ext_getElem?
  intro i
  by_cases hi : i < n
  · by_cases hk : tw.length = i
    · subst hk
      rw [List.getElem?_set_self (by rw [toL_len]; exact hi), toL_at hi]
      simp
    · rw [List.getElem?_set_ne hk, toL_at hi, toL_at hi]
      by_cases h2 : i < tw.length
      · rw [List.getD_eq_getElem?_getD, List.getD_eq_getElem?_getD, List.getElem?_append_left h2]
      · rw [List.getD_eq_getElem?_getD, List.getD_eq_getElem?_getD, List.getElem?_eq_none (by omega), List.getElem?_eq_none (by simp; omega)]
  · rw [List.getElem?_eq_none (by rw [List.length_set, toL_len]; omega), List.getElem?_eq_none (by rw [toL_len]; omega)]
theorem made_to (n : Nat) (W : World) (hn : n ≤ 16384) : (Instr.makeSlice 35 (.int .i64 (n : Int)) (.int .i64 (n : Int))).run Tryz.prog W = .ok (.slice (some ⟨W.heap.size, 0, none⟩) n n) (W.alloc (.cells (toL n []).toArray 3)) := by
  obtain ⟨i0, hi, hz0, hz1, hz2⟩ := info_parts infoInt
  have := run_make (P := Tryz.prog) W 35 3 i0 (.int .i64 0) Tryz.underlying35 hi hz0 .i64 .i64 n n (by omega) (Int.le_refl _) (by rw [hz2]; omega) (by omega)
  simp only [Int.toNat_natCast] at this
  have e : madeCells (Value.int .i64 0).cells (n * i0.size) = (toL n []).toArray := by
    rw [hz1, Nat.mul_one]
    apply Array.ext'
    have e2 : toL n [] = List.replicate n (.int .i64 0) := by
      unfold toL
      apply List.ext_getElem?
      intro i
      by_cases h : i < n
      · simp [h]
      · simp [h]
    rw [e2]
    exact toList_madeCells_one (.int .i64 0) n
  rw [this, e]
theorem NumsB.mono {w : World} {B B' : Nat} {v : Value} {l : List Int} (h : NumsB w B v l) (hB : B ≤ B') : NumsB w B' v l := by
  obtain ⟨src, cap, h1, h2⟩ := h
  refine ⟨src, cap, h1, fun h0 => ?_⟩
  obtain ⟨b, off, q1, q2, q3, q4⟩ := h2 h0
  exact ⟨b, off, q1, by omega, q3, q4⟩
/-- a builder stays where a list of numbers below it changes -/
theorem Bld.setLow {T : TypeId} {rest : List Value} {w : World} {B b g o : Nat} {L : List NdR} {v u : Value} (h : Bld T rest w B b L v) (hg : g < B) : Bld T rest (w.setCell ⟨g, o, none⟩ u) B b L v :=
  ⟨h.base, h.box.other (by have := h.base; omega) o u, h.own.kept (grown_set w g o u) (.inr (fun e => by have := (h.own.lt g e).1; omega)), fun y hy => ⟨(h.new_ y hy).1.kept fun k cur _ hk => heap_setCell_other w _ k u (by simp; omega), (h.new_ y hy).2.kept fun k cur _ hk => heap_setCell_other w _ k u (by simp; omega)⟩⟩
theorem erase_succ {l : List Nd} {j : Nat} (h : j < l.length) : eraseTo l (j + 1) = eraseStep (eraseTo l j) l[j] := by
  show (match l[j]? with | none => eraseTo l j | some x => eraseStep (eraseTo l j) x) = _
  rw [List.getElem?_eq_getElem h]
theorem erase_fit {l : List Nd} (hf : ∀ x ∈ l, NdFit x) : ∀ j, ∀ x ∈ (eraseTo l j).made, NdFit x := by
  intro j
  induction j with
  | zero => intro x hx; simp [eraseTo] at hx
  | succ j ih =>
    by_cases hj : j < l.length
    · rw [erase_succ hj]
      have h := hf _ (List.getElem_mem hj)
      generalize l[j] = y at *
      unfold eraseStep
      split
      · exact ih
      · split
        · intro x hx
          rw [List.mem_append] at hx
          rcases hx with hx | hx
          · exact ih x hx
          · simp only [List.mem_cons, List.not_mem_nil, or_false] at hx
            rcases hx with rfl | rfl
            · exact ⟨by simp [nullNd], by simp [nullNd], by unfold nullNd; exact Nat.zero_le _, by unfold nullNd; exact Nat.zero_le _, by unfold nullNd; exact Nat.zero_le _⟩
            · exact ⟨by simp [heldNd], h.ends, by simp only [heldNd, signOf]; split <;> decide, h.N, h.M⟩
        · intro x hx
          rw [List.mem_append] at hx
          rcases hx with hx | hx
          · exact ih x hx
          · simp only [List.mem_cons, List.not_mem_nil, or_false] at hx
            subst hx
            exact ⟨by simp only [keptNd, List.length_map]; exact h.kids, h.ends, h.text, h.N, by simp only [keptNd, blankT_size]; exact h.M⟩
    · have : l[j]? = none := List.getElem?_eq_none (by omega)
      have e : eraseTo l (j + 1) = eraseTo l j := by
        show (match l[j]? with | none => eraseTo l j | some x => eraseStep (eraseTo l j) x) = _
        rw [this]
      rw [e]; exact ih
/-- what the eraser holds between two nodes -/
structure ErInv (w wr : World) (tb n : Nat) (mk : List Nd) (tw : List Nat) : Prop where
  bel : Below tb w wr
  row : Bx 3 wr tb (toL n tw)
  bld : ∃ L v, L.map (·.1) = mk ∧ Bld 74 [.slice (some ⟨tb, 0, none⟩) n n] wr (tb + 1) (tb + 1) L v

set_option maxRecDepth 100000 in
set_option maxHeartbeats 4000000 in
theorem erase_any (p : Pen) (hp : PenOk p) (l : List Nd) (nv : Value) (root : Int) (w : World) (hT : ShTab w) (hn : NdsV w nv l) (hl : l.length ≤ 8192) (hf : ∀ x ∈ l, NdFit x) (hM : ∀ x ∈ l, x.M.size ≤ 140737488355328) (hc : checkE l root = 0) :
    Calls Tryz.prog 18 #[.agg #[nv, .int .i64 root]] w (TreePost w (eraseL l) (((eraseL l).length : Int) - 1)) := by
  have P := check_ok l root hc
  have hs := P.some_
  have HC := Lib.hid (fun (w2 : World) (hb : Below w.heap.size w w2) => check_any l nv root w2 (hT.step hb) (hn.step hb) (by omega) hf)
  rw [hc] at HC
  obtain ⟨src, cap, rfl, hns⟩ := hn
  obtain ⟨b0, off, rfl, hb0, hrow⟩ := hns hs
  have HROW := Lib.hid hrow
  have HF := Lib.hid hf
  have HMS := Lib.hid hM
  have HP := Lib.hid P
  have HEA := Lib.hid (erase_all p hp P)
  have HEO := Lib.hid (erase_ok p hp l root hc hl)
  have HFT := Lib.hid (erase_fit hf)
  obtain ⟨W0, hW0⟩ : ∃ W0, W0 = (w.alloc (.cells #[.slice (some ⟨b0, off, none⟩) l.length cap, .int .i64 root] 24)).alloc (.cells #[.slice none 0 0, .int .i64 0] 24) := ⟨_, rfl⟩
  have HB0 : Hid (Below w.heap.size w W0) := Lib.hid (by rw [hW0]; exact ((Below.refl _ _).alloc (Nat.le_refl _) _).alloc (by simp) _)
  have HS0 : Hid (W0.heap.size = w.heap.size + 2) := Lib.hid (by rw [hW0]; simp)
  have X0 : Hid (Bx 24 W0 w.heap.size [.slice (some ⟨b0, off, none⟩) l.length cap, .int .i64 root]) := Lib.hid (by rw [hW0]; exact (Bx.new 24 w _).alloc _)
  have X0r : Hid (Bx 24 W0 (w.heap.size + 1) [.slice none 0 0, .int .i64 0]) := Lib.hid (by rw [hW0]; have := Bx.new 24 (w.alloc (.cells #[.slice (some ⟨b0, off, none⟩) l.length cap, .int .i64 root] 24)) #[.slice none 0 0, .int .i64 0]; simpa using this)
  have HW0 := Lib.hid hW0
  obtain ⟨n, hnn⟩ : ∃ n, l.length = n := ⟨_, rfl⟩
  have HN := Lib.hid hnn
  rw [hnn] at HC X0 HW0 hl hs
  have HMK := Lib.hid (fun W => made_to n W (by omega))
  obtain ⟨⟨a0, a1, al, af⟩, ⟨r0, r1, rl, rf⟩⟩ := And.intro X0.out.two X0r.out.two
  rw [hnn]
  clear hW0 hc hns hrow hf hM P hnn hT
  go_enter Tryz.func18, Tryz.ntmps18
  go_wp2_with fail
  rw [← HW0.out]
  go_wp2_with fail
  refine (HC.out _ HB0.out).mono ?_
  rintro e w1 ⟨rfl, hb1⟩
  have B1 := Lib.hid (after HB0.out hb1)
  have X1 := Lib.hid (X0.out.keep hb1)
  have X1r := Lib.hid (X0r.out.keep hb1)
  have HS1 : Hid (w.heap.size + 2 ≤ w1.heap.size) := Lib.hid (by have := hb1.size; have := HS0.out; omega)
  clear a0 a1 al af r0 r1 rl rf hb1 HC HW0 X0 X0r
  obtain ⟨a0, a1, al, af⟩ := X1.out.two
  go_wp2_with fail
  rw [HMK.out]
  simp only [Result.andThen_ok]
  rw [Oper.upon_value]
  go_wp2_with fail
  clear a0 a1 al af HMK
  obtain ⟨W2, hW2⟩ : ∃ W2, W2 = (w1.alloc (.cells (toL n []).toArray 3)).alloc (.cells #[.slice none 0 0, .slice (some ⟨w1.heap.size, 0, none⟩) n n] 74) := ⟨_, rfl⟩
  have HI : Hid (ErInv w1 W2 w1.heap.size n [] []) := Lib.hid (by
    rw [hW2]
    refine ⟨((Below.refl _ _).alloc (Nat.le_refl _) _).alloc (by simp) _, (Bx.new 3 w1 _).alloc _, [], .slice none 0 0, rfl, Nat.le_refl _, ?_, World.ownsRow_nil _ _ _ _, fun y hy => by cases hy⟩
    have := Bx.new 74 (w1.alloc (.cells (toL n []).toArray 3)) #[.slice none 0 0, .slice (some ⟨w1.heap.size, 0, none⟩) n n]
    simpa using this)
  have HW2 := Lib.hid hW2
  clear hW2
  rw [← HW2.out]
  have b2 : W2.cell? ⟨w.heap.size, 0, none⟩ = some (.slice (some ⟨b0, off, none⟩) n cap) := (X1.out.keep HI.out.bel).cell 0
  go_wp2_with fail
  clear b2 HW2
  obtain ⟨tb, htb⟩ : ∃ tb, tb = w1.heap.size := ⟨_, rfl⟩
  have HTB := Lib.hid htb
  rw [← htb] at HI
  rw [← htb]
  clear htb
  go_loopw [20] (fun a wr => ∃ j : Nat, j ≤ n ∧ a = .int .i64 j ∧ ErInv w1 wr tb n (eraseTo l j).made (eraseTo l j).to) (fun a _ => n - (intOf a).toNat)
  case atStart => exact ⟨0, Nat.zero_le _, rfl, HI.out⟩
  case round =>
    clear HI
    obtain ⟨j, hj, rfl, hbel, hbx, L, v, hmk, hbd⟩ := hrel
    have HBL : Hid (Below w1.heap.size w1 wr) := Lib.hid (by have := HTB.out; subst this; exact hbel)
    have HBX := Lib.hid hbx
    have HMA := Lib.hid hmk
    have HBD := Lib.hid hbd
    have BW := Lib.hid (B1.out.trans (HBL.out.mono (by have := HS1.out; omega)))
    have HBT : Hid (Below tb w1 wr) := Lib.hid hbel
    have HL := Lib.hid (show L.length ≤ 2 * j by have := (HEA.out j (by have := HN.out; omega)).n; rw [← hmk] at this; simpa using this)
    have HTL := Lib.hid ((HEA.out j (by have := HN.out; omega)).f.len)
    clear hbel hbx hmk hbd
    by_cases hlt : j < n
    · have hjl : j < l.length := by have := HN.out; omega
      obtain ⟨kv, ev, hnd0⟩ := HROW.out j hjl
      have hnd := hnd0.step hb0 BW.out
      have HF1 := Lib.hid (HF.out _ (List.getElem_mem hjl))
      have HM1 := Lib.hid (HMS.out _ (List.getElem_mem hjl))
      have HKA := Lib.hid (HP.out.ahead j hjl)
      have HFC : Hid ((l[j].kind = 40 ∨ l[j].kind = 41 ∨ l[j].kind = 43 ∨ l[j].kind = 44 ∨ l[j].kind = 45) → 0 < l[j].kids.length) := Lib.hid (fun h => by
        obtain ⟨k, ks, hks, -, -⟩ := first_cons HP.out hjl h
        rw [hks]; simp)
      have HST := Lib.hid (erase_succ hjl)
      have HKB := Lib.hid ((hnd0.kids.below (Nat.le_refl _)).to BW.out)
      have HEB := Lib.hid ((hnd0.ends.below (Nat.le_refl _)).to BW.out)
      have hk0 := hnd0.kids
      clear hnd0
      generalize l[j] = y at *
      obtain ⟨kind, sf, st, kids, text, B, N, D, M, num, wf, wt, ends⟩ := y
      obtain ⟨ks, kc, hkv, -⟩ := hk0
      obtain ⟨-, ⟨es, ec, hev, -⟩, e0, e1, e2, e3, e4, e5, e6, e7, e8, e9, e10, e11, e12⟩ := hnd
      simp only at hkv hev e0 e1 e2 e3 e4 e5 e6 e7 e8 e9 e10 e11 e12
      subst hkv hev
      generalize eraseTo l j = er at *
      obtain ⟨mk, tw⟩ := er
      have HND := Lib.hid (fun (w2 : World) (h2 : Below wr.heap.size wr w2) => node_any (tb + 1) (tb + 1) tb n tw L v ⟨kind, sf, st, kids, text, B, N, D, M, num, wf, wt, ends⟩ (.slice ks kids.length kc) (.slice es ends.length ec) w2 HFC.out (HBD.out.step h2) (by have := HBX.out.lt; have := h2.size; omega) (by have := HL.out; omega) (Nat.lt_succ_self _) (HBX.out.keep h2) (by omega) (fun k hk => by have := HKA.out k hk; omega) ((HKB.out.to (h2.mono (by have := BW.out.size; omega))).mono (by have := HTB.out; have := HS1.out; omega)) ((HEB.out.to (h2.mono (by have := BW.out.size; omega))).mono (by have := HTB.out; have := HS1.out; omega)) HF1.out HM1.out)
      obtain ⟨W3, hW3⟩ : ∃ W3, W3 = wr.alloc (.cells #[.int .i64 kind, .int .i64 sf, .int .i64 st, .slice ks kids.length kc, .string text, .int .i64 B, .string N, .int .i64 D, .string M, .int .i64 num, .int .i64 wf, .int .i64 wt, .slice es ends.length ec] 46) := ⟨_, rfl⟩
      have HB3 : Hid (Below wr.heap.size wr W3) := Lib.hid (by rw [hW3]; exact (Below.refl _ _).alloc (Nat.le_refl _) _)
      have X3 : Hid (BoxN W3 wr.heap.size [.int .i64 kind, .int .i64 sf, .int .i64 st, .slice ks kids.length kc, .string text, .int .i64 B, .string N, .int .i64 D, .string M, .int .i64 num, .int .i64 wf, .int .i64 wt, .slice es ends.length ec]) := Lib.hid (by rw [hW3]; exact BoxN.new wr #[.int .i64 kind, .int .i64 sf, .int .i64 st, .slice ks kids.length kc, .string text, .int .i64 B, .string N, .int .i64 D, .string M, .int .i64 num, .int .i64 wf, .int .i64 wt, .slice es ends.length ec])
      have HW3 := Lib.hid hW3
      have hgt : tb + 1 < wr.heap.size := HBD.out.box.lt
      obtain ⟨⟨a0, a1, a2, a3, a4, a5, a6, a7, a8, a9, a10, a11, a12⟩, al, af⟩ := X3.out.all
      clear hW3 HROW HF HMS HP HEA HEO HFT HKA HFC HKB HEB HF1 HM1
      go_wp2_with fail
      rw [← HW3.out]
      clear e0 e1 e2 e3 e4 e5 e6 e7 e8 e9 e10 e11 e12
      go_wp2_with fail
      refine (HND.out _ HB3.out).mono ?_
      rintro e W4 ⟨rfl, h34, ⟨L2, v2, hmk2, hbd2⟩, hk4⟩
      have H4 := Lib.hid h34
      have HMK2 := Lib.hid hmk2
      have HBD2 := Lib.hid hbd2
      clear a0 a1 a2 a3 a4 a5 a6 a7 a8 a9 a10 a11 a12 al af h34 hmk2 hbd2 hk4 HW3 HND
      have HX4 := Lib.hid ((HBX.out.keep HB3.out).keepB H4.out (Nat.lt_succ_self _))
      obtain ⟨d0, d1, dl, df⟩ := HBD2.out.box.two
      have c0 : W4.cell? ⟨tb, j, none⟩ = some (.int .i64 ((tw.getD j 0 : Nat) : Int)) := by rw [HX4.out.cell]; exact toL_at hlt
      have cf := HX4.out.frozen j
      have cl := HX4.out.lt
      have HLL : Hid (mk.length = L.length) := Lib.hid (by rw [← HMA.out]; simp)
      have HTW : Hid (tw.length = j) := HTL
      have HS4 : Hid (Bx 3 (W4.setCell ⟨tb, j, none⟩ (.int .i64 (stepT tw L.length ⟨kind, sf, st, kids, text, B, N, D, M, num, wf, wt, ends⟩ : Nat))) tb (toL n (eraseTo l (j + 1)).to)) := Lib.hid (by
        have := HX4.out.set j (.int .i64 (stepT tw L.length ⟨kind, sf, st, kids, text, B, N, D, M, num, wf, wt, ends⟩ : Nat))
        rw [HST.out, eraseStep_to, HLL.out, ← toL_set (by rw [HTW.out]; exact hlt), HTW.out]
        exact this)
      have HBE : Hid (L2.map (·.1) = (eraseTo l (j + 1)).made) := Lib.hid (by rw [HMK2.out, HST.out, HMA.out])
      generalize stepT tw L.length ⟨kind, sf, st, kids, text, B, N, D, M, num, wf, wt, ends⟩ = r at *
      generalize tw.getD j 0 = r0 at *
      go_wp2_with fail
      exact ⟨⟨j + 1, by omega, by go_num, (HBT.out.trans ((HB3.out.mono (by omega)).trans (H4.out.mono (Nat.le_succ _)))).setCell (Nat.le_refl _) _, HS4.out, L2, v2, HBE.out, HBD2.out.setLow (Nat.lt_succ_self _)⟩, by simp [intOf]; omega⟩
    · have hjn : j = l.length := by have := HN.out; omega
      have HJN := Lib.hid hjn
      have HME : Hid (L.map (·.1) = eraseL l) := Lib.hid (by rw [HMA.out, hjn]; rfl)
      have HLE : Hid (L.length = (eraseL l).length) := Lib.hid (by rw [← HME.out]; simp)
      have h0 : 0 < L.length := by rw [HLE.out]; exact (check_ok _ _ HEO.out.1).some_
      have HBT := Lib.hid (btree_any 74 [.slice (some ⟨tb, 0, none⟩) n n] (tb + 1) (tb + 1) L v wr HBD.out (by have := HL.out; omega) h0 (by rw [HME.out]; exact HFT.out _))
      have X5 := Lib.hid (X1r.out.keep HBL.out)
      clear hjn h0 HROW HF HMS HP HEA HEO HFT
      go_wp2_with fail
      refine HBT.out.mono ?_
      rintro e W5 ⟨s1, c1, rfl, h5, n5⟩
      have H5 := Lib.hid h5
      have N5 := Lib.hid n5
      have X6 := Lib.hid (X5.out.keep h5)
      obtain ⟨r0, r1, rl, rf⟩ := X6.out.two
      clear h5 n5
      go_wp2_with fail
      refine bodyPost_ret (v := .agg #[.slice s1 (L.map (·.1)).length c1, .int .i64 ((L.length : Int) - 1)]) (by simp [results, Tryz.results18, go_sem, r0, r1]) rfl ?_
      exact ⟨s1, c1, by rw [HME.out, HLE.out], ((BW.out.trans (H5.out.mono (by have := BW.out.size; omega))).setCell (p := ⟨w.heap.size + 1, 0, none⟩) (by simp) _).setCell (p := ⟨w.heap.size + 1, 1, none⟩) (by simp) _, by rw [← HME.out]; exact (N5.out.mono (by have := BW.out.size; omega)).sets2 X6.out⟩
end Go.Proofs.YtfalgnapghienaaGreatDoor
