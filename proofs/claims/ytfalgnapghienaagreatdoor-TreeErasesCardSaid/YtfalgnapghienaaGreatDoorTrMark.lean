/- Contracts of tree's Plain, strict and Marked. -/
import Derived.Test.YtfalgnapghienaaGreatDoorTrWalkC
import Derived.Test.YtfalgnapghienaaGreatDoorTrEraseF
namespace Go.Proofs.YtfalgnapghienaaGreatDoor
open Go Go.RowKit
set_option linter.unusedVariables false
set_option linter.unusedSimpArgs false

theorem trimB_nil (l : List UInt8) (c : UInt8) : Lib.trimB l c = [] ↔ ∀ x ∈ l, x = c := by
  unfold Lib.trimB Lib.trimLeftB Lib.trimRightB
  rw [drop_nil]
  constructor
  · intro h
    have h2 : l.reverse.dropWhile (· == c) = [] := by
      apply Classical.byContradiction
      intro hne
      have hp := List.head_dropWhile_not (· == c) hne
      have := h _ (List.mem_reverse.2 (List.head_mem hne))
      rw [this] at hp
      cases hp
    rw [drop_nil] at h2
    intro x hx
    simpa using h2 x (List.mem_reverse.2 hx)
  · intro h x hx
    have : x ∈ l := by
      have h1 := List.mem_reverse.1 hx
      exact List.mem_reverse.1 ((List.dropWhile_sublist _).subset h1)
    simpa using h x this
theorem trim_blank (M : ByteArray) : Lib.trimB M.data.toList 32 = [] ↔ markedM M = false := by
  rw [trimB_nil]
  unfold markedM
  rw [decide_eq_false_iff_not]
  constructor
  · rintro h ⟨i, hi, hne⟩
    apply hne
    have hl : i < M.data.toList.length := by rw [Array.length_toList]; exact hi
    have := h _ (List.getElem_mem hl)
    rw [byS_list, List.getElem?_eq_getElem hl]
    simp [this]
  · intro h x hx
    obtain ⟨i, hi, rfl⟩ := List.getElem_of_mem hx
    have hi2 : i < M.size := by rw [Array.length_toList] at hi; exact hi
    apply Classical.byContradiction
    intro hne
    apply h
    refine ⟨i, hi2, fun e => hne ?_⟩
    rw [byS_list, List.getElem?_eq_getElem hi] at e
    simp only [Option.map_some, Option.getD_some] at e
    exact UInt8.toNat_inj.1 e

set_option maxHeartbeats 1000000 in
theorem plain_any (B : Int) (N : ByteArray) (D : Int) (M : ByteArray) (w : World) (hM : M.size ≤ 9223372036854775807) :
    Calls Tryz.prog 56 #[.agg #[.int .i64 B, .string N, .int .i64 D, .string M]] w fun e w' => e = .returned (.bool (!markedM M)) ∧ Below w.heap.size w w' := by
  have HT := Lib.hid (fun w => Tryz.strings_Trim_one M 32 (by decide) w hM)
  have HE := Lib.hid (trim_blank M)
  have hb : ∀ w0 w1 w2 : World, Below w0.heap.size w0 w1 → (w2 = w1 ∨ w2 = w1.drew) → Below w0.heap.size w0 w2 := by
    rintro w0 w1 w2 h (rfl | rfl)
    · exact h
    · exact h.drew
  cases hm : markedM M
  · have E := Lib.hid (HE.out.2 hm)
    clear HE hm
    go_enter Tryz.func56, Tryz.ntmps56
    go_wp2_with fail
    refine (HT.out _).mono ?_
    rw [E.out]
    rintro e w1 ⟨rfl, h1⟩
    go_wp2_with fail
    go_ret
    exact ⟨rfl, hb _ _ _ (by repeat (first | exact Below.refl _ _ | apply Below.setCell _ (by first | omega | (simp <;> omega)) | apply Below.alloc _ (by first | omega | (simp <;> omega)))) h1⟩
  · have hz : (⟨(Lib.trimB M.data.toList 32).toArray⟩ : ByteArray).size ≠ 0 := by
      intro h
      have : Lib.trimB M.data.toList 32 = [] := by
        apply List.eq_nil_of_length_eq_zero
        rw [← List.size_toArray]
        exact h
      have := HE.out.1 this
      rw [this] at hm
      cases hm
    generalize (⟨(Lib.trimB M.data.toList 32).toArray⟩ : ByteArray) = R at *
    obtain ⟨r1, r2⟩ := tl_ne R hz
    clear HE hm hz
    go_enter Tryz.func56, Tryz.ntmps56
    go_wp2_with fail
    refine (HT.out _).mono ?_
    rintro e w1 ⟨rfl, h1⟩
    go_wp2_with fail
    go_ret
    exact ⟨rfl, hb _ _ _ (by repeat (first | exact Below.refl _ _ | apply Below.setCell _ (by first | omega | (simp <;> omega)) | apply Below.alloc _ (by first | omega | (simp <;> omega)))) h1⟩

set_option maxRecDepth 100000 in
set_option maxHeartbeats 2000000 in
theorem strict_any (kind sf st : Int) (kids : List Int) (text : ByteArray) (B : Int) (N : ByteArray) (D : Int) (M : ByteArray) (num wf wt : Int) (ends : List Int) (ks es : Option Addr) (kc ec : Nat) (w : World) (hM : M.size ≤ 9223372036854775807) :
    Calls Tryz.prog 43 #[.agg #[.int .i64 kind, .int .i64 sf, .int .i64 st, .slice ks kids.length kc, .string text, .int .i64 B, .string N, .int .i64 D, .string M, .int .i64 num, .int .i64 wf, .int .i64 wt, .slice es ends.length ec]] w fun e w' => e = .returned (.bool (strictN ⟨kind, sf, st, kids, text, B, N, D, M, num, wf, wt, ends⟩)) ∧ Below w.heap.size w w' := by
  have HP := Lib.hid (fun w => plain_any B N D M w hM)
  have E : strictN ⟨kind, sf, st, kids, text, B, N, D, M, num, wf, wt, ends⟩ = (strictK kind || markedM M) := rfl
  rw [E]
  clear E
  by_cases h : 40 ≤ kind ∧ kind ≤ 45
  · rw [show strictK kind = true from decide_eq_true h, Bool.true_or]
    have h6 : kind = 40 ∨ kind = 41 ∨ kind = 42 ∨ kind = 43 ∨ kind = 44 ∨ kind = 45 := by omega
    clear h HP
    rcases h6 with rfl | rfl | rfl | rfl | rfl | rfl
    all_goals go_enter Tryz.func43, Tryz.ntmps43
    all_goals go_wp2_with fail
    all_goals go_ret
    all_goals exact ⟨rfl, by repeat (first | exact Below.refl _ _ | apply Below.setCell _ (by first | omega | (simp <;> omega)) | apply Below.alloc _ (by first | omega | (simp <;> omega)))⟩
  · rw [show strictK kind = false from decide_eq_false h, Bool.false_or]
    have k0 : (kind == 40) = false := by simp; omega
    have k1 : (kind == 41) = false := by simp; omega
    have k2 : (kind == 42) = false := by simp; omega
    have k3 : (kind == 43) = false := by simp; omega
    have k4 : (kind == 44) = false := by simp; omega
    have k5 : (kind == 45) = false := by simp; omega
    generalize markedM M = mk at *
    clear h
    go_enter Tryz.func43, Tryz.ntmps43
    go_wp2_with fail
    refine (HP.out _).mono ?_
    rintro e w1 ⟨rfl, h1⟩
    go_wp2_with fail
    go_ret
    exact ⟨by simp, after (by repeat (first | exact Below.refl _ _ | apply Below.setCell _ (by first | omega | (simp <;> omega)) | apply Below.alloc _ (by first | omega | (simp <;> omega)))) h1⟩

def markV (o : Option Nat) : Value := .tuple #[.int .i64 (o.getD 0 : Nat), .bool o.isSome]
def MarkPost (w : World) (o : Option Nat) (e : Ending) (w' : World) : Prop := e = .returned (markV o) ∧ Below w.heap.size w w'

theorem find_step {p : Nat → Bool} {L : List Nat} {j : Nat} (hj : j < L.length) (h : ∀ i (hi : i < L.length), i < j → p L[i] = false) (hp : p L[j] = true) : L.find? p = some L[j] := by
  have e : L = L.take j ++ L[j] :: L.drop (j + 1) := by rw [← List.drop_eq_getElem_cons hj, List.take_append_drop]
  conv => lhs; rw [e]
  rw [List.find?_append]
  have : (L.take j).find? p = none := by
    rw [List.find?_eq_none]
    intro x hx
    obtain ⟨i, hi, rfl⟩ := List.getElem_of_mem hx
    have hi2 : i < j := by rw [List.length_take] at hi; omega
    rw [List.getElem_take]
    have := h i (by omega) hi2
    simp [this]
  rw [this, List.find?_cons_of_pos hp]
  rfl

set_option maxRecDepth 100000 in
set_option maxHeartbeats 4000000 in
theorem marked_any {l : List Nd} {root : Int} (P : ProgOk l root) (nv : Value) (w : World) (hn : NdsV w nv l) (hf : ∀ x ∈ l, NdFit x) :
    Calls Tryz.prog 19 #[.agg #[nv, .int .i64 root]] w (MarkPost w (markedO l)) := by
  have hP := P.long
  have hs := P.some_
  have hroot := P.root_
  have er : root = ((l.length - 1 : Nat) : Int) := by omega
  obtain ⟨a, ha⟩ : ∃ a, l.length - 1 = a := ⟨_, rfl⟩
  rw [ha] at er
  subst er
  have hal : a < l.length := by omega
  have HW := Lib.hid (fun (w2 : World) (hb : Below w.heap.size w w2) => walk_any P nv a w2 (hn.step hb) hal hf)
  have HLE := Lib.hid (fun x hx => Nat.lt_of_le_of_lt (walk_le P a hal x hx) hal)
  have HM : Hid (markedO l = (walkS l a).find? (strictAt l)) := Lib.hid (by unfold markedO; rw [ha])
  have HFF := Lib.hid hf
  obtain ⟨src, cap, rfl, hns⟩ := hn
  obtain ⟨nb, noff, rfl, hnb, hrow⟩ := hns (by omega)
  have HROW := Lib.hid hrow
  have HWL := walk_len P
  rw [ha] at HWL
  have hwl : (walkS l a).length ≤ 16384 := by omega
  clear hroot ha hf hrow hs HWL hns
  generalize walkS l a = L at *
  obtain ⟨n, hnl⟩ : ∃ n, L.length = n := ⟨_, rfl⟩
  have HNL := Lib.hid hnl
  go_enter Tryz.func19, Tryz.ntmps19
  go_wp2_with fail
  refine (HW.out _ (by repeat (first | exact Below.refl _ _ | apply Below.setCell _ (by first | omega | (simp <;> omega)) | apply Below.alloc _ (by first | omega | (simp <;> omega))))).mono ?_
  rintro e w1 ⟨v, rfl, s, c, rfl, hsn, hb1⟩
  have HB1 := Lib.hid (after (show Below w.heap.size w (w.alloc (.cells #[.slice (some ⟨nb, noff, none⟩) l.length cap, .int .i64 (a : Int)] 24)) from (Below.refl _ _).alloc (Nat.le_refl _) _) hb1)
  have HX1 := Lib.hid ((Bx.new 24 w #[.slice (some ⟨nb, noff, none⟩) l.length cap, .int .i64 (a : Int)]).keep hb1)
  have HSN := Lib.hid hsn
  rw [hnl] at hwl ⊢
  clear hsn hb1 hnl
  go_wp2_with fail
  go_loopw [11] (fun i wr => ∃ (j : Nat), j ≤ n ∧ i = .int .i64 j ∧ Below w1.heap.size w1 wr ∧ ∀ i (hi : i < L.length), i < j → strictAt l L[i] = false) (fun i _ => n - (intOf i).toNat)
  case atStart => exact ⟨0, Nat.zero_le _, rfl, Below.refl _ _, fun i hi h => by omega⟩
  case round =>
    obtain ⟨j, hj, rfl, hbl, hall⟩ := hrel
    have HBL := Lib.hid hbl
    have HALL := Lib.hid hall
    clear hbl hall
    have HBW := Lib.hid (after HB1.out HBL.out)
    by_cases hlt : j < n
    · have hjl : j < L.length := by rw [HNL.out]; exact hlt
      obtain ⟨sb, soff, rfl, hsb, hsrow⟩ := HSN.out (by rw [natI_len]; omega)
      have c0 := keep HBL.out hsb (hsrow j (by rw [natI_len]; exact hjl))
      have e0 : (natI L)[j]'(by rw [natI_len]; exact hjl) = (L[j] : Int) := by simp [natI]
      rw [e0] at c0
      have hq := HLE.out L[j] (List.getElem_mem hjl)
      have HFS := Lib.hid (find_step (p := strictAt l) hjl HALL.out)
      obtain ⟨a0, a1, al, af⟩ := (HX1.out.keep HBL.out).two
      have HNX : Hid (∀ i (hi : i < L.length), i < j + 1 → i ≠ j → strictAt l L[i] = false) := Lib.hid (fun i hi h1 h2 => HALL.out i hi (by omega))
      have HSJ : Hid (strictAt l L[j] = false → ∀ i (hi : i < L.length), i < j + 1 → strictAt l L[i] = false) := Lib.hid (fun h i hi h1 => by
        by_cases e : i = j
        · subst e; exact h
        · exact HNX.out i hi h1 e)
      clear hsrow e0 HNX
      generalize L[j] = q at *
      obtain ⟨kv, ev, hnd0⟩ := HROW.out q hq
      have hnd := hnd0.step hnb HBW.out
      have hat : strictAt l q = strictN l[q] := by unfold strictAt; rw [List.getElem?_eq_getElem hq]; rfl
      have HF1 := Lib.hid (HFF.out _ (List.getElem_mem hq))
      rw [hat] at HFS HSJ
      clear hat hnd0
      generalize l[q] = y at *
      obtain ⟨kind, sf, st, kids, text, B, N, D, M, num, wf, wt, ends⟩ := y
      obtain ⟨⟨ks, kc, hkv, hks⟩, ⟨es, ec, hev, hes⟩, e0, e1, e2, e3, e4, e5, e6, e7, e8, e9, e10, e11, e12⟩ := hnd
      simp only at hkv hev e0 e1 e2 e3 e4 e5 e6 e7 e8 e9 e10 e11 e12
      subst hkv hev
      have HS := Lib.hid (fun w => strict_any kind sf st kids text B N D M num wf wt ends ks es kc ec w (Nat.le_trans HF1.out.M (by omega)))
      clear hks hes
      cases hst : strictN ⟨kind, sf, st, kids, text, B, N, D, M, num, wf, wt, ends⟩
      · have HG := Lib.hid (HSJ.out hst)
        rw [hst] at HS
        clear hst HFS HSJ
        go_wp2_with fail
        refine (HS.out _).mono ?_
        rintro e w2 ⟨rfl, h2⟩
        have H2 := Lib.hid (after HBL.out h2)
        clear h2
        go_wp2_with fail
        go_roundw
        case rel => exact ⟨j + 1, by omega, by go_num, H2.out, HG.out⟩
        case measure => simp [intOf]; omega
      · have HG : Hid (markedO l = some q) := Lib.hid (by rw [HM.out]; exact HFS.out hst)
        rw [hst] at HS
        clear hst HFS HSJ
        go_wp2_with fail
        refine (HS.out _).mono ?_
        rintro e w2 ⟨rfl, h2⟩
        have H2 := Lib.hid (after HBW.out h2)
        clear h2
        go_wp2_with fail
        go_ret2
        exact ⟨by rw [HG.out]; rfl, H2.out⟩
    · have hj' : j = n := by omega
      subst hj'
      have HG : Hid (markedO l = none) := Lib.hid (by
        rw [HM.out, List.find?_eq_none]
        intro x hx
        obtain ⟨i, hi, rfl⟩ := List.getElem_of_mem hx
        rw [HALL.out i hi (by have := HNL.out; omega)]; simp)
      go_wp2_with fail
      go_ret2
      exact ⟨by rw [HG.out]; rfl, HBW.out⟩
end Go.Proofs.YtfalgnapghienaaGreatDoor
