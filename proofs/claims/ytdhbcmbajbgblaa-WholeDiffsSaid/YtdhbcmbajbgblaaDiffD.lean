/- Contract of diff's search: the rows up to the first that comes to both ends. -/
import Derived.Test.YtdhbcmbajbgblaaDiffC
namespace Go.Proofs.Ytdhbcmbajbgblaa
open Go Go.RowKit
set_option linter.unusedVariables false

theorem infoRows : (Try.prog.info? 81).map (fun i => (i.zero, i.size, i.bytes)) = some (some (.slice none 0 0), 1, 24) := by kernel_rfl
def RowV (g : Nat → Nat) (j : Nat) : Value := .slice (some ⟨g j, 0, none⟩) (j + 1) (j + 1)
def RowsV (g : Nat → Nat) (k : Nat) : List Value := (List.range k).map (RowV g)
theorem RowsV_succ (g : Nat → Nat) (k : Nat) : RowsV g (k + 1) = RowsV g k ++ [RowV g k] := by unfold RowsV; rw [List.range_succ, List.map_append]; rfl
theorem RowsV_congr {g h : Nat → Nat} {k : Nat} (e : ∀ j, j < k → g j = h j) : RowsV g k = RowsV h k := by
  unfold RowsV
  apply List.map_congr_left
  intro j hj
  unfold RowV; rw [e j (by simpa using hj)]
theorem RowsV_at (g : Nat → Nat) (k j : Nat) (h : j < k) : (RowsV g k)[j]? = some (RowV g j) := by
  unfold RowsV; rw [List.getElem?_map, List.getElem?_range h]; rfl

/-- the rows so far -/
def SInv (w : World) (a b : ByteArray) (k : Nat) (g : Nat → Nat) (v : Value) (wr : World) : Prop :=
  Below w.heap.size w wr ∧ wr.ownsRow w.heap.size 81 1 v k (RowsV g k) ∧ (∀ j, j < k → g j < wr.heap.size ∧ NumsAt wr (g j) (j + 1) (rowF a b j)) ∧ ∀ j, j < k → v.ownBlock ≠ some (g j)
theorem grown_below {B : Nat} {w w2 : World} (hb : Below w.heap.size w w2) : w.grownBy w2 none := ⟨hb.os, hb.tape, hb.output, hb.size, fun i hi _ => hb.block i hi⟩
theorem SInv.step {w wr w2 : World} {a b : ByteArray} {k : Nat} {g : Nat → Nat} {v : Value} (h : SInv w a b k g v wr) (hb : Below wr.heap.size wr w2) : SInv w a b k g v w2 := by
  obtain ⟨h1, h2, h3, h4⟩ := h
  refine ⟨after h1 hb, h2.kept (grown_below (B := 0) hb) (by cases v.ownBlock <;> simp), fun j hj => ?_, h4⟩
  obtain ⟨q1, q2⟩ := h3 j hj
  exact ⟨by have := hb.size; omega, q2.step hb q1⟩

/-- one row more -/
theorem SInv.more {w wr w1 w3 : World} {a b : ByteArray} {k G : Nat} {g : Nat → Nat} {v v' : Value} (h : SInv w a b k g v wr) (h01 : Below wr.heap.size wr w1) (hG : wr.heap.size ≤ G) (hG1 : G < w1.heap.size) (hnum : NumsAt w1 G (k + 1) (rowF a b k))
    (hown : w3.ownsRow w.heap.size 81 1 v' (k + 1) (RowsV g k ++ [.slice (some ⟨G, 0, none⟩) (k + 1) (k + 1)])) (hgr : w1.grownBy w3 v.ownBlock) :
    SInv w a b (k + 1) (fun j => if j = k then G else g j) v' w3 ∧ NumsAt w3 G (k + 1) (rowF a b k) := by
  have hs := h.step h01
  obtain ⟨h1, h2, h3, h4⟩ := h
  obtain ⟨s1, s2, s3, s4⟩ := hs
  have hlt := h2.lt
  have cellk : ∀ (q : Nat), q < w1.heap.size → v.ownBlock ≠ some q → ∀ i, w3.cell? ⟨q, i, none⟩ = w1.cell? ⟨q, i, none⟩ := fun q hq hne i =>
    World.cell?_of_block (w := w1) (hgr.block q hq (fun e => hne e.symm))
  have hGne : v.ownBlock ≠ some G := fun e => by have := (hlt _ e).2; omega
  have hnew : NumsAt w3 G (k + 1) (rowF a b k) := fun i hi => by rw [cellk G hG1 hGne]; exact hnum i hi
  have hall : ∀ j, j < k + 1 → (if j = k then G else g j) < w3.heap.size ∧ NumsAt w3 (if j = k then G else g j) (j + 1) (rowF a b j) := by
    intro j hj
    by_cases e : j = k
    · subst e; rw [if_pos rfl]; exact ⟨by have := hgr.size; omega, hnew⟩
    · rw [if_neg e]
      obtain ⟨q1, q2⟩ := s3 j (by omega)
      exact ⟨by have := hgr.size; omega, fun i hi => by rw [cellk _ q1 (h4 j (by omega))]; exact q2 i hi⟩
  have hvals : RowsV g k ++ [.slice (some ⟨G, 0, none⟩) (k + 1) (k + 1)] = RowsV (fun j => if j = k then G else g j) (k + 1) := by
    rw [RowsV_succ, RowsV_congr (g := g) (h := fun j => if j = k then G else g j) (fun j hj => (if_neg (show ¬ j = k by omega)).symm)]
    congr 2
    unfold RowV; simp
  rw [hvals] at hown
  refine ⟨⟨?_, hown, hall, ?_⟩, hnew⟩
  · exact Below.grown s1 hgr (by have := s1.size; omega) (fun j hj => (hlt j hj).1)
  · intro j hj e
    have c := hown.cells e 0 _ (RowsV_at _ _ 0 (by omega))
    have c2 := (hall j hj).2 0 (by omega)
    rw [show (⟨if j = k then G else g j, 0, none⟩ : Addr).add 0 = ⟨if j = k then G else g j, 0, none⟩ by simp [Addr.add]] at c
    rw [c2] at c
    unfold RowV at c
    cases c

theorem step_nil (a b : ByteArray) (w : World) : ∀ (W : World) (i : Nat), Below w.heap.size w W → i ≤ 0 → Calls Try.prog 41 #[.slice none 0 0, .int .i64 (i : Nat)] W fun e w' => e = .returned (.tuple #[.int .i64 ((stepN a b 0 i).1 : Nat), .int .i64 ((stepN a b 0 i).2 : Nat)]) ∧ Below W.heap.size W w' :=
  fun W i _ hi => step_none i 0 none W (by omega)
theorem step_row (a b : ByteArray) (w : World) (m g : Nat) (hm : m ≤ 599) (ha : a.size ≤ 20000) (hg : g < w.heap.size) (hr : NumsAt w g (m + 1) (rowF a b m)) : ∀ (W : World) (i : Nat), Below w.heap.size w W → i ≤ m + 1 →
    Calls Try.prog 41 #[.slice (some ⟨g, 0, none⟩) (m + 1) (m + 1), .int .i64 (i : Nat)] W fun e w' => e = .returned (.tuple #[.int .i64 ((stepN a b (m + 1) i).1 : Nat), .int .i64 ((stepN a b (m + 1) i).2 : Nat)]) ∧ Below W.heap.size W w' := by
  intro W i hW hi
  have := step_any (rowF a b m) g (m + 1) (m + 1) i W (by have := hW.size; omega) (hr.step hW hg) (by omega) (by omega) (Nat.le_refl _) hi (fun j => by have := rowF_le a b m j; omega)
  exact this

set_option maxRecDepth 100000 in
set_option maxHeartbeats 4000000 in
theorem search_any (a b : ByteArray) (w : World) (ha : a.size ≤ 20000) (hb : b.size ≤ 20000) :
    Calls Try.prog 19 #[.string a, .string b] w fun e w' => (∃ n g v i, e = .returned (.tuple #[v, .bool true]) ∧ n ≤ 512 ∧ EndAt a b n i ∧ (∀ m, m < n → ∀ i, ¬ EndAt a b m i) ∧ SInv w a b (n + 1) g v w') ∨
      (e = .returned (.tuple #[.slice none 0 0, .bool false]) ∧ (∀ m, m ≤ 512 → ∀ i, ¬ EndAt a b m i) ∧ Below w.heap.size w w') := by
  obtain ⟨i0, hi, hz0, hz1, hz2⟩ := info_parts infoRows
  go_enter Try.func19, Try.ntmps19
  go_wp2_with fail
  go_loopw [6, 7, 10] (fun u r i wr => ∃ (k : Nat) (g : Nat → Nat) (v : Value), k ≤ 513 ∧ i = .int .i64 k ∧ u = v ∧ SInv w a b k g v wr ∧ (∀ m, m < k → ∀ i, ¬ EndAt a b m i) ∧ ((k = 0 ∧ r = .slice none 0 0) ∨ ∃ m, k = m + 1 ∧ r = RowV g m)) (fun _ _ i _ => 513 - (intOf i).toNat)
  case atStart => exact ⟨0, fun _ => 0, _, by omega, rfl, rfl, ⟨Below.refl _ _, ⟨rfl, .inl ⟨rfl, rfl⟩⟩, fun j h => absurd h (by omega), fun j h => absurd h (by omega)⟩, fun m h => absurd h (by omega), .inl ⟨rfl, rfl⟩⟩
  case round =>
    obtain ⟨k, g, v, hk, rfl, rfl, hinv, hno, hlast⟩ := hrel
    have HV := Lib.hid hinv
    have HNO := Lib.hid hno
    clear hno
    by_cases hlt : k < 513
    · have i1 : (k : Int) < 513 := by omega
      rcases hlast with ⟨rfl, rfl⟩ | ⟨m, rfl, rfl⟩
      · have HST := Lib.hid (step_nil a b wr)
        clear hinv
        go_wp2_with fail
        refine (onward_any a b none 0 0 _ (by omega) ha hb HST.out).mono ?_
        rintro e w2 ⟨rfl, h12, z2, hnum⟩
        have HOW := Lib.hid (HV.out.step h12).2.1
        have H12 := Lib.hid h12
        have HNUM := Lib.hid hnum
        have zw := HV.out.1.size
        have zw2 := h12.size
        clear h12 hnum
        go_wp2_with (at_builtin; refine wpList_append_own _ rfl _ _ 52 rfl w.heap.size 81 i0 (.slice none 0 0) 1 24 Try.underlying52 hi hz0 hz1 hz2 rfl (by decide) _ _ _ rfl (HOW.out.alloc _) ⟨w2.heap.size, 0, none⟩ 1 1 [.slice (some ⟨wr.heap.size, 0, none⟩) (0 + 1) (0 + 1)] rfl rfl ?c1 ?c2 ?c3 ?c4 ?c5 ?_)
        case c1 =>
          intro j u hj
          match j, hj with
          | 0, hj => simp at hj; subst hj; simp [Addr.add, go_sem]
        case c2 => intro u hu; simp at hu; subst hu; rfl
        case c3 => unfold maxLen; omega
        case c4 => omega
        case c5 => simp; omega
        intro v' w3 hown' hgrow _
        have B2 := (Below.refl w2.heap.size w2).alloc (Nat.le_refl _) (.cells #[.slice (some ⟨wr.heap.size, 0, none⟩) (0 + 1) (0 + 1)] 81)
        have hm := HV.out.more (after H12.out (B2.mono (Nat.le_refl _))) (Nat.le_refl _) (by have := B2.size; omega) (HNUM.out.step B2 z2) hown' hgrow
        have HM := Lib.hid hm
        have hG : wr.heap.size < w3.heap.size := by have := (hm.1.2.2.1 _ (Nat.lt_succ_self _)).1; simpa using this
        clear hown' hgrow hm B2
        go_wp2_with fail
        refine (atEnd_any a b (rowF a b (0)) wr.heap.size (0) (0 + 1) _ hG HM.out.2 (by omega) (Nat.le_refl _) (fun j => by have := rowF_le a b (0) j; omega) (by omega) (by omega)).mono ?_
        rintro e w4 ⟨⟨i, f, rfl, hf1, hf2⟩, h34⟩
        have H4 := Lib.hid (HM.out.1.step h34)
        have HF1 := Lib.hid hf1
        have HF2 := Lib.hid hf2
        clear hf1 hf2 h34
        cases f
        · go_wp2_with fail
          refine ⟨⟨0 + 1, _, _, by omega, by go_num, rfl, H4.out, fun q hq i => ?_, .inr ⟨0, rfl, ?_⟩⟩, by simp [intOf] <;> omega⟩
          · by_cases e : q = 0
            · subst e; exact fun hh => (HF2.out (by trivial)).2 i hh.1 hh.2
            · exact HNO.out q (by omega) i
          · first | (simp; done) | (unfold RowV; simp; done)
        · go_wp2_with fail
          go_ret2
          exact .inl ⟨0, _, _, i, rfl, by omega, ⟨(HF1.out (by trivial)).1, (HF1.out (by trivial)).2⟩, HNO.out, H4.out⟩
      · obtain ⟨q1, q2⟩ := hinv.2.2.1 m (by omega)
        have HST := Lib.hid (step_row a b wr m (g m) (by omega) ha q1 q2)
        clear hinv q2
        unfold RowV
        go_wp2_with fail
        refine (onward_any a b (some ⟨g m, 0, none⟩) (m + 1) (m + 1) _ (by omega) ha hb HST.out).mono ?_
        rintro e w2 ⟨rfl, h12, z2, hnum⟩
        have HOW := Lib.hid (HV.out.step h12).2.1
        have H12 := Lib.hid h12
        have HNUM := Lib.hid hnum
        have zw := HV.out.1.size
        have zw2 := h12.size
        clear h12 hnum
        go_wp2_with (at_builtin; refine wpList_append_own _ rfl _ _ 52 rfl w.heap.size 81 i0 (.slice none 0 0) 1 24 Try.underlying52 hi hz0 hz1 hz2 rfl (by decide) _ _ _ rfl (HOW.out.alloc _) ⟨w2.heap.size, 0, none⟩ 1 1 [.slice (some ⟨wr.heap.size, 0, none⟩) (m + 1 + 1) (m + 1 + 1)] rfl rfl ?c1 ?c2 ?c3 ?c4 ?c5 ?_)
        case c1 =>
          intro j u hj
          match j, hj with
          | 0, hj => simp at hj; subst hj; simp [Addr.add, go_sem]
        case c2 => intro u hu; simp at hu; subst hu; rfl
        case c3 => unfold maxLen; omega
        case c4 => omega
        case c5 => simp; omega
        intro v' w3 hown' hgrow _
        have B2 := (Below.refl w2.heap.size w2).alloc (Nat.le_refl _) (.cells #[.slice (some ⟨wr.heap.size, 0, none⟩) (m + 1 + 1) (m + 1 + 1)] 81)
        have hm := HV.out.more (after H12.out (B2.mono (Nat.le_refl _))) (Nat.le_refl _) (by have := B2.size; omega) (HNUM.out.step B2 z2) hown' hgrow
        have HM := Lib.hid hm
        have hG : wr.heap.size < w3.heap.size := by have := (hm.1.2.2.1 _ (Nat.lt_succ_self _)).1; simpa using this
        clear hown' hgrow hm B2
        go_wp2_with fail
        refine (atEnd_any a b (rowF a b (m + 1)) wr.heap.size (m + 1) (m + 1 + 1) _ hG HM.out.2 (by omega) (Nat.le_refl _) (fun j => by have := rowF_le a b (m + 1) j; omega) (by omega) (by omega)).mono ?_
        rintro e w4 ⟨⟨i, f, rfl, hf1, hf2⟩, h34⟩
        have H4 := Lib.hid (HM.out.1.step h34)
        have HF1 := Lib.hid hf1
        have HF2 := Lib.hid hf2
        clear hf1 hf2 h34
        cases f
        · go_wp2_with fail
          refine ⟨⟨m + 1 + 1, _, _, by omega, by go_num, rfl, H4.out, fun q hq i => ?_, .inr ⟨m + 1, rfl, ?_⟩⟩, by simp [intOf] <;> omega⟩
          · by_cases e : q = m + 1
            · subst e; exact fun hh => (HF2.out (by trivial)).2 i hh.1 hh.2
            · exact HNO.out q (by omega) i
          · first | (simp; done) | (unfold RowV; simp; done)
        · go_wp2_with fail
          go_ret2
          exact .inl ⟨m + 1, _, _, i, rfl, by omega, ⟨(HF1.out (by trivial)).1, (HF1.out (by trivial)).2⟩, HNO.out, H4.out⟩
    · have hk' : k = 513 := by omega
      subst hk'
      go_wp2_with fail
      go_ret2
      exact .inr ⟨rfl, fun m hm => HNO.out m (by omega), HV.out.1⟩

end Go.Proofs.Ytdhbcmbajbgblaa
