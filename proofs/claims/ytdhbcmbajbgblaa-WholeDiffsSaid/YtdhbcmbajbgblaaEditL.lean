/- Contracts of joined and fresh. -/
import Derived.Test.YtdhbcmbajbgblaaEditK
import Derived.StillTailTactics
namespace Go.Proofs.Ytdhbcmbajbgblaa
open Go Go.RowKit
set_option linter.unusedVariables false

set_option maxHeartbeats 1000000 in
theorem three_boxes (w : World) (u0 u1 u2 v0 v1 v2 r0 r1 r2 : Value) (T : TypeId) :
    let W := ((w.alloc (.cells #[u0, u1, u2] T)).alloc (.cells #[v0, v1, v2] T)).alloc (.cells #[r0, r1, r2] T)
    (W.cell? ⟨w.heap.size, 0, none⟩ = some u0 ∧ W.cell? ⟨w.heap.size, 1, none⟩ = some u1 ∧ W.cell? ⟨w.heap.size, 2, none⟩ = some u2) ∧
    (W.cell? ⟨w.heap.size + 1, 0, none⟩ = some v0 ∧ W.cell? ⟨w.heap.size + 1, 1, none⟩ = some v1 ∧ W.cell? ⟨w.heap.size + 1, 2, none⟩ = some v2) ∧
    (W.cell? ⟨w.heap.size + 1 + 1, 0, none⟩ = some r0 ∧ W.cell? ⟨w.heap.size + 1 + 1, 1, none⟩ = some r1 ∧ W.cell? ⟨w.heap.size + 1 + 1, 2, none⟩ = some r2) ∧
    (∀ j, W.frozen? ⟨w.heap.size + 1 + 1, j, none⟩ = false) ∧ Below w.heap.size w W ∧ W.heap.size = w.heap.size + 3 := by
  intro W
  have b1 : Below w.heap.size w (w.alloc (.cells #[u0, u1, u2] T)) := (Below.refl _ _).alloc (Nat.le_refl _) _
  have z1 : (w.alloc (.cells #[u0, u1, u2] T)).heap.size = w.heap.size + 1 := by simp
  have b2 : Below (w.heap.size + 1) (w.alloc (.cells #[u0, u1, u2] T)) ((w.alloc (.cells #[u0, u1, u2] T)).alloc (.cells #[v0, v1, v2] T)) := z1 ▸ (Below.refl _ _).alloc (Nat.le_refl _) _
  have z2 : ((w.alloc (.cells #[u0, u1, u2] T)).alloc (.cells #[v0, v1, v2] T)).heap.size = w.heap.size + 1 + 1 := by simp
  have b3 : Below (w.heap.size + 1 + 1) ((w.alloc (.cells #[u0, u1, u2] T)).alloc (.cells #[v0, v1, v2] T)) W := z2 ▸ (Below.refl _ _).alloc (Nat.le_refl _) _
  have k1 : ∀ j v, (w.alloc (.cells #[u0, u1, u2] T)).cell? ⟨w.heap.size, j, none⟩ = some v → W.cell? ⟨w.heap.size, j, none⟩ = some v := fun j v h =>
    (b3.cell (p := ⟨w.heap.size, j, none⟩) (show w.heap.size < _ by omega)).trans ((b2.cell (p := ⟨w.heap.size, j, none⟩) (show w.heap.size < _ by omega)).trans h)
  have k2 : ∀ j v, ((w.alloc (.cells #[u0, u1, u2] T)).alloc (.cells #[v0, v1, v2] T)).cell? ⟨w.heap.size + 1, j, none⟩ = some v → W.cell? ⟨w.heap.size + 1, j, none⟩ = some v := fun j v h =>
    (b3.cell (p := ⟨w.heap.size + 1, j, none⟩) (show w.heap.size + 1 < _ by omega)).trans h
  refine ⟨⟨k1 0 _ (by simp [go_sem]), k1 1 _ (by simp [go_sem]), k1 2 _ (by simp [go_sem])⟩, ⟨k2 0 _ (by rw [← z1]; simp [go_sem]), k2 1 _ (by rw [← z1]; simp [go_sem]), k2 2 _ (by rw [← z1]; simp [go_sem])⟩,
    ⟨by rw [← z2]; simp [W, go_sem], by rw [← z2]; simp [W, go_sem], by rw [← z2]; simp [W, go_sem]⟩, fun j => by rw [← z2]; simp [W, go_sem], (b1.trans (b2.mono (by omega))).trans (b3.mono (by omega)), by simp [W]⟩

set_option maxRecDepth 100000 in
set_option maxHeartbeats 1000000 in
theorem joined_any (s : ByteArray) (a b : NEd) (w : World) (hs : s.size ≤ 65536) (h1 : a.2.1 ≤ b.1) (h2 : b.1 ≤ s.size) (h3 : a.2.2.size ≤ 65536) (h4 : b.2.2.size ≤ 65536) :
    Calls Try.prog 46 #[.string s, .agg #[.int .i64 (a.1 : Nat), .int .i64 (a.2.1 : Nat), .string a.2.2], .agg #[.int .i64 (b.1 : Nat), .int .i64 (b.2.1 : Nat), .string b.2.2]] w fun r w' =>
      r = .returned (.agg #[.int .i64 ((joinE s a b).1 : Nat), .int .i64 ((joinE s a b).2.1 : Nat), .string (joinE s a b).2.2]) ∧ Below w.heap.size w w' := by
  obtain ⟨a1, a2, a3⟩ := a
  obtain ⟨b1, b2, b3⟩ := b
  dsimp only at h1 h2 h3 h4
  have z0 : (s.extract a2 b1).size ≤ 65536 := by rw [ByteArray.size_extract]; omega
  have m1 : ¬ 9223372036854775807 < a3.size + (b1 - a2) := by omega
  have m2 : ¬ 9223372036854775807 < a3.size + (b1 - a2) + b3.size := by omega
  have o5 : (a2 : Int) ≤ (b1 : Int) := by omega
  have o6 : (b1 : Int) ≤ (s.size : Int) := by omega
  obtain ⟨⟨u0, u1, u2⟩, ⟨v0, v1, v2⟩, ⟨r0, r1, r2⟩, fz, bel, hz⟩ := three_boxes w (.int .i64 (a1 : Int)) (.int .i64 (a2 : Int)) (.string a3) (.int .i64 (b1 : Int)) (.int .i64 (b2 : Int)) (.string b3) (.int .i64 0) (.int .i64 0) (.string ⟨#[]⟩) 27
  obtain ⟨W, hW⟩ : ∃ W, W = ((w.alloc (.cells #[.int .i64 (a1 : Int), .int .i64 (a2 : Int), .string a3] 27)).alloc (.cells #[.int .i64 (b1 : Int), .int .i64 (b2 : Int), .string b3] 27)).alloc (.cells #[.int .i64 0, .int .i64 0, .string ⟨#[]⟩] 27) := ⟨_, rfl⟩
  rw [← hW] at u0 u1 u2 v0 v1 v2 r0 r1 r2 fz bel hz
  have HW := Lib.hid hW
  have FZ := Lib.hid fz
  have f0 := fz 0
  have f1 := fz 1
  have f2 := fz 2
  clear hW fz
  go_enter Try.func46, Try.ntmps46
  go_wp2_with fail
  rw [← HW.out]
  go_still_tail 22, (by kernel_rfl)
  change wpList _ _ _ _ _ W.drew
  go_wp2_with fail
  refine bodyPost_ret (v := .agg #[.int .i64 (a1 : Int), .int .i64 (b2 : Int), .string (a3 ++ s.extract a2 b1 ++ b3)]) (by simp [results, Try.results46, go_sem, r0, r1, r2]) rfl ?_
  exact ⟨rfl, by repeat (first | exact Below.refl _ _ | refine below_drewN ?_ _ | apply Below.setCell _ (by first | omega | (simp <;> omega)) | apply Below.alloc _ (by first | omega | (simp <;> omega)) | exact bel | refine after ?_ bel)⟩

set_option maxHeartbeats 1000000 in
theorem fresh_any (src : Option Addr) (n cap : Nat) (l : List IEd) (w : World) (hl : l.length = n) (hn : n ≤ 4096) (ht : ∀ e ∈ l, e.2.2.size ≤ 65536) (hr : EdsIn w src l) :
    Calls Try.prog 44 #[.slice src n cap] w fun e w' => ∃ g, e = .returned (.slice (some ⟨g, 0, none⟩) n n) ∧ Below w.heap.size w w' ∧ w.heap.size ≤ g ∧ g < w'.heap.size ∧ (∀ j, w'.frozen? ⟨g, j, none⟩ = false) ∧ RowE w' g n (fun j => l.getD j noEd) := by
  obtain ⟨W1, hmk, hb1, hs1, hz1, hf1, ht1⟩ := made_edits n w (by omega)
  obtain ⟨W2, hcp, hb2, hs2, hrow, hout, hf2, ht2⟩ := copied_edits W1 w.heap.size n src n cap l hl (Nat.le_refl _) (hr.step hb1) hz1 hf1
  have HB := Lib.hid (hb2 _ _ (Nat.le_refl _) hb1)
  have HS : w.heap.size < W2.heap.size := by omega
  have HL := Lib.hid hl
  have HT := Lib.hid ht
  have HF := Lib.hid hf2
  have HR : Hid (RowE W2 w.heap.size n (fun j => l.getD j noEd)) := Lib.hid (fun i hi => by
    have := hrow i (by omega)
    dsimp only
    rw [getE l i (by omega)]
    simpa using this)
  obtain ⟨g, hg⟩ : ∃ g, g = w.heap.size := ⟨_, rfl⟩
  rw [← hg] at hmk hcp HS HF HR
  have HG := Lib.hid hg
  have hg0 : w.heap.size ≤ g := by omega
  clear hr hl ht hb1 hb2 hrow hout hf1 hf2 hz1 hs1 hs2 ht1 ht2 hg
  go_enter Try.func44, Try.ntmps44
  go_wp2_with fail
  go_loopw [13] (fun i wr => ∃ k : Nat, k ≤ n ∧ i = .int .i64 k ∧ Below w.heap.size w wr ∧ g < wr.heap.size ∧ (∀ j, wr.frozen? ⟨g, j, none⟩ = false) ∧ RowE wr g n (fun j => l.getD j noEd)) (fun i _ => n - (intOf i).toNat)
  case atStart => exact ⟨0, Nat.zero_le _, rfl, HB.out, HS, HF.out, HR.out⟩
  case round =>
    clear HB HS HF HR
    obtain ⟨k, hk, rfl, hbel, hgw, hfz, hrow⟩ := hrel
    have HB := Lib.hid hbel
    have HF := Lib.hid hfz
    have HR := Lib.hid hrow
    by_cases hlt : k < n
    · obtain ⟨c0, c1, c2⟩ := hrow k hlt
      have x3s : (l.getD k noEd).2.2.size ≤ 281474976710656 := by
        rw [getE l k (by have := HL.out; omega)]
        have := HT.out _ (List.getElem_mem (show k < l.length by have := HL.out; omega))
        omega
      have HX : Hid (∀ j, (fun j => l.getD j noEd) j = l.getD j noEd) := Lib.hid (fun _ => rfl)
      clear hbel hfz hrow
      dsimp only at c0 c1 c2
      have HD := Lib.hid (show ((l.getD k noEd).1, (l.getD k noEd).2.1, (l.getD k noEd).2.2) = l.getD k noEd from rfl)
      have HK : Hid ((fun j => l.getD j noEd) k = l.getD k noEd) := Lib.hid rfl
      generalize hx : l.getD k noEd = x at *
      have HX2 := Lib.hid hx
      clear hx
      obtain ⟨x1, x2, x3⟩ := x
      dsimp only at c0 c1 c2 x3s
      go_wp2_with fail
      refine (clone_any _ _ x3s).mono ?_
      rintro e w2 ⟨rfl, h12⟩
      have R2 := Lib.hid (HR.out.step h12 hgw)
      have F2 := Lib.hid (fun j => ((bcell h12).2 g j hgw).trans (HF.out j))
      have B2 := Lib.hid (after HB.out h12)
      have hgw2 : g < w2.heap.size := Nat.lt_of_lt_of_le hgw h12.size
      obtain ⟨y0, y1, y2⟩ := R2.out k hlt
      have f5 := F2.out (k * 3 + 2)
      clear h12 y0 y1 c0 c1 c2
      go_wp2_with fail
      go_roundw
      case rel =>
        refine ⟨k + 1, by omega, by go_num, B2.out.setCell hg0 _, by simpa [World.setCell] using hgw2, fun j => by rw [World.frozen?_setCell]; exact F2.out j, (R2.out.set2 k hlt x3).cong fun i hi => ?_⟩
        by_cases hq : i = k
        · subst hq; simp only [if_true]; rw [HX2.out]
        · simp only [if_neg hq]
      case measure => simp [intOf]; omega
    · have hk' : k = n := by omega
      subst hk'
      go_wp2_with fail
      go_ret
      exact ⟨g, rfl, hbel, hg0, hgw, hfz, hrow⟩

end Go.Proofs.Ytdhbcmbajbgblaa
