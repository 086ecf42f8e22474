/- For any two programs and any whole number, TreeForms returns true, and for any program TreeErases does; both leave their arguments as they were. -/
import Derived.Test.YtfalgnapghienaaGreatDoorTrFormD
import Derived.Test.YtfalgnapghienaaGreatDoorTrBareB
import Derived.Test.YtfalgnapghienaaGreatDoorTrEraseF
import Derived.Test.YtfalgnapghienaaGreatDoorTrRAll
import Derived.Test.YtfalgnapghienaaGreatDoorTrRefN
import Derived.Test.YtfalgnapghienaaGreatDoorTrChkAll
import Derived.Test.YtfalgnapghienaaGreatDoorTrRCheck
import Derived.Test.YtfalgnapghienaaGreatDoorTrGrow
import Derived.Test.YtfalgnapghienaaGreatDoorTrFrame
import Derived.OrdersHeld
namespace Go.Proofs.YtfalgnapghienaaGreatDoor
open Go Go.RowKit
set_option linter.unusedVariables false
set_option linter.unusedSimpArgs false

theorem bareX_sm {x : Nd} (h : NdSm x) : NdSm (bareX x) := ⟨h.num, h.text, h.N, by show (blankT x.M.size).size ≤ 60; rw [blankT_size]; exact h.M, h.kids, h.ends⟩
theorem bareX_shaped {x : Nd} (h : shapedE x = 0) : shapedE (bareX x) = 0 := by
  obtain ⟨h1, h2, h4, h5, h6⟩ := shaped_parts h
  have h3 := shaped_most h
  refine shaped_mk (x := bareX x) h1 h2 h3 h4 ?_ (fun ht => right_blank (h6 ht))
  rcases h5 with h5 | h5
  · refine .inl ?_
    unfold zeroT at h5 ⊢
    show decide (x.B = 0 ∧ x.N.size = 0 ∧ x.D = 0 ∧ (blankT x.M.size).size = 0) = true
    rw [blankT_size]; exact h5
  · exact .inr h5
theorem headX_size (x : Nd) (hs : NdSm x) (h : shapedE x = 0) : (headS goPen (bareX x)).size ≤ 3000 := head_size (bareX x) (bareX_sm hs) (bareX_shaped h)
theorem first_cons2 {l : List Nd} {root : Int} (P : ProgOk l root) {a : Nat} (ha : a < l.length) (h : l[a].kind = 40 ∨ l[a].kind = 41 ∨ l[a].kind = 43 ∨ l[a].kind = 44 ∨ l[a].kind = 45) :
    firstKid l a < a ∧ (walkS l (firstKid l a)).length + 1 ≤ (walkS l a).length := by
  refine ⟨strict_kid P ha h, ?_⟩
  obtain ⟨k, -, hk⟩ := one_kid P ha h
  rw [walk_eq P ha]
  unfold firstKid
  rw [hk]
  simp
theorem bare_size {l : List Nd} {root : Int} (P : ProgOk l root) (hf : ∀ x ∈ l, NdSm x) : ∀ a, a < l.length → (bareS goPen l a).size + 1 ≤ 4000 * (walkS l a).length := by
  intro a
  induction a using Nat.strongRecOn with
  | _ a ih =>
    intro ha
    have hw : 1 ≤ (walkS l a).length := by rw [walk_eq P ha]; simp
    rw [bare_eq goPen P ha]
    by_cases h1 : l[a].kind = 40 ∨ l[a].kind = 41 ∨ l[a].kind = 45
    · rw [if_pos h1]
      obtain ⟨h2, h3⟩ := first_cons2 P ha (by omega)
      have := ih _ h2 (by omega)
      omega
    · rw [if_neg h1]
      by_cases h2 : l[a].kind = 42
      · rw [if_pos h2]
        have : ((⟨#[40]⟩ : ByteArray) ++ ⟨#[110, 117, 108, 108]⟩ ++ ⟨#[41]⟩).size = 6 := rfl
        rw [this]; omega
      · rw [if_neg h2]
        by_cases h3 : l[a].kind = 43
        · rw [if_pos h3]
          obtain ⟨h4, h5⟩ := first_cons2 P ha (by omega)
          have := ih _ h4 (by omega)
          simp only [ByteArray.size_append]
          have e1 : (⟨#[40]⟩ : ByteArray).size = 1 := rfl
          have e2 : (⟨#[98, 105, 110, 97, 114, 121]⟩ : ByteArray).size = 6 := rfl
          have e3 : (⟨#[32, 34, 33, 61, 34, 32]⟩ : ByteArray).size = 6 := rfl
          have e4 : (⟨#[32, 40, 110, 117, 108, 108, 41, 41]⟩ : ByteArray).size = 8 := rfl
          omega
        · rw [if_neg h3]
          by_cases h4 : l[a].kind = 44
          · rw [if_pos h4]
            obtain ⟨h4, h5⟩ := first_cons2 P ha (by omega)
            have := ih _ h4 (by omega)
            simp only [ByteArray.size_append]
            have e1 : (⟨#[40]⟩ : ByteArray).size = 1 := rfl
            have e2 : (⟨#[98, 105, 110, 97, 114, 121]⟩ : ByteArray).size = 6 := rfl
            have e3 : (⟨#[32, 34, 61, 61, 34, 32]⟩ : ByteArray).size = 6 := rfl
            have e4 : (⟨#[32, 40, 110, 117, 108, 108, 41, 41]⟩ : ByteArray).size = 8 := rfl
            omega
          · rw [if_neg h4, walk_eq P ha, ByteArray.size_append, lit1.2.2]
            have h1 := sum_flat (walkS l) (bareS goPen l) 4000 (kidsOf l a) (headS goPen (bareX l[a])) (fun k hk => by
              have := kidsOf_lt P ha hk
              exact ih k this (by omega))
            have h2 := headX_size l[a] (hf _ (List.getElem_mem ha)) (P.shaped a ha)
            rw [List.length_cons]
            omega
theorem bare_small {l : List Nd} {root : Int} (P : ProgOk l root) (hf : ∀ x ∈ l, NdSm x) (a : Nat) (ha : a < l.length) : (bareS goPen l a).size ≤ 70368744177664 := by
  have h1 := bare_size P hf a ha
  have h2 := nodup_len l.length (walkS l a) (walk_once P a ha) (fun x hx => by have := walk_le P a ha x hx; omega)
  have h3 := P.long
  omega
end Go.Proofs.YtfalgnapghienaaGreatDoor
namespace Go.Proofs.YtfalgnapghienaaGreatDoor
open Go Go.RowKit
set_option linter.unusedVariables false
set_option linter.unusedSimpArgs false

/-- the form's two boxes: the program's and the node's -/
structure FB (w0 : World) (nv : Value) (root : Int) (cs : List Value) (w : World) : Prop where
  bel : Below w0.heap.size w0 w
  t : Bx 24 w w0.heap.size [nv, .int .i64 root]
  n : BoxN w (w0.heap.size + 1) cs
theorem FB.keep {w0 w w1 : World} {nv : Value} {root : Int} {cs : List Value} (h : FB w0 nv root cs w) (hb : Below w.heap.size w w1) : FB w0 nv root cs w1 := ⟨after h.bel hb, h.t.keep hb, h.n.keep hb⟩
theorem FB.new (w0 : World) (nv : Value) (root : Int) (cs : Array Value) : FB w0 nv root cs.toList ((w0.alloc (.cells #[nv, .int .i64 root] 24)).alloc (.cells cs 46)) := by
  refine ⟨((Below.refl _ _).alloc (Nat.le_refl _) _).alloc (by simp) _, (Bx.new 24 w0 #[nv, .int .i64 root]).alloc _, ?_⟩
  have := BoxN.new (w0.alloc (.cells #[nv, .int .i64 root] 24)) cs
  simpa using this
theorem FB.all {w0 w : World} {nv : Value} {root : Int} {v0 v1 v2 v3 v4 v5 v6 v7 v8 v9 v10 v11 v12 : Value} (h : FB w0 nv root [v0, v1, v2, v3, v4, v5, v6, v7, v8, v9, v10, v11, v12] w) :
    (w.cell? ⟨w0.heap.size, 0, none⟩ = some nv ∧ w.cell? ⟨w0.heap.size, 1, none⟩ = some (.int .i64 root)) ∧ (w.cell? ⟨w0.heap.size + 1, 0, none⟩ = some v0 ∧ w.cell? ⟨w0.heap.size + 1, 3, none⟩ = some v3 ∧ w.cell? ⟨w0.heap.size + 1, 4, none⟩ = some v4 ∧ w.cell? ⟨w0.heap.size + 1, 5, none⟩ = some v5 ∧ w.cell? ⟨w0.heap.size + 1, 6, none⟩ = some v6 ∧ w.cell? ⟨w0.heap.size + 1, 7, none⟩ = some v7 ∧ w.cell? ⟨w0.heap.size + 1, 8, none⟩ = some v8 ∧ w.cell? ⟨w0.heap.size + 1, 9, none⟩ = some v9) ∧ (w0.heap.size < w.heap.size ∧ w0.heap.size + 1 < w.heap.size) ∧ ∀ j, w.frozen? ⟨w0.heap.size + 1, j, none⟩ = false :=
  ⟨⟨h.t.cell 0, h.t.cell 1⟩, ⟨h.n.cell 0, h.n.cell 3, h.n.cell 4, h.n.cell 5, h.n.cell 6, h.n.cell 7, h.n.cell 8, h.n.cell 9⟩, ⟨h.t.lt, h.n.lt⟩, fun j => (Bx.frozen (T := 46) h.n j)⟩
theorem FB.mark {w0 w : World} {nv : Value} {root : Int} {v0 v1 v2 v3 v4 v5 v6 v7 v8 v9 v10 v11 v12 : Value} (h : FB w0 nv root [v0, v1, v2, v3, v4, v5, v6, v7, v8, v9, v10, v11, v12] w) (x : Value) :
    FB w0 nv root [v0, v1, v2, v3, v4, v5, v6, v7, x, v9, v10, v11, v12] ((((w.setCell ⟨w0.heap.size + 1, 5, none⟩ v5).setCell ⟨w0.heap.size + 1, 6, none⟩ v6).setCell ⟨w0.heap.size + 1, 7, none⟩ v7).setCell ⟨w0.heap.size + 1, 8, none⟩ x) := by
  have hb : ∀ (u : World) (o : Nat) (y : Value), Below w0.heap.size w0 u → Below w0.heap.size w0 (u.setCell ⟨w0.heap.size + 1, o, none⟩ y) := fun u o y hu => hu.setCell (p := ⟨w0.heap.size + 1, o, none⟩) (Nat.le_succ _) y
  refine ⟨hb _ _ _ (hb _ _ _ (hb _ _ _ (hb _ _ _ h.bel))), ?_, ?_⟩
  · exact (((h.t.other (by omega) 5 _).other (by omega) 6 _).other (by omega) 7 _).other (by omega) 8 _
  · exact (((h.n.set 5 v5).set 6 v6).set 7 v7).set 8 x
theorem kidsTo_pre (F : Nat → ByteArray) (K : List Nat) (h : ByteArray) (j : Nat) : h.size ≤ (kidsTo F K h j).size := by
  unfold kidsTo
  generalize K.take j = l
  induction l generalizing h with
  | nil => exact Nat.le_refl _
  | cons x l ih =>
    rw [List.foldl_cons]
    have := ih (h ++ ⟨#[32]⟩ ++ F x)
    simp only [ByteArray.size_append] at this
    omega

set_option maxRecDepth 100000 in
set_option maxHeartbeats 4000000 in
theorem rf_nff (w : World) (b off n cap : Nat) (root : Int) (a k : Nat) (sf st : Int) (ks : Option Addr) (K : List Int) (kc : Nat) (text : ByteArray) (B : Int) (N : ByteArray) (D : Int) (M : ByteArray) (num wf wt : Int) (es : Option Addr) (en ec : Nat) (nm : ByteArray) (F : Nat → ByteArray) (h : ByteArray)
    (c0 : w.cell? ⟨b, off + a * 13, none⟩ = some (.int .i64 (k : Int))) (c1 : w.cell? ⟨b, off + a * 13 + 1, none⟩ = some (.int .i64 sf)) (c2 : w.cell? ⟨b, off + a * 13 + 2, none⟩ = some (.int .i64 st)) (c3 : w.cell? ⟨b, off + a * 13 + 3, none⟩ = some (.slice ks K.length kc)) (c4 : w.cell? ⟨b, off + a * 13 + 4, none⟩ = some (.string text)) (c5 : w.cell? ⟨b, off + a * 13 + 5, none⟩ = some (.int .i64 B)) (c6 : w.cell? ⟨b, off + a * 13 + 6, none⟩ = some (.string N)) (c7 : w.cell? ⟨b, off + a * 13 + 7, none⟩ = some (.int .i64 D)) (c8 : w.cell? ⟨b, off + a * 13 + 8, none⟩ = some (.string M)) (c9 : w.cell? ⟨b, off + a * 13 + 9, none⟩ = some (.int .i64 num)) (c10 : w.cell? ⟨b, off + a * 13 + 10, none⟩ = some (.int .i64 wf)) (c11 : w.cell? ⟨b, off + a * 13 + 11, none⟩ = some (.int .i64 wt)) (c12 : w.cell? ⟨b, off + a * 13 + 12, none⟩ = some (.slice es en ec)) (hb : b < w.heap.size) (ha : a < n) (hn : n ≤ 70368744177664) (hks : NumsIn w ks K) (hK : ∀ q ∈ K, 0 ≤ q) (hKl : K.length ≤ 17592186044416) (hT : Tabs w) (h0 : 0 < k) (h1 : k < 46) (hnm : nmS (k : Int) = nm) (hns : nm.size ≤ 20)
    (hF : ∀ q ∈ K, ∀ w2, Below w.heap.size w w2 → Calls Tryz.prog 15 #[.agg #[.slice (some ⟨b, off, none⟩) n cap, .int .i64 root], .int .i64 q, .bool false] w2 fun e w' => e = .returned (.string (F q.toNat)) ∧ Below w2.heap.size w2 w')
    (hsz : (kidsTo F (K.map Int.toNat) h K.length).size + 1 ≤ 70368744177664)
    (htx : rtextB (k : Int) = false) (hty : rtypedB (k : Int) = false) (hn19 : ¬ k = 19) (hn21 : ¬ k = 21) (hh : h = (⟨#[40]⟩ ++ nm)) :
    Calls Tryz.prog 15 #[.agg #[.slice (some ⟨b, off, none⟩) n cap, .int .i64 root], .int .i64 (a : Nat), .bool false] w fun e w' => e = .returned (.string (kidsTo F (K.map Int.toNat) h K.length ++ ⟨#[41]⟩)) ∧ Below w.heap.size w w' := by
  have HT : Hid (∀ w2 : World, Below w.heap.size w w2 → Tabs w2) := Lib.hid (fun w2 h2 => hT.step h2)
  have HH := Lib.hid hh
  have HF := Lib.hid hF
  have HKS := Lib.hid hks
  have HKN := Lib.hid hK
  have HSZ := Lib.hid hsz
  have hpre := kidsTo_pre F (K.map Int.toNat) h K.length
  obtain ⟨lt1, lt2, lt3⟩ := lit1
  have HP : Hid (h.size = (1 + nm.size)) := Lib.hid (by rw [hh]; simp only [ByteArray.size_append, lt1, lt2])
  have g0 : h.size ≤ 70368744177664 := by omega
  have HG := Lib.hid g0
  have HNM := Lib.hid hnm
  have D0 := Lib.hid (FB.new w (.slice (some ⟨b, off, none⟩) n cap) root #[.int .i64 (k : Int), .int .i64 sf, .int .i64 st, .slice ks K.length kc, .string text, .int .i64 B, .string N, .int .i64 D, .string M, .int .i64 num, .int .i64 wf, .int .i64 wt, .slice es en ec])
  obtain ⟨W0, hW0⟩ : ∃ W0, W0 = (w.alloc (.cells #[.slice (some ⟨b, off, none⟩) n cap, .int .i64 root] 24)).alloc (.cells #[.int .i64 (k : Int), .int .i64 sf, .int .i64 st, .slice ks K.length kc, .string text, .int .i64 B, .string N, .int .i64 D, .string M, .int .i64 num, .int .i64 wf, .int .i64 wt, .slice es en ec] 46) := ⟨_, rfl⟩
  rw [← hW0] at D0
  have HW0 := Lib.hid hW0
  have k19 : ((k : Int) == 19) = false := by simp; omega
  have k21 : ((k : Int) == 21) = false := by simp; omega
  have HTX := Lib.hid (fun w2 => rtext_any (k : Int) w2)
  have HTY := Lib.hid (fun w2 => rtyped_any (k : Int) w2)
  rw [htx] at HTX
  rw [hty] at HTY
  have HRN := Lib.hid (fun w2 => rname_any (k : Int) w2)
  rw [hnm] at HRN
  clear hT hh hF hks hK hpre hW0 htx hty hnm hsz g0
  go_enter Tryz.func15, Tryz.ntmps15
  go_wp2_with fail
  try rw [← HW0.out]
  clear HW0 c0 c1 c2 c3 c4 c5 c6 c7 c8 c9 c10 c11 c12
  obtain ⟨⟨e0, e1⟩, ⟨a0, a3, a4, a5, a6, a7, a8, a9⟩, ⟨al, am⟩, af⟩ := D0.out.all
  refine (HRN.out _).mono ?_
  rintro e w1 ⟨rfl, q1⟩
  have D1 := Lib.hid (D0.out.keep q1)
  clear q1
  clear e0 e1 a0 a3 a4 a5 a6 a7 a8 a9 al am af
  clear D0
  obtain ⟨⟨e0, e1⟩, ⟨a0, a3, a4, a5, a6, a7, a8, a9⟩, ⟨al, am⟩, af⟩ := D1.out.all
  have s0 : ¬ 9223372036854775807 < 1 + nm.size := by omega
  go_wp2_with fail
  refine (HTX.out _).mono ?_
  rintro e w101 ⟨rfl, rfl⟩
  clear e0 e1 a0 a3 a4 a5 a6 a7 a8 a9 al am af
  obtain ⟨⟨e0, e1⟩, ⟨a0, a3, a4, a5, a6, a7, a8, a9⟩, ⟨al, am⟩, af⟩ := D1.out.all
  go_wp2_with fail
  refine (HTY.out _).mono ?_
  rintro e w102 ⟨rfl, rfl⟩
  clear e0 e1 a0 a3 a4 a5 a6 a7 a8 a9 al am af
  obtain ⟨⟨e0, e1⟩, ⟨a0, a3, a4, a5, a6, a7, a8, a9⟩, ⟨al, am⟩, af⟩ := D1.out.all
  go_wp2_with fail
  have E0 : Hid (((⟨#[40]⟩ : ByteArray) ++ nm) = kidsTo F (K.map Int.toNat) h 0) := Lib.hid (by show _ = h; rw [HH.out])
  obtain ⟨m, hm⟩ : ∃ m, K.length = m := ⟨_, rfl⟩
  have HM := Lib.hid hm
  rw [hm] at hKl ⊢
  clear hm
  rw [HM.out] at a3 HSZ D1
  try rw [E0.out]
  clear E0
  clear e0 e1 a0 a3 a4 a5 a6 a7 a8 a9 al am af
  go_loopw [8, 97] (fun s i wr => ∃ j : Nat, j ≤ m ∧ i = .int .i64 j ∧ s = .string (kidsTo F (K.map Int.toNat) h j) ∧ FB w (.slice (some ⟨b, off, none⟩) n cap) root [.int .i64 (k : Int), .int .i64 sf, .int .i64 st, .slice ks m kc, .string text, .int .i64 B, .string N, .int .i64 D, .string M, .int .i64 num, .int .i64 wf, .int .i64 wt, .slice es en ec] wr) (fun _ i _ => m - (intOf i).toNat)
  case atStart => exact ⟨0, Nat.zero_le _, rfl, rfl, D1.out⟩
  case round =>
    clear D1
    obtain ⟨j, hj, rfl, rfl, hd⟩ := hrel
    have HD9 := Lib.hid hd
    clear hd
    have hle : (kidsTo F (K.map Int.toNat) h j).size ≤ (kidsTo F (K.map Int.toNat) h m).size := by have := kidsTo_leI F K h j; rw [HM.out] at this; exact this
    have HLE : Hid ((kidsTo F (K.map Int.toNat) h j).size + 1 ≤ 70368744177664) := Lib.hid (by have := HSZ.out; omega)
    clear hle
    obtain ⟨⟨e0, e1⟩, ⟨a0, a3, a4, a5, a6, a7, a8, a9⟩, ⟨al, am⟩, af⟩ := HD9.out.all
    by_cases hlt : j < m
    · have hjK : j < K.length := by have := HM.out; omega
      obtain ⟨kb, koff, rfl, hkb, hkrow⟩ := HKS.out (by omega)
      have ek := keep HD9.out.bel hkb (hkrow j hjK)
      have hnat := HKN.out _ (List.getElem_mem hjK)
      have HREC := Lib.hid (HF.out _ (List.getElem_mem hjK))
      have HST : Hid (kidsTo F (K.map Int.toNat) h (j + 1) = kidsTo F (K.map Int.toNat) h j ++ ⟨#[32]⟩ ++ F K[j].toNat) := Lib.hid (by
        rw [kidsTo_succ F _ h j (by simpa using hjK)]; simp)
      have HS2 : Hid ((kidsTo F (K.map Int.toNat) h j).size + (1 + (F K[j].toNat).size) ≤ 70368744177664) := Lib.hid (by
        have h1 := kidsTo_leI F K h (j + 1)
        have h2 := HSZ.out
        rw [HST.out, HM.out] at h1
        simp only [ByteArray.size_append, lt1] at h1
        omega)
      clear hkrow
      generalize K[j] = kj at *
      generalize kidsTo F (K.map Int.toNat) h j = x at *
      generalize F kj.toNat = y at *
      go_wp2_with fail
      refine (HREC.out _ HD9.out.bel).mono ?_
      rintro e w50 ⟨rfl, q50⟩
      have D50 := Lib.hid (HD9.out.keep q50)
      clear q50 HREC ek
      clear e0 e1 a0 a3 a4 a5 a6 a7 a8 a9 al am af
      have z1 : ¬ 9223372036854775807 < 1 + y.size := by have := HS2.out; omega
      have z2 : ¬ 9223372036854775807 < x.size + ((⟨#[32]⟩ : ByteArray) ++ y).size := by simp only [ByteArray.size_append, lt1]; have := HS2.out; omega
      go_wp2_with fail
      go_roundw
      case rel => exact ⟨j + 1, by omega, by go_num, by rw [HST.out, ByteArray.append_assoc], D50.out⟩
      case measure => simp [intOf]; omega
    · have hj' : j = m := by omega
      subst hj'
      generalize hx : kidsTo F (K.map Int.toNat) h j = x at *
      have HX := Lib.hid hx
      clear hx
      have z1 : ¬ 9223372036854775807 < x.size + (⟨#[41]⟩ : ByteArray).size := by rw [lt3]; have := HLE.out; omega
      have z2 : ¬ 9223372036854775807 < x.size + 1 := by have := HLE.out; omega
      go_wp2_with fail
      go_ret
      exact ⟨by rw [HM.out, HX.out]; rfl, HD9.out.bel⟩

set_option maxRecDepth 100000 in
set_option maxHeartbeats 4000000 in
theorem rf_nf19 (w : World) (b off n cap : Nat) (root : Int) (a : Nat) (sf st : Int) (ks : Option Addr) (K : List Int) (kc : Nat) (text : ByteArray) (B : Int) (N : ByteArray) (D : Int) (M : ByteArray) (num wf wt : Int) (es : Option Addr) (en ec : Nat) (nm : ByteArray) (F : Nat → ByteArray) (h : ByteArray)
    (c0 : w.cell? ⟨b, off + a * 13, none⟩ = some (.int .i64 19)) (c1 : w.cell? ⟨b, off + a * 13 + 1, none⟩ = some (.int .i64 sf)) (c2 : w.cell? ⟨b, off + a * 13 + 2, none⟩ = some (.int .i64 st)) (c3 : w.cell? ⟨b, off + a * 13 + 3, none⟩ = some (.slice ks K.length kc)) (c4 : w.cell? ⟨b, off + a * 13 + 4, none⟩ = some (.string text)) (c5 : w.cell? ⟨b, off + a * 13 + 5, none⟩ = some (.int .i64 B)) (c6 : w.cell? ⟨b, off + a * 13 + 6, none⟩ = some (.string N)) (c7 : w.cell? ⟨b, off + a * 13 + 7, none⟩ = some (.int .i64 D)) (c8 : w.cell? ⟨b, off + a * 13 + 8, none⟩ = some (.string M)) (c9 : w.cell? ⟨b, off + a * 13 + 9, none⟩ = some (.int .i64 num)) (c10 : w.cell? ⟨b, off + a * 13 + 10, none⟩ = some (.int .i64 wf)) (c11 : w.cell? ⟨b, off + a * 13 + 11, none⟩ = some (.int .i64 wt)) (c12 : w.cell? ⟨b, off + a * 13 + 12, none⟩ = some (.slice es en ec)) (hb : b < w.heap.size) (ha : a < n) (hn : n ≤ 70368744177664) (hks : NumsIn w ks K) (hK : ∀ q ∈ K, 0 ≤ q) (hKl : K.length ≤ 17592186044416) (hT : Tabs w) (hnm : nmS 19 = nm) (hns : nm.size ≤ 20)
    (hF : ∀ q ∈ K, ∀ w2, Below w.heap.size w w2 → Calls Tryz.prog 15 #[.agg #[.slice (some ⟨b, off, none⟩) n cap, .int .i64 root], .int .i64 q, .bool false] w2 fun e w' => e = .returned (.string (F q.toNat)) ∧ Below w2.heap.size w2 w')
    (hsz : (kidsTo F (K.map Int.toNat) h K.length).size + 1 ≤ 70368744177664)
    (htx : rtextB 19 = false) (hty : rtypedB 19 = false) (hnum : -9223372036854775808 ≤ num ∧ num ≤ 9223372036854775807) (hh : h = (⟨#[40]⟩ ++ nm) ++ (⟨#[32]⟩ ++ goPen.dec num)) :
    Calls Tryz.prog 15 #[.agg #[.slice (some ⟨b, off, none⟩) n cap, .int .i64 root], .int .i64 (a : Nat), .bool false] w fun e w' => e = .returned (.string (kidsTo F (K.map Int.toNat) h K.length ++ ⟨#[41]⟩)) ∧ Below w.heap.size w w' := by
  have HT : Hid (∀ w2 : World, Below w.heap.size w w2 → Tabs w2) := Lib.hid (fun w2 h2 => hT.step h2)
  have HH := Lib.hid hh
  have HF := Lib.hid hF
  have HKS := Lib.hid hks
  have HKN := Lib.hid hK
  have HSZ := Lib.hid hsz
  have hpre := kidsTo_pre F (K.map Int.toNat) h K.length
  obtain ⟨lt1, lt2, lt3⟩ := lit1
  have HP : Hid (h.size = (1 + nm.size) + (1 + (goPen.dec num).size)) := Lib.hid (by rw [hh]; simp only [ByteArray.size_append, lt1, lt2])
  have g0 : h.size ≤ 70368744177664 := by omega
  have HG := Lib.hid g0
  have HNM := Lib.hid hnm
  have HD := Lib.hid (fun w2 h2 => dec_any num w2 (HT.out w2 h2) hnum.1 hnum.2)
  generalize goPen.dec num = dt at *
  have D0 := Lib.hid (FB.new w (.slice (some ⟨b, off, none⟩) n cap) root #[.int .i64 19, .int .i64 sf, .int .i64 st, .slice ks K.length kc, .string text, .int .i64 B, .string N, .int .i64 D, .string M, .int .i64 num, .int .i64 wf, .int .i64 wt, .slice es en ec])
  obtain ⟨W0, hW0⟩ : ∃ W0, W0 = (w.alloc (.cells #[.slice (some ⟨b, off, none⟩) n cap, .int .i64 root] 24)).alloc (.cells #[.int .i64 19, .int .i64 sf, .int .i64 st, .slice ks K.length kc, .string text, .int .i64 B, .string N, .int .i64 D, .string M, .int .i64 num, .int .i64 wf, .int .i64 wt, .slice es en ec] 46) := ⟨_, rfl⟩
  rw [← hW0] at D0
  have HW0 := Lib.hid hW0
  have HTX := Lib.hid (fun w2 => rtext_any 19 w2)
  have HTY := Lib.hid (fun w2 => rtyped_any 19 w2)
  rw [htx] at HTX
  rw [hty] at HTY
  have HRN := Lib.hid (fun w2 => rname_any 19 w2)
  rw [hnm] at HRN
  clear hT hh hF hks hK hpre hW0 htx hty hnm hsz g0
  go_enter Tryz.func15, Tryz.ntmps15
  go_wp2_with fail
  try rw [← HW0.out]
  clear HW0 c0 c1 c2 c3 c4 c5 c6 c7 c8 c9 c10 c11 c12
  obtain ⟨⟨e0, e1⟩, ⟨a0, a3, a4, a5, a6, a7, a8, a9⟩, ⟨al, am⟩, af⟩ := D0.out.all
  refine (HRN.out _).mono ?_
  rintro e w1 ⟨rfl, q1⟩
  have D1 := Lib.hid (D0.out.keep q1)
  clear q1
  clear e0 e1 a0 a3 a4 a5 a6 a7 a8 a9 al am af
  clear D0
  obtain ⟨⟨e0, e1⟩, ⟨a0, a3, a4, a5, a6, a7, a8, a9⟩, ⟨al, am⟩, af⟩ := D1.out.all
  have s0 : ¬ 9223372036854775807 < 1 + nm.size := by omega
  go_wp2_with fail
  refine (HTX.out _).mono ?_
  rintro e w101 ⟨rfl, rfl⟩
  clear e0 e1 a0 a3 a4 a5 a6 a7 a8 a9 al am af
  obtain ⟨⟨e0, e1⟩, ⟨a0, a3, a4, a5, a6, a7, a8, a9⟩, ⟨al, am⟩, af⟩ := D1.out.all
  go_wp2_with fail
  refine (HTY.out _).mono ?_
  rintro e w102 ⟨rfl, rfl⟩
  clear e0 e1 a0 a3 a4 a5 a6 a7 a8 a9 al am af
  obtain ⟨⟨e0, e1⟩, ⟨a0, a3, a4, a5, a6, a7, a8, a9⟩, ⟨al, am⟩, af⟩ := D1.out.all
  go_wp2_with fail
  refine (HD.out _ D1.out.bel).mono ?_
  rintro e w4 ⟨rfl, q4⟩
  have D2 := Lib.hid (D1.out.keep q4)
  clear q4
  clear e0 e1 a0 a3 a4 a5 a6 a7 a8 a9 al am af
  clear D1
  obtain ⟨⟨e0, e1⟩, ⟨a0, a3, a4, a5, a6, a7, a8, a9⟩, ⟨al, am⟩, af⟩ := D2.out.all
  have s3 : ¬ 9223372036854775807 < 1 + dt.size := by have := HP.out; have := HG.out; omega
  have t3 : ¬ 9223372036854775807 < ((⟨#[40]⟩ : ByteArray) ++ nm).size + ((⟨#[32]⟩ : ByteArray) ++ dt).size := by simp only [ByteArray.size_append, lt1, lt2]; have := HP.out; have := HG.out; omega
  go_wp2_with fail
  have E0 : Hid ((((⟨#[40]⟩ : ByteArray) ++ nm) ++ ((⟨#[32]⟩ : ByteArray) ++ dt)) = kidsTo F (K.map Int.toNat) h 0) := Lib.hid (by show _ = h; rw [HH.out])
  obtain ⟨m, hm⟩ : ∃ m, K.length = m := ⟨_, rfl⟩
  have HM := Lib.hid hm
  rw [hm] at hKl ⊢
  clear hm
  rw [HM.out] at a3 HSZ D2
  try rw [E0.out]
  clear E0
  clear e0 e1 a0 a3 a4 a5 a6 a7 a8 a9 al am af
  go_loopw [8, 97] (fun s i wr => ∃ j : Nat, j ≤ m ∧ i = .int .i64 j ∧ s = .string (kidsTo F (K.map Int.toNat) h j) ∧ FB w (.slice (some ⟨b, off, none⟩) n cap) root [.int .i64 19, .int .i64 sf, .int .i64 st, .slice ks m kc, .string text, .int .i64 B, .string N, .int .i64 D, .string M, .int .i64 num, .int .i64 wf, .int .i64 wt, .slice es en ec] wr) (fun _ i _ => m - (intOf i).toNat)
  case atStart => exact ⟨0, Nat.zero_le _, rfl, rfl, D2.out⟩
  case round =>
    clear D2
    obtain ⟨j, hj, rfl, rfl, hd⟩ := hrel
    have HD9 := Lib.hid hd
    clear hd
    have hle : (kidsTo F (K.map Int.toNat) h j).size ≤ (kidsTo F (K.map Int.toNat) h m).size := by have := kidsTo_leI F K h j; rw [HM.out] at this; exact this
    have HLE : Hid ((kidsTo F (K.map Int.toNat) h j).size + 1 ≤ 70368744177664) := Lib.hid (by have := HSZ.out; omega)
    clear hle
    obtain ⟨⟨e0, e1⟩, ⟨a0, a3, a4, a5, a6, a7, a8, a9⟩, ⟨al, am⟩, af⟩ := HD9.out.all
    by_cases hlt : j < m
    · have hjK : j < K.length := by have := HM.out; omega
      obtain ⟨kb, koff, rfl, hkb, hkrow⟩ := HKS.out (by omega)
      have ek := keep HD9.out.bel hkb (hkrow j hjK)
      have hnat := HKN.out _ (List.getElem_mem hjK)
      have HREC := Lib.hid (HF.out _ (List.getElem_mem hjK))
      have HST : Hid (kidsTo F (K.map Int.toNat) h (j + 1) = kidsTo F (K.map Int.toNat) h j ++ ⟨#[32]⟩ ++ F K[j].toNat) := Lib.hid (by
        rw [kidsTo_succ F _ h j (by simpa using hjK)]; simp)
      have HS2 : Hid ((kidsTo F (K.map Int.toNat) h j).size + (1 + (F K[j].toNat).size) ≤ 70368744177664) := Lib.hid (by
        have h1 := kidsTo_leI F K h (j + 1)
        have h2 := HSZ.out
        rw [HST.out, HM.out] at h1
        simp only [ByteArray.size_append, lt1] at h1
        omega)
      clear hkrow
      generalize K[j] = kj at *
      generalize kidsTo F (K.map Int.toNat) h j = x at *
      generalize F kj.toNat = y at *
      go_wp2_with fail
      refine (HREC.out _ HD9.out.bel).mono ?_
      rintro e w50 ⟨rfl, q50⟩
      have D50 := Lib.hid (HD9.out.keep q50)
      clear q50 HREC ek
      clear e0 e1 a0 a3 a4 a5 a6 a7 a8 a9 al am af
      have z1 : ¬ 9223372036854775807 < 1 + y.size := by have := HS2.out; omega
      have z2 : ¬ 9223372036854775807 < x.size + ((⟨#[32]⟩ : ByteArray) ++ y).size := by simp only [ByteArray.size_append, lt1]; have := HS2.out; omega
      go_wp2_with fail
      go_roundw
      case rel => exact ⟨j + 1, by omega, by go_num, by rw [HST.out, ByteArray.append_assoc], D50.out⟩
      case measure => simp [intOf]; omega
    · have hj' : j = m := by omega
      subst hj'
      generalize hx : kidsTo F (K.map Int.toNat) h j = x at *
      have HX := Lib.hid hx
      clear hx
      have z1 : ¬ 9223372036854775807 < x.size + (⟨#[41]⟩ : ByteArray).size := by rw [lt3]; have := HLE.out; omega
      have z2 : ¬ 9223372036854775807 < x.size + 1 := by have := HLE.out; omega
      go_wp2_with fail
      go_ret
      exact ⟨by rw [HM.out, HX.out]; rfl, HD9.out.bel⟩

set_option maxRecDepth 100000 in
set_option maxHeartbeats 4000000 in
theorem rf_nf21 (w : World) (b off n cap : Nat) (root : Int) (a : Nat) (sf st : Int) (ks : Option Addr) (K : List Int) (kc : Nat) (text : ByteArray) (B : Int) (N : ByteArray) (D : Int) (M : ByteArray) (num wf wt : Int) (es : Option Addr) (en ec : Nat) (nm : ByteArray) (F : Nat → ByteArray) (h : ByteArray)
    (c0 : w.cell? ⟨b, off + a * 13, none⟩ = some (.int .i64 21)) (c1 : w.cell? ⟨b, off + a * 13 + 1, none⟩ = some (.int .i64 sf)) (c2 : w.cell? ⟨b, off + a * 13 + 2, none⟩ = some (.int .i64 st)) (c3 : w.cell? ⟨b, off + a * 13 + 3, none⟩ = some (.slice ks K.length kc)) (c4 : w.cell? ⟨b, off + a * 13 + 4, none⟩ = some (.string text)) (c5 : w.cell? ⟨b, off + a * 13 + 5, none⟩ = some (.int .i64 B)) (c6 : w.cell? ⟨b, off + a * 13 + 6, none⟩ = some (.string N)) (c7 : w.cell? ⟨b, off + a * 13 + 7, none⟩ = some (.int .i64 D)) (c8 : w.cell? ⟨b, off + a * 13 + 8, none⟩ = some (.string M)) (c9 : w.cell? ⟨b, off + a * 13 + 9, none⟩ = some (.int .i64 num)) (c10 : w.cell? ⟨b, off + a * 13 + 10, none⟩ = some (.int .i64 wf)) (c11 : w.cell? ⟨b, off + a * 13 + 11, none⟩ = some (.int .i64 wt)) (c12 : w.cell? ⟨b, off + a * 13 + 12, none⟩ = some (.slice es en ec)) (hb : b < w.heap.size) (ha : a < n) (hn : n ≤ 70368744177664) (hks : NumsIn w ks K) (hK : ∀ q ∈ K, 0 ≤ q) (hKl : K.length ≤ 17592186044416) (hT : Tabs w) (hnm : nmS 21 = nm) (hns : nm.size ≤ 20)
    (hF : ∀ q ∈ K, ∀ w2, Below w.heap.size w w2 → Calls Tryz.prog 15 #[.agg #[.slice (some ⟨b, off, none⟩) n cap, .int .i64 root], .int .i64 q, .bool false] w2 fun e w' => e = .returned (.string (F q.toNat)) ∧ Below w2.heap.size w2 w')
    (hsz : (kidsTo F (K.map Int.toNat) h K.length).size + 1 ≤ 70368744177664)
    (htx : rtextB 21 = false) (hty : rtypedB 21 = false) (hnum : -9223372036854775808 ≤ num ∧ num ≤ 9223372036854775807) (hh : h = (⟨#[40]⟩ ++ nm) ++ (⟨#[32]⟩ ++ goPen.dec num)) :
    Calls Tryz.prog 15 #[.agg #[.slice (some ⟨b, off, none⟩) n cap, .int .i64 root], .int .i64 (a : Nat), .bool false] w fun e w' => e = .returned (.string (kidsTo F (K.map Int.toNat) h K.length ++ ⟨#[41]⟩)) ∧ Below w.heap.size w w' := by
  have HT : Hid (∀ w2 : World, Below w.heap.size w w2 → Tabs w2) := Lib.hid (fun w2 h2 => hT.step h2)
  have HH := Lib.hid hh
  have HF := Lib.hid hF
  have HKS := Lib.hid hks
  have HKN := Lib.hid hK
  have HSZ := Lib.hid hsz
  have hpre := kidsTo_pre F (K.map Int.toNat) h K.length
  obtain ⟨lt1, lt2, lt3⟩ := lit1
  have HP : Hid (h.size = (1 + nm.size) + (1 + (goPen.dec num).size)) := Lib.hid (by rw [hh]; simp only [ByteArray.size_append, lt1, lt2])
  have g0 : h.size ≤ 70368744177664 := by omega
  have HG := Lib.hid g0
  have HNM := Lib.hid hnm
  have HD := Lib.hid (fun w2 h2 => dec_any num w2 (HT.out w2 h2) hnum.1 hnum.2)
  generalize goPen.dec num = dt at *
  have D0 := Lib.hid (FB.new w (.slice (some ⟨b, off, none⟩) n cap) root #[.int .i64 21, .int .i64 sf, .int .i64 st, .slice ks K.length kc, .string text, .int .i64 B, .string N, .int .i64 D, .string M, .int .i64 num, .int .i64 wf, .int .i64 wt, .slice es en ec])
  obtain ⟨W0, hW0⟩ : ∃ W0, W0 = (w.alloc (.cells #[.slice (some ⟨b, off, none⟩) n cap, .int .i64 root] 24)).alloc (.cells #[.int .i64 21, .int .i64 sf, .int .i64 st, .slice ks K.length kc, .string text, .int .i64 B, .string N, .int .i64 D, .string M, .int .i64 num, .int .i64 wf, .int .i64 wt, .slice es en ec] 46) := ⟨_, rfl⟩
  rw [← hW0] at D0
  have HW0 := Lib.hid hW0
  have HTX := Lib.hid (fun w2 => rtext_any 21 w2)
  have HTY := Lib.hid (fun w2 => rtyped_any 21 w2)
  rw [htx] at HTX
  rw [hty] at HTY
  have HRN := Lib.hid (fun w2 => rname_any 21 w2)
  rw [hnm] at HRN
  clear hT hh hF hks hK hpre hW0 htx hty hnm hsz g0
  go_enter Tryz.func15, Tryz.ntmps15
  go_wp2_with fail
  try rw [← HW0.out]
  clear HW0 c0 c1 c2 c3 c4 c5 c6 c7 c8 c9 c10 c11 c12
  obtain ⟨⟨e0, e1⟩, ⟨a0, a3, a4, a5, a6, a7, a8, a9⟩, ⟨al, am⟩, af⟩ := D0.out.all
  refine (HRN.out _).mono ?_
  rintro e w1 ⟨rfl, q1⟩
  have D1 := Lib.hid (D0.out.keep q1)
  clear q1
  clear e0 e1 a0 a3 a4 a5 a6 a7 a8 a9 al am af
  clear D0
  obtain ⟨⟨e0, e1⟩, ⟨a0, a3, a4, a5, a6, a7, a8, a9⟩, ⟨al, am⟩, af⟩ := D1.out.all
  have s0 : ¬ 9223372036854775807 < 1 + nm.size := by omega
  go_wp2_with fail
  refine (HTX.out _).mono ?_
  rintro e w101 ⟨rfl, rfl⟩
  clear e0 e1 a0 a3 a4 a5 a6 a7 a8 a9 al am af
  obtain ⟨⟨e0, e1⟩, ⟨a0, a3, a4, a5, a6, a7, a8, a9⟩, ⟨al, am⟩, af⟩ := D1.out.all
  go_wp2_with fail
  refine (HTY.out _).mono ?_
  rintro e w102 ⟨rfl, rfl⟩
  clear e0 e1 a0 a3 a4 a5 a6 a7 a8 a9 al am af
  obtain ⟨⟨e0, e1⟩, ⟨a0, a3, a4, a5, a6, a7, a8, a9⟩, ⟨al, am⟩, af⟩ := D1.out.all
  go_wp2_with fail
  refine (HD.out _ D1.out.bel).mono ?_
  rintro e w4 ⟨rfl, q4⟩
  have D2 := Lib.hid (D1.out.keep q4)
  clear q4
  clear e0 e1 a0 a3 a4 a5 a6 a7 a8 a9 al am af
  clear D1
  obtain ⟨⟨e0, e1⟩, ⟨a0, a3, a4, a5, a6, a7, a8, a9⟩, ⟨al, am⟩, af⟩ := D2.out.all
  have s3 : ¬ 9223372036854775807 < 1 + dt.size := by have := HP.out; have := HG.out; omega
  have t3 : ¬ 9223372036854775807 < ((⟨#[40]⟩ : ByteArray) ++ nm).size + ((⟨#[32]⟩ : ByteArray) ++ dt).size := by simp only [ByteArray.size_append, lt1, lt2]; have := HP.out; have := HG.out; omega
  go_wp2_with fail
  have E0 : Hid ((((⟨#[40]⟩ : ByteArray) ++ nm) ++ ((⟨#[32]⟩ : ByteArray) ++ dt)) = kidsTo F (K.map Int.toNat) h 0) := Lib.hid (by show _ = h; rw [HH.out])
  obtain ⟨m, hm⟩ : ∃ m, K.length = m := ⟨_, rfl⟩
  have HM := Lib.hid hm
  rw [hm] at hKl ⊢
  clear hm
  rw [HM.out] at a3 HSZ D2
  try rw [E0.out]
  clear E0
  clear e0 e1 a0 a3 a4 a5 a6 a7 a8 a9 al am af
  go_loopw [8, 97] (fun s i wr => ∃ j : Nat, j ≤ m ∧ i = .int .i64 j ∧ s = .string (kidsTo F (K.map Int.toNat) h j) ∧ FB w (.slice (some ⟨b, off, none⟩) n cap) root [.int .i64 21, .int .i64 sf, .int .i64 st, .slice ks m kc, .string text, .int .i64 B, .string N, .int .i64 D, .string M, .int .i64 num, .int .i64 wf, .int .i64 wt, .slice es en ec] wr) (fun _ i _ => m - (intOf i).toNat)
  case atStart => exact ⟨0, Nat.zero_le _, rfl, rfl, D2.out⟩
  case round =>
    clear D2
    obtain ⟨j, hj, rfl, rfl, hd⟩ := hrel
    have HD9 := Lib.hid hd
    clear hd
    have hle : (kidsTo F (K.map Int.toNat) h j).size ≤ (kidsTo F (K.map Int.toNat) h m).size := by have := kidsTo_leI F K h j; rw [HM.out] at this; exact this
    have HLE : Hid ((kidsTo F (K.map Int.toNat) h j).size + 1 ≤ 70368744177664) := Lib.hid (by have := HSZ.out; omega)
    clear hle
    obtain ⟨⟨e0, e1⟩, ⟨a0, a3, a4, a5, a6, a7, a8, a9⟩, ⟨al, am⟩, af⟩ := HD9.out.all
    by_cases hlt : j < m
    · have hjK : j < K.length := by have := HM.out; omega
      obtain ⟨kb, koff, rfl, hkb, hkrow⟩ := HKS.out (by omega)
      have ek := keep HD9.out.bel hkb (hkrow j hjK)
      have hnat := HKN.out _ (List.getElem_mem hjK)
      have HREC := Lib.hid (HF.out _ (List.getElem_mem hjK))
      have HST : Hid (kidsTo F (K.map Int.toNat) h (j + 1) = kidsTo F (K.map Int.toNat) h j ++ ⟨#[32]⟩ ++ F K[j].toNat) := Lib.hid (by
        rw [kidsTo_succ F _ h j (by simpa using hjK)]; simp)
      have HS2 : Hid ((kidsTo F (K.map Int.toNat) h j).size + (1 + (F K[j].toNat).size) ≤ 70368744177664) := Lib.hid (by
        have h1 := kidsTo_leI F K h (j + 1)
        have h2 := HSZ.out
        rw [HST.out, HM.out] at h1
        simp only [ByteArray.size_append, lt1] at h1
        omega)
      clear hkrow
      generalize K[j] = kj at *
      generalize kidsTo F (K.map Int.toNat) h j = x at *
      generalize F kj.toNat = y at *
      go_wp2_with fail
      refine (HREC.out _ HD9.out.bel).mono ?_
      rintro e w50 ⟨rfl, q50⟩
      have D50 := Lib.hid (HD9.out.keep q50)
      clear q50 HREC ek
      clear e0 e1 a0 a3 a4 a5 a6 a7 a8 a9 al am af
      have z1 : ¬ 9223372036854775807 < 1 + y.size := by have := HS2.out; omega
      have z2 : ¬ 9223372036854775807 < x.size + ((⟨#[32]⟩ : ByteArray) ++ y).size := by simp only [ByteArray.size_append, lt1]; have := HS2.out; omega
      go_wp2_with fail
      go_roundw
      case rel => exact ⟨j + 1, by omega, by go_num, by rw [HST.out, ByteArray.append_assoc], D50.out⟩
      case measure => simp [intOf]; omega
    · have hj' : j = m := by omega
      subst hj'
      generalize hx : kidsTo F (K.map Int.toNat) h j = x at *
      have HX := Lib.hid hx
      clear hx
      have z1 : ¬ 9223372036854775807 < x.size + (⟨#[41]⟩ : ByteArray).size := by rw [lt3]; have := HLE.out; omega
      have z2 : ¬ 9223372036854775807 < x.size + 1 := by have := HLE.out; omega
      go_wp2_with fail
      go_ret
      exact ⟨by rw [HM.out, HX.out]; rfl, HD9.out.bel⟩

set_option maxRecDepth 100000 in
set_option maxHeartbeats 4000000 in
theorem rf_ntf (w : World) (b off n cap : Nat) (root : Int) (a k : Nat) (sf st : Int) (ks : Option Addr) (K : List Int) (kc : Nat) (text : ByteArray) (B : Int) (N : ByteArray) (D : Int) (M : ByteArray) (num wf wt : Int) (es : Option Addr) (en ec : Nat) (nm : ByteArray) (F : Nat → ByteArray) (h : ByteArray)
    (c0 : w.cell? ⟨b, off + a * 13, none⟩ = some (.int .i64 (k : Int))) (c1 : w.cell? ⟨b, off + a * 13 + 1, none⟩ = some (.int .i64 sf)) (c2 : w.cell? ⟨b, off + a * 13 + 2, none⟩ = some (.int .i64 st)) (c3 : w.cell? ⟨b, off + a * 13 + 3, none⟩ = some (.slice ks K.length kc)) (c4 : w.cell? ⟨b, off + a * 13 + 4, none⟩ = some (.string text)) (c5 : w.cell? ⟨b, off + a * 13 + 5, none⟩ = some (.int .i64 B)) (c6 : w.cell? ⟨b, off + a * 13 + 6, none⟩ = some (.string N)) (c7 : w.cell? ⟨b, off + a * 13 + 7, none⟩ = some (.int .i64 D)) (c8 : w.cell? ⟨b, off + a * 13 + 8, none⟩ = some (.string M)) (c9 : w.cell? ⟨b, off + a * 13 + 9, none⟩ = some (.int .i64 num)) (c10 : w.cell? ⟨b, off + a * 13 + 10, none⟩ = some (.int .i64 wf)) (c11 : w.cell? ⟨b, off + a * 13 + 11, none⟩ = some (.int .i64 wt)) (c12 : w.cell? ⟨b, off + a * 13 + 12, none⟩ = some (.slice es en ec)) (hb : b < w.heap.size) (ha : a < n) (hn : n ≤ 70368744177664) (hks : NumsIn w ks K) (hK : ∀ q ∈ K, 0 ≤ q) (hKl : K.length ≤ 17592186044416) (hT : Tabs w) (h0 : 0 < k) (h1 : k < 46) (hnm : nmS (k : Int) = nm) (hns : nm.size ≤ 20)
    (hF : ∀ q ∈ K, ∀ w2, Below w.heap.size w w2 → Calls Tryz.prog 15 #[.agg #[.slice (some ⟨b, off, none⟩) n cap, .int .i64 root], .int .i64 q, .bool false] w2 fun e w' => e = .returned (.string (F q.toNat)) ∧ Below w2.heap.size w2 w')
    (hsz : (kidsTo F (K.map Int.toNat) h K.length).size + 1 ≤ 70368744177664)
    (htx : rtextB (k : Int) = true) (hty : rtypedB (k : Int) = false) (htext : text.size ≤ 200) (hn19 : ¬ k = 19) (hn21 : ¬ k = 21) (hh : h = (⟨#[40]⟩ ++ nm) ++ (⟨#[32]⟩ ++ goPen.quote text)) :
    Calls Tryz.prog 15 #[.agg #[.slice (some ⟨b, off, none⟩) n cap, .int .i64 root], .int .i64 (a : Nat), .bool false] w fun e w' => e = .returned (.string (kidsTo F (K.map Int.toNat) h K.length ++ ⟨#[41]⟩)) ∧ Below w.heap.size w w' := by
  have HT : Hid (∀ w2 : World, Below w.heap.size w w2 → Tabs w2) := Lib.hid (fun w2 h2 => hT.step h2)
  have HH := Lib.hid hh
  have HF := Lib.hid hF
  have HKS := Lib.hid hks
  have HKN := Lib.hid hK
  have HSZ := Lib.hid hsz
  have hpre := kidsTo_pre F (K.map Int.toNat) h K.length
  obtain ⟨lt1, lt2, lt3⟩ := lit1
  have HP : Hid (h.size = (1 + nm.size) + (1 + (goPen.quote text).size)) := Lib.hid (by rw [hh]; simp only [ByteArray.size_append, lt1, lt2])
  have g0 : h.size ≤ 70368744177664 := by omega
  have HG := Lib.hid g0
  have HNM := Lib.hid hnm
  have HQ := Lib.hid (fun w2 h2 => quote_any text w2 (HT.out w2 h2) (by omega))
  generalize goPen.quote text = qt at *
  have D0 := Lib.hid (FB.new w (.slice (some ⟨b, off, none⟩) n cap) root #[.int .i64 (k : Int), .int .i64 sf, .int .i64 st, .slice ks K.length kc, .string text, .int .i64 B, .string N, .int .i64 D, .string M, .int .i64 num, .int .i64 wf, .int .i64 wt, .slice es en ec])
  obtain ⟨W0, hW0⟩ : ∃ W0, W0 = (w.alloc (.cells #[.slice (some ⟨b, off, none⟩) n cap, .int .i64 root] 24)).alloc (.cells #[.int .i64 (k : Int), .int .i64 sf, .int .i64 st, .slice ks K.length kc, .string text, .int .i64 B, .string N, .int .i64 D, .string M, .int .i64 num, .int .i64 wf, .int .i64 wt, .slice es en ec] 46) := ⟨_, rfl⟩
  rw [← hW0] at D0
  have HW0 := Lib.hid hW0
  have k19 : ((k : Int) == 19) = false := by simp; omega
  have k21 : ((k : Int) == 21) = false := by simp; omega
  have HTX := Lib.hid (fun w2 => rtext_any (k : Int) w2)
  have HTY := Lib.hid (fun w2 => rtyped_any (k : Int) w2)
  rw [htx] at HTX
  rw [hty] at HTY
  have HRN := Lib.hid (fun w2 => rname_any (k : Int) w2)
  rw [hnm] at HRN
  clear hT hh hF hks hK hpre hW0 htx hty hnm hsz g0
  go_enter Tryz.func15, Tryz.ntmps15
  go_wp2_with fail
  try rw [← HW0.out]
  clear HW0 c0 c1 c2 c3 c4 c5 c6 c7 c8 c9 c10 c11 c12
  obtain ⟨⟨e0, e1⟩, ⟨a0, a3, a4, a5, a6, a7, a8, a9⟩, ⟨al, am⟩, af⟩ := D0.out.all
  refine (HRN.out _).mono ?_
  rintro e w1 ⟨rfl, q1⟩
  have D1 := Lib.hid (D0.out.keep q1)
  clear q1
  clear e0 e1 a0 a3 a4 a5 a6 a7 a8 a9 al am af
  clear D0
  obtain ⟨⟨e0, e1⟩, ⟨a0, a3, a4, a5, a6, a7, a8, a9⟩, ⟨al, am⟩, af⟩ := D1.out.all
  have s0 : ¬ 9223372036854775807 < 1 + nm.size := by omega
  go_wp2_with fail
  refine (HTX.out _).mono ?_
  rintro e w101 ⟨rfl, rfl⟩
  clear e0 e1 a0 a3 a4 a5 a6 a7 a8 a9 al am af
  obtain ⟨⟨e0, e1⟩, ⟨a0, a3, a4, a5, a6, a7, a8, a9⟩, ⟨al, am⟩, af⟩ := D1.out.all
  go_wp2_with fail
  refine (HQ.out _ D1.out.bel).mono ?_
  rintro e w3 ⟨rfl, q3⟩
  have D2 := Lib.hid (D1.out.keep q3)
  clear q3
  clear e0 e1 a0 a3 a4 a5 a6 a7 a8 a9 al am af
  clear D1
  obtain ⟨⟨e0, e1⟩, ⟨a0, a3, a4, a5, a6, a7, a8, a9⟩, ⟨al, am⟩, af⟩ := D2.out.all
  have s1 : ¬ 9223372036854775807 < 1 + qt.size := by have := HP.out; have := HG.out; omega
  have t1 : ¬ 9223372036854775807 < ((⟨#[40]⟩ : ByteArray) ++ nm).size + ((⟨#[32]⟩ : ByteArray) ++ qt).size := by simp only [ByteArray.size_append, lt1, lt2]; have := HP.out; have := HG.out; omega
  go_wp2_with fail
  refine (HTY.out _).mono ?_
  rintro e w103 ⟨rfl, rfl⟩
  clear e0 e1 a0 a3 a4 a5 a6 a7 a8 a9 al am af
  obtain ⟨⟨e0, e1⟩, ⟨a0, a3, a4, a5, a6, a7, a8, a9⟩, ⟨al, am⟩, af⟩ := D2.out.all
  go_wp2_with fail
  have E0 : Hid ((((⟨#[40]⟩ : ByteArray) ++ nm) ++ ((⟨#[32]⟩ : ByteArray) ++ qt)) = kidsTo F (K.map Int.toNat) h 0) := Lib.hid (by show _ = h; rw [HH.out])
  obtain ⟨m, hm⟩ : ∃ m, K.length = m := ⟨_, rfl⟩
  have HM := Lib.hid hm
  rw [hm] at hKl ⊢
  clear hm
  rw [HM.out] at a3 HSZ D2
  try rw [E0.out]
  clear E0
  clear e0 e1 a0 a3 a4 a5 a6 a7 a8 a9 al am af
  go_loopw [8, 97] (fun s i wr => ∃ j : Nat, j ≤ m ∧ i = .int .i64 j ∧ s = .string (kidsTo F (K.map Int.toNat) h j) ∧ FB w (.slice (some ⟨b, off, none⟩) n cap) root [.int .i64 (k : Int), .int .i64 sf, .int .i64 st, .slice ks m kc, .string text, .int .i64 B, .string N, .int .i64 D, .string M, .int .i64 num, .int .i64 wf, .int .i64 wt, .slice es en ec] wr) (fun _ i _ => m - (intOf i).toNat)
  case atStart => exact ⟨0, Nat.zero_le _, rfl, rfl, D2.out⟩
  case round =>
    clear D2
    obtain ⟨j, hj, rfl, rfl, hd⟩ := hrel
    have HD9 := Lib.hid hd
    clear hd
    have hle : (kidsTo F (K.map Int.toNat) h j).size ≤ (kidsTo F (K.map Int.toNat) h m).size := by have := kidsTo_leI F K h j; rw [HM.out] at this; exact this
    have HLE : Hid ((kidsTo F (K.map Int.toNat) h j).size + 1 ≤ 70368744177664) := Lib.hid (by have := HSZ.out; omega)
    clear hle
    obtain ⟨⟨e0, e1⟩, ⟨a0, a3, a4, a5, a6, a7, a8, a9⟩, ⟨al, am⟩, af⟩ := HD9.out.all
    by_cases hlt : j < m
    · have hjK : j < K.length := by have := HM.out; omega
      obtain ⟨kb, koff, rfl, hkb, hkrow⟩ := HKS.out (by omega)
      have ek := keep HD9.out.bel hkb (hkrow j hjK)
      have hnat := HKN.out _ (List.getElem_mem hjK)
      have HREC := Lib.hid (HF.out _ (List.getElem_mem hjK))
      have HST : Hid (kidsTo F (K.map Int.toNat) h (j + 1) = kidsTo F (K.map Int.toNat) h j ++ ⟨#[32]⟩ ++ F K[j].toNat) := Lib.hid (by
        rw [kidsTo_succ F _ h j (by simpa using hjK)]; simp)
      have HS2 : Hid ((kidsTo F (K.map Int.toNat) h j).size + (1 + (F K[j].toNat).size) ≤ 70368744177664) := Lib.hid (by
        have h1 := kidsTo_leI F K h (j + 1)
        have h2 := HSZ.out
        rw [HST.out, HM.out] at h1
        simp only [ByteArray.size_append, lt1] at h1
        omega)
      clear hkrow
      generalize K[j] = kj at *
      generalize kidsTo F (K.map Int.toNat) h j = x at *
      generalize F kj.toNat = y at *
      go_wp2_with fail
      refine (HREC.out _ HD9.out.bel).mono ?_
      rintro e w50 ⟨rfl, q50⟩
      have D50 := Lib.hid (HD9.out.keep q50)
      clear q50 HREC ek
      clear e0 e1 a0 a3 a4 a5 a6 a7 a8 a9 al am af
      have z1 : ¬ 9223372036854775807 < 1 + y.size := by have := HS2.out; omega
      have z2 : ¬ 9223372036854775807 < x.size + ((⟨#[32]⟩ : ByteArray) ++ y).size := by simp only [ByteArray.size_append, lt1]; have := HS2.out; omega
      go_wp2_with fail
      go_roundw
      case rel => exact ⟨j + 1, by omega, by go_num, by rw [HST.out, ByteArray.append_assoc], D50.out⟩
      case measure => simp [intOf]; omega
    · have hj' : j = m := by omega
      subst hj'
      generalize hx : kidsTo F (K.map Int.toNat) h j = x at *
      have HX := Lib.hid hx
      clear hx
      have z1 : ¬ 9223372036854775807 < x.size + (⟨#[41]⟩ : ByteArray).size := by rw [lt3]; have := HLE.out; omega
      have z2 : ¬ 9223372036854775807 < x.size + 1 := by have := HLE.out; omega
      go_wp2_with fail
      go_ret
      exact ⟨by rw [HM.out, HX.out]; rfl, HD9.out.bel⟩

set_option maxRecDepth 100000 in
set_option maxHeartbeats 4000000 in
theorem rf_nft (w : World) (b off n cap : Nat) (root : Int) (a k : Nat) (sf st : Int) (ks : Option Addr) (K : List Int) (kc : Nat) (text : ByteArray) (B : Int) (N : ByteArray) (D : Int) (M : ByteArray) (num wf wt : Int) (es : Option Addr) (en ec : Nat) (nm : ByteArray) (F : Nat → ByteArray) (h : ByteArray)
    (c0 : w.cell? ⟨b, off + a * 13, none⟩ = some (.int .i64 (k : Int))) (c1 : w.cell? ⟨b, off + a * 13 + 1, none⟩ = some (.int .i64 sf)) (c2 : w.cell? ⟨b, off + a * 13 + 2, none⟩ = some (.int .i64 st)) (c3 : w.cell? ⟨b, off + a * 13 + 3, none⟩ = some (.slice ks K.length kc)) (c4 : w.cell? ⟨b, off + a * 13 + 4, none⟩ = some (.string text)) (c5 : w.cell? ⟨b, off + a * 13 + 5, none⟩ = some (.int .i64 B)) (c6 : w.cell? ⟨b, off + a * 13 + 6, none⟩ = some (.string N)) (c7 : w.cell? ⟨b, off + a * 13 + 7, none⟩ = some (.int .i64 D)) (c8 : w.cell? ⟨b, off + a * 13 + 8, none⟩ = some (.string M)) (c9 : w.cell? ⟨b, off + a * 13 + 9, none⟩ = some (.int .i64 num)) (c10 : w.cell? ⟨b, off + a * 13 + 10, none⟩ = some (.int .i64 wf)) (c11 : w.cell? ⟨b, off + a * 13 + 11, none⟩ = some (.int .i64 wt)) (c12 : w.cell? ⟨b, off + a * 13 + 12, none⟩ = some (.slice es en ec)) (hb : b < w.heap.size) (ha : a < n) (hn : n ≤ 70368744177664) (hks : NumsIn w ks K) (hK : ∀ q ∈ K, 0 ≤ q) (hKl : K.length ≤ 17592186044416) (hT : Tabs w) (h0 : 0 < k) (h1 : k < 46) (hnm : nmS (k : Int) = nm) (hns : nm.size ≤ 20)
    (hF : ∀ q ∈ K, ∀ w2, Below w.heap.size w w2 → Calls Tryz.prog 15 #[.agg #[.slice (some ⟨b, off, none⟩) n cap, .int .i64 root], .int .i64 q, .bool false] w2 fun e w' => e = .returned (.string (F q.toNat)) ∧ Below w2.heap.size w2 w')
    (hsz : (kidsTo F (K.map Int.toNat) h K.length).size + 1 ≤ 70368744177664)
    (htx : rtextB (k : Int) = false) (hty : rtypedB (k : Int) = true) (hNs : N.size ≤ 200) (hMs : M.size ≤ 5) (hR : rightB B N D M = true) (hn19 : ¬ k = 19) (hn21 : ¬ k = 21) (hh : h = (⟨#[40]⟩ ++ nm) ++ (⟨#[32]⟩ ++ typeS B N M)) :
    Calls Tryz.prog 15 #[.agg #[.slice (some ⟨b, off, none⟩) n cap, .int .i64 root], .int .i64 (a : Nat), .bool false] w fun e w' => e = .returned (.string (kidsTo F (K.map Int.toNat) h K.length ++ ⟨#[41]⟩)) ∧ Below w.heap.size w w' := by
  have HT : Hid (∀ w2 : World, Below w.heap.size w w2 → Tabs w2) := Lib.hid (fun w2 h2 => hT.step h2)
  have HH := Lib.hid hh
  have HF := Lib.hid hF
  have HKS := Lib.hid hks
  have HKN := Lib.hid hK
  have HSZ := Lib.hid hsz
  have hpre := kidsTo_pre F (K.map Int.toNat) h K.length
  obtain ⟨lt1, lt2, lt3⟩ := lit1
  have HP : Hid (h.size = (1 + nm.size) + (1 + (typeS B N M).size)) := Lib.hid (by rw [hh]; simp only [ByteArray.size_append, lt1, lt2])
  have g0 : h.size ≤ 70368744177664 := by omega
  have HG := Lib.hid g0
  have HNM := Lib.hid hnm
  obtain ⟨d, hd0, hd4, hdm⟩ := right_bounds hR
  subst hd0
  have HY := Lib.hid (fun w2 => refT_any B N d M w2 hNs (by omega) hR)
  generalize typeS B N M = yt at *
  have D0 := Lib.hid (FB.new w (.slice (some ⟨b, off, none⟩) n cap) root #[.int .i64 (k : Int), .int .i64 sf, .int .i64 st, .slice ks K.length kc, .string text, .int .i64 B, .string N, .int .i64 (d : Int), .string M, .int .i64 num, .int .i64 wf, .int .i64 wt, .slice es en ec])
  obtain ⟨W0, hW0⟩ : ∃ W0, W0 = (w.alloc (.cells #[.slice (some ⟨b, off, none⟩) n cap, .int .i64 root] 24)).alloc (.cells #[.int .i64 (k : Int), .int .i64 sf, .int .i64 st, .slice ks K.length kc, .string text, .int .i64 B, .string N, .int .i64 (d : Int), .string M, .int .i64 num, .int .i64 wf, .int .i64 wt, .slice es en ec] 46) := ⟨_, rfl⟩
  rw [← hW0] at D0
  have HW0 := Lib.hid hW0
  have k19 : ((k : Int) == 19) = false := by simp; omega
  have k21 : ((k : Int) == 21) = false := by simp; omega
  have HTX := Lib.hid (fun w2 => rtext_any (k : Int) w2)
  have HTY := Lib.hid (fun w2 => rtyped_any (k : Int) w2)
  rw [htx] at HTX
  rw [hty] at HTY
  have HRN := Lib.hid (fun w2 => rname_any (k : Int) w2)
  rw [hnm] at HRN
  clear hT hh hF hks hK hpre hW0 htx hty hnm hsz g0
  go_enter Tryz.func15, Tryz.ntmps15
  go_wp2_with fail
  try rw [← HW0.out]
  clear HW0 c0 c1 c2 c3 c4 c5 c6 c7 c8 c9 c10 c11 c12
  obtain ⟨⟨e0, e1⟩, ⟨a0, a3, a4, a5, a6, a7, a8, a9⟩, ⟨al, am⟩, af⟩ := D0.out.all
  refine (HRN.out _).mono ?_
  rintro e w1 ⟨rfl, q1⟩
  have D1 := Lib.hid (D0.out.keep q1)
  clear q1
  clear e0 e1 a0 a3 a4 a5 a6 a7 a8 a9 al am af
  clear D0
  obtain ⟨⟨e0, e1⟩, ⟨a0, a3, a4, a5, a6, a7, a8, a9⟩, ⟨al, am⟩, af⟩ := D1.out.all
  have s0 : ¬ 9223372036854775807 < 1 + nm.size := by omega
  go_wp2_with fail
  refine (HTX.out _).mono ?_
  rintro e w101 ⟨rfl, rfl⟩
  clear e0 e1 a0 a3 a4 a5 a6 a7 a8 a9 al am af
  obtain ⟨⟨e0, e1⟩, ⟨a0, a3, a4, a5, a6, a7, a8, a9⟩, ⟨al, am⟩, af⟩ := D1.out.all
  go_wp2_with fail
  refine (HTY.out _).mono ?_
  rintro e w102 ⟨rfl, rfl⟩
  clear e0 e1 a0 a3 a4 a5 a6 a7 a8 a9 al am af
  obtain ⟨⟨e0, e1⟩, ⟨a0, a3, a4, a5, a6, a7, a8, a9⟩, ⟨al, am⟩, af⟩ := D1.out.all
  go_wp2_with fail
  refine (HY.out _).mono ?_
  rintro e w4 ⟨rfl, q4⟩
  have D2 := Lib.hid (D1.out.keep q4)
  clear q4
  clear e0 e1 a0 a3 a4 a5 a6 a7 a8 a9 al am af
  clear D1
  obtain ⟨⟨e0, e1⟩, ⟨a0, a3, a4, a5, a6, a7, a8, a9⟩, ⟨al, am⟩, af⟩ := D2.out.all
  have s2 : ¬ 9223372036854775807 < 1 + yt.size := by have := HP.out; have := HG.out; omega
  have t2 : ¬ 9223372036854775807 < ((⟨#[40]⟩ : ByteArray) ++ nm).size + ((⟨#[32]⟩ : ByteArray) ++ yt).size := by simp only [ByteArray.size_append, lt1, lt2]; have := HP.out; have := HG.out; omega
  go_wp2_with fail
  have E0 : Hid ((((⟨#[40]⟩ : ByteArray) ++ nm) ++ ((⟨#[32]⟩ : ByteArray) ++ yt)) = kidsTo F (K.map Int.toNat) h 0) := Lib.hid (by show _ = h; rw [HH.out])
  obtain ⟨m, hm⟩ : ∃ m, K.length = m := ⟨_, rfl⟩
  have HM := Lib.hid hm
  rw [hm] at hKl ⊢
  clear hm
  rw [HM.out] at a3 HSZ D2
  try rw [E0.out]
  clear E0
  clear e0 e1 a0 a3 a4 a5 a6 a7 a8 a9 al am af
  go_loopw [8, 97] (fun s i wr => ∃ j : Nat, j ≤ m ∧ i = .int .i64 j ∧ s = .string (kidsTo F (K.map Int.toNat) h j) ∧ FB w (.slice (some ⟨b, off, none⟩) n cap) root [.int .i64 (k : Int), .int .i64 sf, .int .i64 st, .slice ks m kc, .string text, .int .i64 B, .string N, .int .i64 (d : Int), .string M, .int .i64 num, .int .i64 wf, .int .i64 wt, .slice es en ec] wr) (fun _ i _ => m - (intOf i).toNat)
  case atStart => exact ⟨0, Nat.zero_le _, rfl, rfl, D2.out⟩
  case round =>
    clear D2
    obtain ⟨j, hj, rfl, rfl, hd⟩ := hrel
    have HD9 := Lib.hid hd
    clear hd
    have hle : (kidsTo F (K.map Int.toNat) h j).size ≤ (kidsTo F (K.map Int.toNat) h m).size := by have := kidsTo_leI F K h j; rw [HM.out] at this; exact this
    have HLE : Hid ((kidsTo F (K.map Int.toNat) h j).size + 1 ≤ 70368744177664) := Lib.hid (by have := HSZ.out; omega)
    clear hle
    obtain ⟨⟨e0, e1⟩, ⟨a0, a3, a4, a5, a6, a7, a8, a9⟩, ⟨al, am⟩, af⟩ := HD9.out.all
    by_cases hlt : j < m
    · have hjK : j < K.length := by have := HM.out; omega
      obtain ⟨kb, koff, rfl, hkb, hkrow⟩ := HKS.out (by omega)
      have ek := keep HD9.out.bel hkb (hkrow j hjK)
      have hnat := HKN.out _ (List.getElem_mem hjK)
      have HREC := Lib.hid (HF.out _ (List.getElem_mem hjK))
      have HST : Hid (kidsTo F (K.map Int.toNat) h (j + 1) = kidsTo F (K.map Int.toNat) h j ++ ⟨#[32]⟩ ++ F K[j].toNat) := Lib.hid (by
        rw [kidsTo_succ F _ h j (by simpa using hjK)]; simp)
      have HS2 : Hid ((kidsTo F (K.map Int.toNat) h j).size + (1 + (F K[j].toNat).size) ≤ 70368744177664) := Lib.hid (by
        have h1 := kidsTo_leI F K h (j + 1)
        have h2 := HSZ.out
        rw [HST.out, HM.out] at h1
        simp only [ByteArray.size_append, lt1] at h1
        omega)
      clear hkrow
      generalize K[j] = kj at *
      generalize kidsTo F (K.map Int.toNat) h j = x at *
      generalize F kj.toNat = y at *
      go_wp2_with fail
      refine (HREC.out _ HD9.out.bel).mono ?_
      rintro e w50 ⟨rfl, q50⟩
      have D50 := Lib.hid (HD9.out.keep q50)
      clear q50 HREC ek
      clear e0 e1 a0 a3 a4 a5 a6 a7 a8 a9 al am af
      have z1 : ¬ 9223372036854775807 < 1 + y.size := by have := HS2.out; omega
      have z2 : ¬ 9223372036854775807 < x.size + ((⟨#[32]⟩ : ByteArray) ++ y).size := by simp only [ByteArray.size_append, lt1]; have := HS2.out; omega
      go_wp2_with fail
      go_roundw
      case rel => exact ⟨j + 1, by omega, by go_num, by rw [HST.out, ByteArray.append_assoc], D50.out⟩
      case measure => simp [intOf]; omega
    · have hj' : j = m := by omega
      subst hj'
      generalize hx : kidsTo F (K.map Int.toNat) h j = x at *
      have HX := Lib.hid hx
      clear hx
      have z1 : ¬ 9223372036854775807 < x.size + (⟨#[41]⟩ : ByteArray).size := by rw [lt3]; have := HLE.out; omega
      have z2 : ¬ 9223372036854775807 < x.size + 1 := by have := HLE.out; omega
      go_wp2_with fail
      go_ret
      exact ⟨by rw [HM.out, HX.out]; rfl, HD9.out.bel⟩

set_option maxRecDepth 100000 in
set_option maxHeartbeats 4000000 in
theorem rf_ntt (w : World) (b off n cap : Nat) (root : Int) (a k : Nat) (sf st : Int) (ks : Option Addr) (K : List Int) (kc : Nat) (text : ByteArray) (B : Int) (N : ByteArray) (D : Int) (M : ByteArray) (num wf wt : Int) (es : Option Addr) (en ec : Nat) (nm : ByteArray) (F : Nat → ByteArray) (h : ByteArray)
    (c0 : w.cell? ⟨b, off + a * 13, none⟩ = some (.int .i64 (k : Int))) (c1 : w.cell? ⟨b, off + a * 13 + 1, none⟩ = some (.int .i64 sf)) (c2 : w.cell? ⟨b, off + a * 13 + 2, none⟩ = some (.int .i64 st)) (c3 : w.cell? ⟨b, off + a * 13 + 3, none⟩ = some (.slice ks K.length kc)) (c4 : w.cell? ⟨b, off + a * 13 + 4, none⟩ = some (.string text)) (c5 : w.cell? ⟨b, off + a * 13 + 5, none⟩ = some (.int .i64 B)) (c6 : w.cell? ⟨b, off + a * 13 + 6, none⟩ = some (.string N)) (c7 : w.cell? ⟨b, off + a * 13 + 7, none⟩ = some (.int .i64 D)) (c8 : w.cell? ⟨b, off + a * 13 + 8, none⟩ = some (.string M)) (c9 : w.cell? ⟨b, off + a * 13 + 9, none⟩ = some (.int .i64 num)) (c10 : w.cell? ⟨b, off + a * 13 + 10, none⟩ = some (.int .i64 wf)) (c11 : w.cell? ⟨b, off + a * 13 + 11, none⟩ = some (.int .i64 wt)) (c12 : w.cell? ⟨b, off + a * 13 + 12, none⟩ = some (.slice es en ec)) (hb : b < w.heap.size) (ha : a < n) (hn : n ≤ 70368744177664) (hks : NumsIn w ks K) (hK : ∀ q ∈ K, 0 ≤ q) (hKl : K.length ≤ 17592186044416) (hT : Tabs w) (h0 : 0 < k) (h1 : k < 46) (hnm : nmS (k : Int) = nm) (hns : nm.size ≤ 20)
    (hF : ∀ q ∈ K, ∀ w2, Below w.heap.size w w2 → Calls Tryz.prog 15 #[.agg #[.slice (some ⟨b, off, none⟩) n cap, .int .i64 root], .int .i64 q, .bool false] w2 fun e w' => e = .returned (.string (F q.toNat)) ∧ Below w2.heap.size w2 w')
    (hsz : (kidsTo F (K.map Int.toNat) h K.length).size + 1 ≤ 70368744177664)
    (htx : rtextB (k : Int) = true) (hty : rtypedB (k : Int) = true) (htext : text.size ≤ 200) (hNs : N.size ≤ 200) (hMs : M.size ≤ 5) (hR : rightB B N D M = true) (hn19 : ¬ k = 19) (hn21 : ¬ k = 21) (hh : h = (⟨#[40]⟩ ++ nm) ++ (⟨#[32]⟩ ++ goPen.quote text) ++ (⟨#[32]⟩ ++ typeS B N M)) :
    Calls Tryz.prog 15 #[.agg #[.slice (some ⟨b, off, none⟩) n cap, .int .i64 root], .int .i64 (a : Nat), .bool false] w fun e w' => e = .returned (.string (kidsTo F (K.map Int.toNat) h K.length ++ ⟨#[41]⟩)) ∧ Below w.heap.size w w' := by
  have HT : Hid (∀ w2 : World, Below w.heap.size w w2 → Tabs w2) := Lib.hid (fun w2 h2 => hT.step h2)
  have HH := Lib.hid hh
  have HF := Lib.hid hF
  have HKS := Lib.hid hks
  have HKN := Lib.hid hK
  have HSZ := Lib.hid hsz
  have hpre := kidsTo_pre F (K.map Int.toNat) h K.length
  obtain ⟨lt1, lt2, lt3⟩ := lit1
  have HP : Hid (h.size = (1 + nm.size) + (1 + (goPen.quote text).size) + (1 + (typeS B N M).size)) := Lib.hid (by rw [hh]; simp only [ByteArray.size_append, lt1, lt2])
  have g0 : h.size ≤ 70368744177664 := by omega
  have HG := Lib.hid g0
  have HNM := Lib.hid hnm
  have HQ := Lib.hid (fun w2 h2 => quote_any text w2 (HT.out w2 h2) (by omega))
  generalize goPen.quote text = qt at *
  obtain ⟨d, hd0, hd4, hdm⟩ := right_bounds hR
  subst hd0
  have HY := Lib.hid (fun w2 => refT_any B N d M w2 hNs (by omega) hR)
  generalize typeS B N M = yt at *
  have D0 := Lib.hid (FB.new w (.slice (some ⟨b, off, none⟩) n cap) root #[.int .i64 (k : Int), .int .i64 sf, .int .i64 st, .slice ks K.length kc, .string text, .int .i64 B, .string N, .int .i64 (d : Int), .string M, .int .i64 num, .int .i64 wf, .int .i64 wt, .slice es en ec])
  obtain ⟨W0, hW0⟩ : ∃ W0, W0 = (w.alloc (.cells #[.slice (some ⟨b, off, none⟩) n cap, .int .i64 root] 24)).alloc (.cells #[.int .i64 (k : Int), .int .i64 sf, .int .i64 st, .slice ks K.length kc, .string text, .int .i64 B, .string N, .int .i64 (d : Int), .string M, .int .i64 num, .int .i64 wf, .int .i64 wt, .slice es en ec] 46) := ⟨_, rfl⟩
  rw [← hW0] at D0
  have HW0 := Lib.hid hW0
  have k19 : ((k : Int) == 19) = false := by simp; omega
  have k21 : ((k : Int) == 21) = false := by simp; omega
  have HTX := Lib.hid (fun w2 => rtext_any (k : Int) w2)
  have HTY := Lib.hid (fun w2 => rtyped_any (k : Int) w2)
  rw [htx] at HTX
  rw [hty] at HTY
  have HRN := Lib.hid (fun w2 => rname_any (k : Int) w2)
  rw [hnm] at HRN
  clear hT hh hF hks hK hpre hW0 htx hty hnm hsz g0
  go_enter Tryz.func15, Tryz.ntmps15
  go_wp2_with fail
  try rw [← HW0.out]
  clear HW0 c0 c1 c2 c3 c4 c5 c6 c7 c8 c9 c10 c11 c12
  obtain ⟨⟨e0, e1⟩, ⟨a0, a3, a4, a5, a6, a7, a8, a9⟩, ⟨al, am⟩, af⟩ := D0.out.all
  refine (HRN.out _).mono ?_
  rintro e w1 ⟨rfl, q1⟩
  have D1 := Lib.hid (D0.out.keep q1)
  clear q1
  clear e0 e1 a0 a3 a4 a5 a6 a7 a8 a9 al am af
  clear D0
  obtain ⟨⟨e0, e1⟩, ⟨a0, a3, a4, a5, a6, a7, a8, a9⟩, ⟨al, am⟩, af⟩ := D1.out.all
  have s0 : ¬ 9223372036854775807 < 1 + nm.size := by omega
  go_wp2_with fail
  refine (HTX.out _).mono ?_
  rintro e w101 ⟨rfl, rfl⟩
  clear e0 e1 a0 a3 a4 a5 a6 a7 a8 a9 al am af
  obtain ⟨⟨e0, e1⟩, ⟨a0, a3, a4, a5, a6, a7, a8, a9⟩, ⟨al, am⟩, af⟩ := D1.out.all
  go_wp2_with fail
  refine (HQ.out _ D1.out.bel).mono ?_
  rintro e w3 ⟨rfl, q3⟩
  have D2 := Lib.hid (D1.out.keep q3)
  clear q3
  clear e0 e1 a0 a3 a4 a5 a6 a7 a8 a9 al am af
  clear D1
  obtain ⟨⟨e0, e1⟩, ⟨a0, a3, a4, a5, a6, a7, a8, a9⟩, ⟨al, am⟩, af⟩ := D2.out.all
  have s1 : ¬ 9223372036854775807 < 1 + qt.size := by have := HP.out; have := HG.out; omega
  have t1 : ¬ 9223372036854775807 < ((⟨#[40]⟩ : ByteArray) ++ nm).size + ((⟨#[32]⟩ : ByteArray) ++ qt).size := by simp only [ByteArray.size_append, lt1, lt2]; have := HP.out; have := HG.out; omega
  go_wp2_with fail
  refine (HTY.out _).mono ?_
  rintro e w103 ⟨rfl, rfl⟩
  clear e0 e1 a0 a3 a4 a5 a6 a7 a8 a9 al am af
  obtain ⟨⟨e0, e1⟩, ⟨a0, a3, a4, a5, a6, a7, a8, a9⟩, ⟨al, am⟩, af⟩ := D2.out.all
  go_wp2_with fail
  refine (HY.out _).mono ?_
  rintro e w5 ⟨rfl, q5⟩
  have D3 := Lib.hid (D2.out.keep q5)
  clear q5
  clear e0 e1 a0 a3 a4 a5 a6 a7 a8 a9 al am af
  clear D2
  obtain ⟨⟨e0, e1⟩, ⟨a0, a3, a4, a5, a6, a7, a8, a9⟩, ⟨al, am⟩, af⟩ := D3.out.all
  have s2 : ¬ 9223372036854775807 < 1 + yt.size := by have := HP.out; have := HG.out; omega
  have t2 : ¬ 9223372036854775807 < (((⟨#[40]⟩ : ByteArray) ++ nm) ++ ((⟨#[32]⟩ : ByteArray) ++ qt)).size + ((⟨#[32]⟩ : ByteArray) ++ yt).size := by simp only [ByteArray.size_append, lt1, lt2]; have := HP.out; have := HG.out; omega
  go_wp2_with fail
  have E0 : Hid (((((⟨#[40]⟩ : ByteArray) ++ nm) ++ ((⟨#[32]⟩ : ByteArray) ++ qt)) ++ ((⟨#[32]⟩ : ByteArray) ++ yt)) = kidsTo F (K.map Int.toNat) h 0) := Lib.hid (by show _ = h; rw [HH.out])
  obtain ⟨m, hm⟩ : ∃ m, K.length = m := ⟨_, rfl⟩
  have HM := Lib.hid hm
  rw [hm] at hKl ⊢
  clear hm
  rw [HM.out] at a3 HSZ D3
  try rw [E0.out]
  clear E0
  clear e0 e1 a0 a3 a4 a5 a6 a7 a8 a9 al am af
  go_loopw [8, 97] (fun s i wr => ∃ j : Nat, j ≤ m ∧ i = .int .i64 j ∧ s = .string (kidsTo F (K.map Int.toNat) h j) ∧ FB w (.slice (some ⟨b, off, none⟩) n cap) root [.int .i64 (k : Int), .int .i64 sf, .int .i64 st, .slice ks m kc, .string text, .int .i64 B, .string N, .int .i64 (d : Int), .string M, .int .i64 num, .int .i64 wf, .int .i64 wt, .slice es en ec] wr) (fun _ i _ => m - (intOf i).toNat)
  case atStart => exact ⟨0, Nat.zero_le _, rfl, rfl, D3.out⟩
  case round =>
    clear D3
    obtain ⟨j, hj, rfl, rfl, hd⟩ := hrel
    have HD9 := Lib.hid hd
    clear hd
    have hle : (kidsTo F (K.map Int.toNat) h j).size ≤ (kidsTo F (K.map Int.toNat) h m).size := by have := kidsTo_leI F K h j; rw [HM.out] at this; exact this
    have HLE : Hid ((kidsTo F (K.map Int.toNat) h j).size + 1 ≤ 70368744177664) := Lib.hid (by have := HSZ.out; omega)
    clear hle
    obtain ⟨⟨e0, e1⟩, ⟨a0, a3, a4, a5, a6, a7, a8, a9⟩, ⟨al, am⟩, af⟩ := HD9.out.all
    by_cases hlt : j < m
    · have hjK : j < K.length := by have := HM.out; omega
      obtain ⟨kb, koff, rfl, hkb, hkrow⟩ := HKS.out (by omega)
      have ek := keep HD9.out.bel hkb (hkrow j hjK)
      have hnat := HKN.out _ (List.getElem_mem hjK)
      have HREC := Lib.hid (HF.out _ (List.getElem_mem hjK))
      have HST : Hid (kidsTo F (K.map Int.toNat) h (j + 1) = kidsTo F (K.map Int.toNat) h j ++ ⟨#[32]⟩ ++ F K[j].toNat) := Lib.hid (by
        rw [kidsTo_succ F _ h j (by simpa using hjK)]; simp)
      have HS2 : Hid ((kidsTo F (K.map Int.toNat) h j).size + (1 + (F K[j].toNat).size) ≤ 70368744177664) := Lib.hid (by
        have h1 := kidsTo_leI F K h (j + 1)
        have h2 := HSZ.out
        rw [HST.out, HM.out] at h1
        simp only [ByteArray.size_append, lt1] at h1
        omega)
      clear hkrow
      generalize K[j] = kj at *
      generalize kidsTo F (K.map Int.toNat) h j = x at *
      generalize F kj.toNat = y at *
      go_wp2_with fail
      refine (HREC.out _ HD9.out.bel).mono ?_
      rintro e w50 ⟨rfl, q50⟩
      have D50 := Lib.hid (HD9.out.keep q50)
      clear q50 HREC ek
      clear e0 e1 a0 a3 a4 a5 a6 a7 a8 a9 al am af
      have z1 : ¬ 9223372036854775807 < 1 + y.size := by have := HS2.out; omega
      have z2 : ¬ 9223372036854775807 < x.size + ((⟨#[32]⟩ : ByteArray) ++ y).size := by simp only [ByteArray.size_append, lt1]; have := HS2.out; omega
      go_wp2_with fail
      go_roundw
      case rel => exact ⟨j + 1, by omega, by go_num, by rw [HST.out, ByteArray.append_assoc], D50.out⟩
      case measure => simp [intOf]; omega
    · have hj' : j = m := by omega
      subst hj'
      generalize hx : kidsTo F (K.map Int.toNat) h j = x at *
      have HX := Lib.hid hx
      clear hx
      have z1 : ¬ 9223372036854775807 < x.size + (⟨#[41]⟩ : ByteArray).size := by rw [lt3]; have := HLE.out; omega
      have z2 : ¬ 9223372036854775807 < x.size + 1 := by have := HLE.out; omega
      go_wp2_with fail
      go_ret
      exact ⟨by rw [HM.out, HX.out]; rfl, HD9.out.bel⟩

set_option maxRecDepth 100000 in
set_option maxHeartbeats 4000000 in
theorem rf_bff (w : World) (b off n cap : Nat) (root : Int) (a k : Nat) (sf st : Int) (ks : Option Addr) (K : List Int) (kc : Nat) (text : ByteArray) (B : Int) (N : ByteArray) (D : Int) (M : ByteArray) (num wf wt : Int) (es : Option Addr) (en ec : Nat) (nm : ByteArray) (F : Nat → ByteArray) (h : ByteArray)
    (c0 : w.cell? ⟨b, off + a * 13, none⟩ = some (.int .i64 (k : Int))) (c1 : w.cell? ⟨b, off + a * 13 + 1, none⟩ = some (.int .i64 sf)) (c2 : w.cell? ⟨b, off + a * 13 + 2, none⟩ = some (.int .i64 st)) (c3 : w.cell? ⟨b, off + a * 13 + 3, none⟩ = some (.slice ks K.length kc)) (c4 : w.cell? ⟨b, off + a * 13 + 4, none⟩ = some (.string text)) (c5 : w.cell? ⟨b, off + a * 13 + 5, none⟩ = some (.int .i64 B)) (c6 : w.cell? ⟨b, off + a * 13 + 6, none⟩ = some (.string N)) (c7 : w.cell? ⟨b, off + a * 13 + 7, none⟩ = some (.int .i64 D)) (c8 : w.cell? ⟨b, off + a * 13 + 8, none⟩ = some (.string M)) (c9 : w.cell? ⟨b, off + a * 13 + 9, none⟩ = some (.int .i64 num)) (c10 : w.cell? ⟨b, off + a * 13 + 10, none⟩ = some (.int .i64 wf)) (c11 : w.cell? ⟨b, off + a * 13 + 11, none⟩ = some (.int .i64 wt)) (c12 : w.cell? ⟨b, off + a * 13 + 12, none⟩ = some (.slice es en ec)) (hb : b < w.heap.size) (ha : a < n) (hn : n ≤ 70368744177664) (hks : NumsIn w ks K) (hK : ∀ q ∈ K, 0 ≤ q) (hKl : K.length ≤ 17592186044416) (hT : Tabs w) (h0 : 0 < k) (h1 : k < 46) (hnm : nmS (k : Int) = nm) (hns : nm.size ≤ 20)
    (hF : ∀ q ∈ K, ∀ w2, Below w.heap.size w w2 → Calls Tryz.prog 15 #[.agg #[.slice (some ⟨b, off, none⟩) n cap, .int .i64 root], .int .i64 q, .bool true] w2 fun e w' => e = .returned (.string (F q.toNat)) ∧ Below w2.heap.size w2 w')
    (hsz : (kidsTo F (K.map Int.toNat) h K.length).size + 1 ≤ 70368744177664)
    (htx : rtextB (k : Int) = false) (hty : rtypedB (k : Int) = false) (hn19 : ¬ k = 19) (hn21 : ¬ k = 21) (hn40 : ¬ (40 ≤ k ∧ k ≤ 45)) (hh : h = (⟨#[40]⟩ ++ nm)) :
    Calls Tryz.prog 15 #[.agg #[.slice (some ⟨b, off, none⟩) n cap, .int .i64 root], .int .i64 (a : Nat), .bool true] w fun e w' => e = .returned (.string (kidsTo F (K.map Int.toNat) h K.length ++ ⟨#[41]⟩)) ∧ Below w.heap.size w w' := by
  have HT : Hid (∀ w2 : World, Below w.heap.size w w2 → Tabs w2) := Lib.hid (fun w2 h2 => hT.step h2)
  have HH := Lib.hid hh
  have HF := Lib.hid hF
  have HKS := Lib.hid hks
  have HKN := Lib.hid hK
  have HSZ := Lib.hid hsz
  have hpre := kidsTo_pre F (K.map Int.toNat) h K.length
  obtain ⟨lt1, lt2, lt3⟩ := lit1
  have HP : Hid (h.size = (1 + nm.size)) := Lib.hid (by rw [hh]; simp only [ByteArray.size_append, lt1, lt2])
  have g0 : h.size ≤ 70368744177664 := by omega
  have HG := Lib.hid g0
  have HNM := Lib.hid hnm
  have D0 := Lib.hid (FB.new w (.slice (some ⟨b, off, none⟩) n cap) root #[.int .i64 (k : Int), .int .i64 sf, .int .i64 st, .slice ks K.length kc, .string text, .int .i64 B, .string N, .int .i64 D, .string M, .int .i64 num, .int .i64 wf, .int .i64 wt, .slice es en ec])
  obtain ⟨W0, hW0⟩ : ∃ W0, W0 = (w.alloc (.cells #[.slice (some ⟨b, off, none⟩) n cap, .int .i64 root] 24)).alloc (.cells #[.int .i64 (k : Int), .int .i64 sf, .int .i64 st, .slice ks K.length kc, .string text, .int .i64 B, .string N, .int .i64 D, .string M, .int .i64 num, .int .i64 wf, .int .i64 wt, .slice es en ec] 46) := ⟨_, rfl⟩
  rw [← hW0] at D0
  have HW0 := Lib.hid hW0
  have k19 : ((k : Int) == 19) = false := by simp; omega
  have k21 : ((k : Int) == 21) = false := by simp; omega
  have k40 : ((k : Int) == 40) = false := by simp; omega
  have k41 : ((k : Int) == 41) = false := by simp; omega
  have k42 : ((k : Int) == 42) = false := by simp; omega
  have k43 : ((k : Int) == 43) = false := by simp; omega
  have k44 : ((k : Int) == 44) = false := by simp; omega
  have k45 : ((k : Int) == 45) = false := by simp; omega
  have HTX := Lib.hid (fun w2 => rtext_any (k : Int) w2)
  have HTY := Lib.hid (fun w2 => rtyped_any (k : Int) w2)
  rw [htx] at HTX
  rw [hty] at HTY
  have HRN := Lib.hid (fun w2 => rname_any (k : Int) w2)
  rw [hnm] at HRN
  clear hT hh hF hks hK hpre hW0 htx hty hnm hsz g0
  go_enter Tryz.func15, Tryz.ntmps15
  go_wp2_with fail
  try rw [← HW0.out]
  clear HW0 c0 c1 c2 c3 c4 c5 c6 c7 c8 c9 c10 c11 c12
  obtain ⟨⟨e0, e1⟩, ⟨a0, a3, a4, a5, a6, a7, a8, a9⟩, ⟨al, am⟩, af⟩ := D0.out.all
  refine (HTY.out _).mono ?_
  rintro e w100 ⟨rfl, rfl⟩
  clear e0 e1 a0 a3 a4 a5 a6 a7 a8 a9 al am af
  obtain ⟨⟨e0, e1⟩, ⟨a0, a3, a4, a5, a6, a7, a8, a9⟩, ⟨al, am⟩, af⟩ := D0.out.all
  go_wp2_with fail
  refine (HRN.out _).mono ?_
  rintro e w2 ⟨rfl, q2⟩
  have D1 := Lib.hid (D0.out.keep q2)
  clear q2
  clear e0 e1 a0 a3 a4 a5 a6 a7 a8 a9 al am af
  clear D0
  obtain ⟨⟨e0, e1⟩, ⟨a0, a3, a4, a5, a6, a7, a8, a9⟩, ⟨al, am⟩, af⟩ := D1.out.all
  have s0 : ¬ 9223372036854775807 < 1 + nm.size := by omega
  go_wp2_with fail
  refine (HTX.out _).mono ?_
  rintro e w102 ⟨rfl, rfl⟩
  clear e0 e1 a0 a3 a4 a5 a6 a7 a8 a9 al am af
  obtain ⟨⟨e0, e1⟩, ⟨a0, a3, a4, a5, a6, a7, a8, a9⟩, ⟨al, am⟩, af⟩ := D1.out.all
  go_wp2_with fail
  refine (HTY.out _).mono ?_
  rintro e w103 ⟨rfl, rfl⟩
  clear e0 e1 a0 a3 a4 a5 a6 a7 a8 a9 al am af
  obtain ⟨⟨e0, e1⟩, ⟨a0, a3, a4, a5, a6, a7, a8, a9⟩, ⟨al, am⟩, af⟩ := D1.out.all
  go_wp2_with fail
  have E0 : Hid (((⟨#[40]⟩ : ByteArray) ++ nm) = kidsTo F (K.map Int.toNat) h 0) := Lib.hid (by show _ = h; rw [HH.out])
  obtain ⟨m, hm⟩ : ∃ m, K.length = m := ⟨_, rfl⟩
  have HM := Lib.hid hm
  rw [hm] at hKl ⊢
  clear hm
  rw [HM.out] at a3 HSZ D1
  try rw [E0.out]
  clear E0
  clear e0 e1 a0 a3 a4 a5 a6 a7 a8 a9 al am af
  go_loopw [8, 97] (fun s i wr => ∃ j : Nat, j ≤ m ∧ i = .int .i64 j ∧ s = .string (kidsTo F (K.map Int.toNat) h j) ∧ FB w (.slice (some ⟨b, off, none⟩) n cap) root [.int .i64 (k : Int), .int .i64 sf, .int .i64 st, .slice ks m kc, .string text, .int .i64 B, .string N, .int .i64 D, .string M, .int .i64 num, .int .i64 wf, .int .i64 wt, .slice es en ec] wr) (fun _ i _ => m - (intOf i).toNat)
  case atStart => exact ⟨0, Nat.zero_le _, rfl, rfl, D1.out⟩
  case round =>
    clear D1
    obtain ⟨j, hj, rfl, rfl, hd⟩ := hrel
    have HD9 := Lib.hid hd
    clear hd
    have hle : (kidsTo F (K.map Int.toNat) h j).size ≤ (kidsTo F (K.map Int.toNat) h m).size := by have := kidsTo_leI F K h j; rw [HM.out] at this; exact this
    have HLE : Hid ((kidsTo F (K.map Int.toNat) h j).size + 1 ≤ 70368744177664) := Lib.hid (by have := HSZ.out; omega)
    clear hle
    obtain ⟨⟨e0, e1⟩, ⟨a0, a3, a4, a5, a6, a7, a8, a9⟩, ⟨al, am⟩, af⟩ := HD9.out.all
    by_cases hlt : j < m
    · have hjK : j < K.length := by have := HM.out; omega
      obtain ⟨kb, koff, rfl, hkb, hkrow⟩ := HKS.out (by omega)
      have ek := keep HD9.out.bel hkb (hkrow j hjK)
      have hnat := HKN.out _ (List.getElem_mem hjK)
      have HREC := Lib.hid (HF.out _ (List.getElem_mem hjK))
      have HST : Hid (kidsTo F (K.map Int.toNat) h (j + 1) = kidsTo F (K.map Int.toNat) h j ++ ⟨#[32]⟩ ++ F K[j].toNat) := Lib.hid (by
        rw [kidsTo_succ F _ h j (by simpa using hjK)]; simp)
      have HS2 : Hid ((kidsTo F (K.map Int.toNat) h j).size + (1 + (F K[j].toNat).size) ≤ 70368744177664) := Lib.hid (by
        have h1 := kidsTo_leI F K h (j + 1)
        have h2 := HSZ.out
        rw [HST.out, HM.out] at h1
        simp only [ByteArray.size_append, lt1] at h1
        omega)
      clear hkrow
      generalize K[j] = kj at *
      generalize kidsTo F (K.map Int.toNat) h j = x at *
      generalize F kj.toNat = y at *
      go_wp2_with fail
      refine (HREC.out _ HD9.out.bel).mono ?_
      rintro e w50 ⟨rfl, q50⟩
      have D50 := Lib.hid (HD9.out.keep q50)
      clear q50 HREC ek
      clear e0 e1 a0 a3 a4 a5 a6 a7 a8 a9 al am af
      have z1 : ¬ 9223372036854775807 < 1 + y.size := by have := HS2.out; omega
      have z2 : ¬ 9223372036854775807 < x.size + ((⟨#[32]⟩ : ByteArray) ++ y).size := by simp only [ByteArray.size_append, lt1]; have := HS2.out; omega
      go_wp2_with fail
      go_roundw
      case rel => exact ⟨j + 1, by omega, by go_num, by rw [HST.out, ByteArray.append_assoc], D50.out⟩
      case measure => simp [intOf]; omega
    · have hj' : j = m := by omega
      subst hj'
      generalize hx : kidsTo F (K.map Int.toNat) h j = x at *
      have HX := Lib.hid hx
      clear hx
      have z1 : ¬ 9223372036854775807 < x.size + (⟨#[41]⟩ : ByteArray).size := by rw [lt3]; have := HLE.out; omega
      have z2 : ¬ 9223372036854775807 < x.size + 1 := by have := HLE.out; omega
      go_wp2_with fail
      go_ret
      exact ⟨by rw [HM.out, HX.out]; rfl, HD9.out.bel⟩

set_option maxRecDepth 100000 in
set_option maxHeartbeats 4000000 in
theorem rf_bf19 (w : World) (b off n cap : Nat) (root : Int) (a : Nat) (sf st : Int) (ks : Option Addr) (K : List Int) (kc : Nat) (text : ByteArray) (B : Int) (N : ByteArray) (D : Int) (M : ByteArray) (num wf wt : Int) (es : Option Addr) (en ec : Nat) (nm : ByteArray) (F : Nat → ByteArray) (h : ByteArray)
    (c0 : w.cell? ⟨b, off + a * 13, none⟩ = some (.int .i64 19)) (c1 : w.cell? ⟨b, off + a * 13 + 1, none⟩ = some (.int .i64 sf)) (c2 : w.cell? ⟨b, off + a * 13 + 2, none⟩ = some (.int .i64 st)) (c3 : w.cell? ⟨b, off + a * 13 + 3, none⟩ = some (.slice ks K.length kc)) (c4 : w.cell? ⟨b, off + a * 13 + 4, none⟩ = some (.string text)) (c5 : w.cell? ⟨b, off + a * 13 + 5, none⟩ = some (.int .i64 B)) (c6 : w.cell? ⟨b, off + a * 13 + 6, none⟩ = some (.string N)) (c7 : w.cell? ⟨b, off + a * 13 + 7, none⟩ = some (.int .i64 D)) (c8 : w.cell? ⟨b, off + a * 13 + 8, none⟩ = some (.string M)) (c9 : w.cell? ⟨b, off + a * 13 + 9, none⟩ = some (.int .i64 num)) (c10 : w.cell? ⟨b, off + a * 13 + 10, none⟩ = some (.int .i64 wf)) (c11 : w.cell? ⟨b, off + a * 13 + 11, none⟩ = some (.int .i64 wt)) (c12 : w.cell? ⟨b, off + a * 13 + 12, none⟩ = some (.slice es en ec)) (hb : b < w.heap.size) (ha : a < n) (hn : n ≤ 70368744177664) (hks : NumsIn w ks K) (hK : ∀ q ∈ K, 0 ≤ q) (hKl : K.length ≤ 17592186044416) (hT : Tabs w) (hnm : nmS 19 = nm) (hns : nm.size ≤ 20)
    (hF : ∀ q ∈ K, ∀ w2, Below w.heap.size w w2 → Calls Tryz.prog 15 #[.agg #[.slice (some ⟨b, off, none⟩) n cap, .int .i64 root], .int .i64 q, .bool true] w2 fun e w' => e = .returned (.string (F q.toNat)) ∧ Below w2.heap.size w2 w')
    (hsz : (kidsTo F (K.map Int.toNat) h K.length).size + 1 ≤ 70368744177664)
    (htx : rtextB 19 = false) (hty : rtypedB 19 = false) (hnum : -9223372036854775808 ≤ num ∧ num ≤ 9223372036854775807) (hh : h = (⟨#[40]⟩ ++ nm) ++ (⟨#[32]⟩ ++ goPen.dec num)) :
    Calls Tryz.prog 15 #[.agg #[.slice (some ⟨b, off, none⟩) n cap, .int .i64 root], .int .i64 (a : Nat), .bool true] w fun e w' => e = .returned (.string (kidsTo F (K.map Int.toNat) h K.length ++ ⟨#[41]⟩)) ∧ Below w.heap.size w w' := by
  have HT : Hid (∀ w2 : World, Below w.heap.size w w2 → Tabs w2) := Lib.hid (fun w2 h2 => hT.step h2)
  have HH := Lib.hid hh
  have HF := Lib.hid hF
  have HKS := Lib.hid hks
  have HKN := Lib.hid hK
  have HSZ := Lib.hid hsz
  have hpre := kidsTo_pre F (K.map Int.toNat) h K.length
  obtain ⟨lt1, lt2, lt3⟩ := lit1
  have HP : Hid (h.size = (1 + nm.size) + (1 + (goPen.dec num).size)) := Lib.hid (by rw [hh]; simp only [ByteArray.size_append, lt1, lt2])
  have g0 : h.size ≤ 70368744177664 := by omega
  have HG := Lib.hid g0
  have HNM := Lib.hid hnm
  have HD := Lib.hid (fun w2 h2 => dec_any num w2 (HT.out w2 h2) hnum.1 hnum.2)
  generalize goPen.dec num = dt at *
  have D0 := Lib.hid (FB.new w (.slice (some ⟨b, off, none⟩) n cap) root #[.int .i64 19, .int .i64 sf, .int .i64 st, .slice ks K.length kc, .string text, .int .i64 B, .string N, .int .i64 D, .string M, .int .i64 num, .int .i64 wf, .int .i64 wt, .slice es en ec])
  obtain ⟨W0, hW0⟩ : ∃ W0, W0 = (w.alloc (.cells #[.slice (some ⟨b, off, none⟩) n cap, .int .i64 root] 24)).alloc (.cells #[.int .i64 19, .int .i64 sf, .int .i64 st, .slice ks K.length kc, .string text, .int .i64 B, .string N, .int .i64 D, .string M, .int .i64 num, .int .i64 wf, .int .i64 wt, .slice es en ec] 46) := ⟨_, rfl⟩
  rw [← hW0] at D0
  have HW0 := Lib.hid hW0
  have HTX := Lib.hid (fun w2 => rtext_any 19 w2)
  have HTY := Lib.hid (fun w2 => rtyped_any 19 w2)
  rw [htx] at HTX
  rw [hty] at HTY
  have HRN := Lib.hid (fun w2 => rname_any 19 w2)
  rw [hnm] at HRN
  clear hT hh hF hks hK hpre hW0 htx hty hnm hsz g0
  go_enter Tryz.func15, Tryz.ntmps15
  go_wp2_with fail
  try rw [← HW0.out]
  clear HW0 c0 c1 c2 c3 c4 c5 c6 c7 c8 c9 c10 c11 c12
  obtain ⟨⟨e0, e1⟩, ⟨a0, a3, a4, a5, a6, a7, a8, a9⟩, ⟨al, am⟩, af⟩ := D0.out.all
  refine (HTY.out _).mono ?_
  rintro e w100 ⟨rfl, rfl⟩
  clear e0 e1 a0 a3 a4 a5 a6 a7 a8 a9 al am af
  obtain ⟨⟨e0, e1⟩, ⟨a0, a3, a4, a5, a6, a7, a8, a9⟩, ⟨al, am⟩, af⟩ := D0.out.all
  go_wp2_with fail
  refine (HRN.out _).mono ?_
  rintro e w2 ⟨rfl, q2⟩
  have D1 := Lib.hid (D0.out.keep q2)
  clear q2
  clear e0 e1 a0 a3 a4 a5 a6 a7 a8 a9 al am af
  clear D0
  obtain ⟨⟨e0, e1⟩, ⟨a0, a3, a4, a5, a6, a7, a8, a9⟩, ⟨al, am⟩, af⟩ := D1.out.all
  have s0 : ¬ 9223372036854775807 < 1 + nm.size := by omega
  go_wp2_with fail
  refine (HTX.out _).mono ?_
  rintro e w102 ⟨rfl, rfl⟩
  clear e0 e1 a0 a3 a4 a5 a6 a7 a8 a9 al am af
  obtain ⟨⟨e0, e1⟩, ⟨a0, a3, a4, a5, a6, a7, a8, a9⟩, ⟨al, am⟩, af⟩ := D1.out.all
  go_wp2_with fail
  refine (HTY.out _).mono ?_
  rintro e w103 ⟨rfl, rfl⟩
  clear e0 e1 a0 a3 a4 a5 a6 a7 a8 a9 al am af
  obtain ⟨⟨e0, e1⟩, ⟨a0, a3, a4, a5, a6, a7, a8, a9⟩, ⟨al, am⟩, af⟩ := D1.out.all
  go_wp2_with fail
  refine (HD.out _ D1.out.bel).mono ?_
  rintro e w5 ⟨rfl, q5⟩
  have D2 := Lib.hid (D1.out.keep q5)
  clear q5
  clear e0 e1 a0 a3 a4 a5 a6 a7 a8 a9 al am af
  clear D1
  obtain ⟨⟨e0, e1⟩, ⟨a0, a3, a4, a5, a6, a7, a8, a9⟩, ⟨al, am⟩, af⟩ := D2.out.all
  have s3 : ¬ 9223372036854775807 < 1 + dt.size := by have := HP.out; have := HG.out; omega
  have t3 : ¬ 9223372036854775807 < ((⟨#[40]⟩ : ByteArray) ++ nm).size + ((⟨#[32]⟩ : ByteArray) ++ dt).size := by simp only [ByteArray.size_append, lt1, lt2]; have := HP.out; have := HG.out; omega
  go_wp2_with fail
  have E0 : Hid ((((⟨#[40]⟩ : ByteArray) ++ nm) ++ ((⟨#[32]⟩ : ByteArray) ++ dt)) = kidsTo F (K.map Int.toNat) h 0) := Lib.hid (by show _ = h; rw [HH.out])
  obtain ⟨m, hm⟩ : ∃ m, K.length = m := ⟨_, rfl⟩
  have HM := Lib.hid hm
  rw [hm] at hKl ⊢
  clear hm
  rw [HM.out] at a3 HSZ D2
  try rw [E0.out]
  clear E0
  clear e0 e1 a0 a3 a4 a5 a6 a7 a8 a9 al am af
  go_loopw [8, 97] (fun s i wr => ∃ j : Nat, j ≤ m ∧ i = .int .i64 j ∧ s = .string (kidsTo F (K.map Int.toNat) h j) ∧ FB w (.slice (some ⟨b, off, none⟩) n cap) root [.int .i64 19, .int .i64 sf, .int .i64 st, .slice ks m kc, .string text, .int .i64 B, .string N, .int .i64 D, .string M, .int .i64 num, .int .i64 wf, .int .i64 wt, .slice es en ec] wr) (fun _ i _ => m - (intOf i).toNat)
  case atStart => exact ⟨0, Nat.zero_le _, rfl, rfl, D2.out⟩
  case round =>
    clear D2
    obtain ⟨j, hj, rfl, rfl, hd⟩ := hrel
    have HD9 := Lib.hid hd
    clear hd
    have hle : (kidsTo F (K.map Int.toNat) h j).size ≤ (kidsTo F (K.map Int.toNat) h m).size := by have := kidsTo_leI F K h j; rw [HM.out] at this; exact this
    have HLE : Hid ((kidsTo F (K.map Int.toNat) h j).size + 1 ≤ 70368744177664) := Lib.hid (by have := HSZ.out; omega)
    clear hle
    obtain ⟨⟨e0, e1⟩, ⟨a0, a3, a4, a5, a6, a7, a8, a9⟩, ⟨al, am⟩, af⟩ := HD9.out.all
    by_cases hlt : j < m
    · have hjK : j < K.length := by have := HM.out; omega
      obtain ⟨kb, koff, rfl, hkb, hkrow⟩ := HKS.out (by omega)
      have ek := keep HD9.out.bel hkb (hkrow j hjK)
      have hnat := HKN.out _ (List.getElem_mem hjK)
      have HREC := Lib.hid (HF.out _ (List.getElem_mem hjK))
      have HST : Hid (kidsTo F (K.map Int.toNat) h (j + 1) = kidsTo F (K.map Int.toNat) h j ++ ⟨#[32]⟩ ++ F K[j].toNat) := Lib.hid (by
        rw [kidsTo_succ F _ h j (by simpa using hjK)]; simp)
      have HS2 : Hid ((kidsTo F (K.map Int.toNat) h j).size + (1 + (F K[j].toNat).size) ≤ 70368744177664) := Lib.hid (by
        have h1 := kidsTo_leI F K h (j + 1)
        have h2 := HSZ.out
        rw [HST.out, HM.out] at h1
        simp only [ByteArray.size_append, lt1] at h1
        omega)
      clear hkrow
      generalize K[j] = kj at *
      generalize kidsTo F (K.map Int.toNat) h j = x at *
      generalize F kj.toNat = y at *
      go_wp2_with fail
      refine (HREC.out _ HD9.out.bel).mono ?_
      rintro e w50 ⟨rfl, q50⟩
      have D50 := Lib.hid (HD9.out.keep q50)
      clear q50 HREC ek
      clear e0 e1 a0 a3 a4 a5 a6 a7 a8 a9 al am af
      have z1 : ¬ 9223372036854775807 < 1 + y.size := by have := HS2.out; omega
      have z2 : ¬ 9223372036854775807 < x.size + ((⟨#[32]⟩ : ByteArray) ++ y).size := by simp only [ByteArray.size_append, lt1]; have := HS2.out; omega
      go_wp2_with fail
      go_roundw
      case rel => exact ⟨j + 1, by omega, by go_num, by rw [HST.out, ByteArray.append_assoc], D50.out⟩
      case measure => simp [intOf]; omega
    · have hj' : j = m := by omega
      subst hj'
      generalize hx : kidsTo F (K.map Int.toNat) h j = x at *
      have HX := Lib.hid hx
      clear hx
      have z1 : ¬ 9223372036854775807 < x.size + (⟨#[41]⟩ : ByteArray).size := by rw [lt3]; have := HLE.out; omega
      have z2 : ¬ 9223372036854775807 < x.size + 1 := by have := HLE.out; omega
      go_wp2_with fail
      go_ret
      exact ⟨by rw [HM.out, HX.out]; rfl, HD9.out.bel⟩

set_option maxRecDepth 100000 in
set_option maxHeartbeats 4000000 in
theorem rf_bf21 (w : World) (b off n cap : Nat) (root : Int) (a : Nat) (sf st : Int) (ks : Option Addr) (K : List Int) (kc : Nat) (text : ByteArray) (B : Int) (N : ByteArray) (D : Int) (M : ByteArray) (num wf wt : Int) (es : Option Addr) (en ec : Nat) (nm : ByteArray) (F : Nat → ByteArray) (h : ByteArray)
    (c0 : w.cell? ⟨b, off + a * 13, none⟩ = some (.int .i64 21)) (c1 : w.cell? ⟨b, off + a * 13 + 1, none⟩ = some (.int .i64 sf)) (c2 : w.cell? ⟨b, off + a * 13 + 2, none⟩ = some (.int .i64 st)) (c3 : w.cell? ⟨b, off + a * 13 + 3, none⟩ = some (.slice ks K.length kc)) (c4 : w.cell? ⟨b, off + a * 13 + 4, none⟩ = some (.string text)) (c5 : w.cell? ⟨b, off + a * 13 + 5, none⟩ = some (.int .i64 B)) (c6 : w.cell? ⟨b, off + a * 13 + 6, none⟩ = some (.string N)) (c7 : w.cell? ⟨b, off + a * 13 + 7, none⟩ = some (.int .i64 D)) (c8 : w.cell? ⟨b, off + a * 13 + 8, none⟩ = some (.string M)) (c9 : w.cell? ⟨b, off + a * 13 + 9, none⟩ = some (.int .i64 num)) (c10 : w.cell? ⟨b, off + a * 13 + 10, none⟩ = some (.int .i64 wf)) (c11 : w.cell? ⟨b, off + a * 13 + 11, none⟩ = some (.int .i64 wt)) (c12 : w.cell? ⟨b, off + a * 13 + 12, none⟩ = some (.slice es en ec)) (hb : b < w.heap.size) (ha : a < n) (hn : n ≤ 70368744177664) (hks : NumsIn w ks K) (hK : ∀ q ∈ K, 0 ≤ q) (hKl : K.length ≤ 17592186044416) (hT : Tabs w) (hnm : nmS 21 = nm) (hns : nm.size ≤ 20)
    (hF : ∀ q ∈ K, ∀ w2, Below w.heap.size w w2 → Calls Tryz.prog 15 #[.agg #[.slice (some ⟨b, off, none⟩) n cap, .int .i64 root], .int .i64 q, .bool true] w2 fun e w' => e = .returned (.string (F q.toNat)) ∧ Below w2.heap.size w2 w')
    (hsz : (kidsTo F (K.map Int.toNat) h K.length).size + 1 ≤ 70368744177664)
    (htx : rtextB 21 = false) (hty : rtypedB 21 = false) (hnum : -9223372036854775808 ≤ num ∧ num ≤ 9223372036854775807) (hh : h = (⟨#[40]⟩ ++ nm) ++ (⟨#[32]⟩ ++ goPen.dec num)) :
    Calls Tryz.prog 15 #[.agg #[.slice (some ⟨b, off, none⟩) n cap, .int .i64 root], .int .i64 (a : Nat), .bool true] w fun e w' => e = .returned (.string (kidsTo F (K.map Int.toNat) h K.length ++ ⟨#[41]⟩)) ∧ Below w.heap.size w w' := by
  have HT : Hid (∀ w2 : World, Below w.heap.size w w2 → Tabs w2) := Lib.hid (fun w2 h2 => hT.step h2)
  have HH := Lib.hid hh
  have HF := Lib.hid hF
  have HKS := Lib.hid hks
  have HKN := Lib.hid hK
  have HSZ := Lib.hid hsz
  have hpre := kidsTo_pre F (K.map Int.toNat) h K.length
  obtain ⟨lt1, lt2, lt3⟩ := lit1
  have HP : Hid (h.size = (1 + nm.size) + (1 + (goPen.dec num).size)) := Lib.hid (by rw [hh]; simp only [ByteArray.size_append, lt1, lt2])
  have g0 : h.size ≤ 70368744177664 := by omega
  have HG := Lib.hid g0
  have HNM := Lib.hid hnm
  have HD := Lib.hid (fun w2 h2 => dec_any num w2 (HT.out w2 h2) hnum.1 hnum.2)
  generalize goPen.dec num = dt at *
  have D0 := Lib.hid (FB.new w (.slice (some ⟨b, off, none⟩) n cap) root #[.int .i64 21, .int .i64 sf, .int .i64 st, .slice ks K.length kc, .string text, .int .i64 B, .string N, .int .i64 D, .string M, .int .i64 num, .int .i64 wf, .int .i64 wt, .slice es en ec])
  obtain ⟨W0, hW0⟩ : ∃ W0, W0 = (w.alloc (.cells #[.slice (some ⟨b, off, none⟩) n cap, .int .i64 root] 24)).alloc (.cells #[.int .i64 21, .int .i64 sf, .int .i64 st, .slice ks K.length kc, .string text, .int .i64 B, .string N, .int .i64 D, .string M, .int .i64 num, .int .i64 wf, .int .i64 wt, .slice es en ec] 46) := ⟨_, rfl⟩
  rw [← hW0] at D0
  have HW0 := Lib.hid hW0
  have HTX := Lib.hid (fun w2 => rtext_any 21 w2)
  have HTY := Lib.hid (fun w2 => rtyped_any 21 w2)
  rw [htx] at HTX
  rw [hty] at HTY
  have HRN := Lib.hid (fun w2 => rname_any 21 w2)
  rw [hnm] at HRN
  clear hT hh hF hks hK hpre hW0 htx hty hnm hsz g0
  go_enter Tryz.func15, Tryz.ntmps15
  go_wp2_with fail
  try rw [← HW0.out]
  clear HW0 c0 c1 c2 c3 c4 c5 c6 c7 c8 c9 c10 c11 c12
  obtain ⟨⟨e0, e1⟩, ⟨a0, a3, a4, a5, a6, a7, a8, a9⟩, ⟨al, am⟩, af⟩ := D0.out.all
  refine (HTY.out _).mono ?_
  rintro e w100 ⟨rfl, rfl⟩
  clear e0 e1 a0 a3 a4 a5 a6 a7 a8 a9 al am af
  obtain ⟨⟨e0, e1⟩, ⟨a0, a3, a4, a5, a6, a7, a8, a9⟩, ⟨al, am⟩, af⟩ := D0.out.all
  go_wp2_with fail
  refine (HRN.out _).mono ?_
  rintro e w2 ⟨rfl, q2⟩
  have D1 := Lib.hid (D0.out.keep q2)
  clear q2
  clear e0 e1 a0 a3 a4 a5 a6 a7 a8 a9 al am af
  clear D0
  obtain ⟨⟨e0, e1⟩, ⟨a0, a3, a4, a5, a6, a7, a8, a9⟩, ⟨al, am⟩, af⟩ := D1.out.all
  have s0 : ¬ 9223372036854775807 < 1 + nm.size := by omega
  go_wp2_with fail
  refine (HTX.out _).mono ?_
  rintro e w102 ⟨rfl, rfl⟩
  clear e0 e1 a0 a3 a4 a5 a6 a7 a8 a9 al am af
  obtain ⟨⟨e0, e1⟩, ⟨a0, a3, a4, a5, a6, a7, a8, a9⟩, ⟨al, am⟩, af⟩ := D1.out.all
  go_wp2_with fail
  refine (HTY.out _).mono ?_
  rintro e w103 ⟨rfl, rfl⟩
  clear e0 e1 a0 a3 a4 a5 a6 a7 a8 a9 al am af
  obtain ⟨⟨e0, e1⟩, ⟨a0, a3, a4, a5, a6, a7, a8, a9⟩, ⟨al, am⟩, af⟩ := D1.out.all
  go_wp2_with fail
  refine (HD.out _ D1.out.bel).mono ?_
  rintro e w5 ⟨rfl, q5⟩
  have D2 := Lib.hid (D1.out.keep q5)
  clear q5
  clear e0 e1 a0 a3 a4 a5 a6 a7 a8 a9 al am af
  clear D1
  obtain ⟨⟨e0, e1⟩, ⟨a0, a3, a4, a5, a6, a7, a8, a9⟩, ⟨al, am⟩, af⟩ := D2.out.all
  have s3 : ¬ 9223372036854775807 < 1 + dt.size := by have := HP.out; have := HG.out; omega
  have t3 : ¬ 9223372036854775807 < ((⟨#[40]⟩ : ByteArray) ++ nm).size + ((⟨#[32]⟩ : ByteArray) ++ dt).size := by simp only [ByteArray.size_append, lt1, lt2]; have := HP.out; have := HG.out; omega
  go_wp2_with fail
  have E0 : Hid ((((⟨#[40]⟩ : ByteArray) ++ nm) ++ ((⟨#[32]⟩ : ByteArray) ++ dt)) = kidsTo F (K.map Int.toNat) h 0) := Lib.hid (by show _ = h; rw [HH.out])
  obtain ⟨m, hm⟩ : ∃ m, K.length = m := ⟨_, rfl⟩
  have HM := Lib.hid hm
  rw [hm] at hKl ⊢
  clear hm
  rw [HM.out] at a3 HSZ D2
  try rw [E0.out]
  clear E0
  clear e0 e1 a0 a3 a4 a5 a6 a7 a8 a9 al am af
  go_loopw [8, 97] (fun s i wr => ∃ j : Nat, j ≤ m ∧ i = .int .i64 j ∧ s = .string (kidsTo F (K.map Int.toNat) h j) ∧ FB w (.slice (some ⟨b, off, none⟩) n cap) root [.int .i64 21, .int .i64 sf, .int .i64 st, .slice ks m kc, .string text, .int .i64 B, .string N, .int .i64 D, .string M, .int .i64 num, .int .i64 wf, .int .i64 wt, .slice es en ec] wr) (fun _ i _ => m - (intOf i).toNat)
  case atStart => exact ⟨0, Nat.zero_le _, rfl, rfl, D2.out⟩
  case round =>
    clear D2
    obtain ⟨j, hj, rfl, rfl, hd⟩ := hrel
    have HD9 := Lib.hid hd
    clear hd
    have hle : (kidsTo F (K.map Int.toNat) h j).size ≤ (kidsTo F (K.map Int.toNat) h m).size := by have := kidsTo_leI F K h j; rw [HM.out] at this; exact this
    have HLE : Hid ((kidsTo F (K.map Int.toNat) h j).size + 1 ≤ 70368744177664) := Lib.hid (by have := HSZ.out; omega)
    clear hle
    obtain ⟨⟨e0, e1⟩, ⟨a0, a3, a4, a5, a6, a7, a8, a9⟩, ⟨al, am⟩, af⟩ := HD9.out.all
    by_cases hlt : j < m
    · have hjK : j < K.length := by have := HM.out; omega
      obtain ⟨kb, koff, rfl, hkb, hkrow⟩ := HKS.out (by omega)
      have ek := keep HD9.out.bel hkb (hkrow j hjK)
      have hnat := HKN.out _ (List.getElem_mem hjK)
      have HREC := Lib.hid (HF.out _ (List.getElem_mem hjK))
      have HST : Hid (kidsTo F (K.map Int.toNat) h (j + 1) = kidsTo F (K.map Int.toNat) h j ++ ⟨#[32]⟩ ++ F K[j].toNat) := Lib.hid (by
        rw [kidsTo_succ F _ h j (by simpa using hjK)]; simp)
      have HS2 : Hid ((kidsTo F (K.map Int.toNat) h j).size + (1 + (F K[j].toNat).size) ≤ 70368744177664) := Lib.hid (by
        have h1 := kidsTo_leI F K h (j + 1)
        have h2 := HSZ.out
        rw [HST.out, HM.out] at h1
        simp only [ByteArray.size_append, lt1] at h1
        omega)
      clear hkrow
      generalize K[j] = kj at *
      generalize kidsTo F (K.map Int.toNat) h j = x at *
      generalize F kj.toNat = y at *
      go_wp2_with fail
      refine (HREC.out _ HD9.out.bel).mono ?_
      rintro e w50 ⟨rfl, q50⟩
      have D50 := Lib.hid (HD9.out.keep q50)
      clear q50 HREC ek
      clear e0 e1 a0 a3 a4 a5 a6 a7 a8 a9 al am af
      have z1 : ¬ 9223372036854775807 < 1 + y.size := by have := HS2.out; omega
      have z2 : ¬ 9223372036854775807 < x.size + ((⟨#[32]⟩ : ByteArray) ++ y).size := by simp only [ByteArray.size_append, lt1]; have := HS2.out; omega
      go_wp2_with fail
      go_roundw
      case rel => exact ⟨j + 1, by omega, by go_num, by rw [HST.out, ByteArray.append_assoc], D50.out⟩
      case measure => simp [intOf]; omega
    · have hj' : j = m := by omega
      subst hj'
      generalize hx : kidsTo F (K.map Int.toNat) h j = x at *
      have HX := Lib.hid hx
      clear hx
      have z1 : ¬ 9223372036854775807 < x.size + (⟨#[41]⟩ : ByteArray).size := by rw [lt3]; have := HLE.out; omega
      have z2 : ¬ 9223372036854775807 < x.size + 1 := by have := HLE.out; omega
      go_wp2_with fail
      go_ret
      exact ⟨by rw [HM.out, HX.out]; rfl, HD9.out.bel⟩

set_option maxRecDepth 100000 in
set_option maxHeartbeats 4000000 in
theorem rf_btf (w : World) (b off n cap : Nat) (root : Int) (a k : Nat) (sf st : Int) (ks : Option Addr) (K : List Int) (kc : Nat) (text : ByteArray) (B : Int) (N : ByteArray) (D : Int) (M : ByteArray) (num wf wt : Int) (es : Option Addr) (en ec : Nat) (nm : ByteArray) (F : Nat → ByteArray) (h : ByteArray)
    (c0 : w.cell? ⟨b, off + a * 13, none⟩ = some (.int .i64 (k : Int))) (c1 : w.cell? ⟨b, off + a * 13 + 1, none⟩ = some (.int .i64 sf)) (c2 : w.cell? ⟨b, off + a * 13 + 2, none⟩ = some (.int .i64 st)) (c3 : w.cell? ⟨b, off + a * 13 + 3, none⟩ = some (.slice ks K.length kc)) (c4 : w.cell? ⟨b, off + a * 13 + 4, none⟩ = some (.string text)) (c5 : w.cell? ⟨b, off + a * 13 + 5, none⟩ = some (.int .i64 B)) (c6 : w.cell? ⟨b, off + a * 13 + 6, none⟩ = some (.string N)) (c7 : w.cell? ⟨b, off + a * 13 + 7, none⟩ = some (.int .i64 D)) (c8 : w.cell? ⟨b, off + a * 13 + 8, none⟩ = some (.string M)) (c9 : w.cell? ⟨b, off + a * 13 + 9, none⟩ = some (.int .i64 num)) (c10 : w.cell? ⟨b, off + a * 13 + 10, none⟩ = some (.int .i64 wf)) (c11 : w.cell? ⟨b, off + a * 13 + 11, none⟩ = some (.int .i64 wt)) (c12 : w.cell? ⟨b, off + a * 13 + 12, none⟩ = some (.slice es en ec)) (hb : b < w.heap.size) (ha : a < n) (hn : n ≤ 70368744177664) (hks : NumsIn w ks K) (hK : ∀ q ∈ K, 0 ≤ q) (hKl : K.length ≤ 17592186044416) (hT : Tabs w) (h0 : 0 < k) (h1 : k < 46) (hnm : nmS (k : Int) = nm) (hns : nm.size ≤ 20)
    (hF : ∀ q ∈ K, ∀ w2, Below w.heap.size w w2 → Calls Tryz.prog 15 #[.agg #[.slice (some ⟨b, off, none⟩) n cap, .int .i64 root], .int .i64 q, .bool true] w2 fun e w' => e = .returned (.string (F q.toNat)) ∧ Below w2.heap.size w2 w')
    (hsz : (kidsTo F (K.map Int.toNat) h K.length).size + 1 ≤ 70368744177664)
    (htx : rtextB (k : Int) = true) (hty : rtypedB (k : Int) = false) (htext : text.size ≤ 200) (hn19 : ¬ k = 19) (hn21 : ¬ k = 21) (hn40 : ¬ (40 ≤ k ∧ k ≤ 45)) (hh : h = (⟨#[40]⟩ ++ nm) ++ (⟨#[32]⟩ ++ goPen.quote text)) :
    Calls Tryz.prog 15 #[.agg #[.slice (some ⟨b, off, none⟩) n cap, .int .i64 root], .int .i64 (a : Nat), .bool true] w fun e w' => e = .returned (.string (kidsTo F (K.map Int.toNat) h K.length ++ ⟨#[41]⟩)) ∧ Below w.heap.size w w' := by
  have HT : Hid (∀ w2 : World, Below w.heap.size w w2 → Tabs w2) := Lib.hid (fun w2 h2 => hT.step h2)
  have HH := Lib.hid hh
  have HF := Lib.hid hF
  have HKS := Lib.hid hks
  have HKN := Lib.hid hK
  have HSZ := Lib.hid hsz
  have hpre := kidsTo_pre F (K.map Int.toNat) h K.length
  obtain ⟨lt1, lt2, lt3⟩ := lit1
  have HP : Hid (h.size = (1 + nm.size) + (1 + (goPen.quote text).size)) := Lib.hid (by rw [hh]; simp only [ByteArray.size_append, lt1, lt2])
  have g0 : h.size ≤ 70368744177664 := by omega
  have HG := Lib.hid g0
  have HNM := Lib.hid hnm
  have HQ := Lib.hid (fun w2 h2 => quote_any text w2 (HT.out w2 h2) (by omega))
  generalize goPen.quote text = qt at *
  have D0 := Lib.hid (FB.new w (.slice (some ⟨b, off, none⟩) n cap) root #[.int .i64 (k : Int), .int .i64 sf, .int .i64 st, .slice ks K.length kc, .string text, .int .i64 B, .string N, .int .i64 D, .string M, .int .i64 num, .int .i64 wf, .int .i64 wt, .slice es en ec])
  obtain ⟨W0, hW0⟩ : ∃ W0, W0 = (w.alloc (.cells #[.slice (some ⟨b, off, none⟩) n cap, .int .i64 root] 24)).alloc (.cells #[.int .i64 (k : Int), .int .i64 sf, .int .i64 st, .slice ks K.length kc, .string text, .int .i64 B, .string N, .int .i64 D, .string M, .int .i64 num, .int .i64 wf, .int .i64 wt, .slice es en ec] 46) := ⟨_, rfl⟩
  rw [← hW0] at D0
  have HW0 := Lib.hid hW0
  have k19 : ((k : Int) == 19) = false := by simp; omega
  have k21 : ((k : Int) == 21) = false := by simp; omega
  have k40 : ((k : Int) == 40) = false := by simp; omega
  have k41 : ((k : Int) == 41) = false := by simp; omega
  have k42 : ((k : Int) == 42) = false := by simp; omega
  have k43 : ((k : Int) == 43) = false := by simp; omega
  have k44 : ((k : Int) == 44) = false := by simp; omega
  have k45 : ((k : Int) == 45) = false := by simp; omega
  have HTX := Lib.hid (fun w2 => rtext_any (k : Int) w2)
  have HTY := Lib.hid (fun w2 => rtyped_any (k : Int) w2)
  rw [htx] at HTX
  rw [hty] at HTY
  have HRN := Lib.hid (fun w2 => rname_any (k : Int) w2)
  rw [hnm] at HRN
  clear hT hh hF hks hK hpre hW0 htx hty hnm hsz g0
  go_enter Tryz.func15, Tryz.ntmps15
  go_wp2_with fail
  try rw [← HW0.out]
  clear HW0 c0 c1 c2 c3 c4 c5 c6 c7 c8 c9 c10 c11 c12
  obtain ⟨⟨e0, e1⟩, ⟨a0, a3, a4, a5, a6, a7, a8, a9⟩, ⟨al, am⟩, af⟩ := D0.out.all
  refine (HTY.out _).mono ?_
  rintro e w100 ⟨rfl, rfl⟩
  clear e0 e1 a0 a3 a4 a5 a6 a7 a8 a9 al am af
  obtain ⟨⟨e0, e1⟩, ⟨a0, a3, a4, a5, a6, a7, a8, a9⟩, ⟨al, am⟩, af⟩ := D0.out.all
  go_wp2_with fail
  refine (HRN.out _).mono ?_
  rintro e w2 ⟨rfl, q2⟩
  have D1 := Lib.hid (D0.out.keep q2)
  clear q2
  clear e0 e1 a0 a3 a4 a5 a6 a7 a8 a9 al am af
  clear D0
  obtain ⟨⟨e0, e1⟩, ⟨a0, a3, a4, a5, a6, a7, a8, a9⟩, ⟨al, am⟩, af⟩ := D1.out.all
  have s0 : ¬ 9223372036854775807 < 1 + nm.size := by omega
  go_wp2_with fail
  refine (HTX.out _).mono ?_
  rintro e w102 ⟨rfl, rfl⟩
  clear e0 e1 a0 a3 a4 a5 a6 a7 a8 a9 al am af
  obtain ⟨⟨e0, e1⟩, ⟨a0, a3, a4, a5, a6, a7, a8, a9⟩, ⟨al, am⟩, af⟩ := D1.out.all
  go_wp2_with fail
  refine (HQ.out _ D1.out.bel).mono ?_
  rintro e w4 ⟨rfl, q4⟩
  have D2 := Lib.hid (D1.out.keep q4)
  clear q4
  clear e0 e1 a0 a3 a4 a5 a6 a7 a8 a9 al am af
  clear D1
  obtain ⟨⟨e0, e1⟩, ⟨a0, a3, a4, a5, a6, a7, a8, a9⟩, ⟨al, am⟩, af⟩ := D2.out.all
  have s1 : ¬ 9223372036854775807 < 1 + qt.size := by have := HP.out; have := HG.out; omega
  have t1 : ¬ 9223372036854775807 < ((⟨#[40]⟩ : ByteArray) ++ nm).size + ((⟨#[32]⟩ : ByteArray) ++ qt).size := by simp only [ByteArray.size_append, lt1, lt2]; have := HP.out; have := HG.out; omega
  go_wp2_with fail
  refine (HTY.out _).mono ?_
  rintro e w104 ⟨rfl, rfl⟩
  clear e0 e1 a0 a3 a4 a5 a6 a7 a8 a9 al am af
  obtain ⟨⟨e0, e1⟩, ⟨a0, a3, a4, a5, a6, a7, a8, a9⟩, ⟨al, am⟩, af⟩ := D2.out.all
  go_wp2_with fail
  have E0 : Hid ((((⟨#[40]⟩ : ByteArray) ++ nm) ++ ((⟨#[32]⟩ : ByteArray) ++ qt)) = kidsTo F (K.map Int.toNat) h 0) := Lib.hid (by show _ = h; rw [HH.out])
  obtain ⟨m, hm⟩ : ∃ m, K.length = m := ⟨_, rfl⟩
  have HM := Lib.hid hm
  rw [hm] at hKl ⊢
  clear hm
  rw [HM.out] at a3 HSZ D2
  try rw [E0.out]
  clear E0
  clear e0 e1 a0 a3 a4 a5 a6 a7 a8 a9 al am af
  go_loopw [8, 97] (fun s i wr => ∃ j : Nat, j ≤ m ∧ i = .int .i64 j ∧ s = .string (kidsTo F (K.map Int.toNat) h j) ∧ FB w (.slice (some ⟨b, off, none⟩) n cap) root [.int .i64 (k : Int), .int .i64 sf, .int .i64 st, .slice ks m kc, .string text, .int .i64 B, .string N, .int .i64 D, .string M, .int .i64 num, .int .i64 wf, .int .i64 wt, .slice es en ec] wr) (fun _ i _ => m - (intOf i).toNat)
  case atStart => exact ⟨0, Nat.zero_le _, rfl, rfl, D2.out⟩
  case round =>
    clear D2
    obtain ⟨j, hj, rfl, rfl, hd⟩ := hrel
    have HD9 := Lib.hid hd
    clear hd
    have hle : (kidsTo F (K.map Int.toNat) h j).size ≤ (kidsTo F (K.map Int.toNat) h m).size := by have := kidsTo_leI F K h j; rw [HM.out] at this; exact this
    have HLE : Hid ((kidsTo F (K.map Int.toNat) h j).size + 1 ≤ 70368744177664) := Lib.hid (by have := HSZ.out; omega)
    clear hle
    obtain ⟨⟨e0, e1⟩, ⟨a0, a3, a4, a5, a6, a7, a8, a9⟩, ⟨al, am⟩, af⟩ := HD9.out.all
    by_cases hlt : j < m
    · have hjK : j < K.length := by have := HM.out; omega
      obtain ⟨kb, koff, rfl, hkb, hkrow⟩ := HKS.out (by omega)
      have ek := keep HD9.out.bel hkb (hkrow j hjK)
      have hnat := HKN.out _ (List.getElem_mem hjK)
      have HREC := Lib.hid (HF.out _ (List.getElem_mem hjK))
      have HST : Hid (kidsTo F (K.map Int.toNat) h (j + 1) = kidsTo F (K.map Int.toNat) h j ++ ⟨#[32]⟩ ++ F K[j].toNat) := Lib.hid (by
        rw [kidsTo_succ F _ h j (by simpa using hjK)]; simp)
      have HS2 : Hid ((kidsTo F (K.map Int.toNat) h j).size + (1 + (F K[j].toNat).size) ≤ 70368744177664) := Lib.hid (by
        have h1 := kidsTo_leI F K h (j + 1)
        have h2 := HSZ.out
        rw [HST.out, HM.out] at h1
        simp only [ByteArray.size_append, lt1] at h1
        omega)
      clear hkrow
      generalize K[j] = kj at *
      generalize kidsTo F (K.map Int.toNat) h j = x at *
      generalize F kj.toNat = y at *
      go_wp2_with fail
      refine (HREC.out _ HD9.out.bel).mono ?_
      rintro e w50 ⟨rfl, q50⟩
      have D50 := Lib.hid (HD9.out.keep q50)
      clear q50 HREC ek
      clear e0 e1 a0 a3 a4 a5 a6 a7 a8 a9 al am af
      have z1 : ¬ 9223372036854775807 < 1 + y.size := by have := HS2.out; omega
      have z2 : ¬ 9223372036854775807 < x.size + ((⟨#[32]⟩ : ByteArray) ++ y).size := by simp only [ByteArray.size_append, lt1]; have := HS2.out; omega
      go_wp2_with fail
      go_roundw
      case rel => exact ⟨j + 1, by omega, by go_num, by rw [HST.out, ByteArray.append_assoc], D50.out⟩
      case measure => simp [intOf]; omega
    · have hj' : j = m := by omega
      subst hj'
      generalize hx : kidsTo F (K.map Int.toNat) h j = x at *
      have HX := Lib.hid hx
      clear hx
      have z1 : ¬ 9223372036854775807 < x.size + (⟨#[41]⟩ : ByteArray).size := by rw [lt3]; have := HLE.out; omega
      have z2 : ¬ 9223372036854775807 < x.size + 1 := by have := HLE.out; omega
      go_wp2_with fail
      go_ret
      exact ⟨by rw [HM.out, HX.out]; rfl, HD9.out.bel⟩

set_option maxRecDepth 100000 in
set_option maxHeartbeats 4000000 in
theorem rf_bft (w : World) (b off n cap : Nat) (root : Int) (a k : Nat) (sf st : Int) (ks : Option Addr) (K : List Int) (kc : Nat) (text : ByteArray) (B : Int) (N : ByteArray) (D : Int) (M : ByteArray) (num wf wt : Int) (es : Option Addr) (en ec : Nat) (nm : ByteArray) (F : Nat → ByteArray) (h : ByteArray)
    (c0 : w.cell? ⟨b, off + a * 13, none⟩ = some (.int .i64 (k : Int))) (c1 : w.cell? ⟨b, off + a * 13 + 1, none⟩ = some (.int .i64 sf)) (c2 : w.cell? ⟨b, off + a * 13 + 2, none⟩ = some (.int .i64 st)) (c3 : w.cell? ⟨b, off + a * 13 + 3, none⟩ = some (.slice ks K.length kc)) (c4 : w.cell? ⟨b, off + a * 13 + 4, none⟩ = some (.string text)) (c5 : w.cell? ⟨b, off + a * 13 + 5, none⟩ = some (.int .i64 B)) (c6 : w.cell? ⟨b, off + a * 13 + 6, none⟩ = some (.string N)) (c7 : w.cell? ⟨b, off + a * 13 + 7, none⟩ = some (.int .i64 D)) (c8 : w.cell? ⟨b, off + a * 13 + 8, none⟩ = some (.string M)) (c9 : w.cell? ⟨b, off + a * 13 + 9, none⟩ = some (.int .i64 num)) (c10 : w.cell? ⟨b, off + a * 13 + 10, none⟩ = some (.int .i64 wf)) (c11 : w.cell? ⟨b, off + a * 13 + 11, none⟩ = some (.int .i64 wt)) (c12 : w.cell? ⟨b, off + a * 13 + 12, none⟩ = some (.slice es en ec)) (hb : b < w.heap.size) (ha : a < n) (hn : n ≤ 70368744177664) (hks : NumsIn w ks K) (hK : ∀ q ∈ K, 0 ≤ q) (hKl : K.length ≤ 17592186044416) (hT : Tabs w) (h0 : 0 < k) (h1 : k < 46) (hnm : nmS (k : Int) = nm) (hns : nm.size ≤ 20)
    (hF : ∀ q ∈ K, ∀ w2, Below w.heap.size w w2 → Calls Tryz.prog 15 #[.agg #[.slice (some ⟨b, off, none⟩) n cap, .int .i64 root], .int .i64 q, .bool true] w2 fun e w' => e = .returned (.string (F q.toNat)) ∧ Below w2.heap.size w2 w')
    (hsz : (kidsTo F (K.map Int.toNat) h K.length).size + 1 ≤ 70368744177664)
    (htx : rtextB (k : Int) = false) (hty : rtypedB (k : Int) = true) (hNs : N.size ≤ 200) (hMs : M.size ≤ 5) (hR : rightB B N D M = true) (hn19 : ¬ k = 19) (hn21 : ¬ k = 21) (hn40 : ¬ (40 ≤ k ∧ k ≤ 45)) (hh : h = (⟨#[40]⟩ ++ nm) ++ (⟨#[32]⟩ ++ typeS B N (blankT M.size))) :
    Calls Tryz.prog 15 #[.agg #[.slice (some ⟨b, off, none⟩) n cap, .int .i64 root], .int .i64 (a : Nat), .bool true] w fun e w' => e = .returned (.string (kidsTo F (K.map Int.toNat) h K.length ++ ⟨#[41]⟩)) ∧ Below w.heap.size w w' := by
  have HT : Hid (∀ w2 : World, Below w.heap.size w w2 → Tabs w2) := Lib.hid (fun w2 h2 => hT.step h2)
  have HH := Lib.hid hh
  have HF := Lib.hid hF
  have HKS := Lib.hid hks
  have HKN := Lib.hid hK
  have HSZ := Lib.hid hsz
  have hpre := kidsTo_pre F (K.map Int.toNat) h K.length
  obtain ⟨lt1, lt2, lt3⟩ := lit1
  have HP : Hid (h.size = (1 + nm.size) + (1 + (typeS B N (blankT M.size)).size)) := Lib.hid (by rw [hh]; simp only [ByteArray.size_append, lt1, lt2])
  have g0 : h.size ≤ 70368744177664 := by omega
  have HG := Lib.hid g0
  have HNM := Lib.hid hnm
  obtain ⟨d, hd0, hd4, hdm⟩ := right_bounds hR
  subst hd0
  have HB := Lib.hid (fun w2 => refB_any B N (d : Int) M w2 hMs)
  have hMz : (blankT M.size).size ≤ 60 := by rw [blankT_size]; omega
  have HY := Lib.hid (fun w2 => refT_any B N d (blankT M.size) w2 hNs hMz (right_blank hR))
  clear hMz
  generalize typeS B N (blankT M.size) = yt at *
  generalize blankT M.size = M2 at *
  have D0 := Lib.hid (FB.new w (.slice (some ⟨b, off, none⟩) n cap) root #[.int .i64 (k : Int), .int .i64 sf, .int .i64 st, .slice ks K.length kc, .string text, .int .i64 B, .string N, .int .i64 (d : Int), .string M, .int .i64 num, .int .i64 wf, .int .i64 wt, .slice es en ec])
  obtain ⟨W0, hW0⟩ : ∃ W0, W0 = (w.alloc (.cells #[.slice (some ⟨b, off, none⟩) n cap, .int .i64 root] 24)).alloc (.cells #[.int .i64 (k : Int), .int .i64 sf, .int .i64 st, .slice ks K.length kc, .string text, .int .i64 B, .string N, .int .i64 (d : Int), .string M, .int .i64 num, .int .i64 wf, .int .i64 wt, .slice es en ec] 46) := ⟨_, rfl⟩
  rw [← hW0] at D0
  have HW0 := Lib.hid hW0
  have k19 : ((k : Int) == 19) = false := by simp; omega
  have k21 : ((k : Int) == 21) = false := by simp; omega
  have k40 : ((k : Int) == 40) = false := by simp; omega
  have k41 : ((k : Int) == 41) = false := by simp; omega
  have k42 : ((k : Int) == 42) = false := by simp; omega
  have k43 : ((k : Int) == 43) = false := by simp; omega
  have k44 : ((k : Int) == 44) = false := by simp; omega
  have k45 : ((k : Int) == 45) = false := by simp; omega
  have HTX := Lib.hid (fun w2 => rtext_any (k : Int) w2)
  have HTY := Lib.hid (fun w2 => rtyped_any (k : Int) w2)
  rw [htx] at HTX
  rw [hty] at HTY
  have HRN := Lib.hid (fun w2 => rname_any (k : Int) w2)
  rw [hnm] at HRN
  clear hT hh hF hks hK hpre hW0 htx hty hnm hsz g0
  go_enter Tryz.func15, Tryz.ntmps15
  go_wp2_with fail
  try rw [← HW0.out]
  clear HW0 c0 c1 c2 c3 c4 c5 c6 c7 c8 c9 c10 c11 c12
  obtain ⟨⟨e0, e1⟩, ⟨a0, a3, a4, a5, a6, a7, a8, a9⟩, ⟨al, am⟩, af⟩ := D0.out.all
  refine (HTY.out _).mono ?_
  rintro e w100 ⟨rfl, rfl⟩
  clear e0 e1 a0 a3 a4 a5 a6 a7 a8 a9 al am af
  obtain ⟨⟨e0, e1⟩, ⟨a0, a3, a4, a5, a6, a7, a8, a9⟩, ⟨al, am⟩, af⟩ := D0.out.all
  go_wp2_with fail
  refine (HB.out _).mono ?_
  rintro e w2 ⟨rfl, q2⟩
  have D1 := Lib.hid (D0.out.keep q2)
  clear q2
  clear e0 e1 a0 a3 a4 a5 a6 a7 a8 a9 al am af
  clear D0
  obtain ⟨⟨e0, e1⟩, ⟨a0, a3, a4, a5, a6, a7, a8, a9⟩, ⟨al, am⟩, af⟩ := D1.out.all
  go_wp2_with fail
  have D2 := Lib.hid (D1.out.mark (.string M2))
  obtain ⟨WM, hWM⟩ : ∃ WM, WM = (((w2.setCell ⟨w.heap.size + 1, 5, none⟩ (.int .i64 B)).setCell ⟨w.heap.size + 1, 6, none⟩ (.string N)).setCell ⟨w.heap.size + 1, 7, none⟩ (.int .i64 (d : Int))).setCell ⟨w.heap.size + 1, 8, none⟩ (.string M2) := ⟨_, rfl⟩
  rw [← hWM] at D2
  have HWM := Lib.hid hWM
  clear hWM
  try rw [← HWM.out]
  clear HWM D1
  clear e0 e1 a0 a3 a4 a5 a6 a7 a8 a9 al am af
  obtain ⟨⟨e0, e1⟩, ⟨a0, a3, a4, a5, a6, a7, a8, a9⟩, ⟨al, am⟩, af⟩ := D2.out.all
  refine (HRN.out _).mono ?_
  rintro e w3 ⟨rfl, q3⟩
  have D3 := Lib.hid (D2.out.keep q3)
  clear q3
  clear e0 e1 a0 a3 a4 a5 a6 a7 a8 a9 al am af
  clear D2
  obtain ⟨⟨e0, e1⟩, ⟨a0, a3, a4, a5, a6, a7, a8, a9⟩, ⟨al, am⟩, af⟩ := D3.out.all
  have s0 : ¬ 9223372036854775807 < 1 + nm.size := by omega
  go_wp2_with fail
  refine (HTX.out _).mono ?_
  rintro e w103 ⟨rfl, rfl⟩
  clear e0 e1 a0 a3 a4 a5 a6 a7 a8 a9 al am af
  obtain ⟨⟨e0, e1⟩, ⟨a0, a3, a4, a5, a6, a7, a8, a9⟩, ⟨al, am⟩, af⟩ := D3.out.all
  go_wp2_with fail
  refine (HTY.out _).mono ?_
  rintro e w104 ⟨rfl, rfl⟩
  clear e0 e1 a0 a3 a4 a5 a6 a7 a8 a9 al am af
  obtain ⟨⟨e0, e1⟩, ⟨a0, a3, a4, a5, a6, a7, a8, a9⟩, ⟨al, am⟩, af⟩ := D3.out.all
  go_wp2_with fail
  refine (HY.out _).mono ?_
  rintro e w6 ⟨rfl, q6⟩
  have D4 := Lib.hid (D3.out.keep q6)
  clear q6
  clear e0 e1 a0 a3 a4 a5 a6 a7 a8 a9 al am af
  clear D3
  obtain ⟨⟨e0, e1⟩, ⟨a0, a3, a4, a5, a6, a7, a8, a9⟩, ⟨al, am⟩, af⟩ := D4.out.all
  have s2 : ¬ 9223372036854775807 < 1 + yt.size := by have := HP.out; have := HG.out; omega
  have t2 : ¬ 9223372036854775807 < ((⟨#[40]⟩ : ByteArray) ++ nm).size + ((⟨#[32]⟩ : ByteArray) ++ yt).size := by simp only [ByteArray.size_append, lt1, lt2]; have := HP.out; have := HG.out; omega
  go_wp2_with fail
  have E0 : Hid ((((⟨#[40]⟩ : ByteArray) ++ nm) ++ ((⟨#[32]⟩ : ByteArray) ++ yt)) = kidsTo F (K.map Int.toNat) h 0) := Lib.hid (by show _ = h; rw [HH.out])
  obtain ⟨m, hm⟩ : ∃ m, K.length = m := ⟨_, rfl⟩
  have HM := Lib.hid hm
  rw [hm] at hKl ⊢
  clear hm
  rw [HM.out] at a3 HSZ D4
  try rw [E0.out]
  clear E0
  clear e0 e1 a0 a3 a4 a5 a6 a7 a8 a9 al am af
  go_loopw [8, 97] (fun s i wr => ∃ j : Nat, j ≤ m ∧ i = .int .i64 j ∧ s = .string (kidsTo F (K.map Int.toNat) h j) ∧ FB w (.slice (some ⟨b, off, none⟩) n cap) root [.int .i64 (k : Int), .int .i64 sf, .int .i64 st, .slice ks m kc, .string text, .int .i64 B, .string N, .int .i64 (d : Int), .string M2, .int .i64 num, .int .i64 wf, .int .i64 wt, .slice es en ec] wr) (fun _ i _ => m - (intOf i).toNat)
  case atStart => exact ⟨0, Nat.zero_le _, rfl, rfl, D4.out⟩
  case round =>
    clear D4
    obtain ⟨j, hj, rfl, rfl, hd⟩ := hrel
    have HD9 := Lib.hid hd
    clear hd
    have hle : (kidsTo F (K.map Int.toNat) h j).size ≤ (kidsTo F (K.map Int.toNat) h m).size := by have := kidsTo_leI F K h j; rw [HM.out] at this; exact this
    have HLE : Hid ((kidsTo F (K.map Int.toNat) h j).size + 1 ≤ 70368744177664) := Lib.hid (by have := HSZ.out; omega)
    clear hle
    obtain ⟨⟨e0, e1⟩, ⟨a0, a3, a4, a5, a6, a7, a8, a9⟩, ⟨al, am⟩, af⟩ := HD9.out.all
    by_cases hlt : j < m
    · have hjK : j < K.length := by have := HM.out; omega
      obtain ⟨kb, koff, rfl, hkb, hkrow⟩ := HKS.out (by omega)
      have ek := keep HD9.out.bel hkb (hkrow j hjK)
      have hnat := HKN.out _ (List.getElem_mem hjK)
      have HREC := Lib.hid (HF.out _ (List.getElem_mem hjK))
      have HST : Hid (kidsTo F (K.map Int.toNat) h (j + 1) = kidsTo F (K.map Int.toNat) h j ++ ⟨#[32]⟩ ++ F K[j].toNat) := Lib.hid (by
        rw [kidsTo_succ F _ h j (by simpa using hjK)]; simp)
      have HS2 : Hid ((kidsTo F (K.map Int.toNat) h j).size + (1 + (F K[j].toNat).size) ≤ 70368744177664) := Lib.hid (by
        have h1 := kidsTo_leI F K h (j + 1)
        have h2 := HSZ.out
        rw [HST.out, HM.out] at h1
        simp only [ByteArray.size_append, lt1] at h1
        omega)
      clear hkrow
      generalize K[j] = kj at *
      generalize kidsTo F (K.map Int.toNat) h j = x at *
      generalize F kj.toNat = y at *
      go_wp2_with fail
      refine (HREC.out _ HD9.out.bel).mono ?_
      rintro e w50 ⟨rfl, q50⟩
      have D50 := Lib.hid (HD9.out.keep q50)
      clear q50 HREC ek
      clear e0 e1 a0 a3 a4 a5 a6 a7 a8 a9 al am af
      have z1 : ¬ 9223372036854775807 < 1 + y.size := by have := HS2.out; omega
      have z2 : ¬ 9223372036854775807 < x.size + ((⟨#[32]⟩ : ByteArray) ++ y).size := by simp only [ByteArray.size_append, lt1]; have := HS2.out; omega
      go_wp2_with fail
      go_roundw
      case rel => exact ⟨j + 1, by omega, by go_num, by rw [HST.out, ByteArray.append_assoc], D50.out⟩
      case measure => simp [intOf]; omega
    · have hj' : j = m := by omega
      subst hj'
      generalize hx : kidsTo F (K.map Int.toNat) h j = x at *
      have HX := Lib.hid hx
      clear hx
      have z1 : ¬ 9223372036854775807 < x.size + (⟨#[41]⟩ : ByteArray).size := by rw [lt3]; have := HLE.out; omega
      have z2 : ¬ 9223372036854775807 < x.size + 1 := by have := HLE.out; omega
      go_wp2_with fail
      go_ret
      exact ⟨by rw [HM.out, HX.out]; rfl, HD9.out.bel⟩

set_option maxRecDepth 100000 in
set_option maxHeartbeats 4000000 in
theorem rf_btt (w : World) (b off n cap : Nat) (root : Int) (a k : Nat) (sf st : Int) (ks : Option Addr) (K : List Int) (kc : Nat) (text : ByteArray) (B : Int) (N : ByteArray) (D : Int) (M : ByteArray) (num wf wt : Int) (es : Option Addr) (en ec : Nat) (nm : ByteArray) (F : Nat → ByteArray) (h : ByteArray)
    (c0 : w.cell? ⟨b, off + a * 13, none⟩ = some (.int .i64 (k : Int))) (c1 : w.cell? ⟨b, off + a * 13 + 1, none⟩ = some (.int .i64 sf)) (c2 : w.cell? ⟨b, off + a * 13 + 2, none⟩ = some (.int .i64 st)) (c3 : w.cell? ⟨b, off + a * 13 + 3, none⟩ = some (.slice ks K.length kc)) (c4 : w.cell? ⟨b, off + a * 13 + 4, none⟩ = some (.string text)) (c5 : w.cell? ⟨b, off + a * 13 + 5, none⟩ = some (.int .i64 B)) (c6 : w.cell? ⟨b, off + a * 13 + 6, none⟩ = some (.string N)) (c7 : w.cell? ⟨b, off + a * 13 + 7, none⟩ = some (.int .i64 D)) (c8 : w.cell? ⟨b, off + a * 13 + 8, none⟩ = some (.string M)) (c9 : w.cell? ⟨b, off + a * 13 + 9, none⟩ = some (.int .i64 num)) (c10 : w.cell? ⟨b, off + a * 13 + 10, none⟩ = some (.int .i64 wf)) (c11 : w.cell? ⟨b, off + a * 13 + 11, none⟩ = some (.int .i64 wt)) (c12 : w.cell? ⟨b, off + a * 13 + 12, none⟩ = some (.slice es en ec)) (hb : b < w.heap.size) (ha : a < n) (hn : n ≤ 70368744177664) (hks : NumsIn w ks K) (hK : ∀ q ∈ K, 0 ≤ q) (hKl : K.length ≤ 17592186044416) (hT : Tabs w) (h0 : 0 < k) (h1 : k < 46) (hnm : nmS (k : Int) = nm) (hns : nm.size ≤ 20)
    (hF : ∀ q ∈ K, ∀ w2, Below w.heap.size w w2 → Calls Tryz.prog 15 #[.agg #[.slice (some ⟨b, off, none⟩) n cap, .int .i64 root], .int .i64 q, .bool true] w2 fun e w' => e = .returned (.string (F q.toNat)) ∧ Below w2.heap.size w2 w')
    (hsz : (kidsTo F (K.map Int.toNat) h K.length).size + 1 ≤ 70368744177664)
    (htx : rtextB (k : Int) = true) (hty : rtypedB (k : Int) = true) (htext : text.size ≤ 200) (hNs : N.size ≤ 200) (hMs : M.size ≤ 5) (hR : rightB B N D M = true) (hn19 : ¬ k = 19) (hn21 : ¬ k = 21) (hn40 : ¬ (40 ≤ k ∧ k ≤ 45)) (hh : h = (⟨#[40]⟩ ++ nm) ++ (⟨#[32]⟩ ++ goPen.quote text) ++ (⟨#[32]⟩ ++ typeS B N (blankT M.size))) :
    Calls Tryz.prog 15 #[.agg #[.slice (some ⟨b, off, none⟩) n cap, .int .i64 root], .int .i64 (a : Nat), .bool true] w fun e w' => e = .returned (.string (kidsTo F (K.map Int.toNat) h K.length ++ ⟨#[41]⟩)) ∧ Below w.heap.size w w' := by
  have HT : Hid (∀ w2 : World, Below w.heap.size w w2 → Tabs w2) := Lib.hid (fun w2 h2 => hT.step h2)
  have HH := Lib.hid hh
  have HF := Lib.hid hF
  have HKS := Lib.hid hks
  have HKN := Lib.hid hK
  have HSZ := Lib.hid hsz
  have hpre := kidsTo_pre F (K.map Int.toNat) h K.length
  obtain ⟨lt1, lt2, lt3⟩ := lit1
  have HP : Hid (h.size = (1 + nm.size) + (1 + (goPen.quote text).size) + (1 + (typeS B N (blankT M.size)).size)) := Lib.hid (by rw [hh]; simp only [ByteArray.size_append, lt1, lt2])
  have g0 : h.size ≤ 70368744177664 := by omega
  have HG := Lib.hid g0
  have HNM := Lib.hid hnm
  have HQ := Lib.hid (fun w2 h2 => quote_any text w2 (HT.out w2 h2) (by omega))
  generalize goPen.quote text = qt at *
  obtain ⟨d, hd0, hd4, hdm⟩ := right_bounds hR
  subst hd0
  have HB := Lib.hid (fun w2 => refB_any B N (d : Int) M w2 hMs)
  have hMz : (blankT M.size).size ≤ 60 := by rw [blankT_size]; omega
  have HY := Lib.hid (fun w2 => refT_any B N d (blankT M.size) w2 hNs hMz (right_blank hR))
  clear hMz
  generalize typeS B N (blankT M.size) = yt at *
  generalize blankT M.size = M2 at *
  have D0 := Lib.hid (FB.new w (.slice (some ⟨b, off, none⟩) n cap) root #[.int .i64 (k : Int), .int .i64 sf, .int .i64 st, .slice ks K.length kc, .string text, .int .i64 B, .string N, .int .i64 (d : Int), .string M, .int .i64 num, .int .i64 wf, .int .i64 wt, .slice es en ec])
  obtain ⟨W0, hW0⟩ : ∃ W0, W0 = (w.alloc (.cells #[.slice (some ⟨b, off, none⟩) n cap, .int .i64 root] 24)).alloc (.cells #[.int .i64 (k : Int), .int .i64 sf, .int .i64 st, .slice ks K.length kc, .string text, .int .i64 B, .string N, .int .i64 (d : Int), .string M, .int .i64 num, .int .i64 wf, .int .i64 wt, .slice es en ec] 46) := ⟨_, rfl⟩
  rw [← hW0] at D0
  have HW0 := Lib.hid hW0
  have k19 : ((k : Int) == 19) = false := by simp; omega
  have k21 : ((k : Int) == 21) = false := by simp; omega
  have k40 : ((k : Int) == 40) = false := by simp; omega
  have k41 : ((k : Int) == 41) = false := by simp; omega
  have k42 : ((k : Int) == 42) = false := by simp; omega
  have k43 : ((k : Int) == 43) = false := by simp; omega
  have k44 : ((k : Int) == 44) = false := by simp; omega
  have k45 : ((k : Int) == 45) = false := by simp; omega
  have HTX := Lib.hid (fun w2 => rtext_any (k : Int) w2)
  have HTY := Lib.hid (fun w2 => rtyped_any (k : Int) w2)
  rw [htx] at HTX
  rw [hty] at HTY
  have HRN := Lib.hid (fun w2 => rname_any (k : Int) w2)
  rw [hnm] at HRN
  clear hT hh hF hks hK hpre hW0 htx hty hnm hsz g0
  go_enter Tryz.func15, Tryz.ntmps15
  go_wp2_with fail
  try rw [← HW0.out]
  clear HW0 c0 c1 c2 c3 c4 c5 c6 c7 c8 c9 c10 c11 c12
  obtain ⟨⟨e0, e1⟩, ⟨a0, a3, a4, a5, a6, a7, a8, a9⟩, ⟨al, am⟩, af⟩ := D0.out.all
  refine (HTY.out _).mono ?_
  rintro e w100 ⟨rfl, rfl⟩
  clear e0 e1 a0 a3 a4 a5 a6 a7 a8 a9 al am af
  obtain ⟨⟨e0, e1⟩, ⟨a0, a3, a4, a5, a6, a7, a8, a9⟩, ⟨al, am⟩, af⟩ := D0.out.all
  go_wp2_with fail
  refine (HB.out _).mono ?_
  rintro e w2 ⟨rfl, q2⟩
  have D1 := Lib.hid (D0.out.keep q2)
  clear q2
  clear e0 e1 a0 a3 a4 a5 a6 a7 a8 a9 al am af
  clear D0
  obtain ⟨⟨e0, e1⟩, ⟨a0, a3, a4, a5, a6, a7, a8, a9⟩, ⟨al, am⟩, af⟩ := D1.out.all
  go_wp2_with fail
  have D2 := Lib.hid (D1.out.mark (.string M2))
  obtain ⟨WM, hWM⟩ : ∃ WM, WM = (((w2.setCell ⟨w.heap.size + 1, 5, none⟩ (.int .i64 B)).setCell ⟨w.heap.size + 1, 6, none⟩ (.string N)).setCell ⟨w.heap.size + 1, 7, none⟩ (.int .i64 (d : Int))).setCell ⟨w.heap.size + 1, 8, none⟩ (.string M2) := ⟨_, rfl⟩
  rw [← hWM] at D2
  have HWM := Lib.hid hWM
  clear hWM
  try rw [← HWM.out]
  clear HWM D1
  clear e0 e1 a0 a3 a4 a5 a6 a7 a8 a9 al am af
  obtain ⟨⟨e0, e1⟩, ⟨a0, a3, a4, a5, a6, a7, a8, a9⟩, ⟨al, am⟩, af⟩ := D2.out.all
  refine (HRN.out _).mono ?_
  rintro e w3 ⟨rfl, q3⟩
  have D3 := Lib.hid (D2.out.keep q3)
  clear q3
  clear e0 e1 a0 a3 a4 a5 a6 a7 a8 a9 al am af
  clear D2
  obtain ⟨⟨e0, e1⟩, ⟨a0, a3, a4, a5, a6, a7, a8, a9⟩, ⟨al, am⟩, af⟩ := D3.out.all
  have s0 : ¬ 9223372036854775807 < 1 + nm.size := by omega
  go_wp2_with fail
  refine (HTX.out _).mono ?_
  rintro e w103 ⟨rfl, rfl⟩
  clear e0 e1 a0 a3 a4 a5 a6 a7 a8 a9 al am af
  obtain ⟨⟨e0, e1⟩, ⟨a0, a3, a4, a5, a6, a7, a8, a9⟩, ⟨al, am⟩, af⟩ := D3.out.all
  go_wp2_with fail
  refine (HQ.out _ D3.out.bel).mono ?_
  rintro e w5 ⟨rfl, q5⟩
  have D4 := Lib.hid (D3.out.keep q5)
  clear q5
  clear e0 e1 a0 a3 a4 a5 a6 a7 a8 a9 al am af
  clear D3
  obtain ⟨⟨e0, e1⟩, ⟨a0, a3, a4, a5, a6, a7, a8, a9⟩, ⟨al, am⟩, af⟩ := D4.out.all
  have s1 : ¬ 9223372036854775807 < 1 + qt.size := by have := HP.out; have := HG.out; omega
  have t1 : ¬ 9223372036854775807 < ((⟨#[40]⟩ : ByteArray) ++ nm).size + ((⟨#[32]⟩ : ByteArray) ++ qt).size := by simp only [ByteArray.size_append, lt1, lt2]; have := HP.out; have := HG.out; omega
  go_wp2_with fail
  refine (HTY.out _).mono ?_
  rintro e w105 ⟨rfl, rfl⟩
  clear e0 e1 a0 a3 a4 a5 a6 a7 a8 a9 al am af
  obtain ⟨⟨e0, e1⟩, ⟨a0, a3, a4, a5, a6, a7, a8, a9⟩, ⟨al, am⟩, af⟩ := D4.out.all
  go_wp2_with fail
  refine (HY.out _).mono ?_
  rintro e w7 ⟨rfl, q7⟩
  have D5 := Lib.hid (D4.out.keep q7)
  clear q7
  clear e0 e1 a0 a3 a4 a5 a6 a7 a8 a9 al am af
  clear D4
  obtain ⟨⟨e0, e1⟩, ⟨a0, a3, a4, a5, a6, a7, a8, a9⟩, ⟨al, am⟩, af⟩ := D5.out.all
  have s2 : ¬ 9223372036854775807 < 1 + yt.size := by have := HP.out; have := HG.out; omega
  have t2 : ¬ 9223372036854775807 < (((⟨#[40]⟩ : ByteArray) ++ nm) ++ ((⟨#[32]⟩ : ByteArray) ++ qt)).size + ((⟨#[32]⟩ : ByteArray) ++ yt).size := by simp only [ByteArray.size_append, lt1, lt2]; have := HP.out; have := HG.out; omega
  go_wp2_with fail
  have E0 : Hid (((((⟨#[40]⟩ : ByteArray) ++ nm) ++ ((⟨#[32]⟩ : ByteArray) ++ qt)) ++ ((⟨#[32]⟩ : ByteArray) ++ yt)) = kidsTo F (K.map Int.toNat) h 0) := Lib.hid (by show _ = h; rw [HH.out])
  obtain ⟨m, hm⟩ : ∃ m, K.length = m := ⟨_, rfl⟩
  have HM := Lib.hid hm
  rw [hm] at hKl ⊢
  clear hm
  rw [HM.out] at a3 HSZ D5
  try rw [E0.out]
  clear E0
  clear e0 e1 a0 a3 a4 a5 a6 a7 a8 a9 al am af
  go_loopw [8, 97] (fun s i wr => ∃ j : Nat, j ≤ m ∧ i = .int .i64 j ∧ s = .string (kidsTo F (K.map Int.toNat) h j) ∧ FB w (.slice (some ⟨b, off, none⟩) n cap) root [.int .i64 (k : Int), .int .i64 sf, .int .i64 st, .slice ks m kc, .string text, .int .i64 B, .string N, .int .i64 (d : Int), .string M2, .int .i64 num, .int .i64 wf, .int .i64 wt, .slice es en ec] wr) (fun _ i _ => m - (intOf i).toNat)
  case atStart => exact ⟨0, Nat.zero_le _, rfl, rfl, D5.out⟩
  case round =>
    clear D5
    obtain ⟨j, hj, rfl, rfl, hd⟩ := hrel
    have HD9 := Lib.hid hd
    clear hd
    have hle : (kidsTo F (K.map Int.toNat) h j).size ≤ (kidsTo F (K.map Int.toNat) h m).size := by have := kidsTo_leI F K h j; rw [HM.out] at this; exact this
    have HLE : Hid ((kidsTo F (K.map Int.toNat) h j).size + 1 ≤ 70368744177664) := Lib.hid (by have := HSZ.out; omega)
    clear hle
    obtain ⟨⟨e0, e1⟩, ⟨a0, a3, a4, a5, a6, a7, a8, a9⟩, ⟨al, am⟩, af⟩ := HD9.out.all
    by_cases hlt : j < m
    · have hjK : j < K.length := by have := HM.out; omega
      obtain ⟨kb, koff, rfl, hkb, hkrow⟩ := HKS.out (by omega)
      have ek := keep HD9.out.bel hkb (hkrow j hjK)
      have hnat := HKN.out _ (List.getElem_mem hjK)
      have HREC := Lib.hid (HF.out _ (List.getElem_mem hjK))
      have HST : Hid (kidsTo F (K.map Int.toNat) h (j + 1) = kidsTo F (K.map Int.toNat) h j ++ ⟨#[32]⟩ ++ F K[j].toNat) := Lib.hid (by
        rw [kidsTo_succ F _ h j (by simpa using hjK)]; simp)
      have HS2 : Hid ((kidsTo F (K.map Int.toNat) h j).size + (1 + (F K[j].toNat).size) ≤ 70368744177664) := Lib.hid (by
        have h1 := kidsTo_leI F K h (j + 1)
        have h2 := HSZ.out
        rw [HST.out, HM.out] at h1
        simp only [ByteArray.size_append, lt1] at h1
        omega)
      clear hkrow
      generalize K[j] = kj at *
      generalize kidsTo F (K.map Int.toNat) h j = x at *
      generalize F kj.toNat = y at *
      go_wp2_with fail
      refine (HREC.out _ HD9.out.bel).mono ?_
      rintro e w50 ⟨rfl, q50⟩
      have D50 := Lib.hid (HD9.out.keep q50)
      clear q50 HREC ek
      clear e0 e1 a0 a3 a4 a5 a6 a7 a8 a9 al am af
      have z1 : ¬ 9223372036854775807 < 1 + y.size := by have := HS2.out; omega
      have z2 : ¬ 9223372036854775807 < x.size + ((⟨#[32]⟩ : ByteArray) ++ y).size := by simp only [ByteArray.size_append, lt1]; have := HS2.out; omega
      go_wp2_with fail
      go_roundw
      case rel => exact ⟨j + 1, by omega, by go_num, by rw [HST.out, ByteArray.append_assoc], D50.out⟩
      case measure => simp [intOf]; omega
    · have hj' : j = m := by omega
      subst hj'
      generalize hx : kidsTo F (K.map Int.toNat) h j = x at *
      have HX := Lib.hid hx
      clear hx
      have z1 : ¬ 9223372036854775807 < x.size + (⟨#[41]⟩ : ByteArray).size := by rw [lt3]; have := HLE.out; omega
      have z2 : ¬ 9223372036854775807 < x.size + 1 := by have := HLE.out; omega
      go_wp2_with fail
      go_ret
      exact ⟨by rw [HM.out, HX.out]; rfl, HD9.out.bel⟩

end Go.Proofs.YtfalgnapghienaaGreatDoor
namespace Go.Proofs.YtfalgnapghienaaGreatDoor
open Go Go.RowKit
set_option linter.unusedVariables false
set_option linter.unusedSimpArgs false

set_option maxRecDepth 100000 in
set_option maxHeartbeats 4000000 in
theorem rf_s40 (w : World) (b off n cap : Nat) (root : Int) (a : Nat) (sf st : Int) (ks : Option Addr) (q : Nat) (kc : Nat) (text : ByteArray) (B : Int) (N : ByteArray) (D : Int) (M : ByteArray) (num wf wt : Int) (es : Option Addr) (en ec : Nat) (y : ByteArray)
    (c0 : w.cell? ⟨b, off + a * 13, none⟩ = some (.int .i64 40)) (c1 : w.cell? ⟨b, off + a * 13 + 1, none⟩ = some (.int .i64 sf)) (c2 : w.cell? ⟨b, off + a * 13 + 2, none⟩ = some (.int .i64 st)) (c3 : w.cell? ⟨b, off + a * 13 + 3, none⟩ = some (.slice ks 1 kc)) (c4 : w.cell? ⟨b, off + a * 13 + 4, none⟩ = some (.string text)) (c5 : w.cell? ⟨b, off + a * 13 + 5, none⟩ = some (.int .i64 B)) (c6 : w.cell? ⟨b, off + a * 13 + 6, none⟩ = some (.string N)) (c7 : w.cell? ⟨b, off + a * 13 + 7, none⟩ = some (.int .i64 D)) (c8 : w.cell? ⟨b, off + a * 13 + 8, none⟩ = some (.string M)) (c9 : w.cell? ⟨b, off + a * 13 + 9, none⟩ = some (.int .i64 num)) (c10 : w.cell? ⟨b, off + a * 13 + 10, none⟩ = some (.int .i64 wf)) (c11 : w.cell? ⟨b, off + a * 13 + 11, none⟩ = some (.int .i64 wt)) (c12 : w.cell? ⟨b, off + a * 13 + 12, none⟩ = some (.slice es en ec)) (hb : b < w.heap.size) (ha : a < n) (hn : n ≤ 70368744177664) (hks : NumsIn w ks [(q : Int)])
    (hF : ∀ w2, Below w.heap.size w w2 → Calls Tryz.prog 15 #[.agg #[.slice (some ⟨b, off, none⟩) n cap, .int .i64 root], .int .i64 (q : Int), .bool true] w2 fun e w' => e = .returned (.string y) ∧ Below w2.heap.size w2 w') (hy : y.size ≤ 70368744177664) :
    Calls Tryz.prog 15 #[.agg #[.slice (some ⟨b, off, none⟩) n cap, .int .i64 root], .int .i64 (a : Nat), .bool true] w fun e w' => e = .returned (.string y) ∧ Below w.heap.size w w' := by
  have D0 := Lib.hid (FB.new w (.slice (some ⟨b, off, none⟩) n cap) root #[.int .i64 40, .int .i64 sf, .int .i64 st, .slice ks 1 kc, .string text, .int .i64 B, .string N, .int .i64 D, .string M, .int .i64 num, .int .i64 wf, .int .i64 wt, .slice es en ec])
  obtain ⟨W0, hW0⟩ : ∃ W0, W0 = (w.alloc (.cells #[.slice (some ⟨b, off, none⟩) n cap, .int .i64 root] 24)).alloc (.cells #[.int .i64 40, .int .i64 sf, .int .i64 st, .slice ks 1 kc, .string text, .int .i64 B, .string N, .int .i64 D, .string M, .int .i64 num, .int .i64 wf, .int .i64 wt, .slice es en ec] 46) := ⟨_, rfl⟩
  rw [← hW0] at D0
  have HW0 := Lib.hid hW0
  obtain ⟨kb, koff, hkv, hkb, hkrow⟩ := hks (by simp)
  have ck : w.cell? ⟨kb, koff, none⟩ = some (.int .i64 (q : Int)) := hkrow 0 (by simp)
  clear hkrow hks
  subst hkv
  have HALL := Lib.hid (fun (w2 : World) (h : FB w (.slice (some ⟨b, off, none⟩) n cap) root [.int .i64 40, .int .i64 sf, .int .i64 st, .slice (some ⟨kb, koff, none⟩) 1 kc, .string text, .int .i64 B, .string N, .int .i64 D, .string M, .int .i64 num, .int .i64 wf, .int .i64 wt, .slice es en ec] w2) => (⟨h.t.cell 0, h.t.cell 1, h.n.cell 3, keep h.bel hkb ck, h⟩ : w2.cell? ⟨w.heap.size, 0, none⟩ = some (.slice (some ⟨b, off, none⟩) n cap) ∧ w2.cell? ⟨w.heap.size, 1, none⟩ = some (.int .i64 root) ∧ w2.cell? ⟨w.heap.size + 1, 3, none⟩ = some (.slice (some ⟨kb, koff, none⟩) 1 kc) ∧ w2.cell? ⟨kb, koff, none⟩ = some (.int .i64 (q : Int)) ∧ FB w (.slice (some ⟨b, off, none⟩) n cap) root [.int .i64 40, .int .i64 sf, .int .i64 st, .slice (some ⟨kb, koff, none⟩) 1 kc, .string text, .int .i64 B, .string N, .int .i64 D, .string M, .int .i64 num, .int .i64 wf, .int .i64 wt, .slice es en ec] w2))
  have HC := Lib.hid (fun (w2 : World) (h : FB w (.slice (some ⟨b, off, none⟩) n cap) root [.int .i64 40, .int .i64 sf, .int .i64 st, .slice (some ⟨kb, koff, none⟩) 1 kc, .string text, .int .i64 B, .string N, .int .i64 D, .string M, .int .i64 num, .int .i64 wf, .int .i64 wt, .slice es en ec] w2) => hF w2 h.bel)
  have HY := Lib.hid hy
  have ea : ∀ bb : Nat, (⟨bb, koff + 0, none⟩ : Addr) = ⟨bb, koff, none⟩ := fun _ => rfl
  clear hF hy ck
  clear hW0
  go_enter Tryz.func15, Tryz.ntmps15
  go_wp2_with fail
  try rw [← HW0.out]
  clear HW0 c0 c1 c2 c3 c4 c5 c6 c7 c8 c9 c10 c11 c12
  obtain ⟨⟨e0, e1⟩, ⟨a0, a3, -⟩, ⟨al, am⟩, -⟩ := D0.out.all
  have hkl : kb < W0.heap.size := Nat.lt_of_lt_of_le hkb D0.out.bel.size
  go_wp2_with fail
  clear a0 a3 e0 e1
  go_region_held3 (fun w' => w'.cell? ⟨w.heap.size, 0, none⟩ = some (.slice (some ⟨b, off, none⟩) n cap) ∧ w'.cell? ⟨w.heap.size, 1, none⟩ = some (.int .i64 root) ∧ w'.cell? ⟨w.heap.size + 1, 3, none⟩ = some (.slice (some ⟨kb, koff, none⟩) 1 kc) ∧ w'.cell? ⟨kb, koff, none⟩ = some (.int .i64 (q : Int)) ∧ FB w (.slice (some ⟨b, off, none⟩) n cap) root [.int .i64 40, .int .i64 sf, .int .i64 st, .slice (some ⟨kb, koff, none⟩) 1 kc, .string text, .int .i64 B, .string N, .int .i64 D, .string M, .int .i64 num, .int .i64 wf, .int .i64 wt, .slice es en ec] w') (first | exact HALL.out _ D0.out | exact HALL.out _ (D0.out.keep ((Below.refl _ _).drew)) | exact HALL.out _ (FB.keep (by assumption) hb2)) (first | (go_at_call 15; go_split_ands; refine (HC.out _ (by assumption)).mono ?_; rintro e w2 ⟨rfl, hb2⟩))
  all_goals go_split_ands
  all_goals rename_i hfb
  all_goals have HFB := Lib.hid (FB.bel (by assumption))
  all_goals go_wp2_with fail
  all_goals go_ret
  all_goals exact ⟨rfl, HFB.out⟩

set_option maxRecDepth 100000 in
set_option maxHeartbeats 4000000 in
theorem rf_s41 (w : World) (b off n cap : Nat) (root : Int) (a : Nat) (sf st : Int) (ks : Option Addr) (q : Nat) (kc : Nat) (text : ByteArray) (B : Int) (N : ByteArray) (D : Int) (M : ByteArray) (num wf wt : Int) (es : Option Addr) (en ec : Nat) (y : ByteArray)
    (c0 : w.cell? ⟨b, off + a * 13, none⟩ = some (.int .i64 41)) (c1 : w.cell? ⟨b, off + a * 13 + 1, none⟩ = some (.int .i64 sf)) (c2 : w.cell? ⟨b, off + a * 13 + 2, none⟩ = some (.int .i64 st)) (c3 : w.cell? ⟨b, off + a * 13 + 3, none⟩ = some (.slice ks 1 kc)) (c4 : w.cell? ⟨b, off + a * 13 + 4, none⟩ = some (.string text)) (c5 : w.cell? ⟨b, off + a * 13 + 5, none⟩ = some (.int .i64 B)) (c6 : w.cell? ⟨b, off + a * 13 + 6, none⟩ = some (.string N)) (c7 : w.cell? ⟨b, off + a * 13 + 7, none⟩ = some (.int .i64 D)) (c8 : w.cell? ⟨b, off + a * 13 + 8, none⟩ = some (.string M)) (c9 : w.cell? ⟨b, off + a * 13 + 9, none⟩ = some (.int .i64 num)) (c10 : w.cell? ⟨b, off + a * 13 + 10, none⟩ = some (.int .i64 wf)) (c11 : w.cell? ⟨b, off + a * 13 + 11, none⟩ = some (.int .i64 wt)) (c12 : w.cell? ⟨b, off + a * 13 + 12, none⟩ = some (.slice es en ec)) (hb : b < w.heap.size) (ha : a < n) (hn : n ≤ 70368744177664) (hks : NumsIn w ks [(q : Int)])
    (hF : ∀ w2, Below w.heap.size w w2 → Calls Tryz.prog 15 #[.agg #[.slice (some ⟨b, off, none⟩) n cap, .int .i64 root], .int .i64 (q : Int), .bool true] w2 fun e w' => e = .returned (.string y) ∧ Below w2.heap.size w2 w') (hy : y.size ≤ 70368744177664) :
    Calls Tryz.prog 15 #[.agg #[.slice (some ⟨b, off, none⟩) n cap, .int .i64 root], .int .i64 (a : Nat), .bool true] w fun e w' => e = .returned (.string y) ∧ Below w.heap.size w w' := by
  have D0 := Lib.hid (FB.new w (.slice (some ⟨b, off, none⟩) n cap) root #[.int .i64 41, .int .i64 sf, .int .i64 st, .slice ks 1 kc, .string text, .int .i64 B, .string N, .int .i64 D, .string M, .int .i64 num, .int .i64 wf, .int .i64 wt, .slice es en ec])
  obtain ⟨W0, hW0⟩ : ∃ W0, W0 = (w.alloc (.cells #[.slice (some ⟨b, off, none⟩) n cap, .int .i64 root] 24)).alloc (.cells #[.int .i64 41, .int .i64 sf, .int .i64 st, .slice ks 1 kc, .string text, .int .i64 B, .string N, .int .i64 D, .string M, .int .i64 num, .int .i64 wf, .int .i64 wt, .slice es en ec] 46) := ⟨_, rfl⟩
  rw [← hW0] at D0
  have HW0 := Lib.hid hW0
  obtain ⟨kb, koff, hkv, hkb, hkrow⟩ := hks (by simp)
  have ck : w.cell? ⟨kb, koff, none⟩ = some (.int .i64 (q : Int)) := hkrow 0 (by simp)
  clear hkrow hks
  subst hkv
  have HALL := Lib.hid (fun (w2 : World) (h : FB w (.slice (some ⟨b, off, none⟩) n cap) root [.int .i64 41, .int .i64 sf, .int .i64 st, .slice (some ⟨kb, koff, none⟩) 1 kc, .string text, .int .i64 B, .string N, .int .i64 D, .string M, .int .i64 num, .int .i64 wf, .int .i64 wt, .slice es en ec] w2) => (⟨h.t.cell 0, h.t.cell 1, h.n.cell 3, keep h.bel hkb ck, h⟩ : w2.cell? ⟨w.heap.size, 0, none⟩ = some (.slice (some ⟨b, off, none⟩) n cap) ∧ w2.cell? ⟨w.heap.size, 1, none⟩ = some (.int .i64 root) ∧ w2.cell? ⟨w.heap.size + 1, 3, none⟩ = some (.slice (some ⟨kb, koff, none⟩) 1 kc) ∧ w2.cell? ⟨kb, koff, none⟩ = some (.int .i64 (q : Int)) ∧ FB w (.slice (some ⟨b, off, none⟩) n cap) root [.int .i64 41, .int .i64 sf, .int .i64 st, .slice (some ⟨kb, koff, none⟩) 1 kc, .string text, .int .i64 B, .string N, .int .i64 D, .string M, .int .i64 num, .int .i64 wf, .int .i64 wt, .slice es en ec] w2))
  have HC := Lib.hid (fun (w2 : World) (h : FB w (.slice (some ⟨b, off, none⟩) n cap) root [.int .i64 41, .int .i64 sf, .int .i64 st, .slice (some ⟨kb, koff, none⟩) 1 kc, .string text, .int .i64 B, .string N, .int .i64 D, .string M, .int .i64 num, .int .i64 wf, .int .i64 wt, .slice es en ec] w2) => hF w2 h.bel)
  have HY := Lib.hid hy
  have ea : ∀ bb : Nat, (⟨bb, koff + 0, none⟩ : Addr) = ⟨bb, koff, none⟩ := fun _ => rfl
  clear hF hy ck
  clear hW0
  go_enter Tryz.func15, Tryz.ntmps15
  go_wp2_with fail
  try rw [← HW0.out]
  clear HW0 c0 c1 c2 c3 c4 c5 c6 c7 c8 c9 c10 c11 c12
  obtain ⟨⟨e0, e1⟩, ⟨a0, a3, -⟩, ⟨al, am⟩, -⟩ := D0.out.all
  have hkl : kb < W0.heap.size := Nat.lt_of_lt_of_le hkb D0.out.bel.size
  go_wp2_with fail
  clear a0 a3 e0 e1
  go_region_held3 (fun w' => w'.cell? ⟨w.heap.size, 0, none⟩ = some (.slice (some ⟨b, off, none⟩) n cap) ∧ w'.cell? ⟨w.heap.size, 1, none⟩ = some (.int .i64 root) ∧ w'.cell? ⟨w.heap.size + 1, 3, none⟩ = some (.slice (some ⟨kb, koff, none⟩) 1 kc) ∧ w'.cell? ⟨kb, koff, none⟩ = some (.int .i64 (q : Int)) ∧ FB w (.slice (some ⟨b, off, none⟩) n cap) root [.int .i64 41, .int .i64 sf, .int .i64 st, .slice (some ⟨kb, koff, none⟩) 1 kc, .string text, .int .i64 B, .string N, .int .i64 D, .string M, .int .i64 num, .int .i64 wf, .int .i64 wt, .slice es en ec] w') (first | exact HALL.out _ D0.out | exact HALL.out _ (D0.out.keep ((Below.refl _ _).drew)) | exact HALL.out _ (FB.keep (by assumption) hb2)) (first | (go_at_call 15; go_split_ands; refine (HC.out _ (by assumption)).mono ?_; rintro e w2 ⟨rfl, hb2⟩))
  all_goals go_split_ands
  all_goals rename_i hfb
  all_goals have HFB := Lib.hid (FB.bel (by assumption))
  all_goals go_wp2_with fail
  all_goals go_ret
  all_goals exact ⟨rfl, HFB.out⟩

set_option maxRecDepth 100000 in
set_option maxHeartbeats 4000000 in
theorem rf_s45 (w : World) (b off n cap : Nat) (root : Int) (a : Nat) (sf st : Int) (ks : Option Addr) (q : Nat) (kc : Nat) (text : ByteArray) (B : Int) (N : ByteArray) (D : Int) (M : ByteArray) (num wf wt : Int) (es : Option Addr) (en ec : Nat) (y : ByteArray)
    (c0 : w.cell? ⟨b, off + a * 13, none⟩ = some (.int .i64 45)) (c1 : w.cell? ⟨b, off + a * 13 + 1, none⟩ = some (.int .i64 sf)) (c2 : w.cell? ⟨b, off + a * 13 + 2, none⟩ = some (.int .i64 st)) (c3 : w.cell? ⟨b, off + a * 13 + 3, none⟩ = some (.slice ks 1 kc)) (c4 : w.cell? ⟨b, off + a * 13 + 4, none⟩ = some (.string text)) (c5 : w.cell? ⟨b, off + a * 13 + 5, none⟩ = some (.int .i64 B)) (c6 : w.cell? ⟨b, off + a * 13 + 6, none⟩ = some (.string N)) (c7 : w.cell? ⟨b, off + a * 13 + 7, none⟩ = some (.int .i64 D)) (c8 : w.cell? ⟨b, off + a * 13 + 8, none⟩ = some (.string M)) (c9 : w.cell? ⟨b, off + a * 13 + 9, none⟩ = some (.int .i64 num)) (c10 : w.cell? ⟨b, off + a * 13 + 10, none⟩ = some (.int .i64 wf)) (c11 : w.cell? ⟨b, off + a * 13 + 11, none⟩ = some (.int .i64 wt)) (c12 : w.cell? ⟨b, off + a * 13 + 12, none⟩ = some (.slice es en ec)) (hb : b < w.heap.size) (ha : a < n) (hn : n ≤ 70368744177664) (hks : NumsIn w ks [(q : Int)])
    (hF : ∀ w2, Below w.heap.size w w2 → Calls Tryz.prog 15 #[.agg #[.slice (some ⟨b, off, none⟩) n cap, .int .i64 root], .int .i64 (q : Int), .bool true] w2 fun e w' => e = .returned (.string y) ∧ Below w2.heap.size w2 w') (hy : y.size ≤ 70368744177664) :
    Calls Tryz.prog 15 #[.agg #[.slice (some ⟨b, off, none⟩) n cap, .int .i64 root], .int .i64 (a : Nat), .bool true] w fun e w' => e = .returned (.string y) ∧ Below w.heap.size w w' := by
  have D0 := Lib.hid (FB.new w (.slice (some ⟨b, off, none⟩) n cap) root #[.int .i64 45, .int .i64 sf, .int .i64 st, .slice ks 1 kc, .string text, .int .i64 B, .string N, .int .i64 D, .string M, .int .i64 num, .int .i64 wf, .int .i64 wt, .slice es en ec])
  obtain ⟨W0, hW0⟩ : ∃ W0, W0 = (w.alloc (.cells #[.slice (some ⟨b, off, none⟩) n cap, .int .i64 root] 24)).alloc (.cells #[.int .i64 45, .int .i64 sf, .int .i64 st, .slice ks 1 kc, .string text, .int .i64 B, .string N, .int .i64 D, .string M, .int .i64 num, .int .i64 wf, .int .i64 wt, .slice es en ec] 46) := ⟨_, rfl⟩
  rw [← hW0] at D0
  have HW0 := Lib.hid hW0
  obtain ⟨kb, koff, hkv, hkb, hkrow⟩ := hks (by simp)
  have ck : w.cell? ⟨kb, koff, none⟩ = some (.int .i64 (q : Int)) := hkrow 0 (by simp)
  clear hkrow hks
  subst hkv
  have HALL := Lib.hid (fun (w2 : World) (h : FB w (.slice (some ⟨b, off, none⟩) n cap) root [.int .i64 45, .int .i64 sf, .int .i64 st, .slice (some ⟨kb, koff, none⟩) 1 kc, .string text, .int .i64 B, .string N, .int .i64 D, .string M, .int .i64 num, .int .i64 wf, .int .i64 wt, .slice es en ec] w2) => (⟨h.t.cell 0, h.t.cell 1, h.n.cell 3, keep h.bel hkb ck, h⟩ : w2.cell? ⟨w.heap.size, 0, none⟩ = some (.slice (some ⟨b, off, none⟩) n cap) ∧ w2.cell? ⟨w.heap.size, 1, none⟩ = some (.int .i64 root) ∧ w2.cell? ⟨w.heap.size + 1, 3, none⟩ = some (.slice (some ⟨kb, koff, none⟩) 1 kc) ∧ w2.cell? ⟨kb, koff, none⟩ = some (.int .i64 (q : Int)) ∧ FB w (.slice (some ⟨b, off, none⟩) n cap) root [.int .i64 45, .int .i64 sf, .int .i64 st, .slice (some ⟨kb, koff, none⟩) 1 kc, .string text, .int .i64 B, .string N, .int .i64 D, .string M, .int .i64 num, .int .i64 wf, .int .i64 wt, .slice es en ec] w2))
  have HC := Lib.hid (fun (w2 : World) (h : FB w (.slice (some ⟨b, off, none⟩) n cap) root [.int .i64 45, .int .i64 sf, .int .i64 st, .slice (some ⟨kb, koff, none⟩) 1 kc, .string text, .int .i64 B, .string N, .int .i64 D, .string M, .int .i64 num, .int .i64 wf, .int .i64 wt, .slice es en ec] w2) => hF w2 h.bel)
  have HY := Lib.hid hy
  have ea : ∀ bb : Nat, (⟨bb, koff + 0, none⟩ : Addr) = ⟨bb, koff, none⟩ := fun _ => rfl
  clear hF hy ck
  clear hW0
  go_enter Tryz.func15, Tryz.ntmps15
  go_wp2_with fail
  try rw [← HW0.out]
  clear HW0 c0 c1 c2 c3 c4 c5 c6 c7 c8 c9 c10 c11 c12
  obtain ⟨⟨e0, e1⟩, ⟨a0, a3, -⟩, ⟨al, am⟩, -⟩ := D0.out.all
  have hkl : kb < W0.heap.size := Nat.lt_of_lt_of_le hkb D0.out.bel.size
  go_wp2_with fail
  clear a0 a3 e0 e1
  go_region_held3 (fun w' => w'.cell? ⟨w.heap.size, 0, none⟩ = some (.slice (some ⟨b, off, none⟩) n cap) ∧ w'.cell? ⟨w.heap.size, 1, none⟩ = some (.int .i64 root) ∧ w'.cell? ⟨w.heap.size + 1, 3, none⟩ = some (.slice (some ⟨kb, koff, none⟩) 1 kc) ∧ w'.cell? ⟨kb, koff, none⟩ = some (.int .i64 (q : Int)) ∧ FB w (.slice (some ⟨b, off, none⟩) n cap) root [.int .i64 45, .int .i64 sf, .int .i64 st, .slice (some ⟨kb, koff, none⟩) 1 kc, .string text, .int .i64 B, .string N, .int .i64 D, .string M, .int .i64 num, .int .i64 wf, .int .i64 wt, .slice es en ec] w') (first | exact HALL.out _ D0.out | exact HALL.out _ (D0.out.keep ((Below.refl _ _).drew)) | exact HALL.out _ (FB.keep (by assumption) hb2)) (first | (go_at_call 15; go_split_ands; refine (HC.out _ (by assumption)).mono ?_; rintro e w2 ⟨rfl, hb2⟩))
  all_goals go_split_ands
  all_goals rename_i hfb
  all_goals have HFB := Lib.hid (FB.bel (by assumption))
  all_goals go_wp2_with fail
  all_goals go_ret
  all_goals exact ⟨rfl, HFB.out⟩

set_option maxRecDepth 100000 in
set_option maxHeartbeats 4000000 in
theorem rf_s43 (w : World) (b off n cap : Nat) (root : Int) (a : Nat) (sf st : Int) (ks : Option Addr) (q : Nat) (kc : Nat) (text : ByteArray) (B : Int) (N : ByteArray) (D : Int) (M : ByteArray) (num wf wt : Int) (es : Option Addr) (en ec : Nat) (y : ByteArray)
    (c0 : w.cell? ⟨b, off + a * 13, none⟩ = some (.int .i64 43)) (c1 : w.cell? ⟨b, off + a * 13 + 1, none⟩ = some (.int .i64 sf)) (c2 : w.cell? ⟨b, off + a * 13 + 2, none⟩ = some (.int .i64 st)) (c3 : w.cell? ⟨b, off + a * 13 + 3, none⟩ = some (.slice ks 1 kc)) (c4 : w.cell? ⟨b, off + a * 13 + 4, none⟩ = some (.string text)) (c5 : w.cell? ⟨b, off + a * 13 + 5, none⟩ = some (.int .i64 B)) (c6 : w.cell? ⟨b, off + a * 13 + 6, none⟩ = some (.string N)) (c7 : w.cell? ⟨b, off + a * 13 + 7, none⟩ = some (.int .i64 D)) (c8 : w.cell? ⟨b, off + a * 13 + 8, none⟩ = some (.string M)) (c9 : w.cell? ⟨b, off + a * 13 + 9, none⟩ = some (.int .i64 num)) (c10 : w.cell? ⟨b, off + a * 13 + 10, none⟩ = some (.int .i64 wf)) (c11 : w.cell? ⟨b, off + a * 13 + 11, none⟩ = some (.int .i64 wt)) (c12 : w.cell? ⟨b, off + a * 13 + 12, none⟩ = some (.slice es en ec)) (hb : b < w.heap.size) (ha : a < n) (hn : n ≤ 70368744177664) (hks : NumsIn w ks [(q : Int)])
    (hF : ∀ w2, Below w.heap.size w w2 → Calls Tryz.prog 15 #[.agg #[.slice (some ⟨b, off, none⟩) n cap, .int .i64 root], .int .i64 (q : Int), .bool true] w2 fun e w' => e = .returned (.string y) ∧ Below w2.heap.size w2 w') (hy : y.size ≤ 70368744177664) :
    Calls Tryz.prog 15 #[.agg #[.slice (some ⟨b, off, none⟩) n cap, .int .i64 root], .int .i64 (a : Nat), .bool true] w fun e w' => e = .returned (.string (⟨#[40, 98, 105, 110, 97, 114, 121, 32, 34, 33, 61, 34, 32]⟩ ++ y ++ ⟨#[32, 40, 110, 117, 108, 108, 41, 41]⟩)) ∧ Below w.heap.size w w' := by
  have D0 := Lib.hid (FB.new w (.slice (some ⟨b, off, none⟩) n cap) root #[.int .i64 43, .int .i64 sf, .int .i64 st, .slice ks 1 kc, .string text, .int .i64 B, .string N, .int .i64 D, .string M, .int .i64 num, .int .i64 wf, .int .i64 wt, .slice es en ec])
  obtain ⟨W0, hW0⟩ : ∃ W0, W0 = (w.alloc (.cells #[.slice (some ⟨b, off, none⟩) n cap, .int .i64 root] 24)).alloc (.cells #[.int .i64 43, .int .i64 sf, .int .i64 st, .slice ks 1 kc, .string text, .int .i64 B, .string N, .int .i64 D, .string M, .int .i64 num, .int .i64 wf, .int .i64 wt, .slice es en ec] 46) := ⟨_, rfl⟩
  rw [← hW0] at D0
  have HW0 := Lib.hid hW0
  obtain ⟨kb, koff, hkv, hkb, hkrow⟩ := hks (by simp)
  have ck : w.cell? ⟨kb, koff, none⟩ = some (.int .i64 (q : Int)) := hkrow 0 (by simp)
  clear hkrow hks
  subst hkv
  have HALL := Lib.hid (fun (w2 : World) (h : FB w (.slice (some ⟨b, off, none⟩) n cap) root [.int .i64 43, .int .i64 sf, .int .i64 st, .slice (some ⟨kb, koff, none⟩) 1 kc, .string text, .int .i64 B, .string N, .int .i64 D, .string M, .int .i64 num, .int .i64 wf, .int .i64 wt, .slice es en ec] w2) => (⟨h.t.cell 0, h.t.cell 1, h.n.cell 3, keep h.bel hkb ck, h⟩ : w2.cell? ⟨w.heap.size, 0, none⟩ = some (.slice (some ⟨b, off, none⟩) n cap) ∧ w2.cell? ⟨w.heap.size, 1, none⟩ = some (.int .i64 root) ∧ w2.cell? ⟨w.heap.size + 1, 3, none⟩ = some (.slice (some ⟨kb, koff, none⟩) 1 kc) ∧ w2.cell? ⟨kb, koff, none⟩ = some (.int .i64 (q : Int)) ∧ FB w (.slice (some ⟨b, off, none⟩) n cap) root [.int .i64 43, .int .i64 sf, .int .i64 st, .slice (some ⟨kb, koff, none⟩) 1 kc, .string text, .int .i64 B, .string N, .int .i64 D, .string M, .int .i64 num, .int .i64 wf, .int .i64 wt, .slice es en ec] w2))
  have HC := Lib.hid (fun (w2 : World) (h : FB w (.slice (some ⟨b, off, none⟩) n cap) root [.int .i64 43, .int .i64 sf, .int .i64 st, .slice (some ⟨kb, koff, none⟩) 1 kc, .string text, .int .i64 B, .string N, .int .i64 D, .string M, .int .i64 num, .int .i64 wf, .int .i64 wt, .slice es en ec] w2) => hF w2 h.bel)
  have HY := Lib.hid hy
  have ea : ∀ bb : Nat, (⟨bb, koff + 0, none⟩ : Addr) = ⟨bb, koff, none⟩ := fun _ => rfl
  clear hF hy ck
  clear hW0
  go_enter Tryz.func15, Tryz.ntmps15
  go_wp2_with fail
  try rw [← HW0.out]
  clear HW0 c0 c1 c2 c3 c4 c5 c6 c7 c8 c9 c10 c11 c12
  obtain ⟨⟨e0, e1⟩, ⟨a0, a3, -⟩, ⟨al, am⟩, -⟩ := D0.out.all
  have hkl : kb < W0.heap.size := Nat.lt_of_lt_of_le hkb D0.out.bel.size
  go_wp2_with fail
  clear a0 a3 e0 e1
  have z1 : ¬ 9223372036854775807 < (⟨#[40, 98, 105, 110, 97, 114, 121, 32, 34, 33, 61, 34, 32]⟩ : ByteArray).size + y.size := by (have h1 : (⟨#[40, 98, 105, 110, 97, 114, 121, 32, 34, 33, 61, 34, 32]⟩ : ByteArray).size = 13 := rfl); have := HY.out; omega
  have z3 : ¬ 9223372036854775807 < 13 + y.size := by have := HY.out; omega
  have z2 : ¬ 9223372036854775807 < ((⟨#[40, 98, 105, 110, 97, 114, 121, 32, 34, 33, 61, 34, 32]⟩ : ByteArray) ++ y).size + 8 := by (have h1 : (⟨#[40, 98, 105, 110, 97, 114, 121, 32, 34, 33, 61, 34, 32]⟩ : ByteArray).size = 13 := rfl); have := HY.out; rw [ByteArray.size_append]; omega
  have z5 : ¬ 9223372036854775807 < 13 + y.size + 8 := by have := HY.out; omega
  have z6 : ¬ 9223372036854775807 < (⟨#[40, 98, 105, 110, 97, 114, 121, 32, 34, 33, 61, 34, 32]⟩ : ByteArray).size + y.size + 8 := by (have h1 : (⟨#[40, 98, 105, 110, 97, 114, 121, 32, 34, 33, 61, 34, 32]⟩ : ByteArray).size = 13 := rfl); have := HY.out; omega
  have z7 : ¬ 9223372036854775807 < (⟨#[40, 98, 105, 110, 97, 114, 121, 32, 34, 33, 61, 34, 32]⟩ : ByteArray).size + y.size + (⟨#[32, 40, 110, 117, 108, 108, 41, 41]⟩ : ByteArray).size := z6
  have z4 : ¬ 9223372036854775807 < ((⟨#[40, 98, 105, 110, 97, 114, 121, 32, 34, 33, 61, 34, 32]⟩ : ByteArray) ++ y).size + (⟨#[32, 40, 110, 117, 108, 108, 41, 41]⟩ : ByteArray).size := z2
  go_region_held3 (fun w' => w'.cell? ⟨w.heap.size, 0, none⟩ = some (.slice (some ⟨b, off, none⟩) n cap) ∧ w'.cell? ⟨w.heap.size, 1, none⟩ = some (.int .i64 root) ∧ w'.cell? ⟨w.heap.size + 1, 3, none⟩ = some (.slice (some ⟨kb, koff, none⟩) 1 kc) ∧ w'.cell? ⟨kb, koff, none⟩ = some (.int .i64 (q : Int)) ∧ FB w (.slice (some ⟨b, off, none⟩) n cap) root [.int .i64 43, .int .i64 sf, .int .i64 st, .slice (some ⟨kb, koff, none⟩) 1 kc, .string text, .int .i64 B, .string N, .int .i64 D, .string M, .int .i64 num, .int .i64 wf, .int .i64 wt, .slice es en ec] w') (first | exact HALL.out _ D0.out | exact HALL.out _ (D0.out.keep ((Below.refl _ _).drew)) | exact HALL.out _ (FB.keep (by assumption) hb2)) (first | (go_at_call 15; go_split_ands; refine (HC.out _ (by assumption)).mono ?_; rintro e w2 ⟨rfl, hb2⟩))
  all_goals go_split_ands
  all_goals rename_i hfb
  all_goals have HFB := Lib.hid (FB.bel (by assumption))
  all_goals go_wp2_with fail
  all_goals go_ret
  all_goals exact ⟨rfl, HFB.out⟩

set_option maxRecDepth 100000 in
set_option maxHeartbeats 4000000 in
theorem rf_s44 (w : World) (b off n cap : Nat) (root : Int) (a : Nat) (sf st : Int) (ks : Option Addr) (q : Nat) (kc : Nat) (text : ByteArray) (B : Int) (N : ByteArray) (D : Int) (M : ByteArray) (num wf wt : Int) (es : Option Addr) (en ec : Nat) (y : ByteArray)
    (c0 : w.cell? ⟨b, off + a * 13, none⟩ = some (.int .i64 44)) (c1 : w.cell? ⟨b, off + a * 13 + 1, none⟩ = some (.int .i64 sf)) (c2 : w.cell? ⟨b, off + a * 13 + 2, none⟩ = some (.int .i64 st)) (c3 : w.cell? ⟨b, off + a * 13 + 3, none⟩ = some (.slice ks 1 kc)) (c4 : w.cell? ⟨b, off + a * 13 + 4, none⟩ = some (.string text)) (c5 : w.cell? ⟨b, off + a * 13 + 5, none⟩ = some (.int .i64 B)) (c6 : w.cell? ⟨b, off + a * 13 + 6, none⟩ = some (.string N)) (c7 : w.cell? ⟨b, off + a * 13 + 7, none⟩ = some (.int .i64 D)) (c8 : w.cell? ⟨b, off + a * 13 + 8, none⟩ = some (.string M)) (c9 : w.cell? ⟨b, off + a * 13 + 9, none⟩ = some (.int .i64 num)) (c10 : w.cell? ⟨b, off + a * 13 + 10, none⟩ = some (.int .i64 wf)) (c11 : w.cell? ⟨b, off + a * 13 + 11, none⟩ = some (.int .i64 wt)) (c12 : w.cell? ⟨b, off + a * 13 + 12, none⟩ = some (.slice es en ec)) (hb : b < w.heap.size) (ha : a < n) (hn : n ≤ 70368744177664) (hks : NumsIn w ks [(q : Int)])
    (hF : ∀ w2, Below w.heap.size w w2 → Calls Tryz.prog 15 #[.agg #[.slice (some ⟨b, off, none⟩) n cap, .int .i64 root], .int .i64 (q : Int), .bool true] w2 fun e w' => e = .returned (.string y) ∧ Below w2.heap.size w2 w') (hy : y.size ≤ 70368744177664) :
    Calls Tryz.prog 15 #[.agg #[.slice (some ⟨b, off, none⟩) n cap, .int .i64 root], .int .i64 (a : Nat), .bool true] w fun e w' => e = .returned (.string (⟨#[40, 98, 105, 110, 97, 114, 121, 32, 34, 61, 61, 34, 32]⟩ ++ y ++ ⟨#[32, 40, 110, 117, 108, 108, 41, 41]⟩)) ∧ Below w.heap.size w w' := by
  have D0 := Lib.hid (FB.new w (.slice (some ⟨b, off, none⟩) n cap) root #[.int .i64 44, .int .i64 sf, .int .i64 st, .slice ks 1 kc, .string text, .int .i64 B, .string N, .int .i64 D, .string M, .int .i64 num, .int .i64 wf, .int .i64 wt, .slice es en ec])
  obtain ⟨W0, hW0⟩ : ∃ W0, W0 = (w.alloc (.cells #[.slice (some ⟨b, off, none⟩) n cap, .int .i64 root] 24)).alloc (.cells #[.int .i64 44, .int .i64 sf, .int .i64 st, .slice ks 1 kc, .string text, .int .i64 B, .string N, .int .i64 D, .string M, .int .i64 num, .int .i64 wf, .int .i64 wt, .slice es en ec] 46) := ⟨_, rfl⟩
  rw [← hW0] at D0
  have HW0 := Lib.hid hW0
  obtain ⟨kb, koff, hkv, hkb, hkrow⟩ := hks (by simp)
  have ck : w.cell? ⟨kb, koff, none⟩ = some (.int .i64 (q : Int)) := hkrow 0 (by simp)
  clear hkrow hks
  subst hkv
  have HALL := Lib.hid (fun (w2 : World) (h : FB w (.slice (some ⟨b, off, none⟩) n cap) root [.int .i64 44, .int .i64 sf, .int .i64 st, .slice (some ⟨kb, koff, none⟩) 1 kc, .string text, .int .i64 B, .string N, .int .i64 D, .string M, .int .i64 num, .int .i64 wf, .int .i64 wt, .slice es en ec] w2) => (⟨h.t.cell 0, h.t.cell 1, h.n.cell 3, keep h.bel hkb ck, h⟩ : w2.cell? ⟨w.heap.size, 0, none⟩ = some (.slice (some ⟨b, off, none⟩) n cap) ∧ w2.cell? ⟨w.heap.size, 1, none⟩ = some (.int .i64 root) ∧ w2.cell? ⟨w.heap.size + 1, 3, none⟩ = some (.slice (some ⟨kb, koff, none⟩) 1 kc) ∧ w2.cell? ⟨kb, koff, none⟩ = some (.int .i64 (q : Int)) ∧ FB w (.slice (some ⟨b, off, none⟩) n cap) root [.int .i64 44, .int .i64 sf, .int .i64 st, .slice (some ⟨kb, koff, none⟩) 1 kc, .string text, .int .i64 B, .string N, .int .i64 D, .string M, .int .i64 num, .int .i64 wf, .int .i64 wt, .slice es en ec] w2))
  have HC := Lib.hid (fun (w2 : World) (h : FB w (.slice (some ⟨b, off, none⟩) n cap) root [.int .i64 44, .int .i64 sf, .int .i64 st, .slice (some ⟨kb, koff, none⟩) 1 kc, .string text, .int .i64 B, .string N, .int .i64 D, .string M, .int .i64 num, .int .i64 wf, .int .i64 wt, .slice es en ec] w2) => hF w2 h.bel)
  have HY := Lib.hid hy
  have ea : ∀ bb : Nat, (⟨bb, koff + 0, none⟩ : Addr) = ⟨bb, koff, none⟩ := fun _ => rfl
  clear hF hy ck
  clear hW0
  go_enter Tryz.func15, Tryz.ntmps15
  go_wp2_with fail
  try rw [← HW0.out]
  clear HW0 c0 c1 c2 c3 c4 c5 c6 c7 c8 c9 c10 c11 c12
  obtain ⟨⟨e0, e1⟩, ⟨a0, a3, -⟩, ⟨al, am⟩, -⟩ := D0.out.all
  have hkl : kb < W0.heap.size := Nat.lt_of_lt_of_le hkb D0.out.bel.size
  go_wp2_with fail
  clear a0 a3 e0 e1
  have z1 : ¬ 9223372036854775807 < (⟨#[40, 98, 105, 110, 97, 114, 121, 32, 34, 61, 61, 34, 32]⟩ : ByteArray).size + y.size := by (have h1 : (⟨#[40, 98, 105, 110, 97, 114, 121, 32, 34, 61, 61, 34, 32]⟩ : ByteArray).size = 13 := rfl); have := HY.out; omega
  have z3 : ¬ 9223372036854775807 < 13 + y.size := by have := HY.out; omega
  have z2 : ¬ 9223372036854775807 < ((⟨#[40, 98, 105, 110, 97, 114, 121, 32, 34, 61, 61, 34, 32]⟩ : ByteArray) ++ y).size + 8 := by (have h1 : (⟨#[40, 98, 105, 110, 97, 114, 121, 32, 34, 61, 61, 34, 32]⟩ : ByteArray).size = 13 := rfl); have := HY.out; rw [ByteArray.size_append]; omega
  have z5 : ¬ 9223372036854775807 < 13 + y.size + 8 := by have := HY.out; omega
  have z6 : ¬ 9223372036854775807 < (⟨#[40, 98, 105, 110, 97, 114, 121, 32, 34, 61, 61, 34, 32]⟩ : ByteArray).size + y.size + 8 := by (have h1 : (⟨#[40, 98, 105, 110, 97, 114, 121, 32, 34, 61, 61, 34, 32]⟩ : ByteArray).size = 13 := rfl); have := HY.out; omega
  have z7 : ¬ 9223372036854775807 < (⟨#[40, 98, 105, 110, 97, 114, 121, 32, 34, 61, 61, 34, 32]⟩ : ByteArray).size + y.size + (⟨#[32, 40, 110, 117, 108, 108, 41, 41]⟩ : ByteArray).size := z6
  have z4 : ¬ 9223372036854775807 < ((⟨#[40, 98, 105, 110, 97, 114, 121, 32, 34, 61, 61, 34, 32]⟩ : ByteArray) ++ y).size + (⟨#[32, 40, 110, 117, 108, 108, 41, 41]⟩ : ByteArray).size := z2
  go_region_held3 (fun w' => w'.cell? ⟨w.heap.size, 0, none⟩ = some (.slice (some ⟨b, off, none⟩) n cap) ∧ w'.cell? ⟨w.heap.size, 1, none⟩ = some (.int .i64 root) ∧ w'.cell? ⟨w.heap.size + 1, 3, none⟩ = some (.slice (some ⟨kb, koff, none⟩) 1 kc) ∧ w'.cell? ⟨kb, koff, none⟩ = some (.int .i64 (q : Int)) ∧ FB w (.slice (some ⟨b, off, none⟩) n cap) root [.int .i64 44, .int .i64 sf, .int .i64 st, .slice (some ⟨kb, koff, none⟩) 1 kc, .string text, .int .i64 B, .string N, .int .i64 D, .string M, .int .i64 num, .int .i64 wf, .int .i64 wt, .slice es en ec] w') (first | exact HALL.out _ D0.out | exact HALL.out _ (D0.out.keep ((Below.refl _ _).drew)) | exact HALL.out _ (FB.keep (by assumption) hb2)) (first | (go_at_call 15; go_split_ands; refine (HC.out _ (by assumption)).mono ?_; rintro e w2 ⟨rfl, hb2⟩))
  all_goals go_split_ands
  all_goals rename_i hfb
  all_goals have HFB := Lib.hid (FB.bel (by assumption))
  all_goals go_wp2_with fail
  all_goals go_ret
  all_goals exact ⟨rfl, HFB.out⟩

set_option maxRecDepth 100000 in
set_option maxHeartbeats 4000000 in
theorem rf_s42 (w : World) (b off n cap : Nat) (root : Int) (a : Nat) (sf st : Int) (ks : Option Addr) (kn : Nat) (kc : Nat) (text : ByteArray) (B : Int) (N : ByteArray) (D : Int) (M : ByteArray) (num wf wt : Int) (es : Option Addr) (en ec : Nat)
    (c0 : w.cell? ⟨b, off + a * 13, none⟩ = some (.int .i64 42)) (c1 : w.cell? ⟨b, off + a * 13 + 1, none⟩ = some (.int .i64 sf)) (c2 : w.cell? ⟨b, off + a * 13 + 2, none⟩ = some (.int .i64 st)) (c3 : w.cell? ⟨b, off + a * 13 + 3, none⟩ = some (.slice ks kn kc)) (c4 : w.cell? ⟨b, off + a * 13 + 4, none⟩ = some (.string text)) (c5 : w.cell? ⟨b, off + a * 13 + 5, none⟩ = some (.int .i64 B)) (c6 : w.cell? ⟨b, off + a * 13 + 6, none⟩ = some (.string N)) (c7 : w.cell? ⟨b, off + a * 13 + 7, none⟩ = some (.int .i64 D)) (c8 : w.cell? ⟨b, off + a * 13 + 8, none⟩ = some (.string M)) (c9 : w.cell? ⟨b, off + a * 13 + 9, none⟩ = some (.int .i64 num)) (c10 : w.cell? ⟨b, off + a * 13 + 10, none⟩ = some (.int .i64 wf)) (c11 : w.cell? ⟨b, off + a * 13 + 11, none⟩ = some (.int .i64 wt)) (c12 : w.cell? ⟨b, off + a * 13 + 12, none⟩ = some (.slice es en ec)) (hb : b < w.heap.size) (ha : a < n) (hn : n ≤ 70368744177664) :
    Calls Tryz.prog 15 #[.agg #[.slice (some ⟨b, off, none⟩) n cap, .int .i64 root], .int .i64 (a : Nat), .bool true] w fun e w' => e = .returned (.string ⟨#[40, 110, 117, 108, 108, 41]⟩) ∧ Below w.heap.size w w' := by
  have D0 := Lib.hid (FB.new w (.slice (some ⟨b, off, none⟩) n cap) root #[.int .i64 42, .int .i64 sf, .int .i64 st, .slice ks kn kc, .string text, .int .i64 B, .string N, .int .i64 D, .string M, .int .i64 num, .int .i64 wf, .int .i64 wt, .slice es en ec])
  obtain ⟨W0, hW0⟩ : ∃ W0, W0 = (w.alloc (.cells #[.slice (some ⟨b, off, none⟩) n cap, .int .i64 root] 24)).alloc (.cells #[.int .i64 42, .int .i64 sf, .int .i64 st, .slice ks kn kc, .string text, .int .i64 B, .string N, .int .i64 D, .string M, .int .i64 num, .int .i64 wf, .int .i64 wt, .slice es en ec] 46) := ⟨_, rfl⟩
  rw [← hW0] at D0
  have HW0 := Lib.hid hW0
  clear hW0
  go_enter Tryz.func15, Tryz.ntmps15
  go_wp2_with fail
  try rw [← HW0.out]
  clear HW0 c0 c1 c2 c3 c4 c5 c6 c7 c8 c9 c10 c11 c12
  obtain ⟨⟨e0, e1⟩, ⟨a0, a3, -⟩, ⟨al, am⟩, -⟩ := D0.out.all
  go_wp2_with fail
  go_ret
  exact ⟨rfl, D0.out.bel⟩

end Go.Proofs.YtfalgnapghienaaGreatDoor
namespace Go.Proofs.YtfalgnapghienaaGreatDoor
open Go Go.RowKit
set_option linter.unusedVariables false
set_option linter.unusedSimpArgs false

def rfS (bare : Bool) (l : List Nd) (a : Nat) : ByteArray := if bare = true then bareS goPen l a else formS goPen l a
theorem rf_small {l : List Nd} {root : Int} (P : ProgOk l root) (hf : ∀ x ∈ l, NdSm x) (bare : Bool) (a : Nat) (ha : a < l.length) : (rfS bare l a).size ≤ 70368744177664 := by
  unfold rfS
  cases bare
  · exact form_small P hf a ha
  · exact bare_small P hf a ha
theorem map_nat_of (K : List Int) (h : ∀ q ∈ K, 0 ≤ q) : K.map Int.toNat = (K.map Int.toNat) := rfl
theorem bare_kids {l : List Nd} {root : Int} (P : ProgOk l root) {a : Nat} (ha : a < l.length) (hs : ¬ (40 ≤ l[a].kind ∧ l[a].kind ≤ 45)) : bareS goPen l a = kidsTo (bareS goPen l) (l[a].kids.map Int.toNat) (headS goPen (bareX l[a])) l[a].kids.length ++ ⟨#[41]⟩ := by
  rw [bare_eq goPen P ha, if_neg (by omega), if_neg (by omega), if_neg (by omega), if_neg (by omega), kidsOf_get l a ha]
  have := kidsTo_all (bareS goPen l) (l[a].kids.map Int.toNat) (headS goPen (bareX l[a]))
  rw [List.length_map] at this
  rw [this]
theorem nm_size (k : Nat) (h0 : 0 < k) (h1 : k < 46) : nmS (k : Int) = nameL.getD k ⟨#[]⟩ ∧ (nmS (k : Int)).size ≤ 20 := by
  have e : nmS (k : Int) = nameL.getD k ⟨#[]⟩ := nmS_nat h0 h1
  exact ⟨e, by rw [e]; exact name_size k h1⟩
theorem small5 {B : Int} {N : ByteArray} {D : Int} {M : ByteArray} (h : rightB B N D M = true) : M.size ≤ 5 := by
  obtain ⟨d, -, h4, hm⟩ := right_bounds h
  omega
theorem strict5 {k : Nat} (h : 40 ≤ k ∧ k ≤ 45) (h2 : ¬ k = 42) : k = 40 ∨ k = 41 ∨ k = 43 ∨ k = 44 ∨ k = 45 := by omega
set_option maxRecDepth 100000 in
theorem rform_any {l : List Nd} {rt : Int} (P : ProgOk l rt) (nv : Value) (root : Int) (hf : ∀ x ∈ l, NdSm x) : ∀ (a : Nat), a < l.length → ∀ (bare : Bool) (w : World), NdsV w nv l → Tabs w →
    Calls Tryz.prog 15 #[.agg #[nv, .int .i64 root], .int .i64 (a : Nat), .bool bare] w fun e w' => e = .returned (.string (rfS bare l a)) ∧ Below w.heap.size w w' := by
  intro a
  induction a using Nat.strongRecOn with
  | _ a ih =>
    intro ha bare w hn hT
    have HN := hn
    obtain ⟨src, cap, rfl, hrow⟩ := hn
    obtain ⟨b, off, rfl, hb, hrow⟩ := hrow (by omega)
    obtain ⟨kv, ev, hnd⟩ := hrow a ha
    have hs := hf _ (List.getElem_mem ha)
    have hsh := shaped_facts (P.shaped a ha)
    have hahead := P.ahead a ha
    have hll := P.long
    have hsm := rf_small P hf bare a ha
    have hres : rfS bare l a = if bare = true then bareS goPen l a else formS goPen l a := rfl
    have hone : (l[a].kind = 40 ∨ l[a].kind = 41 ∨ l[a].kind = 43 ∨ l[a].kind = 44 ∨ l[a].kind = 45) → ∃ q : Nat, q < a ∧ l[a].kids = [(q : Int)] ∧ firstKid l a = q := fun h => by
      obtain ⟨k, hk1, hk2⟩ := one_kid P ha h
      obtain ⟨h0, h1⟩ := hahead k (by rw [hk1]; simp)
      refine ⟨k.toNat, by omega, by rw [hk1]; simp; omega, ?_⟩
      unfold firstKid; rw [hk2]; rfl
    have hfk : formS goPen l a = kidsTo (formS goPen l) (l[a].kids.map Int.toNat) (headS goPen l[a]) l[a].kids.length ++ ⟨#[41]⟩ := form_kids P ha
    have hbe := bare_eq goPen P ha
    have hbk := bare_kids P ha
    have hsp := shaped_parts (P.shaped a ha)
    have ihF : ∀ (bb : Bool) (q : Int), 0 ≤ q → q < (a : Nat) → ∀ w2, Below w.heap.size w w2 → Calls Tryz.prog 15 #[.agg #[.slice (some ⟨b, off, none⟩) l.length cap, .int .i64 root], .int .i64 q, .bool bb] w2 fun e w' => e = .returned (.string (rfS bb l q.toNat)) ∧ Below w2.heap.size w2 w' := fun bb q h0 h1 w2 hb2 => by
      obtain ⟨qn, rfl⟩ : ∃ x : Nat, q = x := ⟨q.toNat, by omega⟩
      exact ih qn (by omega) (by omega) bb w2 (HN.step hb2) (hT.step hb2)
    have hkk : ∀ q ∈ l[a].kids, (0 : Int) ≤ q := fun q hq => (hahead q hq).1
    have hsmall : ∀ k : Nat, k < a → ∀ bb, (rfS bb l k).size ≤ 70368744177664 := fun k hk bb => rf_small P hf bb k (by omega)
    clear hrow ih
    generalize l[a] = y at *
    obtain ⟨kind, sf, st, K, text, B, N, D, M, num, wf, wt, ends⟩ := y
    simp only at *
    obtain ⟨hkd, hty⟩ := hsh
    obtain ⟨k, rfl⟩ : ∃ k : Nat, kind = k := ⟨kind.toNat, by omega⟩
    have h0 : 0 < k := by omega
    have h1 : k < 46 := by omega
    obtain ⟨hk0, he0, c0, c1, c2, c3, c4, c5, c6, c7, c8, c9, c10, c11, c12⟩ := hnd
    obtain ⟨ks, kc, hkv, hks⟩ := hk0
    obtain ⟨es, ec, hev, -⟩ := he0
    simp only at hkv hev hks
    subst hkv hev
    have hnm := nm_size k h0 h1
    have hnS : nameS (k : Int) = nmS (k : Int) := by rw [nameS_eq k h0 h1, hnm.1]
    have hkt := text_kinds k h1
    have htxt := hs.text
    have hN := hs.N
    have hnum := hs.num
    have hKl := hs.kids
    simp only at htxt hN hnum hKl
    have T := rtext_shp k h1
    have Y := rtyped_shp k h1
    have hM5 : (shp (k : Int)).typ = true → M.size ≤ 5 := fun h => small5 (hty h)
    -- what a strict kind is alone
    by_cases hst : bare = true ∧ 40 ≤ k ∧ k ≤ 45
    · obtain ⟨rfl, hst⟩ := hst
      rw [hres, if_pos rfl, hbe]
      by_cases k42 : k = 42
      · subst k42
        rw [if_neg (by decide), if_pos (by decide)]
        exact rf_s42 w b off l.length cap root a sf st ks K.length kc text B N D M num wf wt es ends.length ec c0 c1 c2 c3 c4 c5 c6 c7 c8 c9 c10 c11 c12 hb ha (by omega)
      · obtain ⟨q, hqa, hKq, hfk1⟩ := hone (by omega)
        subst hKq
        rw [hfk1]
        have hF := fun w2 (hb2 : Below w.heap.size w w2) => ihF true (q : Int) (by omega) (by omega) w2 hb2
        have hq2 := hsmall q hqa true
        rw [show rfS true l (q : Int).toNat = bareS goPen l q from rfl] at hF
        rw [show rfS true l q = bareS goPen l q from rfl] at hq2
        generalize bareS goPen l q = yy at *
        rcases strict5 hst k42 with rfl | rfl | rfl | rfl | rfl
        · rw [if_pos (by decide)]
          exact rf_s40 w b off l.length cap root a sf st ks q kc text B N D M num wf wt es ends.length ec yy c0 c1 c2 c3 c4 c5 c6 c7 c8 c9 c10 c11 c12 hb ha (by omega) hks hF hq2
        · rw [if_pos (by decide)]
          exact rf_s41 w b off l.length cap root a sf st ks q kc text B N D M num wf wt es ends.length ec yy c0 c1 c2 c3 c4 c5 c6 c7 c8 c9 c10 c11 c12 hb ha (by omega) hks hF hq2
        · rw [if_neg (by decide), if_neg (by decide), if_pos (by decide)]
          have e : (⟨#[40]⟩ : ByteArray) ++ ⟨#[98, 105, 110, 97, 114, 121]⟩ ++ (⟨#[32, 34, 33, 61, 34, 32]⟩ ++ yy ++ ⟨#[32, 40, 110, 117, 108, 108, 41, 41]⟩) = (⟨#[40, 98, 105, 110, 97, 114, 121, 32, 34, 33, 61, 34, 32]⟩ : ByteArray) ++ yy ++ ⟨#[32, 40, 110, 117, 108, 108, 41, 41]⟩ := by
            rw [show (⟨#[40, 98, 105, 110, 97, 114, 121, 32, 34, 33, 61, 34, 32]⟩ : ByteArray) = ⟨#[40]⟩ ++ ⟨#[98, 105, 110, 97, 114, 121]⟩ ++ ⟨#[32, 34, 33, 61, 34, 32]⟩ from rfl]
            simp only [ByteArray.append_assoc]
          rw [e]
          exact rf_s43 w b off l.length cap root a sf st ks q kc text B N D M num wf wt es ends.length ec yy c0 c1 c2 c3 c4 c5 c6 c7 c8 c9 c10 c11 c12 hb ha (by omega) hks hF hq2
        · rw [if_neg (by decide), if_neg (by decide), if_neg (by decide), if_pos (by decide)]
          have e : (⟨#[40]⟩ : ByteArray) ++ ⟨#[98, 105, 110, 97, 114, 121]⟩ ++ (⟨#[32, 34, 61, 61, 34, 32]⟩ ++ yy ++ ⟨#[32, 40, 110, 117, 108, 108, 41, 41]⟩) = (⟨#[40, 98, 105, 110, 97, 114, 121, 32, 34, 61, 61, 34, 32]⟩ : ByteArray) ++ yy ++ ⟨#[32, 40, 110, 117, 108, 108, 41, 41]⟩ := by
            rw [show (⟨#[40, 98, 105, 110, 97, 114, 121, 32, 34, 61, 61, 34, 32]⟩ : ByteArray) = ⟨#[40]⟩ ++ ⟨#[98, 105, 110, 97, 114, 121]⟩ ++ ⟨#[32, 34, 61, 61, 34, 32]⟩ from rfl]
            simp only [ByteArray.append_assoc]
          rw [e]
          exact rf_s44 w b off l.length cap root a sf st ks q kc text B N D M num wf wt es ends.length ec yy c0 c1 c2 c3 c4 c5 c6 c7 c8 c9 c10 c11 c12 hb ha (by omega) hks hF hq2
        · rw [if_pos (by decide)]
          exact rf_s45 w b off l.length cap root a sf st ks q kc text B N D M num wf wt es ends.length ec yy c0 c1 c2 c3 c4 c5 c6 c7 c8 c9 c10 c11 c12 hb ha (by omega) hks hF hq2
    · have hF : ∀ q ∈ K, ∀ w2, Below w.heap.size w w2 → Calls Tryz.prog 15 #[.agg #[.slice (some ⟨b, off, none⟩) l.length cap, .int .i64 root], .int .i64 q, .bool bare] w2 fun e w' => e = .returned (.string (rfS bare l q.toNat)) ∧ Below w2.heap.size w2 w' := fun q hq w2 hb2 => ihF bare q (hahead q hq).1 (hahead q hq).2 w2 hb2
      have hhead : ∀ x : ByteArray, (let A : ByteArray := ⟨#[40]⟩ ++ nmS (k : Int)
         let A := if (shp k).text = true then A ++ (⟨#[32]⟩ ++ goPen.quote text) else A
         let A := if (shp k).typ = true then A ++ (⟨#[32]⟩ ++ typeS B N (if bare = true then blankT M.size else M)) else A
         if (k : Int) = 19 ∨ (k : Int) = 21 then A ++ (⟨#[32]⟩ ++ goPen.dec num) else A) = x → rfS bare l a = kidsTo (rfS bare l) (K.map Int.toNat) x K.length ++ ⟨#[41]⟩ := by
        intro x hx
        rw [hres]
        cases bare
        · rw [if_neg (by simp), hfk]
          have : headS goPen ⟨(k : Int), sf, st, K, text, B, N, D, M, num, wf, wt, ends⟩ = x := by
            rw [← hx]; unfold headS; simp only [hnS]; rfl
          rw [this]; rfl
        · rw [if_pos rfl, hbk (by simp at hst; omega)]
          have : headS goPen (bareX ⟨(k : Int), sf, st, K, text, B, N, D, M, num, wf, wt, ends⟩) = x := by
            rw [← hx]; unfold headS bareX; simp only [hnS]; rfl
          rw [this]; rfl
      have hszX : ∀ x : ByteArray, rfS bare l a = kidsTo (rfS bare l) (K.map Int.toNat) x K.length ++ ⟨#[41]⟩ → (kidsTo (rfS bare l) (K.map Int.toNat) x K.length).size + 1 ≤ 70368744177664 := fun x hx => by
        rw [hx, ByteArray.size_append, lit1.2.2] at hsm; omega
      clear hbk hbe hfk hone ihF hres hsp
      cases htx : (shp (k : Int)).text
      · cases htp : (shp (k : Int)).typ
        · rw [htx] at T
          rw [htp] at Y
          simp only [htx, htp] at hhead
          by_cases k19 : k = 19
          · subst k19
            have e := hhead _ rfl
            have z := hszX _ e
            rw [e]
            cases bare
            · exact rf_nf19 w b off l.length cap root a sf st ks K kc text B N D M num wf wt es ends.length ec _ _ _ c0 c1 c2 c3 c4 c5 c6 c7 c8 c9 c10 c11 c12 hb ha (by omega) hks hkk hKl hT rfl hnm.2 hF z T Y hnum rfl
            · exact rf_bf19 w b off l.length cap root a sf st ks K kc text B N D M num wf wt es ends.length ec _ _ _ c0 c1 c2 c3 c4 c5 c6 c7 c8 c9 c10 c11 c12 hb ha (by omega) hks hkk hKl hT rfl hnm.2 hF z T Y hnum rfl
          · by_cases k21 : k = 21
            · subst k21
              have e := hhead _ rfl
              have z := hszX _ e
              rw [e]
              cases bare
              · exact rf_nf21 w b off l.length cap root a sf st ks K kc text B N D M num wf wt es ends.length ec _ _ _ c0 c1 c2 c3 c4 c5 c6 c7 c8 c9 c10 c11 c12 hb ha (by omega) hks hkk hKl hT rfl hnm.2 hF z T Y hnum rfl
              · exact rf_bf21 w b off l.length cap root a sf st ks K kc text B N D M num wf wt es ends.length ec _ _ _ c0 c1 c2 c3 c4 c5 c6 c7 c8 c9 c10 c11 c12 hb ha (by omega) hks hkk hKl hT rfl hnm.2 hF z T Y hnum rfl
            · have hkx : ¬ ((k : Int) = 19 ∨ (k : Int) = 21) := by omega
              have e := hhead (⟨#[40]⟩ ++ nmS (k : Int)) (by rw [if_neg hkx]; rfl)
              have z := hszX _ e
              rw [e]
              cases bare
              · exact rf_nff w b off l.length cap root a k sf st ks K kc text B N D M num wf wt es ends.length ec _ _ _ c0 c1 c2 c3 c4 c5 c6 c7 c8 c9 c10 c11 c12 hb ha (by omega) hks hkk hKl hT h0 h1 rfl hnm.2 hF z T Y k19 k21 rfl
              · exact rf_bff w b off l.length cap root a k sf st ks K kc text B N D M num wf wt es ends.length ec _ _ _ c0 c1 c2 c3 c4 c5 c6 c7 c8 c9 c10 c11 c12 hb ha (by omega) hks hkk hKl hT h0 h1 rfl hnm.2 hF z T Y k19 k21 (by simp at hst; omega) rfl
        · obtain ⟨k19, k21⟩ := hkt (.inr htp)
          have hkx : ¬ ((k : Int) = 19 ∨ (k : Int) = 21) := by omega
          rw [htx] at T
          rw [htp] at Y
          simp only [htx, htp] at hhead
          have e := hhead (⟨#[40]⟩ ++ nmS (k : Int) ++ (⟨#[32]⟩ ++ typeS B N (if bare = true then blankT M.size else M))) (by rw [if_neg hkx]; rfl)
          have z := hszX _ e
          rw [e]
          cases bare
          · exact rf_nft w b off l.length cap root a k sf st ks K kc text B N D M num wf wt es ends.length ec _ _ _ c0 c1 c2 c3 c4 c5 c6 c7 c8 c9 c10 c11 c12 hb ha (by omega) hks hkk hKl hT h0 h1 rfl hnm.2 hF z T Y hN (hM5 htp) (hty htp) k19 k21 rfl
          · exact rf_bft w b off l.length cap root a k sf st ks K kc text B N D M num wf wt es ends.length ec _ _ _ c0 c1 c2 c3 c4 c5 c6 c7 c8 c9 c10 c11 c12 hb ha (by omega) hks hkk hKl hT h0 h1 rfl hnm.2 hF z T Y hN (hM5 htp) (hty htp) k19 k21 (by simp at hst; omega) rfl
      · obtain ⟨k19, k21⟩ := hkt (.inl htx)
        have hkx : ¬ ((k : Int) = 19 ∨ (k : Int) = 21) := by omega
        rw [htx] at T
        cases htp : (shp (k : Int)).typ
        · rw [htp] at Y
          simp only [htx, htp] at hhead
          have e := hhead (⟨#[40]⟩ ++ nmS (k : Int) ++ (⟨#[32]⟩ ++ goPen.quote text)) (by rw [if_neg hkx]; rfl)
          have z := hszX _ e
          rw [e]
          cases bare
          · exact rf_ntf w b off l.length cap root a k sf st ks K kc text B N D M num wf wt es ends.length ec _ _ _ c0 c1 c2 c3 c4 c5 c6 c7 c8 c9 c10 c11 c12 hb ha (by omega) hks hkk hKl hT h0 h1 rfl hnm.2 hF z T Y htxt k19 k21 rfl
          · exact rf_btf w b off l.length cap root a k sf st ks K kc text B N D M num wf wt es ends.length ec _ _ _ c0 c1 c2 c3 c4 c5 c6 c7 c8 c9 c10 c11 c12 hb ha (by omega) hks hkk hKl hT h0 h1 rfl hnm.2 hF z T Y htxt k19 k21 (by simp at hst; omega) rfl
        · rw [htp] at Y
          simp only [htx, htp] at hhead
          have e := hhead (⟨#[40]⟩ ++ nmS (k : Int) ++ (⟨#[32]⟩ ++ goPen.quote text) ++ (⟨#[32]⟩ ++ typeS B N (if bare = true then blankT M.size else M))) (by rw [if_neg hkx]; rfl)
          have z := hszX _ e
          rw [e]
          cases bare
          · exact rf_ntt w b off l.length cap root a k sf st ks K kc text B N D M num wf wt es ends.length ec _ _ _ c0 c1 c2 c3 c4 c5 c6 c7 c8 c9 c10 c11 c12 hb ha (by omega) hks hkk hKl hT h0 h1 rfl hnm.2 hF z T Y htxt hN (hM5 htp) (hty htp) k19 k21 rfl
          · exact rf_btt w b off l.length cap root a k sf st ks K kc text B N D M num wf wt es ends.length ec _ _ _ c0 c1 c2 c3 c4 c5 c6 c7 c8 c9 c10 c11 c12 hb ha (by omega) hks hkk hKl hT h0 h1 rfl hnm.2 hF z T Y htxt hN (hM5 htp) (hty htp) k19 k21 (by simp at hst; omega) rfl
end Go.Proofs.YtfalgnapghienaaGreatDoor
namespace Go.Proofs.YtfalgnapghienaaGreatDoor
open Go Go.RowKit
set_option linter.unusedVariables false
set_option linter.unusedSimpArgs false

/-- two programs' boxes -/
structure D2 (w0 : World) (g : Nat) (av : Value) (ra : Int) (bv : Value) (rb : Int) (w : World) : Prop where
  bel : Below w0.heap.size w0 w
  a : Bx 24 w g [av, .int .i64 ra]
  b : Bx 24 w (g + 1) [bv, .int .i64 rb]
theorem D2.keep {w0 w w1 : World} {g : Nat} {av bv : Value} {ra rb : Int} (h : D2 w0 g av ra bv rb w) (hb : Below w.heap.size w w1) : D2 w0 g av ra bv rb w1 := ⟨after h.bel hb, h.a.keep hb, h.b.keep hb⟩
theorem D2.new (w0 : World) (av : Value) (ra : Int) (bv : Value) (rb : Int) : D2 w0 w0.heap.size av ra bv rb ((w0.alloc (.cells #[av, .int .i64 ra] 24)).alloc (.cells #[bv, .int .i64 rb] 24)) := by
  refine ⟨((Below.refl _ _).alloc (Nat.le_refl _) _).alloc (by simp) _, (Bx.new 24 w0 #[av, .int .i64 ra]).alloc _, ?_⟩
  have := Bx.new 24 (w0.alloc (.cells #[av, .int .i64 ra] 24)) #[bv, .int .i64 rb]
  simpa using this
theorem D2.four {w0 w : World} {g : Nat} {av bv : Value} {ra rb : Int} (h : D2 w0 g av ra bv rb w) : w.cell? ⟨g, 0, none⟩ = some av ∧ w.cell? ⟨g, 1, none⟩ = some (.int .i64 ra) ∧ w.cell? ⟨g + 1, 0, none⟩ = some bv ∧ w.cell? ⟨g + 1, 1, none⟩ = some (.int .i64 rb) ∧ D2 w0 g av ra bv rb w :=
  ⟨h.a.cell 0, h.a.cell 1, h.b.cell 0, h.b.cell 1, h⟩
theorem FormS_in {l : List Nd} {root : Int} (hc : checkE l root = 0) {a : Nat} (ha : a < l.length) : FormS goPen l root (a : Nat) = formS goPen l a := by
  unfold FormS; rw [if_pos ⟨by omega, by omega, hc⟩]; rfl
theorem FormS_out (l : List Nd) (root at_ : Int) (h : ¬ (0 ≤ at_ ∧ at_ < l.length)) : FormS goPen l root at_ = ⟨#[]⟩ := by
  unfold FormS; rw [if_neg (fun x => h ⟨x.1, x.2.1⟩)]
theorem same_both {l l' : List Nd} {r r' : Int} (h : checkE l r = 0) (h' : checkE l' r' = 0) : sameB goPen l r l' r' = ((formS goPen l (l.length - 1)).toList == (formS goPen l' (l'.length - 1)).toList) := by
  rw [tl_eq]; unfold sameB; rw [decide_eq_true h, decide_eq_true h', FormS_root goPen h, FormS_root goPen h']; rfl
theorem same_swap {l l' : List Nd} {r r' : Int} (h : checkE l r = 0) (h' : checkE l' r' = 0) : sameB goPen l' r' l r = ((formS goPen l (l.length - 1)).toList == (formS goPen l' (l'.length - 1)).toList) := by
  rw [same_both h' h, Bool.eq_iff_iff, beq_iff_eq, beq_iff_eq]
  exact ⟨fun e => e.symm, fun e => e.symm⟩
theorem same_no {l l' : List Nd} {r r' : Int} (h' : checkE l' r' ≠ 0) : sameB goPen l r l' r' = false ∧ sameB goPen l' r' l r = false := by
  unfold sameB; rw [decide_eq_false h']; simp

set_option maxRecDepth 100000 in
set_option maxHeartbeats 8000000 in
theorem forms_any {w : World} (av : Value) (la : List Nd) (ra : Int) (ta : TreeV w av la ra) (rda : ∀ x ∈ la, NdRead x) (bv : Value) (lb : List Nd) (rb : Int) (tb : TreeV w bv lb rb) (rdb : ∀ x ∈ lb, NdRead x) (a0 : Int) (wa : (Lit.int .i64 a0).wf = true) (hT : Tabs w)
    (hG : ∀ w2, Below w.heap.size w w2 → Calls Tryz.prog 7 #[] w2 fun e w' => e = .returned (.bool true) ∧ Below w2.heap.size w2 w')
    (hCA : ∀ w2, Below w.heap.size w w2 → smallB la = true → Calls Tryz.prog 9 #[av] w2 (ChkPost w2 (checkE la ra)))
    (hCB : ∀ w2, Below w.heap.size w w2 → smallB lb = true → Calls Tryz.prog 9 #[bv] w2 (ChkPost w2 (checkE lb rb))) :
    Calls Tryz.prog 4 #[av, bv, .int .i64 a0] w fun e w' => e = .returned (.bool true) ∧ Below w.heap.size w w' := by
  obtain ⟨av, rfl, hna⟩ := ta
  obtain ⟨bv, rfl, hnb⟩ := tb
  have HNA := Lib.hid hna
  have HNB := Lib.hid hnb
  have HT := Lib.hid hT
  have HG := Lib.hid hG
  have HCA := Lib.hid hCA
  have HCB0 := Lib.hid hCB
  have RDA := Lib.hid rda
  have RDB := Lib.hid rdb
  obtain ⟨sa, ca, rfl, -⟩ := hna
  obtain ⟨na, hna0⟩ : ∃ n, n = la.length := ⟨_, rfl⟩
  rw [← hna0] at HCA HNA ⊢
  have HLN := Lib.hid hna0
  clear hna0
  have D0 := Lib.hid (D2.new w (.slice sa na ca) ra bv rb)
  obtain ⟨g, hg⟩ : ∃ g, g = w.heap.size := ⟨_, rfl⟩
  obtain ⟨W0, hW0⟩ : ∃ W0, W0 = (w.alloc (.cells #[.slice sa na ca, .int .i64 ra] 24)).alloc (.cells #[bv, .int .i64 rb] 24) := ⟨_, rfl⟩
  rw [← hW0, ← hg] at D0
  have HW0 := Lib.hid hW0
  have HG0 := Lib.hid hg
  clear hT hG hCA hCB rda rdb hW0 hg hnb
  go_enter Tryz.func4, Tryz.ntmps4
  go_wp2_with fail
  rw [← HW0.out, ← HG0.out]
  refine (HG.out _ D0.out.bel).mono ?_
  rintro e w1 ⟨rfl, hb1⟩
  have D1 := Lib.hid (D0.out.keep hb1)
  obtain ⟨a0c, a1c, b0c, b1c, -⟩ := D1.out.four
  clear hb1 HW0 D0
  go_wp2_with fail
  refine (small_any la (.slice sa na ca) ra w1 (HNA.out.step D1.out.bel)).mono ?_
  rintro e w2 ⟨rfl, hb2⟩
  have D2' := Lib.hid (D1.out.keep hb2)
  clear hb2 a0c a1c b0c b1c D1
  obtain ⟨a0c, a1c, b0c, b1c, -⟩ := D2'.out.four
  cases hsa : smallB la with
  | false =>
    go_wp2_with fail
    go_ret
    exact ⟨rfl, D2'.out.bel⟩
  | true =>
  have SMA := Lib.hid (sm_of hsa RDA.out)
  have hl3 : na ≤ 300 := by rw [HLN.out]; exact (small_get hsa).1
  have HSA := Lib.hid hsa
  clear hsa
  go_wp2_with fail
  refine (small_any lb bv rb w2 (HNB.out.step D2'.out.bel)).mono ?_
  rintro e w3 ⟨rfl, hb3⟩
  have D3 := Lib.hid (D2'.out.keep hb3)
  clear hb3 a0c a1c b0c b1c D2'
  obtain ⟨a0c, a1c, b0c, b1c, -⟩ := D3.out.four
  cases hsb : smallB lb with
  | false =>
    go_wp2_with fail
    go_ret
    exact ⟨rfl, D3.out.bel⟩
  | true =>
  have SMB := Lib.hid (sm_of hsb RDB.out)
  have HLB := Lib.hid (small_get hsb).1
  have HSB := Lib.hid hsb
  clear hsb
  go_wp2_with fail
  refine (HCA.out _ D3.out.bel HSA.out).mono ?_
  rintro e w4 ⟨rfl, hb4⟩
  have D4 := Lib.hid (D3.out.keep hb4)
  clear hb4 a0c a1c b0c b1c D3
  obtain ⟨a0c, a1c, b0c, b1c, -⟩ := D4.out.four
  by_cases hc : checkE la ra = 0
  · have HC0 := Lib.hid hc
    have HP := Lib.hid (check_ok la ra hc)
    rw [hc]
    clear hc HCA HG
    have HF := Lib.hid (fun (w' : World) (d : D2 w g (.slice sa na ca) ra bv rb w') => Form_any la (.slice sa na ca) ra a0 w' (HT.out.step d.bel) (HNA.out.step d.bel) (by have := HLN.out; omega) SMA.out)
    go_wp2_with fail
    refine (HF.out _ D4.out).mono ?_
    rintro e w5 ⟨rfl, hb5⟩
    have D6 := Lib.hid (D4.out.keep hb5)
    clear hb5 a0c a1c b0c b1c D4 HF
    obtain ⟨a0c, a1c, b0c, b1c, -⟩ := D6.out.four
    by_cases hin : 0 ≤ a0 ∧ a0 < (na : Nat)
    · obtain ⟨a, rfl⟩ : ∃ a : Nat, a0 = a := ⟨a0.toNat, by omega⟩
      have hal : a < la.length := by have := HLN.out; omega
      have p1 : decide ((a : Int) < 0) = false := decide_eq_false (by omega)
      have p2 : decide ((na : Int) ≤ (a : Int)) = false := decide_eq_false (by omega)
      have p2n : decide (na ≤ a) = false := decide_eq_false (by omega)
      have HFI : Hid (∀ (w' : World), D2 w g (.slice sa na ca) ra bv rb w' → Calls Tryz.prog 15 #[.agg #[.slice sa na ca, .int .i64 ra], .int .i64 (a : Nat), .bool false] w' fun e w'' => e = .returned (.string (formS goPen la a)) ∧ Below w'.heap.size w' w'') := Lib.hid (fun w' d => rform_any HP.out (.slice sa na ca) ra SMA.out a hal false w' (HNA.out.step d.bel) (HT.out.step d.bel))
      have eF : FormS goPen la ra (a : Nat) = formS goPen la a := FormS_in HC0.out hal
      have hr := HP.out.root_
      have hp := HP.out.some_
      obtain ⟨q, hq⟩ : ∃ q, q = la.length - 1 := ⟨_, rfl⟩
      have hrq : ra = (q : Nat) := by omega
      have HFA : Hid (∀ (w' : World), D2 w g (.slice sa na ca) ra bv rb w' → Calls Tryz.prog 15 #[.agg #[.slice sa na ca, .int .i64 ra], .int .i64 ra, .bool false] w' fun e w'' => e = .returned (.string (formS goPen la q)) ∧ Below w'.heap.size w' w'') := Lib.hid (fun w' d => by
        have h := rform_any HP.out (.slice sa na ca) ra SMA.out q (by omega) false w' (HNA.out.step d.bel) (HT.out.step d.bel)
        rw [← hrq] at h; exact h)
      rw [eF]
      by_cases hcb : checkE lb rb = 0
      · have PB := check_ok lb rb hcb
        have hr2 := PB.root_
        have hp2 := PB.some_
        obtain ⟨q2, hq2⟩ : ∃ q, q = lb.length - 1 := ⟨_, rfl⟩
        have hrq2 : rb = (q2 : Nat) := by omega
        have HCB : Hid (∀ (w' : World), D2 w g (.slice sa na ca) ra bv rb w' → Calls Tryz.prog 9 #[.agg #[bv, .int .i64 rb]] w' fun e w'' => e = .returned (.int .i64 0) ∧ Below w'.heap.size w' w'') := Lib.hid (fun w' d => by
          have h := HCB0.out w' d.bel HSB.out
          rw [hcb] at h; exact h)
        have HFB : Hid (∀ (w' : World), D2 w g (.slice sa na ca) ra bv rb w' → Calls Tryz.prog 15 #[.agg #[bv, .int .i64 rb], .int .i64 rb, .bool false] w' fun e w'' => e = .returned (.string (formS goPen lb q2)) ∧ Below w'.heap.size w' w'') := Lib.hid (fun w' d => by
          have h := rform_any PB bv rb SMB.out q2 (by omega) false w' (HNB.out.step d.bel) (HT.out.step d.bel)
          rw [← hrq2] at h; exact h)
        have HMA : Hid (∀ (w' : World), D2 w g (.slice sa na ca) ra bv rb w' → Calls Tryz.prog 13 #[.agg #[.slice sa na ca, .int .i64 ra], .agg #[bv, .int .i64 rb]] w' fun e w'' => e = .returned (.bool ((formS goPen la q).toList == (formS goPen lb q2).toList)) ∧ Below w'.heap.size w' w'') := Lib.hid (fun w' d => by
          have h := same_any la lb (.slice sa na ca) bv ra rb w' (HT.out.step d.bel) (HNA.out.step d.bel) (by have := HLN.out; omega) SMA.out (HNB.out.step d.bel) (by have := HLB.out; omega) SMB.out
          rw [same_both HC0.out hcb, ← hq, ← hq2] at h; exact h)
        have HMB : Hid (∀ (w' : World), D2 w g (.slice sa na ca) ra bv rb w' → Calls Tryz.prog 13 #[.agg #[bv, .int .i64 rb], .agg #[.slice sa na ca, .int .i64 ra]] w' fun e w'' => e = .returned (.bool ((formS goPen la q).toList == (formS goPen lb q2).toList)) ∧ Below w'.heap.size w' w'') := Lib.hid (fun w' d => by
          have h := same_any lb la bv (.slice sa na ca) rb ra w' (HT.out.step d.bel) (HNB.out.step d.bel) (by have := HLB.out; omega) SMB.out (HNA.out.step d.bel) (by have := HLN.out; omega) SMA.out
          rw [same_swap HC0.out hcb, ← hq, ← hq2] at h; exact h)
        clear hcb PB hr2 hp2 hq2 hrq2 hr hp hq hrq HCB0 eF HP HC0 SMA SMB hin RDA RDB HNA HNB HT hal
        generalize formS goPen la q = x at *
        generalize formS goPen lb q2 = y at *
        generalize formS goPen la a = z at *
        generalize hbq : (x.toList == y.toList) = bq at *
        go_wp2_with fail
        clear a0c a1c b0c b1c
        refine wp_region_held_drew (S := (fun w' => w'.cell? ⟨g, 0, none⟩ = some (.slice sa na ca) ∧ w'.cell? ⟨g, 1, none⟩ = some (.int .i64 ra) ∧ w'.cell? ⟨g + 1, 0, none⟩ = some bv ∧ w'.cell? ⟨g + 1, 1, none⟩ = some (.int .i64 rb) ∧ D2 w g (.slice sa na ca) ra bv rb w')) (by kernel_rfl) ((D2.keep D6.out ((Below.refl _ _).drew)).four) (fun hHeld => ?_)
        (refine wpAnyH_take (i := 0) (v := ?vv0) rfl (by kernel_rfl) (by kernel_rfl) (by kernel_rfl) (fun _ _ _ h => h) (Or.inl ⟨by rfl, ?hy0⟩) (by assumption) ?rest0; case hy0 => (intro w hSw; (try dsimp only at hSw); go_simp; try with_reducible rfl))
        (try simp only [List.getElem_toArray, List.getElem_cons_zero, List.getElem_cons_succ, Act.put, List.setIfInBounds_toArray, List.set_cons_zero, List.set_cons_succ])
        (refine wpAnyH_ready (rs := [1]) (by kernel_rfl) (List.cons_ne_nil _ _) ?_; refine AllReadyH.cons rfl (fun K hK => ?_) AllReadyH.nil; go_simp; go_split_ands; (go_at_call 9; go_split_ands; refine (HCB.out _ (by assumption)).mono ?_; rintro e w2 ⟨rfl, hb2⟩); (try go_wp2_with fail); refine hK.out _ _ ?hS1 (fun hHeld2 => ?rest1); (case hS1 => (exact (D2.keep (by assumption) hb2).four)); clear hK K; (try simp only [List.getElem_toArray, List.getElem_cons_zero, List.getElem_cons_succ, Act.put, List.setIfInBounds_toArray, List.set_cons_zero, List.set_cons_succ]))
        (refine wpAnyH_take (i := 2) (v := ?vv2) rfl (by kernel_rfl) (by kernel_rfl) (by kernel_rfl) (fun _ _ _ h => h) (Or.inl ⟨by rfl, ?hy2⟩) (by assumption) ?rest2; case hy2 => (intro w hSw; (try dsimp only at hSw); go_simp; try with_reducible rfl))
        (try simp only [List.getElem_toArray, List.getElem_cons_zero, List.getElem_cons_succ, Act.put, List.setIfInBounds_toArray, List.set_cons_zero, List.set_cons_succ])
        (refine wpAnyH_take (i := 3) (v := ?vv3) rfl (by kernel_rfl) (by kernel_rfl) (by kernel_rfl) (fun _ _ _ h => h) (Or.inl ⟨by rfl, ?hy3⟩) (by assumption) ?rest3; case hy3 => (intro w hSw; (try dsimp only at hSw); go_simp; try with_reducible rfl))
        (try simp only [List.getElem_toArray, List.getElem_cons_zero, List.getElem_cons_succ, Act.put, List.setIfInBounds_toArray, List.set_cons_zero, List.set_cons_succ])
        first | (refine wpAnyH_take (i := 4) (v := undef) rfl (by kernel_rfl) (by kernel_rfl) (by kernel_rfl) (fun _ _ _ h => h) (Or.inr ⟨by rfl, rfl⟩) (by assumption) ?_) | (refine wpAnyH_take (i := 4) (v := ?vv4) rfl (by kernel_rfl) (by kernel_rfl) (by kernel_rfl) (fun _ _ _ h => h) (Or.inl ⟨by rfl, ?hy4⟩) (by assumption) ?rest4; case hy4 => (intro w hSw; (try dsimp only at hSw); go_simp; try with_reducible rfl))
        (try simp only [List.getElem_toArray, List.getElem_cons_zero, List.getElem_cons_succ, Act.put, List.setIfInBounds_toArray, List.set_cons_zero, List.set_cons_succ])
        first | (refine wpAnyH_take (i := 5) (v := undef) rfl (by kernel_rfl) (by kernel_rfl) (by kernel_rfl) (fun _ _ _ h => h) (Or.inr ⟨by rfl, rfl⟩) (by assumption) ?_) | (refine wpAnyH_take (i := 5) (v := ?vv5) rfl (by kernel_rfl) (by kernel_rfl) (by kernel_rfl) (fun _ _ _ h => h) (Or.inl ⟨by rfl, ?hy5⟩) (by assumption) ?rest5; case hy5 => (intro w hSw; (try dsimp only at hSw); go_simp; try with_reducible rfl))
        (try simp only [List.getElem_toArray, List.getElem_cons_zero, List.getElem_cons_succ, Act.put, List.setIfInBounds_toArray, List.set_cons_zero, List.set_cons_succ])
        first | (refine wpAnyH_take (i := 6) (v := undef) rfl (by kernel_rfl) (by kernel_rfl) (by kernel_rfl) (fun _ _ _ h => h) (Or.inr ⟨by rfl, rfl⟩) (by assumption) ?_) | (refine wpAnyH_take (i := 6) (v := ?vv6) rfl (by kernel_rfl) (by kernel_rfl) (by kernel_rfl) (fun _ _ _ h => h) (Or.inl ⟨by rfl, ?hy6⟩) (by assumption) ?rest6; case hy6 => (intro w hSw; (try dsimp only at hSw); go_simp; try with_reducible rfl))
        (try simp only [List.getElem_toArray, List.getElem_cons_zero, List.getElem_cons_succ, Act.put, List.setIfInBounds_toArray, List.set_cons_zero, List.set_cons_succ])
        first | (refine wpAnyH_take (i := 8) (v := undef) rfl (by kernel_rfl) (by kernel_rfl) (by kernel_rfl) (fun _ _ _ h => h) (Or.inr ⟨by rfl, rfl⟩) (by assumption) ?_) | (refine wpAnyH_take (i := 8) (v := ?vv7) rfl (by kernel_rfl) (by kernel_rfl) (by kernel_rfl) (fun _ _ _ h => h) (Or.inl ⟨by rfl, ?hy7⟩) (by assumption) ?rest7; case hy7 => (intro w hSw; (try dsimp only at hSw); go_simp; try with_reducible rfl))
        (try simp only [List.getElem_toArray, List.getElem_cons_zero, List.getElem_cons_succ, Act.put, List.setIfInBounds_toArray, List.set_cons_zero, List.set_cons_succ])
        first | (refine wpAnyH_take (i := 9) (v := undef) rfl (by kernel_rfl) (by kernel_rfl) (by kernel_rfl) (fun _ _ _ h => h) (Or.inr ⟨by rfl, rfl⟩) (by assumption) ?_) | (refine wpAnyH_take (i := 9) (v := ?vv8) rfl (by kernel_rfl) (by kernel_rfl) (by kernel_rfl) (fun _ _ _ h => h) (Or.inl ⟨by rfl, ?hy8⟩) (by assumption) ?rest8; case hy8 => (intro w hSw; (try dsimp only at hSw); go_simp; try with_reducible rfl))
        (try simp only [List.getElem_toArray, List.getElem_cons_zero, List.getElem_cons_succ, Act.put, List.setIfInBounds_toArray, List.set_cons_zero, List.set_cons_succ])
        first | (refine wpAnyH_take (i := 10) (v := undef) rfl (by kernel_rfl) (by kernel_rfl) (by kernel_rfl) (fun _ _ _ h => h) (Or.inr ⟨by rfl, rfl⟩) (by assumption) ?_) | (refine wpAnyH_take (i := 10) (v := ?vv9) rfl (by kernel_rfl) (by kernel_rfl) (by kernel_rfl) (fun _ _ _ h => h) (Or.inl ⟨by rfl, ?hy9⟩) (by assumption) ?rest9; case hy9 => (intro w hSw; (try dsimp only at hSw); go_simp; try with_reducible rfl))
        (try simp only [List.getElem_toArray, List.getElem_cons_zero, List.getElem_cons_succ, Act.put, List.setIfInBounds_toArray, List.set_cons_zero, List.set_cons_succ])
        first
          | (refine wpAnyH_take (i := 7) (v := undef) rfl (by kernel_rfl) (by kernel_rfl) (by kernel_rfl) (fun _ _ _ h => h) (Or.inr ⟨by rfl, rfl⟩) (by assumption) ?_; (try simp only [List.getElem_toArray, List.getElem_cons_zero, List.getElem_cons_succ, Act.put, List.setIfInBounds_toArray, List.set_cons_zero, List.set_cons_succ]))
          | (refine wpAnyH_ready (rs := [7]) (by kernel_rfl) (List.cons_ne_nil _ _) ?_; refine AllReadyH.cons rfl (fun K hK => ?_) AllReadyH.nil; go_simp; go_split_ands; (go_at_call 15; go_split_ands; refine (HFA.out _ (by assumption)).mono ?_; rintro e w2 ⟨rfl, hb2⟩); (try go_wp2_with fail); refine hK.out _ _ ?hS10 (fun hHeld2 => ?rest10); (case hS10 => (exact (D2.keep (by assumption) hb2).four)); clear hK K; (try simp only [List.getElem_toArray, List.getElem_cons_zero, List.getElem_cons_succ, Act.put, List.setIfInBounds_toArray, List.set_cons_zero, List.set_cons_succ]))
        first
          | (refine wpAnyH_take (i := 11) (v := undef) rfl (by kernel_rfl) (by kernel_rfl) (by kernel_rfl) (fun _ _ _ h => h) (Or.inr ⟨by rfl, rfl⟩) (by assumption) ?_; (try simp only [List.getElem_toArray, List.getElem_cons_zero, List.getElem_cons_succ, Act.put, List.setIfInBounds_toArray, List.set_cons_zero, List.set_cons_succ]))
          | (refine wpAnyH_ready (rs := [11]) (by kernel_rfl) (List.cons_ne_nil _ _) ?_; refine AllReadyH.cons rfl (fun K hK => ?_) AllReadyH.nil; go_simp; go_split_ands; (go_at_call 15; go_split_ands; refine (HFB.out _ (by assumption)).mono ?_; rintro e w2 ⟨rfl, hb2⟩); (try go_wp2_with fail); refine hK.out _ _ ?hS11 (fun hHeld2 => ?rest11); (case hS11 => (exact (D2.keep (by assumption) hb2).four)); clear hK K; (try simp only [List.getElem_toArray, List.getElem_cons_zero, List.getElem_cons_succ, Act.put, List.setIfInBounds_toArray, List.set_cons_zero, List.set_cons_succ]))
        first | (refine wpAnyH_take (i := 12) (v := undef) rfl (by kernel_rfl) (by kernel_rfl) (by kernel_rfl) (fun _ _ _ h => h) (Or.inr ⟨by rfl, rfl⟩) (by assumption) ?_) | (refine wpAnyH_take (i := 12) (v := ?vv12) rfl (by kernel_rfl) (by kernel_rfl) (by kernel_rfl) (fun _ _ _ h => h) (Or.inl ⟨by rfl, ?hy12⟩) (by assumption) ?rest12; case hy12 => (intro w hSw; (try dsimp only at hSw); go_simp; try with_reducible rfl))
        (try simp only [List.getElem_toArray, List.getElem_cons_zero, List.getElem_cons_succ, Act.put, List.setIfInBounds_toArray, List.set_cons_zero, List.set_cons_succ])
        (refine wpAnyH_take (i := 13) (v := ?vv13) rfl (by kernel_rfl) (by kernel_rfl) (by kernel_rfl) (fun _ _ _ h => h) (Or.inl ⟨by rfl, ?hy13⟩) (by assumption) ?rest13; case hy13 => (intro w hSw; (try dsimp only at hSw); go_simp; try with_reducible rfl))
        (try simp only [List.getElem_toArray, List.getElem_cons_zero, List.getElem_cons_succ, Act.put, List.setIfInBounds_toArray, List.set_cons_zero, List.set_cons_succ])
        (refine wpAnyH_take (i := 14) (v := ?vv14) rfl (by kernel_rfl) (by kernel_rfl) (by kernel_rfl) (fun _ _ _ h => h) (Or.inl ⟨by rfl, ?hy14⟩) (by assumption) ?rest14; case hy14 => (intro w hSw; (try dsimp only at hSw); go_simp; try with_reducible rfl))
        (try simp only [List.getElem_toArray, List.getElem_cons_zero, List.getElem_cons_succ, Act.put, List.setIfInBounds_toArray, List.set_cons_zero, List.set_cons_succ])
        refine wpAnyH_done (by kernel_rfl) ?_ _
        all_goals go_split_ands
        all_goals rename_i hd7
        all_goals have D7 := Lib.hid hd7
        all_goals clear hd7
        all_goals clear hbq
        all_goals go_wp2_with fail
        all_goals refine (HFI.out _ D7.out).mono ?_
        all_goals rintro e w8 ⟨rfl, hb8⟩
        all_goals have D8 := Lib.hid (D7.out.keep hb8)
        all_goals clear hb8
        all_goals obtain ⟨a0c, a1c, b0c, b1c, -⟩ := D8.out.four
        all_goals go_wp2_with fail
        all_goals refine (HMA.out _ D8.out).mono ?_
        all_goals rintro e w9 ⟨rfl, hb9⟩
        all_goals have D9 := Lib.hid (D8.out.keep hb9)
        all_goals clear hb9 a0c a1c b0c b1c
        all_goals obtain ⟨a0c, a1c, b0c, b1c, -⟩ := D9.out.four
        all_goals go_wp2_with fail
        all_goals refine (HMB.out _ D9.out).mono ?_
        all_goals rintro e w10 ⟨rfl, hb10⟩
        all_goals have D10 := Lib.hid (D9.out.keep hb10)
        all_goals clear hb10
        all_goals go_wp2_with fail
        all_goals go_ret
        all_goals exact ⟨rfl, D10.out.bel⟩
      · have HCB : Hid (∀ (w' : World), D2 w g (.slice sa na ca) ra bv rb w' → Calls Tryz.prog 9 #[.agg #[bv, .int .i64 rb]] w' fun e w'' => e = .returned (.int .i64 (checkE lb rb)) ∧ Below w'.heap.size w' w'') := Lib.hid (fun w' d => HCB0.out w' d.bel HSB.out)
        have hcc : (checkE lb rb == 0) = false := by simpa using hcb
        have HMA : Hid (∀ (w' : World), D2 w g (.slice sa na ca) ra bv rb w' → Calls Tryz.prog 13 #[.agg #[.slice sa na ca, .int .i64 ra], .agg #[bv, .int .i64 rb]] w' fun e w'' => e = .returned (.bool false) ∧ Below w'.heap.size w' w'') := Lib.hid (fun w' d => by
          have h := same_any la lb (.slice sa na ca) bv ra rb w' (HT.out.step d.bel) (HNA.out.step d.bel) (by have := HLN.out; omega) SMA.out (HNB.out.step d.bel) (by have := HLB.out; omega) SMB.out
          rw [(same_no hcb).1] at h; exact h)
        have HMB : Hid (∀ (w' : World), D2 w g (.slice sa na ca) ra bv rb w' → Calls Tryz.prog 13 #[.agg #[bv, .int .i64 rb], .agg #[.slice sa na ca, .int .i64 ra]] w' fun e w'' => e = .returned (.bool false) ∧ Below w'.heap.size w' w'') := Lib.hid (fun w' d => by
          have h := same_any lb la bv (.slice sa na ca) rb ra w' (HT.out.step d.bel) (HNB.out.step d.bel) (by have := HLB.out; omega) SMB.out (HNA.out.step d.bel) (by have := HLN.out; omega) SMA.out
          rw [(same_no hcb).2] at h; exact h)
        clear hcb hr hp hq hrq HCB0 eF HP HC0 SMA SMB hin RDA RDB HNA HNB HT hal
        generalize checkE lb rb = cb at *
        generalize formS goPen la a = z at *
        go_wp2_with fail
        clear a0c a1c b0c b1c HFA
        refine wp_region_held_drew (S := (fun w' => w'.cell? ⟨g, 0, none⟩ = some (.slice sa na ca) ∧ w'.cell? ⟨g, 1, none⟩ = some (.int .i64 ra) ∧ w'.cell? ⟨g + 1, 0, none⟩ = some bv ∧ w'.cell? ⟨g + 1, 1, none⟩ = some (.int .i64 rb) ∧ D2 w g (.slice sa na ca) ra bv rb w')) (by kernel_rfl) ((D2.keep D6.out ((Below.refl _ _).drew)).four) (fun hHeld => ?_)
        (refine wpAnyH_take (i := 0) (v := ?vv15) rfl (by kernel_rfl) (by kernel_rfl) (by kernel_rfl) (fun _ _ _ h => h) (Or.inl ⟨by rfl, ?hy15⟩) (by assumption) ?rest15; case hy15 => (intro w hSw; (try dsimp only at hSw); go_simp; try with_reducible rfl))
        (try simp only [List.getElem_toArray, List.getElem_cons_zero, List.getElem_cons_succ, Act.put, List.setIfInBounds_toArray, List.set_cons_zero, List.set_cons_succ])
        (refine wpAnyH_ready (rs := [1]) (by kernel_rfl) (List.cons_ne_nil _ _) ?_; refine AllReadyH.cons rfl (fun K hK => ?_) AllReadyH.nil; go_simp; go_split_ands; (go_at_call 9; go_split_ands; refine (HCB.out _ (by assumption)).mono ?_; rintro e w2 ⟨rfl, hb2⟩); (try go_wp2_with fail); refine hK.out _ _ ?hS16 (fun hHeld2 => ?rest16); (case hS16 => (exact (D2.keep (by assumption) hb2).four)); clear hK K; (try simp only [List.getElem_toArray, List.getElem_cons_zero, List.getElem_cons_succ, Act.put, List.setIfInBounds_toArray, List.set_cons_zero, List.set_cons_succ]))
        (refine wpAnyH_take (i := 2) (v := ?vv17) rfl (by kernel_rfl) (by kernel_rfl) (by kernel_rfl) (fun _ _ _ h => h) (Or.inl ⟨by rfl, ?hy17⟩) (by assumption) ?rest17; case hy17 => (intro w hSw; (try dsimp only at hSw); go_simp; try with_reducible rfl))
        (try simp only [List.getElem_toArray, List.getElem_cons_zero, List.getElem_cons_succ, Act.put, List.setIfInBounds_toArray, List.set_cons_zero, List.set_cons_succ])
        (refine wpAnyH_take (i := 3) (v := ?vv18) rfl (by kernel_rfl) (by kernel_rfl) (by kernel_rfl) (fun _ _ _ h => h) (Or.inl ⟨by rfl, ?hy18⟩) (by assumption) ?rest18; case hy18 => (intro w hSw; (try dsimp only at hSw); go_simp; try with_reducible rfl))
        (try simp only [List.getElem_toArray, List.getElem_cons_zero, List.getElem_cons_succ, Act.put, List.setIfInBounds_toArray, List.set_cons_zero, List.set_cons_succ])
        first | (refine wpAnyH_take (i := 4) (v := undef) rfl (by kernel_rfl) (by kernel_rfl) (by kernel_rfl) (fun _ _ _ h => h) (Or.inr ⟨by rfl, rfl⟩) (by assumption) ?_) | (refine wpAnyH_take (i := 4) (v := ?vv19) rfl (by kernel_rfl) (by kernel_rfl) (by kernel_rfl) (fun _ _ _ h => h) (Or.inl ⟨by rfl, ?hy19⟩) (by assumption) ?rest19; case hy19 => (intro w hSw; (try dsimp only at hSw); go_simp; try with_reducible rfl))
        (try simp only [List.getElem_toArray, List.getElem_cons_zero, List.getElem_cons_succ, Act.put, List.setIfInBounds_toArray, List.set_cons_zero, List.set_cons_succ])
        first | (refine wpAnyH_take (i := 5) (v := undef) rfl (by kernel_rfl) (by kernel_rfl) (by kernel_rfl) (fun _ _ _ h => h) (Or.inr ⟨by rfl, rfl⟩) (by assumption) ?_) | (refine wpAnyH_take (i := 5) (v := ?vv20) rfl (by kernel_rfl) (by kernel_rfl) (by kernel_rfl) (fun _ _ _ h => h) (Or.inl ⟨by rfl, ?hy20⟩) (by assumption) ?rest20; case hy20 => (intro w hSw; (try dsimp only at hSw); go_simp; try with_reducible rfl))
        (try simp only [List.getElem_toArray, List.getElem_cons_zero, List.getElem_cons_succ, Act.put, List.setIfInBounds_toArray, List.set_cons_zero, List.set_cons_succ])
        first | (refine wpAnyH_take (i := 6) (v := undef) rfl (by kernel_rfl) (by kernel_rfl) (by kernel_rfl) (fun _ _ _ h => h) (Or.inr ⟨by rfl, rfl⟩) (by assumption) ?_) | (refine wpAnyH_take (i := 6) (v := ?vv21) rfl (by kernel_rfl) (by kernel_rfl) (by kernel_rfl) (fun _ _ _ h => h) (Or.inl ⟨by rfl, ?hy21⟩) (by assumption) ?rest21; case hy21 => (intro w hSw; (try dsimp only at hSw); go_simp; try with_reducible rfl))
        (try simp only [List.getElem_toArray, List.getElem_cons_zero, List.getElem_cons_succ, Act.put, List.setIfInBounds_toArray, List.set_cons_zero, List.set_cons_succ])
        first | (refine wpAnyH_take (i := 8) (v := undef) rfl (by kernel_rfl) (by kernel_rfl) (by kernel_rfl) (fun _ _ _ h => h) (Or.inr ⟨by rfl, rfl⟩) (by assumption) ?_) | (refine wpAnyH_take (i := 8) (v := ?vv22) rfl (by kernel_rfl) (by kernel_rfl) (by kernel_rfl) (fun _ _ _ h => h) (Or.inl ⟨by rfl, ?hy22⟩) (by assumption) ?rest22; case hy22 => (intro w hSw; (try dsimp only at hSw); go_simp; try with_reducible rfl))
        (try simp only [List.getElem_toArray, List.getElem_cons_zero, List.getElem_cons_succ, Act.put, List.setIfInBounds_toArray, List.set_cons_zero, List.set_cons_succ])
        first | (refine wpAnyH_take (i := 9) (v := undef) rfl (by kernel_rfl) (by kernel_rfl) (by kernel_rfl) (fun _ _ _ h => h) (Or.inr ⟨by rfl, rfl⟩) (by assumption) ?_) | (refine wpAnyH_take (i := 9) (v := ?vv23) rfl (by kernel_rfl) (by kernel_rfl) (by kernel_rfl) (fun _ _ _ h => h) (Or.inl ⟨by rfl, ?hy23⟩) (by assumption) ?rest23; case hy23 => (intro w hSw; (try dsimp only at hSw); go_simp; try with_reducible rfl))
        (try simp only [List.getElem_toArray, List.getElem_cons_zero, List.getElem_cons_succ, Act.put, List.setIfInBounds_toArray, List.set_cons_zero, List.set_cons_succ])
        first | (refine wpAnyH_take (i := 10) (v := undef) rfl (by kernel_rfl) (by kernel_rfl) (by kernel_rfl) (fun _ _ _ h => h) (Or.inr ⟨by rfl, rfl⟩) (by assumption) ?_) | (refine wpAnyH_take (i := 10) (v := ?vv24) rfl (by kernel_rfl) (by kernel_rfl) (by kernel_rfl) (fun _ _ _ h => h) (Or.inl ⟨by rfl, ?hy24⟩) (by assumption) ?rest24; case hy24 => (intro w hSw; (try dsimp only at hSw); go_simp; try with_reducible rfl))
        (try simp only [List.getElem_toArray, List.getElem_cons_zero, List.getElem_cons_succ, Act.put, List.setIfInBounds_toArray, List.set_cons_zero, List.set_cons_succ])
        first
          | (refine wpAnyH_take (i := 7) (v := undef) rfl (by kernel_rfl) (by kernel_rfl) (by kernel_rfl) (fun _ _ _ h => h) (Or.inr ⟨by rfl, rfl⟩) (by assumption) ?_; (try simp only [List.getElem_toArray, List.getElem_cons_zero, List.getElem_cons_succ, Act.put, List.setIfInBounds_toArray, List.set_cons_zero, List.set_cons_succ]))
          | (refine wpAnyH_ready (rs := [7]) (by kernel_rfl) (List.cons_ne_nil _ _) ?_; refine AllReadyH.cons rfl (fun K hK => ?_) AllReadyH.nil; go_simp; go_split_ands; (go_at_call 15; go_split_ands; refine (HFA.out _ (by assumption)).mono ?_; rintro e w2 ⟨rfl, hb2⟩); (try go_wp2_with fail); refine hK.out _ _ ?hS25 (fun hHeld2 => ?rest25); (case hS25 => (exact (D2.keep (by assumption) hb2).four)); clear hK K; (try simp only [List.getElem_toArray, List.getElem_cons_zero, List.getElem_cons_succ, Act.put, List.setIfInBounds_toArray, List.set_cons_zero, List.set_cons_succ]))
        first
          | (refine wpAnyH_take (i := 11) (v := undef) rfl (by kernel_rfl) (by kernel_rfl) (by kernel_rfl) (fun _ _ _ h => h) (Or.inr ⟨by rfl, rfl⟩) (by assumption) ?_; (try simp only [List.getElem_toArray, List.getElem_cons_zero, List.getElem_cons_succ, Act.put, List.setIfInBounds_toArray, List.set_cons_zero, List.set_cons_succ]))
          | (refine wpAnyH_ready (rs := [11]) (by kernel_rfl) (List.cons_ne_nil _ _) ?_; refine AllReadyH.cons rfl (fun K hK => ?_) AllReadyH.nil; go_simp; go_split_ands; (go_at_call 15; go_split_ands; refine (HFB.out _ (by assumption)).mono ?_; rintro e w2 ⟨rfl, hb2⟩); (try go_wp2_with fail); refine hK.out _ _ ?hS26 (fun hHeld2 => ?rest26); (case hS26 => (exact (D2.keep (by assumption) hb2).four)); clear hK K; (try simp only [List.getElem_toArray, List.getElem_cons_zero, List.getElem_cons_succ, Act.put, List.setIfInBounds_toArray, List.set_cons_zero, List.set_cons_succ]))
        first | (refine wpAnyH_take (i := 12) (v := undef) rfl (by kernel_rfl) (by kernel_rfl) (by kernel_rfl) (fun _ _ _ h => h) (Or.inr ⟨by rfl, rfl⟩) (by assumption) ?_) | (refine wpAnyH_take (i := 12) (v := ?vv27) rfl (by kernel_rfl) (by kernel_rfl) (by kernel_rfl) (fun _ _ _ h => h) (Or.inl ⟨by rfl, ?hy27⟩) (by assumption) ?rest27; case hy27 => (intro w hSw; (try dsimp only at hSw); go_simp; try with_reducible rfl))
        (try simp only [List.getElem_toArray, List.getElem_cons_zero, List.getElem_cons_succ, Act.put, List.setIfInBounds_toArray, List.set_cons_zero, List.set_cons_succ])
        (refine wpAnyH_take (i := 13) (v := ?vv28) rfl (by kernel_rfl) (by kernel_rfl) (by kernel_rfl) (fun _ _ _ h => h) (Or.inl ⟨by rfl, ?hy28⟩) (by assumption) ?rest28; case hy28 => (intro w hSw; (try dsimp only at hSw); go_simp; try with_reducible rfl))
        (try simp only [List.getElem_toArray, List.getElem_cons_zero, List.getElem_cons_succ, Act.put, List.setIfInBounds_toArray, List.set_cons_zero, List.set_cons_succ])
        (refine wpAnyH_take (i := 14) (v := ?vv29) rfl (by kernel_rfl) (by kernel_rfl) (by kernel_rfl) (fun _ _ _ h => h) (Or.inl ⟨by rfl, ?hy29⟩) (by assumption) ?rest29; case hy29 => (intro w hSw; (try dsimp only at hSw); go_simp; try with_reducible rfl))
        (try simp only [List.getElem_toArray, List.getElem_cons_zero, List.getElem_cons_succ, Act.put, List.setIfInBounds_toArray, List.set_cons_zero, List.set_cons_succ])
        refine wpAnyH_done (by kernel_rfl) ?_ _
        all_goals go_split_ands
        all_goals rename_i hd7
        all_goals have D7 := Lib.hid hd7
        all_goals clear hd7
        all_goals go_wp2_with fail
        all_goals refine (HFI.out _ D7.out).mono ?_
        all_goals rintro e w8 ⟨rfl, hb8⟩
        all_goals have D8 := Lib.hid (D7.out.keep hb8)
        all_goals clear hb8
        all_goals obtain ⟨a0c, a1c, b0c, b1c, -⟩ := D8.out.four
        all_goals go_wp2_with fail
        all_goals refine (HMA.out _ D8.out).mono ?_
        all_goals rintro e w9 ⟨rfl, hb9⟩
        all_goals have D9 := Lib.hid (D8.out.keep hb9)
        all_goals clear hb9 a0c a1c b0c b1c
        all_goals obtain ⟨a0c, a1c, b0c, b1c, -⟩ := D9.out.four
        all_goals go_wp2_with fail
        all_goals refine (HMB.out _ D9.out).mono ?_
        all_goals rintro e w10 ⟨rfl, hb10⟩
        all_goals have D10 := Lib.hid (D9.out.keep hb10)
        all_goals clear hb10
        all_goals go_wp2_with fail
        all_goals go_ret
        all_goals exact ⟨rfl, D10.out.bel⟩
    · have hout : a0 < 0 ∨ (na : Int) ≤ a0 := by omega
      have eF : FormS goPen la ra a0 = ⟨#[]⟩ := FormS_out la ra a0 (by have := HLN.out; omega)
      rw [eF]
      have he0 := str_empty'
      clear hin eF
      by_cases h0 : a0 < 0
      · have p1 : decide (a0 < 0) = true := decide_eq_true h0
        clear hout
        go_wp2_with fail
        go_ret
        exact ⟨rfl, D6.out.bel⟩
      · have p1 : decide (a0 < 0) = false := decide_eq_false h0
        have p2 : decide ((na : Int) ≤ a0) = true := decide_eq_true (by omega)
        clear hout
        go_wp2_with fail
        go_ret
        exact ⟨rfl, D6.out.bel⟩
  · generalize checkE la ra = c at *
    clear HCA HG HT SMA
    go_wp2_with fail
    go_ret
    exact ⟨rfl, D4.out.bel⟩
end Go.Proofs.YtfalgnapghienaaGreatDoor
namespace Go.Proofs.YtfalgnapghienaaGreatDoor
open Go.ChangeShapes Go.WideShapes Go.ChangeAt Go.RowKit
open Go.ChangeMaps (open_string shut_string)
set_option linter.unusedVariables false

theorem formsw_any {w : World} (va : Value) (la : List Nd) (ra : Int) (ta : TreeV w va la ra) (rda : ∀ x ∈ la, NdRead x) (vb : Value) (lb : List Nd) (rb : Int) (tb : TreeV w vb lb rb) (rdb : ∀ x ∈ lb, NdRead x) (a : Int) (wa : (Lit.int .i64 a).wf = true) (hT : Tabs w) : Calls Tryz.prog 4 #[va, vb, .int .i64 a] w fun e w' => e = .returned (.bool true) ∧ Below w.heap.size w w' :=
  forms_any va la ra ta rda vb lb rb tb rdb a wa hT (fun w2 hb => grows_any w2 (hT.step hb)) (fun w2 hb hs => by
    obtain ⟨nv, rfl, hn⟩ := ta
    exact rcheck_any la nv ra w2 (hn.step hb) (small_get hs).1 (small_get hs).2) (fun w2 hb hs => by
    obtain ⟨nv, rfl, hn⟩ := tb
    exact rcheck_any lb nv rb w2 (hn.step hb) (small_get hs).1 (small_get hs).2)

set_option maxRecDepth 100000 in
theorem treeForms_contract (H : Type) (enc : TypeId × Value → H) (W : World) (base : Nat) (args : Array Value) (ds gs : List (DataW H)) (before : List MemPlace)
    (hval0 : ∀ (j : Nat) t v, Tryz.f4.params[j]? = some t → args[j]? = some v → Value.okWide Tryz.prog W .any base t v)
    (hW : DataW.Whole enc Tryz.prog Tryz.f4.params.toList Rows.treeFormsSpec.vars false W args.toList ds gs before) (hsz0 : (DataW.weightsEach Tryz.prog (Tryz.f4.params.toList ++ Rows.treeFormsSpec.plain.varTypes Tryz.prog) (ds ++ gs)).all (· ≤ reachBytes) = true) (hL : laidMetH Tryz.prog Rows.treeFormsRow.laid W) :
    Calls Tryz.prog 4 args W fun e W' => ∃ v, e = .returned v ∧ Rows.treeFormsSpec.post enc Tryz.prog Tryz.f4 false true false false W args v W' := by
  have hval : ∀ (j : Nat) t v, Tryz.f4.params[j]? = some t → args[j]? = some v → Value.okWide Tryz.prog W .any base t v := hval0
  have hW' := hW
  obtain ⟨p, q, hA0, hV, rfl, hfz, hnd⟩ := hW
  have hA : DataW.TrodAll enc Tryz.prog W 0 (fun _ => true) true Tryz.f4.params.toList args.toList ds p := hA0
  have hsz : (DataW.weightsEach Tryz.prog (Tryz.f4.params.toList ++ []) (ds ++ gs)).all (· ≤ reachBytes) = true := hsz0
  rw [Tryz.params4] at hA hval hsz
  obtain ⟨v0, vs0, d0, ds0, p0, q0, hargs, rfl, rfl, h0, r0⟩ := trodAll_cons hA
  obtain ⟨v1, vs1, d1, ds1, p1, q1, rfl, rfl, rfl, h1, r1⟩ := trodAll_cons r0
  obtain ⟨v2, vs2, d2, ds2, p2, q2, rfl, rfl, rfl, h2, r2⟩ := trodAll_cons r1
  obtain ⟨rfl, rfl, rfl⟩ := trodAll_nil r2
  obtain rfl : args = #[v0, v1, v2] := by cases args; simp_all
  obtain ⟨rfl, rfl⟩ := trodVars_none hV
  have k0 := h0
  have lt0 : ∀ x ∈ p0, x.block < W.heap.size := by obtain ⟨m, hm⟩ := k0; exact DataW.trod_lt m _ _ _ hm
  obtain ⟨l0, root0, tv0, ll0, lg0⟩ := open_tree ⟨Tryz.underlying46, by kernel_rfl, rfl, by kernel_rfl, by kernel_rfl, by kernel_rfl, by kernel_rfl, by kernel_rfl, by kernel_rfl, by kernel_rfl, by kernel_rfl, Tryz.underlying42, Tryz.underlying44, Tryz.underlying35, Tryz.underlying3, Tryz.underlying2, Tryz.underlying9, by kernel_rfl, by kernel_rfl, by kernel_rfl, by kernel_rfl, by kernel_rfl, by kernel_rfl, by kernel_rfl, ⟨rfl, rfl⟩, ⟨rfl, rfl⟩, ⟨rfl, rfl⟩, ⟨rfl, rfl⟩, ⟨rfl, rfl⟩, ⟨rfl, rfl⟩⟩ Tryz.underlying22 Tryz.underlying24 (by kernel_rfl) (by kernel_rfl) rfl rfl (hval 0 24 v0 rfl rfl) h0
  have rd0 := lg0 (fun m hm => by
    have := List.all_eq_true.1 hsz m (DataW.weights_mem_each (j := 0) (t := 24) (d := d0) rfl rfl m hm)
    exact of_decide_eq_true this)
  have k1 := h1
  have lt1 : ∀ x ∈ p1, x.block < W.heap.size := by obtain ⟨m, hm⟩ := k1; exact DataW.trod_lt m _ _ _ hm
  obtain ⟨l1, root1, tv1, ll1, lg1⟩ := open_tree ⟨Tryz.underlying46, by kernel_rfl, rfl, by kernel_rfl, by kernel_rfl, by kernel_rfl, by kernel_rfl, by kernel_rfl, by kernel_rfl, by kernel_rfl, by kernel_rfl, Tryz.underlying42, Tryz.underlying44, Tryz.underlying35, Tryz.underlying3, Tryz.underlying2, Tryz.underlying9, by kernel_rfl, by kernel_rfl, by kernel_rfl, by kernel_rfl, by kernel_rfl, by kernel_rfl, by kernel_rfl, ⟨rfl, rfl⟩, ⟨rfl, rfl⟩, ⟨rfl, rfl⟩, ⟨rfl, rfl⟩, ⟨rfl, rfl⟩, ⟨rfl, rfl⟩⟩ Tryz.underlying22 Tryz.underlying24 (by kernel_rfl) (by kernel_rfl) rfl rfl (hval 1 24 v1 rfl rfl) h1
  have rd1 := lg1 (fun m hm => by
    have := List.all_eq_true.1 hsz m (DataW.weights_mem_each (j := 1) (t := 24) (d := d1) rfl rfl m hm)
    exact of_decide_eq_true this)
  obtain ⟨a2, rfl, rfl, rfl, w2⟩ := open_int Tryz.underlying3 (hval 2 3 v2 rfl rfl) h2
  clear hA0 hval0
  refine (formsw_any v0 l0 root0 tv0 rd0 v1 l1 root1 tv1 rd1 a2 w2 (tabs_of (by rw [MakeChecks.laidMetH_plain _ _ _ (by kernel_rfl)] at hL; exact hL))).mono fun e W' ⟨he, bel⟩ => ?_
  subst he
  exact ⟨_, rfl, _, _, _, [], _, [], hW', trodAll_mk1 (shut_bool Tryz.underlying4 _), (trodAll_cons_mk (Below.trod laidOut (by kernel_rfl) (of_decide_eq_true (by kernel_rfl)) k0 bel lt0) (trodAll_cons_mk (Below.trod laidOut (by kernel_rfl) (of_decide_eq_true (by kernel_rfl)) k1 bel lt1) (trodAll_cons_mk (shut_int Tryz.underlying3 w2) trodAll_mk0))), rfl, bel.frame _, fun h => by cases h⟩

set_option maxRecDepth 100000 in
theorem treeForms_lifted (os : Os) (started : os.Started) (H : Type) (enc : TypeId × Value → H) :
    ReturnsInHanded {} Tryz.checked os 4 .any (fun w args => (Rows.treeFormsSpec.pre enc Tryz.prog Tryz.f4 Rows.treeFormsRow.domain false w args ∧ laidMetH Tryz.prog Rows.treeFormsRow.laid w) ∧ sizedMet enc Tryz.prog Tryz.f4 (OpenSpec.ofChange Rows.treeFormsSpec) false w args)
      (Rows.treeFormsSpec.post enc Tryz.prog Tryz.f4 false true false false) := by
  refine returnsInHanded_of_change_and (C := Tryz.checked) (X := fun w _ => laidMetH Tryz.prog Rows.treeFormsRow.laid w) (fun _ _ _ hh h => h.of_heap hh) own started (by kernel_rfl) Tryz.func4
    (ChangeSpec.witness_shaped (enc := enc) (C := Tryz.checked) (os := os) (X := fun w _ => laidMetH Tryz.prog Rows.treeFormsRow.laid w) false (World.laidAll Tryz.prog os laidL) #[.agg #[.slice none 0 0, .int .i64 0], .agg #[.slice none 0 0, .int .i64 0], .int .i64 0] 8 (World.laidAll_os _ _ _)
      (World.shaped_of_ZipB (by kernel_rfl) (by kernel_rfl)) (by kernel_rfl) (by kernel_rfl) (by kernel_rfl)
      (by rw [MakeChecks.laidMetH_plain _ _ _ (by kernel_rfl)]; exact laidMet_laidAll _ (by kernel_rfl) (by kernel_rfl))) ?_
  intro W base args ds gs before hval hW _ hsz hL _
  exact treeForms_contract H enc W base args ds gs before hval hW hsz hL

theorem treeForms_said : Rows.TreeFormsSaid :=
  OpenClaim.holds_of_wide 4 Tryz.f4 rfl rfl rfl rfl rfl rfl rfl ⟨rfl, rfl, rfl, rfl, rfl⟩ rfl rfl rfl rfl rfl (by kernel_rfl) Tryz.func4 (by kernel_rfl)
    (of_decide_eq_true (by kernel_rfl)) (by unfold Func.isWrapper; first | (rw [if_pos (by decide +kernel)]; kernel_rfl) | (rw [if_neg (by decide +kernel)]; exact ⟨rfl, rfl⟩))
    (fun os started H enc _ => treeForms_lifted os started H enc)

theorem treeForms_plain (f : FuncId) (fn : Func) (hf : Tryz.pinned.checked.prog.funcNamed "caulker/caulkerlaw07.TreeForms" = some f) (hfn : Tryz.pinned.checked.prog.funcs[f]? = some fn) :
    false = Tryz.pinned.checked.prog.looks [] ∧ ∀ (j : Nat) t, fn.params[j]? = some t → Tryz.pinned.checked.prog.wantsStandIn t = false := by
  obtain rfl : f = 4 := Option.some.inj ((show Tryz.prog.funcNamed "caulker/caulkerlaw07.TreeForms" = some 4 by kernel_rfl).symm.trans hf) |>.symm
  obtain rfl : fn = Tryz.f4 := (Option.some.inj (Tryz.func4.symm.trans hfn)).symm
  refine ⟨by kernel_rfl, fun j t ht => ?_⟩
  rw [Tryz.params4] at ht
  have hm := Array.mem_of_getElem? ht
  simp only [List.mem_toArray, List.mem_cons, List.not_mem_nil, or_false] at hm
  rcases hm with rfl | rfl | rfl
  · exact (show Tryz.prog.wantsStandIn 24 = false by kernel_rfl)
  · exact (show Tryz.prog.wantsStandIn 24 = false by kernel_rfl)
  · exact (show Tryz.prog.wantsStandIn 3 = false by kernel_rfl)

/-- THE CARD. -/
theorem treeForms_proved : Rows.TreeFormsCardSaid :=
  Claim7.holds_tied_plain_at .later [] _ _ _ _ treeForms_said (fun _ h => by cases h) (by kernel_rfl) (fun _ h => by cases h) treeForms_row_tie rfl ⟨rfl, rfl⟩ (by kernel_rfl) rfl treeForms_plain (by kernel_rfl)
end Go.Proofs.YtfalgnapghienaaGreatDoor
namespace Go.Proofs.YtfalgnapghienaaGreatDoor
open Go Go.RowKit
set_option linter.unusedVariables false
set_option linter.unusedSimpArgs false

theorem step_sm {e : Er} {x : Nd} (he : ∀ y ∈ e.made, NdSm y) (hx : NdSm x) : ∀ y ∈ (eraseStep e x).made, NdSm y := by
  have hnull : ∀ z, NdSm (nullNd z) := fun z => ⟨by show (-9223372036854775808 : Int) ≤ 0 ∧ (0 : Int) ≤ 9223372036854775807; omega, by show (0 : Nat) ≤ 200; omega, by show (0 : Nat) ≤ 200; omega, by show (0 : Nat) ≤ 60; omega, by show (0 : Nat) ≤ _; omega, by show (0 : Nat) ≤ _; omega⟩
  have hsign : (signOf x.kind).size ≤ 200 := by unfold signOf; split <;> decide
  have hheld : ∀ v z, NdSm (heldNd x v z) := fun v z => ⟨hx.num, hsign, hx.N, hx.M, by show (2 : Nat) ≤ _; omega, hx.ends⟩
  have hkept : ∀ ks : List Int, ks.length = x.kids.length → NdSm (keptNd x ks) := fun ks hk => ⟨hx.num, hx.text, hx.N, by show (blankT x.M.size).size ≤ 60; rw [blankT_size]; exact hx.M, by show ks.length ≤ _; rw [hk]; exact hx.kids, hx.ends⟩
  intro y hy
  unfold eraseStep at hy
  split at hy
  · exact he y hy
  · split at hy
    · rcases List.mem_append.1 hy with hy | hy
      · exact he y hy
      · simp only [List.mem_cons, List.not_mem_nil, or_false] at hy
        rcases hy with rfl | rfl
        · exact hnull _
        · exact hheld _ _
    · rcases List.mem_append.1 hy with hy | hy
      · exact he y hy
      · rw [List.mem_singleton] at hy
        subst hy
        exact hkept _ (by simp)
theorem eraseTo_sm {l : List Nd} (h : ∀ x ∈ l, NdSm x) : ∀ j, ∀ y ∈ (eraseTo l j).made, NdSm y := by
  intro j
  induction j with
  | zero => intro y hy; simp [eraseTo] at hy
  | succ j ih =>
    by_cases hj : j < l.length
    · have e : eraseTo l (j + 1) = eraseStep (eraseTo l j) l[j] := by
        show (match l[j]? with | none => eraseTo l j | some x => eraseStep (eraseTo l j) x) = _
        rw [List.getElem?_eq_getElem hj]
      rw [e]
      exact step_sm ih (h _ (List.getElem_mem hj))
    · have e : eraseTo l (j + 1) = eraseTo l j := by
        show (match l[j]? with | none => eraseTo l j | some x => eraseStep (eraseTo l j) x) = _
        rw [List.getElem?_eq_none (by omega)]
      rw [e]; exact ih
theorem erase_sm {l : List Nd} (h : ∀ x ∈ l, NdSm x) : ∀ y ∈ eraseL l, NdSm y := eraseTo_sm h _

/-- a program's box, and that of what it is erased to -/
structure DE (w0 : World) (g : Nat) (nv : Value) (root : Int) (k : Nat) (ev : Value) (re : Int) (le : List Nd) (w : World) : Prop where
  bel : Below w0.heap.size w0 w
  t : Bx 24 w g [nv, .int .i64 root]
  e : Bx 24 w k [ev, .int .i64 re]
  ends : NdsV w ev le
section
variable {w0 w w1 : World} {g k : Nat} {nv ev : Value} {root re : Int} {le : List Nd}
theorem DE.keep (h : DE w0 g nv root k ev re le w) (hb : Below w.heap.size w w1) : DE w0 g nv root k ev re le w1 := ⟨after h.bel hb, h.t.keep hb, h.e.keep hb, h.ends.step hb⟩
theorem DE.four (h : DE w0 g nv root k ev re le w) : w.cell? ⟨g, 0, none⟩ = some nv ∧ w.cell? ⟨g, 1, none⟩ = some (.int .i64 root) ∧ w.cell? ⟨k, 0, none⟩ = some ev ∧ w.cell? ⟨k, 1, none⟩ = some (.int .i64 re) ∧ DE w0 g nv root k ev re le w := ⟨h.t.cell 0, h.t.cell 1, h.e.cell 0, h.e.cell 1, h⟩
end
/-- is one of the first marks none that says nothing? -/
def mkTo (M : ByteArray) (k : Nat) : Bool := decide (∃ i, i < k ∧ byS M i ≠ 32)
theorem mkTo_next (M : ByteArray) (k : Nat) : mkTo M (k + 1) = (mkTo M k || decide (byS M k ≠ 32)) := by
  unfold mkTo
  rw [Bool.eq_iff_iff, Bool.or_eq_true, decide_eq_true_iff, decide_eq_true_iff, decide_eq_true_iff]
  constructor
  · rintro ⟨i, hi, h⟩
    by_cases hk : i = k
    · subst hk; exact .inr h
    · exact .inl ⟨i, by omega, h⟩
  · rintro (⟨i, hi, h⟩ | h)
    · exact ⟨i, by omega, h⟩
    · exact ⟨k, by omega, h⟩
theorem mkTo_zero (M : ByteArray) : mkTo M 0 = false := by unfold mkTo; rw [decide_eq_false]; rintro ⟨i, hi, -⟩; omega
theorem mkTo_all (M : ByteArray) : mkTo M M.size = markedM M := rfl
/-- the first strict one of the first nodes of a walk -/
def firstTo (l : List Nd) (a j : Nat) : Option Nat := ((walkS l a).take j).find? (strictAt l)
theorem firstTo_next {l : List Nd} {a j : Nat} (hj : j < (walkS l a).length) : firstTo l a (j + 1) = match firstTo l a j with | some x => some x | none => if strictAt l (walkS l a)[j] = true then some (walkS l a)[j] else none := by
  unfold firstTo
  rw [← List.take_append_getElem hj, List.find?_append]
  cases List.find? (strictAt l) (List.take j (walkS l a)) with
  | some x => rfl
  | none =>
    show List.find? (strictAt l) [(walkS l a)[j]] = _
    rw [List.find?_cons]
    cases strictAt l (walkS l a)[j] <;> rfl
theorem strictAt_get {l : List Nd} {i : Nat} (h : i < l.length) : strictAt l i = strictN l[i] := by
  unfold strictAt; rw [List.getElem?_eq_getElem h]; rfl
def fstV (o : Option Nat) : Value := .int .i64 (match o with | none => -1 | some i => (i : Int))

set_option maxRecDepth 100000 in
set_option maxHeartbeats 8000000 in
theorem erases_any {w : World} (v : Value) (l : List Nd) (root : Int) (tv : TreeV w v l root) (rd : ∀ x ∈ l, NdRead x) (hT : Tabs w)
    (hG : ∀ w2, Below w.heap.size w w2 → Calls Tryz.prog 7 #[] w2 fun e w' => e = .returned (.bool true) ∧ Below w2.heap.size w2 w')
    (hC : ∀ w2, Below w.heap.size w w2 → smallB l = true → Calls Tryz.prog 9 #[v] w2 (ChkPost w2 (checkE l root))) :
    Calls Tryz.prog 6 #[v] w fun e w' => e = .returned (.bool true) ∧ Below w.heap.size w w' := by
  obtain ⟨nv, rfl, hn⟩ := tv
  have HN := Lib.hid hn
  have HT := Lib.hid hT
  have HG := Lib.hid hG
  have HC := Lib.hid hC
  have RD := Lib.hid rd
  obtain ⟨src, cap, rfl, hrow⟩ := hn
  have HROW := Lib.hid hrow
  clear hrow
  obtain ⟨n, hn0⟩ : ∃ n, n = l.length := ⟨_, rfl⟩
  rw [← hn0] at HC HN ⊢
  have HLN := Lib.hid hn0
  clear hn0
  have D0 := Lib.hid (DS.new w (.slice src n cap) root)
  obtain ⟨g, hg⟩ : ∃ g, g = w.heap.size := ⟨_, rfl⟩
  obtain ⟨W0, hW0⟩ : ∃ W0, W0 = w.alloc (.cells #[.slice src n cap, .int .i64 root] 24) := ⟨_, rfl⟩
  rw [← hW0, ← hg] at D0
  have HW0 := Lib.hid hW0
  have HG0 := Lib.hid hg
  clear hT hG hC rd hW0 hg
  go_enter Tryz.func6, Tryz.ntmps6
  go_wp2_with fail
  rw [← HW0.out, ← HG0.out]
  refine (HG.out _ D0.out.bel).mono ?_
  rintro e w1 ⟨rfl, hb1⟩
  have D1 := Lib.hid (D0.out.keep hb1)
  obtain ⟨b0, b1, -⟩ := D1.out.two
  clear hb1 HW0 D0
  go_wp2_with fail
  refine (small_any l (.slice src n cap) root w1 (HN.out.step D1.out.bel)).mono ?_
  rintro e w2 ⟨rfl, hb2⟩
  have D2 := Lib.hid (D1.out.keep hb2)
  clear hb2 b0 b1 D1
  obtain ⟨b0, b1, -⟩ := D2.out.two
  cases hs : smallB l with
  | false =>
    go_wp2_with fail
    go_ret
    exact ⟨rfl, D2.out.bel⟩
  | true =>
  have SM := Lib.hid (sm_of hs RD.out)
  have hl3 : n ≤ 300 := by rw [HLN.out]; exact (small_get hs).1
  have HS := Lib.hid hs
  clear hs
  go_wp2_with fail
  refine (HC.out _ D2.out.bel HS.out).mono ?_
  rintro e w3 ⟨rfl, hb3⟩
  have D3 := Lib.hid (D2.out.keep hb3)
  clear hb3 b0 b1 D2
  obtain ⟨b0, b1, -⟩ := D3.out.two
  by_cases hc : checkE l root = 0
  · have HP := Lib.hid (check_ok l root hc)
    have HLL : Hid (l.length ≤ 300) := Lib.hid (by have := HLN.out; omega)
    have hro := HP.out.root_
    have hso := HP.out.some_
    obtain ⟨a, ha⟩ : ∃ a, a = l.length - 1 := ⟨_, rfl⟩
    have hal : a < l.length := by omega
    have hra : root = (a : Nat) := by omega
    obtain ⟨E1, E2, E3⟩ := erase_ok goPen penOk l root hc (by have := HLL.out; omega)
    have E4 := erase_len (l := l) goPen penOk HP.out
    have E5 := same_erased goPen penOk l root hc (by have := HLL.out; omega)
    have E6 := erase_twice goPen penOk l root hc (by have := HLL.out; omega)
    have E7 := marked_none E3
    have E8 := erase_sm SM.out
    have E9 := (check_ok _ _ E1)
    have E10 := erase_sm E8
    have hle2 := erase_len (l := eraseL l) goPen penOk E9
    have E11 : markedO l = (walkS l a).find? (strictAt l) := by unfold markedO; rw [ha]
    have HER := Lib.hid (fun (w' : World) (d : DS w g (.slice src n cap) root w') => erase_any goPen penOk l (.slice src n cap) root w' (HT.out.sh.step d.bel) (HN.out.step d.bel) (by have := HLN.out; omega) (fun x hx => (SM.out x hx).fit) (fun x hx => by have := (SM.out x hx).M; omega) hc)
    rw [hc]
    have HA := Lib.hid ha
    have HRA := Lib.hid hra
    have HAL := Lib.hid hal
    have HC0 := Lib.hid hc
    rw [← ha] at E2
    have HE11 := Lib.hid E11
    clear hc HC HG hro hso ha hra hal E11
    generalize hle : eraseL l = le at *
    generalize hle2' : eraseL le = le2 at *
    have HLE := Lib.hid hle
    have HLE2 := Lib.hid hle2'
    clear hle hle2'
    generalize ho : markedO l = o at *
    have HOO := Lib.hid ho
    clear ho
    have HE1 := Lib.hid E1
    have HE2 := Lib.hid E2
    have HE4 : Hid (le.length ≤ 600) := Lib.hid (by have := HLL.out; omega)
    have HE42 : Hid (le2.length ≤ 1200) := Lib.hid (by have := HE4.out; omega)
    have HE5 := Lib.hid E5
    have HE6 := Lib.hid E6
    have HE7 := Lib.hid E7
    have HE8 := Lib.hid E8
    have HE9 := Lib.hid E9
    have HE10 := Lib.hid E10
    clear E1 E2 E3 E4 E5 E6 E7 E8 E9 E10 hle2
    go_wp2_with fail
    refine (HER.out _ D3.out).mono ?_
    rintro e w4 ⟨se, ce, rfl, hb4, he4⟩
    have D4 := Lib.hid (D3.out.keep hb4)
    have N4 : Hid (NdsV w4 (.slice se le.length ce) le) := Lib.hid he4.nds
    clear hb4 he4 b0 b1 D3 HER
    obtain ⟨b0, b1, -⟩ := D4.out.two
    obtain ⟨re, hre⟩ : ∃ re, re = (le.length : Int) - 1 := ⟨_, rfl⟩
    rw [← hre] at HE1 HE5 HE6 HE9
    rw [← hre]
    clear hre
    have al := D4.out.box.lt
    go_wp2_with fail
    have DA : Hid (DE w g (.slice src n cap) root w4.heap.size (.slice se le.length ce) re le (w4.alloc (.cells #[.slice se le.length ce, .int .i64 re] 24))) := Lib.hid ⟨D4.out.bel.alloc D4.out.bel.size _, D4.out.box.alloc _, Bx.new 24 w4 _, N4.out.step ((Below.refl _ _).alloc (Nat.le_refl _) _)⟩
    obtain ⟨k, hk⟩ : ∃ k, k = w4.heap.size := ⟨_, rfl⟩
    rw [← hk] at DA
    obtain ⟨W5, hW5⟩ : ∃ W5, W5 = w4.alloc (.cells #[.slice se le.length ce, .int .i64 re] 24) := ⟨_, rfl⟩
    rw [← hW5] at DA
    rw [← hW5, ← hk]
    obtain ⟨ev, hev⟩ : ∃ ev, ev = Value.slice se le.length ce := ⟨_, rfl⟩
    rw [← hev] at DA
    rw [← hev]
    clear hk hW5 hev D4 N4 b0 b1 al
    have HMT := Lib.hid (fun (w' : World) (d : DE w g (.slice src n cap) root k ev re le w') => marked_any HP.out (.slice src n cap) w' (HN.out.step d.bel) (fun x hx => (SM.out x hx).fit))
    rw [HOO.out] at HMT
    have HME := Lib.hid (fun (w' : World) (d : DE w g (.slice src n cap) root k ev re le w') => marked_any HE9.out ev w' d.ends (fun x hx => (HE8.out x hx).fit))
    rw [HE7.out] at HME
    have HCE : Hid (∀ (w' : World), DE w g (.slice src n cap) root k ev re le w' → Calls Tryz.prog 10 #[.agg #[ev, .int .i64 re]] w' fun e w'' => e = .returned (.int .i64 0) ∧ Below w'.heap.size w' w'') := Lib.hid (fun w' d => by
      have h := check_any le ev re w' (HT.out.sh.step d.bel) d.ends (by have := HE4.out; omega) (fun x hx => (HE8.out x hx).fit)
      rw [HE1.out] at h; exact h)
    obtain ⟨x, hx⟩ : ∃ x, x = bareS goPen l a := ⟨_, rfl⟩
    have HFE : Hid (∀ (w' : World), DE w g (.slice src n cap) root k ev re le w' → Calls Tryz.prog 11 #[.agg #[ev, .int .i64 re], .int .i64 re] w' fun e w'' => e = .returned (.string x) ∧ Below w'.heap.size w' w'') := Lib.hid (fun w' d => by
      have h := Form_any le ev re re w' (HT.out.step d.bel) d.ends (by have := HE4.out; omega) HE8.out
      rw [FormS_root goPen HE1.out, HE2.out, ← hx] at h; exact h)
    have HFT : Hid (∀ (w' : World), DE w g (.slice src n cap) root k ev re le w' → Calls Tryz.prog 15 #[.agg #[.slice src n cap, .int .i64 root], .int .i64 root, .bool true] w' fun e w'' => e = .returned (.string x) ∧ Below w'.heap.size w' w'') := Lib.hid (fun w' d => by
      have h := rform_any HP.out (.slice src n cap) root SM.out a HAL.out true w' (HN.out.step d.bel) (HT.out.step d.bel)
      rw [← HRA.out, show rfS true l a = x from by rw [hx]; rfl] at h; exact h)
    have HEE : Hid (∀ (w' : World), DE w g (.slice src n cap) root k ev re le w' → Calls Tryz.prog 18 #[.agg #[ev, .int .i64 re]] w' fun e w'' => ∃ s c, e = .returned (.agg #[.slice s le2.length c, .int .i64 ((le2.length : Int) - 1)]) ∧ Below w'.heap.size w' w'' ∧ NdsV w'' (.slice s le2.length c) le2) := Lib.hid (fun w' d => by
      refine (erase_any goPen penOk le ev re w' (HT.out.sh.step d.bel) d.ends (by have := HE4.out; omega) (fun x hx => (HE8.out x hx).fit) (fun x hx => by have := (HE8.out x hx).M; omega) HE1.out).mono ?_
      rw [HLE2.out]
      rintro e w'' ⟨s, c, rfl, h1, h2⟩
      exact ⟨s, c, rfl, h1, h2.nds⟩)
    have HSM : Hid (∀ (w' : World), DE w g (.slice src n cap) root k ev re le w' → Calls Tryz.prog 13 #[.agg #[.slice src n cap, .int .i64 root], .agg #[ev, .int .i64 re]] w' fun e w'' => e = .returned (.bool o.isNone) ∧ Below w'.heap.size w' w'') := Lib.hid (fun w' d => by
      have h := same_any l le (.slice src n cap) ev root re w' (HT.out.step d.bel) (HN.out.step d.bel) (by have := HLN.out; have := HLL.out; omega) SM.out d.ends (by have := HE4.out; omega) HE8.out
      rw [HE5.out] at h; exact h)
    obtain ⟨re2, hre2⟩ : ∃ re2, re2 = (le2.length : Int) - 1 := ⟨_, rfl⟩
    obtain ⟨n2, hn2⟩ : ∃ n2, n2 = le2.length := ⟨_, rfl⟩
    have HSE : Hid (∀ (w' : World), DE w g (.slice src n cap) root k ev re le w' → ∀ {s : Option Addr} {c : Nat}, NdsV w' (.slice s n2 c) le2 → Calls Tryz.prog 13 #[.agg #[.slice s n2 c, .int .i64 re2], .agg #[ev, .int .i64 re]] w' fun e w'' => e = .returned (.bool true) ∧ Below w'.heap.size w' w'') := Lib.hid (fun w' d s c hnn => by
      have h := same_any le2 le (.slice s n2 c) ev re2 re w' (HT.out.step d.bel) hnn (by have := HE42.out; omega) HE10.out d.ends (by have := HE4.out; omega) HE8.out
      rw [hre2, HE6.out] at h; rw [hre2]; exact h)
    rw [← hre2, ← hn2] at HEE
    have HW := Lib.hid (fun (w' : World) (hb : Below w.heap.size w w') => rwalk_any HP.out (.slice src n cap) root a HAL.out w' (HN.out.step hb))
    rw [← HRA.out] at HW
    have hbq : (o.isNone == o.isSome) = false := by cases o <;> rfl
    have hwl : (walkS l a).length ≤ 16384 := by
      have h1 := nodup_len l.length _ (walk_once HP.out a HAL.out) (fun x hx => by have := walk_le HP.out a HAL.out x hx; have := HAL.out; omega)
      have := HLN.out; omega
    clear hx hre2 hn2
    refine (HMT.out _ DA.out).mono ?_
    rintro e w6 ⟨rfl, hb6⟩
    have D6 := Lib.hid (DA.out.keep hb6)
    clear hb6 DA
    obtain ⟨b0, b1, b2, b3, -⟩ := D6.out.four
    unfold markV
    go_wp2_with fail
    refine (HME.out _ D6.out).mono ?_
    rintro e w7 ⟨rfl, hb7⟩
    have D7 := Lib.hid (D6.out.keep hb7)
    clear hb7 b0 b1 b2 b3 D6
    obtain ⟨b0, b1, b2, b3, -⟩ := D7.out.four
    unfold markV
    go_wp2_with fail
    clear b0 b1 b2 b3
    refine wp_region_held_drew (S := (fun w' => w'.cell? ⟨g, 0, none⟩ = some (.slice src n cap) ∧ w'.cell? ⟨g, 1, none⟩ = some (.int .i64 root) ∧ w'.cell? ⟨k, 0, none⟩ = some ev ∧ w'.cell? ⟨k, 1, none⟩ = some (.int .i64 re) ∧ DE w g (.slice src n cap) root k ev re le w')) (by kernel_rfl) ((DE.keep D7.out ((Below.refl _ _).drew)).four) (fun hHeld => ?_)
    (refine wpAnyH_take (i := 0) (v := ?vv0) rfl (by kernel_rfl) (by kernel_rfl) (by kernel_rfl) (fun _ _ _ h => h) (Or.inl ⟨by rfl, ?hy0⟩) (by assumption) ?rest0; case hy0 => (intro w hSw; (try dsimp only at hSw); go_simp; try with_reducible rfl))
    (try simp only [List.getElem_toArray, List.getElem_cons_zero, List.getElem_cons_succ, Act.put, List.setIfInBounds_toArray, List.set_cons_zero, List.set_cons_succ])
    (refine wpAnyH_ready (rs := [1]) (by kernel_rfl) (List.cons_ne_nil _ _) ?_; refine AllReadyH.cons rfl (fun K hK => ?_) AllReadyH.nil; go_simp; go_split_ands; (go_at_call 10; go_split_ands; refine (HCE.out _ (by assumption)).mono ?_; rintro e w2 ⟨rfl, hb2⟩); (try go_wp2_with fail); refine hK.out _ _ ?hS1 (fun hHeld2 => ?rest1); (case hS1 => (exact (DE.keep (by assumption) hb2).four)); clear hK K; (try simp only [List.getElem_toArray, List.getElem_cons_zero, List.getElem_cons_succ, Act.put, List.setIfInBounds_toArray, List.set_cons_zero, List.set_cons_succ]))
    (refine wpAnyH_take (i := 2) (v := ?vv2) rfl (by kernel_rfl) (by kernel_rfl) (by kernel_rfl) (fun _ _ _ h => h) (Or.inl ⟨by rfl, ?hy2⟩) (by assumption) ?rest2; case hy2 => (intro w hSw; (try dsimp only at hSw); go_simp; try with_reducible rfl))
    (try simp only [List.getElem_toArray, List.getElem_cons_zero, List.getElem_cons_succ, Act.put, List.setIfInBounds_toArray, List.set_cons_zero, List.set_cons_succ])
    (refine wpAnyH_take (i := 3) (v := ?vv3) rfl (by kernel_rfl) (by kernel_rfl) (by kernel_rfl) (fun _ _ _ h => h) (Or.inl ⟨by rfl, ?hy3⟩) (by assumption) ?rest3; case hy3 => (intro w hSw; (try dsimp only at hSw); go_simp; try with_reducible rfl))
    (try simp only [List.getElem_toArray, List.getElem_cons_zero, List.getElem_cons_succ, Act.put, List.setIfInBounds_toArray, List.set_cons_zero, List.set_cons_succ])
    first | (refine wpAnyH_take (i := 4) (v := undef) rfl (by kernel_rfl) (by kernel_rfl) (by kernel_rfl) (fun _ _ _ h => h) (Or.inr ⟨by rfl, rfl⟩) (by assumption) ?_) | (refine wpAnyH_take (i := 4) (v := ?vv4) rfl (by kernel_rfl) (by kernel_rfl) (by kernel_rfl) (fun _ _ _ h => h) (Or.inl ⟨by rfl, ?hy4⟩) (by assumption) ?rest4; case hy4 => (intro w hSw; (try dsimp only at hSw); go_simp; try with_reducible rfl))
    (try simp only [List.getElem_toArray, List.getElem_cons_zero, List.getElem_cons_succ, Act.put, List.setIfInBounds_toArray, List.set_cons_zero, List.set_cons_succ])
    first | (refine wpAnyH_take (i := 5) (v := undef) rfl (by kernel_rfl) (by kernel_rfl) (by kernel_rfl) (fun _ _ _ h => h) (Or.inr ⟨by rfl, rfl⟩) (by assumption) ?_) | (refine wpAnyH_take (i := 5) (v := ?vv5) rfl (by kernel_rfl) (by kernel_rfl) (by kernel_rfl) (fun _ _ _ h => h) (Or.inl ⟨by rfl, ?hy5⟩) (by assumption) ?rest5; case hy5 => (intro w hSw; (try dsimp only at hSw); go_simp; try with_reducible rfl))
    (try simp only [List.getElem_toArray, List.getElem_cons_zero, List.getElem_cons_succ, Act.put, List.setIfInBounds_toArray, List.set_cons_zero, List.set_cons_succ])
    first | (refine wpAnyH_take (i := 6) (v := undef) rfl (by kernel_rfl) (by kernel_rfl) (by kernel_rfl) (fun _ _ _ h => h) (Or.inr ⟨by rfl, rfl⟩) (by assumption) ?_) | (refine wpAnyH_take (i := 6) (v := ?vv6) rfl (by kernel_rfl) (by kernel_rfl) (by kernel_rfl) (fun _ _ _ h => h) (Or.inl ⟨by rfl, ?hy6⟩) (by assumption) ?rest6; case hy6 => (intro w hSw; (try dsimp only at hSw); go_simp; try with_reducible rfl))
    (try simp only [List.getElem_toArray, List.getElem_cons_zero, List.getElem_cons_succ, Act.put, List.setIfInBounds_toArray, List.set_cons_zero, List.set_cons_succ])
    first | (refine wpAnyH_take (i := 8) (v := undef) rfl (by kernel_rfl) (by kernel_rfl) (by kernel_rfl) (fun _ _ _ h => h) (Or.inr ⟨by rfl, rfl⟩) (by assumption) ?_) | (refine wpAnyH_take (i := 8) (v := ?vv7) rfl (by kernel_rfl) (by kernel_rfl) (by kernel_rfl) (fun _ _ _ h => h) (Or.inl ⟨by rfl, ?hy7⟩) (by assumption) ?rest7; case hy7 => (intro w hSw; (try dsimp only at hSw); go_simp; try with_reducible rfl))
    (try simp only [List.getElem_toArray, List.getElem_cons_zero, List.getElem_cons_succ, Act.put, List.setIfInBounds_toArray, List.set_cons_zero, List.set_cons_succ])
    first | (refine wpAnyH_take (i := 9) (v := undef) rfl (by kernel_rfl) (by kernel_rfl) (by kernel_rfl) (fun _ _ _ h => h) (Or.inr ⟨by rfl, rfl⟩) (by assumption) ?_) | (refine wpAnyH_take (i := 9) (v := ?vv8) rfl (by kernel_rfl) (by kernel_rfl) (by kernel_rfl) (fun _ _ _ h => h) (Or.inl ⟨by rfl, ?hy8⟩) (by assumption) ?rest8; case hy8 => (intro w hSw; (try dsimp only at hSw); go_simp; try with_reducible rfl))
    (try simp only [List.getElem_toArray, List.getElem_cons_zero, List.getElem_cons_succ, Act.put, List.setIfInBounds_toArray, List.set_cons_zero, List.set_cons_succ])
    first | (refine wpAnyH_take (i := 10) (v := undef) rfl (by kernel_rfl) (by kernel_rfl) (by kernel_rfl) (fun _ _ _ h => h) (Or.inr ⟨by rfl, rfl⟩) (by assumption) ?_) | (refine wpAnyH_take (i := 10) (v := ?vv9) rfl (by kernel_rfl) (by kernel_rfl) (by kernel_rfl) (fun _ _ _ h => h) (Or.inl ⟨by rfl, ?hy9⟩) (by assumption) ?rest9; case hy9 => (intro w hSw; (try dsimp only at hSw); go_simp; try with_reducible rfl))
    (try simp only [List.getElem_toArray, List.getElem_cons_zero, List.getElem_cons_succ, Act.put, List.setIfInBounds_toArray, List.set_cons_zero, List.set_cons_succ])
    first
      | (refine wpAnyH_take (i := 7) (v := undef) rfl (by kernel_rfl) (by kernel_rfl) (by kernel_rfl) (fun _ _ _ h => h) (Or.inr ⟨by rfl, rfl⟩) (by assumption) ?_; (try simp only [List.getElem_toArray, List.getElem_cons_zero, List.getElem_cons_succ, Act.put, List.setIfInBounds_toArray, List.set_cons_zero, List.set_cons_succ]))
      | (refine wpAnyH_ready (rs := [7]) (by kernel_rfl) (List.cons_ne_nil _ _) ?_; refine AllReadyH.cons rfl (fun K hK => ?_) AllReadyH.nil; go_simp; go_split_ands; (go_at_call 11; go_split_ands; refine (HFE.out _ (by assumption)).mono ?_; rintro e w2 ⟨rfl, hb2⟩); (try go_wp2_with fail); refine hK.out _ _ ?hS10 (fun hHeld2 => ?rest10); (case hS10 => (exact (DE.keep (by assumption) hb2).four)); clear hK K; (try simp only [List.getElem_toArray, List.getElem_cons_zero, List.getElem_cons_succ, Act.put, List.setIfInBounds_toArray, List.set_cons_zero, List.set_cons_succ]))
    first
      | (refine wpAnyH_take (i := 11) (v := undef) rfl (by kernel_rfl) (by kernel_rfl) (by kernel_rfl) (fun _ _ _ h => h) (Or.inr ⟨by rfl, rfl⟩) (by assumption) ?_; (try simp only [List.getElem_toArray, List.getElem_cons_zero, List.getElem_cons_succ, Act.put, List.setIfInBounds_toArray, List.set_cons_zero, List.set_cons_succ]))
      | (refine wpAnyH_ready (rs := [11]) (by kernel_rfl) (List.cons_ne_nil _ _) ?_; refine AllReadyH.cons rfl (fun K hK => ?_) AllReadyH.nil; go_simp; go_split_ands; (go_at_call 15; go_split_ands; refine (HFT.out _ (by assumption)).mono ?_; rintro e w2 ⟨rfl, hb2⟩); (try go_wp2_with fail); refine hK.out _ _ ?hS11 (fun hHeld2 => ?rest11); (case hS11 => (exact (DE.keep (by assumption) hb2).four)); clear hK K; (try simp only [List.getElem_toArray, List.getElem_cons_zero, List.getElem_cons_succ, Act.put, List.setIfInBounds_toArray, List.set_cons_zero, List.set_cons_succ]))
    first | (refine wpAnyH_take (i := 12) (v := undef) rfl (by kernel_rfl) (by kernel_rfl) (by kernel_rfl) (fun _ _ _ h => h) (Or.inr ⟨by rfl, rfl⟩) (by assumption) ?_) | (refine wpAnyH_take (i := 12) (v := ?vv12) rfl (by kernel_rfl) (by kernel_rfl) (by kernel_rfl) (fun _ _ _ h => h) (Or.inl ⟨by rfl, ?hy12⟩) (by assumption) ?rest12; case hy12 => (intro w hSw; (try dsimp only at hSw); go_simp; try with_reducible rfl))
    (try simp only [List.getElem_toArray, List.getElem_cons_zero, List.getElem_cons_succ, Act.put, List.setIfInBounds_toArray, List.set_cons_zero, List.set_cons_succ])
    (refine wpAnyH_take (i := 13) (v := ?vv13) rfl (by kernel_rfl) (by kernel_rfl) (by kernel_rfl) (fun _ _ _ h => h) (Or.inl ⟨by rfl, ?hy13⟩) (by assumption) ?rest13; case hy13 => (intro w hSw; (try dsimp only at hSw); go_simp; try with_reducible rfl))
    (try simp only [List.getElem_toArray, List.getElem_cons_zero, List.getElem_cons_succ, Act.put, List.setIfInBounds_toArray, List.set_cons_zero, List.set_cons_succ])
    (refine wpAnyH_take (i := 14) (v := ?vv14) rfl (by kernel_rfl) (by kernel_rfl) (by kernel_rfl) (fun _ _ _ h => h) (Or.inl ⟨by rfl, ?hy14⟩) (by assumption) ?rest14; case hy14 => (intro w hSw; (try dsimp only at hSw); go_simp; try with_reducible rfl))
    (try simp only [List.getElem_toArray, List.getElem_cons_zero, List.getElem_cons_succ, Act.put, List.setIfInBounds_toArray, List.set_cons_zero, List.set_cons_succ])
    first | (refine wpAnyH_take (i := 15) (v := undef) rfl (by kernel_rfl) (by kernel_rfl) (by kernel_rfl) (fun _ _ _ h => h) (Or.inr ⟨by rfl, rfl⟩) (by assumption) ?_) | (refine wpAnyH_take (i := 15) (v := ?vv15) rfl (by kernel_rfl) (by kernel_rfl) (by kernel_rfl) (fun _ _ _ h => h) (Or.inl ⟨by rfl, ?hy15⟩) (by assumption) ?rest15; case hy15 => (intro w hSw; (try dsimp only at hSw); go_simp; try with_reducible rfl))
    (try simp only [List.getElem_toArray, List.getElem_cons_zero, List.getElem_cons_succ, Act.put, List.setIfInBounds_toArray, List.set_cons_zero, List.set_cons_succ])
    (refine wpAnyH_take (i := 16) (v := ?vv16) rfl (by kernel_rfl) (by kernel_rfl) (by kernel_rfl) (fun _ _ _ h => h) (Or.inl ⟨by rfl, ?hy16⟩) (by assumption) ?rest16; case hy16 => (intro w hSw; (try dsimp only at hSw); go_simp; try with_reducible rfl))
    (try simp only [List.getElem_toArray, List.getElem_cons_zero, List.getElem_cons_succ, Act.put, List.setIfInBounds_toArray, List.set_cons_zero, List.set_cons_succ])
    (refine wpAnyH_take (i := 17) (v := ?vv17) rfl (by kernel_rfl) (by kernel_rfl) (by kernel_rfl) (fun _ _ _ h => h) (Or.inl ⟨by rfl, ?hy17⟩) (by assumption) ?rest17; case hy17 => (intro w hSw; (try dsimp only at hSw); go_simp; try with_reducible rfl))
    (try simp only [List.getElem_toArray, List.getElem_cons_zero, List.getElem_cons_succ, Act.put, List.setIfInBounds_toArray, List.set_cons_zero, List.set_cons_succ])
    first | (refine wpAnyH_take (i := 18) (v := undef) rfl (by kernel_rfl) (by kernel_rfl) (by kernel_rfl) (fun _ _ _ h => h) (Or.inr ⟨by rfl, rfl⟩) (by assumption) ?_) | (refine wpAnyH_take (i := 18) (v := ?vv18) rfl (by kernel_rfl) (by kernel_rfl) (by kernel_rfl) (fun _ _ _ h => h) (Or.inl ⟨by rfl, ?hy18⟩) (by assumption) ?rest18; case hy18 => (intro w hSw; (try dsimp only at hSw); go_simp; try with_reducible rfl))
    (try simp only [List.getElem_toArray, List.getElem_cons_zero, List.getElem_cons_succ, Act.put, List.setIfInBounds_toArray, List.set_cons_zero, List.set_cons_succ])
    first | (refine wpAnyH_take (i := 20) (v := undef) rfl (by kernel_rfl) (by kernel_rfl) (by kernel_rfl) (fun _ _ _ h => h) (Or.inr ⟨by rfl, rfl⟩) (by assumption) ?_) | (refine wpAnyH_take (i := 20) (v := ?vv19) rfl (by kernel_rfl) (by kernel_rfl) (by kernel_rfl) (fun _ _ _ h => h) (Or.inl ⟨by rfl, ?hy19⟩) (by assumption) ?rest19; case hy19 => (intro w hSw; (try dsimp only at hSw); go_simp; try with_reducible rfl))
    (try simp only [List.getElem_toArray, List.getElem_cons_zero, List.getElem_cons_succ, Act.put, List.setIfInBounds_toArray, List.set_cons_zero, List.set_cons_succ])
    first
      | (refine wpAnyH_take (i := 19) (v := undef) rfl (by kernel_rfl) (by kernel_rfl) (by kernel_rfl) (fun _ _ _ h => h) (Or.inr ⟨by rfl, rfl⟩) (by assumption) ?_; (try simp only [List.getElem_toArray, List.getElem_cons_zero, List.getElem_cons_succ, Act.put, List.setIfInBounds_toArray, List.set_cons_zero, List.set_cons_succ]))
      | (refine wpAnyH_ready (rs := [19]) (by kernel_rfl) (List.cons_ne_nil _ _) ?_; refine AllReadyH.cons rfl (fun K hK => ?_) AllReadyH.nil; go_simp; go_split_ands; (go_at_call 18; go_split_ands; refine (HEE.out _ (by assumption)).mono ?_; rintro e w2 ⟨s1, c1, rfl, hb2, hnc⟩; have HNC := Lib.hid hnc; clear hnc); (try go_wp2_with fail); refine hK.out _ _ ?hS20 (fun hHeld2 => ?rest20); (case hS20 => (exact (DE.keep (by assumption) hb2).four)); clear hK K; (try simp only [List.getElem_toArray, List.getElem_cons_zero, List.getElem_cons_succ, Act.put, List.setIfInBounds_toArray, List.set_cons_zero, List.set_cons_succ]))
    first
      | (refine wpAnyH_take (i := 21) (v := undef) rfl (by kernel_rfl) (by kernel_rfl) (by kernel_rfl) (fun _ _ _ h => h) (Or.inr ⟨by rfl, rfl⟩) (by assumption) ?_; (try simp only [List.getElem_toArray, List.getElem_cons_zero, List.getElem_cons_succ, Act.put, List.setIfInBounds_toArray, List.set_cons_zero, List.set_cons_succ]))
      | (refine wpAnyH_ready (rs := [21]) (by kernel_rfl) (List.cons_ne_nil _ _) ?_; refine AllReadyH.cons rfl (fun K hK => ?_) AllReadyH.nil; go_simp; go_split_ands; (go_at_call 13; go_split_ands; refine (HSE.out _ (by assumption) HNC.out).mono ?_; rintro e w2 ⟨rfl, hb2⟩); (try go_wp2_with fail); refine hK.out _ _ ?hS21 (fun hHeld2 => ?rest21); (case hS21 => (exact (DE.keep (by assumption) hb2).four)); clear hK K; (try simp only [List.getElem_toArray, List.getElem_cons_zero, List.getElem_cons_succ, Act.put, List.setIfInBounds_toArray, List.set_cons_zero, List.set_cons_succ]))
    first | (refine wpAnyH_take (i := 22) (v := undef) rfl (by kernel_rfl) (by kernel_rfl) (by kernel_rfl) (fun _ _ _ h => h) (Or.inr ⟨by rfl, rfl⟩) (by assumption) ?_) | (refine wpAnyH_take (i := 22) (v := ?vv22) rfl (by kernel_rfl) (by kernel_rfl) (by kernel_rfl) (fun _ _ _ h => h) (Or.inl ⟨by rfl, ?hy22⟩) (by assumption) ?rest22; case hy22 => (intro w hSw; (try dsimp only at hSw); go_simp; try with_reducible rfl))
    (try simp only [List.getElem_toArray, List.getElem_cons_zero, List.getElem_cons_succ, Act.put, List.setIfInBounds_toArray, List.set_cons_zero, List.set_cons_succ])
    (refine wpAnyH_take (i := 23) (v := ?vv23) rfl (by kernel_rfl) (by kernel_rfl) (by kernel_rfl) (fun _ _ _ h => h) (Or.inl ⟨by rfl, ?hy23⟩) (by assumption) ?rest23; case hy23 => (intro w hSw; (try dsimp only at hSw); go_simp; try with_reducible rfl))
    (try simp only [List.getElem_toArray, List.getElem_cons_zero, List.getElem_cons_succ, Act.put, List.setIfInBounds_toArray, List.set_cons_zero, List.set_cons_succ])
    (refine wpAnyH_take (i := 24) (v := ?vv24) rfl (by kernel_rfl) (by kernel_rfl) (by kernel_rfl) (fun _ _ _ h => h) (Or.inl ⟨by rfl, ?hy24⟩) (by assumption) ?rest24; case hy24 => (intro w hSw; (try dsimp only at hSw); go_simp; try with_reducible rfl))
    (try simp only [List.getElem_toArray, List.getElem_cons_zero, List.getElem_cons_succ, Act.put, List.setIfInBounds_toArray, List.set_cons_zero, List.set_cons_succ])
    first | (refine wpAnyH_take (i := 25) (v := undef) rfl (by kernel_rfl) (by kernel_rfl) (by kernel_rfl) (fun _ _ _ h => h) (Or.inr ⟨by rfl, rfl⟩) (by assumption) ?_) | (refine wpAnyH_take (i := 25) (v := ?vv25) rfl (by kernel_rfl) (by kernel_rfl) (by kernel_rfl) (fun _ _ _ h => h) (Or.inl ⟨by rfl, ?hy25⟩) (by assumption) ?rest25; case hy25 => (intro w hSw; (try dsimp only at hSw); go_simp; try with_reducible rfl))
    (try simp only [List.getElem_toArray, List.getElem_cons_zero, List.getElem_cons_succ, Act.put, List.setIfInBounds_toArray, List.set_cons_zero, List.set_cons_succ])
    first | (refine wpAnyH_take (i := 26) (v := undef) rfl (by kernel_rfl) (by kernel_rfl) (by kernel_rfl) (fun _ _ _ h => h) (Or.inr ⟨by rfl, rfl⟩) (by assumption) ?_) | (refine wpAnyH_take (i := 26) (v := ?vv26) rfl (by kernel_rfl) (by kernel_rfl) (by kernel_rfl) (fun _ _ _ h => h) (Or.inl ⟨by rfl, ?hy26⟩) (by assumption) ?rest26; case hy26 => (intro w hSw; (try dsimp only at hSw); go_simp; try with_reducible rfl))
    (try simp only [List.getElem_toArray, List.getElem_cons_zero, List.getElem_cons_succ, Act.put, List.setIfInBounds_toArray, List.set_cons_zero, List.set_cons_succ])
    first | (refine wpAnyH_take (i := 28) (v := undef) rfl (by kernel_rfl) (by kernel_rfl) (by kernel_rfl) (fun _ _ _ h => h) (Or.inr ⟨by rfl, rfl⟩) (by assumption) ?_) | (refine wpAnyH_take (i := 28) (v := ?vv27) rfl (by kernel_rfl) (by kernel_rfl) (by kernel_rfl) (fun _ _ _ h => h) (Or.inl ⟨by rfl, ?hy27⟩) (by assumption) ?rest27; case hy27 => (intro w hSw; (try dsimp only at hSw); go_simp; try with_reducible rfl))
    (try simp only [List.getElem_toArray, List.getElem_cons_zero, List.getElem_cons_succ, Act.put, List.setIfInBounds_toArray, List.set_cons_zero, List.set_cons_succ])
    first
      | (refine wpAnyH_take (i := 27) (v := undef) rfl (by kernel_rfl) (by kernel_rfl) (by kernel_rfl) (fun _ _ _ h => h) (Or.inr ⟨by rfl, rfl⟩) (by assumption) ?_; (try simp only [List.getElem_toArray, List.getElem_cons_zero, List.getElem_cons_succ, Act.put, List.setIfInBounds_toArray, List.set_cons_zero, List.set_cons_succ]))
      | (refine wpAnyH_ready (rs := [27]) (by kernel_rfl) (List.cons_ne_nil _ _) ?_; refine AllReadyH.cons rfl (fun K hK => ?_) AllReadyH.nil; go_simp; go_split_ands; (go_at_call_of 13 (.agg #[.slice src n cap, .int .i64 root] : Value); go_split_ands; refine (HSM.out _ (by assumption)).mono ?_; rintro e w2 ⟨rfl, hb2⟩); (try go_wp2_with fail); refine hK.out _ _ ?hS28 (fun hHeld2 => ?rest28); (case hS28 => (exact (DE.keep (by assumption) hb2).four)); clear hK K; (try simp only [List.getElem_toArray, List.getElem_cons_zero, List.getElem_cons_succ, Act.put, List.setIfInBounds_toArray, List.set_cons_zero, List.set_cons_succ]))
    first | (refine wpAnyH_take (i := 29) (v := undef) rfl (by kernel_rfl) (by kernel_rfl) (by kernel_rfl) (fun _ _ _ h => h) (Or.inr ⟨by rfl, rfl⟩) (by assumption) ?_) | (refine wpAnyH_take (i := 29) (v := ?vv29) rfl (by kernel_rfl) (by kernel_rfl) (by kernel_rfl) (fun _ _ _ h => h) (Or.inl ⟨by rfl, ?hy29⟩) (by assumption) ?rest29; case hy29 => (intro w hSw; (try dsimp only at hSw); go_simp; try with_reducible rfl))
    (try simp only [List.getElem_toArray, List.getElem_cons_zero, List.getElem_cons_succ, Act.put, List.setIfInBounds_toArray, List.set_cons_zero, List.set_cons_succ])
    (refine wpAnyH_take (i := 30) (v := ?vv30) rfl (by kernel_rfl) (by kernel_rfl) (by kernel_rfl) (fun _ _ _ h => h) (Or.inl ⟨by rfl, ?hy30⟩) (by assumption) ?rest30; case hy30 => (intro w hSw; (try dsimp only at hSw); go_simp; try with_reducible rfl))
    (try simp only [List.getElem_toArray, List.getElem_cons_zero, List.getElem_cons_succ, Act.put, List.setIfInBounds_toArray, List.set_cons_zero, List.set_cons_succ])
    refine wpAnyH_done (by kernel_rfl) ?_ _
    go_split_ands
    rename_i hd8
    have D8 := Lib.hid hd8
    clear hd8
    obtain ⟨b0, b1, -, -, -⟩ := D8.out.four
    go_wp2_with fail
    refine (HW.out _ D8.out.bel).mono ?_
    rintro e w9 ⟨v9, rfl, hb9, ho9⟩
    obtain ⟨s9, c9, hv9, hn9⟩ := own_nums (l := natI (walkS l a)) (v := v9) (w := w9) (by simpa [natI_len] using ho9)
    rw [natI_len] at hv9
    subst hv9
    have D9 := Lib.hid (D8.out.keep hb9)
    have N9 := Lib.hid hn9
    clear hb9 hn9 ho9 b0 b1 HW HSE HSM HEE HFT HFE HCE HME HMT D8 hbq
    obtain ⟨m, hm⟩ : ∃ m, m = (walkS l a).length := ⟨_, rfl⟩
    have HM := Lib.hid hm
    rw [← hm] at hwl ⊢
    clear hm
    go_wp2_with fail
    go_loopw [8, 72] (fun f i wr => ∃ j : Nat, j ≤ m ∧ i = .int .i64 j ∧ f = fstV (firstTo l a j) ∧ Below w9.heap.size w9 wr) (fun _ i _ => m - (intOf i).toNat)
    case atStart => exact ⟨0, Nat.zero_le _, rfl, rfl, Below.refl _ _⟩
    case round =>
      rename World => wo
      obtain ⟨j, hj, rfl, hf, hb⟩ := hrel
      have HB := Lib.hid hb
      clear hb
      by_cases hlt : j < m
      · have HJ : Hid (j < (walkS l a).length) := Lib.hid (by have := HM.out; omega)
        generalize hfo : firstTo l a j = fo at hf
        have HO := Lib.hid hfo
        have HNX := Lib.hid (firstTo_next HJ.out)
        subst hf
        clear hfo
        obtain ⟨i, hi⟩ : ∃ i, i = (walkS l a)[j]'HJ.out := ⟨_, rfl⟩
        have HI := Lib.hid hi
        have hil : i < l.length := by
          have h1 := walk_le HP.out a HAL.out i (by rw [hi]; exact List.getElem_mem _)
          have h2 := HAL.out
          omega
        have hin : i < n := by have := HLN.out; omega
        obtain ⟨g9, o9, rfl, l9, r9⟩ := N9.out (by rw [natI_len]; have := HM.out; omega)
        have d9 := keep HB.out l9 (r9 j (by rw [natI_len]; exact HJ.out))
        rw [show (natI (walkS l a))[j]'(by rw [natI_len]; exact HJ.out) = ((i : Nat) : Int) from by rw [hi]; simp [natI]] at d9
        obtain ⟨b, off, hsrc, hbw, hrow⟩ := HROW.out (by omega)
        subst hsrc
        obtain ⟨kv, ev', hnd⟩ := hrow i hil
        have HSA : Hid (strictAt l i = strictN l[i]) := Lib.hid (strictAt_get hil)
        have hsz := (SM.out _ (List.getElem_mem hil)).M
        have hkn := known_nat (shaped_parts (HP.out.shaped i hil)).1
        clear hrow r9 hi
        generalize l[i] = y at HSA hnd hsz hkn
        obtain ⟨kind, sf, st, K, text, B, N, D, M, num, wf, wt, ends⟩ := y
        simp only at hnd hsz hkn
        obtain ⟨hk0, he0, c0, c1, c2, c3, c4, c5, c6, c7, c8, c9x, c10, c11, c12⟩ := hnd
        obtain ⟨ks, kc, hkv, -⟩ := hk0
        obtain ⟨es, ec, hev, -⟩ := he0
        simp only at hkv hev
        subst hkv hev
        have BW : Below w.heap.size w wo := after D9.out.bel HB.out
        have k0 := keep BW hbw c0
        have k1 := keep BW hbw c1
        have k2 := keep BW hbw c2
        have k3 := keep BW hbw c3
        have k4 := keep BW hbw c4
        have k5 := keep BW hbw c5
        have k6 := keep BW hbw c6
        have k7 := keep BW hbw c7
        have k8 := keep BW hbw c8
        have k9 := keep BW hbw c9x
        have k10 := keep BW hbw c10
        have k11 := keep BW hbw c11
        have k12 := keep BW hbw c12
        clear c0 c1 c2 c3 c4 c5 c6 c7 c8 c9x c10 c11 c12
        obtain ⟨b0, b1, -, -, -⟩ := (D9.out.keep HB.out).four
        have hbo : b < wo.heap.size := Nat.lt_of_lt_of_le hbw BW.size
        obtain ⟨W8, hW8⟩ : ∃ W8, W8 = wo.alloc (.cells #[.int .i64 kind, .int .i64 sf, .int .i64 st, .slice ks K.length kc, .string text, .int .i64 B, .string N, .int .i64 D, .string M, .int .i64 num, .int .i64 wf, .int .i64 wt, .slice es ends.length ec] 46) := ⟨_, rfl⟩
        have X8 : Hid (BoxN W8 wo.heap.size [.int .i64 kind, .int .i64 sf, .int .i64 st, .slice ks K.length kc, .string text, .int .i64 B, .string N, .int .i64 D, .string M, .int .i64 num, .int .i64 wf, .int .i64 wt, .slice es ends.length ec]) := Lib.hid (by rw [hW8]; exact BoxN.new wo #[.int .i64 kind, .int .i64 sf, .int .i64 st, .slice ks K.length kc, .string text, .int .i64 B, .string N, .int .i64 D, .string M, .int .i64 num, .int .i64 wf, .int .i64 wt, .slice es ends.length ec])
        have HB8 : Hid (Below w9.heap.size w9 W8) := Lib.hid (by rw [hW8]; exact HB.out.alloc HB.out.size _)
        have HW8 := Lib.hid hW8
        clear hW8 BW
        obtain ⟨kn, hkn1, hkn2, hkn3⟩ := hkn
        by_cases h40 : (40 : Int) ≤ kind
        · have p1 : decide ((40 : Int) ≤ kind) = true := decide_eq_true h40
          have p2 : decide (kind ≤ 45) = true := decide_eq_true (by omega)
          have HK : Hid (strictK kind = true) := Lib.hid (by unfold strictK; exact decide_eq_true (by omega))
          clear hkn1 h40
          go_wp2_with fail
          try rw [← HW8.out]
          clear HW8 k0 k1 k2 k3 k4 k5 k6 k7 k8 k9 k10 k11 k12
          obtain ⟨⟨a0, a1, a2, a3, a4, a5, a6, a7, a8, a9, a10, a11, a12⟩, al, af⟩ := X8.out.all
          clear a1 a2 a3 a4 a5 a6 a7 a9 a10 a11 a12 af
          go_loopw [12, 93] (fun s i wr => ∃ k : Nat, k ≤ M.size ∧ i = .int .i64 k ∧ s = .bool (strictK kind || mkTo M k) ∧ wr = W8) (fun _ i _ => M.size - (intOf i).toNat)
          case atStart => exact ⟨0, Nat.zero_le _, rfl, by rw [HK.out, mkTo_zero] <;> rfl, rfl⟩
          case round =>
            obtain ⟨k, hk, rfl, rfl, hw⟩ := hrel
            have hw' := hw.symm
            subst hw'
            by_cases hltk : k < M.size
            · have HMK := Lib.hid (mkTo_next M k)
              have C := Lib.hid (byS_get M k hltk)
              by_cases h32 : M[k].toNat = 32
              · have HS8 := Lib.hid (show (strictK kind || mkTo M (k + 1)) = (strictK kind || mkTo M k) by rw [HMK.out, C.out, h32]; simp)
                have r1 : ((M[k].toNat : Int) != 32) = false := by rw [h32]; rfl
                clear h32
                generalize hsq : (strictK kind || mkTo M k) = sq at *
                have HSQ := Lib.hid hsq
                clear hsq
                cases sq
                · go_wp2_with fail
                  go_roundw
                  case rel => exact ⟨k + 1, by omega, by go_num, by rw [HS8.out], by trivial⟩
                  case measure => simp [intOf]; omega
                · go_wp2_with fail
                  go_roundw
                  case rel => exact ⟨k + 1, by omega, by go_num, by rw [HS8.out], by trivial⟩
                  case measure => simp [intOf]; omega
              · have HS8 := Lib.hid (show (strictK kind || mkTo M (k + 1)) = true by rw [HMK.out, C.out, decide_eq_true h32]; simp)
                have r1 : ((M[k].toNat : Int) != 32) = true := by simp; omega
                clear h32
                generalize hsq : (strictK kind || mkTo M k) = sq at *
                have HSQ := Lib.hid hsq
                clear hsq
                cases sq
                · go_wp2_with fail
                  go_roundw
                  case rel => exact ⟨k + 1, by omega, by go_num, by rw [HS8.out], by trivial⟩
                  case measure => simp [intOf]; omega
                · go_wp2_with fail
                  go_roundw
                  case rel => exact ⟨k + 1, by omega, by go_num, by rw [HS8.out], by trivial⟩
                  case measure => simp [intOf]; omega
            · have hkm : k = M.size := by omega
              subst hkm
              have HSQ : Hid ((strictK kind || mkTo M M.size) = strictAt l i) := Lib.hid (by rw [HSA.out]; rfl)
              rw [HSQ.out]
              clear hltk hk
              generalize hsq : strictAt l i = sq at *
              have HST : Hid (strictAt l i = sq) := Lib.hid hsq
              clear hsq
              cases sq
              · have HNX2 : Hid (firstTo l a (j + 1) = fo) := Lib.hid (by
                  rw [HNX.out, HO.out]
                  cases fo with
                  | none => show (if strictAt l _ = true then _ else _) = _; rw [← HI.out, HST.out]; rfl
                  | some x1 => rfl)
                go_wp2_with fail
                go_roundw
                case rel => exact ⟨j + 1, by omega, by go_num, by rw [HNX2.out] <;> rfl, HB8.out⟩
                case measure => simp [intOf]; omega
              · clear HSQ
                cases fo with
                | none =>
                  have HNX2 : Hid (firstTo l a (j + 1) = some i) := Lib.hid (by rw [HNX.out, HO.out]; show (if strictAt l _ = true then _ else _) = _; rw [← HI.out, HST.out]; rfl)
                  dsimp only [fstV]
                  go_wp2_with fail
                  go_roundw
                  case rel => exact ⟨j + 1, by omega, by go_num, by rw [HNX2.out] <;> rfl, HB8.out⟩
                  case measure => simp [intOf]; omega
                | some x1 =>
                  have HNX2 : Hid (firstTo l a (j + 1) = some x1) := Lib.hid (by rw [HNX.out, HO.out])
                  have p3 : decide ((x1 : Int) < 0) = false := decide_eq_false (by omega)
                  dsimp only [fstV]
                  go_wp2_with fail
                  go_roundw
                  case rel => exact ⟨j + 1, by omega, by go_num, by rw [HNX2.out] <;> rfl, HB8.out⟩
                  case measure => simp [intOf]; omega
        · have p1 : decide ((40 : Int) ≤ kind) = false := decide_eq_false h40
          have HK : Hid (strictK kind = false) := Lib.hid (by unfold strictK; exact decide_eq_false (by omega))
          clear hkn1 h40
          go_wp2_with fail
          try rw [← HW8.out]
          clear HW8 k0 k1 k2 k3 k4 k5 k6 k7 k8 k9 k10 k11 k12
          obtain ⟨⟨a0, a1, a2, a3, a4, a5, a6, a7, a8, a9, a10, a11, a12⟩, al, af⟩ := X8.out.all
          clear a1 a2 a3 a4 a5 a6 a7 a9 a10 a11 a12 af
          go_loopw [12, 93] (fun s i wr => ∃ k : Nat, k ≤ M.size ∧ i = .int .i64 k ∧ s = .bool (strictK kind || mkTo M k) ∧ wr = W8) (fun _ i _ => M.size - (intOf i).toNat)
          case atStart => exact ⟨0, Nat.zero_le _, rfl, by rw [HK.out, mkTo_zero] <;> rfl, rfl⟩
          case round =>
            obtain ⟨k, hk, rfl, rfl, hw⟩ := hrel
            have hw' := hw.symm
            subst hw'
            by_cases hltk : k < M.size
            · have HMK := Lib.hid (mkTo_next M k)
              have C := Lib.hid (byS_get M k hltk)
              by_cases h32 : M[k].toNat = 32
              · have HS8 := Lib.hid (show (strictK kind || mkTo M (k + 1)) = (strictK kind || mkTo M k) by rw [HMK.out, C.out, h32]; simp)
                have r1 : ((M[k].toNat : Int) != 32) = false := by rw [h32]; rfl
                clear h32
                generalize hsq : (strictK kind || mkTo M k) = sq at *
                have HSQ := Lib.hid hsq
                clear hsq
                cases sq
                · go_wp2_with fail
                  go_roundw
                  case rel => exact ⟨k + 1, by omega, by go_num, by rw [HS8.out], by trivial⟩
                  case measure => simp [intOf]; omega
                · go_wp2_with fail
                  go_roundw
                  case rel => exact ⟨k + 1, by omega, by go_num, by rw [HS8.out], by trivial⟩
                  case measure => simp [intOf]; omega
              · have HS8 := Lib.hid (show (strictK kind || mkTo M (k + 1)) = true by rw [HMK.out, C.out, decide_eq_true h32]; simp)
                have r1 : ((M[k].toNat : Int) != 32) = true := by simp; omega
                clear h32
                generalize hsq : (strictK kind || mkTo M k) = sq at *
                have HSQ := Lib.hid hsq
                clear hsq
                cases sq
                · go_wp2_with fail
                  go_roundw
                  case rel => exact ⟨k + 1, by omega, by go_num, by rw [HS8.out], by trivial⟩
                  case measure => simp [intOf]; omega
                · go_wp2_with fail
                  go_roundw
                  case rel => exact ⟨k + 1, by omega, by go_num, by rw [HS8.out], by trivial⟩
                  case measure => simp [intOf]; omega
            · have hkm : k = M.size := by omega
              subst hkm
              have HSQ : Hid ((strictK kind || mkTo M M.size) = strictAt l i) := Lib.hid (by rw [HSA.out]; rfl)
              rw [HSQ.out]
              clear hltk hk
              generalize hsq : strictAt l i = sq at *
              have HST : Hid (strictAt l i = sq) := Lib.hid hsq
              clear hsq
              cases sq
              · have HNX2 : Hid (firstTo l a (j + 1) = fo) := Lib.hid (by
                  rw [HNX.out, HO.out]
                  cases fo with
                  | none => show (if strictAt l _ = true then _ else _) = _; rw [← HI.out, HST.out]; rfl
                  | some x1 => rfl)
                go_wp2_with fail
                go_roundw
                case rel => exact ⟨j + 1, by omega, by go_num, by rw [HNX2.out] <;> rfl, HB8.out⟩
                case measure => simp [intOf]; omega
              · clear HSQ
                cases fo with
                | none =>
                  have HNX2 : Hid (firstTo l a (j + 1) = some i) := Lib.hid (by rw [HNX.out, HO.out]; show (if strictAt l _ = true then _ else _) = _; rw [← HI.out, HST.out]; rfl)
                  dsimp only [fstV]
                  go_wp2_with fail
                  go_roundw
                  case rel => exact ⟨j + 1, by omega, by go_num, by rw [HNX2.out] <;> rfl, HB8.out⟩
                  case measure => simp [intOf]; omega
                | some x1 =>
                  have HNX2 : Hid (firstTo l a (j + 1) = some x1) := Lib.hid (by rw [HNX.out, HO.out])
                  have p3 : decide ((x1 : Int) < 0) = false := decide_eq_false (by omega)
                  dsimp only [fstV]
                  go_wp2_with fail
                  go_roundw
                  case rel => exact ⟨j + 1, by omega, by go_num, by rw [HNX2.out] <;> rfl, HB8.out⟩
                  case measure => simp [intOf]; omega
      · have hjm : j = m := by omega
        subst hjm
        have HFF : Hid (firstTo l a j = o) := Lib.hid (by unfold firstTo; rw [HM.out, List.take_length, ← HE11.out])
        rw [HFF.out] at hf
        subst hf
        have BW := Lib.hid (after D9.out.bel HB.out)
        cases o with
        | none =>
          dsimp only [fstV]
          go_wp2_with fail
          go_ret
          exact ⟨rfl, BW.out⟩
        | some x1 =>
          have p3 : decide ((0 : Int) ≤ (x1 : Int)) = true := decide_eq_true (by omega)
          dsimp only [fstV]
          go_wp2_with fail
          go_ret
          exact ⟨rfl, BW.out⟩
  · generalize checkE l root = c at *
    clear HC HG HT SM
    go_wp2_with fail
    go_ret
    exact ⟨rfl, D3.out.bel⟩
end Go.Proofs.YtfalgnapghienaaGreatDoor
namespace Go.Proofs.YtfalgnapghienaaGreatDoor
open Go.ChangeShapes Go.WideShapes Go.ChangeAt Go.RowKit
open Go.ChangeMaps (open_string shut_string)
set_option linter.unusedVariables false

theorem erasesw_any {w : World} (v : Value) (l : List Nd) (root : Int) (tv : TreeV w v l root) (rd : ∀ x ∈ l, NdRead x) (hT : Tabs w) : Calls Tryz.prog 6 #[v] w fun e w' => e = .returned (.bool true) ∧ Below w.heap.size w w' :=
  erases_any v l root tv rd hT (fun w2 hb => grows_any w2 (hT.step hb)) (fun w2 hb hs => by
    obtain ⟨nv, rfl, hn⟩ := tv
    exact rcheck_any l nv root w2 (hn.step hb) (small_get hs).1 (small_get hs).2)

set_option maxRecDepth 100000 in
theorem treeErases_contract (H : Type) (enc : TypeId × Value → H) (W : World) (base : Nat) (args : Array Value) (ds gs : List (DataW H)) (before : List MemPlace)
    (hval0 : ∀ (j : Nat) t v, Tryz.f6.params[j]? = some t → args[j]? = some v → Value.okWide Tryz.prog W .any base t v)
    (hW : DataW.Whole enc Tryz.prog Tryz.f6.params.toList Rows.treeErasesSpec.vars false W args.toList ds gs before) (hsz0 : (DataW.weightsEach Tryz.prog (Tryz.f6.params.toList ++ Rows.treeErasesSpec.plain.varTypes Tryz.prog) (ds ++ gs)).all (· ≤ reachBytes) = true) (hL : laidMetH Tryz.prog Rows.treeErasesRow.laid W) :
    Calls Tryz.prog 6 args W fun e W' => ∃ v, e = .returned v ∧ Rows.treeErasesSpec.post enc Tryz.prog Tryz.f6 false true false false W args v W' := by
  have hval : ∀ (j : Nat) t v, Tryz.f6.params[j]? = some t → args[j]? = some v → Value.okWide Tryz.prog W .any base t v := hval0
  have hW' := hW
  obtain ⟨p, q, hA0, hV, rfl, hfz, hnd⟩ := hW
  have hA : DataW.TrodAll enc Tryz.prog W 0 (fun _ => true) true Tryz.f6.params.toList args.toList ds p := hA0
  have hsz : (DataW.weightsEach Tryz.prog (Tryz.f6.params.toList ++ []) (ds ++ gs)).all (· ≤ reachBytes) = true := hsz0
  rw [Tryz.params6] at hA hval hsz
  obtain ⟨v0, vs0, d0, ds0, p0, q0, hargs, rfl, rfl, h0, r0⟩ := trodAll_cons hA
  obtain ⟨rfl, rfl, rfl⟩ := trodAll_nil r0
  obtain rfl : args = #[v0] := by cases args; simp_all
  obtain ⟨rfl, rfl⟩ := trodVars_none hV
  have k0 := h0
  have lt0 : ∀ x ∈ p0, x.block < W.heap.size := by obtain ⟨m, hm⟩ := k0; exact DataW.trod_lt m _ _ _ hm
  obtain ⟨l0, root0, tv0, ll0, lg0⟩ := open_tree ⟨Tryz.underlying46, by kernel_rfl, rfl, by kernel_rfl, by kernel_rfl, by kernel_rfl, by kernel_rfl, by kernel_rfl, by kernel_rfl, by kernel_rfl, by kernel_rfl, Tryz.underlying42, Tryz.underlying44, Tryz.underlying35, Tryz.underlying3, Tryz.underlying2, Tryz.underlying9, by kernel_rfl, by kernel_rfl, by kernel_rfl, by kernel_rfl, by kernel_rfl, by kernel_rfl, by kernel_rfl, ⟨rfl, rfl⟩, ⟨rfl, rfl⟩, ⟨rfl, rfl⟩, ⟨rfl, rfl⟩, ⟨rfl, rfl⟩, ⟨rfl, rfl⟩⟩ Tryz.underlying22 Tryz.underlying24 (by kernel_rfl) (by kernel_rfl) rfl rfl (hval 0 24 v0 rfl rfl) h0
  have rd0 := lg0 (fun m hm => by
    have := List.all_eq_true.1 hsz m (DataW.weights_mem_each (j := 0) (t := 24) (d := d0) rfl rfl m hm)
    exact of_decide_eq_true this)
  clear hA0 hval0
  refine (erasesw_any v0 l0 root0 tv0 rd0 (tabs_of (by rw [MakeChecks.laidMetH_plain _ _ _ (by kernel_rfl)] at hL; exact hL))).mono fun e W' ⟨he, bel⟩ => ?_
  subst he
  exact ⟨_, rfl, _, _, _, [], _, [], hW', trodAll_mk1 (shut_bool Tryz.underlying4 _), (trodAll_cons_mk (Below.trod laidOut (by kernel_rfl) (of_decide_eq_true (by kernel_rfl)) k0 bel lt0) trodAll_mk0), rfl, bel.frame _, fun h => by cases h⟩

set_option maxRecDepth 100000 in
theorem treeErases_lifted (os : Os) (started : os.Started) (H : Type) (enc : TypeId × Value → H) :
    ReturnsInHanded {} Tryz.checked os 6 .any (fun w args => (Rows.treeErasesSpec.pre enc Tryz.prog Tryz.f6 Rows.treeErasesRow.domain false w args ∧ laidMetH Tryz.prog Rows.treeErasesRow.laid w) ∧ sizedMet enc Tryz.prog Tryz.f6 (OpenSpec.ofChange Rows.treeErasesSpec) false w args)
      (Rows.treeErasesSpec.post enc Tryz.prog Tryz.f6 false true false false) := by
  refine returnsInHanded_of_change_and (C := Tryz.checked) (X := fun w _ => laidMetH Tryz.prog Rows.treeErasesRow.laid w) (fun _ _ _ hh h => h.of_heap hh) own started (by kernel_rfl) Tryz.func6
    (ChangeSpec.witness_shaped (enc := enc) (C := Tryz.checked) (os := os) (X := fun w _ => laidMetH Tryz.prog Rows.treeErasesRow.laid w) false (World.laidAll Tryz.prog os laidL) #[.agg #[.slice none 0 0, .int .i64 0]] 8 (World.laidAll_os _ _ _)
      (World.shaped_of_ZipB (by kernel_rfl) (by kernel_rfl)) (by kernel_rfl) (by kernel_rfl) (by kernel_rfl)
      (by rw [MakeChecks.laidMetH_plain _ _ _ (by kernel_rfl)]; exact laidMet_laidAll _ (by kernel_rfl) (by kernel_rfl))) ?_
  intro W base args ds gs before hval hW _ hsz hL _
  exact treeErases_contract H enc W base args ds gs before hval hW hsz hL

theorem treeErases_said : Rows.TreeErasesSaid :=
  OpenClaim.holds_of_wide 6 Tryz.f6 rfl rfl rfl rfl rfl rfl rfl ⟨rfl, rfl, rfl, rfl, rfl⟩ rfl rfl rfl rfl rfl (by kernel_rfl) Tryz.func6 (by kernel_rfl)
    (of_decide_eq_true (by kernel_rfl)) (by unfold Func.isWrapper; first | (rw [if_pos (by decide +kernel)]; kernel_rfl) | (rw [if_neg (by decide +kernel)]; exact ⟨rfl, rfl⟩))
    (fun os started H enc _ => treeErases_lifted os started H enc)

theorem treeErases_plain (f : FuncId) (fn : Func) (hf : Tryz.pinned.checked.prog.funcNamed "caulker/caulkerlaw07.TreeErases" = some f) (hfn : Tryz.pinned.checked.prog.funcs[f]? = some fn) :
    false = Tryz.pinned.checked.prog.looks [] ∧ ∀ (j : Nat) t, fn.params[j]? = some t → Tryz.pinned.checked.prog.wantsStandIn t = false := by
  obtain rfl : f = 6 := Option.some.inj ((show Tryz.prog.funcNamed "caulker/caulkerlaw07.TreeErases" = some 6 by kernel_rfl).symm.trans hf) |>.symm
  obtain rfl : fn = Tryz.f6 := (Option.some.inj (Tryz.func6.symm.trans hfn)).symm
  refine ⟨by kernel_rfl, fun j t ht => ?_⟩
  rw [Tryz.params6] at ht
  have hm := Array.mem_of_getElem? ht
  simp only [List.mem_toArray, List.mem_cons, List.not_mem_nil, or_false] at hm
  rcases hm with rfl
  · exact (show Tryz.prog.wantsStandIn 24 = false by kernel_rfl)

/-- THE CARD. -/
theorem treeErases_proved : Rows.TreeErasesCardSaid :=
  Claim7.holds_tied_plain_at .later [] _ _ _ _ treeErases_said (fun _ h => by cases h) (by kernel_rfl) (fun _ h => by cases h) treeErases_row_tie rfl ⟨rfl, rfl⟩ (by kernel_rfl) rfl treeErases_plain (by kernel_rfl)
end Go.Proofs.YtfalgnapghienaaGreatDoor
