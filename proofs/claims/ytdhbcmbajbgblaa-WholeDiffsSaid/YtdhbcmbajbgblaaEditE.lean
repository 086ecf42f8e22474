/- Contract of Apply. -/
import Derived.Test.YtdhbcmbajbgblaaEditD
import Derived.Test.YtdhbcmbajbgblaaBuilder
import Derived.Test.YtdhbcmbajbgblaaTidyFacts
namespace Go.Proofs.Ytdhbcmbajbgblaa
open Go Go.RowKit
set_option linter.unusedVariables false

/-- an edit over natural numbers, as memory has it -/
def toI (e : NEd) : IEd := ((e.1 : Int), (e.2.1 : Int), e.2.2)
theorem toI_get (L : List NEd) (k : Nat) (h : k < (L.map toI).length) : (L.map toI)[k] = toI (L[k]'(by simpa using h)) := by simp
theorem edOk_of (n : Nat) : ∀ (l : List IEd) (a : Nat), (∀ e ∈ l, 0 ≤ e.1 ∧ e.1 ≤ e.2.1 ∧ e.2.1 ≤ n) → (∀ k, k + 1 < l.length → (l.getD k noEd).2.1 ≤ (l.getD (k + 1) noEd).1) → a ≤ n → (0 < l.length → (a : Int) ≤ (l.getD 0 noEd).1) →
    EdOk n a (l.map fun e => (e.1.toNat, e.2.1.toNat, e.2.2))
  | [], a, _, _, h, _ => h
  | e :: l, a, h1, h2, h3, h4 => by
    have he := h1 e (by simp)
    have h0 := h4 (by simp)
    have h0 : (a : Int) ≤ e.1 := h0
    refine ⟨by simp only; omega, by simp only; omega, ?_⟩
    refine edOk_of n l _ (fun x hx => h1 x (by simp [hx])) (fun k hk => h2 (k + 1) (by simpa using hk)) (by simp only; omega) (fun h => ?_)
    have := h2 0 (by simpa using h)
    simp only [List.getD_cons_zero, List.getD_cons_succ] at this
    simp only; omega
/-- edits that fit, over natural numbers -/
theorem fits_valid {s : Nat} {l : List IEd} (h : fitsE s l = 0) :
    ∃ L : List NEd, l = L.map toI ∧ EdOk s 0 L ∧ L.length ≤ 4096 ∧ s ≤ 65536 ∧ growE l = growN L ∧ costE l = (costN L : Nat) ∧ (s : Int) + growN L ≤ 65536 ∧ (∀ e ∈ L, e.2.2.size ≤ 65536) := by
  obtain ⟨h1, h2, h3⟩ := fitsE_zero h
  obtain ⟨k1, k2, k3⟩ := checkE_zero h2
  have hb : ∀ e ∈ l, 0 ≤ e.1 ∧ e.1 ≤ e.2.1 ∧ e.2.1 ≤ s := fun e he => by have := chkB_iff.1 (k2 e he).2; omega
  have hm : ∀ e ∈ l, mayB e.1 e.2.1 = true := fun e he => mayB_iff.2 (chkB_iff.1 (k2 e he).2).1
  have ho : ∀ k, k + 1 < l.length → (l.getD k noEd).2.1 ≤ (l.getD (k + 1) noEd).1 := fun k hk => by
    unfold ordE at k3
    have := List.all_eq_true.1 k3 k (List.mem_range.2 (by omega))
    unfold nextB at this
    exact of_decide_eq_true this
  have hL := edOk_of s l 0 hb ho (Nat.zero_le _) (fun h => by
    have : l.getD 0 noEd ∈ l := by rw [getE l 0 h]; exact List.getElem_mem _
    have := hb _ this; omega)
  have e1 : l = (l.map fun e => (e.1.toNat, e.2.1.toNat, e.2.2)).map toI := by
    rw [List.map_map]
    symm
    conv => rhs; rw [← List.map_id l]
    refine List.map_congr_left fun e he => ?_
    have := hb e he
    simp only [Function.comp, toI, id]
    rw [Int.toNat_of_nonneg (by omega), Int.toNat_of_nonneg (by omega)]
  have gen : ∀ l : List IEd, (∀ e ∈ l, 0 ≤ e.1 ∧ e.1 ≤ e.2.1) → (∀ e ∈ l, mayB e.1 e.2.1 = true) → growE l = growN (l.map fun e => (e.1.toNat, e.2.1.toNat, e.2.2)) ∧ costE l = (costN (l.map fun e => (e.1.toNat, e.2.1.toNat, e.2.2)) : Nat) := by
    intro l
    induction l with
    | nil => intro _ _; exact ⟨rfl, rfl⟩
    | cons e l ih =>
      intro q1 q2
      obtain ⟨i1, i2⟩ := ih (fun x hx => q1 x (by simp [hx])) (fun x hx => q2 x (by simp [hx]))
      have g1 : growE (e :: l) = ((e.2.2.size : Int) - lenI e.1 e.2.1) + growE l := by simp [growE]
      have g2 : costE (e :: l) = ((e.2.2.size : Int) + lenI e.1 e.2.1) + costE l := by simp [costE]
      have q3 := q1 e (by simp)
      rw [g1, g2, i1, i2, lenI_yes (q2 e (by simp))]
      simp only [List.map_cons, growN, costN]
      constructor <;> omega
  obtain ⟨g1, g2⟩ := gen l (fun e he => ⟨(hb e he).1, (hb e he).2.1⟩) hm
  refine ⟨_, e1, hL, by simpa using k1, h1, g1, g2, by rw [← g1]; exact h3, fun e he => ?_⟩
  obtain ⟨x, hx, rfl⟩ := List.mem_map.1 he
  exact (k2 x hx).1

theorem lenI_nat {f t : Nat} (h1 : f ≤ t) (h2 : t ≤ 65536) : lenI (f : Int) (t : Int) = (t : Int) - f := lenI_yes (mayB_iff.2 ⟨by omega, by omega, by omega⟩)
/-- and the other way round -/
theorem valid_fits {s : Nat} {L : List NEd} (h : EdOk s 0 L) (hl : L.length ≤ 4096) (hs : s ≤ 65536) (hg : (s : Int) + growN L ≤ 65536) (ht : ∀ e ∈ L, e.2.2.size ≤ 65536) : fitsE s (L.map toI) = 0 ∧ costE (L.map toI) = (costN L : Nat) ∧ checkE s (L.map toI) = 0 := by
  have hb : ∀ (L : List NEd) (a : Nat), EdOk s a L → ∀ e ∈ L, e.1 ≤ e.2.1 ∧ e.2.1 ≤ s := by
    intro L
    induction L with
    | nil => intro a _ e he; exact absurd he (by simp)
    | cons x L ih =>
      intro a hk e he
      rcases List.mem_cons.1 he with rfl | he
      · exact ⟨hk.2.1, hk.2.2.le⟩
      · exact ih _ hk.2.2 e he
  have hb := hb L 0 h
  have hone : ∀ e ∈ L.map toI, oneE s e = 0 := by
    intro e he
    obtain ⟨x, hx, rfl⟩ := List.mem_map.1 he
    have q1 := ht x hx
    have q2 := hb x hx
    unfold oneE toI
    rw [if_neg (by simp only; omega)]
    have : chkB (x.1 : Int) (x.2.1 : Int) s = true := chkB_iff.2 ⟨⟨by omega, by omega, by omega⟩, by omega, by omega⟩
    simp only [this]; rfl
  have hfirst : ∀ l : List IEd, (∀ e ∈ l, oneE s e = 0) → firstE s l = 0 := by
    intro l
    induction l with
    | nil => intro _; rfl
    | cons e l ih => intro q; simp only [firstE, q e (by simp), if_true]; exact ih fun x hx => q x (by simp [hx])
  have hord : ordE (L.map toI) ((L.map toI).length - 1) = true := by
    unfold ordE
    refine List.all_eq_true.2 fun k hk => ?_
    have hk := List.mem_range.1 hk
    rw [List.length_map] at hk
    unfold nextB
    rw [getE _ k (by simp; omega), getE _ (k + 1) (by simp; omega), toI_get, toI_get]
    have := (h.at (k := k + 1) (by omega)).1
    have e1 : edTo L (k + 1) = (L.getD k (0, 0, ByteArray.empty)).2.1 := rfl
    rw [e1, List.getD_eq_getElem?_getD, List.getD_eq_getElem?_getD, List.getElem?_eq_getElem (by omega), List.getElem?_eq_getElem (by omega)] at this
    simp only [Option.getD_some] at this
    simp only [toI]
    exact decide_eq_true (by omega)
  have hchk : checkE s (L.map toI) = 0 := by
    unfold checkE
    rw [if_neg (by simp; omega), if_pos (hfirst _ hone), if_pos hord]
  have gen : ∀ L : List NEd, (∀ e ∈ L, e.1 ≤ e.2.1 ∧ e.2.1 ≤ s) → growE (L.map toI) = growN L ∧ costE (L.map toI) = (costN L : Nat) := by
    intro L
    induction L with
    | nil => intro _; exact ⟨rfl, rfl⟩
    | cons e l ih =>
      intro q1
      obtain ⟨i1, i2⟩ := ih (fun x hx => q1 x (by simp [hx]))
      have g1 : growE ((e :: l).map toI) = ((e.2.2.size : Int) - lenI e.1 e.2.1) + growE (l.map toI) := by simp [growE, toI]
      have g2 : costE ((e :: l).map toI) = ((e.2.2.size : Int) + lenI e.1 e.2.1) + costE (l.map toI) := by simp [costE, toI]
      have q3 := q1 e (by simp)
      rw [lenI_nat q3.1 (by omega)] at g1 g2
      rw [g1, g2, i1, i2]
      simp only [growN, costN]
      refine ⟨by first | trivial | omega, by omega⟩
  obtain ⟨g1, g2⟩ := gen L hb
  refine ⟨?_, g2, hchk⟩
  unfold fitsE
  rw [if_neg (by omega), if_pos hchk, if_neg (by rw [g1]; omega)]

/-- what a builder's write leaves: blocks that hold no bytes -/
theorem kept_row {w w' : World} {b k : Nat} {T : TypeId} (h : Lib.OthersKept 5 (some b) w w') (ht : IsT w k T) (hT : T ≠ 5) (hk : k ≠ b) : (∀ o, w'.cell? ⟨k, o, none⟩ = w.cell? ⟨k, o, none⟩) ∧ IsT w' k T := by
  obtain ⟨c, fz, hc⟩ := ht
  have h1 := h k _ hc (by simp; omega) (fun c' fz' he => by injection he with _ h2; exact hT h2)
  exact ⟨fun o => by simp only [World.cell?, h1, hc], c, fz, h1⟩
theorem builder_step {B b : Nat} {bs : List Value} {w w' : World} (h : Lib.IsBuilderF 67 5 B b bs w) (hb : Below w.heap.size w w') : Lib.IsBuilderF 67 5 B b bs w' := by
  have key : ∀ p, Lib.BuilderAtF 67 5 B b p bs w → Lib.BuilderAtF 67 5 B b p bs w' := by
    rintro p ⟨h1, v, h2, h3, h4⟩
    have hlt : b < w.heap.size := (Array.getElem?_eq_some_iff.1 h2).1
    exact ⟨h1, v, (hb.block b hlt).trans h2, h3.kept (row := none) ⟨hb.os, hb.tape, hb.output, hb.size, fun k hk _ => hb.block k hk⟩ (by cases v.ownBlock <;> simp), h4⟩
  rcases h with h | h
  · exact .inl (key _ h)
  · exact .inr (key _ h)
theorem strCells_app (s t : ByteArray) : Lib.strCells s ++ Lib.strCells t = Lib.strCells (s ++ t) := by simp [Lib.strCells]
theorem builder_lt {B b : Nat} {bs : List Value} {w : World} (h : Lib.IsBuilderF 67 5 B b bs w) : b < w.heap.size := by
  rcases h with ⟨_, v, h2, _⟩ | ⟨_, v, h2, _⟩ <;> exact (Array.getElem?_eq_some_iff.1 h2).1

theorem EditAt.of_cells {w w' : World} {G off : Nat} {l : List IEd} (h : EditAt w G off l) (hc : ∀ o, w'.cell? ⟨G, o, none⟩ = w.cell? ⟨G, o, none⟩) : EditAt w' G off l := fun i hi => by
  rw [hc, hc, hc]; exact h i hi

/-- while the text is made -/
def ApInv (w wr : World) (b G : Nat) (LL : List IEd) (t : ByteArray) : Prop :=
  Below w.heap.size w wr ∧ w.heap.size ≤ b ∧ Lib.IsBuilderF 67 5 b b (Lib.strCells t) wr ∧ EditAt wr G 0 LL ∧ IsT wr G 27 ∧ G ≠ b
theorem ApInv.alloc {w wr : World} {b G : Nat} {LL : List IEd} {t : ByteArray} (h : ApInv w wr b G LL t) (o : Obj) : ApInv w (wr.alloc o) b G LL t := by
  obtain ⟨h1, h2, h3, h4, h5, h6⟩ := h
  have hb : Below wr.heap.size wr (wr.alloc o) := (Below.refl _ _).alloc (Nat.le_refl _) _
  exact ⟨after h1 hb, h2, builder_step h3 hb, h4.below hb h5.lt, h5.step hb, h6⟩
theorem ApInv.wrote {w wr w2 : World} {b G : Nat} {LL : List IEd} {t s : ByteArray} (h : ApInv w wr b G LL t) (h1 : Lib.IsBuilderF 67 5 b b (Lib.strCells t ++ Lib.strCells s) w2) (hb : Below b wr w2) (hk : Lib.OthersKept 5 (some b) wr w2) : ApInv w w2 b G LL (t ++ s) := by
  obtain ⟨g1, g2, g3, g4, g5, g6⟩ := h
  obtain ⟨k1, k2⟩ := kept_row hk g5 (by decide) g6
  exact ⟨g1.trans (hb.mono g2), g2, by rwa [strCells_app] at h1, g4.of_cells k1, k2, g6⟩

/-- with the text's end behind them -/
def endE (s : ByteArray) (L : List NEd) : List NEd := L ++ [(s.size, s.size, ByteArray.empty)]
theorem endE_ok {s : ByteArray} {L : List NEd} (h : EdOk s.size 0 L) : EdOk s.size 0 (endE s L) := h.snoc' (h.drop L.length (Nat.le_refl _)).le (Nat.le_refl _) (Nat.le_refl _)
theorem endE_made (s : ByteArray) (L : List NEd) : madeTo s (endE s L) (L.length + 1) = pieces s 0 L := by
  unfold endE
  simp only [madeTo]
  rw [madeTo_left s L _ L.length (Nat.le_refl _), edTo_left L _ L.length (Nat.le_refl _), getD_mid]
  simp only [ByteArray.append_empty]
  exact made_all s L
theorem madeTo_succ (s : ByteArray) (L : List NEd) (k : Nat) (h : k < L.length) : madeTo s L (k + 1) = madeTo s L k ++ s.extract (edTo L k) L[k].1 ++ L[k].2.2 ∧ edTo L (k + 1) = L[k].2.1 := by
  have e : L.getD k (0, 0, ByteArray.empty) = L[k] := by rw [List.getD_eq_getElem?_getD, List.getElem?_eq_getElem h]; rfl
  constructor
  · simp only [madeTo, e]
  · simp only [edTo, e]
theorem EdOk.at' {n : Nat} {l : List NEd} (h : EdOk n 0 l) {k : Nat} (hk : k < l.length) : edTo l k ≤ l[k].1 ∧ l[k].1 ≤ l[k].2.1 ∧ l[k].2.1 ≤ n := by
  have := h.at hk
  have e : l.getD k (0, 0, ByteArray.empty) = l[k] := by rw [List.getD_eq_getElem?_getD, List.getElem?_eq_getElem hk]; rfl
  rwa [e] at this
theorem madeTo_le (s : ByteArray) (L : List NEd) (k : Nat) (h : k ≤ L.length) : (madeTo s L k).size ≤ (pieces s 0 L).size := by
  rw [← made_pieces s L k h, ByteArray.size_append]; omega
theorem endE_map (s : ByteArray) (L : List NEd) : (endE s L).map toI = L.map toI ++ [((s.size : Int), (s.size : Int), ByteArray.empty)] := by simp [endE, toI]
theorem endE_pieces (s : ByteArray) (L : List NEd) (h : EdOk s.size 0 L) : (pieces s 0 (endE s L)).size = (pieces s 0 L).size := by
  have h1 := size_pieces s L 0 h
  have h2 := size_pieces s (endE s L) 0 (endE_ok h)
  unfold endE at *
  rw [growN_append] at h2
  have e : growN [(s.size, s.size, ByteArray.empty)] = 0 := by simp [growN]
  rw [e] at h2
  omega

set_option maxHeartbeats 2000000 in
theorem apply_ok (s : ByteArray) (src : Option Addr) (n cap : Nat) (L : List NEd) (w : World) (hl : L.length = n) (hn : n ≤ 4096) (hs : s.size ≤ 65536) (hok : EdOk s.size 0 L) (hsz : (s.size : Int) + growN L ≤ 65536) (hfit : fitsE s.size (L.map toI) = 0) (ht : ∀ e ∈ L, e.2.2.size ≤ 65536) (hr : EdsIn w src (L.map toI)) :
    Calls Try.prog 11 #[.string s, .slice src n cap] w fun e w' => e = .returned (.tuple #[.string (pieces s 0 L), .int .i64 0]) ∧ Below w.heap.size w w' := by
  have FT := Lib.hid (fun w hr => fits_any s src n cap (L.map toI) w (by simpa using hl) (by unfold maxLen; omega) hr)
  have WE := Lib.hid (fun w hr => ewithEnd_any src n cap (L.map toI) (s.size : Int) w (by simpa using hl) hn hr)
  have HR := Lib.hid hr
  have HL := Lib.hid hl
  have HF := Lib.hid hfit
  clear hr hl hfit
  go_enter Try.func11, Try.ntmps11
  go_wp2_with fail
  refine (FT.out _ HR.out).mono ?_
  rw [HF.out]
  rintro e w1 ⟨rfl, h01⟩
  have H01 := Lib.hid h01
  clear h01
  go_wp2_with fail
  refine (WE.out _ (HR.out.step (after H01.out ((Below.refl _ _).alloc (Nat.le_refl _) _)))).mono ?_
  rintro e w2 ⟨rfl, h12, hsz2, hrow, hT⟩
  have hz1 : (w1.alloc (.cells #[.pointer none, .slice none 0 0] 67)).heap.size = w1.heap.size + 1 := by simp
  rw [hz1] at hsz2 hrow hT ⊢
  rw [← endE_map] at hrow
  have HI : Hid (ApInv w w2 w1.heap.size (w1.heap.size + 1) ((endE s L).map toI) (madeTo s (endE s L) 0)) := Lib.hid
    ⟨after (after H01.out ((Below.refl _ _).alloc (Nat.le_refl _) _)) h12, H01.out.size, builder_step (Lib.IsBuilderF.of (Lib.fresh_isBuilder 67 5 w1)) h12, hrow, hT, by omega⟩
  have HN := Lib.hid (show (endE s L).length = n + 1 by simp [endE, HL.out])
  have HOK := Lib.hid (endE_ok hok)
  have HPS := Lib.hid (show (pieces s 0 (endE s L)).size ≤ 65536 by have := size_pieces s L 0 hok; rw [endE_pieces s L hok]; omega)
  have HEND := Lib.hid (show madeTo s (endE s L) (n + 1) = pieces s 0 L by rw [← HL.out]; exact endE_made s L)
  have HT := Lib.hid (show ∀ e ∈ endE s L, e.2.2.size ≤ 65536 by
    intro e he
    rcases List.mem_append.1 he with he | he
    · exact ht e he
    · simp at he; subst he; simp)
  generalize hb0 : w1.heap.size = b at *
  generalize endE s L = LN at *
  clear h12 hrow hT hok ht hsz WE FT HR H01 hb0 hz1 hsz2
  go_wp2_with fail
  go_loopw [8, 22] (fun a i wr => ∃ k : Nat, k ≤ n + 1 ∧ i = .int .i64 k ∧ a = .int .i64 (edTo LN k : Nat) ∧ ApInv w wr b (b + 1) (LN.map toI) (madeTo s LN k)) (fun _ i _ => n + 1 - (intOf i).toNat)
  case atStart => exact ⟨0, Nat.zero_le _, rfl, rfl, HI.out⟩
  case round =>
    obtain ⟨k, hk, rfl, rfl, hinv⟩ := hrel
    clear HI
    have HI := Lib.hid hinv
    by_cases hlt : k < n + 1
    · have hkl : k < LN.length := by rw [HN.out]; exact hlt
      obtain ⟨c0, c1, c2⟩ := hinv.2.2.2.1 k (by simpa using hkl)
      have hbw := hinv.2.2.2.2.1.lt
      rw [toI_get] at c0 c1 c2
      obtain ⟨o1, o2, o3⟩ := HOK.out.at' hkl
      have x3s := HT.out _ (List.getElem_mem hkl)
      obtain ⟨MS0, ES0⟩ := madeTo_succ s LN k hkl
      have MS := Lib.hid MS0
      have ES := Lib.hid ES0
      clear MS0 ES0
      have mle := Nat.le_trans (madeTo_le s LN k (by omega)) HPS.out
      clear hinv
      rw [Nat.zero_add] at c0 c1 c2
      revert c0 c1 c2 o1 o2 o3 x3s MS ES
      generalize LN[k] = x
      obtain ⟨x1, x2, x3⟩ := x
      intro c0 c1 c2 o1 o2 o3 x3s MS ES
      unfold toI at c0 c1 c2
      dsimp only at c0 c1 c2 o1 o2 o3 x3s MS ES
      generalize edTo LN k = a at *
      generalize madeTo s LN k = t at *
      clear hkl
      have H2 := Lib.hid (HI.out.alloc (.cells #[.int .i64 (x1 : Int), .int .i64 (x2 : Int), .string x3] 27))
      have o4 : x1 ≤ s.size := by omega
      rename World => wo
      have o5 : (a : Int) ≤ (x1 : Int) := by omega
      have o6 : (x1 : Int) ≤ (s.size : Int) := by omega
      have z1 : (s.extract a x1).size ≤ 65536 := by rw [ByteArray.size_extract]; omega
      go_wp2_with fail
      refine (writeString_any b b (Lib.strCells t) (s.extract a x1) _ H2.out.2.2.1 (by rw [Lib.strCells_length]; omega) (by have := builder_lt H2.out.2.2.1; omega)).mono ?_
      rintro e w3 ⟨rfl, g1, g2, g3⟩
      have H3 := Lib.hid (H2.out.wrote g1 g2 g3)
      obtain ⟨q1, q2⟩ := kept_row g3 (IsT.new wo #[.int .i64 (x1 : Int), .int .i64 (x2 : Int), .string x3] 27) (by decide) (by have := builder_lt HI.out.2.2.1; omega)
      have Q2 := Lib.hid q2
      have d0 : w3.cell? ⟨wo.heap.size, 2, none⟩ = some (.string x3) := (q1 2).trans (by simp [go_sem])
      have d1 : w3.cell? ⟨wo.heap.size, 1, none⟩ = some (.int .i64 (x2 : Int)) := (q1 1).trans (by simp [go_sem])
      have z2 : (t ++ s.extract a x1).size ≤ 131072 := by rw [ByteArray.size_append]; omega
      clear g1 g2 g3 q1 q2
      go_wp2_with fail
      refine (writeString_any b b (Lib.strCells (t ++ s.extract a x1)) x3 _ H3.out.2.2.1 (by rw [Lib.strCells_length]; omega) (by have := builder_lt H3.out.2.2.1; omega)).mono ?_
      rintro e w4 ⟨rfl, g1, g2, g3⟩
      have H4 := Lib.hid (H3.out.wrote g1 g2 g3)
      obtain ⟨q1, q2⟩ := kept_row g3 Q2.out (by decide) (by have := builder_lt HI.out.2.2.1; omega)
      have e1 : w4.cell? ⟨wo.heap.size, 1, none⟩ = some (.int .i64 (x2 : Int)) := (q1 1).trans d1
      clear g1 g2 g3 q1 q2 d0 d1
      go_wp2_with fail
      go_roundw
      case rel => exact ⟨k + 1, by omega, by go_num, by rw [ES.out], by rw [MS.out]; exact H4.out⟩
      case measure => simp [intOf]; omega
    · have hk' : k = n + 1 := by omega
      subst hk'
      rw [HEND.out] at HI
      generalize hP : pieces s 0 L = P at *
      obtain ⟨pd⟩ := P
      have HP := Lib.hid hP
      clear hP
      go_wp2_with fail
      refine (Try.Builder_String_any_k b b pd.toList _ HI.out.2.2.1 (by have := builder_lt HI.out.2.2.1; omega)).mono ?_
      rintro e w3 ⟨rfl, _, g2, _⟩
      go_wp2_with fail
      go_ret2
      exact ⟨by rw [HP.out]; rfl, HI.out.1.trans (g2.mono HI.out.2.1)⟩

end Go.Proofs.Ytdhbcmbajbgblaa
