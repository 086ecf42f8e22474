/- Facts on tidy edits. -/
import Derived.Test.YtdhbcmbajbgblaaPieces
namespace Go.Proofs.Ytdhbcmbajbgblaa
set_option linter.unusedVariables false
/- tidy edits -/
/-- a text's byte, as a number -/
def by' (s : ByteArray) (k : Nat) : Nat := if h : k < s.size then (s[k]'h).toNat else 0
theorem by_one {s t : ByteArray} {i j : Nat} (hi : i < s.size) (hj : j < t.size) (h : by' s i = by' t j) : s.extract i (i + 1) = t.extract j (j + 1) := by
  unfold by' at h
  rw [dif_pos hi, dif_pos hj] at h
  rw [ByteArray.extract_add_one (by omega), ByteArray.extract_add_one (by omega), UInt8.toNat_inj.1 h]
theorem by_left {a b : ByteArray} {i : Nat} (h : i < a.size) : by' (a ++ b) i = by' a i := by
  unfold by'
  rw [dif_pos h, dif_pos (by rw [ByteArray.size_append]; omega), ByteArray.getElem_append_left h]
theorem by_right {a b : ByteArray} {i : Nat} (h : i < b.size) : by' (a ++ b) (a.size + i) = by' b i := by
  unfold by'
  rw [dif_pos h, dif_pos (by rw [ByteArray.size_append]; omega), ByteArray.getElem_append_right (by omega)]
  congr 2; omega
theorem by_extract {s : ByteArray} {i j k : Nat} (h : i + k < j) (hj : j ≤ s.size) : by' (s.extract i j) k = by' s (i + k) := by
  unfold by'
  have hz : k < (s.extract i j).size := by rw [ByteArray.size_extract]; omega
  rw [dif_pos hz, dif_pos (by omega), ByteArray.getElem_extract]

/-- an edit without some of what its ends have alike -/
def TrimOf (s : ByteArray) (e x : NEd) : Prop :=
  e.1 ≤ x.1 ∧ x.1 ≤ x.2.1 ∧ x.2.1 ≤ e.2.1 ∧ e.2.2 = s.extract e.1 x.1 ++ x.2.2 ++ s.extract x.2.1 e.2.1
/-- none of its ends is kept -/
def EndsDiffer (s : ByteArray) (e : NEd) : Prop := e.1 < e.2.1 → 0 < e.2.2.size → by' s e.1 ≠ by' e.2.2 0 ∧ by' s (e.2.1 - 1) ≠ by' e.2.2 (e.2.2.size - 1)
def Changes (e : NEd) : Prop := e.1 < e.2.1 ∨ 0 < e.2.2.size
theorem TrimOf.refl (s : ByteArray) (e : NEd) (h : e.1 ≤ e.2.1) : TrimOf s e e := ⟨Nat.le_refl _, h, Nat.le_refl _, by simp⟩
theorem TrimOf.first {s : ByteArray} {e x : NEd} (h : TrimOf s e x) (hs : e.2.1 ≤ s.size) (h1 : x.1 < x.2.1) (h2 : 0 < x.2.2.size) (h3 : by' s x.1 = by' x.2.2 0) :
    TrimOf s e (x.1 + 1, x.2.1, x.2.2.extract 1 x.2.2.size) := by
  obtain ⟨a, b, c, d⟩ := h
  refine ⟨by simp only; omega, h1, c, ?_⟩
  have e1 := by_one (show x.1 < s.size by omega) h2 h3
  rw [d]
  simp only
  rw [← ext_join s a (Nat.le_succ x.1), e1]
  conv => lhs; rw [← ByteArray.extract_zero_size (b := x.2.2), ← ext_join x.2.2 (Nat.zero_le 1) h2]
  simp only [ByteArray.append_assoc]
theorem TrimOf.last {s : ByteArray} {e x : NEd} (h : TrimOf s e x) (hs : e.2.1 ≤ s.size) (h1 : x.1 < x.2.1) (h2 : 0 < x.2.2.size) (h3 : by' s (x.2.1 - 1) = by' x.2.2 (x.2.2.size - 1)) :
    TrimOf s e (x.1, x.2.1 - 1, x.2.2.extract 0 (x.2.2.size - 1)) := by
  obtain ⟨a, b, c, d⟩ := h
  refine ⟨a, by simp only; omega, by simp only; omega, ?_⟩
  have e1 := by_one (show x.2.1 - 1 < s.size by omega) (show x.2.2.size - 1 < x.2.2.size by omega) h3
  have k1 : x.2.1 - 1 + 1 = x.2.1 := by omega
  have k2 : x.2.2.size - 1 + 1 = x.2.2.size := by omega
  rw [k1, k2] at e1
  rw [d]
  simp only
  rw [← ext_join s (show x.2.1 - 1 ≤ x.2.1 by omega) c, e1]
  conv => lhs; rw [← ByteArray.extract_zero_size (b := x.2.2), ← ext_join x.2.2 (Nat.zero_le (x.2.2.size - 1)) (by omega)]
  simp only [ByteArray.append_assoc]
theorem TrimOf.size {s : ByteArray} {e x : NEd} (h : TrimOf s e x) (hs : e.2.1 ≤ s.size) : e.2.2.size = (x.1 - e.1) + x.2.2.size + (e.2.1 - x.2.1) := by
  obtain ⟨a, b, c, d⟩ := h
  have := congrArg ByteArray.size d
  simp only [ByteArray.size_append, ByteArray.size_extract] at this
  omega
/-- what is tidy stays as it is -/
theorem TrimOf.same {s : ByteArray} {e x : NEd} (h : TrimOf s e x) (hs : e.2.1 ≤ s.size) (hd : EndsDiffer s e) : x = e := by
  have hz := h.size hs
  obtain ⟨a, b, c, d⟩ := h
  have h1 : x.1 = e.1 := by
    by_cases hq : e.1 < x.1
    · obtain ⟨n1, _⟩ := hd (by omega) (by omega)
      exact absurd (by rw [d, ByteArray.append_assoc, by_left (by rw [ByteArray.size_extract]; omega), by_extract (by omega) (by omega)]; simp) n1
    · omega
  have h2 : x.2.1 = e.2.1 := by
    by_cases hq : x.2.1 < e.2.1
    · obtain ⟨_, n2⟩ := hd (by omega) (by omega)
      refine absurd ?_ n2
      have k : e.2.2.size - 1 = (s.extract e.1 x.1 ++ x.2.2).size + (e.2.1 - x.2.1 - 1) := by
        rw [ByteArray.size_append, ByteArray.size_extract]; omega
      rw [k]
      conv => rhs; rw [d]
      rw [by_right (by rw [ByteArray.size_extract]; omega), by_extract (by omega) (by omega)]
      congr 1; omega
    · omega
  have h3 : x.2.2 = e.2.2 := by
    rw [d, h1, h2, ByteArray.extract_same, ByteArray.extract_same]; simp
  exact Prod.ext h1 (Prod.ext h2 h3)

theorem pieces_from (s : ByteArray) : ∀ (l : List NEd) {a b : Nat}, a ≤ b → EdOk s.size b l → pieces s a l = s.extract a b ++ pieces s b l
  | [], a, b, h, hk => by have hk : b ≤ s.size := hk; simp only [pieces]; rw [ext_join s h hk]
  | e :: l, a, b, h, hk => by
    have := hk.1
    simp only [pieces]
    rw [← ext_join s h this]
    simp only [ByteArray.append_assoc]
theorem EdOk.mono {n : Nat} {l : List NEd} {a b : Nat} (h : EdOk n b l) (hab : a ≤ b) : EdOk n a l := by
  cases l with
  | nil => exact Nat.le_trans hab h
  | cons e l => exact ⟨Nat.le_trans hab h.1, h.2⟩
theorem pieces_trim {s : ByteArray} {e x : NEd} {l : List NEd} {a : Nat} (h : TrimOf s e x) (ha : a ≤ e.1) (hl : EdOk s.size e.2.1 l) : pieces s a (x :: l) = pieces s a (e :: l) := by
  obtain ⟨h1, h2, h3, h4⟩ := h
  simp only [pieces]
  rw [pieces_from s l h3 hl, h4, ← ext_join s ha h1]
  simp only [ByteArray.append_assoc]
theorem pieces_none {s : ByteArray} {e : NEd} {l : List NEd} {a : Nat} (h : ¬ Changes e) (ha : a ≤ e.1) (h2 : e.1 ≤ e.2.1) (hl : EdOk s.size e.2.1 l) : pieces s a (e :: l) = pieces s a l := by
  unfold Changes at h
  have h1 : e.2.1 = e.1 := by omega
  have h3 : e.2.2 = ByteArray.empty := by
    have : e.2.2.size = 0 := by omega
    exact ByteArray.size_eq_zero_iff.1 this
  rw [pieces_from s l ha (h1 ▸ hl)]
  simp only [pieces, h1, h3]
  simp
/-- two edits as one -/
def joinE (s : ByteArray) (a b : NEd) : NEd := (a.1, b.2.1, a.2.2 ++ s.extract a.2.1 b.1 ++ b.2.2)
theorem pieces_join (s : ByteArray) (d e : NEd) (l : List NEd) (a : Nat) : pieces s a (joinE s d e :: l) = pieces s a (d :: e :: l) := by
  simp only [pieces, joinE, ByteArray.append_assoc]

theorem getD_left {D R : List NEd} {k : Nat} (h : k < D.length) : (D ++ R).getD k (0, 0, ByteArray.empty) = D.getD k (0, 0, ByteArray.empty) := by
  rw [List.getD_eq_getElem?_getD, List.getD_eq_getElem?_getD, List.getElem?_append_left h]
theorem getD_mid (D R : List NEd) (e : NEd) : (D ++ e :: R).getD D.length (0, 0, ByteArray.empty) = e := by
  rw [List.getD_eq_getElem?_getD, List.getElem?_append_right (Nat.le_refl _)]; simp
theorem edTo_left (D R : List NEd) : ∀ k, k ≤ D.length → edTo (D ++ R) k = edTo D k
  | 0, _ => rfl
  | k + 1, h => by simp only [edTo]; rw [getD_left (by omega)]
theorem madeTo_left (s : ByteArray) (D R : List NEd) : ∀ k, k ≤ D.length → madeTo s (D ++ R) k = madeTo s D k
  | 0, _ => rfl
  | k + 1, h => by simp only [madeTo]; rw [getD_left (by omega), edTo_left D R k (by omega), madeTo_left s D R k (by omega)]
theorem pieces_app (s : ByteArray) (D R : List NEd) : pieces s 0 (D ++ R) = madeTo s D D.length ++ pieces s (edTo D D.length) R := by
  rw [← made_pieces s (D ++ R) D.length (by simp), madeTo_left s D R _ (Nat.le_refl _), edTo_left D R _ (Nat.le_refl _)]
  simp
theorem edTo_snoc (D : List NEd) (e : NEd) : edTo (D ++ [e]) (D ++ [e]).length = e.2.1 := by
  simp only [List.length_append, List.length_cons, List.length_nil, Nat.zero_add, edTo]; rw [getD_mid]
theorem EdOk.snoc {n : Nat} {e : NEd} : ∀ {D : List NEd} {a : Nat}, EdOk n a D → (if D = [] then a else (D.getD (D.length - 1) (0, 0, ByteArray.empty)).2.1) ≤ e.1 → e.1 ≤ e.2.1 → e.2.1 ≤ n → EdOk n a (D ++ [e])
  | [], a, _, h1, h2, h3 => ⟨by simpa using h1, h2, h3⟩
  | d :: D, a, h, h1, h2, h3 => by
    refine ⟨h.1, h.2.1, EdOk.snoc h.2.2 ?_ h2 h3⟩
    simp only [reduceCtorEq, if_false] at h1
    by_cases hD : D = []
    · subst hD; simpa using h1
    · rw [if_neg hD]
      have : D.length ≠ 0 := by simpa using hD
      obtain ⟨m, hm⟩ := Nat.exists_eq_succ_of_ne_zero this
      have e1 : (d :: D).length - 1 = m + 1 := by simp [hm]
      have e2 : D.length - 1 = m := by omega
      rw [e1] at h1
      rw [e2]
      simpa using h1
theorem edTo_last (D : List NEd) : edTo D D.length = if D = [] then 0 else (D.getD (D.length - 1) (0, 0, ByteArray.empty)).2.1 := by
  cases D with
  | nil => rfl
  | cons d D => simp [edTo]
theorem EdOk.snoc' {n : Nat} {D : List NEd} {e : NEd} (h : EdOk n 0 D) (h1 : edTo D D.length ≤ e.1) (h2 : e.1 ≤ e.2.1) (h3 : e.2.1 ≤ n) : EdOk n 0 (D ++ [e]) :=
  EdOk.snoc h (by rwa [← edTo_last]) h2 h3
theorem EdOk.left {n : Nat} : ∀ {D R : List NEd} {a : Nat}, EdOk n a (D ++ R) → EdOk n a D
  | [], R, a, h => h.le
  | d :: D, R, a, h => ⟨h.1, h.2.1, EdOk.left h.2.2⟩
theorem EdOk.app {n : Nat} : ∀ {D R : List NEd} {a : Nat}, EdOk n a D → EdOk n (if D = [] then a else (D.getD (D.length - 1) (0, 0, ByteArray.empty)).2.1) R → EdOk n a (D ++ R)
  | [], R, a, h, h1 => by simpa using h1
  | d :: D, R, a, h, h1 => by
    refine ⟨h.1, h.2.1, EdOk.app h.2.2 ?_⟩
    simp only [reduceCtorEq, if_false] at h1
    by_cases hD : D = []
    · subst hD; simpa using h1
    · rw [if_neg hD]
      have : D.length ≠ 0 := by simpa using hD
      obtain ⟨m, hm⟩ := Nat.exists_eq_succ_of_ne_zero this
      have e1 : (d :: D).length - 1 = m + 1 := by simp [hm]
      have e2 : D.length - 1 = m := by omega
      rw [e1] at h1
      rw [e2]
      simpa using h1

/-- edits that are tidy: each changes something and keeps none of its ends, and each ends ahead of the next one's beginning -/
def TidyL (s : ByteArray) (D : List NEd) : Prop :=
  (∀ k, k < D.length → Changes (D.getD k (0, 0, ByteArray.empty)) ∧ EndsDiffer s (D.getD k (0, 0, ByteArray.empty))) ∧
  ∀ k, k + 1 < D.length → (D.getD k (0, 0, ByteArray.empty)).2.1 < (D.getD (k + 1) (0, 0, ByteArray.empty)).1
theorem TidyL.nil (s : ByteArray) : TidyL s [] := ⟨fun k h => absurd h (by simp), fun k h => absurd h (by simp)⟩
theorem TidyL.snoc {s : ByteArray} {D : List NEd} {e : NEd} (h : TidyL s D) (h1 : Changes e) (h2 : EndsDiffer s e) (h3 : D = [] ∨ edTo D D.length < e.1) : TidyL s (D ++ [e]) := by
  refine ⟨fun k hk => ?_, fun k hk => ?_⟩
  · by_cases hlt : k < D.length
    · rw [getD_left hlt]; exact h.1 k hlt
    · have hk' : k = D.length := by simp at hk; omega
      subst hk'
      rw [getD_mid]; exact ⟨h1, h2⟩
  · have hk0 : k < D.length := by simp at hk; omega
    rw [getD_left hk0]
    by_cases hlt : k + 1 < D.length
    · rw [getD_left hlt]; exact h.2 k hlt
    · have hk' : k + 1 = D.length := by omega
      rw [hk', getD_mid]
      rcases h3 with rfl | h3
      · simp at hk0
      · rw [← hk'] at h3; exact h3
theorem TidyL.left {s : ByteArray} {D R : List NEd} (h : TidyL s (D ++ R)) : TidyL s D := by
  refine ⟨fun k hk => ?_, fun k hk => ?_⟩
  · have := h.1 k (by simp; omega); rwa [getD_left hk] at this
  · have := h.2 k (by simp; omega); rwa [getD_left (by omega), getD_left hk] at this

/-- what has been tidied so far, and what is left -/
structure TidyInv (s : ByteArray) (l : List NEd) (k : Nat) (D : List NEd) : Prop where
  ok : EdOk s.size 0 D
  to : edTo D D.length ≤ edTo l k
  tidy : TidyL s D
  does : pieces s 0 (D ++ l.drop k) = pieces s 0 l
  cost : costN D ≤ costN (l.take k)
  few : D.length ≤ k
  same : TidyL s l → D = l.take k
theorem TidyInv.start (s : ByteArray) (l : List NEd) : TidyInv s l 0 [] := ⟨Nat.zero_le _, Nat.le_refl _, TidyL.nil s, by simp, by simp [costN], Nat.le_refl _, fun _ => by simp⟩
theorem costN_snoc (D : List NEd) (e : NEd) : costN (D ++ [e]) = costN D + (e.2.2.size + (e.2.1 - e.1)) := by rw [costN_append]; simp [costN]
theorem take_snoc {l : List NEd} {k : Nat} (hk : k < l.length) : l.take (k + 1) = l.take k ++ [l.getD k (0, 0, ByteArray.empty)] := by
  rw [List.take_succ_eq_append_getElem hk, List.getD_eq_getElem?_getD, List.getElem?_eq_getElem hk]; rfl
theorem TidyL.at {s : ByteArray} {l : List NEd} (h : TidyL s l) {k : Nat} (hk : k < l.length) : k = 0 ∨ edTo l k < (l.getD k (0, 0, ByteArray.empty)).1 := by
  cases k with
  | zero => exact .inl rfl
  | succ k => exact .inr (h.2 k hk)
/-- one more that changes something, and begins behind the one ahead -/
theorem TidyInv.add {s : ByteArray} {l D : List NEd} {k : Nat} {x : NEd} (h : TidyInv s l k D) (hl : EdOk s.size 0 l) (hk : k < l.length) (ht : TrimOf s (l.getD k (0, 0, ByteArray.empty)) x)
    (hd : EndsDiffer s x) (hc : Changes x) (ha : D = [] ∨ edTo D D.length ≠ x.1) : TidyInv s l (k + 1) (D ++ [x]) := by
  obtain ⟨l1, l2, l3⟩ := hl.at hk
  have hdr := hl.drop (k + 1) (by omega)
  have hz := ht.size l3
  have hto : edTo D D.length ≤ (l.getD k (0, 0, ByteArray.empty)).1 := Nat.le_trans h.to l1
  have e1 := pieces_trim (a := edTo D D.length) ht hto hdr
  have e2 := getD_drop hk
  have e3 := take_snoc hk
  have hx : edTo l (k + 1) = (l.getD k (0, 0, ByteArray.empty)).2.1 := rfl
  obtain ⟨t1, t2, t3, t4⟩ := id ht
  refine ⟨h.ok.snoc' (by omega) t2 (by omega), ?_, h.tidy.snoc hc hd ?_, ?_, ?_, ?_, ?_⟩
  · rw [edTo_snoc, hx]; exact t3
  · rcases ha with ha | ha
    · exact .inl ha
    · exact .inr (by omega)
  · rw [List.append_assoc, pieces_app]
    show madeTo s D D.length ++ pieces s (edTo D D.length) (x :: l.drop (k + 1)) = _
    rw [e1, ← e2, ← pieces_app]
    exact h.does
  · rw [costN_snoc, e3, costN_snoc]; have := h.cost; omega
  · have := h.few; simp; omega
  · intro hT
    have hx : x = l.getD k (0, 0, ByteArray.empty) := ht.same l3 (hT.1 k hk).2
    rw [e3, hx, h.same hT]
/-- one that changes nothing -/
theorem TidyInv.none {s : ByteArray} {l D : List NEd} {k : Nat} {x : NEd} (h : TidyInv s l k D) (hl : EdOk s.size 0 l) (hk : k < l.length) (ht : TrimOf s (l.getD k (0, 0, ByteArray.empty)) x)
    (hd : EndsDiffer s x) (hc : ¬ Changes x) : TidyInv s l (k + 1) D := by
  obtain ⟨l1, l2, l3⟩ := hl.at hk
  have hdr := hl.drop (k + 1) (by omega)
  have hz := ht.size l3
  have hto : edTo D D.length ≤ (l.getD k (0, 0, ByteArray.empty)).1 := Nat.le_trans h.to l1
  have e1 := pieces_trim (a := edTo D D.length) ht hto hdr
  have e2 := getD_drop hk
  have e3 := take_snoc hk
  have hx : edTo l (k + 1) = (l.getD k (0, 0, ByteArray.empty)).2.1 := rfl
  obtain ⟨t1, t2, t3, t4⟩ := id ht
  have e4 := pieces_none (a := edTo D D.length) hc (by omega) t2 (hdr.mono (by rw [hx]; exact t3))
  refine ⟨h.ok, by rw [hx]; omega, h.tidy, ?_, ?_, ?_, ?_⟩
  · rw [pieces_app, ← e4, e1, ← e2, ← pieces_app]; exact h.does
  · rw [e3, costN_snoc]; have := h.cost; omega
  · have := h.few; omega
  · intro hT
    have hx : x = l.getD k (0, 0, ByteArray.empty) := ht.same l3 (hT.1 k hk).2
    exact absurd (hx ▸ (hT.1 k hk).1) hc
/-- one that begins where the one ahead of it ends: the one made of both changes something, -/
theorem TidyInv.join {s : ByteArray} {l D : List NEd} {k : Nat} {d x y : NEd} (h : TidyInv s l k (D ++ [d])) (hl : EdOk s.size 0 l) (hk : k < l.length) (ht : TrimOf s (l.getD k (0, 0, ByteArray.empty)) x)
    (hd : EndsDiffer s x) (he : d.2.1 = x.1) (hy : TrimOf s (joinE s d x) y) (hdy : EndsDiffer s y) :
    (Changes y → TidyInv s l (k + 1) (D ++ [y])) ∧ (¬ Changes y → TidyInv s l (k + 1) D) := by
  obtain ⟨l1, l2, l3⟩ := hl.at hk
  have hdr := hl.drop (k + 1) (by omega)
  have hz := ht.size l3
  have e2 := getD_drop hk
  have e3 := take_snoc hk
  have hx : edTo l (k + 1) = (l.getD k (0, 0, ByteArray.empty)).2.1 := rfl
  have hok := h.ok
  have hdk := hok.at (k := D.length) (by simp)
  rw [getD_mid, edTo_left D [d] _ (Nat.le_refl _)] at hdk
  obtain ⟨d1, d2, d3⟩ := hdk
  have hto := h.to
  rw [edTo_snoc] at hto
  obtain ⟨t1, t2, t3, t4⟩ := id ht
  have j1 : (joinE s d x).1 = d.1 := rfl
  have j2 : (joinE s d x).2.1 = x.2.1 := rfl
  have hyz := hy.size (by rw [j2]; omega)
  have jz : (joinE s d x).2.2.size = d.2.2.size + x.2.2.size := by
    simp only [joinE, ByteArray.size_append, ByteArray.size_extract]; omega
  obtain ⟨y1, y2, y3, y4⟩ := id hy
  rw [j1] at y1 hyz
  rw [j2] at y3 hyz
  have hdrx : EdOk s.size x.2.1 (l.drop (k + 1)) := hdr.mono (by rw [hx]; exact t3)
  have P : madeTo s D D.length ++ pieces s (edTo D D.length) (y :: l.drop (k + 1)) = pieces s 0 l := by
    rw [pieces_trim hy d1 (by rw [j2]; exact hdrx), pieces_join]
    have a1 : pieces s (edTo D D.length) (d :: x :: l.drop (k + 1)) = pieces s (edTo D D.length) (d :: l.drop k) := by
      simp only [pieces]
      rw [e2]
      have := pieces_trim (a := d.2.1) ht (by omega) hdr
      simp only [pieces] at this
      rw [this]
      rfl
    rw [a1, ← pieces_app, ← h.does]
    simp
  have hne : ¬ TidyL s l := by
    intro hT
    have h1 := h.same hT
    have hx' : x = l.getD k (0, 0, ByteArray.empty) := ht.same l3 (hT.1 k hk).2
    have hlen : D.length + 1 = k := by
      have := congrArg List.length h1
      simp at this; omega
    have h2 : edTo (D ++ [d]) (D ++ [d]).length = edTo l k := by
      have : edTo (l.take k ++ l.drop k) (l.take k).length = edTo (l.take k) (l.take k).length := edTo_left _ _ _ (Nat.le_refl _)
      rw [List.take_append_drop, List.length_take, Nat.min_eq_left (by omega)] at this
      rw [h1, this, List.length_take, Nat.min_eq_left (by omega)]
    rw [edTo_snoc] at h2
    rcases hT.at hk with h0 | h0
    · omega
    · rw [← hx'] at h0; omega
  have hcost := h.cost
  rw [costN_snoc] at hcost
  have hfew := h.few
  simp at hfew
  have hD : EdOk s.size 0 D := hok.left
  constructor
  · intro hc
    refine ⟨hD.snoc' (by omega) y2 (by omega), ?_, h.tidy.left.snoc hc hdy ?_, ?_, ?_, ?_, fun hT => absurd hT hne⟩
    · rw [edTo_snoc, hx]; omega
    · by_cases hDn : D = []
      · exact .inl hDn
      · right
        have hT := h.tidy.2 (D.length - 1) (by have : D.length ≠ 0 := by simpa using hDn
                                               simp; omega)
        have k1 : D.length - 1 + 1 = D.length := by have : D.length ≠ 0 := by simpa using hDn
                                                    omega
        rw [k1, getD_mid, getD_left (by omega)] at hT
        rw [edTo_last, if_neg hDn]; omega
    · rw [List.append_assoc, pieces_app]; exact P
    · rw [costN_snoc, e3, costN_snoc]; omega
    · simp; omega
  · intro hc
    refine ⟨hD, ?_, h.tidy.left, ?_, ?_, by omega, fun hT => absurd hT hne⟩
    · rw [hx]; omega
    · rw [pieces_app, ← pieces_none hc (by omega) y2 (hdrx.mono y3)]; exact P
    · rw [e3, costN_snoc]; omega
/-- all of them -/
theorem TidyInv.done {s : ByteArray} {l D : List NEd} (h : TidyInv s l l.length D) : EdOk s.size 0 D ∧ TidyL s D ∧ pieces s 0 D = pieces s 0 l ∧ costN D ≤ costN l ∧ D.length ≤ l.length ∧ (TidyL s l → D = l) := by
  have h1 := h.does
  have h2 := h.cost
  have h3 := h.same
  rw [List.drop_length] at h1
  rw [List.take_length] at h2 h3
  exact ⟨h.ok, h.tidy, by simpa using h1, h2, h.few, h3⟩
end Go.Proofs.Ytdhbcmbajbgblaa
