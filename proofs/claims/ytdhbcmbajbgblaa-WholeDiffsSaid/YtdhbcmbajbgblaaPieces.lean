/- Edits over natural numbers: what they make of a text, and the edits that take them back. -/
import Derived.Test.YtdhbcmbajbgblaaRows
namespace Go.Proofs.Ytdhbcmbajbgblaa
set_option linter.unusedVariables false
/- edits over natural numbers: where each begins, where it ends, what stands there then -/
abbrev NEd := Nat × Nat × ByteArray

/-- may edits be made behind a place of a text of so many bytes, one behind the other? -/
def EdOk (n : Nat) : Nat → List NEd → Prop
  | a, [] => a ≤ n
  | a, e :: l => a ≤ e.1 ∧ e.1 ≤ e.2.1 ∧ EdOk n e.2.1 l
theorem EdOk.le {n : Nat} : ∀ {l : List NEd} {a : Nat}, EdOk n a l → a ≤ n
  | [], _, h => h
  | e :: l, a, h => by have := EdOk.le h.2.2; have := h.1; have := h.2.1; omega

/-- what stands behind a place once the edits are made -/
def pieces (s : ByteArray) : Nat → List NEd → ByteArray
  | a, [] => s.extract a s.size
  | a, e :: l => s.extract a e.1 ++ e.2.2 ++ pieces s e.2.1 l

/-- how much longer edits make a text -/
def growN : List NEd → Int
  | [] => 0
  | e :: l => (e.2.2.size : Int) - ((e.2.1 : Int) - e.1) + growN l
/-- what they cost -/
def costN : List NEd → Nat
  | [] => 0
  | e :: l => e.2.2.size + (e.2.1 - e.1) + costN l
theorem growN_append (l r : List NEd) : growN (l ++ r) = growN l + growN r := by
  induction l with
  | nil => simp [growN]
  | cons e l ih => simp only [List.cons_append, growN, ih]; omega
theorem costN_append (l r : List NEd) : costN (l ++ r) = costN l + costN r := by
  induction l with
  | nil => simp [costN]
  | cons e l ih => simp only [List.cons_append, costN, ih]; omega

theorem size_pieces (s : ByteArray) : ∀ (l : List NEd) (a : Nat), EdOk s.size a l → ((pieces s a l).size : Int) = (s.size : Int) - a + growN l := by
  intro l
  induction l with
  | nil => intro a h; have h : a ≤ s.size := h; simp only [pieces, growN, ByteArray.size_extract]; omega
  | cons e l ih =>
    intro a h
    obtain ⟨h1, h2, h3⟩ := h
    have := ih _ h3
    have := h3.le
    simp only [pieces, growN, ByteArray.size_append, ByteArray.size_extract]
    omega

/-- the edits by which the text comes back -/
def invFrom (s : ByteArray) : Int → List NEd → List NEd
  | _, [] => []
  | g, e :: l => (((e.1 : Int) + g).toNat, ((e.1 : Int) + g).toNat + e.2.2.size, s.extract e.1 e.2.1) :: invFrom s (g + ((e.2.2.size : Int) - ((e.2.1 : Int) - e.1))) l
theorem invFrom_len (s : ByteArray) : ∀ (l : List NEd) (g : Int), (invFrom s g l).length = l.length
  | [], _ => rfl
  | e :: l, g => by simp [invFrom, invFrom_len s l]
theorem invFrom_get (s : ByteArray) : ∀ (l : List NEd) (g : Int) (i : Nat) (h : i < l.length),
    (invFrom s g l)[i]? = some ((((l[i]).1 : Int) + (g + growN (l.take i))).toNat, (((l[i]).1 : Int) + (g + growN (l.take i))).toNat + (l[i]).2.2.size, s.extract (l[i]).1 (l[i]).2.1)
  | e :: l, g, 0, h => by simp [invFrom, growN]
  | e :: l, g, i + 1, h => by
    have := invFrom_get s l (g + ((e.2.2.size : Int) - ((e.2.1 : Int) - e.1))) i (by simpa using h)
    simp only [invFrom, List.getElem?_cons_succ, List.getElem_cons_succ, List.take_succ_cons, growN]
    rw [this]
    have e1 : g + ((e.2.2.size : Int) - ((e.2.1 : Int) - e.1)) + growN (l.take i) = g + ((e.2.2.size : Int) - ((e.2.1 : Int) - e.1) + growN (l.take i)) := by omega
    rw [e1]

theorem cut_two {s A B : ByteArray} {p : Nat} (hp : p ≤ s.size) (h : s.extract p s.size = A ++ B) :
    s.extract p (p + A.size) = A ∧ s.extract (p + A.size) s.size = B ∧ p + A.size ≤ s.size ∧ s.size = p + A.size + B.size := by
  have hsz : s.size - p = A.size + B.size := by
    have := congrArg ByteArray.size h
    simp only [ByteArray.size_append, ByteArray.size_extract] at this
    omega
  have e1 : (s.extract p s.size).extract 0 A.size = s.extract p (p + A.size) := by
    rw [ByteArray.extract_extract]; congr 1; omega
  have e2 : (s.extract p s.size).extract A.size (A.size + B.size) = s.extract (p + A.size) s.size := by
    rw [ByteArray.extract_extract]; congr 1; omega
  refine ⟨?_, ?_, by omega, by omega⟩
  · rw [← e1, h, ByteArray.extract_append_eq_left rfl]
  · rw [← e2, h, ByteArray.extract_append_eq_right rfl rfl]

theorem ext_join (s : ByteArray) {i j k : Nat} (h1 : i ≤ j) (h2 : j ≤ k) : s.extract i j ++ s.extract j k = s.extract i k := by
  rw [ByteArray.extract_append_extract]; congr 1 <;> omega

theorem inv_all (s s' : ByteArray) : ∀ (l : List NEd) (a p : Nat), EdOk s.size a l → p ≤ s'.size → s'.extract p s'.size = pieces s a l →
    EdOk s'.size p (invFrom s ((p : Int) - a) l) ∧ pieces s' p (invFrom s ((p : Int) - a) l) = s.extract a s.size ∧
    invFrom s' ((a : Int) - p) (invFrom s ((p : Int) - a) l) = l ∧ costN (invFrom s ((p : Int) - a) l) = costN l := by
  intro l
  induction l with
  | nil =>
    intro a p h hp he
    exact ⟨hp, by simpa [invFrom, pieces] using he, rfl, rfl⟩
  | cons e l ih =>
    intro a p h hp he
    obtain ⟨h1, h2, h3⟩ := h
    have hle := h3.le
    simp only [pieces] at he
    obtain ⟨c1, c2, c3, c4⟩ := cut_two hp (show s'.extract p s'.size = s.extract a e.1 ++ (e.2.2 ++ pieces s e.2.1 l) by rw [he, ByteArray.append_assoc])
    have hA : (s.extract a e.1).size = e.1 - a := by rw [ByteArray.size_extract]; omega
    rw [hA] at c1 c2 c3 c4
    obtain ⟨d1, d2, d3, d4⟩ := cut_two c3 c2
    have f : ((e.1 : Int) + ((p : Int) - a)).toNat = p + (e.1 - a) := by omega
    have g : (p : Int) - a + ((e.2.2.size : Int) - ((e.2.1 : Int) - e.1)) = ((p + (e.1 - a) + e.2.2.size : Nat) : Int) - (e.2.1 : Nat) := by omega
    obtain ⟨i1, i2, i3, i4⟩ := ih e.2.1 (p + (e.1 - a) + e.2.2.size) h3 d3 d2
    simp only [invFrom, f, g]
    have hX : (s.extract e.1 e.2.1).size = e.2.1 - e.1 := by rw [ByteArray.size_extract]; omega
    refine ⟨⟨by simp only; omega, by simp only; omega, i1⟩, ?_, ?_, ?_⟩
    · simp only [pieces, i2, c1]
      rw [ext_join s h1 h2, ext_join s (by omega) hle]
    · have k1 : (((p + (e.1 - a) : Nat) : Int) + ((a : Int) - p)).toNat = e.1 := by omega
      have k2 : (a : Int) - p + (((s.extract e.1 e.2.1).size : Int) - (((p + (e.1 - a) + e.2.2.size : Nat) : Int) - ((p + (e.1 - a) : Nat) : Int))) = (e.2.1 : Int) - ((p + (e.1 - a) + e.2.2.size : Nat) : Int) := by rw [hX]; omega
      have k3 : e.1 + (e.2.1 - e.1) = e.2.1 := by omega
      simp only [k1, d1]
      rw [k2, i3, hX, k3]
    · simp only [costN, i4, hX]; omega

/-- taken back: the text again, and the edits again -/
theorem inv_back (s : ByteArray) (l : List NEd) (h : EdOk s.size 0 l) :
    EdOk (pieces s 0 l).size 0 (invFrom s 0 l) ∧ pieces (pieces s 0 l) 0 (invFrom s 0 l) = s ∧ invFrom (pieces s 0 l) 0 (invFrom s 0 l) = l ∧ costN (invFrom s 0 l) = costN l := by
  have := inv_all s (pieces s 0 l) l 0 0 h (Nat.zero_le _) ByteArray.extract_zero_size
  simpa using this

/-- where the first k of some edits end -/
def edTo (l : List NEd) : Nat → Nat
  | 0 => 0
  | k + 1 => (l.getD k (0, 0, ByteArray.empty)).2.1
/-- what is made with the first k of them, as far as they go -/
def madeTo (s : ByteArray) (l : List NEd) : Nat → ByteArray
  | 0 => ByteArray.empty
  | k + 1 => madeTo s l k ++ s.extract (edTo l k) (l.getD k (0, 0, ByteArray.empty)).1 ++ (l.getD k (0, 0, ByteArray.empty)).2.2
theorem getD_drop {l : List NEd} {k : Nat} (h : k < l.length) : l.drop k = l.getD k (0, 0, ByteArray.empty) :: l.drop (k + 1) := by
  rw [List.getD_eq_getElem?_getD, List.getElem?_eq_getElem h]
  exact List.drop_eq_getElem_cons h
theorem made_pieces (s : ByteArray) (l : List NEd) : ∀ k, k ≤ l.length → madeTo s l k ++ pieces s (edTo l k) (l.drop k) = pieces s 0 l := by
  intro k
  induction k with
  | zero => intro _; simp [madeTo, edTo]
  | succ k ih =>
    intro h
    rw [← ih (by omega), getD_drop (show k < l.length by omega)]
    simp only [madeTo, pieces, edTo, ByteArray.append_assoc]
theorem made_all (s : ByteArray) (l : List NEd) : madeTo s l l.length ++ s.extract (edTo l l.length) s.size = pieces s 0 l := by
  have := made_pieces s l l.length (Nat.le_refl _)
  rwa [List.drop_length] at this
/-- the rest of edits that may be made may be, too -/
theorem EdOk.drop {n : Nat} {l : List NEd} (h : EdOk n 0 l) : ∀ k, k ≤ l.length → EdOk n (edTo l k) (l.drop k) := by
  intro k
  induction k with
  | zero => intro _; simpa [edTo] using h
  | succ k ih =>
    intro hk
    have := ih (by omega)
    rw [getD_drop (show k < l.length by omega)] at this
    exact this.2.2
theorem EdOk.at {n : Nat} {l : List NEd} (h : EdOk n 0 l) {k : Nat} (hk : k < l.length) :
    edTo l k ≤ (l.getD k (0, 0, ByteArray.empty)).1 ∧ (l.getD k (0, 0, ByteArray.empty)).1 ≤ (l.getD k (0, 0, ByteArray.empty)).2.1 ∧ (l.getD k (0, 0, ByteArray.empty)).2.1 ≤ n := by
  have := h.drop k (by omega)
  rw [getD_drop hk] at this
  exact ⟨this.1, this.2.1, this.2.2.le⟩

/-- from the last one on: what the text is once those from k on are made -/
def lastTo (s : ByteArray) (l : List NEd) (k : Nat) : ByteArray := s.extract 0 (edTo l k) ++ pieces s (edTo l k) (l.drop k)
theorem lastTo_all (s : ByteArray) (l : List NEd) (h : EdOk s.size 0 l) : lastTo s l l.length = s := by
  have := (h.drop l.length (Nat.le_refl _)).le
  unfold lastTo
  rw [List.drop_length]
  simp only [pieces]
  rw [ext_join s (Nat.zero_le _) this, ByteArray.extract_zero_size]
theorem lastTo_zero (s : ByteArray) (l : List NEd) : lastTo s l 0 = pieces s 0 l := by
  unfold lastTo
  simp [edTo]
theorem lastTo_step (s : ByteArray) (l : List NEd) (h : EdOk s.size 0 l) (k : Nat) (hk : k < l.length) :
    (lastTo s l (k + 1)).extract 0 (l.getD k (0, 0, ByteArray.empty)).1 ++ (l.getD k (0, 0, ByteArray.empty)).2.2 ++ (lastTo s l (k + 1)).extract (l.getD k (0, 0, ByteArray.empty)).2.1 (lastTo s l (k + 1)).size = lastTo s l k := by
  obtain ⟨h1, h2, h3⟩ := h.at hk
  have e : lastTo s l k = s.extract 0 (edTo l k) ++ (s.extract (edTo l k) (l.getD k (0, 0, ByteArray.empty)).1 ++ (l.getD k (0, 0, ByteArray.empty)).2.2 ++ pieces s (l.getD k (0, 0, ByteArray.empty)).2.1 (l.drop (k + 1))) := by
    unfold lastTo; rw [getD_drop hk]; rfl
  have e2 : lastTo s l (k + 1) = s.extract 0 (l.getD k (0, 0, ByteArray.empty)).2.1 ++ pieces s (l.getD k (0, 0, ByteArray.empty)).2.1 (l.drop (k + 1)) := rfl
  rw [e, e2]
  generalize l.getD k (0, 0, ByteArray.empty) = x at *
  generalize pieces s x.2.1 (l.drop (k + 1)) = R at *
  have z : (s.extract 0 x.2.1).size = x.2.1 := by rw [ByteArray.size_extract]; omega
  have c1 : (s.extract 0 x.2.1 ++ R).extract 0 x.1 = s.extract 0 x.1 := by
    rw [ByteArray.extract_append, z, ByteArray.extract_extract]
    have a1 : min (0 + x.1) x.2.1 = x.1 := by omega
    have a2 : 0 - x.2.1 = 0 := by omega
    have a3 : x.1 - x.2.1 = 0 := by omega
    rw [a1, a2, a3, ByteArray.extract_same]
    simp
  have c2 : (s.extract 0 x.2.1 ++ R).extract x.2.1 (s.extract 0 x.2.1 ++ R).size = R := by
    rw [ByteArray.extract_append_eq_right (by rw [z]) (by rw [ByteArray.size_append])]
  rw [c1, c2, ← ext_join s (Nat.zero_le _) h1]
  simp only [ByteArray.append_assoc]
end Go.Proofs.Ytdhbcmbajbgblaa
