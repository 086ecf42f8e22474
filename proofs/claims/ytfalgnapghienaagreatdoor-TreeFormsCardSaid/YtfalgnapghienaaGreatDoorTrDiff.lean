/- Where two texts differ, without a program: a type with a mark is written unlike the same without marks, whatever stands behind. -/
import Derived.Test.YtfalgnapghienaaGreatDoorTrForm
namespace Go.Proofs.YtfalgnapghienaaGreatDoor
set_option linter.unusedVariables false
set_option linter.unusedSimpArgs false

/-- two texts have unlike bytes at a place that both have -/
def Differ (s t : ByteArray) : Prop := ∃ i, i < s.size ∧ i < t.size ∧ byS s i ≠ byS t i
theorem Differ.ne {s t : ByteArray} (h : Differ s t) : s ≠ t := by
  intro e
  obtain ⟨i, -, -, hi⟩ := h
  exact hi (by rw [e])
theorem Differ.right {s t : ByteArray} (h : Differ s t) (x y : ByteArray) : Differ (s ++ x) (t ++ y) := by
  obtain ⟨i, h1, h2, h3⟩ := h
  exact ⟨i, by rw [ByteArray.size_append]; omega, by rw [ByteArray.size_append]; omega, by rw [byS_app, byS_app, if_pos h1, if_pos h2]; exact h3⟩
theorem Differ.left {s t : ByteArray} (h : Differ s t) (w : ByteArray) : Differ (w ++ s) (w ++ t) := by
  obtain ⟨i, h1, h2, h3⟩ := h
  refine ⟨w.size + i, by rw [ByteArray.size_append]; omega, by rw [ByteArray.size_append]; omega, ?_⟩
  rw [byS_app, byS_app, if_neg (by omega), if_neg (by omega), Nat.add_sub_cancel_left]
  exact h3
theorem Differ.first {s t : ByteArray} (hs : 0 < s.size) (ht : 0 < t.size) (h : byS s 0 ≠ byS t 0) : Differ s t := ⟨0, hs, ht, h⟩

/-- what is written in Option<..> differs from what begins with it, and goes on with a bracket or a blank -/
theorem option_differ (b z r r' : ByteArray) (hr : 0 < r.size) (hc : byS r 0 = 91 ∨ byS r 0 = 32 ∨ byS r 0 = 41) :
    Differ ((⟨#[79, 112, 116, 105, 111, 110, 60]⟩ : ByteArray) ++ (b ++ z) ++ r') (b ++ r) := by
  apply Classical.byContradiction
  intro hno
  have hP : (⟨#[79, 112, 116, 105, 111, 110, 60]⟩ : ByteArray).size = 7 := rfl
  have hsz : ((⟨#[79, 112, 116, 105, 111, 110, 60]⟩ : ByteArray) ++ (b ++ z) ++ r').size = 7 + (b.size + z.size) + r'.size := by
    rw [ByteArray.size_append, ByteArray.size_append, ByteArray.size_append, hP]
  have same : ∀ i, i < b.size + r.size → i < 7 + (b.size + z.size) + r'.size → byS ((⟨#[79, 112, 116, 105, 111, 110, 60]⟩ : ByteArray) ++ (b ++ z) ++ r') i = byS (b ++ r) i := by
    intro i h1 h2
    apply Classical.byContradiction
    intro hne
    exact hno ⟨i, by omega, by rw [ByteArray.size_append]; omega, hne⟩
  have tchar : ∀ i, i < 7 + b.size → byS ((⟨#[79, 112, 116, 105, 111, 110, 60]⟩ : ByteArray) ++ (b ++ z) ++ r') i = if i < 7 then byS (⟨#[79, 112, 116, 105, 111, 110, 60]⟩ : ByteArray) i else byS b (i - 7) := by
    intro i hi
    rw [byS_app, if_pos (by rw [ByteArray.size_append, ByteArray.size_append, hP]; omega), byS_app, hP]
    split
    · rfl
    · rw [byS_app, if_pos (by omega)]
  have echar : ∀ i, i < b.size → byS (b ++ r) i = byS b i := fun i hi => by rw [byS_app, if_pos hi]
  have letters : ∀ i, i < 7 → byS (⟨#[79, 112, 116, 105, 111, 110, 60]⟩ : ByteArray) i ≠ 91 ∧ byS (⟨#[79, 112, 116, 105, 111, 110, 60]⟩ : ByteArray) i ≠ 32 ∧ byS (⟨#[79, 112, 116, 105, 111, 110, 60]⟩ : ByteArray) i ≠ 41 := by
    intro i hi
    have : i = 0 ∨ i = 1 ∨ i = 2 ∨ i = 3 ∨ i = 4 ∨ i = 5 ∨ i = 6 := by omega
    rcases this with rfl | rfl | rfl | rfl | rfl | rfl | rfl <;> decide
  have inb : ∀ i, i < b.size → byS b i ≠ 91 ∧ byS b i ≠ 32 ∧ byS b i ≠ 41 := by
    intro i
    induction i using Nat.strongRecOn with
    | _ i ih =>
      intro hi
      have h1 := same i (by omega) (by omega)
      rw [tchar i (by omega), echar i hi] at h1
      by_cases h7 : i < 7
      · rw [if_pos h7] at h1; rw [← h1]; exact letters i h7
      · rw [if_neg h7] at h1; rw [← h1]; exact ih (i - 7) (by omega) (by omega)
  have h1 := same b.size (by omega) (by omega)
  rw [tchar b.size (by omega), show byS (b ++ r) b.size = byS r 0 by rw [byS_app, if_neg (by omega), Nat.sub_self]] at h1
  by_cases h7 : b.size < 7
  · rw [if_pos h7] at h1
    have := letters b.size h7
    omega
  · rw [if_neg h7] at h1
    have := inb (b.size - 7) (by omega)
    omega

/-- so many blanks -/
def blankT (n : Nat) : ByteArray := ⟨(List.replicate n 32).toArray⟩
theorem blankT_by (n i : Nat) (h : i < n) : byS (blankT n) i = 32 := by
  rw [byS_list]
  show (((List.replicate n (32 : UInt8))[i]?).map UInt8.toNat).getD 0 = 32
  rw [List.getElem?_replicate, if_pos h]; rfl
theorem app_assoc3 (a b c : ByteArray) : a ++ b ++ c = a ++ (b ++ c) := ByteArray.append_assoc
theorem br_size : (⟨#[91, 93]⟩ : ByteArray).size = 2 := rfl
theorem nil_app (a : ByteArray) : a ++ (⟨#[]⟩ : ByteArray) = a := ByteArray.append_empty
/-- layers that aren't options: alike so far, or unlike from a mark on -/
theorem marks_part (M b : ByteArray) (n : Nat) : ∀ k, k ≤ n → (∀ i, i < k → byS M i = 32 ∨ byS M i = 63) →
    ((∀ i, i < k → byS M i = 32) ∧ textTo M b k = textTo (blankT n) b k) ∨
    (0 < k ∧ ∃ W z y, textTo M b k = W ++ ⟨#[63]⟩ ++ z ∧ textTo (blankT n) b k = W ++ y ∧ (y.size = 0 ∨ (0 < y.size ∧ byS y 0 = 91))) := by
  intro k
  induction k with
  | zero => intro _ _; exact .inl ⟨fun i hi => absurd hi (by omega), rfl⟩
  | succ k ih =>
    intro hk hm
    have hb : byS (blankT n) k = 32 := blankT_by n k (by omega)
    have eb : ∀ s, stepS (blankT n) s k = if k = 0 then s else s ++ ⟨#[91, 93]⟩ := fun s => by unfold stepS; rw [hb]; rfl
    have e0 : textTo (blankT n) b (k + 1) = stepS (blankT n) (textTo (blankT n) b k) k := rfl
    have e1 : textTo M b (k + 1) = stepS M (textTo M b k) k := rfl
    rw [e0, e1, eb]
    rcases ih (by omega) (fun i hi => hm i (by omega)) with ⟨h1, h2⟩ | ⟨hk0, W, z, y, h1, h2, h3⟩
    · rcases hm k (by omega) with hc | hc
      · left
        refine ⟨fun i hi => ?_, ?_⟩
        · by_cases hik : i = k
          · rw [hik]; exact hc
          · exact h1 i (by omega)
        · unfold stepS; rw [hc, h2]; rfl
      · right
        refine ⟨by omega, if k = 0 then textTo (blankT n) b k else textTo (blankT n) b k ++ ⟨#[91, 93]⟩, ⟨#[]⟩, ⟨#[]⟩, ?_, ?_, .inl rfl⟩
        · unfold stepS; rw [hc, h2, nil_app]; rfl
        · rw [nil_app]
    · right
      refine ⟨by omega, W, (if byS M k = 63 then z ++ ⟨#[91, 93]⟩ ++ ⟨#[63]⟩ else z ++ ⟨#[91, 93]⟩), y ++ ⟨#[91, 93]⟩, ?_, ?_, .inr ⟨?_, ?_⟩⟩
      · have hk' : ¬ k = 0 := by omega
        unfold stepS
        rcases hm k (by omega) with hc | hc
        · rw [hc]
          simp only [show ¬ (32 : Nat) = 63 by omega, show ¬ (32 : Nat) = 111 by omega, if_false, hk', h1]
          rw [app_assoc3]
        · rw [hc]
          simp only [if_true, hk', if_false, h1]
          simp only [app_assoc3]
      · rw [if_neg (by omega), h2, app_assoc3]
      · rw [ByteArray.size_append, br_size]; omega
      · rw [byS_app]
        rcases h3 with h3 | ⟨h3, h4⟩
        · rw [if_neg (by omega), h3]; rfl
        · rw [if_pos h3]; exact h4
theorem blankT_size (n : Nat) : (blankT n).size = n := by
  show (List.replicate n (32 : UInt8)).toArray.size = n
  simp
/-- how a type's layers are written, those that aren't options: the base goes ahead -/
theorem marks_front (M b : ByteArray) : ∀ k, (∀ i, i < k → byS M i = 32 ∨ byS M i = 63) → ∃ z, textTo M b k = b ++ z := by
  intro k
  induction k with
  | zero => intro _; exact ⟨⟨#[]⟩, (nil_app b).symm⟩
  | succ k ih =>
    intro hm
    obtain ⟨z, hz⟩ := ih (fun i hi => hm i (by omega))
    have e1 : textTo M b (k + 1) = stepS M (textTo M b k) k := rfl
    rw [e1, hz]
    unfold stepS
    rcases hm k (by omega) with hc | hc
    · rw [hc]
      by_cases hk : k = 0
      · exact ⟨z, by simp [hk]⟩
      · exact ⟨z ++ ⟨#[91, 93]⟩, by simp [hk, app_assoc3]⟩
    · rw [hc]
      by_cases hk : k = 0
      · exact ⟨z ++ ⟨#[63]⟩, by simp [hk, app_assoc3]⟩
      · exact ⟨z ++ ⟨#[91, 93]⟩ ++ ⟨#[63]⟩, by simp [hk, app_assoc3]⟩
/-- without marks: the base, and brackets -/
theorem blank_front (n : Nat) (b : ByteArray) : ∀ k, k ≤ n → ∃ y, textTo (blankT n) b k = b ++ y ∧ (y.size = 0 ∨ (0 < y.size ∧ byS y 0 = 91)) := by
  intro k
  induction k with
  | zero => intro _; exact ⟨⟨#[]⟩, (nil_app b).symm, .inl rfl⟩
  | succ k ih =>
    intro hk
    obtain ⟨y, h1, h2⟩ := ih (by omega)
    have e1 : textTo (blankT n) b (k + 1) = stepS (blankT n) (textTo (blankT n) b k) k := rfl
    rw [e1, h1]
    unfold stepS
    rw [blankT_by n k (by omega)]
    by_cases hk0 : k = 0
    · exact ⟨y, by simp [hk0], h2⟩
    · refine ⟨y ++ ⟨#[91, 93]⟩, by simp [hk0, app_assoc3], .inr ⟨by rw [ByteArray.size_append, br_size]; omega, ?_⟩⟩
      rw [byS_app]
      rcases h2 with h2 | ⟨h2, h3⟩
      · rw [if_neg (by omega), h2]; rfl
      · rw [if_pos h2]; exact h3
/-- A TYPE WITH A MARK is written unlike the same one without, whatever stands behind it, if that begins with a blank or a bracket -/
theorem type_differ {B : Int} {N : ByteArray} {D : Int} {M : ByteArray} (h : rightB B N D M = true) (hm : ∃ i, i < M.size ∧ byS M i ≠ 32) (r r' : ByteArray) (hr : 0 < r.size) (hc : byS r 0 = 32 ∨ byS r 0 = 41) :
    Differ (typeS B N M ++ r') (typeS B N (blankT M.size) ++ r) := by
  unfold rightB marksB innerM lastM at h
  simp only [Bool.and_eq_true, Bool.or_eq_true, decide_eq_true_iff] at h
  obtain ⟨⟨⟨h1, h2⟩, h3⟩, ⟨⟨h4, h5⟩, h7⟩, h8⟩ := h
  generalize D.toNat = d at *
  unfold typeS
  rw [blankT_size, h4]
  generalize baseS B N = b
  have yr : ∀ y : ByteArray, (y.size = 0 ∨ (0 < y.size ∧ byS y 0 = 91)) → 0 < (y ++ r).size ∧ (byS (y ++ r) 0 = 91 ∨ byS (y ++ r) 0 = 32 ∨ byS (y ++ r) 0 = 41) := by
    intro y hy
    refine ⟨by rw [ByteArray.size_append]; omega, ?_⟩
    rw [byS_app]
    rcases hy with hy | ⟨hy, hz⟩
    · rw [if_neg (by omega), hy]; exact .inr hc
    · rw [if_pos hy]; exact .inl hz
  by_cases ho : byS M d = 111
  · obtain ⟨z, hz⟩ := marks_front M b d h7
    obtain ⟨y, hy1, hy2⟩ := blank_front (d + 1) b (d + 1) (Nat.le_refl _)
    have e1 : textTo M b (d + 1) = stepS M (textTo M b d) d := rfl
    rw [e1, hz, hy1]
    obtain ⟨g1, g2⟩ := yr y hy2
    have hs : ∃ z2, stepS M (b ++ z) d = (⟨#[79, 112, 116, 105, 111, 110, 60]⟩ : ByteArray) ++ (b ++ z2) ++ ⟨#[62]⟩ := by
      unfold stepS
      rw [ho]
      by_cases hd : d = 0
      · exact ⟨z, by simp [hd]⟩
      · exact ⟨z ++ ⟨#[91, 93]⟩, by simp [hd, app_assoc3]⟩
    obtain ⟨z2, hs⟩ := hs
    rw [hs, app_assoc3 _ (⟨#[62]⟩ : ByteArray) r', app_assoc3 b y r]
    exact option_differ b z2 (y ++ r) (⟨#[62]⟩ ++ r') g1 g2
  · have hall : ∀ i, i < d + 1 → byS M i = 32 ∨ byS M i = 63 := by
      intro i hi
      by_cases hid : i = d
      · subst hid; omega
      · exact h7 i (by omega)
    rcases marks_part M b (d + 1) (d + 1) (Nat.le_refl _) hall with ⟨g1, -⟩ | ⟨-, W, z, y, g1, g2, g3⟩
    · obtain ⟨i, hi, hne⟩ := hm
      exact absurd (g1 i (by omega)) hne
    · rw [g1, g2, app_assoc3 W, app_assoc3 W, app_assoc3 W]
      obtain ⟨q1, q2⟩ := yr y g3
      refine Differ.left (Differ.first (by rw [ByteArray.size_append, ByteArray.size_append]; show 0 < 1 + _ + _; omega) q1 ?_) W
      have : byS ((⟨#[63]⟩ : ByteArray) ++ z ++ r') 0 = 63 := by
        rw [app_assoc3, byS_app, if_pos (by show 0 < 1; omega)]; rfl
      rw [this]
      omega
end Go.Proofs.YtfalgnapghienaaGreatDoor
