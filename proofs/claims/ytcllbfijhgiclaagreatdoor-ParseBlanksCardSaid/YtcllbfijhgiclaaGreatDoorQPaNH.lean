/- For any text and any list of whole numbers, ParseBlanks returns true and leaves its arguments as they were. -/
import Derived.Test.YtcllbfijhgiclaaGreatDoorQPaNG
import Derived.Test.YtcllbfijhgiclaaGreatDoorQPaPl
import Derived.Test.YtcllbfijhgiclaaGreatDoorQTrPl
set_option linter.unusedVariables false
set_option linter.unusedSimpArgs false
namespace Go.Proofs.YtcllbfijhgiclaaGreatDoor.G
section
variable {C E : PC} {d i j k n : Nat} {x : ByteArray} {u w : Fo}
theorem take_all (i : Nat) : ∀ (l : List Nat) (U : List Nat), (∀ k ∈ l, k < i ∧ k ∉ U) → l.Nodup → takeE i (l.map Int.ofNat) U = (0, l.reverse ++ U)
  | [], U, _, _ => rfl
  | k :: l, U, h, hn => by
    obtain ⟨h1, h2⟩ := h k List.mem_cons_self
    obtain ⟨n1, n2⟩ := List.nodup_cons.1 hn
    show (if (Int.ofNat k) < 0 ∨ (i : Int) ≤ Int.ofNat k then _ else if (Int.ofNat k).toNat ∈ U then _ else takeE i (l.map Int.ofNat) ((Int.ofNat k).toNat :: U)) = _
    rw [if_neg (by simp; omega), if_neg (by simpa using h2), take_all i l _ (fun q hq => ⟨(h q (List.mem_cons_of_mem _ hq)).1, fun e => by
      rcases List.mem_cons.1 e with e | e
      · have e : q = k := by simpa using e
        subst e; exact n1 hq
      · exact (h q (List.mem_cons_of_mem _ hq)).2 e⟩) n2]
    simp
theorem idx_in (f : Fo) : ∀ b, ∀ k ∈ f.idx b, b ≤ k ∧ k < b + f.size := by
  induction f with
  | nil => intro b k h; cases h
  | cons a K r _ ih =>
    intro b k h
    have h : k ∈ (b + K.size) :: r.idx (b + K.size + 1) := h
    show b ≤ k ∧ k < b + (K.size + 1 + r.size)
    rcases List.mem_cons.1 h with rfl | h
    · omega
    · have := ih _ _ h; omega
theorem idx_nodup (f : Fo) : ∀ b, (f.idx b).Nodup := by
  induction f with
  | nil => intro b; exact List.nodup_nil
  | cons a K r _ ih =>
    intro b
    show ((b + K.size) :: r.idx (b + K.size + 1)).Nodup
    refine List.nodup_cons.2 ⟨fun h => ?_, ih _⟩
    have := idx_in r _ _ h; omega
theorem check_app : ∀ (l m : List Nd) (i : Nat) (U : List Nat), (checkL l i U).1 = 0 → checkL (l ++ m) i U = checkL m (i + l.length) (checkL l i U).2
  | [], m, i, U, _ => rfl
  | x :: l, m, i, U, h => by
    have h : (if shapedE x ≠ 0 then (shapedE x, U) else if (takeE i x.kids U).1 ≠ 0 then takeE i x.kids U else checkL l (i + 1) (takeE i x.kids U).2).1 = 0 := h
    show (if shapedE x ≠ 0 then (shapedE x, U) else if (takeE i x.kids U).1 ≠ 0 then takeE i x.kids U else checkL (l ++ m) (i + 1) (takeE i x.kids U).2) = checkL m (i + (l.length + 1)) (if shapedE x ≠ 0 then (shapedE x, U) else if (takeE i x.kids U).1 ≠ 0 then takeE i x.kids U else checkL l (i + 1) (takeE i x.kids U).2).2
    by_cases h1 : shapedE x ≠ 0
    · rw [if_pos h1] at h; exact absurd h h1
    · rw [if_neg h1] at h ⊢
      rw [if_neg h1]
      by_cases h2 : (takeE i x.kids U).1 ≠ 0
      · rw [if_pos h2] at h; exact absurd h h2
      · rw [if_neg h2] at h ⊢
        rw [if_neg h2, check_app l m _ _ h, show i + 1 + l.length = i + (l.length + 1) by omega]
theorem nd_kids (a : An) (l : List Nat) : (a.nd C l).kids = l.map Int.ofNat := by unfold An.nd; split <;> rfl
theorem post_check (f : Fo) : ∀ (b : Nat) (U : List Nat), Ok f → (∀ j ∈ U, j < b) → (checkL (f.post C b) b U).1 = 0 ∧ ∀ j, j ∈ (checkL (f.post C b) b U).2 ↔ (j ∈ U ∨ (b ≤ j ∧ j < b + f.size ∧ j ∉ f.idx b)) := by
  induction f with
  | nil => intro b U _ _; exact ⟨rfl, fun j => ⟨.inl, fun h => h.elim id fun h => by have h2 : j < b + 0 := h.2.1; omega⟩⟩
  | cons a K r ihk ihr =>
    intro b U ho hU
    obtain ⟨o1, o2, o3⟩ := ho
    obtain ⟨k1, k2⟩ := ihk b U o2 hU
    have hl := Fo.post_len C K b
    show (checkL (K.post C b ++ (a.nd C (K.idx b) :: r.post C (b + K.size + 1))) b U).1 = 0 ∧ ∀ j, j ∈ (checkL (K.post C b ++ (a.nd C (K.idx b) :: r.post C (b + K.size + 1))) b U).2 ↔ _
    rw [check_app _ _ _ _ k1, hl]
    generalize (checkL (K.post C b) b U).2 = U1 at *
    have hs : shapedE (a.nd C (K.idx b)) = 0 := o1.shaped (Fo.idx_len K b)
    have ht := take_all (b + K.size) (K.idx b) U1 (fun k hk => by
      have q := idx_in K b k hk
      refine ⟨by omega, fun e => ?_⟩
      rcases (k2 k).1 e with e | e
      · have := hU k e; omega
      · exact e.2.2 hk) (idx_nodup K b)
    have e1 : ∀ m, checkL (a.nd C (K.idx b) :: m) (b + K.size) U1 = checkL m (b + K.size + 1) ((K.idx b).reverse ++ U1) := fun m => by
      show (if shapedE (a.nd C (K.idx b)) ≠ 0 then _ else if (takeE (b + K.size) (a.nd C (K.idx b)).kids U1).1 ≠ 0 then _ else checkL m _ (takeE (b + K.size) (a.nd C (K.idx b)).kids U1).2) = _
      rw [nd_kids, ht, if_neg (by rw [hs]; decide), if_neg (fun e => e rfl)]
    rw [e1]
    have hU2 : ∀ j, j ∈ (K.idx b).reverse ++ U1 ↔ (j ∈ U ∨ (b ≤ j ∧ j < b + K.size)) := fun j => by
      rw [List.mem_append, List.mem_reverse, k2]
      constructor
      · rintro (h | h | h)
        · exact .inr (idx_in K b j h)
        · exact .inl h
        · exact .inr ⟨h.1, h.2.1⟩
      · rintro (h | h)
        · exact .inr (.inl h)
        · by_cases hj : j ∈ K.idx b
          · exact .inl hj
          · exact .inr (.inr ⟨h.1, h.2, hj⟩)
    obtain ⟨r1, r2⟩ := ihr (b + K.size + 1) ((K.idx b).reverse ++ U1) o3 (fun j hj => by
      rcases (hU2 j).1 hj with h | h
      · have := hU j h; omega
      · omega)
    refine ⟨r1, fun j => ?_⟩
    rw [r2, hU2]
    show _ ↔ (j ∈ U ∨ (b ≤ j ∧ j < b + (K.size + 1 + r.size) ∧ j ∉ (b + K.size) :: r.idx (b + K.size + 1)))
    rw [List.mem_cons]
    constructor
    · rintro ((h | h) | h)
      · exact .inl h
      · refine .inr ⟨h.1, by omega, fun e => ?_⟩
        rcases e with e | e
        · omega
        · have := idx_in r _ _ e; omega
      · refine .inr ⟨by omega, by omega, fun e => ?_⟩
        rcases e with e | e
        · omega
        · exact h.2.2 e
    · rintro (h | ⟨h1, h2, h3⟩)
      · exact .inl (.inl h)
      · by_cases hj : j < b + K.size
        · exact .inl (.inr ⟨h1, hj⟩)
        · refine .inr ⟨?_, by omega, fun e => h3 (.inr e)⟩
          have : j ≠ b + K.size := fun e => h3 (.inl e)
          omega
theorem prog_facts (u : Fo) (j : Nat) : (progN C u j).kids = (u.idx 0).map Int.ofNat ∧ (progN C u j).kind = 1 ∧ shapedE (progN C u j) = 0 := by
  cases u with
  | nil => exact ⟨rfl, rfl, by show shapedE (nd 1 ⟨#[]⟩ []) = 0; decide⟩
  | cons a K r =>
    refine ⟨nd_kids _ _, rfl, ?_⟩
    exact (ok_an (i := 0) (j := j) (k := 1) (x := ⟨#[]⟩) _ (fits_many 0 (by decide) (Nat.zero_le _)) (.inr rfl) (by decide) (by decide)).shaped rfl
theorem prog_check (hu : Ok u) (hs : u.size ≤ 16383) : checkE (u.post C 0 ++ [progN C u j]) (((u.post C 0 ++ [progN C u j]).length : Int) - 1) = 0 := by
  obtain ⟨p1, p2, p3⟩ := prog_facts (C := C) u j
  obtain ⟨c1, c2⟩ := post_check (C := C) u 0 [] hu (fun j h => by cases h)
  have hl : (u.post C 0 ++ [progN C u j]).length = u.size + 1 := by rw [List.length_append, Fo.post_len]; rfl
  have ht := take_all u.size (u.idx 0) (checkL (u.post C 0) 0 []).2 (fun k hk => by
    have q := idx_in u 0 k hk
    refine ⟨by omega, fun e => ?_⟩
    rcases (c2 k).1 e with e | e
    · cases e
    · exact e.2.2 hk) (idx_nodup u 0)
  have e : checkL (u.post C 0 ++ [progN C u j]) 0 [] = (0, (u.idx 0).reverse ++ (checkL (u.post C 0) 0 []).2) := by
    rw [check_app _ _ _ _ c1, Fo.post_len, Nat.zero_add]
    show (if shapedE (progN C u j) ≠ 0 then _ else if (takeE u.size (progN C u j).kids _).1 ≠ 0 then _ else checkL [] _ (takeE u.size (progN C u j).kids _).2) = _
    rw [p1, ht, if_neg (by rw [p3]; decide), if_neg (fun e => e rfl)]
    rfl
  unfold checkE
  rw [hl, if_neg (by omega), if_neg, e, if_neg (fun e => e rfl), if_pos]
  · intro q hq
    have hq : q < u.size := by omega
    show q ∈ (u.idx 0).reverse ++ _
    rw [List.mem_append, List.mem_reverse, c2]
    by_cases h : q ∈ u.idx 0
    · exact .inl h
    · exact .inr (.inr ⟨Nat.zero_le _, by omega, h⟩)
  · rintro (h | h | h)
    · omega
    · exact h rfl
    · rw [List.getLast?_append, List.getLast?_singleton] at h
      apply h
      show some (progN C u j).kind = some 1
      rw [p2]
structure NdB (n : Nat) (x : Nd) : Prop where
  num : -9223372036854775808 ≤ x.num ∧ x.num ≤ 9223372036854775807
  text : x.text.size ≤ 260
  N : x.N.size ≤ 64
  M : x.M.size ≤ 5
  kids : x.kids.length ≤ n
  ends : x.ends.length ≤ 5
theorem an_b {a : An} {m : Nat} (h : AnOk a m) (l : List Nat) (hl : l.length ≤ n) : NdB n (a.nd C l) := by
  have h1 := h.num
  have h2 := h.text
  have h3 := h.type
  obtain ⟨k, tx, ty, num, i, j⟩ := a
  cases ty with
  | none => exact ⟨h1, h2, by show (0 : Nat) ≤ _; omega, by show (0 : Nat) ≤ _; omega, by show (l.map Int.ofNat).length ≤ n; simpa using hl, by show (0 : Nat) ≤ _; omega⟩
  | some y =>
    have hy := h3 y rfl
    have := hy.size; have := hy.dims; have := hy.ends; have := hy.small
    exact ⟨h1, h2, by show y.N.size ≤ _; omega, by show y.M.size ≤ _; omega, by show (l.map Int.ofNat).length ≤ n; simpa using hl, by show (y.e.map _).length ≤ 5; rw [List.length_map]; omega⟩
theorem post_b (f : Fo) : ∀ b, Ok f → f.size ≤ n → ∀ x ∈ f.post C b, NdB n x := by
  induction f with
  | nil => intro b _ _ x hx; cases hx
  | cons a K r ih1 ih2 =>
    intro b ho hn x hx
    obtain ⟨o1, o2, o3⟩ := ho
    have hn : K.size + 1 + r.size ≤ n := hn
    have hx : x ∈ K.post C b ++ (a.nd C (K.idx b) :: r.post C (b + K.size + 1)) := hx
    rcases List.mem_append.1 hx with hx | hx
    · exact ih1 b o2 (by omega) x hx
    · rcases List.mem_cons.1 hx with rfl | hx
      · refine an_b o1 _ ?_
        rw [Fo.idx_len]
        have := K.len_size; omega
      · exact ih2 _ o3 (by omega) x hx
theorem prog_b (u : Fo) (j : Nat) (hn : u.size ≤ n) : NdB n (progN C u j) := by
  have h0 : (-9223372036854775808 : Int) ≤ 0 ∧ (0 : Int) ≤ 9223372036854775807 := by omega
  have hl := u.len_size
  have hi := Fo.idx_len u 0
  cases u with
  | nil => exact ⟨h0, by show (0 : Nat) ≤ _; omega, by show (0 : Nat) ≤ _; omega, by show (0 : Nat) ≤ _; omega, Nat.zero_le _, by show (0 : Nat) ≤ _; omega⟩
  | cons a K r => exact ⟨h0, by show (0 : Nat) ≤ _; omega, by show (0 : Nat) ≤ _; omega, by show (0 : Nat) ≤ _; omega, by show (((Fo.cons a K r).idx 0).map Int.ofNat).length ≤ n; rw [List.length_map]; omega, by show (0 : Nat) ≤ _; omega⟩
theorem parse_right {t : PS} (hS : Sz C) (h : parseP C = .ok () t) (hl : t.made.length ≤ 16384) : checkE t.made ((t.made.length : Int) - 1) = 0 ∧ (∀ x ∈ t.made, NdB 16384 x) ∧ ∃ u j, Classes C 0 0 j u ∧ Ok u ∧ t.made = u.post C 0 ++ [progN C u j] := by
  obtain ⟨u, j, h1, h2, -⟩ := parse_inv h
  have hu := classes_ok hS h1
  have hn : u.size ≤ 16383 := by
    rw [h2, List.length_append, Fo.post_len] at hl
    have hl : u.size + 1 ≤ 16384 := hl
    omega
  refine ⟨by rw [h2]; exact prog_check hu hn, fun x hx => ?_, u, j, h1, hu, h2⟩
  rw [h2] at hx
  rcases List.mem_append.1 hx with hx | hx
  · exact post_b u 0 hu (by omega) x hx
  · rw [List.mem_singleton] at hx
    subst hx
    exact prog_b u j (by omega)
end
section
variable {l m : List Nd}
theorem eql_get (h : EqL l m) (a : Nat) : (l[a]? = none ∧ m[a]? = none) ∨ ∃ x y, l[a]? = some x ∧ m[a]? = some y ∧ EqN x y := by
  induction h generalizing a with
  | nil => exact .inl ⟨rfl, rfl⟩
  | cons hx _ ih => cases a with
    | zero => exact .inr ⟨_, _, rfl, rfl, hx⟩
    | succ a => simpa using ih a
theorem head_eq (p : Pen) {x y : Nd} (h : EqN x y) : headS p x = headS p y := by unfold headS; rw [h.kind, h.text, h.B, h.N, h.M, h.num]
theorem form_like (p : Pen) (h : EqL l m) : ∀ f a, formF p l f a = formF p m f a
  | 0, a => rfl
  | f + 1, a => by
    show (match l[a]? with | none => (⟨#[]⟩ : ByteArray) | some x => (kidsOf l a).foldl (fun (s : ByteArray) k => s ++ (⟨#[32]⟩ : ByteArray) ++ formF p l f k) (headS p x) ++ (⟨#[41]⟩ : ByteArray)) = (match m[a]? with | none => (⟨#[]⟩ : ByteArray) | some x => (kidsOf m a).foldl (fun (s : ByteArray) k => s ++ (⟨#[32]⟩ : ByteArray) ++ formF p m f k) (headS p x) ++ (⟨#[41]⟩ : ByteArray))
    have hk : kidsOf l a = kidsOf m a := by
      unfold kidsOf
      rcases eql_get h a with ⟨h1, h2⟩ | ⟨x, y, h1, h2, h3⟩
      · rw [h1, h2]
      · rw [h1, h2]; show x.kids.map _ = y.kids.map _; rw [h3.kids]
    rcases eql_get h a with ⟨h1, h2⟩ | ⟨x, y, h1, h2, h3⟩
    · rw [h1, h2]
    · rw [h1, h2]
      show (kidsOf l a).foldl _ (headS p x) ++ _ = (kidsOf m a).foldl _ (headS p y) ++ _
      rw [hk, head_eq p h3]
      congr 1
      exact fold_congrB _ _ fun k _ => form_like p h f k
theorem same_like (p : Pen) (h : EqL l m) (hl : checkE l ((l.length : Int) - 1) = 0) (hm : checkE m ((m.length : Int) - 1) = 0) : sameB p l ((l.length : Int) - 1) m ((m.length : Int) - 1) = true := by
  unfold sameB
  rw [decide_eq_true hl, decide_eq_true hm]
  have e := h.len
  have : FormS p l ((l.length : Int) - 1) ((l.length : Int) - 1) = FormS p m ((m.length : Int) - 1) ((m.length : Int) - 1) := by
    unfold FormS
    rw [hl, hm, e]
    unfold formS
    rw [form_like p h]
  rw [decide_eq_true this]; rfl
end
end Go.Proofs.YtcllbfijhgiclaaGreatDoor.G
