/- For any text and any list of whole numbers, ParseBlanks returns true and leaves its arguments as they were. -/
import Derived.Test.YtcllbfijhgiclaaGreatDoorQPaNH
import Derived.Test.YtcllbfijhgiclaaGreatDoorQPaMF
import Derived.Test.YtcllbfijhgiclaaGreatDoorQPaPl
import Derived.Test.YtcllbfijhgiclaaGreatDoorQLexPl
import Derived.Test.YtcllbfijhgiclaaGreatDoorQTrM
import Derived.Test.YtcllbfijhgiclaaGreatDoorQTrFrame
import Derived.Deep.LoopGhost
set_option linter.unusedVariables false
set_option linter.unusedSimpArgs false
namespace Go.Proofs.YtcllbfijhgiclaaGreatDoor.G
open Go Go.RowKit
theorem wrap64_in (z : Int) : -9223372036854775808 ≤ wrap64 z ∧ wrap64 z ≤ 9223372036854775807 := by unfold wrap64; omega
theorem long_most (k : Nat) : L.longG k ≤ 256 := by unfold L.longG; repeat (first | split | omega)
section
variable {x s u : ByteArray}
theorem tok_size (h : codeX x = 0) {l : List L.Tok} (hl : ∀ k (h : k < l.length), L.TokOk (L.byS x) x.size (L.atK l k) l[k]) (k : Nat) (hk : k < l.length) : l[k].2.2 - l[k].2.1 ≤ 256 := by
  obtain ⟨h1, h2, h3, h4, h5, h6, h7, h8, h9⟩ := hl k hk
  obtain ⟨e, -, -, f, -⟩ := L.token_facts (g := L.byS x) (n := x.size) (i := l[k].2.1) (by omega) (by rw [h7])
  rw [h7] at e
  have er : L.reachG (L.byS x) x.size l[k].2.1 = (l[k].1, l[k].2.2) := (Prod.mk.inj e).2.symm
  rw [er] at f
  have := long_most l[k].1
  simp only at f
  omega
theorem pc_sz (h : codeX x = 0) : Sz (pcOf x) := by
  obtain ⟨hs, l, hl, hn, hk⟩ := toks_of h
  refine ⟨fun i => ?_, fun y => ?_, fun y hy => ?_, fun y hy => ?_, fun y => wrap64_in _⟩
  · rw [pc_word, hl]
    by_cases h1 : i < l.length
    · rw [List.getElem?_append_left h1, List.getElem?_eq_getElem h1]
      show (x.extract l[i].2.1 l[i].2.2).size ≤ 256
      rw [ByteArray.size_extract]
      have := tok_size h hk i h1
      omega
    · by_cases h2 : i = l.length
      · subst h2
        rw [List.getElem?_append_right (Nat.le_refl _), Nat.sub_self]
        show (x.extract x.size x.size).size ≤ 256
        rw [ByteArray.size_extract]; omega
      · rw [List.getElem?_eq_none (by simp; omega)]
        show (0 : Nat) ≤ 256; omega
  · show (L.strN (L.unqF y).2).size ≤ y.size
    rw [strN_size]; exact unq_len y
  · have : L.nameS y = true := hy
    unfold L.nameS at this
    simp only [Bool.and_eq_true, decide_eq_true_eq] at this
    omega
  · have hy : (L.intR y).2.toNat = 0 := hy
    show 0 ≤ (L.intR y).1 ∧ (L.intR y).1 ≤ _
    unfold L.intR at hy ⊢
    split at hy
    · split at hy
      · rename_i h1 h2
        rw [if_pos h1, if_pos h2]
        show (0 : Int) ≤ ((L.valL y.data.toList : Nat) : Int) ∧ ((L.valL y.data.toList : Nat) : Int) ≤ _
        omega
      · simp at hy
    · simp at hy
def bytesT (x : List Nat) (t : L.Tok) : List Nat := (x.drop t.2.1).take (t.2.2 - t.2.1)
def putT (x : List Nat) (gi : Nat → Nat) : Nat → List L.Tok → List Nat
  | _, [] => []
  | i, t :: r => L.gapT (gi i) ++ (bytesT x t ++ putT x gi (i + 1) r)
def mkT (x : List Nat) (gi : Nat → Nat) : Nat → List L.Tok → List (Nat × Nat × List Nat)
  | _, [] => []
  | i, t :: r => (gi i, t.1, bytesT x t) :: mkT x gi (i + 1) r
theorem put_snoc (y : List Nat) (gi : Nat → Nat) (t : L.Tok) : ∀ (r : List L.Tok) (i : Nat), putT y gi i (r ++ [t]) = putT y gi i r ++ (L.gapT (gi (i + r.length)) ++ bytesT y t)
  | [], i => by show L.gapT (gi i) ++ (bytesT y t ++ []) = [] ++ _; simp
  | a :: r, i => by
    show L.gapT (gi i) ++ (bytesT y a ++ putT y gi (i + 1) (r ++ [t])) = (L.gapT (gi i) ++ (bytesT y a ++ putT y gi (i + 1) r)) ++ _
    rw [put_snoc y gi t r (i + 1), show i + 1 + r.length = i + (r.length + 1) by omega]
    simp
theorem put_asm (y : List Nat) (gi : Nat → Nat) (n : Nat) : ∀ (r : List L.Tok) (i : Nat), putT y gi i (r ++ [(0, n, n)]) = L.asm (mkT y gi i r) (gi (i + r.length))
  | [], i => by show L.gapT (gi i) ++ ((y.drop n).take (n - n) ++ []) = L.gapT (gi i); simp
  | a :: r, i => by
    show L.gapT (gi i) ++ (bytesT y a ++ putT y gi (i + 1) (r ++ [(0, n, n)])) = L.gapT (gi i) ++ (bytesT y a ++ L.asm (mkT y gi (i + 1) r) (gi (i + (r.length + 1))))
    rw [put_asm y gi n r (i + 1), show i + 1 + r.length = i + (r.length + 1) by omega]
theorem mk_snd (y : List Nat) (gi : Nat → Nat) : ∀ (r : List L.Tok) (i : Nat), (mkT y gi i r).map (fun t => (t.2.1, t.2.2)) = r.map fun t => (t.1, bytesT y t)
  | [], i => rfl
  | a :: r, i => by show (a.1, bytesT y a) :: _ = (a.1, bytesT y a) :: _; rw [mk_snd y gi r (i + 1)]
theorem mk_len (y : List Nat) (gi : Nat → Nat) : ∀ (r : List L.Tok) (i : Nat), (mkT y gi i r).length = r.length
  | [], i => rfl
  | a :: r, i => by show (mkT y gi (i + 1) r).length + 1 = r.length + 1; rw [mk_len y gi r (i + 1)]
theorem mk_mem (y : List Nat) (gi : Nat → Nat) : ∀ (r : List L.Tok) (i : Nat) (t : Nat × Nat × List Nat), t ∈ mkT y gi i r → ∃ a ∈ r, t.2.1 = a.1 ∧ t.2.2 = bytesT y a
  | [], i, t, h => by cases h
  | a :: r, i, t, h => by
    rcases List.mem_cons.1 h with rfl | h
    · exact ⟨a, List.mem_cons_self, rfl, rfl⟩
    · obtain ⟨b, hb, e⟩ := mk_mem y gi r (i + 1) t h
      exact ⟨b, List.mem_cons_of_mem _ hb, e⟩
theorem mk_sum (y : List Nat) (gi : Nat → Nat) : ∀ (r : List L.Tok) (i : Nat), ((mkT y gi i r).map fun t => t.2.2.length).sum ≤ (r.map fun t => t.2.2 - t.2.1).sum
  | [], i => Nat.le_refl _
  | a :: r, i => by
    have := mk_sum y gi r (i + 1)
    show (bytesT y a).length + ((mkT y gi (i + 1) r).map fun t => t.2.2.length).sum ≤ (a.2.2 - a.2.1) + (r.map fun t => t.2.2 - t.2.1).sum
    have h1 : (bytesT y a).length ≤ a.2.2 - a.2.1 := by unfold bytesT; rw [List.length_take]; omega
    omega
theorem tok_sum {n : Nat} {g : Nat → Nat} {l : List L.Tok} (hk : ∀ k (h : k < l.length), L.TokOk g n (L.atK l k) l[k]) : ∀ k, k ≤ l.length → ((l.take k).map fun t => t.2.2 - t.2.1).sum ≤ L.atK l k
  | 0, _ => by simp
  | k + 1, h => by
    have ih := tok_sum hk k (by omega)
    obtain ⟨h1, h2, -⟩ := hk k (by omega)
    rw [List.take_succ_eq_append_getElem (by omega), List.map_append, List.sum_append, L.atK_succ l k (by omega)]
    simp only [List.map_cons, List.map_nil, List.sum_cons, List.sum_nil]
    omega
theorem alike_of (hx : codeX s = 0) (hs : s.size ≤ 1500) (gi : Nat → Nat) (hu : L.natsOf u = putT (L.natsOf s) gi 0 (toksX s)) : codeX u = 0 ∧ u.size ≤ 14000 ∧ Alike (pcOf s) (pcOf u) := by
  obtain ⟨-, -, l, hl, hn, hk, -, hlast⟩ := L.lex_ok hx
  have hl : toksX s = l ++ [(0, s.size, s.size)] := hl
  rw [hl, put_asm] at hu
  have hsum := tok_sum hk l.length (Nat.le_refl _)
  rw [List.take_length] at hsum
  have h1 := L.asm_len (mkT (L.natsOf s) gi 0 l) (gi (0 + l.length))
  have h2 := mk_sum (L.natsOf s) gi l 0
  rw [mk_len] at h1
  have hus : u.size ≤ 14000 := by
    have e := congrArg List.length hu
    rw [nats_size] at e
    omega
  have hw := L.wl_asm (mkT (L.natsOf s) gi 0 l) (gi (0 + l.length)) (fun t ht => by
    obtain ⟨a, ha, e1, e2⟩ := mk_mem _ _ _ _ t ht
    obtain ⟨k, hk2, rfl⟩ := List.mem_iff_getElem.1 ha
    obtain ⟨q1, q2, q3, q4, q5, q6, q7, q8, q9⟩ := hk k hk2
    rw [e1, e2]
    have ea := at_nats s
    rw [← ea] at q7 q8 q9
    have es := nats_size s
    rw [← es] at q7 q9
    exact L.own_cut (by omega) q2 (by omega) q7 q8 q9) (by omega)
  rw [← hu, mk_snd] at hw
  obtain ⟨hc, l', hl', hm⟩ := lex_wl hw
  have hlen : l'.length = l.length := by
    have e := congrArg List.length hm
    rw [List.length_map, List.length_map] at e; exact e
  have hget : ∀ i (h : i < l.length) (h' : i < l'.length), l'[i].1 = l[i].1 ∧ u.extract l'[i].2.1 l'[i].2.2 = s.extract l[i].2.1 l[i].2.2 := fun i h h' => by
    have e : (l'.map fun t => (t.1, ((L.natsOf u).drop t.2.1).take (t.2.2 - t.2.1)))[i]? = (l.map fun t => (t.1, bytesT (L.natsOf s) t))[i]? := by rw [hm]
    rw [List.getElem?_map, List.getElem?_map, List.getElem?_eq_getElem h, List.getElem?_eq_getElem h'] at e
    have e := Option.some.inj e
    have e := Prod.mk.inj e
    refine ⟨e.1, ?_⟩
    rw [← strN_part, ← strN_part]
    exact congrArg L.strN e.2
  have ht : ∀ i, ((toksX s)[i]? = none ∧ (toksX u)[i]? = none) ∨ ∃ a b, (toksX s)[i]? = some a ∧ (toksX u)[i]? = some b ∧ a.1 = b.1 ∧ wordX s a = wordX u b := fun i => by
    rw [hl, hl']
    by_cases h1 : i < l.length
    · have h1' : i < l'.length := by omega
      obtain ⟨q1, q2⟩ := hget i h1 h1'
      refine .inr ⟨l[i], l'[i], ?_, ?_, q1.symm, q2.symm⟩
      · rw [List.getElem?_append_left h1, List.getElem?_eq_getElem h1]
      · rw [List.getElem?_append_left h1', List.getElem?_eq_getElem h1']
    · by_cases h2 : i = l.length
      · subst h2
        refine .inr ⟨(0, s.size, s.size), (0, u.size, u.size), ?_, ?_, rfl, ?_⟩
        · rw [List.getElem?_append_right (Nat.le_refl _), Nat.sub_self]; rfl
        · rw [List.getElem?_append_right (by omega), hlen, Nat.sub_self]; rfl
        show s.extract s.size s.size = u.extract u.size u.size
        rw [empty_of (s.extract s.size s.size) (by rw [ByteArray.size_extract]; omega), empty_of (u.extract u.size u.size) (by rw [ByteArray.size_extract]; omega)]
      · rw [List.getElem?_eq_none (by simp; omega), List.getElem?_eq_none (by simp; omega)]
        exact .inl ⟨rfl, rfl⟩
  refine ⟨hc, hus, ?_, fun i => ?_, ?_, rfl, rfl, rfl, rfl⟩
  · show (toksX s).length = (toksX u).length
    rw [hl, hl']; simp [hlen]
  · show ((toksX s).getD i (0, 0, 0)).1 = ((toksX u).getD i (0, 0, 0)).1
    rw [List.getD_eq_getElem?_getD, List.getD_eq_getElem?_getD]
    rcases ht i with ⟨e1, e2⟩ | ⟨a, b, e1, e2, e3, -⟩
    · rw [e1, e2]
    · rw [e1, e2]; exact e3
  · show (toksX s).map (wordX s) = (toksX u).map (wordX u)
    refine List.ext_getElem? fun i => ?_
    rw [List.getElem?_map, List.getElem?_map]
    rcases ht i with ⟨e1, e2⟩ | ⟨a, b, e1, e2, -, e3⟩
    · rw [e1, e2]; rfl
    · rw [e1, e2]; show some (wordX s a) = some (wordX u b); rw [e3]
theorem blank_parsed (hs : codeX s = 0) (hu : codeX u = 0) (h : Alike (pcOf s) (pcOf u)) : (parsedX s).2.1 = (parsedX u).2.1 ∧ ((parsedX s).2.1 = 0 → (parsedX s).2 = (0, 0) ∧ (parsedX u).2 = (0, 0) ∧ EqL (parsedX s).1 (parsedX u).1 ∧ ((parsedX s).1.length ≤ 16384 → checkE (parsedX s).1 (((parsedX s).1.length : Int) - 1) = 0 ∧ (∀ y ∈ (parsedX s).1, NdB 16384 y)) ∧ ((parsedX u).1.length ≤ 16384 → checkE (parsedX u).1 (((parsedX u).1.length : Int) - 1) = 0 ∧ (∀ y ∈ (parsedX u).1, NdB 16384 y))) := by
  have key := eq_parse h
  cases h1 : parseP (pcOf s) with
  | ok a t =>
    cases h2 : parseP (pcOf u) with
    | ok b t' =>
      rw [h1, h2] at key
      rw [parsed_ok hs h1, parsed_ok hu h2]
      refine ⟨rfl, fun _ => ⟨rfl, rfl, key.2.made, fun hl => ?_, fun hl => ?_⟩⟩
      · have := parse_right (pc_sz hs) h1 hl; exact ⟨this.1, this.2.1⟩
      · have := parse_right (pc_sz hu) h2 hl; exact ⟨this.1, this.2.1⟩
    | bad c z => rw [h1, h2] at key; exact key.elim
    | out => rw [h1, h2] at key; exact key.elim
  | bad c z =>
    cases h2 : parseP (pcOf u) with
    | ok b t' => rw [h1, h2] at key; exact key.elim
    | bad c' z' =>
      rw [h1, h2] at key
      have key : c = c' := key.1
      rw [parsed_bad hs h1, parsed_bad hu h2]
      exact ⟨key, fun e => absurd e (parse_code h1)⟩
    | out => rw [h1, h2] at key; exact key.elim
  | out => exact absurd h1 (parse_ends (pc_cw hs))
end
end Go.Proofs.YtcllbfijhgiclaaGreatDoor.G
namespace Go.Proofs.YtcllbfijhgiclaaGreatDoor
open Go.ChangeShapes Go.WideShapes Go.ChangeAt Go.RowKit
def KidsV (w : World) (v : Value) (l : List Int) : Prop := ∃ src cap, v = .slice src l.length cap ∧ NumsIn w src l ∧ (src = none → cap = 0)
open Go.Joins Go.Deep in
theorem open_kids {H : Type} {enc : TypeId × Value → H} {P : Program} {w : World} {base : Nat} {spare : Nat → Bool} {held : Bool} {r : Reach} {b0 : Nat} {t e : TypeId} {v : Value} {d : DataW H} {p : List MemPlace}
    (ht : P.underlying t = some (.slice e)) (he : P.underlying e = some (.int .i64)) (hC : P.cellsOf e = 1)
    (hv : Value.okWide P w r b0 t v) (h : DataW.Trod enc P w base spare held t v d p) : ∃ l, KidsV w v l := by
  obtain ⟨a0, len0, cap0, rfl⟩ := okWide_slice ht hv
  obtain ⟨fuel, hf⟩ := h
  rcases open_slice ht hf with ⟨hcs, -⟩ | ⟨a, len, cap, m, n, D, Pl, hcs', hb, hl, hm, hmm, -, hall⟩
  · simp [Value.cells] at hcs
    obtain ⟨rfl, rfl, rfl⟩ := hcs
    exact ⟨[], none, 0, rfl, (fun h => absurd h (by simp)), fun _ => rfl⟩
  · simp [Value.cells] at hcs'
    obtain ⟨rfl, rfl, rfl⟩ := hcs'
    have hml : len0 ≤ m := by rw [hmm]; split <;> omega
    have key : ∀ j, j < len0 → ∃ x : Int, w.cell? (a.add (j * 1)) = some (.int .i64 x) := by
      intro j hj
      obtain ⟨cs', hc, ht'⟩ := hall j (by omega)
      rw [hC] at hc
      obtain ⟨-, hcl, hat⟩ := World.cells?_some hc
      match cs', hcl with
      | [c0], _ =>
        obtain ⟨x, r0, -, -⟩ := DataW.trod_int he ht'
        simp at r0
        subst r0
        have w0 := hat 0 (by omega)
        exact ⟨x, w0⟩
    by_cases h0 : len0 = 0
    · subst h0
      exact ⟨[], some a, cap0, rfl, (fun h => absurd h (by simp)), fun h => by cases h⟩
    · obtain ⟨b, off, spot⟩ := a
      obtain ⟨x0, z0⟩ := key 0 (by omega)
      have hs : spot = none := by simpa [Addr.add] using World.cell?_spot z0
      subst hs
      have hlt : b < w.heap.size := by
        by_cases hb : b < w.heap.size
        · exact hb
        · simp [World.cell?, Addr.add, Array.getElem?_eq_none (show w.heap.size ≤ b by omega)] at z0
      obtain ⟨l, hll, hq⟩ := row_list (Q := fun j (x : Int) => w.cell? ⟨b, off + j, none⟩ = some (.int .i64 x)) len0 (fun j hj => by
        obtain ⟨x, g0⟩ := key j hj
        rw [add_at, Nat.mul_one] at g0
        exact ⟨x, g0⟩)
      exact ⟨l, some ⟨b, off, none⟩, cap0, by rw [hll], (fun _ => ⟨b, off, rfl, hlt, fun i hi => hq i hi⟩), fun h => by cases h⟩
end Go.Proofs.YtcllbfijhgiclaaGreatDoor
namespace Go.Proofs.YtcllbfijhgiclaaGreatDoor.G
open Go Go.RowKit
def gapB (k : Nat) : ByteArray := if k = 0 then ⟨#[32]⟩ else if k = 1 then ⟨#[10]⟩ else if k = 2 then ⟨#[9, 32, 13, 10]⟩ else ⟨#[32, 47, 47, 32, 115, 111, 59, 10]⟩
theorem gapB_nats (k : Nat) : L.natsOf (gapB k) = L.gapT k := by
  unfold gapB L.gapT
  split
  · rfl
  · split
    · rfl
    · split <;> rfl
theorem gapB_size (k : Nat) : (gapB k).size ≤ 8 := by
  have := L.gapT_len k
  rw [← gapB_nats, nats_size] at this; exact this
theorem gap_index (k : Nat) (hk : k < 4) (w : World) : Sem.run Tryz.prog (Instr.index 42 (.agg #[.string ⟨#[32]⟩, .string ⟨#[10]⟩, .string ⟨#[9, 32, 13, 10]⟩, .string ⟨#[32, 47, 47, 32, 115, 111, 59, 10]⟩]) (.int .i64 (k : Nat))) w = Result.ok (.string (gapB k)) w := by
  rcases (by omega : k = 0 ∨ k = 1 ∨ k = 2 ∨ k = 3) with rfl | rfl | rfl | rfl <;> kernel_rfl
theorem nats_cat (x y : ByteArray) : L.natsOf (x ++ y) = L.natsOf x ++ L.natsOf y := by unfold L.natsOf; rw [ByteArray.data_append, Array.toList_append, List.map_append]
theorem nats_part (x : ByteArray) (a b : Nat) : L.natsOf (x.extract a b) = ((L.natsOf x).drop a).take (b - a) := by
  unfold L.natsOf
  rw [ByteArray.data_extract, ← List.map_drop, ← List.map_take]
  congr 1
  simp
def gapI (l : List Int) (i : Nat) : Nat := if l.length = 0 then 1 else ((max 0 (l.getD (i % l.length) 0)).tmod 4).toNat
theorem mod4 (z : Int) : (max 0 z).tmod 4 = (((max 0 z).tmod 4).toNat : Nat) ∧ ((max 0 z).tmod 4).toNat < 4 := by
  have h : (0 : Int) ≤ max 0 z := by omega
  generalize max 0 z = y at *
  rw [Int.tmod_eq_emod_of_nonneg h]; omega
theorem put_next (x : List Nat) (gi : Nat → Nat) (T : List L.Tok) (i : Nat) (hi : i < T.length) : putT x gi 0 (T.take (i + 1)) = putT x gi 0 (T.take i) ++ (L.gapT (gi i) ++ bytesT x T[i]) := by
  rw [List.take_succ_eq_append_getElem hi, put_snoc, List.length_take, Nat.zero_add, Nat.min_eq_left (by omega)]
theorem put_len (x : List Nat) (gi : Nat → Nat) : ∀ (T : List L.Tok) (i : Nat), (putT x gi i T).length ≤ T.length * (8 + x.length)
  | [], i => Nat.zero_le _
  | t :: r, i => by
    have ih := put_len x gi r (i + 1)
    have h1 := L.gapT_len (gi i)
    have h2 : (bytesT x t).length ≤ x.length := by unfold bytesT; rw [List.length_take, List.length_drop]; omega
    show (L.gapT (gi i) ++ (bytesT x t ++ putT x gi (i + 1) r)).length ≤ (r.length + 1) * (8 + x.length)
    rw [List.length_append, List.length_append, Nat.succ_mul]
    omega
structure Put (s : ByteArray) (l : List Int) (i : Nat) (B : ByteArray) : Prop where
  is : L.natsOf B = putT (L.natsOf s) (gapI l) 0 ((toksX s).take i)
theorem Put.size {s B : ByteArray} {l : List Int} {i : Nat} (h : Put s l i B) (hs : s.size ≤ 1500) (hi : i ≤ 2000) : B.size ≤ 3100000 := by
  have h1 := congrArg List.length h.is
  have h2 := put_len (L.natsOf s) (gapI l) ((toksX s).take i) 0
  rw [nats_size] at h1
  rw [nats_size] at h2
  have h3 : ((toksX s).take i).length ≤ 2000 := by rw [List.length_take]; omega
  have h4 : ((toksX s).take i).length * (8 + s.size) ≤ 2000 * 1508 := Nat.mul_le_mul h3 (by omega)
  omega
theorem Put.next {s B : ByteArray} {l : List Int} {i : Nat} (h : Put s l i B) (hi : i < (toksX s).length) : Put s l (i + 1) (B ++ gapB (gapI l i) ++ s.extract (toksX s)[i].2.1 (toksX s)[i].2.2) := by
  constructor
  rw [put_next _ _ _ _ hi, nats_cat, nats_cat, h.is, gapB_nats, List.append_assoc]
  rw [nats_part]; rfl
theorem put_ends {s B : ByteArray} {l : List Int} (hx : codeX s = 0) (hs : s.size ≤ 1500) (h : Put s l (toksX s).length B) : codeX B = 0 ∧ B.size ≤ 14000 ∧ Alike (pcOf s) (pcOf B) := by
  refine alike_of hx hs (gapI l) ?_
  rw [h.is, List.take_length]
theorem nums_others {w w' : World} {B b : Nat} {v : Value} {l : List Int} (h : NewNums w B v l) (hk : Lib.OthersKept 5 (some b) w w') (hb : b < B) : NewNums w' B v l := by
  rcases h with h | ⟨h0, g, h1, h2, h3⟩
  · exact .inl h
  · exact .inr ⟨h0, g, h1, h2, hk g _ h3 (by simp; omega) (fun c fz e => by injection e with _ h2; exact absurd h2 (by decide))⟩
theorem nds_others {w w' : World} {B b : Nat} {v : Value} {l : List Nd} (h : NewNds w B v l) (hk : Lib.OthersKept 5 (some b) w w') (hb : b < B) : NewNds w' B v l := by
  rcases h with h | ⟨h0, g, L, h1, h2, h3, h4, h5⟩
  · exact .inl h
  · refine .inr ⟨h0, g, L, h1, h2, h3, ?_, fun y hy => ⟨nums_others (h5 y hy).1 hk hb, nums_others (h5 y hy).2 hk hb⟩⟩
    unfold BoxN at *
    exact hk g _ h4 (by simp; omega) (fun c fz e => by injection e with _ h2; exact absurd h2 (by decide))
theorem nd_sm {y : Nd} (h : NdB 16384 y) : NdSm y := ⟨h.num, h.text, Nat.le_trans h.N (by omega), Nat.le_trans h.M (by omega), Nat.le_trans h.kids (by omega), Nat.le_trans h.ends (by omega)⟩
theorem writeBk_any (W0 : World) (b : Nat) (s : ByteArray) (c : UInt8) (w : World) (h : BdInv W0 b s w) (hl : s.size + 1 ≤ 140737488355328) :
    Calls Tryz.prog 12 #[.pointer (some ⟨b, 0, none⟩), .int .u8 (c.toNat : Nat)] w fun e w' => e = .returned .nilIface ∧ BdInv W0 b (s ++ ⟨#[c]⟩) w' ∧ Lib.OthersKept 5 (some b) w w' := by
  refine (writeByte_any W0.heap.size b _ (c.toNat : Nat) w h.bld (by rw [bs_len]; exact hl) h.bel.size).mono ?_
  rintro e w' ⟨rfl, h1, h2, h3⟩
  exact ⟨rfl, ⟨h.bel.trans h2, by rw [strCells_app, strCells_one]; exact h1⟩, h3⟩
set_option maxRecDepth 100000 in
set_option maxHeartbeats 4000000 in
theorem blanks_some (s : ByteArray) (hm : s.size ≤ maxLen) (v : Value) (l : List Int) {w : World} (sp : KidsV w v l) (hT : Tabs w) (hs : s.size ≤ 1500) (hl : l.length ≤ 100) (h0 : 0 < l.length) (hx : codeX s = 0) : Calls Tryz.prog 3 #[.string s, v] w fun e w' => e = .returned (.bool true) ∧ Below w.heap.size w w' := by
  have HR := Lib.hid (reads_any w hT)
  have HT := Lib.hid hT
  have HX := Lib.hid hx
  have HM := Lib.hid hm
  have HS := Lib.hid hs
  have HL := Lib.hid hl
  have HNL : Hid ((toksX s).length ≤ 1501) := Lib.hid (by obtain ⟨-, l', hl', hn, -⟩ := toks_of hx; rw [hl', List.length_append]; show l'.length + 1 ≤ _; omega)
  have HLX := Lib.hid (fun w2 : World => L.lex_any s w2 hm)
  obtain ⟨src, cap, rfl, hnum, -⟩ := sp
  have HNUM := Lib.hid hnum
  have s1 : ¬ (1500 : Int) < (s.size : Int) := by omega
  have s2 : ¬ 1500 < s.size := by omega
  have s3 : decide ((1500 : Int) < (s.size : Int)) = false := decide_eq_false s1
  have s4 : decide (1500 < s.size) = false := decide_eq_false s2
  obtain ⟨n, hn⟩ : ∃ n, n = l.length := ⟨_, rfl⟩
  have HN := Lib.hid hn
  rw [← hn] at h0 hl ⊢
  have g1 : ¬ (100 : Int) < (n : Int) := by omega
  have g2 : ¬ 100 < n := by omega
  have g3 : decide ((100 : Int) < (n : Int)) = false := decide_eq_false g1
  have g4 : decide (100 < n) = false := decide_eq_false g2
  have g5 : (0 : Int) < (n : Int) := by omega
  have g6 : decide ((0 : Int) < (n : Int)) = true := decide_eq_true g5
  have g7 : decide (0 < n) = true := decide_eq_true h0
  clear hT hx hm hs hl hnum hn
  go_enter Tryz.func3, Tryz.ntmps3
  go_wp2_with fail
  refine HR.out.mono ?_
  rintro e w1 ⟨rfl, hb1⟩
  have B1 := Lib.hid hb1
  clear hb1
  go_wp2_with fail
  refine (HLX.out _).mono ?_
  rintro e w2 ⟨hb2, hok, -⟩
  obtain ⟨tv, rfl, g, tcap, rfl, hgw, hg2, -, -, htk⟩ := hok HX.out
  have B2 := Lib.hid (after B1.out hb2)
  have HTK := Lib.hid htk
  have HG2 := Lib.hid hg2
  clear hok htk hg2 hgw hb2
  have hnl : (L.lexG (L.byS s) s.size).1.length = (toksX s).length := rfl
  rw [hnl]
  clear hnl
  generalize htl : (toksX s).length = m at *
  have HTL := Lib.hid htl
  have hm6 : m ≤ 1501 := HNL.out
  clear htl
  go_wp2_with fail
  obtain ⟨W0, hW0⟩ : ∃ W0, W0 = w2.alloc (.cells #[.int .i64 0, .int .i64 0] 27) := ⟨_, rfl⟩
  rw [← hW0]
  have hbe : w2.heap.size + 1 = W0.heap.size := by rw [hW0]; simp
  have hb0 : Below w2.heap.size w2 W0 := by rw [hW0]; exact (Below.refl _ _).alloc (Nat.le_refl _) _
  rw [hbe]
  have B0 := Lib.hid (after B2.out hb0)
  have HG0 : Hid (g < W0.heap.size) := Lib.hid (by have := HG2.out; omega)
  have HTK0 : Hid (L.TokAt W0 g 0 (toksX s)) := Lib.hid (HTK.out.below hb0 HG2.out)
  have HT0 := Lib.hid (HT.out.step B0.out)
  have HNUM0 := Lib.hid (HNUM.out.step B0.out)
  have HI : Hid (BdInv W0 W0.heap.size ⟨#[]⟩ (W0.alloc (.cells #[.pointer none, .slice none 0 0] 33))) := Lib.hid (by
    refine ⟨(Below.refl _ _).alloc (Nat.le_refl _) _, .inl ⟨Nat.le_refl _, .slice none 0 0, heap_alloc_new _ _, ⟨rfl, .inl ⟨rfl, rfl⟩⟩, by simp [Value.ownBlock]⟩⟩)
  have HP0 : Hid (Put s l 0 ⟨#[]⟩) := Lib.hid ⟨rfl⟩
  clear hW0 hbe hb0 HTK HG2 B1 HLX
  go_loopg [34] m (fun k iv wr => ∃ (i : Nat) (B : ByteArray), iv = .int .i64 (i : Nat) ∧ i + k = m ∧ BdInv W0 W0.heap.size B wr ∧ Put s l i B)
  case atStart => exact ⟨0, _, rfl, by omega, HI.out, HP0.out⟩
  case round =>
    clear HI HP0
    obtain ⟨i, B, rfl, hik, hbi, hpu⟩ := hrel
    have HBI := Lib.hid hbi
    have HPU := Lib.hid hpu
    clear hbi hpu
    cases gk with
    | zero =>
      have hd : decide ((i : Int) < (m : Int)) = false := decide_eq_false (by omega)
      have hd2 : ¬ (i : Int) < (m : Int) := by omega
      have hd3 : ¬ i < m := by omega
      have hd4 : decide (i < m) = false := decide_eq_false hd3
      have him : i = m := by omega
      have HPE : Hid (Put s l (toksX s).length B) := Lib.hid (by rw [HTL.out, ← him]; exact HPU.out)
      have HBW := Lib.hid (after B0.out HBI.out.bel)
      have HTw := Lib.hid (HT0.out.step HBI.out.bel)
      have HBL := Lib.hid HBI.out.lt
      have HP := Lib.hid (put_ends HX.out HS.out HPE.out)
      have HQ := Lib.hid (blank_parsed HX.out HP.out.1 HP.out.2.2)
      have hbm : B.size ≤ maxLen := by have := HP.out.2.1; unfold maxLen; omega
      have HBM := Lib.hid hbm
      have HW0 : Hid (w.heap.size ≤ W0.heap.size) := Lib.hid B0.out.size
      clear hik him hbm HNUM HNUM0 HTK0 HG0 HR HPU HPE B0 HT0 HTw
      by_cases hc : (parsedX s).2.1 = 0
      · obtain ⟨y1, y2, y3, y4, y5⟩ := HQ.out.2 hc
        have PA := Lib.hid (fun w2 : World => parse_yes s w2 HM.out y1)
        have PB := Lib.hid (fun w2 : World => parse_yes B w2 HBM.out y2)
        have Y3 := Lib.hid y3
        have Y4 := Lib.hid y4
        have Y5 := Lib.hid y5
        clear y1 y2 y3 y4 y5 hc HQ HP HX HTL HNL
        generalize (parsedX s).1 = RA at *
        generalize (parsedX B).1 = RB at *
        go_wp2_with fail
        refine (PA.out _).mono ?_
        rintro e w3 ⟨hb3, sA, cA, rfl, hn1, hl1⟩
        have B3 := Lib.hid (after HBW.out hb3)
        have HBI3 := Lib.hid (HBI.out.step hb3)
        have N1 := Lib.hid hn1
        have L1 := Lib.hid hl1
        have hs3 := hb3.size
        clear hb3 hn1 hl1
        obtain ⟨hb4, X1, X2⟩ := new_two (w := w3) (T := 47) (T' := 27) (cs := #[.slice sA RA.length cA, .int .i64 ((RA.length : Int) - 1)]) (rs := #[.int .i64 0, .int .i64 0]) (Below.refl _ _)
        obtain ⟨nA, hnA⟩ : ∃ nA, nA = RA.length := ⟨_, rfl⟩
        have HNA := Lib.hid hnA
        rw [← hnA] at X1 hb4 X2 ⊢
        clear hnA
        go_wp2_with fail
        have B4 := Lib.hid (after B3.out hb4)
        have HBI4 := Lib.hid (HBI3.out.step hb4)
        have hn4 := N1.out.step hb4
        have x3 : wr.heap.size ≤ w3.heap.size := hs3
        generalize ((w3.alloc (.cells #[.slice sA nA cA, .int .i64 ((nA : Int) - 1)] 47)).alloc (.cells #[.int .i64 0, .int .i64 0] 27)) = W3 at *
        refine (Tryz.Builder_String_any_k W0.heap.size W0.heap.size B.data.toList W3 (by exact HBI4.out.bld) HBI4.out.bel.size).mono ?_
        rintro e w5 ⟨he, -, h5, hk5⟩
        have he : e = .returned (.string B) := he
        subst he
        have B5 := Lib.hid (B4.out.trans (h5.mono HW0.out))
        have hlb := HBL.out
        have Y1 := box_kept X1 (by decide) (by omega) hk5
        have Y2 := box_kept X2 (by decide) (by omega) hk5
        have hn5 := nds_others hn4 hk5 HBL.out
        clear X1 X2 hn4 hb4 h5 hk5 N1
        go_wp2_with fail
        refine (PB.out _).mono ?_
        rintro e w6 ⟨hb6, sB, cB, rfl, hn6, hl6⟩
        obtain ⟨nB, hnB⟩ : ∃ nB, nB = RB.length := ⟨_, rfl⟩
        rw [← hnB] at hn6
        obtain ⟨hb7, Z1, Z2⟩ := new_two (w := w6) (T := 47) (T' := 27) (cs := #[.slice sB nB cB, .int .i64 ((nB : Int) - 1)]) (rs := #[.int .i64 0, .int .i64 0]) (Below.refl _ _)
        have B6 := after B5.out hb6
        have B7 := Lib.hid (after B6 hb7)
        have U1 := (Y1.keep hb6).keep hb7
        have U2 := (Y2.keep hb6).keep hb7
        have hn7 := ((hn5.step hb6).step hb7).nds
        have hm7 := (hn6.step hb7).nds
        rw [← HNA.out] at hn7
        have hLA : RA.length ≤ 16384 := by have := L1.out; omega
        have hLB : RB.length ≤ 16384 := by omega
        obtain ⟨kA, sA2⟩ := Y4.out hLA
        obtain ⟨kB, sB2⟩ := Y5.out hLB
        have hsame := same_like goPen Y3.out kA kB
        rw [← HNA.out, ← hnB] at hsame
        have HSM := Lib.hid (same_any RA RB _ _ ((nA : Int) - 1) ((nB : Int) - 1) _ (HT.out.step B7.out) hn7 (by omega) (fun y hy => nd_sm (sA2 y hy)) hm7 (by omega) (fun y hy => nd_sm (sB2 y hy)))
        rw [hsame] at HSM
        have u0 := U1.cell 0
        have u1 := U1.cell 1
        have u2 := U2.cell 0
        have ul1 := U1.lt
        have ul2 := U2.lt
        have v0 := Z1.cell 0
        have v1 := Z1.cell 1
        have v2 := Z2.cell 0
        have vl1 := Z1.lt
        have vl2 := Z2.lt
        simp only [List.getElem?_cons_zero, List.getElem?_cons_succ] at u0 u1 u2 v0 v1 v2
        rw [← hnB]
        clear hb6 hb7 B6 hn6 hl6 hn5 hn7 hm7 hLA hLB kA kB sA2 sB2 hsame Y1 Y2 U1 U2 Z1 Z2 hnB
        go_wp2_with fail
        refine HSM.out.mono ?_
        rintro e w7 ⟨rfl, hb8⟩
        have B8 := Lib.hid (after B7.out hb8)
        clear hb8 u0 u1 u2 v0 v1 v2
        go_wp2_with fail
        go_ret
        exact ⟨rfl, B8.out⟩
      · have PA := Lib.hid (fun w2 : World => parse_no s w2 HM.out (c := (parsedX s).2.1) (z := (parsedX s).2.2) rfl hc)
        have PB := Lib.hid (fun w2 : World => parse_no B w2 HBM.out (c := (parsedX s).2.1) (z := (parsedX B).2.2) (by rw [HQ.out.1]) hc)
        clear HQ HP HX HTL HNL
        generalize (parsedX s).2.1 = c at *
        generalize (parsedX s).2.2 = zA at *
        generalize (parsedX B).2.2 = zB at *
        have c1 : ((c : Int) != 0) = true := by simp; omega
        have c2 : decide ((c : Int) = 0) = false := decide_eq_false (by omega)
        have c3 : ¬ (c : Int) = 0 := by omega
        have c4 : ((c : Int) == 0) = false := by simp; omega
        clear hc
        go_wp2_with fail
        refine (PA.out _).mono ?_
        rintro e w3 ⟨hb3, rfl⟩
        have B3 := Lib.hid (after HBW.out hb3)
        have HBI3 := Lib.hid (HBI.out.step hb3)
        have hs3 := hb3.size
        clear hb3
        obtain ⟨hb4, X1, X2⟩ := new_two (w := w3) (T := 47) (T' := 27) (cs := #[.slice none 0 0, .int .i64 0]) (rs := #[.int .i64 (c : Nat), .int .i64 zA]) (Below.refl _ _)
        go_wp2_with fail
        have B4 := Lib.hid (after B3.out hb4)
        have HBI4 := Lib.hid (HBI3.out.step hb4)
        generalize ((w3.alloc (.cells #[.slice none 0 0, .int .i64 0] 47)).alloc (.cells #[.int .i64 (c : Nat), .int .i64 zA] 27)) = W3 at *
        refine (Tryz.Builder_String_any_k W0.heap.size W0.heap.size B.data.toList W3 (by exact HBI4.out.bld) HBI4.out.bel.size).mono ?_
        rintro e w5 ⟨he, -, h5, hk5⟩
        have he : e = .returned (.string B) := he
        subst he
        have B5 := Lib.hid (B4.out.trans (h5.mono HW0.out))
        have hlb := HBL.out
        have Y1 := box_kept X1 (by decide) (by omega) hk5
        have Y2 := box_kept X2 (by decide) (by omega) hk5
        clear X1 X2 hb4 h5 hk5
        go_wp2_with fail
        refine (PB.out _).mono ?_
        rintro e w6 ⟨hb6, rfl⟩
        obtain ⟨hb7, Z1, Z2⟩ := new_two (w := w6) (T := 47) (T' := 27) (cs := #[.slice none 0 0, .int .i64 0]) (rs := #[.int .i64 (c : Nat), .int .i64 zB]) (Below.refl _ _)
        have B7 := Lib.hid (after (after B5.out hb6) hb7)
        have U2 := (Y2.keep hb6).keep hb7
        have u2 := U2.cell 0
        have ul2 := U2.lt
        have v2 := Z2.cell 0
        have vl2 := Z2.lt
        simp only [List.getElem?_cons_zero, List.getElem?_cons_succ] at u2 v2
        clear hb6 hb7 Y1 Y2 U2 Z1 Z2
        go_wp2_with fail
        go_ret
        exact ⟨rfl, B7.out⟩
    | succ gk =>
      have hin : i < m := by omega
      have hd : decide ((i : Int) < (m : Int)) = true := decide_eq_true (by omega)
      have hd2 : (i : Int) < (m : Int) := by omega
      have hd3 : decide (i < m) = true := decide_eq_true hin
      have i0 : (0 : Int) ≤ (i : Int) := by omega
      have i3 : IntKind.i64.wrap ((i : Int) + 1) = (i : Int) + 1 := IntWalk.i64_in _ ⟨by omega, by omega⟩
      have hi2 : i < (toksX s).length := by have := HTL.out; omega
      have HPN := Lib.hid (HPU.out.next hi2)
      have HBS := Lib.hid (HPU.out.size HS.out (by omega))
      have HBN := Lib.hid (HPN.out.size HS.out (by omega))
      obtain ⟨q0, q1, q2⟩ := HTK0.out i hi2
      simp only [Nat.zero_add] at q0 q1 q2
      rw [← HBI.out.bel.cell (p := ⟨g, i * 3, none⟩) HG0.out] at q0
      rw [← HBI.out.bel.cell (p := ⟨g, i * 3 + 1, none⟩) HG0.out] at q1
      rw [← HBI.out.bel.cell (p := ⟨g, i * 3 + 2, none⟩) HG0.out] at q2
      obtain ⟨tk1, tk2⟩ := tok_place HX.out i hi2
      generalize (toksX s)[i] = tk at *
      obtain ⟨k0, k1, k2⟩ := tk
      simp only at q0 q1 q2 tk1 tk2 HPN HBN
      have HSY := Lib.hid (fun (w2 : World) => L.say_any s k0 k1 k2 w2 (by have := HS.out; omega) tk1 tk2)
      have hgl : g < wr.heap.size := by have := HBI.out.bel.size; have := HG0.out; omega
      have hal : Below wr.heap.size wr (wr.alloc (.cells #[.int .i64 (k0 : Nat), .int .i64 (k1 : Nat), .int .i64 (k2 : Nat)] 37)) := (Below.refl _ _).alloc (Nat.le_refl _) _
      have HBI3 := Lib.hid (HBI.out.step hal)
      have X3 := Lib.hid (Bx.new 37 wr #[.int .i64 (k0 : Nat), .int .i64 (k1 : Nat), .int .i64 (k2 : Nat)])
      obtain ⟨gb, goff, hsrc, hgb, hgc⟩ := HNUM0.out (by have := HN.out; omega)
      subst hsrc
      obtain ⟨j, hj⟩ : ∃ j, j = i % n := ⟨_, rfl⟩
      have hjn : j < n := by rw [hj]; exact Nat.mod_lt _ h0
      have hjl : j < l.length := by have := HN.out; omega
      have e1 : (i : Int).tmod (n : Int) = (j : Nat) := by rw [hj, Int.tmod_eq_emod_of_nonneg (by omega)]; omega
      have j0 : (0 : Int) ≤ (j : Int) := by omega
      have j1 : (j : Int) < (n : Int) := by omega
      have z1 : decide ((n : Int) = 0) = false := decide_eq_false (by omega)
      have z2 : ¬ (n : Int) = 0 := by omega
      have z3 : ¬ n = 0 := by omega
      have cg := hgc j hjl
      rw [← HBI.out.bel.cell (p := ⟨gb, goff + j, none⟩) hgb] at cg
      have hgbl : gb < wr.heap.size := by have := HBI.out.bel.size; omega
      have egi : gapI l i = ((max 0 l[j]).tmod 4).toNat := by
        unfold gapI
        rw [if_neg (by have := HN.out; omega), ← HN.out, ← hj, List.getD_eq_getElem?_getD, List.getElem?_eq_getElem hjl]; rfl
      obtain ⟨m4, m4l⟩ := mod4 l[j]
      rw [← egi] at m4 m4l
      generalize l[j] = z at *
      generalize gapI l i = k at *
      have hix := gap_index k m4l
      clear egi hj hjl hgc
      clear hal hi2 tk1 tk2
      go_wp2_with fail
      refine (write_any W0 W0.heap.size B (gapB k) _ HBI3.out (by have := HBS.out; have := gapB_size k; omega)).mono ?_
      rintro e w4 ⟨rfl, hbi4, hok4⟩
      have X4 := box_kept X3.out (by decide) (by have := HBI.out.lt; omega) hok4
      have HBI4 := Lib.hid hbi4
      have x0 := X4.cell 0
      have x1 := X4.cell 1
      have x2 := X4.cell 2
      have xl := X4.lt
      simp only [List.getElem?_cons_zero, List.getElem?_cons_succ] at x0 x1 x2
      clear hbi4 hok4 X4 q0 q1 q2
      go_wp2_with fail
      refine (HSY.out _).mono ?_
      rintro e w5 ⟨rfl, hb5⟩
      have HBI5 := Lib.hid (HBI4.out.step hb5)
      clear hb5 x0 x1 x2 xl
      go_wp2_with fail
      refine (write_any W0 W0.heap.size _ (s.extract k1 k2) _ HBI5.out (by have h1 := HBS.out; have h2 := extract_le s k1 k2; have h3 := HS.out; have h4 := gapB_size k; rw [ByteArray.size_append]; omega)).mono ?_
      rintro e w6 ⟨rfl, hbi6, -⟩
      have HBI6 := Lib.hid hbi6
      clear hbi6
      go_wp2_with fail
      go_roundg gk
      case measure => omega
      case rel => exact ⟨i + 1, _, rfl, by omega, HBI6.out, HPN.out⟩
set_option maxRecDepth 100000 in
set_option maxHeartbeats 4000000 in
theorem blanks_none (s : ByteArray) (hm : s.size ≤ maxLen) (v : Value) (l : List Int) {w : World} (sp : KidsV w v l) (hT : Tabs w) (hs : s.size ≤ 1500) (hl : l.length ≤ 100) (h0 : l.length = 0) (hx : codeX s = 0) : Calls Tryz.prog 3 #[.string s, v] w fun e w' => e = .returned (.bool true) ∧ Below w.heap.size w w' := by
  have HR := Lib.hid (reads_any w hT)
  have HT := Lib.hid hT
  have HX := Lib.hid hx
  have HM := Lib.hid hm
  have HS := Lib.hid hs
  have HL := Lib.hid hl
  have HNL : Hid ((toksX s).length ≤ 1501) := Lib.hid (by obtain ⟨-, l', hl', hn, -⟩ := toks_of hx; rw [hl', List.length_append]; show l'.length + 1 ≤ _; omega)
  have HLX := Lib.hid (fun w2 : World => L.lex_any s w2 hm)
  obtain ⟨src, cap, rfl, hnum, -⟩ := sp
  have HNUM := Lib.hid hnum
  have s1 : ¬ (1500 : Int) < (s.size : Int) := by omega
  have s2 : ¬ 1500 < s.size := by omega
  have s3 : decide ((1500 : Int) < (s.size : Int)) = false := decide_eq_false s1
  have s4 : decide (1500 < s.size) = false := decide_eq_false s2
  obtain ⟨n, hn⟩ : ∃ n, n = l.length := ⟨_, rfl⟩
  have HN := Lib.hid hn
  rw [← hn] at h0 hl ⊢
  have g1 : ¬ (100 : Int) < (n : Int) := by omega
  have g2 : ¬ 100 < n := by omega
  have g3 : decide ((100 : Int) < (n : Int)) = false := decide_eq_false g1
  have g4 : decide (100 < n) = false := decide_eq_false g2
  have g5 : ¬ (0 : Int) < (n : Int) := by omega
  have g6 : decide ((0 : Int) < (n : Int)) = false := decide_eq_false g5
  have g7 : decide (0 < n) = false := decide_eq_false (by omega)
  clear hT hx hm hs hl hnum hn
  go_enter Tryz.func3, Tryz.ntmps3
  go_wp2_with fail
  refine HR.out.mono ?_
  rintro e w1 ⟨rfl, hb1⟩
  have B1 := Lib.hid hb1
  clear hb1
  go_wp2_with fail
  refine (HLX.out _).mono ?_
  rintro e w2 ⟨hb2, hok, -⟩
  obtain ⟨tv, rfl, g, tcap, rfl, hgw, hg2, -, -, htk⟩ := hok HX.out
  have B2 := Lib.hid (after B1.out hb2)
  have HTK := Lib.hid htk
  have HG2 := Lib.hid hg2
  clear hok htk hg2 hgw hb2
  have hnl : (L.lexG (L.byS s) s.size).1.length = (toksX s).length := rfl
  rw [hnl]
  clear hnl
  generalize htl : (toksX s).length = m at *
  have HTL := Lib.hid htl
  have hm6 : m ≤ 1501 := HNL.out
  clear htl
  go_wp2_with fail
  obtain ⟨W0, hW0⟩ : ∃ W0, W0 = w2.alloc (.cells #[.int .i64 0, .int .i64 0] 27) := ⟨_, rfl⟩
  rw [← hW0]
  have hbe : w2.heap.size + 1 = W0.heap.size := by rw [hW0]; simp
  have hb0 : Below w2.heap.size w2 W0 := by rw [hW0]; exact (Below.refl _ _).alloc (Nat.le_refl _) _
  rw [hbe]
  have B0 := Lib.hid (after B2.out hb0)
  have HG0 : Hid (g < W0.heap.size) := Lib.hid (by have := HG2.out; omega)
  have HTK0 : Hid (L.TokAt W0 g 0 (toksX s)) := Lib.hid (HTK.out.below hb0 HG2.out)
  have HT0 := Lib.hid (HT.out.step B0.out)
  have HNUM0 := Lib.hid (HNUM.out.step B0.out)
  have HI : Hid (BdInv W0 W0.heap.size ⟨#[]⟩ (W0.alloc (.cells #[.pointer none, .slice none 0 0] 33))) := Lib.hid (by
    refine ⟨(Below.refl _ _).alloc (Nat.le_refl _) _, .inl ⟨Nat.le_refl _, .slice none 0 0, heap_alloc_new _ _, ⟨rfl, .inl ⟨rfl, rfl⟩⟩, by simp [Value.ownBlock]⟩⟩)
  have HP0 : Hid (Put s l 0 ⟨#[]⟩) := Lib.hid ⟨rfl⟩
  clear hW0 hbe hb0 HTK HG2 B1 HLX
  go_loopg [34] m (fun k iv wr => ∃ (i : Nat) (B : ByteArray), iv = .int .i64 (i : Nat) ∧ i + k = m ∧ BdInv W0 W0.heap.size B wr ∧ Put s l i B)
  case atStart => exact ⟨0, _, rfl, by omega, HI.out, HP0.out⟩
  case round =>
    clear HI HP0
    obtain ⟨i, B, rfl, hik, hbi, hpu⟩ := hrel
    have HBI := Lib.hid hbi
    have HPU := Lib.hid hpu
    clear hbi hpu
    cases gk with
    | zero =>
      have hd : decide ((i : Int) < (m : Int)) = false := decide_eq_false (by omega)
      have hd2 : ¬ (i : Int) < (m : Int) := by omega
      have hd3 : ¬ i < m := by omega
      have hd4 : decide (i < m) = false := decide_eq_false hd3
      have him : i = m := by omega
      have HPE : Hid (Put s l (toksX s).length B) := Lib.hid (by rw [HTL.out, ← him]; exact HPU.out)
      have HBW := Lib.hid (after B0.out HBI.out.bel)
      have HTw := Lib.hid (HT0.out.step HBI.out.bel)
      have HBL := Lib.hid HBI.out.lt
      have HP := Lib.hid (put_ends HX.out HS.out HPE.out)
      have HQ := Lib.hid (blank_parsed HX.out HP.out.1 HP.out.2.2)
      have hbm : B.size ≤ maxLen := by have := HP.out.2.1; unfold maxLen; omega
      have HBM := Lib.hid hbm
      have HW0 : Hid (w.heap.size ≤ W0.heap.size) := Lib.hid B0.out.size
      clear hik him hbm HNUM HNUM0 HTK0 HG0 HR HPU HPE B0 HT0 HTw
      by_cases hc : (parsedX s).2.1 = 0
      · obtain ⟨y1, y2, y3, y4, y5⟩ := HQ.out.2 hc
        have PA := Lib.hid (fun w2 : World => parse_yes s w2 HM.out y1)
        have PB := Lib.hid (fun w2 : World => parse_yes B w2 HBM.out y2)
        have Y3 := Lib.hid y3
        have Y4 := Lib.hid y4
        have Y5 := Lib.hid y5
        clear y1 y2 y3 y4 y5 hc HQ HP HX HTL HNL
        generalize (parsedX s).1 = RA at *
        generalize (parsedX B).1 = RB at *
        go_wp2_with fail
        refine (PA.out _).mono ?_
        rintro e w3 ⟨hb3, sA, cA, rfl, hn1, hl1⟩
        have B3 := Lib.hid (after HBW.out hb3)
        have HBI3 := Lib.hid (HBI.out.step hb3)
        have N1 := Lib.hid hn1
        have L1 := Lib.hid hl1
        have hs3 := hb3.size
        clear hb3 hn1 hl1
        obtain ⟨hb4, X1, X2⟩ := new_two (w := w3) (T := 47) (T' := 27) (cs := #[.slice sA RA.length cA, .int .i64 ((RA.length : Int) - 1)]) (rs := #[.int .i64 0, .int .i64 0]) (Below.refl _ _)
        obtain ⟨nA, hnA⟩ : ∃ nA, nA = RA.length := ⟨_, rfl⟩
        have HNA := Lib.hid hnA
        rw [← hnA] at X1 hb4 X2 ⊢
        clear hnA
        go_wp2_with fail
        have B4 := Lib.hid (after B3.out hb4)
        have HBI4 := Lib.hid (HBI3.out.step hb4)
        have hn4 := N1.out.step hb4
        have x3 : wr.heap.size ≤ w3.heap.size := hs3
        generalize ((w3.alloc (.cells #[.slice sA nA cA, .int .i64 ((nA : Int) - 1)] 47)).alloc (.cells #[.int .i64 0, .int .i64 0] 27)) = W3 at *
        refine (Tryz.Builder_String_any_k W0.heap.size W0.heap.size B.data.toList W3 (by exact HBI4.out.bld) HBI4.out.bel.size).mono ?_
        rintro e w5 ⟨he, -, h5, hk5⟩
        have he : e = .returned (.string B) := he
        subst he
        have B5 := Lib.hid (B4.out.trans (h5.mono HW0.out))
        have hlb := HBL.out
        have Y1 := box_kept X1 (by decide) (by omega) hk5
        have Y2 := box_kept X2 (by decide) (by omega) hk5
        have hn5 := nds_others hn4 hk5 HBL.out
        clear X1 X2 hn4 hb4 h5 hk5 N1
        go_wp2_with fail
        refine (PB.out _).mono ?_
        rintro e w6 ⟨hb6, sB, cB, rfl, hn6, hl6⟩
        obtain ⟨nB, hnB⟩ : ∃ nB, nB = RB.length := ⟨_, rfl⟩
        rw [← hnB] at hn6
        obtain ⟨hb7, Z1, Z2⟩ := new_two (w := w6) (T := 47) (T' := 27) (cs := #[.slice sB nB cB, .int .i64 ((nB : Int) - 1)]) (rs := #[.int .i64 0, .int .i64 0]) (Below.refl _ _)
        have B6 := after B5.out hb6
        have B7 := Lib.hid (after B6 hb7)
        have U1 := (Y1.keep hb6).keep hb7
        have U2 := (Y2.keep hb6).keep hb7
        have hn7 := ((hn5.step hb6).step hb7).nds
        have hm7 := (hn6.step hb7).nds
        rw [← HNA.out] at hn7
        have hLA : RA.length ≤ 16384 := by have := L1.out; omega
        have hLB : RB.length ≤ 16384 := by omega
        obtain ⟨kA, sA2⟩ := Y4.out hLA
        obtain ⟨kB, sB2⟩ := Y5.out hLB
        have hsame := same_like goPen Y3.out kA kB
        rw [← HNA.out, ← hnB] at hsame
        have HSM := Lib.hid (same_any RA RB _ _ ((nA : Int) - 1) ((nB : Int) - 1) _ (HT.out.step B7.out) hn7 (by omega) (fun y hy => nd_sm (sA2 y hy)) hm7 (by omega) (fun y hy => nd_sm (sB2 y hy)))
        rw [hsame] at HSM
        have u0 := U1.cell 0
        have u1 := U1.cell 1
        have u2 := U2.cell 0
        have ul1 := U1.lt
        have ul2 := U2.lt
        have v0 := Z1.cell 0
        have v1 := Z1.cell 1
        have v2 := Z2.cell 0
        have vl1 := Z1.lt
        have vl2 := Z2.lt
        simp only [List.getElem?_cons_zero, List.getElem?_cons_succ] at u0 u1 u2 v0 v1 v2
        rw [← hnB]
        clear hb6 hb7 B6 hn6 hl6 hn5 hn7 hm7 hLA hLB kA kB sA2 sB2 hsame Y1 Y2 U1 U2 Z1 Z2 hnB
        go_wp2_with fail
        refine HSM.out.mono ?_
        rintro e w7 ⟨rfl, hb8⟩
        have B8 := Lib.hid (after B7.out hb8)
        clear hb8 u0 u1 u2 v0 v1 v2
        go_wp2_with fail
        go_ret
        exact ⟨rfl, B8.out⟩
      · have PA := Lib.hid (fun w2 : World => parse_no s w2 HM.out (c := (parsedX s).2.1) (z := (parsedX s).2.2) rfl hc)
        have PB := Lib.hid (fun w2 : World => parse_no B w2 HBM.out (c := (parsedX s).2.1) (z := (parsedX B).2.2) (by rw [HQ.out.1]) hc)
        clear HQ HP HX HTL HNL
        generalize (parsedX s).2.1 = c at *
        generalize (parsedX s).2.2 = zA at *
        generalize (parsedX B).2.2 = zB at *
        have c1 : ((c : Int) != 0) = true := by simp; omega
        have c2 : decide ((c : Int) = 0) = false := decide_eq_false (by omega)
        have c3 : ¬ (c : Int) = 0 := by omega
        have c4 : ((c : Int) == 0) = false := by simp; omega
        clear hc
        go_wp2_with fail
        refine (PA.out _).mono ?_
        rintro e w3 ⟨hb3, rfl⟩
        have B3 := Lib.hid (after HBW.out hb3)
        have HBI3 := Lib.hid (HBI.out.step hb3)
        have hs3 := hb3.size
        clear hb3
        obtain ⟨hb4, X1, X2⟩ := new_two (w := w3) (T := 47) (T' := 27) (cs := #[.slice none 0 0, .int .i64 0]) (rs := #[.int .i64 (c : Nat), .int .i64 zA]) (Below.refl _ _)
        go_wp2_with fail
        have B4 := Lib.hid (after B3.out hb4)
        have HBI4 := Lib.hid (HBI3.out.step hb4)
        generalize ((w3.alloc (.cells #[.slice none 0 0, .int .i64 0] 47)).alloc (.cells #[.int .i64 (c : Nat), .int .i64 zA] 27)) = W3 at *
        refine (Tryz.Builder_String_any_k W0.heap.size W0.heap.size B.data.toList W3 (by exact HBI4.out.bld) HBI4.out.bel.size).mono ?_
        rintro e w5 ⟨he, -, h5, hk5⟩
        have he : e = .returned (.string B) := he
        subst he
        have B5 := Lib.hid (B4.out.trans (h5.mono HW0.out))
        have hlb := HBL.out
        have Y1 := box_kept X1 (by decide) (by omega) hk5
        have Y2 := box_kept X2 (by decide) (by omega) hk5
        clear X1 X2 hb4 h5 hk5
        go_wp2_with fail
        refine (PB.out _).mono ?_
        rintro e w6 ⟨hb6, rfl⟩
        obtain ⟨hb7, Z1, Z2⟩ := new_two (w := w6) (T := 47) (T' := 27) (cs := #[.slice none 0 0, .int .i64 0]) (rs := #[.int .i64 (c : Nat), .int .i64 zB]) (Below.refl _ _)
        have B7 := Lib.hid (after (after B5.out hb6) hb7)
        have U2 := (Y2.keep hb6).keep hb7
        have u2 := U2.cell 0
        have ul2 := U2.lt
        have v2 := Z2.cell 0
        have vl2 := Z2.lt
        simp only [List.getElem?_cons_zero, List.getElem?_cons_succ] at u2 v2
        clear hb6 hb7 Y1 Y2 U2 Z1 Z2
        go_wp2_with fail
        go_ret
        exact ⟨rfl, B7.out⟩
    | succ gk =>
      have hin : i < m := by omega
      have hd : decide ((i : Int) < (m : Int)) = true := decide_eq_true (by omega)
      have hd2 : (i : Int) < (m : Int) := by omega
      have hd3 : decide (i < m) = true := decide_eq_true hin
      have i0 : (0 : Int) ≤ (i : Int) := by omega
      have i3 : IntKind.i64.wrap ((i : Int) + 1) = (i : Int) + 1 := IntWalk.i64_in _ ⟨by omega, by omega⟩
      have hi2 : i < (toksX s).length := by have := HTL.out; omega
      have HPN := Lib.hid (HPU.out.next hi2)
      have HBS := Lib.hid (HPU.out.size HS.out (by omega))
      have HBN := Lib.hid (HPN.out.size HS.out (by omega))
      obtain ⟨q0, q1, q2⟩ := HTK0.out i hi2
      simp only [Nat.zero_add] at q0 q1 q2
      rw [← HBI.out.bel.cell (p := ⟨g, i * 3, none⟩) HG0.out] at q0
      rw [← HBI.out.bel.cell (p := ⟨g, i * 3 + 1, none⟩) HG0.out] at q1
      rw [← HBI.out.bel.cell (p := ⟨g, i * 3 + 2, none⟩) HG0.out] at q2
      obtain ⟨tk1, tk2⟩ := tok_place HX.out i hi2
      generalize (toksX s)[i] = tk at *
      obtain ⟨k0, k1, k2⟩ := tk
      simp only at q0 q1 q2 tk1 tk2 HPN HBN
      have HSY := Lib.hid (fun (w2 : World) => L.say_any s k0 k1 k2 w2 (by have := HS.out; omega) tk1 tk2)
      have hgl : g < wr.heap.size := by have := HBI.out.bel.size; have := HG0.out; omega
      have hal : Below wr.heap.size wr (wr.alloc (.cells #[.int .i64 (k0 : Nat), .int .i64 (k1 : Nat), .int .i64 (k2 : Nat)] 37)) := (Below.refl _ _).alloc (Nat.le_refl _) _
      have HBI3 := Lib.hid (HBI.out.step hal)
      have X3 := Lib.hid (Bx.new 37 wr #[.int .i64 (k0 : Nat), .int .i64 (k1 : Nat), .int .i64 (k2 : Nat)])
      have egi : gapB (gapI l i) = ⟨#[10]⟩ := by unfold gapI; rw [if_pos (by have := HN.out; omega)]; rfl
      rw [egi] at HPN
      clear egi
      clear hal hi2 tk1 tk2
      go_wp2_with fail
      refine (writeBk_any W0 W0.heap.size B 10 _ HBI3.out (by have := HBS.out; omega)).mono ?_
      rintro e w4 ⟨rfl, hbi4, hok4⟩
      have X4 := box_kept X3.out (by decide) (by have := HBI.out.lt; omega) hok4
      have HBI4 := Lib.hid hbi4
      have x0 := X4.cell 0
      have x1 := X4.cell 1
      have x2 := X4.cell 2
      have xl := X4.lt
      simp only [List.getElem?_cons_zero, List.getElem?_cons_succ] at x0 x1 x2
      clear hbi4 hok4 X4 q0 q1 q2
      go_wp2_with fail
      refine (HSY.out _).mono ?_
      rintro e w5 ⟨rfl, hb5⟩
      have HBI5 := Lib.hid (HBI4.out.step hb5)
      clear hb5 x0 x1 x2 xl
      go_wp2_with fail
      refine (write_any W0 W0.heap.size _ (s.extract k1 k2) _ HBI5.out (by have h1 := HBS.out; have h2 := extract_le s k1 k2; have h3 := HS.out; rw [ByteArray.size_append]; show B.size + 1 + _ ≤ _; omega)).mono ?_
      rintro e w6 ⟨rfl, hbi6, -⟩
      have HBI6 := Lib.hid hbi6
      clear hbi6
      go_wp2_with fail
      go_roundg gk
      case measure => omega
      case rel => exact ⟨i + 1, _, rfl, by omega, HBI6.out, HPN.out⟩
set_option maxRecDepth 100000 in
set_option maxHeartbeats 4000000 in
theorem blanks_bad (s : ByteArray) (hm : s.size ≤ maxLen) (v : Value) (l : List Int) {w : World} (sp : KidsV w v l) (hT : Tabs w) (hs : s.size ≤ 1500) (hl : l.length ≤ 100) (hx : codeX s ≠ 0) : Calls Tryz.prog 3 #[.string s, v] w fun e w' => e = .returned (.bool true) ∧ Below w.heap.size w w' := by
  have HR := Lib.hid (reads_any w hT)
  have HX := Lib.hid hx
  have HLX := Lib.hid (fun w2 : World => L.lex_any s w2 hm)
  obtain ⟨src, cap, rfl, hnum, -⟩ := sp
  have s1 : ¬ (1500 : Int) < (s.size : Int) := by omega
  have s2 : ¬ 1500 < s.size := by omega
  have s3 : decide ((1500 : Int) < (s.size : Int)) = false := decide_eq_false s1
  have s4 : decide (1500 < s.size) = false := decide_eq_false s2
  obtain ⟨n, hn⟩ : ∃ n, n = l.length := ⟨_, rfl⟩
  rw [← hn] at hl ⊢
  have g1 : ¬ (100 : Int) < (n : Int) := by omega
  have g2 : ¬ 100 < n := by omega
  have g3 : decide ((100 : Int) < (n : Int)) = false := decide_eq_false g1
  have g4 : decide (100 < n) = false := decide_eq_false g2
  clear hT hm hs hl hnum hn
  have c1 : ((codeX s : Int) != 0) = true := by simp; omega
  clear hx
  go_enter Tryz.func3, Tryz.ntmps3
  go_wp2_with fail
  refine HR.out.mono ?_
  rintro e w1 ⟨rfl, hb1⟩
  have B1 := Lib.hid hb1
  clear hb1
  go_wp2_with fail
  refine (HLX.out _).mono ?_
  rintro e w2 ⟨hb2, -, hbad⟩
  have he := hbad HX.out
  have B2 := Lib.hid (after B1.out hb2)
  have e2 : (L.lexG (L.byS s) s.size).2.1 = codeX s := rfl
  rw [e2] at he
  generalize codeX s = c at *
  subst he
  clear hbad hb2
  go_wp2_with fail
  go_ret
  exact ⟨rfl, B2.out.alloc B2.out.size _⟩
set_option maxRecDepth 100000 in
set_option maxHeartbeats 4000000 in
theorem blanks_out (s : ByteArray) (v : Value) (l : List Int) {w : World} (sp : KidsV w v l) (hT : Tabs w) (hs : 1500 < s.size ∨ 100 < l.length) : Calls Tryz.prog 3 #[.string s, v] w fun e w' => e = .returned (.bool true) ∧ Below w.heap.size w w' := by
  have HR := Lib.hid (reads_any w hT)
  obtain ⟨src, cap, rfl, hnum, -⟩ := sp
  obtain ⟨n, hn⟩ : ∃ n, n = l.length := ⟨_, rfl⟩
  rw [← hn] at hs ⊢
  clear hT hnum hn
  by_cases s2 : 1500 < s.size
  · have s1 : (1500 : Int) < (s.size : Int) := by omega
    have s3 : decide ((1500 : Int) < (s.size : Int)) = true := decide_eq_true s1
    have s4 : decide (1500 < s.size) = true := decide_eq_true s2
    clear hs
    go_enter Tryz.func3, Tryz.ntmps3
    go_wp2_with fail
    refine HR.out.mono ?_
    rintro e w1 ⟨rfl, hb1⟩
    have B1 := Lib.hid hb1
    clear hb1
    go_wp2_with fail
    go_ret
    exact ⟨rfl, B1.out⟩
  · have s1 : ¬ (1500 : Int) < (s.size : Int) := by omega
    have s3 : decide ((1500 : Int) < (s.size : Int)) = false := decide_eq_false s1
    have s4 : decide (1500 < s.size) = false := decide_eq_false s2
    have g1 : (100 : Int) < (n : Int) := by omega
    have g2 : 100 < n := by omega
    have g3 : decide ((100 : Int) < (n : Int)) = true := decide_eq_true g1
    have g4 : decide (100 < n) = true := decide_eq_true g2
    clear hs
    go_enter Tryz.func3, Tryz.ntmps3
    go_wp2_with fail
    refine HR.out.mono ?_
    rintro e w1 ⟨rfl, hb1⟩
    have B1 := Lib.hid hb1
    clear hb1
    go_wp2_with fail
    go_ret
    exact ⟨rfl, B1.out⟩
theorem blanks_any (s : ByteArray) (hm : s.size ≤ maxLen) (v : Value) (l : List Int) {w : World} (sp : KidsV w v l) (hT : Tabs w) : Calls Tryz.prog 3 #[.string s, v] w fun e w' => e = .returned (.bool true) ∧ Below w.heap.size w w' := by
  by_cases h : 1500 < s.size ∨ 100 < l.length
  · exact blanks_out s v l sp hT h
  · by_cases hx : codeX s = 0
    · by_cases h0 : l.length = 0
      · exact blanks_none s hm v l sp hT (by omega) (by omega) h0 hx
      · exact blanks_some s hm v l sp hT (by omega) (by omega) (by omega) hx
    · exact blanks_bad s hm v l sp hT (by omega) (by omega) hx
end Go.Proofs.YtcllbfijhgiclaaGreatDoor.G
namespace Go.Proofs.YtcllbfijhgiclaaGreatDoor
open Go.ChangeShapes Go.WideShapes Go.ChangeAt Go.RowKit
open Go.ChangeMaps (open_string shut_string)
set_option maxRecDepth 100000 in
theorem parseBlanks_contract (H : Type) (enc : TypeId × Value → H) (W : World) (base : Nat) (args : Array Value) (ds gs : List (DataW H)) (before : List MemPlace)
    (hval0 : ∀ (j : Nat) t v, Tryz.f3.params[j]? = some t → args[j]? = some v → Value.okWide Tryz.prog W .any base t v)
    (hW : DataW.Whole enc Tryz.prog Tryz.f3.params.toList Rows.parseBlanksSpec.vars false W args.toList ds gs before) (hL : laidMetH Tryz.prog Rows.parseBlanksRow.laid W) :
    Calls Tryz.prog 3 args W fun e W' => ∃ v, e = .returned v ∧ Rows.parseBlanksSpec.post enc Tryz.prog Tryz.f3 false true false false W args v W' := by
  have hval : ∀ (j : Nat) t v, Tryz.f3.params[j]? = some t → args[j]? = some v → Value.okWide Tryz.prog W .any base t v := hval0
  have hW' := hW
  obtain ⟨p, q, hA0, hV, rfl, hfz, hnd⟩ := hW
  have hA : DataW.TrodAll enc Tryz.prog W 0 (fun _ => true) true Tryz.f3.params.toList args.toList ds p := hA0
  rw [Tryz.params3] at hA hval
  obtain ⟨v0, vs0, d0, ds0, p0, q0, hargs, rfl, rfl, h0, r0⟩ := trodAll_cons hA
  obtain ⟨v1, vs1, d1, ds1, p1, q1, rfl, rfl, rfl, h1, r1⟩ := trodAll_cons r0
  obtain ⟨rfl, rfl, rfl⟩ := trodAll_nil r1
  obtain rfl : args = #[v0, v1] := by cases args; simp_all
  obtain ⟨rfl, rfl⟩ := trodVars_none hV
  obtain ⟨a0, rfl, rfl, rfl, w0⟩ := open_string Tryz.underlying9 (hval 0 9 v0 rfl rfl) h0
  have k1 := h1
  have lt1 : ∀ x ∈ p1, x.block < W.heap.size := by obtain ⟨m, hm⟩ := k1; exact DataW.trod_lt m _ _ _ hm
  obtain ⟨l1, sp1⟩ := open_kids Tryz.underlying22 Tryz.underlying3 (by kernel_rfl) (hval 1 22 v1 rfl rfl) h1
  clear hA0 hval0
  refine (G.blanks_any a0 w0 v1 l1 sp1 (tabs_of (by rw [MakeChecks.laidMetH_plain _ _ _ (by kernel_rfl)] at hL; exact hL))).mono fun e W' ⟨he, bel⟩ => ?_
  subst he
  exact ⟨_, rfl, _, _, _, [], _, [], hW', trodAll_mk1 (shut_bool Tryz.underlying4 _), (trodAll_cons_mk (shut_string Tryz.underlying9 w0) (trodAll_cons_mk (Below.trod laidOut (by kernel_rfl) (of_decide_eq_true (by kernel_rfl)) k1 bel lt1) trodAll_mk0)), rfl, bel.frame _, fun h => by cases h⟩
set_option maxRecDepth 100000 in
theorem parseBlanks_lifted (os : Os) (started : os.Started) (H : Type) (enc : TypeId × Value → H) :
    ReturnsInHanded {} Tryz.checked os 3 .any (fun w args => (Rows.parseBlanksSpec.pre enc Tryz.prog Tryz.f3 Rows.parseBlanksRow.domain false w args ∧ laidMetH Tryz.prog Rows.parseBlanksRow.laid w) ∧ sizedMet enc Tryz.prog Tryz.f3 (OpenSpec.ofChange Rows.parseBlanksSpec) false w args)
      (Rows.parseBlanksSpec.post enc Tryz.prog Tryz.f3 false true false false) := by
  refine returnsInHanded_of_change_and (C := Tryz.checked) (X := fun w _ => laidMetH Tryz.prog Rows.parseBlanksRow.laid w) (fun _ _ _ hh h => h.of_heap hh) own started (by kernel_rfl) Tryz.func3
    (ChangeSpec.witness_shaped (enc := enc) (C := Tryz.checked) (os := os) (X := fun w _ => laidMetH Tryz.prog Rows.parseBlanksRow.laid w) false (World.laidAll Tryz.prog os laidL) #[.string ⟨#[]⟩, .slice none 0 0] 8 (World.laidAll_os _ _ _)
      (World.shaped_of_ZipB (by kernel_rfl) (by kernel_rfl)) (by kernel_rfl) (by kernel_rfl) (by kernel_rfl)
      (by rw [MakeChecks.laidMetH_plain _ _ _ (by kernel_rfl)]; exact laidMet_laidAll _ (by kernel_rfl) (by kernel_rfl))) ?_
  intro W base args ds gs before hval hW _ _ hL _
  exact parseBlanks_contract H enc W base args ds gs before hval hW hL
theorem parseBlanks_said : Rows.ParseBlanksSaid :=
  OpenClaim.holds_of_wide 3 Tryz.f3 rfl rfl rfl rfl rfl rfl rfl ⟨rfl, rfl, rfl, rfl, rfl⟩ rfl rfl rfl rfl rfl (by kernel_rfl) Tryz.func3 (by kernel_rfl)
    (of_decide_eq_true (by kernel_rfl)) (by unfold Func.isWrapper; first | (rw [if_pos (by decide +kernel)]; kernel_rfl) | (rw [if_neg (by decide +kernel)]; exact ⟨rfl, rfl⟩))
    (fun os started H enc _ => parseBlanks_lifted os started H enc)
theorem parseBlanks_plain (f : FuncId) (fn : Func) (hf : Tryz.pinned.checked.prog.funcNamed "caulker/caulkerlaw08.ParseBlanks" = some f) (hfn : Tryz.pinned.checked.prog.funcs[f]? = some fn) :
    true = Tryz.pinned.checked.prog.looks [] ∧ ∀ (j : Nat) t, fn.params[j]? = some t → Tryz.pinned.checked.prog.wantsStandIn t = false := by
  obtain rfl : f = 3 := Option.some.inj ((show Tryz.prog.funcNamed "caulker/caulkerlaw08.ParseBlanks" = some 3 by kernel_rfl).symm.trans hf) |>.symm
  obtain rfl : fn = Tryz.f3 := (Option.some.inj (Tryz.func3.symm.trans hfn)).symm
  refine ⟨by kernel_rfl, fun j t ht => ?_⟩
  rw [Tryz.params3] at ht
  have hm := Array.mem_of_getElem? ht
  simp only [List.mem_toArray, List.mem_cons, List.not_mem_nil, or_false] at hm
  rcases hm with rfl | rfl
  · exact (show Tryz.prog.wantsStandIn 9 = false by kernel_rfl)
  · exact (show Tryz.prog.wantsStandIn 22 = false by kernel_rfl)
theorem parseBlanks_proved : Rows.ParseBlanksCardSaid :=
  Claim7.holds_tied_plain_at .later [] _ _ _ _ parseBlanks_said (fun _ h => by cases h) (by kernel_rfl) (fun _ h => by cases h) parseBlanks_row_tie rfl ⟨rfl, rfl⟩ (by kernel_rfl) rfl parseBlanks_plain (by kernel_rfl)
end Go.Proofs.YtcllbfijhgiclaaGreatDoor
