/- For any program, TreeChecks returns true and leaves its argument as it was. -/
import Derived.Test.YtfalgnapghienaaGreatDoorTrMem
import Derived.Test.YtfalgnapghienaaGreatDoorTrRAll
import Derived.Test.YtfalgnapghienaaGreatDoorTrFormD
import Derived.Test.YtfalgnapghienaaGreatDoorTrRCheck
import Derived.Test.YtfalgnapghienaaGreatDoorTrGrow
import Derived.Test.YtfalgnapghienaaGreatDoorTrFrame
import Derived.ProofKit
import Derived.OpenShut
import Derived.Lib.SmallJoins
import Derived.Deep.Slices
import Derived.Deep.Fields
import Derived.ChangeSame
import Derived.SizedLaws
namespace Go.Proofs.YtfalgnapghienaaGreatDoor
open Go Go.RowKit
open Go.ChangeShapes Go.WideShapes Go.ChangeAt Go.Joins Go.Deep
set_option linter.unusedVariables false
set_option linter.unusedSimpArgs false

theorem list_of {α : Type} (Q : Nat → α → Prop) (n : Nat) (h : ∀ i, i < n → ∃ x, Q i x) : ∃ l : List α, l.length = n ∧ ∀ i (hi : i < l.length), Q i l[i] := by
  induction n with
  | zero => exact ⟨[], rfl, fun i hi => absurd hi (by simp)⟩
  | succ n ih =>
    obtain ⟨l, hl, hq⟩ := ih fun i hi => h i (by omega)
    obtain ⟨x, hx⟩ := h n (by omega)
    refine ⟨l ++ [x], by simp [hl], fun i hi => ?_⟩
    by_cases hlt : i < l.length
    · rw [List.getElem_append_left hlt]; exact hq i hlt
    · have hin : i = n := by simp at hi; omega
      subst hin
      rw [List.getElem_append_right (by omega)]
      simpa [hl] using hx
theorem weights_all {H : Type} {P : Program} {e : TypeId} : ∀ {l : List (DataW H)} {d : DataW H}, d ∈ l → ∀ n ∈ d.weights P e, n ∈ DataW.weightsAll P e l
  | d' :: r, d, hd, n, hn => by
    simp only [DataW.weightsAll, List.mem_append]
    rcases List.mem_cons.1 hd with rfl | h
    · exact Or.inl hn
    · exact Or.inr (weights_all h n hn)

section
variable {H : Type} {enc : TypeId × Value → H} {P : Program} {w : World} {base : Nat} {spare : Nat → Bool} {held : Bool}
/-- what is read is no heavier than memory -/
def Light (P : Program) (t : TypeId) (d : DataW H) : Prop := ∀ n ∈ d.weights P t, n ≤ reachBytes

theorem trod_nums {tI tIs : TypeId} (ht : P.underlying tIs = some (.slice tI)) (hI : P.underlying tI = some (.int .i64)) (hC : P.cellsOf tI = 1) {n : Nat} {c : Value} {y : DataW H × List MemPlace}
    (h : DataW.trod enc P w base spare held n tIs [c] = some y) : ∃ l, NumsV w c l ∧ (∀ x ∈ l, (Lit.int .i64 x).wf = true) ∧ l.length ≤ maxLen ∧ (Light P tIs y.1 → l.length * P.bytesOf tI ≤ reachBytes) := by
  rcases open_slice ht h with ⟨hcs, -⟩ | ⟨a, len, cap, m, k, D, Pl, hcs, hb, hl, hm, hmm, hy, hall⟩
  · simp at hcs
    subst hcs
    exact ⟨[], ⟨none, 0, rfl, fun h => absurd h (by simp)⟩, fun x hx => by simp at hx, Nat.zero_le _, fun _ => by simp⟩
  · simp at hcs
    subst hcs
    have hml : len ≤ m := by rw [hmm]; split <;> omega
    have hw : ∀ l : List Int, l.length = len → Light P tIs y.1 → l.length * P.bytesOf tI ≤ reachBytes := by
      intro l hl' hL
      have h0 : ((List.range len).map D).length * P.bytesOf tI ≤ (((List.range len).map D).length + ((List.range (m - len)).map fun j => D (len + j)).length) * P.bytesOf tI := Nat.mul_le_mul_right _ (Nat.le_add_right _ _)
      have h1 := hL ((((List.range len).map D).length + ((List.range (m - len)).map fun j => D (len + j)).length) * P.bytesOf tI) (by
        rw [hy]; simp only [DataW.weights, ht]; exact List.mem_cons_self)
      rw [hl']
      have h2 : ((List.range len).map D).length = len := by simp
      rw [h2] at h0 h1
      omega
    by_cases h0 : len = 0
    · subst h0
      exact ⟨[], ⟨some a, cap, rfl, fun h => absurd h (by simp)⟩, fun x hx => by simp at hx, Nat.zero_le _, hw [] rfl⟩
    · have key : ∀ j, j < len → ∃ x : Int, w.cell? (a.add j) = some (.int .i64 x) ∧ (Lit.int .i64 x).wf = true := by
        intro j hj
        obtain ⟨cs', hc, ht'⟩ := hall j (by omega)
        rw [hC] at hc
        obtain ⟨-, hcl, hat⟩ := World.cells?_some hc
        match cs', hcl with
        | [c0], _ =>
          obtain ⟨x, r0, -, wx⟩ := DataW.trod_int hI ht'
          simp at r0
          subst r0
          have w0 := hat 0 (by omega)
          rw [Nat.mul_one] at w0
          exact ⟨x, w0, wx⟩
      obtain ⟨b, off, spot⟩ := a
      obtain ⟨x0, z0, -⟩ := key 0 (by omega)
      have hs : spot = none := by simpa [Addr.add] using World.cell?_spot z0
      subst hs
      have hlt : b < w.heap.size := by
        by_cases hb : b < w.heap.size
        · exact hb
        · simp [World.cell?, Addr.add, Array.getElem?_eq_none (show w.heap.size ≤ b by omega)] at z0
      obtain ⟨l, hll, hq⟩ := list_of (fun j (x : Int) => w.cell? ⟨b, off + j, none⟩ = some (.int .i64 x) ∧ (Lit.int .i64 x).wf = true) len (fun j hj => by
        obtain ⟨x, g0, g1⟩ := key j hj
        rw [add_at] at g0
        exact ⟨x, g0, g1⟩)
      refine ⟨l, ⟨some ⟨b, off, none⟩, cap, by rw [hll], fun _ => ⟨b, off, rfl, hlt, fun i hi => (hq i hi).1⟩⟩, fun x hx => ?_, by omega, hw l hll⟩
      obtain ⟨i, hi, rfl⟩ := List.getElem_of_mem hx
      exact (hq i hi).2

theorem trod_span2 {tS tI : TypeId} {g0 g1 : Field} (hS : P.underlying tS = some (.struct #[g0, g1])) (hI : P.underlying tI = some (.int .i64)) (hC : P.cellsOf tI = 1) (h0 : g0.type = tI) (h1 : g1.type = tI) (o0 : g0.offset = 0) (o1 : g1.offset = 1)
    {n : Nat} {c0 c1 : Value} {y : DataW H × List MemPlace} (h : DataW.trod enc P w base spare held n tS [c0, c1] = some y) : ∃ a b, c0 = .int .i64 a ∧ c1 = .int .i64 b := by
  obtain ⟨z0, z1, n'', -, -, q0, q1⟩ := trod_struct2 hS h
  rw [o0, h0, hC] at q0
  rw [o1, h1, hC] at q1
  obtain ⟨a, r0, -, -⟩ := DataW.trod_int hI q0
  obtain ⟨b, r1, -, -⟩ := DataW.trod_int hI q1
  simp at r0 r1
  exact ⟨a, b, r0, r1⟩
theorem trod_type4 {tY tI tT : TypeId} {g0 g1 g2 g3 : Field} (hY : P.underlying tY = some (.struct #[g0, g1, g2, g3])) (hI : P.underlying tI = some (.int .i64)) (hT : P.underlying tT = some .string) (hC : P.cellsOf tI = 1) (hCT : P.cellsOf tT = 1)
    (h0 : g0.type = tI) (h1 : g1.type = tT) (h2 : g2.type = tI) (h3 : g3.type = tT) (o0 : g0.offset = 0) (o1 : g1.offset = 1) (o2 : g2.offset = 2) (o3 : g3.offset = 3)
    {n : Nat} {c0 c1 c2 c3 : Value} {y : DataW H × List MemPlace} (h : DataW.trod enc P w base spare held n tY [c0, c1, c2, c3] = some y) :
    ∃ (B : Int) (N : ByteArray) (D : Int) (M : ByteArray), c0 = .int .i64 B ∧ c1 = .string N ∧ c2 = .int .i64 D ∧ c3 = .string M ∧ N.size ≤ maxLen ∧ M.size ≤ maxLen := by
  obtain ⟨z0, z1, z2, z3, n'', -, -, q0, q1, q2, q3⟩ := trod_struct4 hY h
  rw [o0, h0, hC] at q0
  rw [o1, h1, hCT] at q1
  rw [o2, h2, hC] at q2
  rw [o3, h3, hCT] at q3
  obtain ⟨B, r0, -, -⟩ := DataW.trod_int hI q0
  obtain ⟨N, r1, -, s1⟩ := DataW.trod_string hT q1
  obtain ⟨D, r2, -, -⟩ := DataW.trod_int hI q2
  obtain ⟨M, r3, -, s3⟩ := DataW.trod_string hT q3
  simp at r0 r1 r2 r3
  exact ⟨B, N, D, M, r0, r1, r2, r3, s1, s3⟩

/-- a node that was read -/
structure NdRead (x : Nd) : Prop where
  num : (Lit.int .i64 x.num).wf = true
  text : x.text.size ≤ maxLen
  N : x.N.size ≤ maxLen
  M : x.M.size ≤ maxLen
  kids : x.kids.length ≤ maxLen
  ends : x.ends.length * 8 ≤ reachBytes

/-- the types of nodes -/
structure NodeTypes (P : Program) (tN tI tS tIs tT tY t64 : TypeId) (fs : Array Field) (g0 g1 k0 k1 k2 k3 : Field) : Prop where
  hN : P.underlying tN = some (.struct fs)
  cN : P.cellsOf tN = 13
  len : fs.size = 8
  f0 : fs[0]?.map (fun f => (f.type, f.offset)) = some (tI, 0)
  f1 : fs[1]?.map (fun f => (f.type, f.offset)) = some (tS, 1)
  f2 : fs[2]?.map (fun f => (f.type, f.offset)) = some (tIs, 3)
  f3 : fs[3]?.map (fun f => (f.type, f.offset)) = some (tT, 4)
  f4 : fs[4]?.map (fun f => (f.type, f.offset)) = some (tY, 5)
  f5 : fs[5]?.map (fun f => (f.type, f.offset)) = some (t64, 9)
  f6 : fs[6]?.map (fun f => (f.type, f.offset)) = some (tS, 10)
  f7 : fs[7]?.map (fun f => (f.type, f.offset)) = some (tIs, 12)
  hS : P.underlying tS = some (.struct #[g0, g1])
  hY : P.underlying tY = some (.struct #[k0, k1, k2, k3])
  hIs : P.underlying tIs = some (.slice tI)
  hI : P.underlying tI = some (.int .i64)
  h64 : P.underlying t64 = some (.int .i64)
  hT : P.underlying tT = some .string
  cI : P.cellsOf tI = 1
  cS : P.cellsOf tS = 2
  cIs : P.cellsOf tIs = 1
  cT : P.cellsOf tT = 1
  cY : P.cellsOf tY = 4
  c64 : P.cellsOf t64 = 1
  bI : P.bytesOf tI = 8
  g0t : g0.type = tI ∧ g0.offset = 0
  g1t : g1.type = tI ∧ g1.offset = 1
  k0t : k0.type = tI ∧ k0.offset = 0
  k1t : k1.type = tT ∧ k1.offset = 1
  k2t : k2.type = tI ∧ k2.offset = 2
  k3t : k3.type = tT ∧ k3.offset = 3

theorem field_of {fs : Array Field} {i : Nat} {t : TypeId} {o : Nat} (h : fs[i]?.map (fun f => (f.type, f.offset)) = some (t, o)) : ∃ f, fs[i]? = some f ∧ f.type = t ∧ f.offset = o := by
  obtain ⟨f, h1, h2⟩ := Option.map_eq_some_iff.1 h
  simp at h2
  exact ⟨f, h1, h2.1, h2.2⟩
theorem trod_node {tN tI tS tIs tT tY t64 : TypeId} {fs : Array Field} {g0 g1 k0 k1 k2 k3 : Field} (T : NodeTypes P tN tI tS tIs tT tY t64 fs g0 g1 k0 k1 k2 k3)
    {n : Nat} {b o : Nat} {cs : List Value} {y : DataW H × List MemPlace} (h : DataW.trod enc P w base spare held n tN cs = some y) (hc : ∀ j u, cs[j]? = some u → w.cell? ⟨b, o + j, none⟩ = some u) :
    ∃ x kv ev, NdAt w b o x kv ev ∧ (Light P tN y.1 → NdRead x) := by
  obtain ⟨xs, n', -, hy, hcl, hxl, hf⟩ := DataW.trod_struct T.hN h
  rw [T.cN] at hcl
  rw [T.len] at hxl
  match cs, hcl, xs, hxl with
  | [v0, v1, v2, v3, v4, v5, v6, v7, v8, v9, v10, v11, v12], _, [x0, x1, x2, x3, x4, x5, x6, x7], _ =>
    obtain ⟨F0, e0, t0, o0⟩ := field_of T.f0
    obtain ⟨F1, e1, t1, o1⟩ := field_of T.f1
    obtain ⟨F2, e2, t2, o2⟩ := field_of T.f2
    obtain ⟨F3, e3, t3, o3⟩ := field_of T.f3
    obtain ⟨F4, e4, t4, o4⟩ := field_of T.f4
    obtain ⟨F5, e5, t5, o5⟩ := field_of T.f5
    obtain ⟨F6, e6, t6, o6⟩ := field_of T.f6
    obtain ⟨F7, e7, t7, o7⟩ := field_of T.f7
    have q0 := hf 0 F0 e0
    have q1 := hf 1 F1 e1
    have q2 := hf 2 F2 e2
    have q3 := hf 3 F3 e3
    have q4 := hf 4 F4 e4
    have q5 := hf 5 F5 e5
    have q6 := hf 6 F6 e6
    have q7 := hf 7 F7 e7
    rw [t0, o0, T.cI] at q0
    rw [t1, o1, T.cS] at q1
    rw [t2, o2, T.cIs] at q2
    rw [t3, o3, T.cT] at q3
    rw [t4, o4, T.cY] at q4
    rw [t5, o5, T.c64] at q5
    rw [t6, o6, T.cS] at q6
    rw [t7, o7, T.cIs] at q7
    simp only [List.drop_succ_cons, List.drop_zero, List.take_succ_cons, List.take_zero, List.getElem?_cons_zero, List.getElem?_cons_succ] at q0 q1 q2 q3 q4 q5 q6 q7
    obtain ⟨kind, r0, -, -⟩ := DataW.trod_int T.hI q0
    obtain ⟨sf, st, r1, r2⟩ := trod_span2 T.hS T.hI T.cI T.g0t.1 T.g1t.1 T.g0t.2 T.g1t.2 q1
    obtain ⟨kids, hk, -, hkl, -⟩ := trod_nums T.hIs T.hI T.cI q2
    obtain ⟨text, r4, -, s4⟩ := DataW.trod_string T.hT q3
    obtain ⟨B, N, D, M, r5, r6, r7, r8, s6, s8⟩ := trod_type4 T.hY T.hI T.hT T.cI T.cT T.k0t.1 T.k1t.1 T.k2t.1 T.k3t.1 T.k0t.2 T.k1t.2 T.k2t.2 T.k3t.2 q4
    obtain ⟨num, r9, -, wn⟩ := DataW.trod_int T.h64 q5
    obtain ⟨wf, wt, r10, r11⟩ := trod_span2 T.hS T.hI T.cI T.g0t.1 T.g1t.1 T.g0t.2 T.g1t.2 q6
    obtain ⟨ends, he, -, -, hL⟩ := trod_nums T.hIs T.hI T.cI q7
    simp at r0 r4 r9
    subst r0 r1 r2 r4 r5 r6 r7 r8 r9 r10 r11
    refine ⟨⟨kind, sf, st, kids, text, B, N, D, M, num, wf, wt, ends⟩, v3, v12, NdAt.of_list hk he hc, fun hl => ⟨wn, s4, s6, s8, hkl, ?_⟩⟩
    rw [T.bI] at hL
    apply hL
    intro m hm
    apply hl
    rw [hy]
    simp only [DataW.weights, T.hN]
    exact DataW.weights_mem_each (j := 7) (t := tIs) (d := x7.1) (by simp [e7, t7]) (by simp) m hm

theorem trod_nodes {tN tI tS tIs tT tY t64 tNs : TypeId} {fs : Array Field} {g0 g1 k0 k1 k2 k3 : Field} (T : NodeTypes P tN tI tS tIs tT tY t64 fs g0 g1 k0 k1 k2 k3) (hNs : P.underlying tNs = some (.slice tN))
    {n : Nat} {c : Value} {y : DataW H × List MemPlace} (h : DataW.trod enc P w base spare held n tNs [c] = some y) : ∃ l, NdsV w c l ∧ l.length ≤ maxLen ∧ (Light P tNs y.1 → ∀ x ∈ l, NdRead x) := by
  rcases open_slice hNs h with ⟨hcs, -⟩ | ⟨a, len, cap, m, k, D, Pl, hcs, hb, hl, hm, hmm, hy, hall⟩
  · simp at hcs
    subst hcs
    exact ⟨[], NdsV.nil w, Nat.zero_le _, fun _ x hx => by simp at hx⟩
  · simp at hcs
    subst hcs
    have hml : len ≤ m := by rw [hmm]; split <;> omega
    by_cases h0 : len = 0
    · subst h0
      exact ⟨[], ⟨some a, cap, rfl, fun h => absurd h (by simp)⟩, Nat.zero_le _, fun _ x hx => by simp at hx⟩
    · obtain ⟨b, off, spot⟩ := a
      have hs : spot = none ∧ b < w.heap.size := by
        obtain ⟨cs', hc, -⟩ := hall 0 (by omega)
        rw [T.cN] at hc
        obtain ⟨-, hcl, hat⟩ := World.cells?_some hc
        have z0 : w.cell? (((⟨b, off, spot⟩ : Addr).add (0 * 13)).add 0) = some (cs'[0]'(by omega)) := by rw [hat 0 (by omega)]; exact List.getElem?_eq_getElem _
        have hs : spot = none := by simpa [Addr.add] using World.cell?_spot z0
        subst hs
        refine ⟨rfl, ?_⟩
        by_cases hb : b < w.heap.size
        · exact hb
        · simp [World.cell?, Addr.add, Array.getElem?_eq_none (show w.heap.size ≤ b by omega)] at z0
      obtain ⟨rfl, hlt⟩ := hs
      obtain ⟨l, hll, hq⟩ := list_of (fun j (x : Nd) => ∃ kv ev, NdAt w b (off + j * 13) x kv ev ∧ (Light P tN (D j) → NdRead x)) len (fun j hj => by
        obtain ⟨cs', hc, ht'⟩ := hall j (by omega)
        rw [T.cN] at hc
        obtain ⟨-, hcl, hat⟩ := World.cells?_some hc
        have hcc : ∀ i u, cs'[i]? = some u → w.cell? ⟨b, off + j * 13 + i, none⟩ = some u := by
          intro i u hi
          have hi' : i < 13 := by have := (List.getElem?_eq_some_iff.1 hi).1; omega
          have := hat i hi'
          rw [add_at, add_at] at this
          rw [this]; exact hi
        obtain ⟨x, kv, ev, h1, h2⟩ := trod_node T ht' hcc
        exact ⟨x, kv, ev, h1, h2⟩)
      refine ⟨l, ⟨some ⟨b, off, none⟩, cap, by rw [hll], fun _ => ⟨b, off, rfl, hlt, fun i hi => ?_⟩⟩, by omega, fun hL x hx => ?_⟩
      · obtain ⟨kv, ev, h1, -⟩ := hq i hi
        exact ⟨kv, ev, h1⟩
      · obtain ⟨i, hi, rfl⟩ := List.getElem_of_mem hx
        obtain ⟨kv, ev, -, h2⟩ := hq i hi
        apply h2
        intro m' hm'
        apply hL
        rw [hy]
        simp only [DataW.weights, hNs]
        refine List.mem_cons_of_mem _ (List.mem_append_left _ (weights_all (d := D i) ?_ m' hm'))
        exact List.mem_map.2 ⟨i, List.mem_range.2 (by omega), rfl⟩

/-- a program that came in, as a value -/
def TreeV (w : World) (v : Value) (l : List Nd) (root : Int) : Prop := ∃ nv, v = .agg #[nv, .int .i64 root] ∧ NdsV w nv l
theorem open_tree {tN tI tS tIs tT tY t64 tNs tT2 : TypeId} {fs : Array Field} {g0 g1 k0 k1 k2 k3 m0 m1 : Field} (T : NodeTypes P tN tI tS tIs tT tY t64 fs g0 g1 k0 k1 k2 k3) (hNs : P.underlying tNs = some (.slice tN))
    (hT2 : P.underlying tT2 = some (.struct #[m0, m1])) (hone : oneCellFields P #[m0, m1] = true) (hC : P.cellsOf tT2 = 2) (hm0 : m0.type = tNs) (hm1 : m1.type = tI) {r : Reach} {b0 : Nat} {v : Value} {d : DataW H} {p : List MemPlace}
    (hv : Value.okWide P w r b0 tT2 v) (h : DataW.Trod enc P w base spare held tT2 v d p) : ∃ l root, TreeV w v l root ∧ l.length ≤ maxLen ∧ (Light P tT2 d → ∀ x ∈ l, NdRead x) := by
  obtain ⟨c0, c1, y0, y1, n, rfl, rfl, -, h0, h1⟩ := open_agg2 hT2 hone hC hv h
  rw [hm0] at h0
  rw [hm1] at h1
  obtain ⟨root, e1, -, -⟩ := DataW.trod_int T.hI h1
  simp at e1
  subst e1
  obtain ⟨l, h2, h3, h4⟩ := trod_nodes T hNs h0
  refine ⟨l, root, ⟨c0, rfl, h2⟩, h3, fun hL => h4 fun m hm => hL m ?_⟩
  simp only [DataW.weights, hT2]
  exact DataW.weights_mem_each (j := 0) (t := tNs) (d := y0.1) (by simp [hm0]) (by simp) m hm
end
end Go.Proofs.YtfalgnapghienaaGreatDoor
namespace Go.Proofs.YtfalgnapghienaaGreatDoor
open Go Go.RowKit
set_option linter.unusedVariables false
set_option linter.unusedSimpArgs false

theorem sm_of {l : List Nd} (hs : smallB l = true) (rd : ∀ x ∈ l, NdRead x) : ∀ x ∈ l, NdSm x := fun x hx => by
  obtain ⟨h1, h2, h3, h4⟩ := (small_get hs).2 x hx
  have h := rd x hx
  have hw := h.num
  have he := h.ends
  unfold reachBytes at he
  have hw2 : -9223372036854775808 ≤ x.num ∧ x.num ≤ 9223372036854775807 := by
    simp [Lit.wf, IntKind.min, IntKind.max, IntKind.signed, IntKind.bits] at hw
    omega
  exact ⟨hw2, h2, h3, by omega, by omega, by omega⟩
theorem DS.two {w0 w : World} {g : Nat} {nv : Value} {root : Int} (h : DS w0 g nv root w) : w.cell? ⟨g, 0, none⟩ = some nv ∧ w.cell? ⟨g, 1, none⟩ = some (.int .i64 root) ∧ DS w0 g nv root w := ⟨h.box.two.1, h.box.two.2.1, h⟩
theorem str_empty' : (⟨#[]⟩ : ByteArray).toList.isEmpty = true := by rw [ByteArray.toList_eq]; rfl

set_option maxRecDepth 100000 in
set_option maxHeartbeats 4000000 in
theorem checks_any {w : World} (v : Value) (l : List Nd) (root : Int) (tv : TreeV w v l root) (rd : ∀ x ∈ l, NdRead x) (hT : Tabs w)
    (hG : ∀ w2, Below w.heap.size w w2 → Calls Tryz.prog 7 #[] w2 fun e w' => e = .returned (.bool true) ∧ Below w2.heap.size w2 w')
    (hC : ∀ w2, Below w.heap.size w w2 → smallB l = true → Calls Tryz.prog 9 #[v] w2 (ChkPost w2 (checkE l root))) :
    Calls Tryz.prog 3 #[v] w fun e w' => e = .returned (.bool true) ∧ Below w.heap.size w w' := by
  obtain ⟨nv, rfl, hn⟩ := tv
  have HN := Lib.hid hn
  have HT := Lib.hid hT
  have HG := Lib.hid hG
  have HC := Lib.hid hC
  have RD := Lib.hid rd
  have D0 := Lib.hid (DS.new w nv root)
  obtain ⟨g, hg⟩ : ∃ g, g = w.heap.size := ⟨_, rfl⟩
  obtain ⟨W0, hW0⟩ : ∃ W0, W0 = w.alloc (.cells #[nv, .int .i64 root] 24) := ⟨_, rfl⟩
  rw [← hW0, ← hg] at D0
  have HW0 := Lib.hid hW0
  have HG0 := Lib.hid hg
  clear hT hG hC rd hW0 hg hn
  go_enter Tryz.func3, Tryz.ntmps3
  go_wp2_with fail
  rw [← HW0.out, ← HG0.out]
  refine (HG.out _ D0.out.bel).mono ?_
  rintro e w1 ⟨rfl, hb1⟩
  have D1 := Lib.hid (D0.out.keep hb1)
  obtain ⟨a0, a1, -⟩ := D1.out.two
  clear hb1 HW0 D0
  go_wp2_with fail
  refine (small_any l nv root w1 (HN.out.step D1.out.bel)).mono ?_
  rintro e w2 ⟨rfl, hb2⟩
  have D2 := Lib.hid (D1.out.keep hb2)
  clear hb2 a0 a1 D1
  obtain ⟨a0, a1, -⟩ := D2.out.two
  cases hs : smallB l with
  | false =>
    go_wp2_with fail
    go_ret
    exact ⟨rfl, D2.out.bel⟩
  | true =>
    have SM := Lib.hid (sm_of hs RD.out)
    have HL := Lib.hid (small_get hs).1
    have HS := Lib.hid hs
    clear hs
    go_wp2_with fail
    refine (HC.out _ D2.out.bel HS.out).mono ?_
    rintro e w3 ⟨rfl, hb3⟩
    have D3 := Lib.hid (D2.out.keep hb3)
    clear hb3 a0 a1 D2
    obtain ⟨a0, a1, -⟩ := D3.out.two
    go_wp2_with fail
    refine (check_any l nv root w3 (HT.out.sh.step D3.out.bel) (HN.out.step D3.out.bel) (by have := HL.out; omega) (fun x hx => (SM.out x hx).fit)).mono ?_
    rintro e w4 ⟨rfl, hb4⟩
    have D4 := Lib.hid (D3.out.keep hb4)
    clear hb4 a0 a1 D3
    obtain ⟨a0, a1, -⟩ := D4.out.two
    have HF := Lib.hid (fun (w' : World) (d : DS w g nv root w') (at_ : Int) => Form_any l nv root at_ w' (HT.out.step d.bel) (HN.out.step d.bel) (by have := HL.out; omega) SM.out)
    have HD := Lib.hid (fun (w' : World) (d : DS w g nv root w') => depth_any l nv root w' (HT.out.sh.step d.bel) (HN.out.step d.bel) (by have := HL.out; omega) (fun x hx => (SM.out x hx).fit))
    have HM := Lib.hid (fun (w' : World) (d : DS w g nv root w') => same_any l l nv nv root root w' (HT.out.step d.bel) (HN.out.step d.bel) (by have := HL.out; omega) SM.out (HN.out.step d.bel) (by have := HL.out; omega) SM.out)
    by_cases hc : checkE l root = 0
    · have P := check_ok l root hc
      have hr := P.root_
      have hp := P.some_
      obtain ⟨a, ha⟩ : ∃ a, a = l.length - 1 := ⟨_, rfl⟩
      have hra : root = (a : Nat) := by omega
      have hal : a < l.length := by omega
      have HRD : Hid (∀ (w' : World), DS w g nv root w' → Calls Tryz.prog 14 #[.agg #[nv, .int .i64 root], .int .i64 root] w' fun e w'' => e = .returned (.int .i64 (deepS l a : Nat)) ∧ Below w'.heap.size w' w'') := Lib.hid (fun w' d => by
        have h := rdepth_any P nv root a hal w' (HN.out.step d.bel)
        rw [← hra] at h; exact h)
      have HD2 : Hid (∀ (w' : World), DS w g nv root w' → Calls Tryz.prog 12 #[.agg #[nv, .int .i64 root]] w' fun e w'' => e = .returned (.int .i64 (deepS l a : Nat)) ∧ Below w'.heap.size w' w'') := Lib.hid (fun w' d => by
        have h := HD.out w' d
        rw [if_pos hc, ← ha] at h; exact h)
      have HM2 : Hid (∀ (w' : World), DS w g nv root w' → Calls Tryz.prog 13 #[.agg #[nv, .int .i64 root], .agg #[nv, .int .i64 root]] w' fun e w'' => e = .returned (.bool true) ∧ Below w'.heap.size w' w'') := Lib.hid (fun w' d => by
        have h := HM.out w' d
        have e : sameB goPen l root l root = true := by unfold sameB; simp [hc]
        rw [e] at h; exact h)
      rw [hc]
      clear hc hr hp ha hra hal HF HD HM HC HG SM RD P
      generalize deepS l a = dd at *
      go_wp2_with fail
      clear a0 a1
      go_region_held3 (fun w' => w'.cell? ⟨g, 0, none⟩ = some nv ∧ w'.cell? ⟨g, 1, none⟩ = some (.int .i64 root) ∧ DS w g nv root w') (first | exact D4.out.two | exact (DS.keep D4.out ((Below.refl _ _).drew)).two | exact (DS.keep (by assumption) hb2).two) (first | (go_at_call 12; go_split_ands; refine (HD2.out _ (by assumption)).mono ?_; rintro e w2 ⟨rfl, hb2⟩) | (go_at_call 14; go_split_ands; refine (HRD.out _ (by assumption)).mono ?_; rintro e w2 ⟨rfl, hb2⟩) | (go_at_call 13; go_split_ands; refine (HM2.out _ (by assumption)).mono ?_; rintro e w2 ⟨rfl, hb2⟩))
      all_goals go_split_ands
      all_goals go_wp2_with fail
      all_goals go_ret
      all_goals exact ⟨rfl, (show DS w g nv root _ from by assumption).bel⟩
    · have HF2 : Hid (∀ (w' : World), DS w g nv root w' → Calls Tryz.prog 11 #[.agg #[nv, .int .i64 root], .int .i64 root] w' fun e w'' => e = .returned (.string ⟨#[]⟩) ∧ Below w'.heap.size w' w'') := Lib.hid (fun w' d => by
        have h := HF.out w' d root
        have e : FormS goPen l root root = ⟨#[]⟩ := by unfold FormS; rw [if_neg (fun x => hc x.2.2)]
        rw [e] at h; exact h)
      have HD2 : Hid (∀ (w' : World), DS w g nv root w' → Calls Tryz.prog 12 #[.agg #[nv, .int .i64 root]] w' fun e w'' => e = .returned (.int .i64 0) ∧ Below w'.heap.size w' w'') := Lib.hid (fun w' d => by
        have h := HD.out w' d
        rw [if_neg hc] at h; exact h)
      have HM2 : Hid (∀ (w' : World), DS w g nv root w' → Calls Tryz.prog 13 #[.agg #[nv, .int .i64 root], .agg #[nv, .int .i64 root]] w' fun e w'' => e = .returned (.bool false) ∧ Below w'.heap.size w' w'') := Lib.hid (fun w' d => by
        have h := HM.out w' d
        have e : sameB goPen l root l root = false := by unfold sameB; simp [hc]
        rw [e] at h; exact h)
      have he0 := str_empty'
      generalize checkE l root = c at *
      have hcc : (c == 0) = false := by simpa using hc
      clear HF HD HM HC HG SM RD
      go_wp2_with fail
      refine (HF2.out _ D4.out).mono ?_
      rintro e w5 ⟨rfl, hb5⟩
      have D5 := Lib.hid (D4.out.keep hb5)
      clear hb5 a0 a1 D4
      obtain ⟨a0, a1, -⟩ := D5.out.two
      go_wp2_with fail
      refine (HD2.out _ D5.out).mono ?_
      rintro e w6 ⟨rfl, hb6⟩
      have D6 := Lib.hid (D5.out.keep hb6)
      clear hb6 a0 a1 D5
      obtain ⟨a0, a1, -⟩ := D6.out.two
      go_wp2_with fail
      refine (HM2.out _ D6.out).mono ?_
      rintro e w7 ⟨rfl, hb7⟩
      have D7 := Lib.hid (D6.out.keep hb7)
      clear hb7
      go_wp2_with fail
      go_ret
      exact ⟨rfl, D7.out.bel⟩
end Go.Proofs.YtfalgnapghienaaGreatDoor
namespace Go.Proofs.YtfalgnapghienaaGreatDoor
open Go.ChangeShapes Go.WideShapes Go.ChangeAt Go.RowKit
open Go.ChangeMaps (open_string shut_string)
set_option linter.unusedVariables false

theorem checksw_any {w : World} (v : Value) (l : List Nd) (root : Int) (tv : TreeV w v l root) (rd : ∀ x ∈ l, NdRead x) (hT : Tabs w) : Calls Tryz.prog 3 #[v] w fun e w' => e = .returned (.bool true) ∧ Below w.heap.size w w' :=
  checks_any v l root tv rd hT (fun w2 hb => grows_any w2 (hT.step hb)) (fun w2 hb hs => by
    obtain ⟨nv, rfl, hn⟩ := tv
    exact rcheck_any l nv root w2 (hn.step hb) (small_get hs).1 (small_get hs).2)

set_option maxRecDepth 100000 in
theorem treeChecks_contract (H : Type) (enc : TypeId × Value → H) (W : World) (base : Nat) (args : Array Value) (ds gs : List (DataW H)) (before : List MemPlace)
    (hval0 : ∀ (j : Nat) t v, Tryz.f3.params[j]? = some t → args[j]? = some v → Value.okWide Tryz.prog W .any base t v)
    (hW : DataW.Whole enc Tryz.prog Tryz.f3.params.toList Rows.treeChecksSpec.vars false W args.toList ds gs before) (hsz0 : (DataW.weightsEach Tryz.prog (Tryz.f3.params.toList ++ Rows.treeChecksSpec.plain.varTypes Tryz.prog) (ds ++ gs)).all (· ≤ reachBytes) = true) (hL : laidMetH Tryz.prog Rows.treeChecksRow.laid W) :
    Calls Tryz.prog 3 args W fun e W' => ∃ v, e = .returned v ∧ Rows.treeChecksSpec.post enc Tryz.prog Tryz.f3 false true false false W args v W' := by
  have hval : ∀ (j : Nat) t v, Tryz.f3.params[j]? = some t → args[j]? = some v → Value.okWide Tryz.prog W .any base t v := hval0
  have hW' := hW
  obtain ⟨p, q, hA0, hV, rfl, hfz, hnd⟩ := hW
  have hA : DataW.TrodAll enc Tryz.prog W 0 (fun _ => true) true Tryz.f3.params.toList args.toList ds p := hA0
  have hsz : (DataW.weightsEach Tryz.prog (Tryz.f3.params.toList ++ []) (ds ++ gs)).all (· ≤ reachBytes) = true := hsz0
  rw [Tryz.params3] at hA hval hsz
  obtain ⟨v0, vs0, d0, ds0, p0, q0, hargs, rfl, rfl, h0, r0⟩ := trodAll_cons hA
  obtain ⟨rfl, rfl, rfl⟩ := trodAll_nil r0
  obtain rfl : args = #[v0] := by cases args; simp_all
  obtain ⟨rfl, rfl⟩ := trodVars_none hV
  have k0 := h0
  have lt0 : ∀ x ∈ p0, x.block < W.heap.size := by obtain ⟨m, hm⟩ := k0; exact DataW.trod_lt m _ _ _ hm
  obtain ⟨l0, root0, tv0, ll0, lg0⟩ := open_tree ⟨Tryz.underlying46, by kernel_rfl, rfl, by kernel_rfl, by kernel_rfl, by kernel_rfl, by kernel_rfl, by kernel_rfl, by kernel_rfl, by kernel_rfl, by kernel_rfl, Tryz.underlying42, Tryz.underlying44, Tryz.underlying35, Tryz.underlying3, Tryz.underlying2, Tryz.underlying9, by kernel_rfl, by kernel_rfl, by kernel_rfl, by kernel_rfl, by kernel_rfl, by kernel_rfl, by kernel_rfl, ⟨rfl, rfl⟩, ⟨rfl, rfl⟩, ⟨rfl, rfl⟩, ⟨rfl, rfl⟩, ⟨rfl, rfl⟩, ⟨rfl, rfl⟩⟩ Tryz.underlying22 Tryz.underlying24 (by kernel_rfl) (by kernel_rfl) rfl rfl (hval 0 24 v0 rfl rfl) h0
  have rd0 := lg0 (fun m hm => by
    have := List.all_eq_true.1 hsz m (DataW.weights_mem_each (j := 0) (t := 24) (d := d0) rfl rfl m hm)
    exact of_decide_eq_true this)
  clear hA0 hval0
  refine (checksw_any v0 l0 root0 tv0 rd0 (tabs_of (by rw [MakeChecks.laidMetH_plain _ _ _ (by kernel_rfl)] at hL; exact hL))).mono fun e W' ⟨he, bel⟩ => ?_
  subst he
  exact ⟨_, rfl, _, _, _, [], _, [], hW', trodAll_mk1 (shut_bool Tryz.underlying4 _), (trodAll_cons_mk (Below.trod laidOut (by kernel_rfl) (of_decide_eq_true (by kernel_rfl)) k0 bel lt0) trodAll_mk0), rfl, bel.frame _, fun h => by cases h⟩

set_option maxRecDepth 100000 in
theorem treeChecks_lifted (os : Os) (started : os.Started) (H : Type) (enc : TypeId × Value → H) :
    ReturnsInHanded {} Tryz.checked os 3 .any (fun w args => (Rows.treeChecksSpec.pre enc Tryz.prog Tryz.f3 Rows.treeChecksRow.domain false w args ∧ laidMetH Tryz.prog Rows.treeChecksRow.laid w) ∧ sizedMet enc Tryz.prog Tryz.f3 (OpenSpec.ofChange Rows.treeChecksSpec) false w args)
      (Rows.treeChecksSpec.post enc Tryz.prog Tryz.f3 false true false false) := by
  refine returnsInHanded_of_change_and (C := Tryz.checked) (X := fun w _ => laidMetH Tryz.prog Rows.treeChecksRow.laid w) (fun _ _ _ hh h => h.of_heap hh) own started (by kernel_rfl) Tryz.func3
    (ChangeSpec.witness_shaped (enc := enc) (C := Tryz.checked) (os := os) (X := fun w _ => laidMetH Tryz.prog Rows.treeChecksRow.laid w) false (World.laidAll Tryz.prog os laidL) #[.agg #[.slice none 0 0, .int .i64 0]] 8 (World.laidAll_os _ _ _)
      (World.shaped_of_ZipB (by kernel_rfl) (by kernel_rfl)) (by kernel_rfl) (by kernel_rfl) (by kernel_rfl)
      (by rw [MakeChecks.laidMetH_plain _ _ _ (by kernel_rfl)]; exact laidMet_laidAll _ (by kernel_rfl) (by kernel_rfl))) ?_
  intro W base args ds gs before hval hW _ hsz hL _
  exact treeChecks_contract H enc W base args ds gs before hval hW hsz hL

theorem treeChecks_said : Rows.TreeChecksSaid :=
  OpenClaim.holds_of_wide 3 Tryz.f3 rfl rfl rfl rfl rfl rfl rfl ⟨rfl, rfl, rfl, rfl, rfl⟩ rfl rfl rfl rfl rfl (by kernel_rfl) Tryz.func3 (by kernel_rfl)
    (of_decide_eq_true (by kernel_rfl)) (by unfold Func.isWrapper; first | (rw [if_pos (by decide +kernel)]; kernel_rfl) | (rw [if_neg (by decide +kernel)]; exact ⟨rfl, rfl⟩))
    (fun os started H enc _ => treeChecks_lifted os started H enc)

theorem treeChecks_plain (f : FuncId) (fn : Func) (hf : Tryz.pinned.checked.prog.funcNamed "caulker/caulkerlaw07.TreeChecks" = some f) (hfn : Tryz.pinned.checked.prog.funcs[f]? = some fn) :
    false = Tryz.pinned.checked.prog.looks [] ∧ ∀ (j : Nat) t, fn.params[j]? = some t → Tryz.pinned.checked.prog.wantsStandIn t = false := by
  obtain rfl : f = 3 := Option.some.inj ((show Tryz.prog.funcNamed "caulker/caulkerlaw07.TreeChecks" = some 3 by kernel_rfl).symm.trans hf) |>.symm
  obtain rfl : fn = Tryz.f3 := (Option.some.inj (Tryz.func3.symm.trans hfn)).symm
  refine ⟨by kernel_rfl, fun j t ht => ?_⟩
  rw [Tryz.params3] at ht
  have hm := Array.mem_of_getElem? ht
  simp only [List.mem_toArray, List.mem_cons, List.not_mem_nil, or_false] at hm
  rcases hm with rfl
  · exact (show Tryz.prog.wantsStandIn 24 = false by kernel_rfl)

/-- THE CARD. -/
theorem treeChecks_proved : Rows.TreeChecksCardSaid :=
  Claim7.holds_tied_plain_at .later [] _ _ _ _ treeChecks_said (fun _ h => by cases h) (by kernel_rfl) (fun _ h => by cases h) treeChecks_row_tie rfl ⟨rfl, rfl⟩ (by kernel_rfl) rfl treeChecks_plain (by kernel_rfl)
end Go.Proofs.YtfalgnapghienaaGreatDoor
