/- How an argument that is a list of acts is opened. -/
import Derived.Test.YtfkcjnlhindhfaaHpO
import Derived.ProofKit
import Derived.OpenShut
import Derived.Lib.SmallJoins
import Derived.Deep.Slices
import Derived.Deep.Fields
import Derived.Deep.Strs
import Derived.ChangeSame
import Derived.SizedLaws
namespace Go.Proofs.Ytfkcjnlhindhfaa
open Go Go.RowKit
open Go.ChangeShapes Go.WideShapes Go.ChangeAt Go.Joins Go.Deep
set_option linter.unusedVariables false
set_option linter.unusedSimpArgs false

theorem list_of {α : Type} (Q : Nat → α → Prop) (n : Nat) (h : ∀ i, i < n → ∃ x, Q i x) : ∃ l : List α, l.length = n ∧ ∀ i (hi : i < l.length), Q i l[i] := by
  induction n with
  | zero => exact ⟨[], rfl, fun i hi => absurd hi (by simp)⟩
  | succ n ih =>
    obtain ⟨l, hl, hq⟩ := ih fun i hi => h i (by omega)
    obtain ⟨x, hx⟩ := h n (by omega)
    refine ⟨l ++ [x], by simp [hl], fun i hi => ?_⟩
    by_cases hlt : i < l.length
    · rw [List.getElem_append_left hlt]; exact hq i hlt
    · have hin : i = n := by simp at hi; omega
      subst hin
      rw [List.getElem_append_right (by omega)]
      simpa [hl] using hx
theorem weights_all {H : Type} {P : Program} {e : TypeId} : ∀ {l : List (DataW H)} {d : DataW H}, d ∈ l → ∀ n ∈ d.weights P e, n ∈ DataW.weightsAll P e l
  | d' :: r, d, hd, n, hn => by
    simp only [DataW.weightsAll, List.mem_append]
    rcases List.mem_cons.1 hd with rfl | h
    · exact Or.inl hn
    · exact Or.inr (weights_all h n hn)

section
variable {H : Type} {enc : TypeId × Value → H} {P : Program} {w : World} {base : Nat} {spare : Nat → Bool} {held : Bool}
/-- what is read is no heavier than memory -/
def Light (P : Program) (t : TypeId) (d : DataW H) : Prop := ∀ n ∈ d.weights P t, n ≤ reachBytes
theorem trod_text {tT : TypeId} (hT : P.underlying tT = some .string) {n : Nat} {c : Value} {y : DataW H × List MemPlace} (h : DataW.trod enc P w base spare held n tT [c] = some y) :
    ∃ s : ByteArray, c = .string s ∧ s.size ≤ maxLen ∧ (Light P tT y.1 → s.size ≤ 281474976710656) := by
  obtain ⟨s, r, hd, hs⟩ := DataW.trod_string hT h
  simp at r
  refine ⟨s, r, hs, fun hL => ?_⟩
  have h1 := hL s.data.toList.length (by rw [hd]; simp [DataW.weights])
  have h2 : s.data.toList.length = s.size := by rw [Array.length_toList]; rfl
  have h3 := reachBytes_lt
  omega
theorem light_field {t : TypeId} {fs : Array Field} {ds : List (DataW H)} {j : Nat} {f : Field} {d : DataW H} (ht : P.underlying t = some (.struct fs)) (hL : Light P t (.agg ds)) (hf : fs[j]? = some f) (hd : ds[j]? = some d) : Light P f.type d := fun m hm => hL m (by
  simp only [DataW.weights, ht]
  exact DataW.weights_mem_each (j := j) (t := f.type) (d := d) (by simp [hf]) hd m hm)
theorem trod_type4 {tY tI tT : TypeId} {g0 g1 g2 g3 : Field} (hY : P.underlying tY = some (.struct #[g0, g1, g2, g3])) (hI : P.underlying tI = some (.int .i64)) (hT : P.underlying tT = some .string) (hC : P.cellsOf tI = 1) (hCT : P.cellsOf tT = 1)
    (h0 : g0.type = tI) (h1 : g1.type = tT) (h2 : g2.type = tI) (h3 : g3.type = tT) (o0 : g0.offset = 0) (o1 : g1.offset = 1) (o2 : g2.offset = 2) (o3 : g3.offset = 3)
    {n : Nat} {c0 c1 c2 c3 : Value} {y : DataW H × List MemPlace} (h : DataW.trod enc P w base spare held n tY [c0, c1, c2, c3] = some y) :
    ∃ (B : Int) (N : ByteArray) (D : Int) (M : ByteArray), c0 = .int .i64 B ∧ c1 = .string N ∧ c2 = .int .i64 D ∧ c3 = .string M ∧ N.size ≤ maxLen ∧ M.size ≤ maxLen ∧ (Light P tY y.1 → N.size ≤ 281474976710656) := by
  obtain ⟨z0, z1, z2, z3, n'', hy, -, q0, q1, q2, q3⟩ := trod_struct4 hY h
  rw [o0, h0, hC] at q0
  rw [o1, h1, hCT] at q1
  rw [o2, h2, hC] at q2
  rw [o3, h3, hCT] at q3
  simp only [List.drop_zero, List.drop_succ_cons, List.take_succ_cons, List.take_zero] at q0 q1 q2 q3
  obtain ⟨B, r0, -, -⟩ := DataW.trod_int hI q0
  obtain ⟨N, r1, s1, l1⟩ := trod_text hT q1
  obtain ⟨D, r2, -, -⟩ := DataW.trod_int hI q2
  obtain ⟨M, r3, s3, -⟩ := trod_text hT q3
  simp at r0 r2
  exact ⟨B, N, D, M, r0, r1, r2, r3, s1, s3, fun hL => l1 (by
    rw [hy] at hL
    have this : Light P g1.type z1.1 := light_field (j := 1) hY hL rfl rfl
    rwa [h1] at this)⟩
theorem trod_val3 {tV tI tL tT : TypeId} {g0 g1 g2 : Field} (hV : P.underlying tV = some (.struct #[g0, g1, g2])) (hI : P.underlying tI = some (.int .i64)) (h64 : P.underlying tL = some (.int .i64)) (hT : P.underlying tT = some .string) (hC : P.cellsOf tI = 1) (hCL : P.cellsOf tL = 1) (hCT : P.cellsOf tT = 1)
    (h0 : g0.type = tI) (h1 : g1.type = tL) (h2 : g2.type = tT) (o0 : g0.offset = 0) (o1 : g1.offset = 1) (o2 : g2.offset = 2)
    {n : Nat} {c0 c1 c2 : Value} {y : DataW H × List MemPlace} (h : DataW.trod enc P w base spare held n tV [c0, c1, c2] = some y) :
    ∃ (k m : Int) (s : ByteArray), c0 = .int .i64 k ∧ c1 = .int .i64 m ∧ c2 = .string s ∧ (Light P tV y.1 → s.size ≤ 281474976710656) := by
  obtain ⟨z0, z1, z2, n'', hy, -, q0, q1, q2⟩ := trod_struct3 hV h
  rw [o0, h0, hC] at q0
  rw [o1, h1, hCL] at q1
  rw [o2, h2, hCT] at q2
  simp only [List.drop_zero, List.drop_succ_cons, List.take_succ_cons, List.take_zero] at q0 q1 q2
  obtain ⟨k, r0, -, -⟩ := DataW.trod_int hI q0
  obtain ⟨m, r1, -, -⟩ := DataW.trod_int h64 q1
  obtain ⟨s, r2, -, l2⟩ := trod_text hT q2
  simp at r0 r1
  exact ⟨k, m, s, r0, r1, r2, fun hL => l2 (by
    rw [hy] at hL
    have this : Light P g2.type z2.1 := light_field (j := 2) hV hL rfl rfl
    rwa [h2] at this)⟩
/-- where the row of a slice that was read lies -/
theorem row_place {tE : TypeId} {a : Addr} {len sz : Nat} (h0 : 0 < len) (hsz : 0 < sz) (hall : ∀ j, j < len → ∃ cs' : List Value, cs'.length = sz ∧ ∀ i, i < sz → w.cell? ((a.add (j * sz)).add i) = cs'[i]?) : ∃ b off, a = ⟨b, off, none⟩ ∧ b < w.heap.size := by
  obtain ⟨b, off, spot⟩ := a
  obtain ⟨cs', hcl, hat⟩ := hall 0 h0
  have z0 : w.cell? (((⟨b, off, spot⟩ : Addr).add (0 * sz)).add 0) = some (cs'[0]'(by omega)) := by rw [hat 0 hsz]; exact List.getElem?_eq_getElem _
  have hs : spot = none := by simpa [Addr.add] using World.cell?_spot z0
  subst hs
  refine ⟨b, off, rfl, ?_⟩
  by_cases hb : b < w.heap.size
  · exact hb
  · simp [World.cell?, Addr.add, Array.getElem?_eq_none (show w.heap.size ≤ b by omega)] at z0
/-- the types of an act -/
structure OpTypes (P : Program) (tO tI tL tT tY tYs tV : TypeId) (fs : Array Field) (g0 g1 g2 g3 v0 v1 v2 : Field) : Prop where
  hO : P.underlying tO = some (.struct fs)
  cO : P.cellsOf tO = 14
  len : fs.size = 7
  f0 : fs[0]?.map (fun f => (f.type, f.offset)) = some (tI, 0)
  f1 : fs[1]?.map (fun f => (f.type, f.offset)) = some (tT, 1)
  f2 : fs[2]?.map (fun f => (f.type, f.offset)) = some (tYs, 2)
  f3 : fs[3]?.map (fun f => (f.type, f.offset)) = some (tY, 3)
  f4 : fs[4]?.map (fun f => (f.type, f.offset)) = some (tL, 7)
  f5 : fs[5]?.map (fun f => (f.type, f.offset)) = some (tV, 8)
  f6 : fs[6]?.map (fun f => (f.type, f.offset)) = some (tV, 11)
  hY : P.underlying tY = some (.struct #[g0, g1, g2, g3])
  hYs : P.underlying tYs = some (.slice tY)
  hV : P.underlying tV = some (.struct #[v0, v1, v2])
  hI : P.underlying tI = some (.int .i64)
  hL : P.underlying tL = some (.int .i64)
  hT : P.underlying tT = some .string
  cI : P.cellsOf tI = 1
  cL : P.cellsOf tL = 1
  cT : P.cellsOf tT = 1
  cY : P.cellsOf tY = 4
  cYs : P.cellsOf tYs = 1
  cV : P.cellsOf tV = 3
  g0t : g0.type = tI ∧ g0.offset = 0
  g1t : g1.type = tT ∧ g1.offset = 1
  g2t : g2.type = tI ∧ g2.offset = 2
  g3t : g3.type = tT ∧ g3.offset = 3
  v0t : v0.type = tI ∧ v0.offset = 0
  v1t : v1.type = tL ∧ v1.offset = 1
  v2t : v2.type = tT ∧ v2.offset = 2
theorem field_of {fs : Array Field} {i : Nat} {t : TypeId} {o : Nat} (h : fs[i]?.map (fun f => (f.type, f.offset)) = some (t, o)) : ∃ f, fs[i]? = some f ∧ f.type = t ∧ f.offset = o := by
  obtain ⟨f, h1, h2⟩ := Option.map_eq_some_iff.1 h
  simp at h2
  exact ⟨f, h1, h2.1, h2.2⟩
section
variable {tO tI tL tT tY tYs tV : TypeId} {fs : Array Field} {g0 g1 g2 g3 v0 v1 v2 : Field} (T : OpTypes P tO tI tL tT tY tYs tV fs g0 g1 g2 g3 v0 v1 v2)
include T
theorem trod_tys {n : Nat} {c : Value} {y : DataW H × List MemPlace} (h : DataW.trod enc P w base spare held n tYs [c] = some y) : ∃ l, TysV w c l ∧ ∀ t ∈ l, t.2.2.2.size ≤ maxLen := by
  rcases open_slice T.hYs h with ⟨hcs, -⟩ | ⟨a, len, cap, m, k, D, Pl, hcs, hb, hl, hm, hmm, hy, hall⟩
  · simp at hcs
    subst hcs
    exact ⟨[], ⟨none, 0, rfl, fun h => absurd h (by simp)⟩, fun x hx => by cases hx⟩
  · simp at hcs
    subst hcs
    have hml : len ≤ m := by rw [hmm]; split <;> omega
    by_cases h0 : len = 0
    · subst h0
      exact ⟨[], ⟨some a, cap, rfl, fun h => absurd h (by simp)⟩, fun x hx => by cases hx⟩
    · have hrow : ∀ j, j < len → ∃ cs' : List Value, cs'.length = 4 ∧ (∀ i, i < 4 → w.cell? ((a.add (j * 4)).add i) = cs'[i]?) ∧ DataW.trod enc P w base spare held k tY cs' = some (D j, Pl j) := fun j hj => by
        obtain ⟨cs', hc, ht'⟩ := hall j (by omega)
        rw [T.cY] at hc
        obtain ⟨-, hcl, hat⟩ := World.cells?_some hc
        exact ⟨cs', hcl, hat, ht'⟩
      obtain ⟨b, off, rfl, hlt⟩ := row_place (w := w) (a := a) (len := len) (sz := 4) (tE := tY) (Nat.pos_of_ne_zero h0) (by omega) (fun j hj => by obtain ⟨cs', q1, q2, -⟩ := hrow j hj; exact ⟨cs', q1, q2⟩)
      obtain ⟨l, hll, hq⟩ := list_of (fun j (x : Ty4) => (w.cell? ⟨b, off + j * 4, none⟩ = some (.int .i64 x.1) ∧ w.cell? ⟨b, off + j * 4 + 1, none⟩ = some (.string x.2.1) ∧ w.cell? ⟨b, off + j * 4 + 2, none⟩ = some (.int .i64 x.2.2.1) ∧ w.cell? ⟨b, off + j * 4 + 3, none⟩ = some (.string x.2.2.2)) ∧ x.2.2.2.size ≤ maxLen) len (fun j hj => by
        obtain ⟨cs', hcl, hat, ht'⟩ := hrow j hj
        match cs', hcl with
        | [c0, c1, c2, c3], _ =>
          obtain ⟨B, N, D', M, r0, r1, r2, r3, -, s3, -⟩ := trod_type4 T.hY T.hI T.hT T.cI T.cT T.g0t.1 T.g1t.1 T.g2t.1 T.g3t.1 T.g0t.2 T.g1t.2 T.g2t.2 T.g3t.2 ht'
          subst r0 r1 r2 r3
          have z : ∀ i, i < 4 → w.cell? ⟨b, off + j * 4 + i, none⟩ = [Value.int .i64 B, .string N, .int .i64 D', .string M][i]? := fun i hi => by have := hat i hi; rwa [add_at, add_at] at this
          exact ⟨(B, N, D', M), ⟨z 0 (by omega), z 1 (by omega), z 2 (by omega), z 3 (by omega)⟩, s3⟩)
      refine ⟨l, ⟨some ⟨b, off, none⟩, cap, by rw [hll], fun _ => ⟨b, off, rfl, hlt, fun i hi => (hq i hi).1⟩⟩, fun t ht => ?_⟩
      obtain ⟨i, hi, rfl⟩ := List.getElem_of_mem ht
      exact (hq i hi).2
theorem trod_op {n : Nat} {cs : List Value} {y : DataW H × List MemPlace} (h : DataW.trod enc P w base spare held n tO cs = some y) : ∃ x tv, TysV w tv x.types ∧ cs = opC x tv ∧ (Light P tO y.1 → OpFit x) := by
  obtain ⟨xs, n', -, hy, hcl, hxl, hf⟩ := DataW.trod_struct T.hO h
  rw [T.cO] at hcl
  rw [T.len] at hxl
  match cs, hcl, xs, hxl with
  | [c0, c1, c2, c3, c4, c5, c6, c7, c8, c9, c10, c11, c12, c13], _, [x0, x1, x2, x3, x4, x5, x6], _ =>
    obtain ⟨F0, e0, t0, o0⟩ := field_of T.f0
    obtain ⟨F1, e1, t1, o1⟩ := field_of T.f1
    obtain ⟨F2, e2, t2, o2⟩ := field_of T.f2
    obtain ⟨F3, e3, t3, o3⟩ := field_of T.f3
    obtain ⟨F4, e4, t4, o4⟩ := field_of T.f4
    obtain ⟨F5, e5, t5, o5⟩ := field_of T.f5
    obtain ⟨F6, e6, t6, o6⟩ := field_of T.f6
    have q0 := hf 0 F0 e0
    have q1 := hf 1 F1 e1
    have q2 := hf 2 F2 e2
    have q3 := hf 3 F3 e3
    have q4 := hf 4 F4 e4
    have q5 := hf 5 F5 e5
    have q6 := hf 6 F6 e6
    rw [t0, o0, T.cI] at q0
    rw [t1, o1, T.cT] at q1
    rw [t2, o2, T.cYs] at q2
    rw [t3, o3, T.cY] at q3
    rw [t4, o4, T.cL] at q4
    rw [t5, o5, T.cV] at q5
    rw [t6, o6, T.cV] at q6
    simp only [List.drop_succ_cons, List.drop_zero, List.take_succ_cons, List.take_zero, List.getElem?_cons_zero, List.getElem?_cons_succ] at q0 q1 q2 q3 q4 q5 q6
    obtain ⟨kind, r0, -, -⟩ := DataW.trod_int T.hI q0
    obtain ⟨text, r1, s1, -⟩ := trod_text T.hT q1
    obtain ⟨types, hty, hts⟩ := trod_tys T q2
    obtain ⟨B, N, D, M, r3, r4, r5, r6, s4, s6, l4⟩ := trod_type4 T.hY T.hI T.hT T.cI T.cT T.g0t.1 T.g1t.1 T.g2t.1 T.g3t.1 T.g0t.2 T.g1t.2 T.g2t.2 T.g3t.2 q3
    obtain ⟨num, r7, -, -⟩ := DataW.trod_int T.hL q4
    obtain ⟨ak, am, aS, r8, r9, r10, -⟩ := trod_val3 T.hV T.hI T.hL T.hT T.cI T.cL T.cT T.v0t.1 T.v1t.1 T.v2t.1 T.v0t.2 T.v1t.2 T.v2t.2 q5
    obtain ⟨tk, tn, ts, r11, r12, r13, l13⟩ := trod_val3 T.hV T.hI T.hL T.hT T.cI T.cL T.cT T.v0t.1 T.v1t.1 T.v2t.1 T.v0t.2 T.v1t.2 T.v2t.2 q6
    simp at r0 r7
    subst r0 r1 r3 r4 r5 r6 r7 r8 r9 r10 r11 r12 r13
    refine ⟨⟨kind, text, types, (B, N, D, M), num, (ak, am, aS), (tk, tn, ts)⟩, c2, hty, rfl, fun hL => ⟨s1, s6, l4 ?_, l13 ?_, hts⟩⟩
    · rw [hy] at hL
      have this : Light P F3.type x3.1 := light_field (j := 3) T.hO hL e3 (by simp)
      rwa [t3] at this
    · rw [hy] at hL
      have this : Light P F6.type x6.1 := light_field (j := 6) T.hO hL e6 (by simp)
      rwa [t6] at this
/-- acts that came in, as a value -/
def OpsV (w : World) (v : Value) (l : List OpM) : Prop := ∃ src cap, v = .slice src l.length cap ∧ OpsIn w src l
theorem trod_ops {tOs : TypeId} (hOs : P.underlying tOs = some (.slice tO)) {n : Nat} {c : Value} {y : DataW H × List MemPlace} (h : DataW.trod enc P w base spare held n tOs [c] = some y) : ∃ l, OpsV w c l ∧ l.length ≤ maxLen ∧ (Light P tOs y.1 → ∀ x ∈ l, OpFit x) := by
  rcases open_slice hOs h with ⟨hcs, -⟩ | ⟨a, len, cap, m, k, D, Pl, hcs, hb, hl, hm, hmm, hy, hall⟩
  · simp at hcs
    subst hcs
    exact ⟨[], ⟨none, 0, rfl, fun h => absurd h (by simp)⟩, Nat.zero_le _, fun _ x hx => by cases hx⟩
  · simp at hcs
    subst hcs
    have hml : len ≤ m := by rw [hmm]; split <;> omega
    by_cases h0 : len = 0
    · subst h0
      exact ⟨[], ⟨some a, cap, rfl, fun h => absurd h (by simp)⟩, Nat.zero_le _, fun _ x hx => by cases hx⟩
    · have hrow : ∀ j, j < len → ∃ cs' : List Value, cs'.length = 14 ∧ (∀ i, i < 14 → w.cell? ((a.add (j * 14)).add i) = cs'[i]?) ∧ DataW.trod enc P w base spare held k tO cs' = some (D j, Pl j) := fun j hj => by
        obtain ⟨cs', hc, ht'⟩ := hall j (by omega)
        rw [T.cO] at hc
        obtain ⟨-, hcl, hat⟩ := World.cells?_some hc
        exact ⟨cs', hcl, hat, ht'⟩
      obtain ⟨b, off, rfl, hlt⟩ := row_place (w := w) (a := a) (len := len) (sz := 14) (tE := tO) (Nat.pos_of_ne_zero h0) (by omega) (fun j hj => by obtain ⟨cs', q1, q2, -⟩ := hrow j hj; exact ⟨cs', q1, q2⟩)
      obtain ⟨l, hll, hq⟩ := list_of (fun j (x : OpM) => (∃ tv, TysV w tv x.types ∧ ∀ i u, (opC x tv)[i]? = some u → w.cell? ⟨b, off + j * 14 + i, none⟩ = some u) ∧ (Light P tO (D j) → OpFit x)) len (fun j hj => by
        obtain ⟨cs', hcl, hat, ht'⟩ := hrow j hj
        obtain ⟨x, tv, h1, rfl, h3⟩ := trod_op T ht'
        refine ⟨x, ⟨tv, h1, fun i u hi => ?_⟩, h3⟩
        have hi' : i < 14 := (List.getElem?_eq_some_iff.1 hi).1
        have := hat i hi'
        rw [add_at, add_at] at this
        rw [this]; exact hi)
      refine ⟨l, ⟨some ⟨b, off, none⟩, cap, by rw [hll], fun _ => ⟨b, off, rfl, hlt, fun i hi => (hq i hi).1⟩⟩, by omega, fun hL x hx => ?_⟩
      obtain ⟨i, hi, rfl⟩ := List.getElem_of_mem hx
      refine (hq i hi).2 fun m' hm' => hL m' ?_
      rw [hy]
      simp only [DataW.weights, hOs]
      refine List.mem_cons_of_mem _ (List.mem_append_left _ (weights_all (d := D i) ?_ m' hm'))
      exact List.mem_map.2 ⟨i, List.mem_range.2 (by omega), rfl⟩
theorem open_ops {tOs : TypeId} (hOs : P.underlying tOs = some (.slice tO)) {r : Reach} {b0 : Nat} {v : Value} {d : DataW H} {p : List MemPlace} (hv : Value.okWide P w r b0 tOs v) (h : DataW.Trod enc P w base spare held tOs v d p) :
    ∃ l, OpsV w v l ∧ l.length ≤ maxLen ∧ (Light P tOs d → ∀ x ∈ l, OpFit x) := by
  obtain ⟨a0, len0, cap0, rfl⟩ := okWide_slice hOs hv
  obtain ⟨fuel, hf⟩ := h
  exact trod_ops T hOs (by simpa [Value.cells] using hf)
end
end
end Go.Proofs.Ytfkcjnlhindhfaa
