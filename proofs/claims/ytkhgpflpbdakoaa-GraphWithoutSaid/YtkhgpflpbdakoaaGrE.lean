/- What becomes of a graph's parts when an edge is added: the set, the numbers, the row. -/
import Derived.Test.YtkhgpflpbdakoaaGrC
namespace Go.Proofs.Ytkhgpflpbdakoaa
open Go Go.RowKit
set_option linter.unusedVariables false
set_option linter.unusedSimpArgs false

theorem map_ne_row {w : World} {k : TypeId} {b n : Nat} {f : Value → Option Value} (h : MapIs Try.prog k w b n f) {B : Nat} {e : TypeId} {s : Nat} {v : Value} {m : Nat} {xs : List Value} (hr : w.ownsRow B e s v m xs) : v.ownBlock ≠ some b := by
  rcases hr.2 with ⟨rfl, _⟩ | ⟨g, cap, cur, rfl, _, hg, _⟩
  · intro q; cases q
  · intro q
    cases q
    exact h.ne_cells hg rfl
theorem row_ne_row {w : World} {B B' : Nat} {e e' : TypeId} {s s' : Nat} {v v' : Value} {m m' : Nat} {xs xs' : List Value} (hr : w.ownsRow B e s v m xs) (hr' : w.ownsRow B' e' s' v' m' xs') (hT : e ≠ e') : v.ownBlock = none ∨ v.ownBlock ≠ v'.ownBlock := by
  rcases hr.2 with ⟨rfl, _⟩ | ⟨g, cap, cur, rfl, _, hg, _⟩
  · exact .inl rfl
  · refine .inr fun q => ?_
    have := own_ne hr' hg hT
    exact this q
theorem GrP.box_ne {w : World} {B n : Nat} {L Lo Lt : List Eg} {S : GrS} (h : GrP w B n L Lo Lt S) {B' : Nat} {e : TypeId} {s : Nat} {v : Value} {m : Nat} {xs : List Value} (hr : w.ownsRow B' e s v m xs) (hT : 57 ≠ e) : v.ownBlock ≠ some S.g := by
  have := own_ne hr h.box hT
  exact fun q => this q.symm
theorem GrP.mo_ne {w : World} {B n : Nat} {L Lo Lt : List Eg} {S : GrS} (h : GrP w B n L Lo Lt S) : S.mo ≠ S.g ∧ S.mt ≠ S.g := ⟨h.out.ne_cells h.box, h.there.ne_cells h.box⟩
theorem natC_app (l : List Nat) (i : Nat) : natC (l ++ [i]) = natC l ++ [.int .i64 (i : Int)] := by unfold natC; simp

/-- behind the set's store -/
theorem GrP.step_there {w w' : World} {B n : Nat} {L Lo Lt : List Eg} {S : GrS} (h : GrP w B n L Lo Lt S) {e : Eg} (hg : w.grownBy w' (some S.mt)) (hm : MapIs Try.prog 29 w' S.mt (Lt.length + 1) (putF (setF Lt) (egA e) (.agg #[]))) :
    GrP w' B n L Lo (Lt ++ [e]) S := by
  have ht : ∀ k, k < w.heap.size → k ≠ S.mt → w'.heap[k]? = w.heap[k]? := fun k hk hne => hg.block k hk (fun q => hne (by cases q; rfl))
  have hr : ∀ {B' : Nat} {e' : TypeId} {s : Nat} {v : Value} {m : Nat} {xs : List Value}, w.ownsRow B' e' s v m xs → w'.ownsRow B' e' s v m xs := fun h1 =>
    row_at h1 hg.size (fun k q => ht k (row_lt h1 q) (fun q2 => map_ne_row h.there h1 (by rw [q, q2])))
  refine ⟨h.bg, h.bo, h.bt, h.not, h.box.at_ (k := S.g) (ht _ h.box.lt h.mo_ne.2.symm), hr h.es, h.out.at_ (ht _ h.out.lt h.not), ?_, fun z v hv => hr (h.rows z v hv), h.rows0, h.apart, h.inn⟩
  rw [setF_add] at hm
  simpa using hm

/-- the numbers of a node's edges, as the map has them -/
def GrS.at_ (S : GrS) (z : Int) : Value := (S.f (.int .i64 z)).getD (.slice none 0 0)
theorem GrP.at_row {w : World} {B n : Nat} {L Lo Lt : List Eg} {S : GrS} (h : GrP w B n L Lo Lt S) (z : Int) : w.ownsRow B 3 1 (S.at_ z) (idx Lo z).length (natC (idx Lo z)) := by
  unfold GrS.at_
  cases hf : S.f (.int .i64 z) with
  | none => rw [h.rows0 z hf]; exact World.ownsRow_nil _ _ _ _
  | some v => exact h.rows z v hf
theorem GrP.at_look {w : World} {B n : Nat} {L Lo Lt : List Eg} {S : GrS} (h : GrP w B n L Lo Lt S) {z : Int} (hz : In64 z) :
    (Instr.lookup 54 (.map (some S.mo)) (.int .i64 z) false).run Try.prog w = .ok (S.at_ z) w := by
  have h0 : (zeroValue 44).run Try.prog w = .ok (.slice none 0 0) w := by kernel_rfl
  have := h.out.look int_keyed' Try.underlying54 h0 (int_key hz) false
  rw [this]
  rfl
/-- a graph with other numbers at a node -/
noncomputable def GrS.putAt (S : GrS) (z : Int) (v : Value) : GrS := { S with f := putF S.f (.int .i64 z) v }
/-- behind the numbers' append and store -/
theorem GrP.step_out {w w1 w2 : World} {B n : Nat} {L Lo Lt : List Eg} {S : GrS} (h : GrP w B n L Lo Lt S) {e : Eg} {v' : Value} (hB : B ≤ w.heap.size)
    (hown : w1.ownsRow B 3 1 v' ((idx Lo e.1).length + 1) (natC (idx Lo e.1) ++ [.int .i64 (Lo.length : Int)])) (hg : w.grownBy w1 (S.at_ e.1).ownBlock) (hat : v'.ownBlock = (S.at_ e.1).ownBlock ∨ ∃ g, v'.ownBlock = some g ∧ w.heap.size ≤ g)
    (hm : MapIs Try.prog 3 w2 S.mo (Lo.length + 1) (putF S.f (.int .i64 e.1) v')) (hg2 : w1.grownBy w2 (some S.mo)) :
    GrP w2 B n L (Lo ++ [e]) Lt (S.putAt e.1 v') := by
  have hrow := h.at_row e.1
  have k1 : ∀ k, k < w.heap.size → (S.at_ e.1).ownBlock ≠ some k → w1.heap[k]? = w.heap[k]? := fun k hk hne => hg.block k hk (fun q => hne q.symm)
  have hs1 : w.heap.size ≤ w1.heap.size := hg.size
  have k2 : ∀ k, k < w1.heap.size → k ≠ S.mo → w2.heap[k]? = w1.heap[k]? := fun k hk hne => hg2.block k hk (fun q => hne (by cases q; rfl))
  have k3 : ∀ k, k < w.heap.size → (S.at_ e.1).ownBlock ≠ some k → k ≠ S.mo → w2.heap[k]? = w.heap[k]? := fun k hk hne hm => (k2 k (by omega) hm).trans (k1 k hk hne)
  have hs2 : w.heap.size ≤ w2.heap.size := Nat.le_trans hs1 hg2.size
  have o1 : MapIs Try.prog 3 w1 S.mo Lo.length S.f := h.out.at_ (k1 _ h.out.lt (map_ne_row h.out hrow))
  have hv2 : w2.ownsRow B 3 1 v' ((idx Lo e.1).length + 1) (natC (idx Lo e.1) ++ [.int .i64 (Lo.length : Int)]) :=
    row_at hown hg2.size (fun k q => k2 k (row_lt hown q) (fun q2 => map_ne_row o1 hown (by rw [q, q2])))
  -- rows of other keys
  have hoth : ∀ z v, z ≠ e.1 → S.f (.int .i64 z) = some v → v.ownBlock = none ∨ v.ownBlock ≠ (S.at_ e.1).ownBlock := by
    intro z v hz hv
    unfold GrS.at_
    cases hf : S.f (.int .i64 e.1) with
    | none =>
      cases hb : v.ownBlock with
      | none => exact .inl rfl
      | some b => exact .inr (fun q => by cases q)
    | some u => exact h.apart z e.1 v u hv hf hz
  refine ⟨h.bg, h.bo, h.bt, h.not, h.box.at_ (k := S.g) (k3 _ h.box.lt (h.box_ne hrow (by decide)) h.mo_ne.1.symm), ?_, ?_, h.there.at_ (k3 _ h.there.lt (map_ne_row h.there hrow) h.not.symm), ?_, ?_, ?_, h.inn⟩
  · exact row_at h.es hs2 (fun k (q : S.ev.ownBlock = some k) => k3 k (row_lt h.es q) (fun q2 => by
      rcases row_ne_row h.es hrow (by decide) with q3 | q3
      · rw [q] at q3; cases q3
      · exact q3 (by rw [q, q2])) (fun q2 => map_ne_row h.out h.es (by rw [q, q2])))
  · rw [List.length_append]
    exact hm
  · intro z v hv
    by_cases hz : z = e.1
    · subst hz
      have hv : putF S.f (.int .i64 e.1) v' (.int .i64 e.1) = some v := hv
      rw [putF_same] at hv
      cases hv
      rw [idx_add, if_pos rfl, natC_app, List.length_append]
      exact hv2
    · have hv : putF S.f (.int .i64 e.1) v' (.int .i64 z) = some v := hv
      rw [putF_other _ _ _ (by simpa using hz)] at hv
      rw [idx_add, if_neg (fun q => hz q.symm), List.append_nil]
      have h1 := h.rows z v hv
      refine row_at h1 hs2 (fun k q => k3 k (row_lt h1 q) (fun q2 => ?_) (fun q2 => map_ne_row h.out h1 (by rw [q, q2])))
      rcases hoth z v hz hv with q3 | q3
      · rw [q] at q3; cases q3
      · exact q3 (by rw [q, q2])
  · intro z hz
    have hz : putF S.f (.int .i64 e.1) v' (.int .i64 z) = none := hz
    by_cases hze : z = e.1
    · subst hze
      rw [putF_same] at hz
      cases hz
    · rw [putF_other _ _ _ (by simpa using hze)] at hz
      rw [idx_add, if_neg (fun q => hze q.symm), h.rows0 z hz]
      rfl
  · intro y z u v hu hv hyz
    have hu : putF S.f (.int .i64 e.1) v' (.int .i64 y) = some u := hu
    have hv : putF S.f (.int .i64 e.1) v' (.int .i64 z) = some v := hv
    have key : ∀ z v, z ≠ e.1 → S.f (.int .i64 z) = some v → v.ownBlock = none ∨ v.ownBlock ≠ v'.ownBlock := by
      intro z v hz hv
      rcases hat with q | ⟨g, q, hge⟩
      · rw [q]; exact hoth z v hz hv
      · cases hb : v.ownBlock with
        | none => exact .inl rfl
        | some b =>
          have := row_lt (h.rows z v hv) hb
          refine .inr (fun q2 => ?_)
          rw [q] at q2
          cases q2
          omega
    by_cases h1 : y = e.1
    · subst h1
      rw [putF_same] at hu
      cases hu
      rw [putF_other _ _ _ (by simpa using Ne.symm hyz)] at hv
      cases hb : v'.ownBlock with
      | none => exact .inl rfl
      | some b =>
        rcases key z v (Ne.symm hyz) hv with q | q
        · exact .inr (fun q2 => by rw [q] at q2; cases q2)
        · exact .inr (fun q2 => q (by rw [hb, q2]))
    · rw [putF_other _ _ _ (by simpa using h1)] at hu
      by_cases h2 : z = e.1
      · subst h2
        rw [putF_same] at hv
        cases hv
        exact key y u h1 hu
      · rw [putF_other _ _ _ (by simpa using h2)] at hv
        exact h.apart y z u v hu hv hyz
/-- behind the row's append and the box's store -/
theorem GrP.step_es {w w1 : World} {B n : Nat} {L Lo Lt : List Eg} {S : GrS} (h : GrP w B n L Lo Lt S) {e : Eg} (he : EgIn e) {v' : Value}
    (hown : w1.ownsRow B 29 4 v' (L.length + 1) (flatG L ++ egC e)) (hg : w.grownBy w1 S.ev.ownBlock) :
    GrP (w1.setCell ⟨S.g, 1, none⟩ v') B n (L ++ [e]) Lo Lt { S with ev := v' } ∧ Bx 57 w1 S.g [.int .i64 n, S.ev, .map (some S.mo), .map (some S.mt)] := by
  have k1 : ∀ k, k < w.heap.size → S.ev.ownBlock ≠ some k → w1.heap[k]? = w.heap[k]? := fun k hk hne => hg.block k hk (fun q => hne q.symm)
  have hbx : Bx 57 w1 S.g [.int .i64 n, S.ev, .map (some S.mo), .map (some S.mt)] := h.box.at_ (k := S.g) (k1 _ h.box.lt (h.box_ne h.es (by decide)))
  have k2 : ∀ k, k ≠ S.g → (w1.setCell ⟨S.g, 1, none⟩ v').heap[k]? = w1.heap[k]? := fun k hk => heap_setCell_other _ _ k v' (by simpa using hk)
  have hs : (w1.setCell ⟨S.g, 1, none⟩ v').heap.size = w1.heap.size := by simp [World.setCell]
  refine ⟨⟨h.bg, h.bo, h.bt, h.not, by simpa using hbx.set 1 v', ?_, ?_, ?_, ?_, h.rows0, h.apart, ?_⟩, hbx⟩
  · have h1 : w1.ownsRow B 29 4 v' (L ++ [e]).length (flatG (L ++ [e])) := by
      rw [List.length_append]
      unfold flatG at *
      rw [List.flatMap_append]
      simpa using hown
    refine row_at h1 (by omega) (fun k q => k2 k (fun q2 => ?_))
    have := own_ne h1 hbx (by decide)
    exact this (by rw [← q2, q])
  · exact h.out.at_ ((k2 _ h.mo_ne.1).trans (k1 _ h.out.lt (map_ne_row h.out h.es)))
  · exact h.there.at_ ((k2 _ h.mo_ne.2).trans (k1 _ h.there.lt (map_ne_row h.there h.es)))
  · intro z v hv
    have h1 := h.rows z v hv
    refine row_at h1 (by rw [hs]; exact hg.size) (fun k q => (k2 k (fun q2 => ?_)).trans (k1 k (row_lt h1 q) (fun q2 => ?_)))
    · exact h.box_ne h1 (by decide) (by rw [q, q2])
    · rcases row_ne_row h1 h.es (by decide) with q3 | q3
      · rw [q] at q3; cases q3
      · exact q3 (by rw [q, q2])
  · intro x hx
    rw [List.mem_append, List.mem_singleton] at hx
    rcases hx with hx | rfl
    · exact h.inn x hx
    · exact he
/-- what an added edge leaves alone -/
def Chg (B : Nat) (own : Nat → Prop) (w w' : World) : Prop := Below B w w' ∧ ∀ k, k < w.heap.size → ¬ own k → w'.heap[k]? = w.heap[k]?
theorem Chg.refl (B : Nat) (own : Nat → Prop) (w : World) : Chg B own w w := ⟨Below.refl _ _, fun _ _ _ => rfl⟩
theorem Chg.trans {B : Nat} {own own' : Nat → Prop} {w w1 w2 : World} (h : Chg B own w w1) (h2 : Chg B own' w1 w2) (ho : ∀ k, own' k → own k ∨ w.heap.size ≤ k) : Chg B own w w2 :=
  ⟨h.1.trans h2.1, fun k hk hn => (h2.2 k (Nat.lt_of_lt_of_le hk h.1.size) (fun q => by rcases ho k q with q | q; exact hn q; omega)).trans (h.2 k hk hn)⟩
theorem Chg.of_below {B : Nat} {own : Nat → Prop} {w w' : World} (h : Below w.heap.size w w') (hB : B ≤ w.heap.size) : Chg B own w w' := ⟨h.mono hB, fun k hk _ => h.block k hk⟩
theorem Chg.of_grown {B : Nat} {own : Nat → Prop} {w w' : World} {r : Option Nat} (h : w.grownBy w' r) (hB : B ≤ w.heap.size) (hr : ∀ b, r = some b → B ≤ b ∧ own b) : Chg B own w w' :=
  ⟨⟨h.os, h.tape, h.output, h.size, fun k hk => h.block k (by omega) (fun q => by have := (hr k q.symm).1; omega)⟩, fun k hk hn => h.block k hk (fun q => hn (hr k q.symm).2)⟩
theorem Chg.set {B : Nat} {own : Nat → Prop} {w w' : World} (h : Chg B own w w') {g : Nat} (hg : B ≤ g) (ho : own g) (o : Nat) (v : Value) : Chg B own w (w'.setCell ⟨g, o, none⟩ v) :=
  ⟨h.1.setCell (p := ⟨g, o, none⟩) hg v, fun k hk hn => (heap_setCell_other _ _ k v (by simp; rintro rfl; exact hn ho)).trans (h.2 k hk hn)⟩

/-- the set's store, done -/
theorem GrP.put_there {w : World} {B n : Nat} {L Lo Lt : List Eg} {S : GrS} (h : GrP w B n L Lo Lt S) {e : Eg} (he : EgIn e) (hl : Lt.length < 100000) (hB : B ≤ w.heap.size) :
    ∃ w', (Instr.mapUpdate 55 (.map (some S.mt)) (egA e) (.agg #[])).run Try.prog w = .ok () w' ∧ GrP w' B n L Lo (Lt ++ [e]) S ∧ Chg B S.own w w' ∧ ∀ (k : Nat) (c : Array Value) (T : TypeId) (fz : Nat × Nat), w.heap[k]? = some (.cells c T fz) → w'.heap[k]? = w.heap[k]? := by
  obtain ⟨w', hrun, hm, hg⟩ := h.there.store edge_keyed Try.underlying55 (by unfold maxLen; omega) (egA_key he) (.agg #[])
  refine ⟨w', hrun, h.step_there hg hm, Chg.of_grown hg hB (fun b q => by cases q; exact ⟨h.bt, .inr (.inr (.inl rfl))⟩), fun k c T fz hk => hg.block k (lt_block hk) (fun q => ?_)⟩
  cases q
  exact h.there.ne_cells hk rfl
theorem GrS.own_at {S : GrS} {z : Int} {k : Nat} (h : (S.at_ z).ownBlock = some k) : S.own k := by
  unfold GrS.at_ at h
  cases hf : S.f (.int .i64 z) with
  | none => rw [hf] at h; cases h
  | some v => rw [hf] at h; exact .inr (.inr (.inr (.inr ⟨z, v, hf, h⟩)))
/-- the numbers' store, done -/
theorem GrP.put_out {w w1 : World} {B n : Nat} {L Lo Lt : List Eg} {S : GrS} (h : GrP w B n L Lo Lt S) {e : Eg} (he : EgIn e) {g m cap : Nat} (hB : B ≤ w.heap.size) (hl : Lo.length < 100000)
    (hown : w1.ownsRow B 3 1 (.slice (some ⟨g, 0, none⟩) m cap) ((idx Lo e.1).length + 1) (natC (idx Lo e.1) ++ [.int .i64 (Lo.length : Int)])) (hg : w.grownBy w1 (S.at_ e.1).ownBlock) (hat : (S.at_ e.1).ownBlock = some g ∨ g = w.heap.size) :
    ∃ w2, (Instr.mapUpdate 54 (.map (some S.mo)) (.int .i64 e.1) (.slice (some ⟨g, 0, none⟩) m cap)).run Try.prog w1 = .ok () w2 ∧ GrP w2 B n L (Lo ++ [e]) Lt (S.putAt e.1 (.slice (some ⟨g, 0, none⟩) m cap)) ∧ Chg B S.own w w2 ∧
      (∀ (k : Nat) (c : Array Value) (T : TypeId) (fz : Nat × Nat), w.heap[k]? = some (.cells c T fz) → T ≠ 3 → w1.heap[k]? = w.heap[k]? ∧ w2.heap[k]? = w.heap[k]?) ∧ ∀ k, (S.putAt e.1 (.slice (some ⟨g, 0, none⟩) m cap)).own k → S.own k ∨ w.heap.size ≤ k := by
  have hrow := h.at_row e.1
  have o1 : MapIs Try.prog 3 w1 S.mo Lo.length S.f := h.out.at_ (hg.block _ h.out.lt (fun q => map_ne_row h.out hrow q.symm))
  obtain ⟨w2, hrun, hm, hg2⟩ := o1.store int_keyed' Try.underlying54 (by unfold maxLen; omega) (int_key he.1) (.slice (some ⟨g, 0, none⟩) m cap)
  have h1 : Chg B S.own w w1 := Chg.of_grown hg hB (fun b q => ⟨row_base hrow q, GrS.own_at q⟩)
  have h2 : Chg B S.own w1 w2 := Chg.of_grown hg2 (Nat.le_trans hB hg.size) (fun b q => by cases q; exact ⟨h.bo, .inr (.inl rfl)⟩)
  refine ⟨w2, hrun, h.step_out hB hown hg ?_ hm hg2, h1.trans h2 (fun k q => .inl q), ?_, ?_⟩
  · rcases hat with q | q
    · exact .inl (by rw [q]; rfl)
    · exact .inr ⟨g, rfl, by omega⟩
  · intro k c T fz hk hT
    have e1 : w1.heap[k]? = w.heap[k]? := hg.block k (lt_block hk) (fun q => own_ne hrow hk hT q)
    refine ⟨e1, (hg2.block k (Nat.lt_of_lt_of_le (lt_block hk) hg.size) (fun q => ?_)).trans e1⟩
    cases q
    exact o1.ne_cells (e1.trans hk) rfl
  · rintro k (q | q | q | q | ⟨z, v, hv, q⟩)
    · exact .inl (.inl q)
    · exact .inl (.inr (.inl q))
    · exact .inl (.inr (.inr (.inl q)))
    · exact .inl (.inr (.inr (.inr (.inl q))))
    · have hv : putF S.f (.int .i64 e.1) (.slice (some ⟨g, 0, none⟩) m cap) (.int .i64 z) = some v := hv
      by_cases hz : z = e.1
      · subst hz
        rw [putF_same] at hv
        cases hv
        rcases hat with q2 | q2
        · exact .inl (GrS.own_at (z := e.1) (q2.trans q))
        · cases q
          exact .inr (Nat.le_of_eq q2.symm)
      · rw [putF_other _ _ _ (by simpa using hz)] at hv
        exact .inl (.inr (.inr (.inr (.inr ⟨z, v, hv, q⟩))))
end Go.Proofs.Ytkhgpflpbdakoaa
