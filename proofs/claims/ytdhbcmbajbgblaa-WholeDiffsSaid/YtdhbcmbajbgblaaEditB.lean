/- Contracts of growth, Cost and fits, and of the statements' own Check. -/
import Derived.Test.YtdhbcmbajbgblaaEditA
import Derived.Test.YtdhbcmbajbgblaaHold
namespace Go.Proofs.Ytdhbcmbajbgblaa
open Go Go.RowKit
set_option linter.unusedVariables false

set_option maxHeartbeats 400000 in
theorem growth_any (f t : Int) (s : ByteArray) (w : World) (hs : s.size ≤ 65536) :
    Calls Try.prog 33 #[.agg #[.int .i64 f, .int .i64 t, .string s]] w fun e w' => e = .returned (.int .i64 ((s.size : Int) - lenI f t)) ∧ Below w.heap.size w w' := by
  have hl := lenI_bd f t
  generalize hg : lenI f t = g at *
  have EL := Lib.hid hg
  clear hg
  have H0 := ((HC.start w).boxc (.int .i64 f) (.int .i64 t) (.string s) 27).drew
  have iw : IntKind.i64.wrap ((s.size : Int) - g) = (s.size : Int) - g := IntWalk.i64_in _ ⟨by omega, by omega⟩
  go_enter Try.func33, Try.ntmps33
  go_wp2_with fail
  go_region_held3 (fun w' => w'.cell? ⟨w.heap.size, 0, none⟩ = some (.int .i64 f) ∧ w'.cell? ⟨w.heap.size, 1, none⟩ = some (.int .i64 t) ∧ w'.cell? ⟨w.heap.size, 2, none⟩ = some (.string s) ∧ w.heap.size < w'.heap.size ∧ HC w [(w.heap.size, 0, .int .i64 f), (w.heap.size, 1, .int .i64 t), (w.heap.size, 2, .string s)] w') (first | exact H0.three | exact (HC.step (by assumption) hb2).three) (first | (go_at_call 16; go_split_ands; refine (len_any _ _ _).mono ?_; rw [EL.out]; rintro e w2 ⟨rfl, hb2⟩))
  all_goals go_split_ands
  all_goals go_wp2_with fail
  all_goals go_ret
  all_goals exact ⟨rfl, HC.bel (by assumption)⟩

/-- how much longer edits make a text; what they cost -/
def growE (l : List IEd) : Int := (l.map fun e => (e.2.2.size : Int) - lenI e.1 e.2.1).sum
def costE (l : List IEd) : Int := (l.map fun e => (e.2.2.size : Int) + lenI e.1 e.2.1).sum
theorem growE_snoc (l : List IEd) (k : Nat) (h : k < l.length) : growE (l.take (k + 1)) = growE (l.take k) + ((l[k].2.2.size : Int) - lenI l[k].1 l[k].2.1) := by
  unfold growE; rw [List.take_succ_eq_append_getElem h, List.map_append, List.sum_append]; simp only [List.map_cons, List.map_nil, List.sum_cons, List.sum_nil, Int.add_zero]
theorem costE_snoc (l : List IEd) (k : Nat) (h : k < l.length) : costE (l.take (k + 1)) = costE (l.take k) + ((l[k].2.2.size : Int) + lenI l[k].1 l[k].2.1) := by
  unfold costE; rw [List.take_succ_eq_append_getElem h, List.map_append, List.sum_append]; simp only [List.map_cons, List.map_nil, List.sum_cons, List.sum_nil, Int.add_zero]
theorem growE_bd : ∀ (l : List IEd), (∀ e ∈ l, e.2.2.size ≤ 65536) → -65536 * (l.length : Int) ≤ growE l ∧ growE l ≤ 65536 * (l.length : Int)
  | [], _ => by simp [growE]
  | e :: l, h => by
    have ih := growE_bd l (fun x hx => h x (by simp [hx]))
    have h1 := h e (by simp)
    have h2 := lenI_bd e.1 e.2.1
    have h3 : growE (e :: l) = ((e.2.2.size : Int) - lenI e.1 e.2.1) + growE l := by simp [growE]
    rw [h3]; simp; omega
theorem costE_bd : ∀ (l : List IEd), (∀ e ∈ l, e.2.2.size ≤ 65536) → 0 ≤ costE l ∧ costE l ≤ 131072 * (l.length : Int)
  | [], _ => by simp [costE]
  | e :: l, h => by
    have ih := costE_bd l (fun x hx => h x (by simp [hx]))
    have h1 := h e (by simp)
    have h2 := lenI_bd e.1 e.2.1
    have h3 : costE (e :: l) = ((e.2.2.size : Int) + lenI e.1 e.2.1) + costE l := by simp [costE]
    rw [h3]; simp; omega

set_option maxHeartbeats 1000000 in
theorem cost_any (src : Option Addr) (n cap : Nat) (l : List IEd) (w : World) (hl : l.length = n) (hn : n ≤ 100000) (hs : ∀ e ∈ l, e.2.2.size ≤ 65536) (hr : EdsIn w src l) :
    Calls Try.prog 13 #[.slice src n cap] w fun e w' => e = .returned (.int .i64 (costE l)) ∧ Below w.heap.size w w' := by
  have HR := Lib.hid hr
  have HL := Lib.hid hl
  have HS := Lib.hid hs
  clear hr hl hs
  go_enter Try.func13, Try.ntmps13
  go_wp2_with fail
  go_loopw [3, 8] (fun c i wr => ∃ k : Nat, k ≤ n ∧ i = .int .i64 k ∧ c = .int .i64 (costE (l.take k)) ∧ Below w.heap.size w wr) (fun _ i _ => n - (intOf i).toNat)
  case atStart => exact ⟨0, Nat.zero_le _, rfl, rfl, Below.refl _ _⟩
  case round =>
    obtain ⟨k, hk, rfl, rfl, hbel⟩ := hrel
    have HBEL := Lib.hid hbel
    have hsz := hbel.size
    by_cases hlt : k < n
    · have hkl : k < l.length := by rw [HL.out]; exact hlt
      obtain ⟨b, off, rfl, hb, hrow⟩ := HR.out (by omega)
      obtain ⟨c0, c1, c2⟩ := (hrow.below hbel hb) k hkl
      have SN := Lib.hid (costE_snoc l k hkl)
      have x3s := HS.out _ (List.getElem_mem hkl)
      have hbd := costE_bd (l.take k) (fun e he => HS.out e (List.mem_of_mem_take he))
      have hlen : ((l.take k).length : Int) ≤ 100000 := by rw [List.length_take]; omega
      clear hbel hrow
      revert c0 c1 c2 SN x3s
      generalize l[k] = x
      obtain ⟨x1, x2, x3⟩ := x
      intro c0 c1 c2 SN x3s
      dsimp only at c0 c1 c2 SN x3s
      have hc1 : costE (l.take k) ≤ 131072 * 100000 := by omega
      have hc0 := hbd.1
      have hl1 := lenI_bd x1 x2
      generalize hcc : costE (l.take k) = c at *
      generalize hgg : lenI x1 x2 = g at *
      have EL := Lib.hid hgg
      clear hkl hbd hlen hgg hcc
      have H0 := ((HC.from HBEL.out).boxc (.int .i64 x1) (.int .i64 x2) (.string x3) 27).drew
      have iw : IntKind.i64.wrap ((x3.size : Int) + g) = (x3.size : Int) + g := IntWalk.i64_in _ ⟨by omega, by omega⟩
      have iw2 : IntKind.i64.wrap (c + ((x3.size : Int) + g)) = c + ((x3.size : Int) + g) := IntWalk.i64_in _ ⟨by omega, by omega⟩
      rename World => wk
      go_wp2_with fail
      go_region_held3 (fun w' => w'.cell? ⟨wk.heap.size, 0, none⟩ = some (.int .i64 x1) ∧ w'.cell? ⟨wk.heap.size, 1, none⟩ = some (.int .i64 x2) ∧ w'.cell? ⟨wk.heap.size, 2, none⟩ = some (.string x3) ∧ wk.heap.size < w'.heap.size ∧ HC w [(wk.heap.size, 0, .int .i64 x1), (wk.heap.size, 1, .int .i64 x2), (wk.heap.size, 2, .string x3)] w') (first | exact H0.three | exact (HC.step (by assumption) hb2).three) (first | (go_at_call 16; go_split_ands; refine (len_any _ _ _).mono ?_; rw [EL.out]; rintro e w2 ⟨rfl, hb2⟩))
      all_goals go_split_ands
      all_goals go_wp2_with fail
      go_roundw
      case rel => exact ⟨k + 1, by omega, by go_num, by rw [SN.out], HC.bel (by assumption)⟩
      case measure => simp [intOf]; omega
    · have hk' : k = n := by omega
      subst hk'
      have E := Lib.hid (show costE (l.take k) = costE l by rw [← HL.out, List.take_length])
      go_wp2_with fail
      go_ret
      exact ⟨by rw [E.out]; rfl, hbel⟩

end Go.Proofs.Ytdhbcmbajbgblaa
