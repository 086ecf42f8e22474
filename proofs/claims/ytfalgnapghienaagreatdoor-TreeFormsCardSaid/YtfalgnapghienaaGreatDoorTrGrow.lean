/- Contract of the law's grows: a program of one class with a field that may be null. -/
import Derived.Test.YtfalgnapghienaaGreatDoorTrGrowF
import Derived.Test.YtfalgnapghienaaGreatDoorTrType
import Derived.Deep.RegionWith
import Derived.Deep.RegionHeld3
namespace Go.Proofs.YtfalgnapghienaaGreatDoor
open Go Go.RowKit
set_option linter.unusedVariables false
set_option linter.unusedSimpArgs false

def AddN (w : World) (b : Nat) (L : List NdR) (n : Int) (x : Nd) (e : Ending) (w' : World) : Prop :=
  e = .returned (.tuple #[.int .i64 n, .bool true]) ∧ Below b w w' ∧ ∃ y v', y.1 = x ∧ Bld 48 [] w' b b (L ++ [y]) v'
theorem addN_any (b : Nat) (L : List NdR) (n : Int) (hn : (L.length : Int) = n) (v : Value) (kind sf st : Int) (kids : List Int) (text : ByteArray) (B : Int) (N : ByteArray) (D : Int) (M : ByteArray) (num wf wt : Int) (ends : List Int) (kv ev : Value) (w : World)
    (hb : Bld 48 [] w b b L v) (hL : L.length < 16384) (hk : NumsV w kv kids) (he : NumsV w ev ends) (lk : kids.length ≤ 17592186044416) (le : ends.length ≤ 17592186044416) (st1 : text.size ≤ 281474976710656) (sn : N.size ≤ 281474976710656) (sm : M.size ≤ 281474976710656) :
    Calls Tryz.prog 20 #[.pointer (some ⟨b, 0, none⟩), .agg #[.int .i64 kind, .int .i64 sf, .int .i64 st, kv, .string text, .int .i64 B, .string N, .int .i64 D, .string M, .int .i64 num, .int .i64 wf, .int .i64 wt, ev]] w (AddN w b L n ⟨kind, sf, st, kids, text, B, N, D, M, num, wf, wt, ends⟩) := by
  refine (add_any 48 (by decide) (by decide) [] b b L v kind sf st kids text B N D M num wf wt ends kv ev w hb (Nat.le_of_lt hb.box.lt) hL hk he lk le st1 sn sm).mono ?_
  rintro e w' ⟨h1, h2, h3, h4⟩
  exact ⟨by rw [h1, hn], h2, h3⟩
theorem nums_none (w : World) : NumsV w (.slice none 0 0) [] := ⟨none, 0, rfl, fun h => absurd h (by simp)⟩
theorem nums_one (w : World) (n : Int) : NumsV (w.alloc (.cells #[.int .i64 n] 3)) (.slice (some ⟨w.heap.size, 0, none⟩) 1 1) [n] :=
  ⟨some ⟨w.heap.size, 0, none⟩, 1, rfl, fun _ => ⟨w.heap.size, 0, rfl, by simp, fun i hi => by
    have hx := Bx.new 3 w #[.int .i64 n]
    rw [Nat.zero_add, hx.cell]
    match i, hi with
    | 0, _ => rfl⟩⟩

def GrowsPost (w : World) (e : Ending) (w' : World) : Prop := e = .returned (.bool true) ∧ Below w.heap.size w w'
/-- the program that is grown, in its box, and its builder -/
structure GS (w0 : World) (g : Nat) (nv : Value) (w : World) : Prop where
  bel : Below w0.heap.size w0 w
  box : Bx 24 w g [nv, .int .i64 2]
  nds : NdsV w nv gG
  bld : ∃ (y : NdR) (L : List NdR) (v : Value), y.1 = gF ∧ L.length = 2 ∧ Bld 48 [] w w0.heap.size w0.heap.size (y :: L) v
theorem GS.keep {w0 w w' : World} {g : Nat} {nv : Value} (h : GS w0 g nv w) (hb : Below w.heap.size w w') : GS w0 g nv w' := by
  obtain ⟨h1, h2, h3, y, L, v, h4, h5, h6⟩ := h
  exact ⟨h1.trans (hb.mono h1.size), h2.keep hb, h3.step hb, y, L, v, h4, h5, h6.step hb⟩

set_option maxRecDepth 100000 in
theorem field_text (w : World) (s3 s4 : Option Addr) (c3 c4 : Nat) : Sem.run Tryz.prog (Instr.field 46 (.agg #[.int .i64 4, .int .i64 0, .int .i64 0, .slice s3 0 c3, .string ⟨#[120]⟩, .int .i64 5, .string ⟨#[67]⟩, .int .i64 0, .string ⟨#[63]⟩, .int .i64 0, .int .i64 0, .int .i64 0, .slice s4 0 c4]) 3) w = Result.ok (.string ⟨#[120]⟩) w := by
  kernel_rfl
def Gives (v : Value) (w : World) (e : Ending) (w' : World) : Prop := e = .returned v ∧ Below w.heap.size w w'
section
variable {nv ev : Value} {w : World}
theorem gs_check (hT : Tabs w) (hn : NdsV w nv gG) : Calls Tryz.prog 10 #[.agg #[nv, .int .i64 2]] w (Gives (.int .i64 0) w) := by
  have h := check_any gG nv 2 w hT.sh hn (by decide) (fun x hx => (g_sm x hx).fit)
  rw [g_check] at h; exact h
theorem gs_form (hT : Tabs w) (hn : NdsV w nv gG) : Calls Tryz.prog 11 #[.agg #[nv, .int .i64 2], .int .i64 2] w (Gives (.string ⟨#[40, 112, 114, 111, 103, 114, 97, 109, 32, 40, 99, 108, 97, 115, 115, 32, 34, 67, 34, 32, 40, 102, 105, 101, 108, 100, 32, 34, 120, 34, 32, 67, 63, 41, 41, 41]⟩) w) := by
  have h := Form_any gG nv 2 2 w hT hn (by decide) g_sm
  rw [g_form] at h; exact h
theorem ge_form (hT : Tabs w) (hn : NdsV w nv [gE, gC, gP]) : Calls Tryz.prog 11 #[.agg #[nv, .int .i64 2], .int .i64 2] w (Gives (.string ⟨#[40, 112, 114, 111, 103, 114, 97, 109, 32, 40, 99, 108, 97, 115, 115, 32, 34, 67, 34, 32, 40, 102, 105, 101, 108, 100, 32, 34, 120, 34, 32, 67, 41, 41, 41]⟩) w) := by
  have h := Form_any [gE, gC, gP] nv 2 2 w hT hn (by decide) e_sm
  rw [e_form] at h; exact h
theorem gs_depth (hT : Tabs w) (hn : NdsV w nv gG) : Calls Tryz.prog 12 #[.agg #[nv, .int .i64 2]] w (Gives (.int .i64 3) w) := by
  have h := depth_any gG nv 2 w hT.sh hn (by decide) (fun x hx => (g_sm x hx).fit)
  rw [if_pos g_check, g_deep] at h; exact h
theorem gs_walk (hn : NdsV w nv gG) : Calls Tryz.prog 16 #[.agg #[nv, .int .i64 2], .int .i64 2] w (fun e w' => ∃ s c, e = .returned (.slice s 3 c) ∧ Below w.heap.size w w') := by
  refine (walk_any (check_ok gG 2 g_check) nv 2 w hn (by decide) (fun x hx => (g_sm x hx).fit)).mono ?_
  rintro e w' ⟨v, rfl, s, c, rfl, -, h⟩
  rw [g_walk]
  exact ⟨s, c, rfl, h⟩
theorem gs_marked (hn : NdsV w nv gG) : Calls Tryz.prog 19 #[.agg #[nv, .int .i64 2]] w (Gives (.tuple #[.int .i64 0, .bool true]) w) := by
  have h := marked_any (check_ok gG 2 g_check) nv w hn (fun x hx => (g_sm x hx).fit)
  rw [g_marked] at h; exact h
theorem ge_marked (hn : NdsV w nv [gE, gC, gP]) : Calls Tryz.prog 19 #[.agg #[nv, .int .i64 2]] w (Gives (.tuple #[.int .i64 0, .bool false]) w) := by
  have h := marked_any (check_ok [gE, gC, gP] 2 e_check) nv w hn (fun x hx => (e_sm x hx).fit)
  rw [e_marked] at h; exact h
theorem gs_erase (hT : Tabs w) (hn : NdsV w nv gG) : Calls Tryz.prog 18 #[.agg #[nv, .int .i64 2]] w (fun e w' => ∃ s c, e = .returned (.agg #[.slice s 3 c, .int .i64 2]) ∧ Below w.heap.size w w' ∧ NdsV w' (.slice s 3 c) [gE, gC, gP]) := by
  refine (erase_any goPen penOk gG nv 2 w hT.sh hn (by decide) (fun x hx => (g_sm x hx).fit) (fun x hx => by have := (g_sm x hx).M; omega) g_check).mono ?_
  rw [g_erase]
  rintro e w' ⟨s, c, rfl, h1, h2⟩
  exact ⟨s, c, rfl, h1, h2.nds⟩
theorem gs_same (hT : Tabs w) (hn : NdsV w nv gG) (he : NdsV w ev [gE, gC, gP]) : Calls Tryz.prog 13 #[.agg #[nv, .int .i64 2], .agg #[ev, .int .i64 2]] w (Gives (.bool false) w) := by
  have h := same_any gG [gE, gC, gP] nv ev 2 2 w hT hn (by decide) g_sm he (by decide) e_sm
  rw [g_same] at h; exact h
theorem gs_self (hT : Tabs w) (hn : NdsV w nv gG) (he : NdsV w ev gG) : Calls Tryz.prog 13 #[.agg #[nv, .int .i64 2], .agg #[ev, .int .i64 2]] w (Gives (.bool true) w) := by
  have h := same_any gG gG nv ev 2 2 w hT hn (by decide) g_sm he (by decide) g_sm
  rw [g_self] at h; exact h
theorem gs_clone (hn : NdsV w nv gG) : Calls Tryz.prog 22 #[.agg #[nv, .int .i64 2]] w (fun e w' => ∃ s c, e = .returned (.agg #[.slice s 3 c, .int .i64 2]) ∧ Below w.heap.size w w' ∧ NdsV w' (.slice s 3 c) gG) := by
  refine (copy_any gG nv 2 w hn (by decide) (fun x hx => (g_sm x hx).fit)).mono ?_
  rintro e w' ⟨s, c, rfl, h1, h2⟩
  exact ⟨s, c, rfl, h1, h2.nds⟩
theorem gs_at {b : Nat} {y : NdR} {L : List NdR} {v : Value} (hb : Bld 48 [] w b b (y :: L) v) (hy : y.1 = gF) (hL : L.length = 2) : Calls Tryz.prog 23 #[.pointer (some ⟨b, 0, none⟩), .int .i64 0] w (fun e w' => ∃ s1 c1 s2 c2, e = .returned (.agg #[.int .i64 4, .int .i64 0, .int .i64 0, .slice s1 0 c1, .string ⟨#[120]⟩, .int .i64 5, .string ⟨#[67]⟩, .int .i64 0, .string ⟨#[63]⟩, .int .i64 0, .int .i64 0, .int .i64 0, .slice s2 0 c2]) ∧ Below w.heap.size w w') := by
  have h := at_any 48 [] b b (y :: L) v 0 w hb (by simp) (by rw [show (y :: L)[0] = y from rfl, hy]; exact gF_sm.fit) (by rw [List.length_cons, hL]; decide)
  refine h.mono ?_
  rw [show (y :: L)[0] = y from rfl, hy]
  rintro e w' ⟨s1, c1, s2, c2, rfl, hb, -, -⟩
  exact ⟨s1, c1, s2, c2, rfl, hb⟩
end

/-- .. and what it is erased to, in its box -/
structure GS2 (w0 : World) (g : Nat) (nv : Value) (k : Nat) (ev : Value) (w : World) : Prop where
  gs : GS w0 g nv w
  box : Bx 24 w k [ev, .int .i64 2]
  ends : NdsV w ev [gE, gC, gP]
theorem GS2.keep {w0 w w' : World} {g k : Nat} {nv ev : Value} (h : GS2 w0 g nv k ev w) (hb : Below w.heap.size w w') : GS2 w0 g nv k ev w' := ⟨h.gs.keep hb, h.box.keep hb, h.ends.step hb⟩
theorem GS2.all {w0 w : World} {g k : Nat} {nv ev : Value} (h : GS2 w0 g nv k ev w) : w.cell? ⟨g, 0, none⟩ = some nv ∧ w.cell? ⟨g, 1, none⟩ = some (.int .i64 2) ∧ w.cell? ⟨k, 0, none⟩ = some ev ∧ w.cell? ⟨k, 1, none⟩ = some (.int .i64 2) ∧ GS2 w0 g nv k ev w :=
  ⟨h.gs.box.two.1, h.gs.box.two.2.1, h.box.two.1, h.box.two.2.1, h⟩
section
variable {w0 w : World} {g k : Nat} {nv ev : Value}
theorem g2_form (HT : ∀ w2, Below w0.heap.size w0 w2 → Tabs w2) (h : GS2 w0 g nv k ev w) : Calls Tryz.prog 11 #[.agg #[ev, .int .i64 2], .int .i64 2] w (Gives (.string ⟨#[40, 112, 114, 111, 103, 114, 97, 109, 32, 40, 99, 108, 97, 115, 115, 32, 34, 67, 34, 32, 40, 102, 105, 101, 108, 100, 32, 34, 120, 34, 32, 67, 41, 41, 41]⟩) w) := ge_form (HT _ h.gs.bel) h.ends
theorem g2_same (HT : ∀ w2, Below w0.heap.size w0 w2 → Tabs w2) (h : GS2 w0 g nv k ev w) : Calls Tryz.prog 13 #[.agg #[nv, .int .i64 2], .agg #[ev, .int .i64 2]] w (Gives (.bool false) w) := gs_same (HT _ h.gs.bel) h.gs.nds h.ends
theorem g2_clone (h : GS2 w0 g nv k ev w) : Calls Tryz.prog 22 #[.agg #[nv, .int .i64 2]] w (fun e w' => ∃ s c, e = .returned (.agg #[.slice s 3 c, .int .i64 2]) ∧ Below w.heap.size w w' ∧ NdsV w' (.slice s 3 c) gG) := gs_clone h.gs.nds
theorem g2_self (HT : ∀ w2, Below w0.heap.size w0 w2 → Tabs w2) (h : GS2 w0 g nv k ev w) {cv : Value} (hc : NdsV w cv gG) : Calls Tryz.prog 13 #[.agg #[nv, .int .i64 2], .agg #[cv, .int .i64 2]] w (Gives (.bool true) w) := gs_self (HT _ h.gs.bel) h.gs.nds hc
theorem g2_at (h : GS2 w0 g nv k ev w) : Calls Tryz.prog 23 #[.pointer (some ⟨w0.heap.size, 0, none⟩), .int .i64 0] w (fun e w' => ∃ s1 c1 s2 c2, e = .returned (.agg #[.int .i64 4, .int .i64 0, .int .i64 0, .slice s1 0 c1, .string ⟨#[120]⟩, .int .i64 5, .string ⟨#[67]⟩, .int .i64 0, .string ⟨#[63]⟩, .int .i64 0, .int .i64 0, .int .i64 0, .slice s2 0 c2]) ∧ Below w.heap.size w w') := by
  obtain ⟨y, L, v, h1, h2, h3⟩ := h.gs.bld
  exact gs_at h3 h1 h2
theorem g2_plain : Calls Tryz.prog 25 #[.int .i64 6] w (Gives (.agg #[.int .i64 6, .string ⟨#[]⟩, .int .i64 0, .string ⟨#[32]⟩]) w) := by
  have X := Bx.new 44 w #[.int .i64 6, .string ⟨#[]⟩, .int .i64 0, .string ⟨#[32]⟩]
  have r0 := X.cell 0
  have r1 := X.cell 1
  have r2 := X.cell 2
  have r3 := X.cell 3
  simp only [List.getElem?_cons_zero, List.getElem?_cons_succ] at r0 r1 r2 r3
  go_enter Tryz.func25, Tryz.ntmps25
  go_wp2_with fail
  refine bodyPost_ret (v := .agg #[.int .i64 6, .string ⟨#[]⟩, .int .i64 0, .string ⟨#[32]⟩]) (by simp [results, Tryz.results25, go_sem, r0, r1, r2, r3]) rfl ?_
  exact ⟨rfl, by repeat (first | exact Below.refl _ _ | apply Below.setCell _ (by first | omega | (simp <;> omega)) | apply Below.alloc _ (by first | omega | (simp <;> omega)))⟩
theorem g2_text : Calls Tryz.prog 24 #[.agg #[.int .i64 6, .string ⟨#[]⟩, .int .i64 0, .string ⟨#[32]⟩]] w (Gives (.string ⟨#[118, 111, 105, 100]⟩) w) := by
  have h := typeText2_any 6 ⟨#[]⟩ 0 ⟨#[32]⟩ w (by decide) (by decide)
  rw [g_void] at h; exact h
end

set_option maxRecDepth 100000 in
set_option maxHeartbeats 4000000 in
theorem grows_any (w : World) (hT : Tabs w) : Calls Tryz.prog 7 #[] w (GrowsPost w) := by
  have HT := Lib.hid (fun (w2 : World) (hb : Below w.heap.size w w2) => hT.step hb)
  have HTY := Lib.hid (fun (w2 : World) => typeText2_any 6 ⟨#[]⟩ 0 ⟨#[32]⟩ w2 (by decide) (by decide))
  rw [g_void] at HTY
  obtain ⟨W0, hW0⟩ : ∃ W0, W0 = w.alloc (.cells #[.slice none 0 0] 48) := ⟨_, rfl⟩
  have HB0 : Hid (Below w.heap.size w W0) := Lib.hid (by rw [hW0]; exact (Below.refl _ _).alloc (Nat.le_refl _) _)
  have BD0 : Hid (Bld 48 [] W0 w.heap.size w.heap.size [] (.slice none 0 0)) := Lib.hid (by
    rw [hW0]
    exact ⟨Nat.le_refl _, Bx.new 48 w _, World.ownsRow_nil _ _ _ _, fun y hy => by cases hy⟩)
  have HW0 := Lib.hid hW0
  have A0 := Lib.hid (fun (w2 : World) (h : Below W0.heap.size W0 w2) => addN_any w.heap.size [] 0 rfl (.slice none 0 0) 4 0 0 [] ⟨#[120]⟩ 5 ⟨#[67]⟩ 0 ⟨#[63]⟩ 0 0 0 [] (.slice none 0 0) (.slice none 0 0) w2 (BD0.out.step h) (by decide) (nums_none _) (nums_none _) (by decide) (by decide) (by decide) (by decide) (by decide))
  clear hW0 hT
  go_enter Tryz.func7, Tryz.ntmps7
  go_wp2_with fail
  rw [← HW0.out]
  go_wp2_with fail
  refine (A0.out _ (Below.refl _ _)).mono ?_
  rintro e W1 ⟨rfl, h1, y0, v0, hy0, bd1⟩
  have H1 := Lib.hid (HB0.out.trans h1)
  have BD1 := Lib.hid bd1
  have HY0 := Lib.hid hy0
  clear h1 bd1 hy0 A0 BD0 HB0 HW0
  go_wp2_with fail
  have HB1 : Hid (Below W1.heap.size W1 (W1.alloc (.cells #[.int .i64 0] 3))) := Lib.hid ((Below.refl _ _).alloc (Nat.le_refl _) _)
  refine (addN_any w.heap.size [y0] 1 rfl v0 2 0 0 [0] ⟨#[67]⟩ 0 ⟨#[]⟩ 0 ⟨#[]⟩ 0 0 0 [] (.slice (some ⟨W1.heap.size, 0, none⟩) 1 1) (.slice none 0 0) _ (BD1.out.step HB1.out) (by simp) (nums_one W1 0) (nums_none _) (by decide) (by decide) (by decide) (by decide) (by decide)).mono ?_
  rintro e W2 ⟨rfl, h2, y1, v1, hy1, bd2⟩
  have H2 := Lib.hid (H1.out.trans ((HB1.out.mono H1.out.size).trans h2))
  have BD2 := Lib.hid bd2
  have HY1 := Lib.hid hy1
  clear h2 bd2 hy1 HB1 BD1
  go_wp2_with fail
  have HB2 : Hid (Below W2.heap.size W2 (W2.alloc (.cells #[.int .i64 1] 3))) := Lib.hid ((Below.refl _ _).alloc (Nat.le_refl _) _)
  refine (addN_any w.heap.size [y0, y1] 2 rfl v1 1 0 0 [1] ⟨#[]⟩ 0 ⟨#[]⟩ 0 ⟨#[]⟩ 0 0 0 [] (.slice (some ⟨W2.heap.size, 0, none⟩) 1 1) (.slice none 0 0) _ (BD2.out.step HB2.out) (by simp) (nums_one W2 1) (nums_none _) (by decide) (by decide) (by decide) (by decide) (by decide)).mono ?_
  rintro e W3 ⟨rfl, h3, y2, v2, hy2, bd3⟩
  have H3 := Lib.hid (H2.out.trans ((HB2.out.mono H2.out.size).trans h3))
  have BD3 : Hid (Bld 48 [] W3 w.heap.size w.heap.size [y0, y1, y2] v2) := Lib.hid bd3
  have HG : Hid (([y0, y1, y2] : List NdR).map (·.1) = gG) := Lib.hid (by rw [List.map_cons, List.map_cons, List.map_cons, List.map_nil, HY0.out, HY1.out, hy2]; rfl)
  have HL : Hid (([y0, y1, y2] : List NdR).length = 3) := Lib.hid rfl
  clear h3 bd3 hy2 HB2 BD2 HY1
  go_wp2_with fail
  refine (btree_any 48 [] w.heap.size w.heap.size [y0, y1, y2] v2 W3 BD3.out (by simp) (by simp) (by rw [HG.out]; exact fun x hx => (g_sm x hx).fit)).mono ?_
  rw [HG.out]
  rintro e W4 ⟨sc, cc, rfl, h4, hn4⟩
  have H4 := Lib.hid (H3.out.trans (h4.mono H3.out.size))
  have N4 : Hid (NdsV W4 (.slice sc gG.length cc) gG) := Lib.hid hn4.nds
  have BD4 := Lib.hid (BD3.out.step h4)
  clear h4 hn4 BD3
  go_wp2_with fail
  have GA : Hid (GS w W4.heap.size (.slice sc gG.length cc) (W4.alloc (.cells #[.slice sc gG.length cc, .int .i64 2] 24))) := Lib.hid ⟨H4.out.alloc H4.out.size _, Bx.new 24 W4 _, N4.out.step ((Below.refl _ _).alloc (Nat.le_refl _) _), y0, [y1, y2], v2, HY0.out, rfl, BD4.out.step ((Below.refl _ _).alloc (Nat.le_refl _) _)⟩
  obtain ⟨g, hg⟩ : ∃ g, g = W4.heap.size := ⟨_, rfl⟩
  rw [← hg] at GA
  obtain ⟨W5, hW5⟩ : ∃ W5, W5 = W4.alloc (.cells #[.slice sc gG.length cc, .int .i64 2] 24) := ⟨_, rfl⟩
  rw [← hW5] at GA
  rw [← hW5, ← hg]
  obtain ⟨nv, hnv⟩ : ∃ nv, nv = Value.slice sc gG.length cc := ⟨_, rfl⟩
  rw [← hnv] at GA
  rw [← hnv]
  clear hg hW5 hnv H1 H2 H3 H4 N4 BD4 HY0 HG HL
  refine (gs_check (HT.out _ GA.out.bel) GA.out.nds).mono ?_
  rintro e W6 ⟨rfl, h6⟩
  have G6 := Lib.hid (GA.out.keep h6)
  obtain ⟨a0, a1, al, af⟩ := G6.out.box.two
  clear h6 GA
  go_wp2_with fail
  refine (gs_form (HT.out _ G6.out.bel) G6.out.nds).mono ?_
  rintro e W7 ⟨rfl, h7⟩
  have G7 := Lib.hid (G6.out.keep h7)
  clear h7 G6 a0 a1 al af
  obtain ⟨a0, a1, al, af⟩ := G7.out.box.two
  go_wp2_with fail
  refine (gs_depth (HT.out _ G7.out.bel) G7.out.nds).mono ?_
  rintro e W8 ⟨rfl, h8⟩
  have G8 := Lib.hid (G7.out.keep h8)
  clear h8 G7 a0 a1 al af
  obtain ⟨a0, a1, al, af⟩ := G8.out.box.two
  go_wp2_with fail
  refine (gs_walk G8.out.nds).mono ?_
  rintro e W9 ⟨s9, c9, rfl, h9⟩
  have G9 := Lib.hid (G8.out.keep h9)
  clear h9 G8 a0 a1 al af
  obtain ⟨a0, a1, al, af⟩ := G9.out.box.two
  go_wp2_with fail
  refine (gs_marked G9.out.nds).mono ?_
  rintro e W10 ⟨rfl, h10⟩
  have G10 := Lib.hid (G9.out.keep h10)
  clear h10 G9 a0 a1 al af
  obtain ⟨a0, a1, al, af⟩ := G10.out.box.two
  go_wp2_with fail
  refine (gs_erase (HT.out _ G10.out.bel) G10.out.nds).mono ?_
  rintro e W11 ⟨se, ce, rfl, h11, he11⟩
  have G11 := Lib.hid (G10.out.keep h11)
  have HE11 := Lib.hid he11
  clear h11 he11 G10 a0 a1 al af
  obtain ⟨a0, a1, al, af⟩ := G11.out.box.two
  go_wp2_with fail
  have GB : Hid (GS2 w g nv W11.heap.size (.slice se 3 ce) (W11.alloc (.cells #[.slice se 3 ce, .int .i64 2] 24))) := Lib.hid ⟨G11.out.keep ((Below.refl _ _).alloc (Nat.le_refl _) _), Bx.new 24 W11 _, HE11.out.step ((Below.refl _ _).alloc (Nat.le_refl _) _)⟩
  obtain ⟨k, hk⟩ : ∃ k, k = W11.heap.size := ⟨_, rfl⟩
  rw [← hk] at GB
  obtain ⟨W12, hW12⟩ : ∃ W12, W12 = W11.alloc (.cells #[.slice se 3 ce, .int .i64 2] 24) := ⟨_, rfl⟩
  rw [← hW12] at GB
  rw [← hW12, ← hk]
  obtain ⟨ev, hev⟩ : ∃ ev, ev = Value.slice se 3 ce := ⟨_, rfl⟩
  rw [← hev] at GB
  rw [← hev]
  clear hk hW12 hev G11 HE11 a0 a1 al af
  refine (ge_marked GB.out.ends).mono ?_
  rintro e W13 ⟨rfl, h13⟩
  have G13 := Lib.hid (GB.out.keep h13)
  clear h13 GB
  obtain ⟨a0, a1, b0, b1, -⟩ := G13.out.all
  go_wp2_with fail
  clear a0 a1 b0 b1
  have hfd := field_text
  go_region_held3 (fun w' => w'.cell? ⟨g, 0, none⟩ = some nv ∧ w'.cell? ⟨g, 1, none⟩ = some (.int .i64 2) ∧ w'.cell? ⟨k, 0, none⟩ = some ev ∧ w'.cell? ⟨k, 1, none⟩ = some (.int .i64 2) ∧ GS2 w g nv k ev w') (first | exact G13.out.all | exact (GS2.keep G13.out (Below.refl _ _).drew).all | exact (GS2.keep (by assumption) hb2).all) (first | (go_at_call_of 11 (.agg #[ev, .int .i64 2] : Value); go_split_ands; refine (g2_form HT.out (by assumption)).mono ?_; rintro e w2 ⟨rfl, hb2⟩) | (go_at_call_of 13 (.agg #[ev, .int .i64 2] : Value); go_split_ands; refine (g2_same HT.out (by assumption)).mono ?_; rintro e w2 ⟨rfl, hb2⟩) | (go_at_call 22; go_split_ands; refine (g2_clone (g := g) (k := k) (ev := ev) (w0 := w) (by assumption)).mono ?_; rintro e w2 ⟨s1, c1, rfl, hb2, hnc⟩; have HNC := Lib.hid hnc; clear hnc) | (go_at_call 13; go_split_ands; refine (g2_self HT.out (by assumption) HNC.out).mono ?_; rintro e w2 ⟨rfl, hb2⟩) | (go_at_call 23; go_split_ands; refine (g2_at (by assumption)).mono ?_; rintro e w2 ⟨s3, c3, s4, c4, rfl, hb2⟩) | (go_at_call 25; go_split_ands; refine g2_plain.mono ?_; rintro e w2 ⟨rfl, hb2⟩) | (go_at_call 24; go_split_ands; refine g2_text.mono ?_; rintro e w2 ⟨rfl, hb2⟩))
  all_goals go_split_ands
  all_goals go_wp2_with fail
  all_goals go_ret
  all_goals exact ⟨rfl, (show GS2 w g nv k ev _ from by assumption).gs.bel⟩
end Go.Proofs.YtfalgnapghienaaGreatDoor
