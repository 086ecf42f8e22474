/- Contract of a graph's spread. -/
import Derived.Test.YtkhgpflpbdakoaaGrS
namespace Go.Proofs.Ytkhgpflpbdakoaa
open Go Go.RowKit
set_option linter.unusedVariables false
set_option linter.unusedSimpArgs false

theorem below_drew {B : Nat} {w w' : World} (h : Below B w w') : Below B w w'.drew := h.trans (Below.refl _ _).drew
theorem alloc4 (w : World) (o0 o1 o2 o3 : Obj) : ((((w.alloc o0).alloc o1).alloc o2).alloc o3).drew.heap[w.heap.size]? = some o0 ∧ ((((w.alloc o0).alloc o1).alloc o2).alloc o3).drew.heap[w.heap.size + 1]? = some o1 ∧
    ((((w.alloc o0).alloc o1).alloc o2).alloc o3).drew.heap[w.heap.size + 1 + 1]? = some o2 ∧ ((((w.alloc o0).alloc o1).alloc o2).alloc o3).drew.heap[w.heap.size + 1 + 1 + 1]? = some o3 ∧ Below w.heap.size w ((((w.alloc o0).alloc o1).alloc o2).alloc o3).drew := by
  have h (w : World) (o : Obj) : (w.alloc o).heap[w.heap.size]? = some o := heap_alloc_new w o
  have k (w : World) (o : Obj) (b : Nat) (hb : b < w.heap.size) : (w.alloc o).heap[b]? = w.heap[b]? := Below.heap_alloc w o b hb
  have z (w : World) (o : Obj) : (w.alloc o).heap.size = w.heap.size + 1 := by simp
  have h1 := h (w.alloc o0) o1
  have h2 := h ((w.alloc o0).alloc o1) o2
  have h3 := h (((w.alloc o0).alloc o1).alloc o2) o3
  rw [z] at h1
  rw [z, z] at h2
  rw [z, z, z] at h3
  refine ⟨?_, ?_, ?_, h3, below_drew (by repeat (first | exact Below.refl _ _ | apply Below.setCell _ (by first | omega | (simp <;> omega)) | apply Below.alloc _ (by first | omega | (simp <;> omega))))⟩
  · exact (k _ o3 _ (by rw [z, z, z]; omega)).trans ((k _ o2 _ (by rw [z, z]; omega)).trans ((k _ o1 _ (by rw [z]; omega)).trans (h w o0)))
  · exact (k _ o3 _ (by rw [z, z, z]; omega)).trans ((k _ o2 _ (by rw [z, z]; omega)).trans h1)
  · exact (k _ o3 _ (by rw [z, z, z]; omega)).trans h2
/-- while the one row is filled -/
structure SpL (w0 w : World) (n rb fb bb j : Nat) : Prop where
  bel : Below w0.heap.size w0 w
  n1 : w0.heap.size < rb
  n2 : w0.heap.size < fb
  n3 : w0.heap.size < bb
  top : Bx 63 w w0.heap.size [.slice none 0 0, .slice none 0 0]
  box : Bx 63 w rb [.slice (some ⟨fb, 0, none⟩) n n, .slice (some ⟨bb, 0, none⟩) n n]
  far : Bx 3 w fb (rowF n (fun z => if z < j then -1 else 0))
  byy : Bx 3 w bb (rowF n (fun _ => 0))
  ne : fb ≠ bb
theorem rowF_congr {n : Nat} {F H : Nat → Int} (h : ∀ z, z < n → F z = H z) : rowF n F = rowF n H := by
  unfold rowF
  apply List.map_congr_left
  intro z hz
  rw [h z (List.mem_range.1 hz)]
theorem SpL.next {w0 w : World} {n rb fb bb j : Nat} (h : SpL w0 w n rb fb bb j) (hj : j < n) : SpL w0 (w.setCell ⟨fb, j, none⟩ (.int .i64 (-1))) n rb fb bb (j + 1) := by
  have hrf : rb ≠ fb := Bx.ne h.box h.far (by decide)
  have f1 := h.far.set j (.int .i64 (-1))
  rw [rowF_set _ hj] at f1
  refine ⟨h.bel.setCell (p := ⟨fb, j, none⟩) (Nat.le_of_lt h.n2) _, h.n1, h.n2, h.n3, h.top.other (Nat.ne_of_lt h.n2) j _, h.box.other hrf j _, ?_, h.byy.other h.ne.symm j _, h.ne⟩
  rw [rowF_congr (H := up (fun z => if z < j then (-1 : Int) else 0) j (-1))]
  · exact f1
  · intro z hz
    unfold up
    by_cases q : z = j
    · rw [if_pos q, if_pos (by omega)]
    · rw [if_neg q]
      by_cases q2 : z < j
      · rw [if_pos (by omega)]; exact (if_pos q2).symm
      · rw [if_neg (by omega)]; exact (if_neg q2).symm
theorem SpL.begin_ {w0 w : World} {n rb fb bb : Nat} (h : SpL w0 w n rb fb bb n) : SpM w0 (w.alloc (.cells #[.int .i64 (-1)] 3)) n rb fb bb start (.slice (some ⟨w.heap.size, 0, none⟩) 1 1) := by
  have hb : Below w.heap.size w (w.alloc (.cells #[.int .i64 (-1)] 3)) := by repeat (first | exact Below.refl _ _ | apply Below.setCell _ (by first | omega | (simp <;> omega)) | apply Below.alloc _ (by first | omega | (simp <;> omega)))
  have l1 := h.far.lt
  have l2 := h.byy.lt
  refine ⟨after h.bel hb, h.n1, h.n2, h.n3, h.top.keep hb, h.box.keep hb, ?_, h.byy.keep hb, h.ne, ⟨w.heap.size, 0, 1, #[.int .i64 (-1)], rfl, h.bel.size, heap_alloc_new w _, Nat.le_refl _, Nat.le_refl _, by unfold maxLen; omega, fun j hj => ?_⟩, ?_, ?_⟩
  · have := h.far.keep hb
    rwa [rowF_congr (H := start.far)] at this
    intro z hz
    rw [if_pos hz]
    rfl
  · have : j = 0 := by have : j < 1 := hj; omega
    subst this
    rfl
  · intro q
    have : w.heap.size = fb := by simpa [Value.ownBlock] using q
    omega
  · intro q
    have : w.heap.size = bb := by simpa [Value.ownBlock] using q
    omega

/-- .. and no queue is long -/
def BdS (n : Nat) (s : Bf) : Prop := Bd n s ∧ left n s ≤ 2 * n + 1
/-- spread's answer -/
def SpPost (w : World) (L : List Eg) (op : Nat → Bool) (n : Nat) (e : Ending) (w' : World) : Prop :=
  ∃ fb bb s, e = .returned (.agg #[.slice (some ⟨fb, 0, none⟩) n n, .slice (some ⟨bb, 0, none⟩) n n]) ∧ Below w.heap.size w w' ∧ Bx 3 w' fb (rowF n s.far) ∧ Bx 3 w' bb (rowF n (fun z => (s.by_ z : Int))) ∧ BI L op n s ∧ s.line = [] ∧ BdS n s ∧ w.heap.size ≤ fb ∧ w.heap.size ≤ bb
theorem BdS.start (n : Nat) : BdS n Proofs.Ytkhgpflpbdakoaa.start := by
  refine ⟨Bd.start n, ?_⟩
  unfold left
  have h2 := List.countP_le_length (p := fun x => (Proofs.Ytkhgpflpbdakoaa.start).far x == -1) (l := List.range n)
  rw [List.length_range] at h2
  show 2 * _ + 1 ≤ _
  omega
theorem BdS.line {n : Nat} {s : Bf} (h : BdS n s) {y : Int} {r : List Int} (hl : s.line = y :: r) : BdS n { s with line := r } := by
  refine ⟨h.1.line r, ?_⟩
  have h1 := h.2
  unfold left at *
  rw [hl, List.length_cons] at h1
  show 2 * (List.range n).countP (fun z => s.far z == -1) + r.length ≤ _
  omega
theorem BdS.short {n : Nat} {s : Bf} (h : BdS n s) : s.line.length ≤ 2 * n + 1 := by
  have h1 := h.2
  unfold left at h1
  omega

set_option maxRecDepth 100000 in
set_option maxHeartbeats 4000000 in
theorem spread_any {w : World} {B n : Nat} {L : List Eg} {S : GrS} (h : GrM w B n L S) (hn : n ≤ 8192) (hL : L.length ≤ 16384) (hok : ∀ e ∈ L, okE' n e) (op : Nat → Bool) (FNO : Nat) (CAPS : Array Value)
    (hcf : ∀ (args : Array Value) (w : World), Sem.run Try.prog (callFunc FNO args) w = .ok (.enter FNO args) w)
    (hop : ∀ w', Below w.heap.size w w' → ∀ i : Nat, i < L.length → Calls Try.prog FNO (#[.int .i64 (i : Int)] ++ CAPS) w' fun e w'' => e = .returned (.bool (op i)) ∧ Below w'.heap.size w' w'') :
    Calls Try.prog 26 #[(.pointer (some ⟨S.g, 0, none⟩)), (.func (.func FNO) #[] CAPS)] w (SpPost w L op n) := by
  have hmk := make_ints n (by omega)
  have G := Lib.hid h
  have HOP := Lib.hid hop
  have HOK := Lib.hid hok
  have HN := Lib.hid hn
  have HL := Lib.hid hL
  clear hop hok hn hL
  have A1 : Hid (Below w.heap.size w (w.alloc (.cells #[.slice none 0 0, .slice none 0 0] 63))) := Lib.hid (by repeat (first | exact Below.refl _ _ | apply Below.setCell _ (by first | omega | (simp <;> omega)) | apply Below.alloc _ (by first | omega | (simp <;> omega))))
  obtain ⟨c0, c1, c2, c3, cl, cf⟩ := (h.step A1.out).cells
  clear h
  go_enter Try.func26, Try.ntmps26
  go_upto_region 1 with fail
  go_cut [5] from 13 to 23 (fun s5 wx => ∃ rb fb bb, s5 = .pointer (some ⟨rb, 0, none⟩) ∧ Bx 63 wx rb [.slice (some ⟨fb, 0, none⟩) n n, .slice (some ⟨bb, 0, none⟩) n n] ∧ Bx 3 wx fb (rowF n (fun _ => 0)) ∧ Bx 3 wx bb (rowF n (fun _ => 0)) ∧
    Bx 63 wx w.heap.size [.slice none 0 0, .slice none 0 0] ∧ Below w.heap.size w wx ∧ w.heap.size < rb ∧ w.heap.size < fb ∧ w.heap.size < bb ∧ fb ≠ bb)
  case first =>
    have KEEP : Hid (∀ w', Below w.heap.size w w' → w'.cell? ⟨S.g, 0, none⟩ = some (.int .i64 n) ∧ Below w.heap.size w w') := Lib.hid (fun w' h => ⟨(G.out.step h).cells.1, h⟩)
    go_region_held3 (fun w' => w'.cell? ⟨S.g, 0, none⟩ = some (.int .i64 n) ∧ Below w.heap.size w w') ((refine KEEP.out _ ?_; repeat (first | exact A1.out | apply below_drew | apply Below.setCell _ (by first | omega | (simp <;> omega)) | apply Below.alloc _ (by first | omega | (simp <;> omega))))) (fail)
    all_goals
      go_wp2_with fail
      go_meet
      have X := alloc4
      refine ⟨_, _, _, rfl, by first | exact (X w _ _ _ _).2.1 | exact (X w _ _ _ _).2.2.1 | exact (X w _ _ _ _).2.2.2.1, by first | exact (X w _ _ _ _).2.1 | exact (X w _ _ _ _).2.2.1 | exact (X w _ _ _ _).2.2.2.1, by first | exact (X w _ _ _ _).2.1 | exact (X w _ _ _ _).2.2.1 | exact (X w _ _ _ _).2.2.2.1, (X w _ _ _ _).1, (X w _ _ _ _).2.2.2.2, by omega, by omega, by omega, by omega⟩
  case rest =>
    obtain ⟨rb, fb, bb, rfl, hbox, hfar, hby, htop, hbel, n1, n2, n3, hne⟩ := hcut
    have H0 : Hid (SpL w wc n rb fb bb 0) := Lib.hid ⟨hbel, n1, n2, n3, htop, hbox, by rw [rowF_congr (H := fun _ => 0)]; exact hfar; exact fun z hz => if_neg (by omega), hby, hne⟩
    obtain ⟨d0, d1, d2, d3, dl, df⟩ := (G.out.step hbel).cells
    clear hbox hfar hby htop hbel n1 n2 n3 hne A1 c0 c1 c2 c3 cl cf hmk
    go_wp2_with fail
    clear d0 d1 d2 d3 dl df
    go_loopg [28] n (fun gk iv wr => ∃ j : Nat, iv = .int .i64 (j : Int) ∧ j + gk = n ∧ SpL w wr n rb fb bb j)
    case atStart => exact ⟨0, rfl, by omega, H0.out⟩
    case round =>
      clear H0
      obtain ⟨j, rfl, hjk, hL⟩ := hrel
      have HL1 := Lib.hid hL
      clear hL
      cases gk with
      | zero =>
        have d1 : decide ((j : Int) < (n : Int)) = false := decide_eq_false (by omega)
        have d2 : ¬ (j : Int) < (n : Int) := by omega
        have d3 : decide (j < n) = false := decide_eq_false (by omega)
        have d4 : ¬ j < n := by omega
        have HS := Lib.hid (show SpL w wr n rb fb bb n by have := HL1.out; rwa [show j = n by omega] at this).begin_
        clear HL1
        go_wp2_with fail
        clear d1 d2 d3 d4
        go_loopg [7] (left n start) (fun gk lv wx => ∃ s, SpM w wx n rb fb bb s lv ∧ BI L op n s ∧ BdS n s ∧ left n s ≤ gk)
        case atStart => exact ⟨start, HS.out, BI.start L op n, BdS.start n, Nat.le_refl _⟩
        case round =>
          clear HS
          obtain ⟨s, hs, hi, hbd, hle⟩ := hrel
          rename World => wx
          obtain ⟨g, off, cap, rfl, -, -, hlc, hcm, hq, -⟩ := hs.qu.shape
          have M1 := Lib.hid hs
          have I1 := Lib.hid hi
          have LE := Lib.hid hle
          have BD0 := Lib.hid hbd
          clear hs hi hle hbd
          obtain ⟨ln, hln⟩ : ∃ ln, ln = s.line.length := ⟨_, rfl⟩
          have HQ := Lib.hid hq
          clear hq
          rw [← hln] at hlc
          rw [← hln]
          have MQ : Hid (SpM w wx n rb fb bb s (.slice (some ⟨g, off, none⟩) ln cap)) := Lib.hid (by rw [hln]; exact M1.out)
          clear M1
          cases hsl : s.line with
          | nil =>
            obtain rfl : ln = 0 := by rw [hln, hsl]; rfl
            have t0 := MQ.out.top.cell 0
            have t1 := MQ.out.top.cell 1
            have tf := MQ.out.top.frozen
            have tl := MQ.out.top.lt
            have r0 := MQ.out.box.cell 0
            have r1 := MQ.out.box.cell 1
            simp only [List.getElem?_cons_zero, List.getElem?_cons_succ] at t0 t1 r0 r1
            have FN : Hid (∀ (u v : Value) (W : World), W = (wx.setCell ⟨w.heap.size, 0, none⟩ u).setCell ⟨w.heap.size, 1, none⟩ v → SpPost w L op n (.returned (.agg #[.slice (some ⟨fb, 0, none⟩) n n, .slice (some ⟨bb, 0, none⟩) n n])) W) := Lib.hid (fun u v W hW => by
              have m := MQ.out
              subst hW
              exact ⟨fb, bb, s, rfl, (m.bel.setCell (p := ⟨w.heap.size, 0, none⟩) (Nat.le_refl _) _).setCell (p := ⟨w.heap.size, 1, none⟩) (Nat.le_refl _) _, (m.far.other (Nat.ne_of_gt m.n2) 0 _).other (Nat.ne_of_gt m.n2) 1 _, (m.byy.other (Nat.ne_of_gt m.n3) 0 _).other (Nat.ne_of_gt m.n3) 1 _, I1.out, hsl, BD0.out, Nat.le_of_lt m.n2, Nat.le_of_lt m.n3⟩)
            clear HQ hlc hcm hln hsl
            go_wp2_with fail
            refine bodyPost_ret (v := .agg #[.slice (some ⟨fb, 0, none⟩) n n, .slice (some ⟨bb, 0, none⟩) n n]) (by simp [results, Try.results26, go_sem, t0, t1, tl]) rfl ?_
            exact FN.out _ _ _ rfl
          | cons y r =>
            have hlr : ln = r.length + 1 := by rw [hln, hsl]; rfl
            have c0 : wx.cell? ⟨g, off, none⟩ = some (.int .i64 y) := by
              have := HQ.out 0 (by omega)
              simp only [hsl] at this
              simpa using this
            have hvy := I1.out.b y (by rw [hsl]; simp)
            have MP := Lib.hid (MQ.out.pop hsl)
            have J1 := Lib.hid (I1.out.take hsl)
            have LP : Hid (left n { s with line := r } + 1 ≤ gk) := Lib.hid (by
              have h1 := LE.out
              unfold left at *
              rw [hsl, List.length_cons] at h1
              show 2 * (List.range n).countP (fun z => s.far z == -1) + r.length + 1 ≤ gk
              omega)
            have VY := Lib.hid hvy
            have BDR := Lib.hid (BD0.out.line hsl)
            have BD := Lib.hid BD0.out.1
            clear BD0
            have hlI : (0 : Int) < (ln : Int) := by omega
            have hcapI : (1 : Int) ≤ (cap : Int) := by omega
            have hlI1 : (1 : Int) ≤ (ln : Int) := by omega
            have hlr1 : (ln : Int) - 1 = (r.length : Int) := by omega
            have hgl : g < wx.heap.size := by
              obtain ⟨g', off', cap', hv, -, hgl, _⟩ := MQ.out.qu.shape
              simp only [Value.slice.injEq, Option.some.injEq, Addr.mk.injEq] at hv
              rw [hv.1.1]; exact hgl
            have hcN : 1 ≤ cap := by omega
            have hlN : 1 ≤ ln := by omega
            have GX := Lib.hid (G.out.step MQ.out.bel)
            obtain ⟨d0, d1, d2, d3, dl, df⟩ := GX.out.cells
            have iy : In64 y := by
              have := HN.out
              rcases hvy with q | ⟨q1, q2, _⟩
              · unfold In64; omega
              · unfold In64; omega
            have lk := GX.out.at_look iy
            obtain ⟨ns, nc, hns, hnc⟩ := G.out.at_cells y
            obtain ⟨es, ec, hes, hec⟩ := G.out.ev_cells
            have HEC := Lib.hid hec
            have HES := Lib.hid hes
            clear hec hes
            rw [hns] at lk
            have HLR := Lib.hid hlr
            clear hlr
            have HNC := Lib.hid hnc
            have HNS := Lib.hid hns
            clear hnc hns iy HQ LE I1 hvy hsl MQ
            obtain ⟨o2, ho2⟩ : ∃ o2, o2 = (if cap = 1 then off else off + 1) := ⟨_, rfl⟩
            rw [← ho2] at MP
            obtain ⟨nx, hnx⟩ : ∃ nx, nx = key { s with line := r } y + 1 := ⟨_, rfl⟩
            have NX := Lib.hid hnx
            have O2 := Lib.hid ho2
            have HLN := Lib.hid hln
            clear hnx ho2 hln
            go_upto_region 10 with fail
            go_cut [7] from 43 to 44 (fun s7 wz => s7 = .slice (some ⟨g, o2, none⟩) r.length (cap - 1) ∧ wz = wx)
            case first =>
              by_cases q : cap = 1
              · have ho : o2 = off := by rw [O2.out, if_pos q]
                have hr0 : r.length = 0 := by have := HLR.out; omega
                go_wp2_with fail
                go_meet
                exact ⟨by rw [ho, hr0, q, show ln - 1 = 0 by have := HLR.out; omega], rfl⟩
              · have ho : o2 = off + 1 := by rw [O2.out, if_neg q]
                go_wp2_with fail
                go_meet
                exact ⟨by rw [ho, show ln - 1 = r.length by have := HLR.out; omega], rfl⟩
            case rest =>
              obtain ⟨rfl, hw⟩ := hcut
              replace hw := hw.symm
              subst hw
              go_upto_if 46 with fail
              go_cut [9] from 37 to 53 (fun s9 wz => s9 = .int .i64 nx ∧ wz = wx)
              case first =>
                by_cases hy : y = -1
                · have hyb : (y == -1) = true := by simpa using hy
                  have e1 : nx = 1 := by rw [NX.out]; unfold key; rw [if_pos hy]; rfl
                  clear hy
                  go_wp2_with fail
                  go_meet
                  exact ⟨by rw [e1], rfl⟩
                · have hyb : (y == -1) = false := by simpa using hy
                  have e1 : nx = 1 + s.far y.toNat := by rw [NX.out]; unfold key; rw [if_neg hy]; exact Int.add_comm _ _
                  have hv : 0 ≤ y ∧ y < n := by
                    rcases VY.out with q | ⟨q1, q2, _⟩
                    · exact absurd q hy
                    · exact ⟨q1, q2⟩
                  obtain ⟨y0, y1⟩ := hv
                  have r0 := MP.out.box.cell 0
                  have rl := MP.out.box.lt
                  have f0 := MP.out.far.cell y.toNat
                  rw [rowF_at _ (by omega)] at f0
                  have fl := MP.out.far.lt
                  simp only [List.getElem?_cons_zero] at r0
                  have hwr : IntKind.i64.wrap (1 + s.far y.toNat) = 1 + s.far y.toNat := by
                    have := BD.out y.toNat (by omega)
                    have := HN.out
                    exact IntWalk.i64_in _ ⟨by omega, by omega⟩
                  clear hy
                  go_wp2_with fail
                  go_meet
                  exact ⟨by rw [e1], rfl⟩
              case rest =>
                obtain ⟨rfl, hw⟩ := hcut
                replace hw := hw.symm
                subst hw
                go_wp2_with fail
                clear d0 d1 d2 d3 dl df c0 lk hlI hcapI hlI1 hlr1 hgl hcN hlN hlc hcm HLR O2 HLN
                have J2 : Hid (BJ L op n y ((idx L y).take 0) ((idx L y).drop 0) { s with line := r }) := Lib.hid J1.out
                obtain ⟨ni, hni⟩ : ∃ ni, ni = (idx L y).length := ⟨_, rfl⟩
                rw [← hni]
                have HNI := Lib.hid hni
                clear J1 hni
                go_loopg [7, 61] ni (fun gj lv iv wz => ∃ s', ∃ j : Nat, iv = .int .i64 (j : Int) ∧ j + gj = ni ∧ SpM w wz n rb fb bb s' lv ∧ BJ L op n y ((idx L y).take j) ((idx L y).drop j) s' ∧ BdS n s' ∧ left n s' + 1 ≤ gk ∧ key s' y + 1 = nx)
                case atStart => exact ⟨_, 0, rfl, by omega, MP.out, J2.out, BDR.out, LP.out, NX.out.symm⟩
                case round =>
                  clear MP J2 BD BDR LP NX
                  obtain ⟨t, i, rfl, hik, hs, hj2, hbd, hle, hkey⟩ := hrel
                  rename World => wz
                  have MZ := Lib.hid hs
                  have JZ := Lib.hid hj2
                  have BZ := Lib.hid hbd
                  have LZ := Lib.hid hle
                  have KZ := Lib.hid hkey
                  clear hs hj2 hbd hle hkey
                  cases gk with
                  | zero =>
                    have e1 : decide ((i : Int) < (ni : Int)) = false := decide_eq_false (by omega)
                    have e2 : ¬ (i : Int) < (ni : Int) := by omega
                    have e3 : decide (i < ni) = false := decide_eq_false (by omega)
                    have e4 : ¬ i < ni := by omega
                    go_wp2_with fail
                    go_roundg (left n t)
                    case measure => have := LZ.out; omega
                    case rel =>
                      have hi : i = (idx L y).length := by rw [← HNI.out]; omega
                      have := JZ.out
                      rw [hi, List.take_length, List.drop_length] at this
                      exact ⟨t, MZ.out, this.give, BZ.out, Nat.le_refl _⟩
                  | succ gj =>
                    have hil : i < (idx L y).length := by rw [← HNI.out]; omega
                    obtain ⟨gn, rfl, hgn, c1⟩ := HNC.out i hil
                    have c1 := keep MZ.out.bel hgn c1
                    have hgn := Nat.lt_of_lt_of_le hgn MZ.out.bel.size
                    obtain ⟨heL, hefr⟩ := idx_iff.1 (List.getElem_mem hil)
                    have HJ : Hid (BJ L op n y ((idx L y).take (i + 1)) ((idx L y).drop (i + 1)) (visit L op nx t (idx L y)[i])) := Lib.hid (by
                      have h1 := JZ.out
                      rw [List.drop_eq_getElem_cons hil] at h1
                      have h2 := h1.visit HOK.out
                      rw [KZ.out] at h2
                      rw [List.take_succ_eq_append_getElem hil]
                      exact h2)
                    have htn0 := (HOK.out _ (List.getElem_mem heL)).2
                    have HE1 := eto_eq heL
                    have HBV : Hid (BdS n (visit L op nx t (idx L y)[i])) := Lib.hid ⟨by
                      have h2 := BZ.out.1.visit (op := op) (L := L) (i := (idx L y)[i]) JZ.out.v JZ.out.pos (by rw [HE1]; exact htn0)
                      rwa [KZ.out] at h2, Nat.le_trans (left_visit (op := op) (L := L) (n := n) (nx := nx) (s := t) (i := (idx L y)[i]) (by rw [HE1]; exact htn0) (by have := JZ.out.pos; have := KZ.out; omega)) BZ.out.2⟩
                    have HSH : Hid (t.line.length < 1000000) := Lib.hid (by have := BZ.out.short; have := HN.out; omega)
                    have HLV : Hid (left n (visit L op nx t (idx L y)[i]) + 1 ≤ gk) := Lib.hid (by
                      have h1 := LZ.out
                      have h2 := left_visit (op := op) (L := L) (n := n) (nx := nx) (s := t) (i := (idx L y)[i]) (by rw [HE1]; exact htn0) (by have := JZ.out.pos; have := KZ.out; omega)
                      omega)
                    have HKV : Hid (key (visit L op nx t (idx L y)[i]) y + 1 = nx) := Lib.hid (by rw [key_visit JZ.out.v]; exact KZ.out)
                    obtain ⟨ge, rfl, hge, -, c2, -, -⟩ := HEC.out _ heL
                    have c2 := keep MZ.out.bel hge c2
                    have hge := Nat.lt_of_lt_of_le hge MZ.out.bel.size
                    rw [← HE1] at c2 htn0
                    generalize (idx L y)[i] = e at *
                    obtain ⟨tn, htn⟩ : ∃ tn : Nat, eto L e = (tn : Int) := ⟨(eto L e).toNat, by omega⟩
                    rw [htn] at c2
                    have htnn : tn < n := by omega
                    have HTN : Hid ((eto L e).toNat = tn) := Lib.hid (by rw [htn]; rfl)
                    have HTI := Lib.hid htn
                    obtain ⟨d0, d1, d2, d3, dl, df⟩ := (G.out.step MZ.out.bel).cells
                    rw [HES.out] at d1
                    have r0 := MZ.out.box.cell 0
                    have r1 := MZ.out.box.cell 1
                    have rl := MZ.out.box.lt
                    have f0 := MZ.out.far.cell tn
                    have fl := MZ.out.far.lt
                    rw [rowF_at _ htnn] at f0
                    simp only [List.getElem?_cons_zero, List.getElem?_cons_succ] at r0 r1
                    have i1 : (i : Int) < (ni : Int) := by omega
                    have i2 : (e : Int) < (L.length : Int) := by omega
                    have i3 : (tn : Int) < (n : Int) := by omega
                    have iN : i < ni := by omega
                    have hw1 : IntKind.i64.wrap ((i : Int) + 1) = (i : Int) + 1 := IntWalk.i64_in _ ⟨by omega, by have := HNI.out; have := idx_len L y; have := HL.out; omega⟩
                    have HC := Lib.hid (HOP.out wz MZ.out.bel e heL)
                    clear JZ BZ LZ KZ HE1 hefr htn0 htn
                    by_cases hf : t.far tn = -1
                    · have hfb : (t.far tn == -1) = true := by simpa using hf
                      have HF := Lib.hid hf
                      clear hf
                      go_wp2_with fail
                      refine HC.out.mono ?_
                      rintro eb w2 ⟨rfl, h2⟩
                      have MW := Lib.hid (MZ.out.step h2)
                      have H2 := Lib.hid h2
                      clear h2 HC r0 r1 rl f0 fl d0 d1 d2 d3 dl df c1 c2
                      by_cases hb : op e = true
                      · rw [hb]
                        have HV : Hid (visit L op nx t e = ⟨up t.far tn nx, up t.by_ tn e, t.line ++ [(tn : Int)]⟩) := Lib.hid (by unfold visit; rw [HTN.out, if_pos ⟨HF.out, hb⟩, HTI.out])
                        clear hb
                        go_wp2_with fail
                        obtain ⟨qg, qo, qc, hqv, -, hqg, -, -, -, -⟩ := MW.out.qu.shape
                        obtain ⟨tl, htl⟩ : ∃ tl, tl = t.line.length := ⟨_, rfl⟩
                        rw [← htl] at hqv
                        have HTL := Lib.hid htl
                        clear htl
                        subst hqv
                        have hrf : rb ≠ fb := Bx.ne MW.out.box MW.out.far (by decide)
                        have hrb : rb ≠ bb := Bx.ne MW.out.box MW.out.byy (by decide)
                        have hfb2 : fb ≠ bb := MW.out.ne
                        have hbf2 : bb ≠ fb := Ne.symm hfb2
                        have f0 := MW.out.far.cell tn
                        have b0 := MW.out.byy.cell tn
                        rw [rowF_at _ htnn] at f0 b0
                        have ff := MW.out.far.frozen tn
                        have bf := MW.out.byy.frozen tn
                        have fl := MW.out.far.lt
                        have bl := MW.out.byy.lt
                        have KK : Hid (∀ w', Bx 63 w' rb [.slice (some ⟨fb, 0, none⟩) n n, .slice (some ⟨bb, 0, none⟩) n n] → w'.cell? ⟨rb, 0, none⟩ = some (.slice (some ⟨fb, 0, none⟩) n n) ∧ w'.cell? ⟨rb, 1, none⟩ = some (.slice (some ⟨bb, 0, none⟩) n n)) := Lib.hid (fun w' h => ⟨h.cell 0, h.cell 1⟩)
                        have HRF := Lib.hid hrf
                        have HRB := Lib.hid hrb
                        have i4 : (0 : Int) ≤ (tn : Int) := by omega
                        clear hrf hrb
                        go_region_held3 (fun w' => w'.cell? ⟨rb, 0, none⟩ = some (.slice (some ⟨fb, 0, none⟩) n n) ∧ w'.cell? ⟨rb, 1, none⟩ = some (.slice (some ⟨bb, 0, none⟩) n n))
                          (first | exact KK.out _ MW.out.box | exact KK.out _ (MW.out.box.other HRF.out _ _) | exact KK.out _ (MW.out.box.other HRB.out _ _) | exact KK.out _ ((MW.out.box.other HRF.out _ _).other HRB.out _ _) | exact KK.out _ ((MW.out.box.other HRB.out _ _).other HRF.out _ _)) (fail)
                        all_goals
                          try rw [set_comm w2 hbf2]
                          have SN : Hid (SpM w ((w2.setCell ⟨fb, tn, none⟩ (.int .i64 nx)).setCell ⟨bb, tn, none⟩ (.int .i64 (e : Int))).drew n rb fb bb ⟨up t.far tn nx, up t.by_ tn e, t.line⟩ (.slice (some ⟨qg, qo, none⟩) tl qc)) := Lib.hid ((MW.out.note htnn).step (Below.refl _ _).drew)
                          generalize ((w2.setCell ⟨fb, tn, none⟩ (.int .i64 nx)).setCell ⟨bb, tn, none⟩ (.int .i64 (e : Int))).drew = W3 at *
                          have SA := Lib.hid (SN.out.step ((Below.refl W3.heap.size W3).alloc (Nat.le_refl _) (.cells #[.int .i64 (tn : Int)] 3)))
                          have HA : Hid ((W3.alloc (.cells #[.int .i64 (tn : Int)] 3)).cell? ((⟨W3.heap.size, 0, none⟩ : Addr).add 0) = some (.int .i64 (tn : Int))) := Lib.hid (by rw [add_at, (Bx.new 3 W3 #[.int .i64 (tn : Int)]).cell]; rfl)
                          have HB2 : Hid (w.heap.size ≤ (W3.alloc (.cells #[.int .i64 (tn : Int)] 3)).heap.size) := Lib.hid SA.out.bel.size
                          clear f0 b0 ff bf fl bl hqg KK MW MZ SN
                          go_wp2_with (at_builtin; refine wpList_push _ (by rfl) (.tmp 94) (.tmp 96) (by rfl) (by rfl) SA.out.qu HB2.out (tn : Int) ⟨W3.heap.size, 0, none⟩ 1 (by rfl) HSH.out HA.out ?_; intro v9 w9 q9 g9 o9)
                          go_roundg gj
                          case measure => omega
                          case rel =>
                            have h1 := HJ.out
                            have h2 := HBV.out
                            have h3 := HLV.out
                            have h4 := HKV.out
                            rw [HV.out] at h1 h2 h3 h4
                            exact ⟨_, i + 1, by push_cast; rfl, by omega, SA.out.push q9 g9 o9, h1, h2, h3, h4⟩
                      · have hb : op e = false := by simpa using hb
                        rw [hb]
                        have HV : Hid (visit L op nx t e = t) := Lib.hid (by unfold visit; rw [HTN.out, if_neg (fun q => by rw [hb] at q; cases q.2)])
                        clear hb
                        go_wp2_with fail
                        go_roundg gj
                        case measure => omega
                        case rel =>
                          have h1 := HJ.out
                          have h2 := HBV.out
                          have h3 := HLV.out
                          have h4 := HKV.out
                          rw [HV.out] at h1 h2 h3 h4
                          exact ⟨t, i + 1, by push_cast; rfl, by omega, MW.out, h1, h2, h3, h4⟩
                    · have hfb : (t.far tn == -1) = false := by simpa using hf
                      have HV : Hid (visit L op nx t e = t) := Lib.hid (by unfold visit; rw [HTN.out, if_neg (fun q => hf q.1)])
                      clear hf
                      go_wp2_with fail
                      go_roundg gj
                      case measure => omega
                      case rel =>
                        have h1 := HJ.out
                        have h2 := HBV.out
                        have h3 := HLV.out
                        have h4 := HKV.out
                        rw [HV.out] at h1 h2 h3 h4
                        exact ⟨t, i + 1, by push_cast; rfl, by omega, MZ.out, h1, h2, h3, h4⟩
      | succ gk =>
        have i1 : (j : Int) < (n : Int) := by omega
        have hjn : j < n := by omega
        have r0 := HL1.out.box.cell 0
        have rl := HL1.out.box.lt
        have f0 := HL1.out.far.cell j
        rw [rowF_at _ hjn] at f0
        have ff := HL1.out.far.frozen j
        have fl := HL1.out.far.lt
        have HX := Lib.hid (HL1.out.next hjn)
        have hw1 : IntKind.i64.wrap ((j : Int) + 1) = (j : Int) + 1 := IntWalk.i64_in _ ⟨by omega, by have := HN.out; omega⟩
        simp only [List.getElem?_cons_zero] at r0
        clear HL1
        go_wp2_with fail
        go_roundg gk
        case measure => omega
        case rel => exact ⟨j + 1, by push_cast; rfl, by omega, HX.out⟩
end Go.Proofs.Ytkhgpflpbdakoaa
