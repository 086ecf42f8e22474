/- Contract of Tidy. -/
import Derived.Test.YtdhbcmbajbgblaaEditM
namespace Go.Proofs.Ytdhbcmbajbgblaa
open Go Go.RowKit
set_option linter.unusedVariables false

theorem tidy_no (s : ByteArray) (src : Option Addr) (n cap : Nat) (l : List IEd) (w : World) (hl : l.length = n) (hn : n ≤ maxLen) (hfit : fitsE s.size l ≠ 0) (hr : EdsIn w src l) :
    Calls Try.prog 22 #[.string s, .slice src n cap] w fun e w' => e = .returned (.tuple #[.slice none 0 0, .int .i64 (fitsE s.size l)]) ∧ Below w.heap.size w w' := by
  have FT := Lib.hid (fun w hr => fits_any s src n cap l w hl hn hr)
  generalize fitsE s.size l = c at *
  have hc : (c == 0) = false := by simp; exact hfit
  go_enter Try.func22, Try.ntmps22
  go_wp2_with fail
  refine (FT.out _ hr).mono ?_
  rintro e w1 ⟨rfl, h01⟩
  go_wp2_with fail
  go_ret2
  exact ⟨rfl, h01⟩

theorem getD_toI (L : List NEd) (j : Nat) (h : j < L.length) : (L.map toI).getD j noEd = toI (L.getD j noN) := by
  rw [List.getD_eq_getElem?_getD, List.getD_eq_getElem?_getD, List.getElem?_map, List.getElem?_eq_getElem h]; rfl
theorem toI_size {L : List NEd} (ht : ∀ e ∈ L, e.2.2.size ≤ 65536) : ∀ e ∈ L.map toI, e.2.2.size ≤ 65536 := by
  intro e he
  obtain ⟨x, hx, rfl⟩ := List.mem_map.1 he
  exact ht x hx

/-- what is said of tidied edits -/
def TidyOf (s : ByteArray) (L D : List NEd) : Prop :=
  EdOk s.size 0 D ∧ TidyL s D ∧ pieces s 0 D = pieces s 0 L ∧ costN D ≤ costN L ∧ D.length ≤ L.length ∧ (TidyL s L → D = L)
theorem tidy_ok (s : ByteArray) (src : Option Addr) (n cap : Nat) (L : List NEd) (w : World) (hl : L.length = n) (hn : n ≤ 4096) (hs : s.size ≤ 65536) (hok : EdOk s.size 0 L) (hsz : (s.size : Int) + growN L ≤ 65536) (hfit : fitsE s.size (L.map toI) = 0) (ht : ∀ e ∈ L, e.2.2.size ≤ 65536) (hr : EdsIn w src (L.map toI)) :
    Calls Try.prog 22 #[.string s, .slice src n cap] w fun e w' => ∃ (g : Nat) (D : List NEd), e = .returned (.tuple #[.slice (some ⟨g, 0, none⟩) D.length n, .int .i64 0]) ∧ Below w.heap.size w w' ∧ g < w'.heap.size ∧ EditAt w' g 0 (D.map toI) ∧ TidyOf s L D := by
  have FT := Lib.hid (fun w hr => fits_any s src n cap (L.map toI) w (by simpa using hl) (by unfold maxLen; omega) hr)
  have FR := Lib.hid (fun w hr => fresh_any src n cap (L.map toI) w (by simpa using hl) hn (toI_size ht) hr)
  have hp : (pieces s 0 L).size ≤ 65536 := by have := size_pieces s L 0 hok; omega
  have TD := Lib.hid (fun B g w hB hg hfz hrow => tidied_any s B g n n L w (fun j => (L.map toI).getD j noEd) hl (by omega) (Nat.le_refl _) (by unfold maxLen; omega) hB hg hfz hrow (fun j hj => getD_toI L j (by omega)) hs hok hp)
  have HR := Lib.hid hr
  rw [hfit] at FT
  clear hr hl hfit hok ht hsz hp hs
  go_enter Try.func22, Try.ntmps22
  go_wp2_with fail
  refine (FT.out _ HR.out).mono ?_
  rintro e w1 ⟨rfl, h01⟩
  have r1 := Lib.hid (HR.out.step h01)
  have b1 := Lib.hid h01
  clear h01
  go_wp2_with fail
  refine (FR.out _ r1.out).mono ?_
  rintro e w2 ⟨g, rfl, h12, hg1, hg2, hfz, hrow⟩
  have T2 := Lib.hid (TD.out w1.heap.size g w2 hg1 hg2 hfz hrow)
  have b2 := Lib.hid (after b1.out h12)
  have hz1 := Lib.hid b1.out.size
  clear h12 hg1 hg2 hfz hrow
  go_wp2_with fail
  refine T2.out.mono ?_
  rintro e w3 ⟨D, rfl, hbel, hgw, hrow, q1, q2, q3, q4, q5, q6⟩
  have b3 := Lib.hid (b2.out.trans (hbel.mono hz1.out))
  have Q := Lib.hid (show g < w3.heap.size ∧ EditAt w3 g 0 (D.map toI) ∧ TidyOf s L D from ⟨hgw, hrow, q1, q2, q3, q4, q5, q6⟩)
  clear hbel hgw hrow q1 q2 q3 q4 q5 q6
  go_wp2_with fail
  go_ret2
  exact ⟨g, D, rfl, b3.out, Q.out⟩

/-- tidied edits fit -/
theorem tidy_facts {s : ByteArray} {L D : List NEd} (hq : TidyOf s L D) (hok : EdOk s.size 0 L) (hl : L.length ≤ 4096) (hs : s.size ≤ 65536) (hg : (s.size : Int) + growN L ≤ 65536) :
    D.length ≤ 4096 ∧ EdOk s.size 0 D ∧ (s.size : Int) + growN D ≤ 65536 ∧ (∀ e ∈ D, e.2.2.size ≤ 65536) ∧ fitsE s.size (D.map toI) = 0 ∧ costE (D.map toI) = (costN D : Nat) := by
  obtain ⟨q1, q2, q3, q4, q5, q6⟩ := hq
  have z1 := size_pieces s L 0 hok
  have z2 := size_pieces s D 0 q1
  rw [q3] at z2
  have hgd : (s.size : Int) + growN D ≤ 65536 := by omega
  have ht : ∀ e ∈ D, e.2.2.size ≤ 65536 := fun e he => by
    have := size_mem s D 0 e he
    rw [q3] at this
    omega
  have hv := valid_fits q1 (by omega) hs hgd ht
  exact ⟨by omega, q1, hgd, ht, hv.1, hv.2.1⟩

end Go.Proofs.Ytdhbcmbajbgblaa
