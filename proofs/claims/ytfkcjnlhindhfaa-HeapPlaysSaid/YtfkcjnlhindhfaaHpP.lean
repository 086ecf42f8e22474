/- The walk of HeapPlays. -/
import Derived.Test.YtfkcjnlhindhfaaHpQ
import Derived.Deep.RegionHeld3
import Derived.Deep.CutRange
import Derived.Deep.CutBlock
namespace Go.Proofs.Ytfkcjnlhindhfaa
open Go Go.RowKit
set_option linter.unusedVariables false
set_option linter.unusedSimpArgs false

/-- the frame at the loop over the acts: what is not needed is whatever it is -/
def frm (src : Option Addr) (m cap b : Nat) (s4 s5 i : Value) (f : Nat → Value) : Act := { tmps := #[.slice src m cap, f 1, f 2, .pointer (some ⟨b, 0, none⟩), s4, s5, f 6, f 7, f 8, f 9, f 10, f 11, f 12, f 13, f 14, f 15, f 16, f 17, f 18, f 19, f 20, f 21, f 22, f 23, f 24, f 25, f 26, f 27, f 28, f 29, f 30, f 31, f 32, f 33, f 34, f 35, f 36, f 37, .slice src m cap, .int .i64 (m : Nat), i, f 41, f 42, f 43, f 44, f 45, f 46, f 47, f 48, f 49, f 50, f 51, f 52, f 53, f 54, f 55, f 56, f 57, f 58, f 59, f 60, f 61, f 62, f 63, f 64, f 65, f 66, f 67, f 68, f 69, f 70, f 71, f 72, f 73, f 74, f 75, f 76, f 77, f 78, f 79, f 80, f 81, f 82, f 83, f 84, f 85, f 86, f 87, f 88, f 89, f 90, f 91, f 92, f 93, f 94, f 95, f 96, f 97, f 98, f 99, f 100, f 101, f 102, f 103, f 104, f 105, f 106, f 107, f 108, f 109, f 110, f 111, f 112, f 113, f 114, f 115, f 116, f 117, f 118, f 119, f 120, f 121, f 122, f 123, f 124, f 125, f 126, f 127, f 128, f 129, f 130, f 131, f 132, f 133, f 134, f 135, f 136, f 137, f 138, f 139, f 140, f 141, f 142, f 143, f 144, f 145, f 146, f 147, f 148, f 149, f 150, f 151, f 152, f 153, f 154, f 155, f 156, f 157, f 158, f 159, f 160, f 161, f 162, f 163, f 164, f 165, f 166, f 167, f 168, f 169, f 170, f 171, f 172, f 173, f 174, f 175, f 176, f 177, f 178, f 179, f 180, f 181, f 182, f 183, f 184, f 185, f 186, f 187, f 188, f 189, f 190, f 191, f 192, f 193, f 194, f 195, f 196, f 197, f 198, f 199, f 200, f 201, f 202, f 203, f 204, f 205, f 206, f 207, f 208, f 209, f 210, f 211, f 212, f 213, f 214, f 215, f 216, f 217, f 218, f 219, f 220, f 221, f 222, f 223, f 224, f 225, f 226, f 227, f 228, f 229, f 230, f 231, f 232, f 233, f 234, f 235, f 236, f 237, f 238, f 239, f 240, f 241, f 242, f 243, f 244, f 245, f 246, f 247, f 248, f 249, f 250, f 251, f 252, f 253, f 254, f 255, f 256, f 257, f 258, f 259, f 260, f 261, f 262, f 263, f 264, f 265, f 266, f 267, f 268, f 269, f 270, f 271, f 272, f 273, f 274, f 275, f 276, f 277, f 278, f 279, f 280, f 281, f 282, f 283, f 284, f 285, f 286, f 287, f 288, f 289, f 290, f 291, f 292, f 293, f 294, f 295, f 296, f 297, f 298, f 299, f 300, f 301, f 302, f 303, f 304, f 305, f 306, f 307, f 308, f 309, f 310, f 311, f 312, f 313, f 314, f 315, f 316, f 317, f 318, f 319, f 320, f 321, f 322, f 323, f 324, f 325, f 326, f 327, f 328, f 329, f 330, f 331, f 332, f 333, f 334, f 335, f 336, f 337, f 338, f 339, f 340, f 341, f 342, f 343, f 344, f 345, f 346, f 347, f 348, f 349, f 350, f 351, f 352, f 353, f 354, f 355, f 356, f 357, f 358, f 359, f 360, f 361, f 362, f 363, f 364, f 365, f 366, f 367, f 368, f 369, f 370, f 371, f 372, f 373, f 374, f 375, f 376, f 377, f 378, f 379, f 380, f 381, f 382, f 383, f 384, f 385, f 386, f 387, f 388, f 389, f 390, f 391, f 392, f 393, f 394, f 395, f 396, f 397, f 398, f 399, f 400, f 401, f 402, f 403, f 404, f 405, f 406, f 407, f 408, f 409, f 410, f 411, f 412, f 413, f 414, f 415, f 416, f 417], defers := [] }
/-- the loop over the acts -/
def RI (w0 : World) (src : Option Addr) (m cap b : Nat) (a : Act) (W : World) : Prop := ∃ (f : Nat → Value) (s4 : Value) (k n : Nat), k ≤ m ∧ PInv w0 W b k n s4 ∧ a = frm src m cap b s4 (.int .i64 n) (.int .i64 k) f
def slotOf (a : Act) (j : Nat) : Value := a.tmps.toList.getD j undef
def RIm (m : Nat) (a : Act) (_ : World) : Nat := m - (intOf (slotOf a 40)).toNat
theorem RI.of {w0 W : World} {src : Option Addr} {m cap b : Nat} {a : Act} (s4 : Value) (k n : Nat) (hk : k ≤ m) (hp : PInv w0 W b k n s4) (h : a = frm src m cap b s4 (.int .i64 n) (.int .i64 k) (slotOf a)) : RI w0 src m cap b a W := ⟨_, s4, k, n, hk, hp, h⟩
theorem RIm.lt {m : Nat} {a a' : Act} {w w' : World} (k k' : Nat) (h : slotOf a 40 = .int .i64 k) (h' : slotOf a' 40 = .int .i64 k') (hk : k < k') (hm : k < m) : RIm m a' w' < RIm m a w := by
  unfold RIm
  rw [h, h']
  simp [intOf]
  omega
/-- the frame ahead of the switch -/
def frm2 (src : Option Addr) (m cap b : Nat) (s4 s5 i s7 s10 : Value) (f : Nat → Value) : Act := { tmps := #[.slice src m cap, f 1, f 2, .pointer (some ⟨b, 0, none⟩), s4, s5, f 6, s7, f 8, f 9, s10, f 11, f 12, f 13, f 14, f 15, f 16, f 17, f 18, f 19, f 20, f 21, f 22, f 23, f 24, f 25, f 26, f 27, f 28, f 29, f 30, f 31, f 32, f 33, f 34, f 35, f 36, f 37, .slice src m cap, .int .i64 (m : Nat), i, f 41, f 42, f 43, f 44, f 45, f 46, f 47, f 48, f 49, f 50, f 51, f 52, f 53, f 54, f 55, f 56, f 57, f 58, f 59, f 60, f 61, f 62, f 63, f 64, f 65, f 66, f 67, f 68, f 69, f 70, f 71, f 72, f 73, f 74, f 75, f 76, f 77, f 78, f 79, f 80, f 81, f 82, f 83, f 84, f 85, f 86, f 87, f 88, f 89, f 90, f 91, f 92, f 93, f 94, f 95, f 96, f 97, f 98, f 99, f 100, f 101, f 102, f 103, f 104, f 105, f 106, f 107, f 108, f 109, f 110, f 111, f 112, f 113, f 114, f 115, f 116, f 117, f 118, f 119, f 120, f 121, f 122, f 123, f 124, f 125, f 126, f 127, f 128, f 129, f 130, f 131, f 132, f 133, f 134, f 135, f 136, f 137, f 138, f 139, f 140, f 141, f 142, f 143, f 144, f 145, f 146, f 147, f 148, f 149, f 150, f 151, f 152, f 153, f 154, f 155, f 156, f 157, f 158, f 159, f 160, f 161, f 162, f 163, f 164, f 165, f 166, f 167, f 168, f 169, f 170, f 171, f 172, f 173, f 174, f 175, f 176, f 177, f 178, f 179, f 180, f 181, f 182, f 183, f 184, f 185, f 186, f 187, f 188, f 189, f 190, f 191, f 192, f 193, f 194, f 195, f 196, f 197, f 198, f 199, f 200, f 201, f 202, f 203, f 204, f 205, f 206, f 207, f 208, f 209, f 210, f 211, f 212, f 213, f 214, f 215, f 216, f 217, f 218, f 219, f 220, f 221, f 222, f 223, f 224, f 225, f 226, f 227, f 228, f 229, f 230, f 231, f 232, f 233, f 234, f 235, f 236, f 237, f 238, f 239, f 240, f 241, f 242, f 243, f 244, f 245, f 246, f 247, f 248, f 249, f 250, f 251, f 252, f 253, f 254, f 255, f 256, f 257, f 258, f 259, f 260, f 261, f 262, f 263, f 264, f 265, f 266, f 267, f 268, f 269, f 270, f 271, f 272, f 273, f 274, f 275, f 276, f 277, f 278, f 279, f 280, f 281, f 282, f 283, f 284, f 285, f 286, f 287, f 288, f 289, f 290, f 291, f 292, f 293, f 294, f 295, f 296, f 297, f 298, f 299, f 300, f 301, f 302, f 303, f 304, f 305, f 306, f 307, f 308, f 309, f 310, f 311, f 312, f 313, f 314, f 315, f 316, f 317, f 318, f 319, f 320, f 321, f 322, f 323, f 324, f 325, f 326, f 327, f 328, f 329, f 330, f 331, f 332, f 333, f 334, f 335, f 336, f 337, f 338, f 339, f 340, f 341, f 342, f 343, f 344, f 345, f 346, f 347, f 348, f 349, f 350, f 351, f 352, f 353, f 354, f 355, f 356, f 357, f 358, f 359, f 360, f 361, f 362, f 363, f 364, f 365, f 366, f 367, f 368, f 369, f 370, f 371, f 372, f 373, f 374, f 375, f 376, f 377, f 378, f 379, f 380, f 381, f 382, f 383, f 384, f 385, f 386, f 387, f 388, f 389, f 390, f 391, f 392, f 393, f 394, f 395, f 396, f 397, f 398, f 399, f 400, f 401, f 402, f 403, f 404, f 405, f 406, f 407, f 408, f 409, f 410, f 411, f 412, f 413, f 414, f 415, f 416, f 417], defers := [] }
def QC (src : Option Addr) (m cap b : Nat) (s4 s5 i s7 s10 : Value) (W : World) (e : Exit) (a : Act) (w : World) : Prop := e = .normal ∧ (∃ f, a = frm2 src m cap b s4 s5 i s7 s10 f) ∧ w = W
theorem QC.of {src : Option Addr} {m cap b : Nat} {s4 s5 i s7 s10 : Value} {W : World} {a : Act} (h : a = frm2 src m cap b s4 s5 i s7 s10 (slotOf a)) : QC src m cap b s4 s5 i s7 s10 W .normal a W := ⟨rfl, ⟨_, h⟩, rfl⟩
set_option maxRecDepth 100000 in
set_option maxHeartbeats 40000000 in
theorem plays_short (HK : Keeps) (src : Option Addr) (l : List OpM) (cap : Nat) (w : World) (hs : OpsIn w src l) (hl : l.length ≤ 40) (hf : ∀ x ∈ l, OpFit x) : Calls Try.prog 3 #[.slice src l.length cap] w (YesP w) := by
  have HKH := Lib.hid HK
  have HS := Lib.hid hs
  have HF := Lib.hid hf
  clear HK hs hf
  generalize hm : l.length = m at *
  have HM := Lib.hid hm
  clear hm
  have d1 : ¬ (40 : Int) < (m : Int) := by omega
  go_enter Try.func3, Try.ntmps3
  go_wp2_with fail
  refine (HKH.out _).mono ?_
  rintro e w1 ⟨rfl, hb1⟩
  have B1 := Lib.hid hb1
  clear hb1 HKH d1
  go_wp2_with fail
  have P0 : Hid (PInv w (w1.alloc (.cells #[.slice none 0 0, .int .i64 0] 26)) w1.heap.size 0 0 (.slice none 0 0)) := Lib.hid
    ⟨[], _, [], ⟨B1.out.size, B1.out.alloc B1.out.size _, HpM.new w1, World.ownsRow_nil _ _ _ _, (fun y hy => by cases hy), (fun y hy => by cases hy), List.Pairwise.nil⟩, rfl, Nat.zero_le _, fun x hx => by cases hx⟩
  refine wp_loop (RI w src m cap w1.heap.size) (RIm m) ?_ ?_
  case refine_1 => exact RI.of _ 0 0 (Nat.zero_le _) P0.out (by kernel_rfl)
  case refine_2 =>
    rintro a wr ⟨f, s4, k, n, hk, hinv, rfl⟩
    dsimp only [frm]
    have PI := Lib.hid hinv
    clear hinv P0
    by_cases hlt : k < m
    · have hkl : k < l.length := by rw [HM.out]; exact hlt
      obtain ⟨ob, ooff, rfl, hob, hat⟩ := HS.out (by omega)
      obtain ⟨tv, ⟨tsrc, tcap, rfl, htys⟩, hcell⟩ := hat k hkl
      have HFX := Lib.hid (HF.out _ (List.getElem_mem hkl))
      obtain ⟨L, v, A, hpm, hsame, hLk, hzero⟩ := PI.out.ex
      have PMH := Lib.hid hpm
      have SAME := Lib.hid hsame
      have HLK := Lib.hid hLk
      have ZERO := Lib.hid hzero
      have hsz := hpm.bel.size
      have TYS := Lib.hid (htys.step hpm.bel)
      have TYW := Lib.hid htys
      have hob2 : ob < wr.heap.size := Nat.lt_of_lt_of_le hob hsz
      generalize hx : l[k] = x at *
      obtain ⟨kind, text, types, ⟨tB, tN, tD, tM⟩, N, ⟨ak, an, aS⟩, ⟨tk, tn, ts⟩⟩ := x
      have q : ∀ j u, j < 14 → (opC ⟨kind, text, types, (tB, tN, tD, tM), N, (ak, an, aS), (tk, tn, ts)⟩ (.slice tsrc types.length tcap))[j]? = some u → wr.cell? ⟨ob, ooff + k * 14 + j, none⟩ = some u := fun j u _ hj => keep hpm.bel hob (hcell j u hj)
      have q0 := q 0 _ (by omega) rfl
      have q1 := q 1 _ (by omega) rfl
      have q2 := q 2 _ (by omega) rfl
      have q3 := q 3 _ (by omega) rfl
      have q4 := q 4 _ (by omega) rfl
      have q5 := q 5 _ (by omega) rfl
      have q6 := q 6 _ (by omega) rfl
      have q7 := q 7 _ (by omega) rfl
      have q8 := q 8 _ (by omega) rfl
      have q9 := q 9 _ (by omega) rfl
      have q10 := q 10 _ (by omega) rfl
      have q11 := q 11 _ (by omega) rfl
      have q12 := q 12 _ (by omega) rfl
      have q13 := q 13 _ (by omega) rfl
      simp only [Nat.add_zero] at q0
      clear q hcell hat hpm hsame hLk hzero htys hx hkl PI
      by_cases l1 : 20 < types.length
      · have l1' : (20 : Int) < (types.length : Int) := by omega
        go_wp2_with fail
        go_ret
        exact ⟨rfl, PMH.out.bel.trans (by repeat (first | exact Below.refl _ _ | apply Below.setCell _ (by first | omega | (simp <;> omega)) | apply Below.alloc _ (by first | omega | (simp <;> omega))))⟩
      by_cases l2 : 60 < text.size
      · have l1' : ¬ (20 : Int) < (types.length : Int) := by omega
        have l2' : (60 : Int) < (text.size : Int) := by omega
        go_wp2_with fail
        go_ret
        exact ⟨rfl, PMH.out.bel.trans (by repeat (first | exact Below.refl _ _ | apply Below.setCell _ (by first | omega | (simp <;> omega)) | apply Below.alloc _ (by first | omega | (simp <;> omega))))⟩
      by_cases l3 : 50 < tM.size
      · have l1' : ¬ (20 : Int) < (types.length : Int) := by omega
        have l2' : ¬ (60 : Int) < (text.size : Int) := by omega
        have l3' : (50 : Int) < (tM.size : Int) := by omega
        go_wp2_with fail
        go_ret
        exact ⟨rfl, PMH.out.bel.trans (by repeat (first | exact Below.refl _ _ | apply Below.setCell _ (by first | omega | (simp <;> omega)) | apply Below.alloc _ (by first | omega | (simp <;> omega))))⟩
      have l1' : ¬ (20 : Int) < (types.length : Int) := by omega
      have l2' : ¬ (60 : Int) < (text.size : Int) := by omega
      have l3' : ¬ (50 : Int) < (tM.size : Int) := by omega
      go_wp2_with fail
      have hAL : A.length = L.length := by have := congrArg List.length SAME.out; simpa using this
      have HAL := Lib.hid hAL
      obtain ⟨ag, ac, rfl⟩ := own_any_shape PMH.out.row
      obtain ⟨W2, hW2⟩ : ∃ W2, W2 = wr.alloc (.cells #[.int .i64 kind, .string text, .slice tsrc types.length tcap, .int .i64 tB, .string tN, .int .i64 tD, .string tM, .int .i64 N, .int .i64 ak, .int .i64 an, .string aS, .int .i64 tk, .int .i64 tn, .string ts] 34) := ⟨_, rfl⟩
      have hb2 : Below wr.heap.size wr W2 := by rw [hW2]; exact (Below.refl _ _).alloc (Nat.le_refl _) _
      have OB2 : Hid (Bx 34 W2 wr.heap.size (opC ⟨kind, text, types, (tB, tN, tD, tM), N, (ak, an, aS), (tk, tn, ts)⟩ (.slice tsrc types.length tcap))) := Lib.hid (by rw [hW2]; exact Bx.new 34 wr _)
      have PM2 := Lib.hid (PMH.out.step hb2)
      have TY2 := Lib.hid (TYS.out.step hb2)
      obtain ⟨p, hp⟩ : ∃ p, p = wr.heap.size := ⟨_, rfl⟩
      rw [← hW2, ← hp]
      rw [← hp] at OB2
      clear hW2 hb2 hp q0 q1 q2 q3 q4 q5 q6 q7 q8 q9 q10 q11 q12 q13 PMH TYS hob2 hsz l1' l2' l3' hAL HS hob
      go_loopw [64] (fun i wx => ∃ j : Nat, j ≤ types.length ∧ i = .int .i64 j ∧ Below W2.heap.size W2 wx) (fun i _ => types.length - (intOf i).toNat)
      case atStart => exact ⟨0, Nat.zero_le _, rfl, Below.refl _ _⟩
      case round =>
        obtain ⟨j, hj, rfl, hbx⟩ := hrel
        have BX := Lib.hid hbx
        clear hbx
        by_cases hjl : j < types.length
        · obtain ⟨bs, off, rfl, hbs, hat⟩ := TY2.out (by omega)
          obtain ⟨t0, t1, t2, t3⟩ := hat j hjl
          have hbs2 : bs < wr.heap.size := Nat.lt_of_lt_of_le hbs BX.out.size
          have t0' := keep BX.out hbs t0
          have t1' := keep BX.out hbs t1
          have t2' := keep BX.out hbs t2
          have t3' := keep BX.out hbs t3
          have hjl2 : (j : Int) < (types.length : Int) := by omega
          have hts := HFX.out.tys _ (List.getElem_mem hjl)
          generalize types[j] = y at *
          obtain ⟨yB, yN, yD, yM⟩ := y
          simp only at t0' t1' t2' t3' hts
          clear t0 t1 t2 t3 hat hbs
          by_cases hM5 : 50 < yM.size
          · have hM5' : (50 : Int) < (yM.size : Int) := by omega
            go_wp2_with fail
            go_ret
            exact ⟨rfl, (PM2.out.bel.trans (BX.out.mono PM2.out.bel.size)).alloc (Nat.le_trans PM2.out.bel.size BX.out.size) _⟩
          · have hM5' : ¬ (50 : Int) < (yM.size : Int) := by omega
            have HZ : Hid (Below W2.heap.size W2 (wr.alloc (.cells #[.int .i64 yB, .string yN, .int .i64 yD, .string yM] 30))) := Lib.hid (BX.out.alloc BX.out.size _)
            have hj20 : types.length ≤ 20 := by omega
            go_wp2_with fail
            go_roundw
            case rel => exact ⟨j + 1, by omega, by go_num, HZ.out⟩
            case measure => simp [intOf]; omega
        · have hjn : ¬ (j : Int) < (types.length : Int) := by omega
          have OBX := Lib.hid (OB2.out.keep BX.out)
          have PMX := Lib.hid (PM2.out.step BX.out)
          have TYX := Lib.hid (TY2.out.step BX.out)
          clear OB2 PM2 TY2 BX hj
          go_upto_region 19 with fail
          refine Code.wp_mono (Q := QC (some ⟨ob, ooff, none⟩) m cap w1.heap.size (.slice ag A.length ac) (.int .i64 n) (.int .i64 k) (.pointer (some ⟨p, 0, none⟩)) (.bool (thereN L ak an)) wr) ?_ ?_
          case refine_2 =>
            have o5 := OBX.out.cell 8
            have o9 := OBX.out.cell 9
            have ol := OBX.out.lt
            simp only [opC, List.getElem?_cons_zero, List.getElem?_cons_succ] at o5 o9
            have hAL := HAL.out
            by_cases c1 : ak = 5
            · subst c1
              by_cases c2 : 0 ≤ an
              · have c2' : decide (0 ≤ an) = true := decide_eq_true c2
                by_cases c3 : an < (A.length : Int)
                · have c3' : decide (an < (A.length : Int)) = true := decide_eq_true c3
                  have E := Lib.hid (show thereN L 5 an = true by unfold thereN; rw [← hAL]; simp [c2, c3])
                  clear hAL
                  as_aux_lemma =>
                    go_wp2_with fail
                    rw [E.out]
                    exact QC.of (by kernel_rfl)
                · have c3' : decide (an < (A.length : Int)) = false := decide_eq_false c3
                  have E := Lib.hid (show thereN L 5 an = false by unfold thereN; rw [← hAL]; simp [c2, c3])
                  clear hAL
                  as_aux_lemma =>
                    go_wp2_with fail
                    rw [E.out]
                    exact QC.of (by kernel_rfl)
              · have c2' : decide (0 ≤ an) = false := decide_eq_false c2
                have E := Lib.hid (show thereN L 5 an = false by unfold thereN; simp [c2])
                clear hAL
                as_aux_lemma =>
                  go_wp2_with fail
                  rw [E.out]
                  exact QC.of (by kernel_rfl)
            · have c1' : (ak == 5) = false := by simpa using c1
              have E := Lib.hid (show thereN L ak an = false by unfold thereN; simp [c1'])
              clear hAL
              as_aux_lemma =>
                go_wp2_with fail
                rw [E.out]
                exact QC.of (by kernel_rfl)
          case refine_1 =>
            rintro e a wr ⟨rfl, ⟨f2, rfl⟩, rfl⟩
            dsimp only [frm2]
            clear hjn TYX hjl
            have o0 := OBX.out.cell 0
            have o1 := OBX.out.cell 1
            have o2 := OBX.out.cell 2
            have o3 := OBX.out.cell 3
            have o4 := OBX.out.cell 4
            have o5 := OBX.out.cell 5
            have o6 := OBX.out.cell 6
            have o7 := OBX.out.cell 7
            have o8 := OBX.out.cell 8
            have o9 := OBX.out.cell 9
            have o10 := OBX.out.cell 10
            have o11 := OBX.out.cell 11
            have o12 := OBX.out.cell 12
            have o13 := OBX.out.cell 13
            have ol := OBX.out.lt
            simp only [opC, List.getElem?_cons_zero, List.getElem?_cons_succ] at o0 o1 o2 o3 o4 o5 o6 o7 o8 o9 o10 o11 o12 o13
            have hB1 : w1.heap.size ≤ wr.heap.size := Nat.le_of_lt PMX.out.size
            have hL40 : L.length < 4096 := by have := HLK.out; omega
            have hn6 : n ≤ 65536 := PMX.out.hp.ln
            by_cases k0 : kind = 0
            · subst k0
              by_cases hfit : n + types.length ≤ 65536
              · have hnf : ¬ (65536 : Int) < (n : Int) + (types.length : Int) := by omega
                have hl20 : types.length ≤ 20 := by omega
                have HO := Lib.hid (object_yes w1.heap.size w1.heap.size n L v text tsrc types tcap wr PMX.out.hp hB1 hL40 hfit (by have := HFX.out.text; unfold maxLen at this; omega) (TYW.out.step PMX.out.bel) (fun t ht => by have := HFX.out.tys t ht; unfold maxLen at this; exact this))
                go_wp2_with fail
                refine HO.out.mono ?_
                rintro e w2 hm
                have he := hm.1
                obtain ⟨g, v', hpm, hg⟩ := PMX.out.made hm
                have hob := hm.2.2.2.bx OBX.out (by decide) (fun e => by have := PMX.out.hp.box.ne OBX.out (by decide); exact this e.symm)
                rw [← HAL.out] at he
                subst he
                simp only [List.length_map] at hpm
                obtain ⟨W3, hW3⟩ : ∃ W3, W3 = w2.alloc (.cells #[.int .i64 5, .int .i64 (A.length : Nat), .string ⟨#[]⟩] 32) := ⟨_, rfl⟩
                have hb3 : Below w2.heap.size w2 W3 := by rw [hW3]; exact (Below.refl _ _).alloc (Nat.le_refl _) _
                have VB3 : Hid (Bx 32 W3 w2.heap.size [.int .i64 5, .int .i64 (A.length : Nat), .string ⟨#[]⟩]) := Lib.hid (by rw [hW3]; exact Bx.new 32 w2 _)
                have hs3 : w2.heap.size + 1 = W3.heap.size := by rw [hW3]; simp
                have OB3 := Lib.hid (hob.keep hb3)
                have OB2 := Lib.hid hob
                obtain ⟨L2, hL2⟩ : ∃ L2, L2 = L ++ [((⟨false, text, (0, ⟨#[]⟩, 0, ⟨#[]⟩), types.map emptyT⟩ : Th), g)] := ⟨_, rfl⟩
                rw [← hL2] at hpm
                have PM3 := Lib.hid (hpm.step hb3)
                have HW3 := Lib.hid hW3
                have HS3 := Lib.hid hs3
                have HL2 := Lib.hid hL2
                clear hm hpm hg hob hb3 hW3 hs3 hL2 HO OBX PMX
                have o1b := o1
                clear o0 o3 o4 o5 o6 o7 o8 o9 o10 o11 o12 o13 o1 o2 ol o1b
                have o1 := OB2.out.cell 1
                have o2 := OB2.out.cell 2
                have ol := OB2.out.lt
                simp only [opC, List.getElem?_cons_zero, List.getElem?_cons_succ] at o1 o2
                go_wp2_with fail
                rw [← HW3.out, HS3.out]
                clear o1 o2 ol OB2
                obtain ⟨vb, hvb⟩ : ∃ vb, vb = w2.heap.size := ⟨_, rfl⟩
                rw [← hvb] at VB3 ⊢
                clear hvb HS3 HW3
                have CB0 : Hid (CB w (W3.alloc (.cells #[.string text, .int .i64 0, .string ⟨#[]⟩, .int .i64 0, .string ⟨#[]⟩, .bool false, .slice none 0 0] 40)) w1.heap.size L2 (n + types.length) v' A (.slice ag A.length ac) W3 ⟨false, text, (0, ⟨#[]⟩, 0, ⟨#[]⟩), []⟩ (.slice none 0 0) []) := Lib.hid (CB.start PM3.out ⟨false, text, (0, ⟨#[]⟩, 0, ⟨#[]⟩), []⟩)
                go_loopw [162] (fun i wx => ∃ (j : Nat) (vv : Value), j ≤ types.length ∧ i = .int .i64 j ∧ CB w wx w1.heap.size L2 (n + types.length) v' A (.slice ag A.length ac) W3 ⟨false, text, (0, ⟨#[]⟩, 0, ⟨#[]⟩), []⟩ vv ((types.take j).map emptyT)) (fun i _ => types.length - (intOf i).toNat)
                case atStart => exact ⟨0, _, Nat.zero_le _, rfl, CB0.out⟩
                case round =>
                  obtain ⟨j, vv, hj, rfl, hcb⟩ := hrel
                  have CBH := Lib.hid hcb
                  have hwb : Below w.heap.size w wr := PM3.out.bel.trans (hcb.bel.mono PM3.out.bel.size)
                  have HWB := Lib.hid hwb
                  clear hcb hwb CB0
                  by_cases hjl : j < types.length
                  ·
                    as_aux_lemma =>
                      obtain ⟨bs, off, rfl, hbs, hat⟩ := TYW.out (by omega)
                      obtain ⟨t0, t1, t2, t3⟩ := hat j hjl
                      have hbs2 : bs < wr.heap.size := Nat.lt_of_lt_of_le hbs HWB.out.size
                      have t0' := keep HWB.out hbs t0
                      have t1' := keep HWB.out hbs t1
                      have t2' := keep HWB.out hbs t2
                      have t3' := keep HWB.out hbs t3
                      have hjl2 : (j : Int) < (types.length : Int) := by omega
                      have hts := HFX.out.tys _ (List.getElem_mem hjl)
                      have HTK : Hid ((types.take (j + 1)).map emptyT = (types.take j).map emptyT ++ [emptyT types[j]]) := Lib.hid (by rw [List.take_succ_eq_append_getElem hjl, List.map_append]; rfl)
                      have HLT : Hid (((types.take j).map emptyT).length = j) := Lib.hid (by rw [List.length_map, List.length_take]; omega)
                      generalize types[j] = y at *
                      obtain ⟨yB, yN, yD, yM⟩ := y
                      simp only at t0' t1' t2' t3' hts
                      clear t0 t1 t2 t3 hat hbs
                      generalize (types.take j).map emptyT = vals at *
                      obtain ⟨j0, hj0, jz0, jz1, jz2⟩ := infoVal2
                      have HEm := Lib.hid (fun w => lempty_any yB yN yD yM w (by unfold maxLen at hts; exact hts))
                      obtain ⟨W4, hW4⟩ : ∃ W4, W4 = wr.alloc (.cells #[.int .i64 yB, .string yN, .int .i64 yD, .string yM] 30) := ⟨_, rfl⟩
                      have hb4 : Below wr.heap.size wr W4 := by rw [hW4]; exact (Below.refl _ _).alloc (Nat.le_refl _) _
                      have TB4 : Hid (Bx 30 W4 wr.heap.size [.int .i64 yB, .string yN, .int .i64 yD, .string yM]) := Lib.hid (by rw [hW4]; exact Bx.new 30 wr _)
                      have CB4 := Lib.hid (CBH.out.keep hb4)
                      have HW4 := Lib.hid hW4
                      have e6 := CBH.out.box.cell 6
                      have el := CBH.out.box.lt
                      simp only [ceC, List.getElem?_cons_zero, List.getElem?_cons_succ] at e6
                      clear hW4 hb4
                      go_wp2_with fail
                      rw [← HW4.out]
                      clear e6 el t0' t1' t2' t3' HW4
                      obtain ⟨tb, htb⟩ : ∃ tb, tb = wr.heap.size := ⟨_, rfl⟩
                      rw [← htb] at TB4 ⊢
                      clear htb
                      obtain ⟨y0, y1, y2, y3, yl, yf⟩ := TB4.out.four
                      have e6 := CB4.out.box.cell 6
                      have el := CB4.out.box.lt
                      have ef := CB4.out.box.frozen 6
                      simp only [ceC, List.getElem?_cons_zero, List.getElem?_cons_succ] at e6
                      have N1 : Hid (vals.length + 1 ≤ maxLen) := Lib.hid (by have := HLT.out; unfold maxLen; omega)
                      have N2 : Hid ((vals.length + 1) * 32 ≤ 140737488355328) := Lib.hid (by have := HLT.out; omega)
                      have RW : Hid (∀ (W5 : World) (x : Vl), ∀ j u, (vC x)[j]? = some u → (W5.alloc (.cells (vC x).toArray 32)).cell? ((⟨W5.heap.size, 0, none⟩ : Addr).add j) = some u) := Lib.hid (by
                        intro W5 x j u hj
                        rw [add_at, Nat.zero_add, (Bx.new 32 W5 (vC x).toArray).cell]
                        exact hj)
                      have R1 : Hid (∀ (x : Vl), ∀ u ∈ vC x, u.oneCell' = true) := Lib.hid (by
                        intro x u hu
                        unfold vC at hu
                        simp only [List.mem_cons, List.not_mem_nil, or_false] at hu
                        rcases hu with rfl | rfl | rfl <;> rfl)
                      go_region_law (first
                        | (refine step_append_n rfl (.tmp 167) (.tmp 170) 38 rfl W3.heap.size 32 j0 _ 3 32 Try.underlying38 hj0 jz0 jz1 jz2 rfl (by decide) vv vals.length (flatV vals) rfl (HW.out.own.alloc _) ⟨W5.heap.size, 0, none⟩ 1 1 (vC (emptyT (yB, yN, yD, yM))) rfl rfl (RW.out W5 _) (R1.out _) N1.out N2.out (HB5.out _) ?_
                           intro v'' w6 hown' hgrow
                           obtain ⟨g2, gc, rfl⟩ := own_shape hown'
                           have HG := Lib.hid (HW.out.push (emptyT (yB, yN, yD, yM)) hown' hgrow)
                           have e6 := HG.out.2.cell 6
                           have ef := HG.out.2.frozen 6
                           have el := HG.out.2.lt
                           simp only [ceC, List.getElem?_cons_zero, List.getElem?_cons_succ] at e6
                           clear hown' hgrow)
                        | (go_simp
                           go_at_call 7
                           refine (HEm.out _).mono ?_
                           rintro e W5 ⟨rfl, h5⟩
                           have HW := Lib.hid (CB4.out.keep ((Below.refl _ _).drew.trans h5))
                           have HB5 : Hid (∀ o : Obj, W3.heap.size ≤ (W5.alloc o).heap.size) := Lib.hid (fun o => by have := HW.out.bel.size; simp; omega)
                           have e6 := HW.out.box.cell 6
                           have el := HW.out.box.lt
                           simp only [ceC, List.getElem?_cons_zero, List.getElem?_cons_succ] at e6
                           clear h5))
                      all_goals
                        have HZ := Lib.hid HG.out.1
                        clear HG HW HB5 RW R1 N1 N2 CB4 TB4 y0 y1 y2 y3 yl yf e6 el ef
                        go_wp2_with fail
                        go_roundw
                        case rel => exact ⟨j + 1, _, by omega, by go_num, by rw [HTK.out]; exact HZ.out⟩
                        case measure => simp [intOf]; omega
                  ·
                    have hj' : j = types.length := by omega
                    subst hj'
                    have hn1 : ¬ (types.length : Int) < (types.length : Int) := by omega
                    have CBE := Lib.hid (show CB w wr w1.heap.size L2 (n + types.length) v' A (.slice ag A.length ac) W3 ⟨false, text, (0, ⟨#[]⟩, 0, ⟨#[]⟩), []⟩ vv (types.map emptyT) by have := CBH.out; rwa [List.take_length] at this)
                    have VBR := Lib.hid (VB3.out.at_ (k := 0) (CBH.out.bel.block _ VB3.out.lt))
                    have HML : Hid ((types.map emptyT).length = types.length) := Lib.hid (by simp)
                    have KEEP : Hid (∀ W', Below wr.heap.size wr W' → W'.cell? ⟨vb, 0, none⟩ = some (.int .i64 5) ∧ W'.cell? ⟨vb, 1, none⟩ = some (.int .i64 (A.length : Nat)) ∧ W'.cell? ⟨vb, 2, none⟩ = some (.string ⟨#[]⟩) ∧ Below wr.heap.size wr W') := Lib.hid (fun W' h => by
                      have := (VBR.out.keep h).three
                      exact ⟨this.1, this.2.1, this.2.2.1, h⟩)
                    clear CBH VB3
                    go_wp2_with fail
                    go_region_held3 (fun W' => W'.cell? ⟨vb, 0, none⟩ = some (.int .i64 5) ∧ W'.cell? ⟨vb, 1, none⟩ = some (.int .i64 (A.length : Nat)) ∧ W'.cell? ⟨vb, 2, none⟩ = some (.string ⟨#[]⟩) ∧ Below wr.heap.size wr W') (first | exact KEEP.out _ (Below.refl _ _) | exact KEEP.out _ (Below.refl _ _).drew | exact KEEP.out _ (after (by assumption) hb2)) (first | (go_at_call 8; go_split_ands; refine (at_any _ _).mono ?_; rintro e w2 ⟨rfl, hb2⟩))
                    all_goals go_split_ands
                    all_goals
                      have hbz : Below wr.heap.size wr w2 := by assumption
                      have CBX := Lib.hid (CBE.out.keep hbz)
                      clear hbz hb2 KEEP VBR
                      have c0 := CBX.out.box.cell 0
                      have c1 := CBX.out.box.cell 1
                      have c2 := CBX.out.box.cell 2
                      have c3 := CBX.out.box.cell 3
                      have c4 := CBX.out.box.cell 4
                      have c5 := CBX.out.box.cell 5
                      have c6 := CBX.out.box.cell 6
                      have cl := CBX.out.box.lt
                      simp only [ceC, List.getElem?_cons_zero, List.getElem?_cons_succ] at c0 c1 c2 c3 c4 c5 c6
                      have ROW := Lib.hid ((CBX.out.pm.step CBX.out.bel).row)
                      obtain ⟨jc, hjc, jcz0, jcz1, jcz2⟩ := info_parts infoCell
                      have hA40 : A.length ≤ 40 := by have := HAL.out; have := HLK.out; omega
                      have RWC : Hid (∀ j u, (ceC (⟨false, text, (0, ⟨#[]⟩, 0, ⟨#[]⟩), []⟩, vv))[j]? = some u → (w2.alloc (.cells (ceC (⟨false, text, (0, ⟨#[]⟩, 0, ⟨#[]⟩), []⟩, vv)).toArray 40)).cell? ((⟨w2.heap.size, 0, none⟩ : Addr).add j) = some u) := Lib.hid (by
                        intro j u hj
                        rw [add_at, Nat.zero_add, (Bx.new 40 w2 _).cell]
                        exact hj)
                      have R1C : Hid (∀ u ∈ ceC (⟨false, text, (0, ⟨#[]⟩, 0, ⟨#[]⟩), []⟩, vv), u.oneCell' = true) := Lib.hid (by
                        obtain ⟨sg, sc, hsv⟩ := own_any_shape CBX.out.own
                        intro u hu
                        unfold ceC at hu
                        simp only [List.mem_cons, List.not_mem_nil, or_false] at hu
                        rcases hu with rfl | rfl | rfl | rfl | rfl | rfl | rfl
                        all_goals first | rfl | (rw [hsv]; rfl))
                      have HBW : Hid (w1.heap.size ≤ (w2.alloc (.cells (ceC (⟨false, text, (0, ⟨#[]⟩, 0, ⟨#[]⟩), []⟩, vv)).toArray 40)).heap.size) := Lib.hid (by
                        have := CBX.out.bel.size
                        have := PM3.out.size
                        simp
                        omega)
                      go_wp2_with (at_builtin; refine wpList_append_own _ rfl _ _ 27 rfl w1.heap.size 40 jc _ 7 96 Try.underlying27 hjc jcz0 jcz1 jcz2 rfl (by decide) (.slice ag A.length ac) A.length (flatC A) rfl (ROW.out.alloc _) ⟨w2.heap.size, 0, none⟩ 1 1 (ceC (⟨false, text, (0, ⟨#[]⟩, 0, ⟨#[]⟩), []⟩, vv)) rfl rfl ?c1 ?c2 ?c3 ?c4 ?c5 ?_)
                      case c1 => first | exact RWC.out | exact fun j u hj => hj
                      case c2 => exact R1C.out
                      case c3 => unfold maxLen; omega
                      case c4 => omega
                      case c5 => first | exact HBW.out | (have := HBW.out; simpa using this)
                      intro av2 w6 hown' hgrow _
                      have HG := Lib.hid (CBX.out.done hown' hgrow)
                      obtain ⟨vg, vcp, hvv⟩ := own_any_shape CBX.out.own
                      have b6 := HG.out.2.cell 6
                      have bl := HG.out.2.lt
                      simp only [ceC, List.getElem?_cons_zero, List.getElem?_cons_succ] at b6
                      rw [hvv, HML.out] at b6
                      have HPI : Hid (PInv w w6 w1.heap.size (k + 1) (n + types.length) av2) := Lib.hid (by
                        have := HG.out.1
                        rw [HL2.out] at this
                        exact PInv.next this SAME.out HLK.out ZERO.out ⟨fun _ => rfl, fun h => by cases h⟩)
                      clear hown' hgrow HG c0 c1 c2 c3 c4 c5 c6 cl ROW RWC R1C HBW hvv CBX CBE jcz0 hjc jcz1 jcz2
                      have hl20' : types.length ≤ 20 := by omega
                      go_wp2_with fail
                      exact ⟨RI.of av2 (k + 1) (n + types.length) (by omega) HPI.out (by kernel_rfl), RIm.lt k (k + 1) (by kernel_rfl) (by kernel_rfl) (by omega) hlt⟩
              · have hnf : (65536 : Int) < (n : Int) + (types.length : Int) := by omega
                have hro : (decide (L.length < 4096) && decide ((types.length : Int) ≤ 65536 - (n : Int))) = false := by
                  rw [Bool.and_eq_false_iff]; exact .inr (decide_eq_false (by omega))
                have HO := Lib.hid (object_no w1.heap.size w1.heap.size n L v text tsrc types.length tcap wr PMX.out.hp hro (by omega))
                clear hro
                go_wp2_with fail
                refine HO.out.mono ?_
                rintro e w2 ⟨rfl, hb⟩
                have OB2 := Lib.hid (OBX.out.keep hb)
                have PM2 := Lib.hid (PMX.out.step (after hb ((Below.refl _ _).alloc (Nat.le_refl _) (.cells #[.int .i64 0, .int .i64 0, .string ⟨#[]⟩] 32))))
                clear o0 o1 o2 o3 o4 o5 o6 o7 o8 o9 o10 o11 o12 o13 ol HO hb
                have o2 := OB2.out.cell 2
                have ol := OB2.out.lt
                simp only [opC, List.getElem?_cons_zero, List.getElem?_cons_succ] at o2
                have hl20 : types.length ≤ 20 := by omega
                have HPI : Hid (PInv w (w2.alloc (.cells #[.int .i64 0, .int .i64 0, .string ⟨#[]⟩] 32)) w1.heap.size (k + 1) n (.slice ag A.length ac)) := Lib.hid ⟨L, v, A, PM2.out, SAME.out, Nat.le_succ_of_le HLK.out, ZERO.out⟩
                go_wp2_with fail
                exact ⟨RI.of (.slice ag A.length ac) (k + 1) n (by omega) HPI.out (by kernel_rfl), RIm.lt k (k + 1) (by kernel_rfl) (by kernel_rfl) (by omega) hlt⟩
            have k0' : (kind == 0) = false := by simpa using k0
            by_cases k1 : kind = 1
            · subst k1
              clear k0 k0'
              by_cases b0 : N < 0
              · have HO := Lib.hid (array_range w1.heap.size w1.heap.size n L v tB tN tD tM N wr b0)
                go_wp2_with fail
                refine HO.out.mono ?_
                rintro e w2 ⟨rfl, hb⟩
                as_aux_lemma =>
                  have OB2 := Lib.hid (OBX.out.keep hb)
                  have PM2 := Lib.hid (PMX.out.step (after hb ((Below.refl _ _).alloc (Nat.le_refl _) (.cells #[.int .i64 0, .int .i64 0, .string ⟨#[]⟩] 32))))
                  clear o0 o1 o2 o3 o4 o5 o6 o7 o8 o9 o10 o11 o12 o13 ol HO hb
                  have o7 := OB2.out.cell 7
                  have ol := OB2.out.lt
                  simp only [opC, List.getElem?_cons_zero, List.getElem?_cons_succ] at o7
                  have HPI : Hid (PInv w (w2.alloc (.cells #[.int .i64 0, .int .i64 0, .string ⟨#[]⟩] 32)) w1.heap.size (k + 1) n (.slice ag A.length ac)) := Lib.hid ⟨L, v, A, PM2.out, SAME.out, Nat.le_succ_of_le HLK.out, ZERO.out⟩
                  go_wp2_with fail
                  exact ⟨RI.of (.slice ag A.length ac) (k + 1) n (by omega) HPI.out (by kernel_rfl), RIm.lt k (k + 1) (by kernel_rfl) (by kernel_rfl) (by omega) hlt⟩
              by_cases b1 : N ≤ 65536 ∧ (n : Int) + N ≤ 65536
              · obtain ⟨M, rfl⟩ : ∃ M : Nat, N = M := ⟨N.toNat, by omega⟩
                have hfit : n + M ≤ 65536 := by omega
                have hM0 : ¬ (M : Int) < 0 := by omega
                have hM1 : decide ((65536 : Int) < (M : Int)) = false := decide_eq_false (by omega)
                have hM2 : decide ((65536 : Int) < (n : Int) + (M : Int)) = false := decide_eq_false (by omega)
                have wrm : IntKind.i64.wrap ((n : Int) + (M : Int)) = (n : Int) + (M : Int) := IntWalk.i64_in _ ⟨by omega, by omega⟩
                have HO := Lib.hid (array_yes w1.heap.size w1.heap.size n L v tB tN tD tM M wr PMX.out.hp hB1 hL40 hfit HFX.out.N (by omega))
                go_wp2_with fail
                refine HO.out.mono ?_
                rintro e w2 hm
                have he := hm.1
                obtain ⟨g, v', hpm, hg⟩ := PMX.out.made hm
                have hob := hm.2.2.2.bx OBX.out (by decide) (fun e => by have := PMX.out.hp.box.ne OBX.out (by decide); exact this e.symm)
                rw [← HAL.out] at he
                subst he
                simp only [List.length_replicate] at hpm
                obtain ⟨W3, hW3⟩ : ∃ W3, W3 = w2.alloc (.cells #[.int .i64 5, .int .i64 (A.length : Nat), .string ⟨#[]⟩] 32) := ⟨_, rfl⟩
                have hb3 : Below w2.heap.size w2 W3 := by rw [hW3]; exact (Below.refl _ _).alloc (Nat.le_refl _) _
                have VB3 : Hid (Bx 32 W3 w2.heap.size [.int .i64 5, .int .i64 (A.length : Nat), .string ⟨#[]⟩]) := Lib.hid (by rw [hW3]; exact Bx.new 32 w2 _)
                have OB3 := Lib.hid (hob.keep hb3)
                have OB2 := Lib.hid hob
                obtain ⟨L2, hL2⟩ : ∃ L2, L2 = L ++ [((⟨true, ⟨#[]⟩, (tB, tN, tD, tM), List.replicate M (emptyV tB tD tM)⟩ : Th), g)] := ⟨_, rfl⟩
                rw [← hL2] at hpm
                have PM3 := Lib.hid (hpm.step hb3)
                have HW3 := Lib.hid hW3
                have HL2 := Lib.hid hL2
                clear hm hpm hg hob hb3 hW3 hL2 HO OBX PMX b0 b1
                clear o0 o3 o4 o5 o6 o7 o8 o9 o10 o11 o12 o13 o1 o2 ol
                have o7 := OB2.out.cell 7
                have ol := OB2.out.lt
                simp only [opC, List.getElem?_cons_zero, List.getElem?_cons_succ] at o7
                go_wp2_with fail
                rw [← HW3.out]
                clear o7 ol OB2 HW3
                obtain ⟨vb, hvb⟩ : ∃ vb, vb = w2.heap.size := ⟨_, rfl⟩
                rw [← hvb] at VB3 ⊢
                clear hvb
                have KEEP : Hid (∀ W', Below W3.heap.size W3 W' → W'.cell? ⟨vb, 0, none⟩ = some (.int .i64 5) ∧ W'.cell? ⟨vb, 1, none⟩ = some (.int .i64 (A.length : Nat)) ∧ W'.cell? ⟨vb, 2, none⟩ = some (.string ⟨#[]⟩) ∧ W'.cell? ⟨p, 7, none⟩ = some (.int .i64 (M : Nat)) ∧ Below W3.heap.size W3 W') := Lib.hid (fun W' h => by
                  have := (VB3.out.keep h).three
                  exact ⟨this.1, this.2.1, this.2.2.1, (OB3.out.keep h).cell 7, h⟩)
                clear hM0 hM1 hM2 wrm
                by_cases b2 : M ≤ 5000
                · have hM3 : decide ((5000 : Int) < (M : Int)) = false := decide_eq_false (by omega)
                  go_region_held3 (fun W' => W'.cell? ⟨vb, 0, none⟩ = some (.int .i64 5) ∧ W'.cell? ⟨vb, 1, none⟩ = some (.int .i64 (A.length : Nat)) ∧ W'.cell? ⟨vb, 2, none⟩ = some (.string ⟨#[]⟩) ∧ W'.cell? ⟨p, 7, none⟩ = some (.int .i64 (M : Nat)) ∧ Below W3.heap.size W3 W') (first | exact KEEP.out _ (Below.refl _ _) | exact KEEP.out _ (Below.refl _ _).drew | exact KEEP.out _ (after (by assumption) hb2)) (first | (go_at_call 8; go_split_ands; refine (at_any _ _).mono ?_; rintro e w2 ⟨rfl, hb2⟩))
                  all_goals go_split_ands
                  all_goals
                    have hbz : Below W3.heap.size W3 w2 := by assumption
                    have PM4 := Lib.hid (PM3.out.step hbz)
                    have OB4 := Lib.hid (OB3.out.keep hbz)
                    clear hbz hb2 KEEP VB3 hM3 PM3 OB3
                    have PM3 := Lib.hid PM4.out
                    have OB3 := Lib.hid OB4.out
                    clear PM4 OB4
                    have y3 := OB3.out.cell 3
                    have y4 := OB3.out.cell 4
                    have y5 := OB3.out.cell 5
                    have y6 := OB3.out.cell 6
                    have y7 := OB3.out.cell 7
                    have yl := OB3.out.lt
                    simp only [opC, List.getElem?_cons_zero, List.getElem?_cons_succ] at y3 y4 y5 y6 y7
                    go_wp2_with fail
                    clear y3 y4 y5 y6 y7 yl
                    have CB0 : Hid (CB w (w2.alloc (.cells #[.string ⟨#[]⟩, .int .i64 tB, .string tN, .int .i64 tD, .string tM, .bool true, .slice none 0 0] 40)) w1.heap.size L2 (n + M) v' A (.slice ag A.length ac) w2 ⟨true, ⟨#[]⟩, (tB, tN, tD, tM), []⟩ (.slice none 0 0) []) := Lib.hid (CB.start PM3.out ⟨true, ⟨#[]⟩, (tB, tN, tD, tM), []⟩)
                    go_loopw [250] (fun i wx => ∃ (j : Nat) (vv : Value), j ≤ M ∧ i = .int .i64 j ∧ CB w wx w1.heap.size L2 (n + M) v' A (.slice ag A.length ac) w2 ⟨true, ⟨#[]⟩, (tB, tN, tD, tM), []⟩ vv (List.replicate j (emptyV tB tD tM))) (fun i _ => M - (intOf i).toNat)
                    case atStart => exact ⟨0, _, Nat.zero_le _, rfl, CB0.out⟩
                    case round =>
                      obtain ⟨j, vv, hj, rfl, hcb⟩ := hrel
                      have CBH := Lib.hid hcb
                      clear hcb CB0
                      by_cases hjl : j < M
                      ·
                        as_aux_lemma =>
                          have hjl2 : (j : Int) < (M : Int) := by omega
                          have HTK : Hid (List.replicate (j + 1) (emptyV tB tD tM) = List.replicate j (emptyV tB tD tM) ++ [emptyT (tB, tN, tD, tM)]) := Lib.hid (by rw [List.replicate_succ']; rfl)
                          have HLT : Hid ((List.replicate j (emptyV tB tD tM)).length = j) := Lib.hid (by simp)
                          generalize List.replicate j (emptyV tB tD tM) = vals at *
                          obtain ⟨j0, hj0, jz0, jz1, jz2⟩ := infoVal2
                          have HEm := Lib.hid (fun w => lempty_any tB tN tD tM w (by omega))
                          have OBR := Lib.hid (OB3.out.at_ (k := 0) (CBH.out.bel.block _ OB3.out.lt))
                          have y3 := OBR.out.cell 3
                          have y4 := OBR.out.cell 4
                          have y5 := OBR.out.cell 5
                          have y6 := OBR.out.cell 6
                          have yl := OBR.out.lt
                          have yf := OBR.out.frozen
                          have CB4 := Lib.hid (CBH.out)
                          have e6 := CB4.out.box.cell 6
                          have el := CB4.out.box.lt
                          have ef := CB4.out.box.frozen 6
                          simp only [opC, ceC, List.getElem?_cons_zero, List.getElem?_cons_succ] at e6 y3 y4 y5 y6
                          have hM5 : M ≤ 5000 := by omega
                          go_wp2_with fail
                          have N1 : Hid (vals.length + 1 ≤ maxLen) := Lib.hid (by have := HLT.out; unfold maxLen; omega)
                          have N2 : Hid ((vals.length + 1) * 32 ≤ 140737488355328) := Lib.hid (by have := HLT.out; omega)
                          have RW : Hid (∀ (W5 : World) (x : Vl), ∀ j u, (vC x)[j]? = some u → (W5.alloc (.cells (vC x).toArray 32)).cell? ((⟨W5.heap.size, 0, none⟩ : Addr).add j) = some u) := Lib.hid (by
                            intro W5 x j u hj
                            rw [add_at, Nat.zero_add, (Bx.new 32 W5 (vC x).toArray).cell]
                            exact hj)
                          have R1 : Hid (∀ (x : Vl), ∀ u ∈ vC x, u.oneCell' = true) := Lib.hid (by
                            intro x u hu
                            unfold vC at hu
                            simp only [List.mem_cons, List.not_mem_nil, or_false] at hu
                            rcases hu with rfl | rfl | rfl <;> rfl)
                          go_region_law (first
                            | (refine step_append_n rfl (.tmp 253) (.tmp 257) 38 rfl w2.heap.size 32 j0 _ 3 32 Try.underlying38 hj0 jz0 jz1 jz2 rfl (by decide) vv vals.length (flatV vals) rfl (HW.out.own.alloc _) ⟨W5.heap.size, 0, none⟩ 1 1 (vC (emptyT (tB, tN, tD, tM))) rfl rfl (RW.out W5 _) (R1.out _) N1.out N2.out (HB5.out _) ?_
                               intro v'' w6 hown' hgrow
                               obtain ⟨g2, gc, rfl⟩ := own_shape hown'
                               have HG := Lib.hid (HW.out.push (emptyT (tB, tN, tD, tM)) hown' hgrow)
                               have e6 := HG.out.2.cell 6
                               have ef := HG.out.2.frozen 6
                               have el := HG.out.2.lt
                               simp only [ceC, List.getElem?_cons_zero, List.getElem?_cons_succ] at e6
                               clear hown' hgrow)
                            | (go_simp
                               go_at_call 7
                               refine (HEm.out _).mono ?_
                               rintro e W5 ⟨rfl, h5⟩
                               have HW := Lib.hid (CB4.out.keep ((Below.refl _ _).drew.trans h5))
                               have HB5 : Hid (∀ o : Obj, w2.heap.size ≤ (W5.alloc o).heap.size) := Lib.hid (fun o => by have := HW.out.bel.size; simp; omega)
                               have e6 := HW.out.box.cell 6
                               have el := HW.out.box.lt
                               simp only [ceC, List.getElem?_cons_zero, List.getElem?_cons_succ] at e6
                               clear h5))
                          all_goals
                            have HZ := Lib.hid HG.out.1
                            clear HG HW HB5 RW R1 N1 N2 CB4 OBR y3 y4 y5 y6 yl yf e6 el ef
                            go_wp2_with fail
                            go_roundw
                            case rel => exact ⟨j + 1, _, by omega, by go_num, by rw [HTK.out]; exact HZ.out⟩
                            case measure => simp [intOf]; omega
                      ·
                        have hj' : j = M := by omega
                        subst hj'
                        have hn1 : ¬ (j : Int) < (j : Int) := by omega
                        have CBE := Lib.hid (show CB w wr w1.heap.size L2 (n + j) v' A (.slice ag A.length ac) w2 ⟨true, ⟨#[]⟩, (tB, tN, tD, tM), []⟩ vv (List.replicate j (emptyV tB tD tM)) from CBH.out)
                        have HML : Hid ((List.replicate j (emptyV tB tD tM)).length = j) := Lib.hid (by simp)
                        clear CBH
                        have c0 := CBE.out.box.cell 0
                        have c1 := CBE.out.box.cell 1
                        have c2 := CBE.out.box.cell 2
                        have c3 := CBE.out.box.cell 3
                        have c4 := CBE.out.box.cell 4
                        have c5 := CBE.out.box.cell 5
                        have c6 := CBE.out.box.cell 6
                        have cl := CBE.out.box.lt
                        simp only [ceC, List.getElem?_cons_zero, List.getElem?_cons_succ] at c0 c1 c2 c3 c4 c5 c6
                        have ROW := Lib.hid ((CBE.out.pm.step CBE.out.bel).row)
                        obtain ⟨jc, hjc, jcz0, jcz1, jcz2⟩ := info_parts infoCell
                        have hA40 : A.length ≤ 40 := by have := HAL.out; have := HLK.out; omega
                        have RWC : Hid (∀ j u, (ceC (⟨true, ⟨#[]⟩, (tB, tN, tD, tM), []⟩, vv))[j]? = some u → (wr.alloc (.cells (ceC (⟨true, ⟨#[]⟩, (tB, tN, tD, tM), []⟩, vv)).toArray 40)).cell? ((⟨wr.heap.size, 0, none⟩ : Addr).add j) = some u) := Lib.hid (by
                          intro j u hj
                          rw [add_at, Nat.zero_add, (Bx.new 40 wr _).cell]
                          exact hj)
                        have R1C : Hid (∀ u ∈ ceC (⟨true, ⟨#[]⟩, (tB, tN, tD, tM), []⟩, vv), u.oneCell' = true) := Lib.hid (by
                          obtain ⟨sg, sc, hsv⟩ := own_any_shape CBE.out.own
                          intro u hu
                          unfold ceC at hu
                          simp only [List.mem_cons, List.not_mem_nil, or_false] at hu
                          rcases hu with rfl | rfl | rfl | rfl | rfl | rfl | rfl
                          all_goals first | rfl | (rw [hsv]; rfl))
                        have HBW : Hid (w1.heap.size ≤ (wr.alloc (.cells (ceC (⟨true, ⟨#[]⟩, (tB, tN, tD, tM), []⟩, vv)).toArray 40)).heap.size) := Lib.hid (by
                          have := CBE.out.bel.size
                          have := PM3.out.size
                          simp
                          omega)
                        go_wp2_with (at_builtin; refine wpList_append_own _ rfl _ _ 27 rfl w1.heap.size 40 jc _ 7 96 Try.underlying27 hjc jcz0 jcz1 jcz2 rfl (by decide) (.slice ag A.length ac) A.length (flatC A) rfl (ROW.out.alloc _) ⟨wr.heap.size, 0, none⟩ 1 1 (ceC (⟨true, ⟨#[]⟩, (tB, tN, tD, tM), []⟩, vv)) rfl rfl ?c1 ?c2 ?c3 ?c4 ?c5 ?_)
                        case c1 => first | exact RWC.out | exact fun j u hj => hj
                        case c2 => exact R1C.out
                        case c3 => unfold maxLen; omega
                        case c4 => omega
                        case c5 => first | exact HBW.out | (have := HBW.out; simpa using this)
                        intro av2 w6 hown' hgrow _
                        have HG := Lib.hid (CBE.out.done hown' hgrow)
                        obtain ⟨vg, vcp, hvv⟩ := own_any_shape CBE.out.own
                        have b6 := HG.out.2.cell 6
                        have bl := HG.out.2.lt
                        simp only [ceC, List.getElem?_cons_zero, List.getElem?_cons_succ] at b6
                        rw [hvv, HML.out] at b6
                        have HPI : Hid (PInv w w6 w1.heap.size (k + 1) (n + j) av2) := Lib.hid (by
                          have := HG.out.1
                          rw [HL2.out] at this
                          exact PInv.next this SAME.out HLK.out ZERO.out ⟨(fun h => by cases h), fun _ => rfl⟩)
                        clear hown' hgrow HG c0 c1 c2 c3 c4 c5 c6 cl ROW RWC R1C HBW hvv CBE jcz0 hjc jcz1 jcz2
                        have hl20' : j ≤ 5000 := by omega
                        go_wp2_with fail
                        exact ⟨RI.of av2 (k + 1) (n + j) (by omega) HPI.out (by kernel_rfl), RIm.lt k (k + 1) (by kernel_rfl) (by kernel_rfl) (by omega) hlt⟩
                · have hM3 : decide ((5000 : Int) < (M : Int)) = true := decide_eq_true (by omega)
                  go_region_held3 (fun W' => W'.cell? ⟨vb, 0, none⟩ = some (.int .i64 5) ∧ W'.cell? ⟨vb, 1, none⟩ = some (.int .i64 (A.length : Nat)) ∧ W'.cell? ⟨vb, 2, none⟩ = some (.string ⟨#[]⟩) ∧ W'.cell? ⟨p, 7, none⟩ = some (.int .i64 (M : Nat)) ∧ Below W3.heap.size W3 W') (first | exact KEEP.out _ (Below.refl _ _) | exact KEEP.out _ (Below.refl _ _).drew | exact KEEP.out _ (after (by assumption) hb2)) (first | (go_at_call 8; go_split_ands; refine (at_any _ _).mono ?_; rintro e w2 ⟨rfl, hb2⟩))
                  all_goals go_split_ands
                  all_goals
                    have hbz : Below W3.heap.size W3 w2 := by assumption
                    go_wp2_with fail
                    go_ret
                    exact ⟨rfl, (PM3.out.step hbz).bel⟩
              · have hro : (decide (L.length < 4096) && decide (N ≤ 65536 - (n : Int))) = false := by
                  rw [Bool.and_eq_false_iff]; exact .inr (decide_eq_false (by omega))
                have HO := Lib.hid (array_long w1.heap.size w1.heap.size n L v tB tN tD tM N wr PMX.out.hp b0 hro)
                clear hro
                by_cases b2 : 65536 < N
                · have hN2 : decide (65536 < N) = true := decide_eq_true b2
                  go_wp2_with fail
                  refine HO.out.mono ?_
                  rintro e w2 ⟨rfl, hb⟩
                  as_aux_lemma =>
                    have OB2 := Lib.hid (OBX.out.keep hb)
                    have PM2 := Lib.hid (PMX.out.step (after hb ((Below.refl _ _).alloc (Nat.le_refl _) (.cells #[.int .i64 0, .int .i64 0, .string ⟨#[]⟩] 32))))
                    clear o0 o1 o2 o3 o4 o5 o6 o7 o8 o9 o10 o11 o12 o13 ol HO hb
                    have o7 := OB2.out.cell 7
                    have ol := OB2.out.lt
                    simp only [opC, List.getElem?_cons_zero, List.getElem?_cons_succ] at o7
                    have HPI : Hid (PInv w (w2.alloc (.cells #[.int .i64 0, .int .i64 0, .string ⟨#[]⟩] 32)) w1.heap.size (k + 1) n (.slice ag A.length ac)) := Lib.hid ⟨L, v, A, PM2.out, SAME.out, Nat.le_succ_of_le HLK.out, ZERO.out⟩
                    go_wp2_with fail
                    exact ⟨RI.of (.slice ag A.length ac) (k + 1) n (by omega) HPI.out (by kernel_rfl), RIm.lt k (k + 1) (by kernel_rfl) (by kernel_rfl) (by omega) hlt⟩
                · have hN2 : decide (65536 < N) = false := decide_eq_false b2
                  have hN3 : decide (65536 < (n : Int) + N) = true := decide_eq_true (by omega)
                  have wrm : IntKind.i64.wrap ((n : Int) + N) = (n : Int) + N := IntWalk.i64_in _ ⟨by omega, by omega⟩
                  go_wp2_with fail
                  refine HO.out.mono ?_
                  rintro e w2 ⟨rfl, hb⟩
                  as_aux_lemma =>
                    have OB2 := Lib.hid (OBX.out.keep hb)
                    have PM2 := Lib.hid (PMX.out.step (after hb ((Below.refl _ _).alloc (Nat.le_refl _) (.cells #[.int .i64 0, .int .i64 0, .string ⟨#[]⟩] 32))))
                    clear o0 o1 o2 o3 o4 o5 o6 o7 o8 o9 o10 o11 o12 o13 ol HO hb
                    have o7 := OB2.out.cell 7
                    have ol := OB2.out.lt
                    simp only [opC, List.getElem?_cons_zero, List.getElem?_cons_succ] at o7
                    have HPI : Hid (PInv w (w2.alloc (.cells #[.int .i64 0, .int .i64 0, .string ⟨#[]⟩] 32)) w1.heap.size (k + 1) n (.slice ag A.length ac)) := Lib.hid ⟨L, v, A, PM2.out, SAME.out, Nat.le_succ_of_le HLK.out, ZERO.out⟩
                    go_wp2_with fail
                    exact ⟨RI.of (.slice ag A.length ac) (k + 1) n (by omega) HPI.out (by kernel_rfl), RIm.lt k (k + 1) (by kernel_rfl) (by kernel_rfl) (by omega) hlt⟩
            have k1' : (kind == 1) = false := by simpa using k1
            by_cases k2 : kind = 2
            · subst k2
              clear k0 k0' k1 k1'
              by_cases ht : thereN L ak an = true
              · obtain ⟨rfl, i, rfl, hi⟩ := there_at ht
                rw [ht]
                clear ht
                have hiA : i < A.length := by rw [HAL.out]; exact hi
                have hAi := same_at SAME.out i hiA hi
                have hAiH := Lib.hid hAi
                obtain ⟨ga, ca, hav, hgl, -, -, -, -, -, -, a6⟩ := PMX.out.acell i hiA
                obtain ⟨gv, cv, hvs⟩ := PMX.out.vshape i hiA
                rw [hvs] at a6
                simp only [Value.slice.injEq, true_and] at hav
                obtain ⟨rfl, rfl⟩ := hav
                have hlen : L[i].1.vs.length ≤ 65536 := (PMX.out.hp.fit _ (List.getElem_mem hi)).len
                by_cases hN : N < 0 ∨ (L[i].1.vs.length : Int) ≤ N
                · have HO := Lib.hid (load_out w1.heap.size w1.heap.size n L v i aS N wr PMX.out.hp hi hN)
                  rw [← hAi] at hN hlen
                  clear hvs hAi
                  go_wp2_with fail
                  refine HO.out.mono ?_
                  rintro e w2 ⟨rfl, hb⟩
                  have OB2 := Lib.hid (OBX.out.keep hb)
                  have PM2 := Lib.hid (PMX.out.step (after hb ((Below.refl _ _).alloc (Nat.le_refl _) (.cells #[.int .i64 0, .int .i64 0, .string ⟨#[]⟩] 32))))
                  have a6' := keep hb hgl a6
                  have hgl2 : ga < w2.heap.size := Nat.lt_of_lt_of_le hgl hb.size
                  clear o0 o1 o2 o3 o4 o5 o6 o7 o8 o9 o10 o11 o12 o13 ol HO hb a6 hgl
                  have o7 := OB2.out.cell 7
                  have o9 := OB2.out.cell 9
                  have ol := OB2.out.lt
                  simp only [opC, List.getElem?_cons_zero, List.getElem?_cons_succ] at o7 o9
                  generalize A[i].1.vs.length = ln at *
                  have hA40 : A.length ≤ 40 := by have := HAL.out; have := HLK.out; omega
                  have hiA' : (i : Int) < (A.length : Int) := by omega
                  by_cases hN0 : N < 0
                  · have d1 : decide (N < 0) = true := decide_eq_true hN0
                    clear hN
                    as_aux_lemma =>
                      go_wp2_with fail
                      go_quiet (fail)
                      go_wp2_with fail
                      have HPI := Lib.hid (fun q => (⟨L, v, A, PM2.out.step (below_drewN (Below.refl _ _) q), SAME.out, Nat.le_succ_of_le HLK.out, ZERO.out⟩ : PInv w _ w1.heap.size (k + 1) n (.slice (some ⟨ga, 0, none⟩) A.length ac)))
                      exact ⟨RI.of (.slice (some ⟨ga, 0, none⟩) A.length ac) (k + 1) n (by omega) (HPI.out _) (by kernel_rfl), RIm.lt k (k + 1) (by kernel_rfl) (by kernel_rfl) (by omega) hlt⟩
                  · have d1 : decide (N < 0) = false := decide_eq_false hN0
                    have hN1 : (ln : Int) ≤ N := by omega
                    have d2 : decide ((ln : Int) ≤ N) = true := decide_eq_true hN1
                    clear hN
                    as_aux_lemma =>
                      go_wp2_with fail
                      go_quiet (fail)
                      go_wp2_with fail
                      have HPI := Lib.hid (fun q => (⟨L, v, A, PM2.out.step (below_drewN (Below.refl _ _) q), SAME.out, Nat.le_succ_of_le HLK.out, ZERO.out⟩ : PInv w _ w1.heap.size (k + 1) n (.slice (some ⟨ga, 0, none⟩) A.length ac)))
                      exact ⟨RI.of (.slice (some ⟨ga, 0, none⟩) A.length ac) (k + 1) n (by omega) (HPI.out _) (by kernel_rfl), RIm.lt k (k + 1) (by kernel_rfl) (by kernel_rfl) (by omega) hlt⟩
                · obtain ⟨j2, rfl⟩ : ∃ j2 : Nat, N = j2 := ⟨N.toNat, by omega⟩
                  have hj2 : j2 < L[i].1.vs.length := by omega
                  have hj2A : j2 < A[i].1.vs.length := by rw [hAi]; exact hj2
                  obtain ⟨x, hx⟩ : ∃ x, L[i].1.vs[j2] = x := ⟨_, rfl⟩
                  have hxA : A[i].1.vs[j2] = x := by rw [← hx]; congr 1; rw [hAi]
                  have HO := Lib.hid (load_in w1.heap.size w1.heap.size n L v i aS j2 wr x PMX.out.hp hi hj2 hx)
                  obtain ⟨gw, cw, hvs2, hgw, e0, e1, e2, -⟩ := PMX.out.vcell i hiA j2 hj2A
                  rw [hxA] at e0 e1 e2
                  rw [hvs] at hvs2
                  simp only [Value.slice.injEq, true_and] at hvs2
                  obtain ⟨rfl, rfl⟩ := hvs2
                  rw [← hAi] at hlen
                  clear hvs hAi hN hx hxA hj2
                  go_wp2_with fail
                  refine HO.out.mono ?_
                  rintro e w2 ⟨rfl, hb⟩
                  obtain ⟨xk, xn, xs⟩ := x
                  have OB2 := Lib.hid (OBX.out.keep hb)
                  have PM2 := Lib.hid (PMX.out.step (after hb ((Below.refl _ _).alloc (Nat.le_refl _) (.cells #[.int .i64 xk, .int .i64 xn, .string xs] 32))))
                  have a6' := keep hb hgl a6
                  have hgl2 : ga < w2.heap.size := Nat.lt_of_lt_of_le hgl hb.size
                  have e0' := keep hb hgw e0
                  have e1' := keep hb hgw e1
                  have e2' := keep hb hgw e2
                  have hgw2 : gw < w2.heap.size := Nat.lt_of_lt_of_le hgw hb.size
                  clear o0 o1 o2 o3 o4 o5 o6 o7 o8 o9 o10 o11 o12 o13 ol HO hb a6 hgl e0 e1 e2 hgw
                  have o7 := OB2.out.cell 7
                  have o9 := OB2.out.cell 9
                  have ol := OB2.out.lt
                  simp only [opC, List.getElem?_cons_zero, List.getElem?_cons_succ] at o7 o9
                  simp only at e0' e1' e2'
                  generalize A[i].1.vs.length = ln at *
                  have hA40 : A.length ≤ 40 := by have := HAL.out; have := HLK.out; omega
                  have hiA' : (i : Int) < (A.length : Int) := by omega
                  have hj3 : (j2 : Int) < (ln : Int) := by omega
                  have d1 : decide ((j2 : Int) < 0) = false := decide_eq_false (by omega)
                  have d2 : decide ((ln : Int) ≤ (j2 : Int)) = false := decide_eq_false (by omega)
                  as_aux_lemma =>
                    go_wp2_with fail
                    go_quiet (fail)
                    go_wp2_with fail
                    go_quiet (fail)
                    go_wp2_with fail
                    have HPI := Lib.hid (fun q => (⟨L, v, A, PM2.out.step (below_drewN (Below.refl _ _) q), SAME.out, Nat.le_succ_of_le HLK.out, ZERO.out⟩ : PInv w _ w1.heap.size (k + 1) n (.slice (some ⟨ga, 0, none⟩) A.length ac)))
                    exact ⟨RI.of (.slice (some ⟨ga, 0, none⟩) A.length ac) (k + 1) n (by omega) (HPI.out _) (by kernel_rfl), RIm.lt k (k + 1) (by kernel_rfl) (by kernel_rfl) (by omega) hlt⟩
              · have ht' : thereN L ak an = false := by simpa using ht
                rw [ht']
                have HO := Lib.hid (load_no w1.heap.size w1.heap.size n L v ak an aS N wr PMX.out.hp ht')
                clear ht ht'
                go_wp2_with fail
                refine HO.out.mono ?_
                rintro e w2 ⟨rfl, hb⟩
                as_aux_lemma =>
                  have OB2 := Lib.hid (OBX.out.keep hb)
                  have PM2 := Lib.hid (PMX.out.step (after hb ((Below.refl _ _).alloc (Nat.le_refl _) (.cells #[.int .i64 0, .int .i64 0, .string ⟨#[]⟩] 32))))
                  clear o0 o1 o2 o3 o4 o5 o6 o7 o8 o9 o10 o11 o12 o13 ol HO hb
                  have o7 := OB2.out.cell 7
                  have ol := OB2.out.lt
                  simp only [opC, List.getElem?_cons_zero, List.getElem?_cons_succ] at o7
                  have HPI : Hid (PInv w (w2.alloc (.cells #[.int .i64 0, .int .i64 0, .string ⟨#[]⟩] 32)) w1.heap.size (k + 1) n (.slice ag A.length ac)) := Lib.hid ⟨L, v, A, PM2.out, SAME.out, Nat.le_succ_of_le HLK.out, ZERO.out⟩
                  go_wp2_with fail
                  exact ⟨RI.of (.slice ag A.length ac) (k + 1) n (by omega) HPI.out (by kernel_rfl), RIm.lt k (k + 1) (by kernel_rfl) (by kernel_rfl) (by omega) hlt⟩
            have k2' : (kind == 2) = false := by simpa using k2
            clear k0 k1 k2
            by_cases ht : thereN L ak an = true
            · obtain ⟨rfl, i, rfl, hi⟩ := there_at ht
              rw [ht]
              clear ht
              have hiA : i < A.length := by rw [HAL.out]; exact hi
              have hAi := same_at SAME.out i hiA hi
              have hAiH := Lib.hid hAi
              obtain ⟨ga, ca, hav, hgl, -, -, -, -, -, -, a6⟩ := PMX.out.acell i hiA
              obtain ⟨gv, cv, hvs⟩ := PMX.out.vshape i hiA
              rw [hvs] at a6
              simp only [Value.slice.injEq, true_and] at hav
              obtain ⟨rfl, rfl⟩ := hav
              have hlen : L[i].1.vs.length ≤ 65536 := (PMX.out.hp.fit _ (List.getElem_mem hi)).len
              by_cases hN : N < 0 ∨ (L[i].1.vs.length : Int) ≤ N
              · have HO := Lib.hid (store_out w1.heap.size w1.heap.size n L v i aS N (tk, tn, ts) wr PMX.out.hp hi hN)
                rw [← hAi] at hN hlen
                clear hvs hAi
                go_wp2_with fail
                refine HO.out.mono ?_
                rintro e w2 ⟨rfl, hb⟩
                have OB2 := Lib.hid (OBX.out.keep hb)
                have PM2 := Lib.hid (PMX.out.step hb)
                have a6' := keep hb hgl a6
                have hgl2 : ga < w2.heap.size := Nat.lt_of_lt_of_le hgl hb.size
                clear o0 o1 o2 o3 o4 o5 o6 o7 o8 o9 o10 o11 o12 o13 ol HO hb a6 hgl
                have o7 := OB2.out.cell 7
                have o9 := OB2.out.cell 9
                have ol := OB2.out.lt
                simp only [opC, List.getElem?_cons_zero, List.getElem?_cons_succ] at o7 o9
                generalize A[i].1.vs.length = ln at *
                have hA40 : A.length ≤ 40 := by have := HAL.out; have := HLK.out; omega
                have hiA' : (i : Int) < (A.length : Int) := by omega
                by_cases hN0 : N < 0
                · have d1 : decide (N < 0) = true := decide_eq_true hN0
                  clear hN
                  as_aux_lemma =>
                    go_wp2_with fail
                    go_quiet (fail)
                    go_wp2_with fail
                    have HPI := Lib.hid (fun q => (⟨L, v, A, PM2.out.step (below_drewN (Below.refl _ _) q), SAME.out, Nat.le_succ_of_le HLK.out, ZERO.out⟩ : PInv w _ w1.heap.size (k + 1) n (.slice (some ⟨ga, 0, none⟩) A.length ac)))
                    exact ⟨RI.of (.slice (some ⟨ga, 0, none⟩) A.length ac) (k + 1) n (by omega) (HPI.out _) (by kernel_rfl), RIm.lt k (k + 1) (by kernel_rfl) (by kernel_rfl) (by omega) hlt⟩
                · have d1 : decide (N < 0) = false := decide_eq_false hN0
                  have hN1 : (ln : Int) ≤ N := by omega
                  have d2 : decide ((ln : Int) ≤ N) = true := decide_eq_true hN1
                  clear hN
                  as_aux_lemma =>
                    go_wp2_with fail
                    go_quiet (fail)
                    go_wp2_with fail
                    have HPI := Lib.hid (fun q => (⟨L, v, A, PM2.out.step (below_drewN (Below.refl _ _) q), SAME.out, Nat.le_succ_of_le HLK.out, ZERO.out⟩ : PInv w _ w1.heap.size (k + 1) n (.slice (some ⟨ga, 0, none⟩) A.length ac)))
                    exact ⟨RI.of (.slice (some ⟨ga, 0, none⟩) A.length ac) (k + 1) n (by omega) (HPI.out _) (by kernel_rfl), RIm.lt k (k + 1) (by kernel_rfl) (by kernel_rfl) (by omega) hlt⟩
              · obtain ⟨j2, rfl⟩ : ∃ j2 : Nat, N = j2 := ⟨N.toNat, by omega⟩
                have hj2 : j2 < L[i].1.vs.length := by omega
                have hj2A : j2 < A[i].1.vs.length := by rw [hAi]; exact hj2
                obtain ⟨x, hx⟩ : ∃ x, L[i].1.vs[j2] = x := ⟨_, rfl⟩
                have hxA : A[i].1.vs[j2] = x := by rw [← hx]; congr 1; rw [hAi]
                have HO := Lib.hid (store_in w1.heap.size w1.heap.size n L v i aS j2 (tk, tn, ts) wr PMX.out.hp hB1 hi hj2 HFX.out.to)
                rw [← hAi] at hlen
                clear hAi hN hx hxA hgl a6
                go_wp2_with fail
                refine HO.out.mono ?_
                rintro e w2 hm
                have he := hm.1
                have hpm := PMX.out.stored hm
                have hob : Bx 34 w2 p _ := OBX.out.at_ (k := 0) (hm.2.2.2 p OBX.out.lt (fun q => (OBX.out.ne (PMX.out.hp.cells _ (List.getElem_mem hi)).2 (by decide)) q))
                subst he
                have OB2 := Lib.hid hob
                have PM2 := Lib.hid hpm
                obtain ⟨ga2, ca2, hav, hgl, -, -, -, -, -, -, a6⟩ := hpm.acell i hiA
                obtain ⟨gw, cw, hvs2, hgw, e0, e1, e2, ef⟩ := hpm.vcell i hiA j2 hj2A
                rw [hvs] at a6
                have hvs3 := hvs
                rw [hvs] at hvs2
                simp only [Value.slice.injEq, true_and] at hvs2 hav
                obtain ⟨rfl, rfl⟩ := hvs2
                obtain ⟨hga, hca⟩ := hav
                injection hga with hga
                injection hga with hga
                subst hga hca
                have LS := Lib.hid (fun q => (hpm.step (below_drewN (Below.refl _ _) q)).lawset i hiA j2 hj2A (tk, tn, ts) gw cv hvs)
                have SM : Hid ((A.set i (setA A[i] j2 (tk, tn, ts))).map (·.1) = (L.set i (setT L[i] j2 (tk, tn, ts))).map (·.1)) := Lib.hid (by
                  rw [List.map_set, List.map_set, SAME.out]
                  congr 1
                  unfold setA setT
                  rw [hAiH.out])
                have ZR : Hid (∀ x ∈ L.set i (setT L[i] j2 (tk, tn, ts)), (x.1.arr = false → x.1.ty = (0, ⟨#[]⟩, 0, ⟨#[]⟩)) ∧ (x.1.arr = true → x.1.cls = ⟨#[]⟩)) := Lib.hid (fun x hx => by
                  rcases List.mem_or_eq_of_mem_set hx with hx | rfl
                  · exact ZERO.out x hx
                  · exact ZERO.out L[i] (List.getElem_mem hi))
                have HLS : Hid ((A.set i (setA A[i] j2 (tk, tn, ts))).length = A.length ∧ (L.set i (setT L[i] j2 (tk, tn, ts))).length ≤ k + 1) := Lib.hid ⟨List.length_set, by rw [List.length_set]; exact Nat.le_succ_of_le HLK.out⟩
                have HPI := Lib.hid (fun q => (⟨_, _, _, LS.out q, SM.out, HLS.out.2, ZR.out⟩ : PInv w ((w2.drewN q).setCells gw (j2 * 3) (vC (tk, tn, ts))) w1.heap.size (k + 1) n (.slice (some ⟨ga, 0, none⟩) A.length ac)))
                clear o0 o1 o2 o3 o4 o5 o6 o7 o8 o9 o10 o11 o12 o13 ol HO hm hpm hob hvs hvs3 LS SM ZR HLS
                have o7 := OB2.out.cell 7
                have o9 := OB2.out.cell 9
                have o11 := OB2.out.cell 11
                have o12 := OB2.out.cell 12
                have o13 := OB2.out.cell 13
                have ol := OB2.out.lt
                simp only [opC, List.getElem?_cons_zero, List.getElem?_cons_succ] at o7 o9 o11 o12 o13
                generalize A[i].1.vs[j2] = z at *
                generalize A[i].1.vs.length = ln at *
                have hA40 : A.length ≤ 40 := by have := HAL.out; have := HLK.out; omega
                have hiA' : (i : Int) < (A.length : Int) := by omega
                have hj3 : (j2 : Int) < (ln : Int) := by omega
                have d1 : decide ((j2 : Int) < 0) = false := decide_eq_false (by omega)
                have d2 : decide ((ln : Int) ≤ (j2 : Int)) = false := decide_eq_false (by omega)
                as_aux_lemma =>
                  go_wp2_with fail
                  go_quiet (fail)
                  go_wp2_with fail
                  go_region
                  all_goals
                    go_wp2_with fail
                    exact ⟨RI.of (.slice (some ⟨ga, 0, none⟩) A.length ac) (k + 1) n (by omega) (HPI.out _) (by kernel_rfl), RIm.lt k (k + 1) (by kernel_rfl) (by kernel_rfl) (by omega) hlt⟩
            · have ht' : thereN L ak an = false := by simpa using ht
              rw [ht']
              have HO := Lib.hid (store_no w1.heap.size w1.heap.size n L v ak an aS N (tk, tn, ts) wr PMX.out.hp ht')
              clear ht ht'
              go_wp2_with fail
              refine HO.out.mono ?_
              rintro e w2 ⟨rfl, hb⟩
              as_aux_lemma =>
                have PM2 := Lib.hid (PMX.out.step hb)
                clear o0 o1 o2 o3 o4 o5 o6 o7 o8 o9 o10 o11 o12 o13 ol HO hb
                have HPI : Hid (PInv w w2 w1.heap.size (k + 1) n (.slice ag A.length ac)) := Lib.hid ⟨L, v, A, PM2.out, SAME.out, Nat.le_succ_of_le HLK.out, ZERO.out⟩
                go_wp2_with fail
                exact ⟨RI.of (.slice ag A.length ac) (k + 1) n (by omega) HPI.out (by kernel_rfl), RIm.lt k (k + 1) (by kernel_rfl) (by kernel_rfl) (by omega) hlt⟩
    ·
      have hk2 : k = m := by omega
      subst hk2
      obtain ⟨L, v, A, hpm, hsame, hLk, hzero⟩ := PI.out.ex
      obtain ⟨ag, ac, rfl⟩ := own_any_shape hpm.row
      have hAL : A.length = L.length := by have := congrArg List.length hsame; simpa using this
      have PMH := Lib.hid hpm
      have SAME := Lib.hid hsame
      have HLK := Lib.hid hLk
      have ZERO := Lib.hid hzero
      have HAL := Lib.hid hAL
      have HO := Lib.hid (objects_any w1.heap.size w1.heap.size n L v wr hpm.hp)
      rw [← hAL] at HO
      clear hpm hsame hLk hzero hAL PI
      go_wp2_with fail
      refine HO.out.mono ?_
      rintro e w2 ⟨rfl, hb⟩
      have PM2 := Lib.hid (PMH.out.step hb)
      have HC := Lib.hid (cells_any w1.heap.size w1.heap.size n L v w2 PM2.out.hp)
      clear hb HO PMH
      go_wp2_with fail
      refine HC.out.mono ?_
      rintro e w3 ⟨rfl, hb⟩
      have PM3 := Lib.hid (PM2.out.step hb)
      clear hb HC PM2
      go_wp2_with fail
      go_loopw [343] (fun i wx => ∃ j : Nat, j ≤ A.length ∧ i = .int .i64 j ∧ Below w3.heap.size w3 wx) (fun i _ => A.length - (intOf i).toNat)
      case atStart => exact ⟨0, Nat.zero_le _, rfl, Below.refl _ _⟩
      case round =>
        obtain ⟨j, hj, rfl, hbx⟩ := hrel
        have PMR := Lib.hid (PM3.out.step hbx)
        have BX := Lib.hid hbx
        clear hbx
        have hA40 : A.length ≤ 40 := by have := HAL.out; have := HLK.out; omega
        by_cases hjl : j < A.length
        · have hjL : j < L.length := by rw [← HAL.out]; exact hjl
          have hjl' : (j : Int) < (A.length : Int) := by omega
          have hAj := same_at SAME.out j hjl hjL
          have hz := ZERO.out L[j] (List.getElem_mem hjL)
          obtain ⟨ga, ca, hav, hgl, a0, a1, a2, a3, a4, a5, a6⟩ := PMR.out.acell j hjl
          obtain ⟨gv, cv, hvs⟩ := PMR.out.vshape j hjl
          rw [hvs] at a6
          simp only [Value.slice.injEq, true_and] at hav
          obtain ⟨rfl, rfl⟩ := hav
          have hlen : L[j].1.vs.length ≤ 65536 := (PMR.out.hp.fit _ (List.getElem_mem hjL)).len
          have hTH : ∃ t, L[j].1 = t := ⟨_, rfl⟩
          obtain ⟨t, ht⟩ := hTH
          rw [hAj, ht] at a0 a1 a2 a3 a4 a5 a6
          rw [ht] at hz hlen
          have HT := Lib.hid ht
          have HAJ := Lib.hid (hAj.trans ht)
          have HVS := Lib.hid hvs
          clear hAj ht hvs
          obtain ⟨arr, cls, ⟨tB, tN, tD, tM⟩, vs⟩ := t
          simp only at a0 a1 a2 a3 a4 a5 a6 hz hlen
          cases arr
          · obtain ⟨hz1, -⟩ := hz
            have hz2 := hz1 rfl
            simp only [Prod.mk.injEq] at hz2
            obtain ⟨rfl, rfl, rfl, rfl⟩ := hz2
            have hz : True := trivial
            clear hz1
            as_aux_lemma =>
              clear hz
              go_wp2_with fail
              refine (at_any _ _).mono ?_
              rintro e x1 ⟨rfl, hb1⟩
              obtain ⟨hb1', cb1⟩ := box1 hb1
              have hba : Below x1.heap.size x1 (x1.alloc (.cells #[.int .i64 5, .int .i64 (j : Nat), .string ⟨#[]⟩] 32)) := (Below.refl _ _).alloc (Nat.le_refl _) _
              have PX1 := Lib.hid ((PMR.out.step hb1').step hba)
              have CB1 := Lib.hid (cb1.keep hba)
              have VB1 := Lib.hid (Bx.new 32 x1 #[.int .i64 5, .int .i64 (j : Nat), .string ⟨#[]⟩])
              have BX1 := Lib.hid ((BX.out.trans (hb1'.mono BX.out.size)).trans (hba.mono (Nat.le_trans BX.out.size hb1'.size)))
              have hcl := class_yes w1.heap.size w1.heap.size n L v j ⟨#[]⟩ _ PX1.out.hp hjL (by rw [HT.out])
              try rw [HT.out] at hcl
              have HCL := Lib.hid hcl
              clear hb1 hb1' cb1 hba hcl a0 a1 a2 a3 a4 a5 a6 hgl
              go_wp2_with fail
              refine HCL.out.mono ?_
              rintro e x2 ⟨rfl, hb2⟩
              have PX2 := Lib.hid (PX1.out.step hb2)
              have CB2 := Lib.hid (CB1.out.keep hb2)
              have VB2 := Lib.hid (VB1.out.keep hb2)
              have BX2 := Lib.hid (BX1.out.trans (hb2.mono BX1.out.size))
              have hel := elem_no w1.heap.size w1.heap.size n L v j ⟨#[]⟩ x2 PX2.out.hp hjL (by rw [HT.out])
              try rw [HT.out] at hel
              have HEL := Lib.hid hel
              clear hb2 hel HCL PX1 CB1 VB1 BX1
              obtain ⟨v0, v1, v2, vl, vf⟩ := VB2.out.three
              try simp only [Array.toList] at v0 v1 v2
              go_wp2_with fail
              refine HEL.out.mono ?_
              rintro e x3 ⟨rfl, hb3⟩
              have hba : Below x3.heap.size x3 (x3.alloc (.cells #[.int .i64 0, .string ⟨#[]⟩, .int .i64 0, .string ⟨#[]⟩] 30)) := (Below.refl _ _).alloc (Nat.le_refl _) _
              obtain ⟨X4, hX4⟩ : ∃ X4, X4 = x3.alloc (.cells #[.int .i64 0, .string ⟨#[]⟩, .int .i64 0, .string ⟨#[]⟩] 30) := ⟨_, rfl⟩
              have TB4 : Hid (Bx 30 X4 x3.heap.size [.int .i64 0, .string ⟨#[]⟩, .int .i64 0, .string ⟨#[]⟩]) := Lib.hid (by rw [hX4]; exact Bx.new 30 x3 _)
              rw [← hX4] at hba
              have PX4 := Lib.hid ((PX2.out.step hb3).step hba)
              have CB4 := Lib.hid ((CB2.out.keep hb3).keep hba)
              have VB4 := Lib.hid ((VB2.out.keep hb3).keep hba)
              have BX4 := Lib.hid ((BX2.out.trans (hb3.mono BX2.out.size)).trans (hba.mono (Nat.le_trans BX2.out.size hb3.size)))
              have HX4 := Lib.hid hX4
              have LEN := Lib.hid (fun W' (h : Below X4.heap.size X4 W') => by
                have := len_yes w1.heap.size w1.heap.size n L v j ⟨#[]⟩ W' (PX4.out.step h).hp hjL
                rw [HT.out] at this
                exact this)
              clear hb3 hba hX4 HEL PX2 CB2 VB2 BX2 v0 v1 v2 vl vf
              go_wp2_with fail
              rw [← HX4.out]
              clear HX4
              obtain ⟨pc, hpc⟩ : ∃ pc, pc = wr.heap.size := ⟨_, rfl⟩
              obtain ⟨pv, hpv⟩ : ∃ pv, pv = x1.heap.size := ⟨_, rfl⟩
              obtain ⟨pt, hpt⟩ : ∃ pt, pt = x3.heap.size := ⟨_, rfl⟩
              rw [← hpc] at CB4 ⊢
              rw [← hpv] at VB4 ⊢
              rw [← hpt] at TB4 ⊢
              clear hpc hpv hpt
              have KEEP : Hid (∀ W', Below X4.heap.size X4 W' → W'.cell? ⟨pv, 0, none⟩ = some (.int .i64 5) ∧ W'.cell? ⟨pv, 1, none⟩ = some (.int .i64 (j : Nat)) ∧ W'.cell? ⟨pv, 2, none⟩ = some (.string ⟨#[]⟩) ∧ W'.cell? ⟨pc, 0, none⟩ = some (.string cls) ∧ W'.cell? ⟨pc, 1, none⟩ = some (.int .i64 0) ∧ W'.cell? ⟨pc, 2, none⟩ = some (.string ⟨#[]⟩) ∧ W'.cell? ⟨pc, 3, none⟩ = some (.int .i64 0) ∧ W'.cell? ⟨pc, 4, none⟩ = some (.string ⟨#[]⟩) ∧ W'.cell? ⟨pc, 5, none⟩ = some (.bool false) ∧ W'.cell? ⟨pc, 6, none⟩ = some (.slice gv vs.length cv) ∧ W'.cell? ⟨pt, 0, none⟩ = some (.int .i64 0) ∧ W'.cell? ⟨pt, 1, none⟩ = some (.string ⟨#[]⟩) ∧ W'.cell? ⟨pt, 2, none⟩ = some (.int .i64 0) ∧ W'.cell? ⟨pt, 3, none⟩ = some (.string ⟨#[]⟩) ∧ Below X4.heap.size X4 W') := Lib.hid (fun W' h => by
                have q := (VB4.out.keep h).three
                have r := CB4.out.keep h
                have t := (TB4.out.keep h).four
                exact ⟨q.1, q.2.1, q.2.2.1, r.cell 0, r.cell 1, r.cell 2, r.cell 3, r.cell 4, r.cell 5, r.cell 6, t.1, t.2.1, t.2.2.1, t.2.2.2.1, h⟩)
              go_region_held3 (fun W' => W'.cell? ⟨pv, 0, none⟩ = some (.int .i64 5) ∧ W'.cell? ⟨pv, 1, none⟩ = some (.int .i64 (j : Nat)) ∧ W'.cell? ⟨pv, 2, none⟩ = some (.string ⟨#[]⟩) ∧ W'.cell? ⟨pc, 0, none⟩ = some (.string cls) ∧ W'.cell? ⟨pc, 1, none⟩ = some (.int .i64 0) ∧ W'.cell? ⟨pc, 2, none⟩ = some (.string ⟨#[]⟩) ∧ W'.cell? ⟨pc, 3, none⟩ = some (.int .i64 0) ∧ W'.cell? ⟨pc, 4, none⟩ = some (.string ⟨#[]⟩) ∧ W'.cell? ⟨pc, 5, none⟩ = some (.bool false) ∧ W'.cell? ⟨pc, 6, none⟩ = some (.slice gv vs.length cv) ∧ W'.cell? ⟨pt, 0, none⟩ = some (.int .i64 0) ∧ W'.cell? ⟨pt, 1, none⟩ = some (.string ⟨#[]⟩) ∧ W'.cell? ⟨pt, 2, none⟩ = some (.int .i64 0) ∧ W'.cell? ⟨pt, 3, none⟩ = some (.string ⟨#[]⟩) ∧ Below X4.heap.size X4 W') (first | exact KEEP.out _ (Below.refl _ _) | exact KEEP.out _ (Below.refl _ _).drew | exact KEEP.out _ (after (by assumption) hb9)) (first | (go_at_call 16; go_split_ands; refine (LEN.out _ (by assumption)).mono ?_; rintro e w9 ⟨rfl, hb9⟩))
              all_goals go_split_ands
              all_goals
                have hbz : Below X4.heap.size X4 w9 := by assumption
                have PX9 := Lib.hid (PX4.out.step hbz)
                have VB9 := Lib.hid (VB4.out.keep hbz)
                have CB9 := Lib.hid (CB4.out.keep hbz)
                have BX9 := Lib.hid (BX4.out.trans (hbz.mono BX4.out.size))
                have c6 := CB9.out.cell 6
                have cl := CB9.out.lt
                simp only [List.getElem?_cons_zero, List.getElem?_cons_succ] at c6
                clear hbz hb9 KEEP LEN PX4 VB4 CB4 TB4 BX4
                go_wp2_with fail
                clear c6 cl CB9
                go_loopw [393] (fun i wx => ∃ q : Nat, q ≤ vs.length ∧ i = .int .i64 q ∧ Below w9.heap.size w9 wx) (fun i _ => vs.length - (intOf i).toNat)
                case atStart => exact ⟨0, Nat.zero_le _, rfl, Below.refl _ _⟩
                case round =>
                  obtain ⟨q, hq, rfl, hbq⟩ := hrel
                  have BQ := Lib.hid hbq
                  have PXQ := Lib.hid (PX9.out.step hbq)
                  have VBQ := Lib.hid (VB9.out.keep hbq)
                  clear hbq
                  obtain ⟨v0, v1, v2, vl, vf⟩ := VBQ.out.three
                  by_cases hql : q < vs.length
                  · have hqA : q < A[j].1.vs.length := by rw [HAJ.out]; exact hql
                    have hqL : q < L[j].1.vs.length := by rw [HT.out]; exact hql
                    obtain ⟨x, hx⟩ : ∃ x, vs[q] = x := ⟨_, rfl⟩
                    have hxA : A[j].1.vs[q] = x := by rw [← hx]; congr 1; rw [HAJ.out]
                    have hxL : L[j].1.vs[q] = x := by rw [← hx]; congr 1; rw [HT.out]
                    obtain ⟨gw, cw, hvs2, hgw, e0, e1, e2, -⟩ := PXQ.out.vcell j hjl q hqA
                    rw [hxA] at e0 e1 e2
                    rw [HVS.out] at hvs2
                    simp only [Value.slice.injEq, true_and] at hvs2
                    obtain ⟨rfl, rfl⟩ := hvs2
                    obtain ⟨xk, xn, xs⟩ := x
                    simp only at e0 e1 e2
                    have hql' : (q : Int) < (vs.length : Int) := by omega
                    have LOAD := Lib.hid (fun W' (h : Below wr.heap.size wr W') => load_in w1.heap.size w1.heap.size n L v j ⟨#[]⟩ q W' (xk, xn, xs) (PXQ.out.step h).hp hjL hqL hxL)
                    obtain ⟨W5, hW5⟩ : ∃ W5, W5 = wr.alloc (.cells #[.int .i64 xk, .int .i64 xn, .string xs] 32) := ⟨_, rfl⟩
                    have hb5 : Below wr.heap.size wr W5 := by rw [hW5]; exact (Below.refl _ _).alloc (Nat.le_refl _) _
                    have XB5 : Hid (Bx 32 W5 wr.heap.size [.int .i64 xk, .int .i64 xn, .string xs]) := Lib.hid (by rw [hW5]; exact Bx.new 32 wr _)
                    have HW5 := Lib.hid hW5
                    have HB5 := Lib.hid hb5
                    clear hxA hxL hx hqA hqL hW5 hb5
                    go_wp2_with fail
                    rw [← HW5.out]
                    refine (LOAD.out _ HB5.out).mono ?_
                    rintro e w6 ⟨rfl, hb6⟩
                    obtain ⟨u0, u1, u2x, ul, uf⟩ := (XB5.out.keep hb6).three
                    have BQ6 := Lib.hid (after BQ.out (after HB5.out hb6))
                    clear hb6 v0 v1 v2 vl vf e0 e1 e2 hgw
                    go_wp2_with fail
                    go_roundw
                    case rel => exact ⟨q + 1, by omega, by go_num, BQ6.out.alloc BQ6.out.size _⟩
                    case measure => simp [intOf]; omega
                  · have hqv : q = vs.length := by omega
                    have hqn : ¬ (q : Int) < (vs.length : Int) := by omega
                    have BE := Lib.hid (BX9.out.trans (BQ.out.mono BX9.out.size))
                    clear v0 v1 v2 vl vf
                    go_wp2_with fail
                    go_roundw
                    case rel => exact ⟨j + 1, by omega, by go_num, BE.out⟩
                    case measure => simp [intOf]; omega
          · obtain ⟨-, hz1⟩ := hz
            have hz2 := hz1 rfl
            subst hz2
            have hz : True := trivial
            clear hz1
            as_aux_lemma =>
              clear hz
              go_wp2_with fail
              refine (at_any _ _).mono ?_
              rintro e x1 ⟨rfl, hb1⟩
              obtain ⟨hb1', cb1⟩ := box1 hb1
              have hba : Below x1.heap.size x1 (x1.alloc (.cells #[.int .i64 5, .int .i64 (j : Nat), .string ⟨#[]⟩] 32)) := (Below.refl _ _).alloc (Nat.le_refl _) _
              have PX1 := Lib.hid ((PMR.out.step hb1').step hba)
              have CB1 := Lib.hid (cb1.keep hba)
              have VB1 := Lib.hid (Bx.new 32 x1 #[.int .i64 5, .int .i64 (j : Nat), .string ⟨#[]⟩])
              have BX1 := Lib.hid ((BX.out.trans (hb1'.mono BX.out.size)).trans (hba.mono (Nat.le_trans BX.out.size hb1'.size)))
              have hcl := class_no w1.heap.size w1.heap.size n L v j ⟨#[]⟩ _ PX1.out.hp hjL (by rw [HT.out])
              try rw [HT.out] at hcl
              have HCL := Lib.hid hcl
              clear hb1 hb1' cb1 hba hcl a0 a1 a2 a3 a4 a5 a6 hgl
              go_wp2_with fail
              refine HCL.out.mono ?_
              rintro e x2 ⟨rfl, hb2⟩
              have PX2 := Lib.hid (PX1.out.step hb2)
              have CB2 := Lib.hid (CB1.out.keep hb2)
              have VB2 := Lib.hid (VB1.out.keep hb2)
              have BX2 := Lib.hid (BX1.out.trans (hb2.mono BX1.out.size))
              have hel := elem_yes w1.heap.size w1.heap.size n L v j ⟨#[]⟩ x2 PX2.out.hp hjL (by rw [HT.out])
              try rw [HT.out] at hel
              have HEL := Lib.hid hel
              clear hb2 hel HCL PX1 CB1 VB1 BX1
              obtain ⟨v0, v1, v2, vl, vf⟩ := VB2.out.three
              try simp only [Array.toList] at v0 v1 v2
              go_wp2_with fail
              refine HEL.out.mono ?_
              rintro e x3 ⟨rfl, hb3⟩
              have hba : Below x3.heap.size x3 (x3.alloc (.cells #[.int .i64 tB, .string tN, .int .i64 tD, .string tM] 30)) := (Below.refl _ _).alloc (Nat.le_refl _) _
              obtain ⟨X4, hX4⟩ : ∃ X4, X4 = x3.alloc (.cells #[.int .i64 tB, .string tN, .int .i64 tD, .string tM] 30) := ⟨_, rfl⟩
              have TB4 : Hid (Bx 30 X4 x3.heap.size [.int .i64 tB, .string tN, .int .i64 tD, .string tM]) := Lib.hid (by rw [hX4]; exact Bx.new 30 x3 _)
              rw [← hX4] at hba
              have PX4 := Lib.hid ((PX2.out.step hb3).step hba)
              have CB4 := Lib.hid ((CB2.out.keep hb3).keep hba)
              have VB4 := Lib.hid ((VB2.out.keep hb3).keep hba)
              have BX4 := Lib.hid ((BX2.out.trans (hb3.mono BX2.out.size)).trans (hba.mono (Nat.le_trans BX2.out.size hb3.size)))
              have HX4 := Lib.hid hX4
              have LEN := Lib.hid (fun W' (h : Below X4.heap.size X4 W') => by
                have := len_yes w1.heap.size w1.heap.size n L v j ⟨#[]⟩ W' (PX4.out.step h).hp hjL
                rw [HT.out] at this
                exact this)
              clear hb3 hba hX4 HEL PX2 CB2 VB2 BX2 v0 v1 v2 vl vf
              go_wp2_with fail
              rw [← HX4.out]
              clear HX4
              obtain ⟨pc, hpc⟩ : ∃ pc, pc = wr.heap.size := ⟨_, rfl⟩
              obtain ⟨pv, hpv⟩ : ∃ pv, pv = x1.heap.size := ⟨_, rfl⟩
              obtain ⟨pt, hpt⟩ : ∃ pt, pt = x3.heap.size := ⟨_, rfl⟩
              rw [← hpc] at CB4 ⊢
              rw [← hpv] at VB4 ⊢
              rw [← hpt] at TB4 ⊢
              clear hpc hpv hpt
              have KEEP : Hid (∀ W', Below X4.heap.size X4 W' → W'.cell? ⟨pv, 0, none⟩ = some (.int .i64 5) ∧ W'.cell? ⟨pv, 1, none⟩ = some (.int .i64 (j : Nat)) ∧ W'.cell? ⟨pv, 2, none⟩ = some (.string ⟨#[]⟩) ∧ W'.cell? ⟨pc, 0, none⟩ = some (.string ⟨#[]⟩) ∧ W'.cell? ⟨pc, 1, none⟩ = some (.int .i64 tB) ∧ W'.cell? ⟨pc, 2, none⟩ = some (.string tN) ∧ W'.cell? ⟨pc, 3, none⟩ = some (.int .i64 tD) ∧ W'.cell? ⟨pc, 4, none⟩ = some (.string tM) ∧ W'.cell? ⟨pc, 5, none⟩ = some (.bool true) ∧ W'.cell? ⟨pc, 6, none⟩ = some (.slice gv vs.length cv) ∧ W'.cell? ⟨pt, 0, none⟩ = some (.int .i64 tB) ∧ W'.cell? ⟨pt, 1, none⟩ = some (.string tN) ∧ W'.cell? ⟨pt, 2, none⟩ = some (.int .i64 tD) ∧ W'.cell? ⟨pt, 3, none⟩ = some (.string tM) ∧ Below X4.heap.size X4 W') := Lib.hid (fun W' h => by
                have q := (VB4.out.keep h).three
                have r := CB4.out.keep h
                have t := (TB4.out.keep h).four
                exact ⟨q.1, q.2.1, q.2.2.1, r.cell 0, r.cell 1, r.cell 2, r.cell 3, r.cell 4, r.cell 5, r.cell 6, t.1, t.2.1, t.2.2.1, t.2.2.2.1, h⟩)
              go_region_held3 (fun W' => W'.cell? ⟨pv, 0, none⟩ = some (.int .i64 5) ∧ W'.cell? ⟨pv, 1, none⟩ = some (.int .i64 (j : Nat)) ∧ W'.cell? ⟨pv, 2, none⟩ = some (.string ⟨#[]⟩) ∧ W'.cell? ⟨pc, 0, none⟩ = some (.string ⟨#[]⟩) ∧ W'.cell? ⟨pc, 1, none⟩ = some (.int .i64 tB) ∧ W'.cell? ⟨pc, 2, none⟩ = some (.string tN) ∧ W'.cell? ⟨pc, 3, none⟩ = some (.int .i64 tD) ∧ W'.cell? ⟨pc, 4, none⟩ = some (.string tM) ∧ W'.cell? ⟨pc, 5, none⟩ = some (.bool true) ∧ W'.cell? ⟨pc, 6, none⟩ = some (.slice gv vs.length cv) ∧ W'.cell? ⟨pt, 0, none⟩ = some (.int .i64 tB) ∧ W'.cell? ⟨pt, 1, none⟩ = some (.string tN) ∧ W'.cell? ⟨pt, 2, none⟩ = some (.int .i64 tD) ∧ W'.cell? ⟨pt, 3, none⟩ = some (.string tM) ∧ Below X4.heap.size X4 W') (first | exact KEEP.out _ (Below.refl _ _) | exact KEEP.out _ (Below.refl _ _).drew | exact KEEP.out _ (after (by assumption) hb9)) (first | (go_at_call 16; go_split_ands; refine (LEN.out _ (by assumption)).mono ?_; rintro e w9 ⟨rfl, hb9⟩))
              all_goals go_split_ands
              all_goals
                have hbz : Below X4.heap.size X4 w9 := by assumption
                have PX9 := Lib.hid (PX4.out.step hbz)
                have VB9 := Lib.hid (VB4.out.keep hbz)
                have CB9 := Lib.hid (CB4.out.keep hbz)
                have BX9 := Lib.hid (BX4.out.trans (hbz.mono BX4.out.size))
                have c6 := CB9.out.cell 6
                have cl := CB9.out.lt
                simp only [List.getElem?_cons_zero, List.getElem?_cons_succ] at c6
                clear hbz hb9 KEEP LEN PX4 VB4 CB4 TB4 BX4
                go_wp2_with fail
                clear c6 cl CB9
                go_loopw [393] (fun i wx => ∃ q : Nat, q ≤ vs.length ∧ i = .int .i64 q ∧ Below w9.heap.size w9 wx) (fun i _ => vs.length - (intOf i).toNat)
                case atStart => exact ⟨0, Nat.zero_le _, rfl, Below.refl _ _⟩
                case round =>
                  obtain ⟨q, hq, rfl, hbq⟩ := hrel
                  have BQ := Lib.hid hbq
                  have PXQ := Lib.hid (PX9.out.step hbq)
                  have VBQ := Lib.hid (VB9.out.keep hbq)
                  clear hbq
                  obtain ⟨v0, v1, v2, vl, vf⟩ := VBQ.out.three
                  by_cases hql : q < vs.length
                  · have hqA : q < A[j].1.vs.length := by rw [HAJ.out]; exact hql
                    have hqL : q < L[j].1.vs.length := by rw [HT.out]; exact hql
                    obtain ⟨x, hx⟩ : ∃ x, vs[q] = x := ⟨_, rfl⟩
                    have hxA : A[j].1.vs[q] = x := by rw [← hx]; congr 1; rw [HAJ.out]
                    have hxL : L[j].1.vs[q] = x := by rw [← hx]; congr 1; rw [HT.out]
                    obtain ⟨gw, cw, hvs2, hgw, e0, e1, e2, -⟩ := PXQ.out.vcell j hjl q hqA
                    rw [hxA] at e0 e1 e2
                    rw [HVS.out] at hvs2
                    simp only [Value.slice.injEq, true_and] at hvs2
                    obtain ⟨rfl, rfl⟩ := hvs2
                    obtain ⟨xk, xn, xs⟩ := x
                    simp only at e0 e1 e2
                    have hql' : (q : Int) < (vs.length : Int) := by omega
                    have LOAD := Lib.hid (fun W' (h : Below wr.heap.size wr W') => load_in w1.heap.size w1.heap.size n L v j ⟨#[]⟩ q W' (xk, xn, xs) (PXQ.out.step h).hp hjL hqL hxL)
                    obtain ⟨W5, hW5⟩ : ∃ W5, W5 = wr.alloc (.cells #[.int .i64 xk, .int .i64 xn, .string xs] 32) := ⟨_, rfl⟩
                    have hb5 : Below wr.heap.size wr W5 := by rw [hW5]; exact (Below.refl _ _).alloc (Nat.le_refl _) _
                    have XB5 : Hid (Bx 32 W5 wr.heap.size [.int .i64 xk, .int .i64 xn, .string xs]) := Lib.hid (by rw [hW5]; exact Bx.new 32 wr _)
                    have HW5 := Lib.hid hW5
                    have HB5 := Lib.hid hb5
                    clear hxA hxL hx hqA hqL hW5 hb5
                    go_wp2_with fail
                    rw [← HW5.out]
                    refine (LOAD.out _ HB5.out).mono ?_
                    rintro e w6 ⟨rfl, hb6⟩
                    obtain ⟨u0, u1, u2x, ul, uf⟩ := (XB5.out.keep hb6).three
                    have BQ6 := Lib.hid (after BQ.out (after HB5.out hb6))
                    clear hb6 v0 v1 v2 vl vf e0 e1 e2 hgw
                    go_wp2_with fail
                    go_roundw
                    case rel => exact ⟨q + 1, by omega, by go_num, BQ6.out.alloc BQ6.out.size _⟩
                    case measure => simp [intOf]; omega
                  · have hqv : q = vs.length := by omega
                    have hqn : ¬ (q : Int) < (vs.length : Int) := by omega
                    have BE := Lib.hid (BX9.out.trans (BQ.out.mono BX9.out.size))
                    clear v0 v1 v2 vl vf
                    go_wp2_with fail
                    go_roundw
                    case rel => exact ⟨j + 1, by omega, by go_num, BE.out⟩
                    case measure => simp [intOf]; omega
        · have hjA : j = A.length := by omega
          subst hjA
          have hLN := Lib.hid (len_no w1.heap.size w1.heap.size n L v 5 (A.length : Nat) ⟨#[]⟩)
          have hth : thereN L 5 (A.length : Nat) = false := by unfold thereN; rw [HAL.out]; simp
          go_wp2_with fail
          refine (at_any _ _).mono ?_
          rintro e w4 ⟨rfl, hb⟩
          have PM4 := Lib.hid (PMR.out.step hb)
          go_wp2_with fail
          refine (hLN.out w4 PM4.out.hp hth).mono ?_
          rintro e w5 ⟨rfl, hb5⟩
          have PM5 := Lib.hid (PM4.out.step hb5)
          clear hb hb5
          go_wp2_with fail
          go_ret
          exact ⟨rfl, PM5.out.bel⟩
end Go.Proofs.Ytfkcjnlhindhfaa
