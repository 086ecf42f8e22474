/- For any text and any number,ScopeFinds returns true and leaves its arguments as they were. -/
import Derived.Test.YtfehpdliobapfaaGreatDoorFTyA
set_option linter.unusedVariables false
namespace Go.Proofs.YtfehpdliobapfaaGreatDoor
open Go Go.RowKit
theorem rightB_no1 {B:Int} {N:ByteArray} {D:Int} {M:ByteArray} (h:¬ (1<=B/\B<=6)):rightB B N D M=false:=by unfold rightB;rw [decide_eq_false h];rfl
theorem rightB_no2 {B:Int} {N:ByteArray} {D:Int} {M:ByteArray} (h:¬ (B=5 ↔ N.size≠0)):rightB B N D M=false:=by unfold rightB;rw [decide_eq_false h];simp
theorem rightB_no3 {B:Int} {N:ByteArray} {D:Int} {M:ByteArray} (h:¬ (0<=D/\D<=4/\(B=6->D=0))):rightB B N D M=false:=by unfold rightB;rw [decide_eq_false h];simp
theorem rightB_yes {B:Int} {N:ByteArray} {D:Int} {M:ByteArray} (h1:1<=B/\B<=6) (h2:B=5 ↔ N.size≠0) (h3:0<=D/\D<=4/\(B=6->D=0)):rightB B N D M=marksB B D.toNat M:=by
 unfold rightB;rw [decide_eq_true h1,decide_eq_true h2,decide_eq_true h3];rfl
set_option maxHeartbeats 1000000 in
theorem right_any (B:Int) (N:ByteArray) (D:Int) (M:ByteArray) (w:World) (hM:M.size<=maxLen) :
  Calls Tryz.prog 158 #[.agg #[.int .i64 B,.string N,.int .i64 D,.string M]] w fun e w'=>e = .returned (.bool (rightB B N D M))/\Below w.heap.size w w':=by
 by_cases h1:1<=B/\B<=6
 ·obtain ⟨b1,b6⟩:=h1
  have q1:decide (B<1)=false:=decide_eq_false (by omega)
  have q2:decide (6<B)=false:=decide_eq_false (by omega)
  by_cases h2:B=5 ↔ N.size≠0
  ·by_cases h3:0<=D/\D<=4/\(B=6->D=0)
   ·obtain ⟨d,rfl⟩:∃ d:Nat,D=d:=⟨D.toNat,by omega⟩
    have E:=Lib.hid (rightB_yes (M:=M) ⟨b1,b6⟩ h2 h3)
    have hd:d<=4:=by omega
    have HR:=Lib.hid (fun w=>rightMarks_any B N d M w hd hM)
    have q3:decide ((d:Int)<0)=false:=decide_eq_false (by omega)
    have q4:decide ((4:Int)<d)=false:=decide_eq_false (by omega)
    have q5:(decide ((0:Int)<d) && (B == 6))=false:=by
     cases hb:(B == 6)
     ·simp
     ·have:B=6:=by simpa using hb
      have:=h3.2.2 this
      simp;omega
    have H3:=Lib.hid h3
    clear h3 b1 b6
    by_cases h5:B=5
    ·obtain ⟨n1,n2⟩:=tl_ne N (h2.1 h5)
     have g5:(B == 5)=true:=by simpa using h5
     clear h2
     subst h5
     go_enter Tryz.func158,Tryz.ntmps158
     go_wp2_with (go_at_call 189;refine (HR.out _).mono ?_;rintro e w1 ⟨rfl,hb1⟩)
     all_goals go_ret
     all_goals exact ⟨ret_bo E.out.symm,by repeat (first|exact Below.refl _ _|apply Below.setCell _ (by first|omega|(simp<;>omega))|apply Below.alloc _ (by first|omega|(simp<;>omega))|exact hb1|refine after ?_ hb1)⟩
    ·obtain rfl:=empty_of N (by apply Classical.byContradiction;intro h;exact h5 (h2.2 h))
     have g5:(B == 5)=false:=by simpa using h5
     clear h2
     by_cases hd0:d=0
     ·subst hd0
      go_enter Tryz.func158,Tryz.ntmps158
      go_wp2_with (go_at_call 189;refine (HR.out _).mono ?_;rintro e w1 ⟨rfl,hb1⟩)
      all_goals go_ret
      all_goals exact ⟨ret_bo E.out.symm,by repeat (first|exact Below.refl _ _|apply Below.setCell _ (by first|omega|(simp<;>omega))|apply Below.alloc _ (by first|omega|(simp<;>omega))|exact hb1|refine after ?_ hb1)⟩
     ·have g6:¬ B=6:=fun h=>by have:=H3.out.2.2 h;omega
      have g7:(B == 6)=false:=by simpa using g6
      have q6:decide ((0:Int)<d)=true:=decide_eq_true (by omega)
      go_enter Tryz.func158,Tryz.ntmps158
      go_wp2_with (go_at_call 189;refine (HR.out _).mono ?_;rintro e w1 ⟨rfl,hb1⟩)
      all_goals go_ret
      all_goals exact ⟨ret_bo E.out.symm,by repeat (first|exact Below.refl _ _|apply Below.setCell _ (by first|omega|(simp<;>omega))|apply Below.alloc _ (by first|omega|(simp<;>omega))|exact hb1|refine after ?_ hb1)⟩
   ·have E:=Lib.hid (rightB_no3 (N:=N) (M:=M) h3)
    have H2:=Lib.hid h2
    by_cases hd0:D<0
    ·have q3:decide (D<0)=true:=decide_eq_true hd0
     clear h3
     by_cases h5:B=5
     ·obtain ⟨n1,n2⟩:=tl_ne N (h2.1 h5)
      clear h2
      subst h5
      go_enter Tryz.func158,Tryz.ntmps158
      go_wp2_with fail
      all_goals go_ret
      all_goals exact ⟨ret_bo E.out.symm,by repeat (first|exact Below.refl _ _|apply Below.setCell _ (by first|omega|(simp<;>omega))|apply Below.alloc _ (by first|omega|(simp<;>omega)))⟩
     ·obtain rfl:=empty_of N (by apply Classical.byContradiction;intro h;exact h5 (h2.2 h))
      have g5:(B == 5)=false:=by simpa using h5
      clear h2
      go_enter Tryz.func158,Tryz.ntmps158
      go_wp2_with fail
      all_goals go_ret
      all_goals exact ⟨ret_bo E.out.symm,by repeat (first|exact Below.refl _ _|apply Below.setCell _ (by first|omega|(simp<;>omega))|apply Below.alloc _ (by first|omega|(simp<;>omega)))⟩
    ·have q3:decide (D<0)=false:=decide_eq_false hd0
     by_cases hd4:4<D
     ·have q4:decide (4<D)=true:=decide_eq_true hd4
      clear h3
      by_cases h5:B=5
      ·obtain ⟨n1,n2⟩:=tl_ne N (h2.1 h5)
       clear h2
       subst h5
       go_enter Tryz.func158,Tryz.ntmps158
       go_wp2_with fail
       all_goals go_ret
       all_goals exact ⟨ret_bo E.out.symm,by repeat (first|exact Below.refl _ _|apply Below.setCell _ (by first|omega|(simp<;>omega))|apply Below.alloc _ (by first|omega|(simp<;>omega)))⟩
      ·obtain rfl:=empty_of N (by apply Classical.byContradiction;intro h;exact h5 (h2.2 h))
       have g5:(B == 5)=false:=by simpa using h5
       clear h2
       go_enter Tryz.func158,Tryz.ntmps158
       go_wp2_with fail
       all_goals go_ret
       all_goals exact ⟨ret_bo E.out.symm,by repeat (first|exact Below.refl _ _|apply Below.setCell _ (by first|omega|(simp<;>omega))|apply Below.alloc _ (by first|omega|(simp<;>omega)))⟩
     ·have q4:decide (4<D)=false:=decide_eq_false hd4
      have g6:B=6:=by omega
      have q6:decide (0<D)=true:=decide_eq_true (by omega)
      obtain rfl:=empty_of N (by apply Classical.byContradiction;intro h;have:=h2.2 h;omega)
      clear h2 h3
      subst g6
      go_enter Tryz.func158,Tryz.ntmps158
      go_wp2_with fail
      all_goals go_ret
      all_goals exact ⟨ret_bo E.out.symm,by repeat (first|exact Below.refl _ _|apply Below.setCell _ (by first|omega|(simp<;>omega))|apply Below.alloc _ (by first|omega|(simp<;>omega)))⟩
  ·have E:=Lib.hid (rightB_no2 (D:=D) (M:=M) h2)
   by_cases h5:B=5
   ·obtain rfl:=empty_of N (by apply Classical.byContradiction;intro h;exact h2 ⟨fun _=>h,fun _=>h5⟩)
    clear h2
    subst h5
    go_enter Tryz.func158,Tryz.ntmps158
    go_wp2_with fail
    all_goals go_ret
    all_goals exact ⟨ret_bo E.out.symm,by repeat (first|exact Below.refl _ _|apply Below.setCell _ (by first|omega|(simp<;>omega))|apply Below.alloc _ (by first|omega|(simp<;>omega)))⟩
   ·obtain ⟨n1,n2⟩:=tl_ne N (by intro h;exact h2 ⟨fun h'=>absurd h' h5,fun h'=>absurd h h'⟩)
    have g5:(B == 5)=false:=by simpa using h5
    clear h2
    go_enter Tryz.func158,Tryz.ntmps158
    go_wp2_with fail
    all_goals go_ret
    all_goals exact ⟨ret_bo E.out.symm,by repeat (first|exact Below.refl _ _|apply Below.setCell _ (by first|omega|(simp<;>omega))|apply Below.alloc _ (by first|omega|(simp<;>omega)))⟩
 ·have E:=Lib.hid (rightB_no1 (N:=N) (D:=D) (M:=M) h1)
  by_cases hlo:B<1
  ·have q1:decide (B<1)=true:=decide_eq_true hlo
   clear h1
   go_enter Tryz.func158,Tryz.ntmps158
   go_wp2_with fail
   all_goals go_ret
   all_goals exact ⟨ret_bo E.out.symm,by repeat (first|exact Below.refl _ _|apply Below.setCell _ (by first|omega|(simp<;>omega))|apply Below.alloc _ (by first|omega|(simp<;>omega)))⟩
  ·have q1:decide (B<1)=false:=decide_eq_false hlo
   have q2:decide (6<B)=true:=decide_eq_true (by omega)
   clear h1
   go_enter Tryz.func158,Tryz.ntmps158
   go_wp2_with fail
   all_goals go_ret
   all_goals exact ⟨ret_bo E.out.symm,by repeat (first|exact Below.refl _ _|apply Below.setCell _ (by first|omega|(simp<;>omega))|apply Below.alloc _ (by first|omega|(simp<;>omega)))⟩
theorem clone_any (s:ByteArray) (w:World) (h:s.size<=281474976710656) :
  Calls Tryz.prog 78 #[.string s] w fun e w'=>e = .returned (.string s)/\Below w.heap.size w w':=by
 go_enter Tryz.func78,Tryz.ntmps78
 go_wp2_with (go_at_call 125;refine (Tryz.stringslite_Clone _ _ h).mono ?_;rintro e w' ⟨rfl,hb1⟩)
 go_ret
 exact ⟨rfl,hb1⟩
end Go.Proofs.YtfehpdliobapfaaGreatDoor
