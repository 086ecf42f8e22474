/- For any text and any number,ScopeFinds returns true and leaves its arguments as they were. -/
import Derived.Test.YtfehpdliobapfaaGreatDoorFTyFacts
import Derived.Test.YtfehpdliobapfaaGreatDoorFShelf
import Derived.Shelf.Strings.SlTrimAscii
import Derived.WalkKit
import Derived.WalkSpells
import Derived.WalkLawsBesides
import Derived.Lib.Hide
import Derived.Deep.QuietTactic
import Derived.BigQuiet
set_option linter.unusedVariables false
namespace Go.Proofs.YtfehpdliobapfaaGreatDoor
open Go.RowKit
theorem bcell {W w1:World} (hb:Below W.heap.size W w1):(∀ b o,b<W.heap.size->w1.cell? ⟨b,o,none⟩=W.cell? ⟨b,o,none⟩)/\(∀ b o,b<W.heap.size->w1.frozen? ⟨b,o,none⟩=W.frozen? ⟨b,o,none⟩) :=
 ⟨fun b o h=>hb.cell (p:=⟨b,o,none⟩) h,fun b o h=>hb.frozen (p:=⟨b,o,none⟩) h⟩
theorem after {w b c:World} (h:Below w.heap.size w b) (k:Below b.heap.size b c):Below w.heap.size w c:=h.trans (k.mono h.size)
theorem ret_bo {x y:Bool} (h:x=y):Ending.returned (.bool x)=Ending.returned (.bool y):=by rw [h]
theorem ret_i {x y:Int} (h:x=y):Ending.returned (.int .i64 x)=Ending.returned (.int .i64 y):=by rw [h]
theorem trim_yes (M:ByteArray) (d:Nat) (w:World) (hd:d<=M.size) (hM:M.size<=maxLen) (h:innerM M d=true) :
  Calls Tryz.prog 210 #[.string (M.extract 0 d),.string ⟨#[32,63]⟩] w fun e w'=>e = .returned (.string ⟨#[]⟩)/\Below w.heap.size w w':=by
 refine (Any.strings_Trim_laid Tryz.lays160 (by kernel_rfl) (M.extract 0 d) ⟨#[32,63]⟩ w (by rw [ByteArray.size_extract];unfold maxLen at hM;omega) (by decide) (ascii_of_all (by decide))).mono ?_
 rintro e w' ⟨rfl,hb⟩
 refine ⟨?_,hb⟩
 rw [(trim_marks M d hd).2 h]
theorem trim_no (M:ByteArray) (d:Nat) (w:World) (hd:d<=M.size) (hM:M.size<=maxLen) (h:innerM M d=false) :
  Calls Tryz.prog 210 #[.string (M.extract 0 d),.string ⟨#[32,63]⟩] w fun e w'=>∃ R:ByteArray,e = .returned (.string R)/\R.size≠0/\Below w.heap.size w w':=by
 refine (Any.strings_Trim_laid Tryz.lays160 (by kernel_rfl) (M.extract 0 d) ⟨#[32,63]⟩ w (by rw [ByteArray.size_extract];unfold maxLen at hM;omega) (by decide) (ascii_of_all (by decide))).mono ?_
 rintro e w' ⟨rfl,hb⟩
 refine ⟨_,rfl,?_,hb⟩
 intro h0
 have:Lib.trimS (M.extract 0 d).data.toList [32,63]=[]:=by
  apply List.eq_nil_of_length_eq_zero
  rw [<- List.size_toArray]
  exact h0
 rw [(trim_marks M d hd).1 this] at h
 cases h
set_option maxHeartbeats 1000000 in
theorem rightMarks_any (B:Int) (N:ByteArray) (d:Nat) (M:ByteArray) (w:World) (hd:d<=4) (hM:M.size<=maxLen) :
  Calls Tryz.prog 189 #[.agg #[.int .i64 B,.string N,.int .i64 d,.string M]] w fun e w'=>e = .returned (.bool (marksB B d M))/\Below w.heap.size w w':=by
 by_cases h1:M.size=d+1
 ·have hp:0<M.size:=by omega
  have hdl:d<M.size:=by omega
  have e1:(M.size:Int)=(d:Int)+1:=by omega
  have hd':d<=M.size:=by omega
  have HM:=Lib.hid hM
  have HB:=Lib.hid (byS_get M 0 hp)
  have HL:=Lib.hid (byS_get M d hdl)
  by_cases h2:B=5\/byS M 0=32
  ·have h2':(B=5)\/(¬ B=5/\¬ M[0].toNat≠32):=by rw [HB.out] at h2;omega
   cases hin:innerM M d
   ·have E:=Lib.hid (show marksB B d M=false by unfold marksB;rw [hin];simp)
    have HT:=Lib.hid (fun w=>trim_no M d w hd' HM.out hin)
    clear h2 hin h1
    rcases h2' with h5|⟨h5,h6⟩
    ·subst h5
     go_enter Tryz.func189,Tryz.ntmps189
     go_wp2_with (go_at_call 210;refine (HT.out _).mono ?_;rintro e w1 ⟨R,rfl,hR,hb1⟩;obtain ⟨hc,hf⟩:=bcell hb1;obtain ⟨r1,r2⟩:=tl_ne R hR)
     all_goals go_ret
     all_goals exact ⟨ret_bo E.out.symm,by repeat (first|exact Below.refl _ _|apply Below.setCell _ (by first|omega|(simp<;>omega))|apply Below.alloc _ (by first|omega|(simp<;>omega))|exact hb1|refine after ?_ hb1)⟩
    ·have g5:(B != 5)=true:=by simpa using h5
     have g6:((M[0].toNat:Int) != 32)=false:=by simp;omega
     go_enter Tryz.func189,Tryz.ntmps189
     go_wp2_with (go_at_call 210;refine (HT.out _).mono ?_;rintro e w1 ⟨R,rfl,hR,hb1⟩;obtain ⟨hc,hf⟩:=bcell hb1;obtain ⟨r1,r2⟩:=tl_ne R hR)
     all_goals go_ret
     all_goals exact ⟨ret_bo E.out.symm,by repeat (first|exact Below.refl _ _|apply Below.setCell _ (by first|omega|(simp<;>omega))|apply Below.alloc _ (by first|omega|(simp<;>omega))|exact hb1|refine after ?_ hb1)⟩
   ·have E:=Lib.hid (show marksB B d M=decide (M[d].toNat=32\/M[d].toNat=63\/M[d].toNat=111) by
     unfold marksB lastM;rw [hin,HL.out];simp only [h1,decide_true,Bool.true_and,Bool.and_true]
     have:(decide (B=5) || decide (byS M 0=32))=true:=by simpa using h2
     rw [this];rfl)
    have HT:=Lib.hid (fun w=>trim_yes M d w hd' HM.out hin)
    clear h2 hin h1
    rcases h2' with h5|⟨h5,h6⟩
    ·subst h5
     go_enter Tryz.func189,Tryz.ntmps189
     go_wp2_with (go_at_call 210;refine (HT.out _).mono ?_;rintro e w1 ⟨rfl,hb1⟩;obtain ⟨hc,hf⟩:=bcell hb1)
     all_goals go_ret
     all_goals exact ⟨ret_bo (by rw [E.out,Bool.eq_iff_iff];simp;try omega),by repeat (first|exact Below.refl _ _|apply Below.setCell _ (by first|omega|(simp<;>omega))|apply Below.alloc _ (by first|omega|(simp<;>omega))|exact hb1|refine after ?_ hb1)⟩
    ·have g5:(B != 5)=true:=by simpa using h5
     have g6:((M[0].toNat:Int) != 32)=false:=by simp;omega
     go_enter Tryz.func189,Tryz.ntmps189
     go_wp2_with (go_at_call 210;refine (HT.out _).mono ?_;rintro e w1 ⟨rfl,hb1⟩;obtain ⟨hc,hf⟩:=bcell hb1)
     all_goals go_ret
     all_goals exact ⟨ret_bo (by rw [E.out,Bool.eq_iff_iff];simp;try omega),by repeat (first|exact Below.refl _ _|apply Below.setCell _ (by first|omega|(simp<;>omega))|apply Below.alloc _ (by first|omega|(simp<;>omega))|exact hb1|refine after ?_ hb1)⟩
  ·have E:=Lib.hid (show marksB B d M=false by unfold marksB;rw [show (decide (B=5) || decide (byS M 0=32))=false by simpa using h2];simp)
   have h5:¬ B=5:=fun h=>h2 (.inl h)
   have h6:M[0].toNat≠32:=fun h=>h2 (.inr (by rw [HB.out];exact h))
   clear h2 h1
   have g5:(B != 5)=true:=by simpa using h5
   have g6:((M[0].toNat:Int) != 32)=true:=by simp;omega
   go_enter Tryz.func189,Tryz.ntmps189
   go_wp2_with fail
   go_ret
   exact ⟨ret_bo E.out.symm,by repeat (first|exact Below.refl _ _|apply Below.setCell _ (by first|omega|(simp<;>omega))|apply Below.alloc _ (by first|omega|(simp<;>omega)))⟩
 ·have e1:¬ (M.size:Int)=(d:Int)+1:=by omega
  have E:=Lib.hid (show marksB B d M=false by unfold marksB;rw [decide_eq_false h1];simp)
  clear h1
  go_enter Tryz.func189,Tryz.ntmps189
  go_wp2_with fail
  go_ret
  exact ⟨ret_bo E.out.symm,by repeat (first|exact Below.refl _ _|apply Below.setCell _ (by first|omega|(simp<;>omega))|apply Below.alloc _ (by first|omega|(simp<;>omega)))⟩
end Go.Proofs.YtfehpdliobapfaaGreatDoor
