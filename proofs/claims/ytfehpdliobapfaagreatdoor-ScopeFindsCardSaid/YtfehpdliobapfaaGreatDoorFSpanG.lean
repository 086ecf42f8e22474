/- For any text and any number,ScopeFinds returns true and leaves its arguments as they were. -/
import Derived.Test.YtfehpdliobapfaaGreatDoorFSpanA
import Derived.Test.YtfehpdliobapfaaGreatDoorFShelf
set_option linter.unusedVariables false
namespace Go.Proofs.YtfehpdliobapfaaGreatDoor.L
open Go.RowKit
theorem clone_any (s:ByteArray) (w:World) (h:s.size<=281474976710656) :
  Calls Tryz.prog 78 #[.string s] w fun e w'=>e = .returned (.string s)/\Below w.heap.size w w':=by
 go_enter Tryz.func78,Tryz.ntmps78
 go_wp2_with (go_at_call 125;refine (Tryz.stringslite_Clone _ _ h).mono ?_;rintro e w' ⟨rfl,hb1⟩)
 go_ret
 exact ⟨rfl,hb1⟩
theorem chkB_iff {f t n:Int}:chkB f t n=true ↔ (0<=f/\f<=t/\t<=65536)/\t<=n/\n<=65536:=by
 unfold chkB;rw [Bool.and_eq_true,mayB_iff];simp
set_option maxHeartbeats 400000 in
theorem text_yes (s:ByteArray) (f t:Nat) (w:World) (hb:chkB f t s.size=true) :
  Calls Tryz.prog 109 #[.string s,.agg #[.int .i64 f,.int .i64 t]] w fun e w'=>e = .returned (.tuple #[.string (s.extract f t),.int .i64 0])/\Below w.heap.size w w':=by
 have H:=Lib.hid hb
 obtain ⟨⟨h1,h2,h3⟩,h4,h5⟩:=chkB_iff.1 hb
 clear hb
 have h2':f<=t:=by omega
 have h4':t<=s.size:=by omega
 have h5':s.size<=65536:=by omega
 have h6:(s.extract f t).size<=281474976710656:=by simp;omega
 have E:=Lib.hid (show errI (chkB f t s.size) 1=0 by rw [H.out];rfl)
 go_enter Tryz.func109,Tryz.ntmps109
 go_wp2_with (first|(go_at_call 146;refine (check_any _ _ _ _).mono ?_;rw [E.out];rintro e w1 ⟨rfl,hb1⟩;obtain ⟨hc,hf⟩:=bcell hb1)|(go_at_call 78;refine (clone_any _ _ h6).mono ?_;rintro e w2 ⟨rfl,hb2⟩))
 go_ret2
 exact ⟨rfl,by repeat (first|exact Below.refl _ _|apply Below.setCell _ (by first|omega|(simp<;>omega))|apply Below.alloc _ (by first|omega|(simp<;>omega))|exact hb2|refine after ?_ hb2|exact hb1|refine after ?_ hb1)⟩
theorem keep {w w1:World} {B o:Nat} {v:Value} (h:Below w.heap.size w w1) (hB:B<w.heap.size) (c:w.cell? ⟨B,o,none⟩=some v):w1.cell? ⟨B,o,none⟩=some v :=
 (h.cell (p:=⟨B,o,none⟩) hB).trans c
end Go.Proofs.YtfehpdliobapfaaGreatDoor.L
