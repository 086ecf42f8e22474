/- For any text and any number,ScopeFinds returns true and leaves its arguments as they were. -/
import Derived.Test.YtfehpdliobapfaaGreatDoorFLexPl
import Derived.Test.YtfehpdliobapfaaGreatDoorFSpanG
set_option maxHeartbeats 1000000
set_option linter.unusedVariables false
namespace Go.Proofs.YtfehpdliobapfaaGreatDoor.L
open Go.RowKit
theorem ret_bo {x y:Bool} (h:x=y):Ending.returned (.bool x)=Ending.returned (.bool y):=by rw [h]
theorem ret_i {x y:Int} (h:x=y):Ending.returned (.int .i64 x)=Ending.returned (.int .i64 y):=by rw [h]
theorem letter_any (c:Nat) (w:World) :
  Calls Tryz.prog 172 #[.int .u8 (c:Int)] w fun e w'=>e = .returned (.bool (letterB c))/\w=w':=by
 go_enter Tryz.func172,Tryz.ntmps172
 go_wp2_with fail
 all_goals go_ret
 all_goals exact ⟨ret_bo (by unfold letterB;rw [Bool.eq_iff_iff];simp;omega),rfl⟩
theorem digit_any (c:Nat) (w:World) :
  Calls Tryz.prog 174 #[.int .u8 (c:Int)] w fun e w'=>e = .returned (.bool (digitB c))/\w=w':=by
 go_enter Tryz.func174,Tryz.ntmps174
 go_wp2_with fail
 all_goals go_ret
 all_goals exact ⟨ret_bo (by unfold digitB;rw [Bool.eq_iff_iff];simp;omega),rfl⟩
theorem blank_any (c:Nat) (w:World) :
  Calls Tryz.prog 141 #[.int .u8 (c:Int)] w fun e w'=>e = .returned (.bool (blankB c))/\w=w':=by
 go_enter Tryz.func141,Tryz.ntmps141
 go_wp2_with fail
 all_goals go_ret
 all_goals exact ⟨ret_bo (by unfold blankB;rw [Bool.eq_iff_iff];simp;omega),rfl⟩
theorem line_any (c:Nat) (w:World) :
  Calls Tryz.prog 142 #[.int .u8 (c:Int)] w fun e w'=>e = .returned (.bool (lineB c))/\w=w':=by
 go_enter Tryz.func142,Tryz.ntmps142
 go_wp2_with fail
 all_goals go_ret
 all_goals exact ⟨ret_bo (by unfold lineB;rw [Bool.eq_iff_iff];simp;omega),rfl⟩
theorem seen_any (c:Nat) (w:World) :
  Calls Tryz.prog 178 #[.int .u8 (c:Int)] w fun e w'=>e = .returned (.bool (seenB c))/\w=w':=by
 go_enter Tryz.func178,Tryz.ntmps178
 go_wp2_with fail
 all_goals go_ret
 all_goals exact ⟨ret_bo (by unfold seenB;rw [Bool.eq_iff_iff];simp;omega),rfl⟩
theorem inWord_any (c:Nat) (w:World) :
  Calls Tryz.prog 173 #[.int .u8 (c:Int)] w fun e w'=>e = .returned (.bool (inWordB c))/\w=w':=by
 have HL:=Lib.hid (fun w=>letter_any c w)
 cases hl:letterB c
 ·have E:=Lib.hid (show inWordB c=digitB c by unfold inWordB;rw [hl];rfl)
  rw [hl] at HL
  clear hl
  go_enter Tryz.func173,Tryz.ntmps173
  go_wp2_with (first|(go_at_call 172;refine (HL.out _).mono ?_;rintro e w1 ⟨rfl,rfl⟩)|(go_at_call 174;refine (digit_any _ _).mono ?_;rintro e w1 ⟨rfl,rfl⟩))
  go_ret
  exact ⟨ret_bo E.out.symm,rfl⟩
 ·have E:=Lib.hid (show inWordB c=true by unfold inWordB;rw [hl];rfl)
  rw [hl] at HL
  clear hl
  go_enter Tryz.func173,Tryz.ntmps173
  go_wp2_with (first|(go_at_call 172;refine (HL.out _).mono ?_;rintro e w1 ⟨rfl,rfl⟩)|(go_at_call 174;refine (digit_any _ _).mono ?_;rintro e w1 ⟨rfl,rfl⟩))
  go_ret
  exact ⟨ret_bo E.out.symm,rfl⟩
theorem skip_blank (s:ByteArray) (i:Nat) (w:World) (hs:s.size<=maxLen) (hi:i<=s.size) :
  Calls Tryz.prog 140 #[.string s,.int .i64 (i:Nat),.func (.func 141) #[] #[]] w fun e w'=>e = .returned (.int .i64 (skipG blankB (byS s) s.size i:Nat))/\w=w':=by
 unfold maxLen at hs
 go_enter Tryz.func140,Tryz.ntmps140
 go_wp2_with fail
 go_loop [12] (fun t=>∃ j:Nat,i+j<=s.size/\t = .int .i64 j/\skipG blankB (byS s) s.size (i+j)=skipG blankB (byS s) s.size i) (fun t=>s.size-i-(intOf t).toNat)
 case atStart=>exact ⟨0,by omega,rfl,rfl⟩
 case round =>
  obtain ⟨j,hj,rfl,hk⟩:=hrel
  have HK:=Lib.hid hk
  clear hk
  by_cases hlt:i+j<s.size
  ·have i1:(j:Int)<(s.size:Int)-(i:Int):=by omega
   have HB:=Lib.hid (byS_get s (i+j) hlt)
   have HL:=Lib.hid (fun w=>blank_any s[i+j].toNat w)
   cases hp:blankB s[i+j].toNat
   ·rw [hp] at HL
    have E:=Lib.hid (show skipG blankB (byS s) s.size i=i+j by rw [<- HK.out,skip_no (by rw [HB.out];exact hp)])
    clear hp
    go_wp2_with (go_at_call 141;refine (HL.out _).mono ?_;rintro e w1 ⟨rfl,rfl⟩)
    go_ret
    exact ⟨ret_i (by rw [E.out];omega),rfl⟩
   ·rw [hp] at HL
    have E:=Lib.hid (show skipG blankB (byS s) s.size (i+(j+1))=skipG blankB (byS s) s.size i by rw [<- HK.out,<- Nat.add_assoc,<- skip_yes hlt (by rw [HB.out];exact hp)])
    clear hp
    go_wp2_with (go_at_call 141;refine (HL.out _).mono ?_;rintro e w1 ⟨rfl,rfl⟩)
    go_round
    case rel=>exact ⟨j+1,by omega,by go_num,E.out⟩
    case measure=>simp [intOf];omega
  ·have i1:¬ (j:Int)<(s.size:Int)-(i:Int):=by omega
   have E:=Lib.hid (show skipG blankB (byS s) s.size i=s.size by rw [<- HK.out,skip_end (by omega)];omega)
   go_wp2_with fail
   go_ret
   exact ⟨ret_i (by rw [E.out]),rfl⟩
theorem skip_line (s:ByteArray) (i:Nat) (w:World) (hs:s.size<=maxLen) (hi:i<=s.size) :
  Calls Tryz.prog 140 #[.string s,.int .i64 (i:Nat),.func (.func 142) #[] #[]] w fun e w'=>e = .returned (.int .i64 (skipG lineB (byS s) s.size i:Nat))/\w=w':=by
 unfold maxLen at hs
 go_enter Tryz.func140,Tryz.ntmps140
 go_wp2_with fail
 go_loop [12] (fun t=>∃ j:Nat,i+j<=s.size/\t = .int .i64 j/\skipG lineB (byS s) s.size (i+j)=skipG lineB (byS s) s.size i) (fun t=>s.size-i-(intOf t).toNat)
 case atStart=>exact ⟨0,by omega,rfl,rfl⟩
 case round =>
  obtain ⟨j,hj,rfl,hk⟩:=hrel
  have HK:=Lib.hid hk
  clear hk
  by_cases hlt:i+j<s.size
  ·have i1:(j:Int)<(s.size:Int)-(i:Int):=by omega
   have HB:=Lib.hid (byS_get s (i+j) hlt)
   have HL:=Lib.hid (fun w=>line_any s[i+j].toNat w)
   cases hp:lineB s[i+j].toNat
   ·rw [hp] at HL
    have E:=Lib.hid (show skipG lineB (byS s) s.size i=i+j by rw [<- HK.out,skip_no (by rw [HB.out];exact hp)])
    clear hp
    go_wp2_with (go_at_call 142;refine (HL.out _).mono ?_;rintro e w1 ⟨rfl,rfl⟩)
    go_ret
    exact ⟨ret_i (by rw [E.out];omega),rfl⟩
   ·rw [hp] at HL
    have E:=Lib.hid (show skipG lineB (byS s) s.size (i+(j+1))=skipG lineB (byS s) s.size i by rw [<- HK.out,<- Nat.add_assoc,<- skip_yes hlt (by rw [HB.out];exact hp)])
    clear hp
    go_wp2_with (go_at_call 142;refine (HL.out _).mono ?_;rintro e w1 ⟨rfl,rfl⟩)
    go_round
    case rel=>exact ⟨j+1,by omega,by go_num,E.out⟩
    case measure=>simp [intOf];omega
  ·have i1:¬ (j:Int)<(s.size:Int)-(i:Int):=by omega
   have E:=Lib.hid (show skipG lineB (byS s) s.size i=s.size by rw [<- HK.out,skip_end (by omega)];omega)
   go_wp2_with fail
   go_ret
   exact ⟨ret_i (by rw [E.out]),rfl⟩
theorem skip_word (s:ByteArray) (i:Nat) (w:World) (hs:s.size<=maxLen) (hi:i<=s.size) :
  Calls Tryz.prog 140 #[.string s,.int .i64 (i:Nat),.func (.func 173) #[] #[]] w fun e w'=>e = .returned (.int .i64 (skipG inWordB (byS s) s.size i:Nat))/\w=w':=by
 unfold maxLen at hs
 go_enter Tryz.func140,Tryz.ntmps140
 go_wp2_with fail
 go_loop [12] (fun t=>∃ j:Nat,i+j<=s.size/\t = .int .i64 j/\skipG inWordB (byS s) s.size (i+j)=skipG inWordB (byS s) s.size i) (fun t=>s.size-i-(intOf t).toNat)
 case atStart=>exact ⟨0,by omega,rfl,rfl⟩
 case round =>
  obtain ⟨j,hj,rfl,hk⟩:=hrel
  have HK:=Lib.hid hk
  clear hk
  by_cases hlt:i+j<s.size
  ·have i1:(j:Int)<(s.size:Int)-(i:Int):=by omega
   have HB:=Lib.hid (byS_get s (i+j) hlt)
   have HL:=Lib.hid (fun w=>inWord_any s[i+j].toNat w)
   cases hp:inWordB s[i+j].toNat
   ·rw [hp] at HL
    have E:=Lib.hid (show skipG inWordB (byS s) s.size i=i+j by rw [<- HK.out,skip_no (by rw [HB.out];exact hp)])
    clear hp
    go_wp2_with (go_at_call 173;refine (HL.out _).mono ?_;rintro e w1 ⟨rfl,rfl⟩)
    go_ret
    exact ⟨ret_i (by rw [E.out];omega),rfl⟩
   ·rw [hp] at HL
    have E:=Lib.hid (show skipG inWordB (byS s) s.size (i+(j+1))=skipG inWordB (byS s) s.size i by rw [<- HK.out,<- Nat.add_assoc,<- skip_yes hlt (by rw [HB.out];exact hp)])
    clear hp
    go_wp2_with (go_at_call 173;refine (HL.out _).mono ?_;rintro e w1 ⟨rfl,rfl⟩)
    go_round
    case rel=>exact ⟨j+1,by omega,by go_num,E.out⟩
    case measure=>simp [intOf];omega
  ·have i1:¬ (j:Int)<(s.size:Int)-(i:Int):=by omega
   have E:=Lib.hid (show skipG inWordB (byS s) s.size i=s.size by rw [<- HK.out,skip_end (by omega)];omega)
   go_wp2_with fail
   go_ret
   exact ⟨ret_i (by rw [E.out]),rfl⟩
theorem skip_digit (s:ByteArray) (i:Nat) (w:World) (hs:s.size<=maxLen) (hi:i<=s.size) :
  Calls Tryz.prog 140 #[.string s,.int .i64 (i:Nat),.func (.func 174) #[] #[]] w fun e w'=>e = .returned (.int .i64 (skipG digitB (byS s) s.size i:Nat))/\w=w':=by
 unfold maxLen at hs
 go_enter Tryz.func140,Tryz.ntmps140
 go_wp2_with fail
 go_loop [12] (fun t=>∃ j:Nat,i+j<=s.size/\t = .int .i64 j/\skipG digitB (byS s) s.size (i+j)=skipG digitB (byS s) s.size i) (fun t=>s.size-i-(intOf t).toNat)
 case atStart=>exact ⟨0,by omega,rfl,rfl⟩
 case round =>
  obtain ⟨j,hj,rfl,hk⟩:=hrel
  have HK:=Lib.hid hk
  clear hk
  by_cases hlt:i+j<s.size
  ·have i1:(j:Int)<(s.size:Int)-(i:Int):=by omega
   have HB:=Lib.hid (byS_get s (i+j) hlt)
   have HL:=Lib.hid (fun w=>digit_any s[i+j].toNat w)
   cases hp:digitB s[i+j].toNat
   ·rw [hp] at HL
    have E:=Lib.hid (show skipG digitB (byS s) s.size i=i+j by rw [<- HK.out,skip_no (by rw [HB.out];exact hp)])
    clear hp
    go_wp2_with (go_at_call 174;refine (HL.out _).mono ?_;rintro e w1 ⟨rfl,rfl⟩)
    go_ret
    exact ⟨ret_i (by rw [E.out];omega),rfl⟩
   ·rw [hp] at HL
    have E:=Lib.hid (show skipG digitB (byS s) s.size (i+(j+1))=skipG digitB (byS s) s.size i by rw [<- HK.out,<- Nat.add_assoc,<- skip_yes hlt (by rw [HB.out];exact hp)])
    clear hp
    go_wp2_with (go_at_call 174;refine (HL.out _).mono ?_;rintro e w1 ⟨rfl,rfl⟩)
    go_round
    case rel=>exact ⟨j+1,by omega,by go_num,E.out⟩
    case measure=>simp [intOf];omega
  ·have i1:¬ (j:Int)<(s.size:Int)-(i:Int):=by omega
   have E:=Lib.hid (show skipG digitB (byS s) s.size i=s.size by rw [<- HK.out,skip_end (by omega)];omega)
   go_wp2_with fail
   go_ret
   exact ⟨ret_i (by rw [E.out]),rfl⟩
end Go.Proofs.YtfehpdliobapfaaGreatDoor.L
