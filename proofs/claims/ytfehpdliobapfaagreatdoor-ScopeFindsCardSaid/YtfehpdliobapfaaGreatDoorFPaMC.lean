/- For any text and any number,ScopeFinds returns true and leaves its arguments as they were. -/
import Derived.Test.YtfehpdliobapfaaGreatDoorFPaMB
set_option maxRecDepth 100000
set_option maxHeartbeats 4000000
set_option linter.unusedVariables false
set_option linter.unusedSimpArgs false
namespace Go.Proofs.YtfehpdliobapfaaGreatDoor
open Go Go.RowKit
section
variable {C:PC} {dd bB b:Nat} {tv wv:Value} {s:PS} {v v1:RV} {w w1:World}
theorem field_tok0 (w:World) (x y z:Int):Sem.run Tryz.prog (Instr.field 109 (.agg #[.int .i64 x,.int .i64 y,.int .i64 z]) 0) w=Result.ok (.int .i64 x) w:=by
 kernel_rfl
theorem kind_any (h:Rd C dd bB b tv wv s v w):Calls Tryz.prog 241 #[.pointer (some ⟨b,0,none⟩)] w fun e w'=>e = .returned (.int .i64 (kindT (wordS C 0 s):Nat))/\Below w.heap.size w w':=by
 have HW:=Lib.hid (word_any h 0 (by omega))
 clear h
 generalize wordS C 0 s=y at *
 by_cases h0:y=(⟨#[105,110,116]⟩:ByteArray)
 ·have n0:(y.toList == [105,110,116])=true:=str_yes h0
  have E:Hid (kindT y=1):=Lib.hid (by rw [h0];rfl)
  clear h0
  go_enter Tryz.func241,Tryz.ntmps241
  go_wp2_with fail
  refine HW.out.mono ?_
  rintro e w1 ⟨rfl,hb⟩
  have HB:=Lib.hid hb
  clear hb
  go_wp2_with fail
  go_ret
  exact ⟨by rw [E.out];rfl,HB.out⟩
 have n0:(y.toList == [105,110,116])=false:=str_no h0
 by_cases h1:y=(⟨#[98,111,111,108]⟩:ByteArray)
 ·have n1:(y.toList == [98,111,111,108])=true:=str_yes h1
  have E:Hid (kindT y=2):=Lib.hid (by rw [h1];rfl)
  clear h0 h1
  go_enter Tryz.func241,Tryz.ntmps241
  go_wp2_with fail
  refine HW.out.mono ?_
  rintro e w1 ⟨rfl,hb⟩
  have HB:=Lib.hid hb
  clear hb
  go_wp2_with fail
  go_ret
  exact ⟨by rw [E.out];rfl,HB.out⟩
 have n1:(y.toList == [98,111,111,108])=false:=str_no h1
 by_cases h2:y=(⟨#[100,111,117,98,108,101]⟩:ByteArray)
 ·have n2:(y.toList == [100,111,117,98,108,101])=true:=str_yes h2
  have E:Hid (kindT y=3):=Lib.hid (by rw [h2];rfl)
  clear h0 h1 h2
  go_enter Tryz.func241,Tryz.ntmps241
  go_wp2_with fail
  refine HW.out.mono ?_
  rintro e w1 ⟨rfl,hb⟩
  have HB:=Lib.hid hb
  clear hb
  go_wp2_with fail
  go_ret
  exact ⟨by rw [E.out];rfl,HB.out⟩
 have n2:(y.toList == [100,111,117,98,108,101])=false:=str_no h2
 by_cases h3:y=(⟨#[115,116,114]⟩:ByteArray)
 ·have n3:(y.toList == [115,116,114])=true:=str_yes h3
  have E:Hid (kindT y=4):=Lib.hid (by rw [h3];rfl)
  clear h0 h1 h2 h3
  go_enter Tryz.func241,Tryz.ntmps241
  go_wp2_with fail
  refine HW.out.mono ?_
  rintro e w1 ⟨rfl,hb⟩
  have HB:=Lib.hid hb
  clear hb
  go_wp2_with fail
  go_ret
  exact ⟨by rw [E.out];rfl,HB.out⟩
 have n3:(y.toList == [115,116,114])=false:=str_no h3
 have E:Hid (kindT y=5):=Lib.hid (by unfold kindT;rw [if_neg h0,if_neg h1,if_neg h2,if_neg h3])
 clear h0 h1 h2 h3
 go_enter Tryz.func241,Tryz.ntmps241
 go_wp2_with fail
 refine HW.out.mono ?_
 rintro e w1 ⟨rfl,hb⟩
 have HB:=Lib.hid hb
 clear hb
 go_wp2_with fail
 go_ret
 exact ⟨by rw [E.out];rfl,HB.out⟩
theorem stat_any (h:Rd C dd bB b tv wv s v w) {value:PM Nat} (HV:Does C dd bB b tv wv 249 value) {block:PM Nat} (HB:Does C dd bB b tv wv 207 block) (HDC:∀ (s:PS) (v:RV) (w:World),Rd C dd bB b tv wv s v w->Calls Tryz.prog 238 #[.pointer (some ⟨b,0,none⟩)] w fun e w'=>e = .returned (.bool (declares C s))/\Below w.heap.size w w') (HD:Does C dd bB b tv wv 239 (declP C value)) (HVD:Does C dd bB b tv wv 240 (valuedP C value)) (ho:statP C value block s ≠ .out):Calls Tryz.prog 219 #[.pointer (some ⟨b,0,none⟩)] w (RQ C dd bB b tv wv v w repN (statP C value block s)):=by
 have HR0:=Lib.hid h
 have R0:=Lib.hid h
 have F0:=Lib.hid (Fr.refl bB b v w)
 have HO:=Lib.hid ho
 have E0:=Lib.hid (congrFun (statP.eq_1 C value block) s)
 clear h ho
 go_enter Tryz.func219,Tryz.ntmps219
 go_wp2_with fail
 refine (word_any R0.out 0 (by omega)).mono ?_
 rintro e w1 ⟨rfl,hb⟩
 have R1:=Lib.hid (R0.out.step hb)
 have F1:=Lib.hid (F0.out.below hb R0.out.hB)
 clear hb R0 F0
 have E2:=Lib.hid (E0.out.trans look_go)
 clear E0
 by_cases hs3:(wordS C 0 s)=(⟨#[123]⟩:ByteArray)
 ·have n3:((wordS C 0 s).toList == [123])=true:=str_yes hs3
  have m3:((wordS C 0 s).toList != [123])=false:=str_nyes hs3
  have E4:=Lib.hid (E2.out.trans (if_pos_go hs3))
  clear E2
  clear hs3
  go_wp2_with fail
  refine (HB _ _ _ R1.out (fun e=>HO.out (E4.out.trans e))).mono ?_
  rintro e w5 (⟨x5,t5,v5,u5,hm,rfl,hrep,rd,fr⟩|⟨c,x,hm,rfl,hb⟩)
  rotate_left
  ·go_wp2_with fail
   exact ⟨rfl,rq_bad (E4.out.trans hm) (F1.out.bel.trans hb)⟩
  obtain rfl:u5 = .int .i64 (x5:Nat):=hrep
  have E5:=Lib.hid (E4.out.trans hm)
  have R5:=Lib.hid rd
  have F5:=Lib.hid (F1.out.trans fr)
  clear hm rd fr E4 R1 F1
  go_wp2_with fail
  go_ret
  exact rq_ok E5.out rfl R5.out F5.out
 ·have n3:((wordS C 0 s).toList == [123])=false:=str_no hs3
  have m3:((wordS C 0 s).toList != [123])=true:=str_nno hs3
  have E6:=Lib.hid (E2.out.trans (if_neg_go hs3))
  clear E2
  by_cases hs7:(wordS C 0 s)=(⟨#[105,102]⟩:ByteArray)
  ·have n7:((wordS C 0 s).toList == [105,102])=true:=str_yes hs7
   have m7:((wordS C 0 s).toList != [105,102])=false:=str_nyes hs7
   have E8:=Lib.hid (E6.out.trans (if_pos_go hs7))
   clear E6
   clear hs7
   go_wp2_with fail
   refine (branch_any R1.out HV HB (fun e=>HO.out (E8.out.trans e))).mono ?_
   rintro e w9 (⟨x9,t9,v9,u9,hm,rfl,hrep,rd,fr⟩|⟨c,x,hm,rfl,hb⟩)
   rotate_left
   ·go_wp2_with fail
    exact ⟨rfl,rq_bad (E8.out.trans hm) (F1.out.bel.trans hb)⟩
   obtain rfl:u9 = .int .i64 (x9:Nat):=hrep
   have E9:=Lib.hid (E8.out.trans hm)
   have R9:=Lib.hid rd
   have F9:=Lib.hid (F1.out.trans fr)
   clear hm rd fr E8 R1 F1
   go_wp2_with fail
   go_ret
   exact rq_ok E9.out rfl R9.out F9.out
  ·have n7:((wordS C 0 s).toList == [105,102])=false:=str_no hs7
   have m7:((wordS C 0 s).toList != [105,102])=true:=str_nno hs7
   have E10:=Lib.hid (E6.out.trans (if_neg_go hs7))
   clear E6
   by_cases hs11:(wordS C 0 s)=(⟨#[119,104,105,108,101]⟩:ByteArray)
   ·have n11:((wordS C 0 s).toList == [119,104,105,108,101])=true:=str_yes hs11
    have m11:((wordS C 0 s).toList != [119,104,105,108,101])=false:=str_nyes hs11
    have E12:=Lib.hid (E10.out.trans (if_pos_go hs11))
    clear E10
    clear hs11
    go_wp2_with fail
    refine (loop_any R1.out HV HB (fun e=>HO.out (E12.out.trans e))).mono ?_
    rintro e w13 (⟨x13,t13,v13,u13,hm,rfl,hrep,rd,fr⟩|⟨c,x,hm,rfl,hb⟩)
    rotate_left
    ·go_wp2_with fail
     exact ⟨rfl,rq_bad (E12.out.trans hm) (F1.out.bel.trans hb)⟩
    obtain rfl:u13 = .int .i64 (x13:Nat):=hrep
    have E13:=Lib.hid (E12.out.trans hm)
    have R13:=Lib.hid rd
    have F13:=Lib.hid (F1.out.trans fr)
    clear hm rd fr E12 R1 F1
    go_wp2_with fail
    go_ret
    exact rq_ok E13.out rfl R13.out F13.out
   ·have n11:((wordS C 0 s).toList == [119,104,105,108,101])=false:=str_no hs11
    have m11:((wordS C 0 s).toList != [119,104,105,108,101])=true:=str_nno hs11
    have E14:=Lib.hid (E10.out.trans (if_neg_go hs11))
    clear E10
    by_cases hs15:(wordS C 0 s)=(⟨#[98,114,101,97,107]⟩:ByteArray)
    ·have n15:((wordS C 0 s).toList == [98,114,101,97,107])=true:=str_yes hs15
     have m15:((wordS C 0 s).toList != [98,114,101,97,107])=false:=str_nyes hs15
     have E16:=Lib.hid (E14.out.trans (if_pos_go hs15))
     clear E14
     clear hs15
     go_wp2_with fail
     refine (short_any R1.out 13 (fun e=>HO.out (E16.out.trans e))).mono ?_
     rintro e w17 (⟨x17,t17,v17,u17,hm,rfl,hrep,rd,fr⟩|⟨c,x,hm,rfl,hb⟩)
     rotate_left
     ·go_wp2_with fail
      exact ⟨rfl,rq_bad (E16.out.trans hm) (F1.out.bel.trans hb)⟩
     obtain rfl:u17 = .int .i64 (x17:Nat):=hrep
     have E17:=Lib.hid (E16.out.trans hm)
     have R17:=Lib.hid rd
     have F17:=Lib.hid (F1.out.trans fr)
     clear hm rd fr E16 R1 F1
     go_wp2_with fail
     go_ret
     exact rq_ok E17.out rfl R17.out F17.out
    ·have n15:((wordS C 0 s).toList == [98,114,101,97,107])=false:=str_no hs15
     have m15:((wordS C 0 s).toList != [98,114,101,97,107])=true:=str_nno hs15
     have E18:=Lib.hid (E14.out.trans (if_neg_go hs15))
     clear E14
     by_cases hs19:(wordS C 0 s)=(⟨#[99,111,110,116,105,110,117,101]⟩:ByteArray)
     ·have n19:((wordS C 0 s).toList == [99,111,110,116,105,110,117,101])=true:=str_yes hs19
      have m19:((wordS C 0 s).toList != [99,111,110,116,105,110,117,101])=false:=str_nyes hs19
      have E20:=Lib.hid (E18.out.trans (if_pos_go hs19))
      clear E18
      clear hs19
      go_wp2_with fail
      refine (short_any R1.out 14 (fun e=>HO.out (E20.out.trans e))).mono ?_
      rintro e w21 (⟨x21,t21,v21,u21,hm,rfl,hrep,rd,fr⟩|⟨c,x,hm,rfl,hb⟩)
      rotate_left
      ·go_wp2_with fail
       exact ⟨rfl,rq_bad (E20.out.trans hm) (F1.out.bel.trans hb)⟩
      obtain rfl:u21 = .int .i64 (x21:Nat):=hrep
      have E21:=Lib.hid (E20.out.trans hm)
      have R21:=Lib.hid rd
      have F21:=Lib.hid (F1.out.trans fr)
      clear hm rd fr E20 R1 F1
      go_wp2_with fail
      go_ret
      exact rq_ok E21.out rfl R21.out F21.out
     ·have n19:((wordS C 0 s).toList == [99,111,110,116,105,110,117,101])=false:=str_no hs19
      have m19:((wordS C 0 s).toList != [99,111,110,116,105,110,117,101])=true:=str_nno hs19
      have E22:=Lib.hid (E18.out.trans (if_neg_go hs19))
      clear E18
      by_cases hs23:(wordS C 0 s)=(⟨#[114,101,116,117,114,110]⟩:ByteArray)
      ·have n23:((wordS C 0 s).toList == [114,101,116,117,114,110])=true:=str_yes hs23
       have m23:((wordS C 0 s).toList != [114,101,116,117,114,110])=false:=str_nyes hs23
       have E24:=Lib.hid (E22.out.trans (if_pos_go hs23))
       clear E22
       clear hs23
       go_wp2_with fail
       refine (result_any R1.out HV (fun e=>HO.out (E24.out.trans e))).mono ?_
       rintro e w25 (⟨x25,t25,v25,u25,hm,rfl,hrep,rd,fr⟩|⟨c,x,hm,rfl,hb⟩)
       rotate_left
       ·go_wp2_with fail
        exact ⟨rfl,rq_bad (E24.out.trans hm) (F1.out.bel.trans hb)⟩
       obtain rfl:u25 = .int .i64 (x25:Nat):=hrep
       have E25:=Lib.hid (E24.out.trans hm)
       have R25:=Lib.hid rd
       have F25:=Lib.hid (F1.out.trans fr)
       clear hm rd fr E24 R1 F1
       go_wp2_with fail
       go_ret
       exact rq_ok E25.out rfl R25.out F25.out
      ·have n23:((wordS C 0 s).toList == [114,101,116,117,114,110])=false:=str_no hs23
       have m23:((wordS C 0 s).toList != [114,101,116,117,114,110])=true:=str_nno hs23
       have E26:=Lib.hid (E22.out.trans (if_neg_go hs23))
       clear E22
       by_cases hs27:(wordS C 0 s)=(⟨#[112,114,105,110,116]⟩:ByteArray)
       ·have n27:((wordS C 0 s).toList == [112,114,105,110,116])=true:=str_yes hs27
        have m27:((wordS C 0 s).toList != [112,114,105,110,116])=false:=str_nyes hs27
        have E28:=Lib.hid (E26.out.trans (if_pos_go hs27))
        clear E26
        clear hs27
        go_wp2_with fail
        refine (print_any R1.out HV (fun e=>HO.out (E28.out.trans e))).mono ?_
        rintro e w29 (⟨x29,t29,v29,u29,hm,rfl,hrep,rd,fr⟩|⟨c,x,hm,rfl,hb⟩)
        rotate_left
        ·go_wp2_with fail
         exact ⟨rfl,rq_bad (E28.out.trans hm) (F1.out.bel.trans hb)⟩
        obtain rfl:u29 = .int .i64 (x29:Nat):=hrep
        have E29:=Lib.hid (E28.out.trans hm)
        have R29:=Lib.hid rd
        have F29:=Lib.hid (F1.out.trans fr)
        clear hm rd fr E28 R1 F1
        go_wp2_with fail
        go_ret
        exact rq_ok E29.out rfl R29.out F29.out
       ·have n27:((wordS C 0 s).toList == [112,114,105,110,116])=false:=str_no hs27
        have m27:((wordS C 0 s).toList != [112,114,105,110,116])=true:=str_nno hs27
        have E30:=Lib.hid (E26.out.trans (if_neg_go hs27))
        clear E26
        by_cases hs31:(wordS C 0 s)=(⟨#[115,117,112,101,114]⟩:ByteArray)
        ·have n31:((wordS C 0 s).toList == [115,117,112,101,114])=true:=str_yes hs31
         have m31:((wordS C 0 s).toList != [115,117,112,101,114])=false:=str_nyes hs31
         have E32:=Lib.hid (E30.out.trans (if_pos_go hs31))
         clear E30
         clear hs31
         go_wp2_with fail
         refine (super_any R1.out HV (fun e=>HO.out (E32.out.trans e))).mono ?_
         rintro e w33 (⟨x33,t33,v33,u33,hm,rfl,hrep,rd,fr⟩|⟨c,x,hm,rfl,hb⟩)
         rotate_left
         ·go_wp2_with fail
          exact ⟨rfl,rq_bad (E32.out.trans hm) (F1.out.bel.trans hb)⟩
         obtain rfl:u33 = .int .i64 (x33:Nat):=hrep
         have E33:=Lib.hid (E32.out.trans hm)
         have R33:=Lib.hid rd
         have F33:=Lib.hid (F1.out.trans fr)
         clear hm rd fr E32 R1 F1
         go_wp2_with fail
         go_ret
         exact rq_ok E33.out rfl R33.out F33.out
        ·have n31:((wordS C 0 s).toList == [115,117,112,101,114])=false:=str_no hs31
         have m31:((wordS C 0 s).toList != [115,117,112,101,114])=true:=str_nno hs31
         have E34:=Lib.hid (E30.out.trans (if_neg_go hs31))
         clear E30
         go_wp2_with fail
         refine (HDC _ _ _ R1.out).mono ?_
         rintro e w35 ⟨rfl,hb⟩
         have R35:=Lib.hid (R1.out.step hb)
         have F35:=Lib.hid (F1.out.below hb R1.out.hB)
         clear hb R1 F1
         have E36:=Lib.hid (E34.out.trans look_go)
         clear E34
         cases hc37:declares C s
         ·have E38:=Lib.hid (E36.out.trans (if_neg_go (fun e=>by rw [hc37] at e;cases e)))
          clear E36
          go_wp2_with fail
          refine (HVD _ _ _ R35.out (fun e=>HO.out (E38.out.trans e))).mono ?_
          rintro e w39 (⟨x39,t39,v39,u39,hm,rfl,hrep,rd,fr⟩|⟨c,x,hm,rfl,hb⟩)
          rotate_left
          ·go_wp2_with fail
           exact ⟨rfl,rq_bad (E38.out.trans hm) (F35.out.bel.trans hb)⟩
          obtain rfl:u39 = .int .i64 (x39:Nat):=hrep
          have E39:=Lib.hid (E38.out.trans hm)
          have R39:=Lib.hid rd
          have F39:=Lib.hid (F35.out.trans fr)
          clear hm rd fr E38 R35 F35
          go_wp2_with fail
          go_ret
          exact rq_ok E39.out rfl R39.out F39.out
         ·have E40:=Lib.hid (E36.out.trans (if_pos_go hc37))
          clear E36
          go_wp2_with fail
          refine (HD _ _ _ R35.out (fun e=>HO.out (E40.out.trans e))).mono ?_
          rintro e w41 (⟨x41,t41,v41,u41,hm,rfl,hrep,rd,fr⟩|⟨c,x,hm,rfl,hb⟩)
          rotate_left
          ·go_wp2_with fail
           exact ⟨rfl,rq_bad (E40.out.trans hm) (F35.out.bel.trans hb)⟩
          obtain rfl:u41 = .int .i64 (x41:Nat):=hrep
          have E41:=Lib.hid (E40.out.trans hm)
          have R41:=Lib.hid rd
          have F41:=Lib.hid (F35.out.trans fr)
          clear hm rd fr E40 R35 F35
          go_wp2_with fail
          go_ret
          exact rq_ok E41.out rfl R41.out F41.out
theorem first_any (h:Rd C dd bB b tv wv s v w) {value:PM Nat} (HV:Does C dd bB b tv wv 249 value) (hK:CK C) (HLI:∀ (s:PS) (v:RV) (w:World),Rd C dd bB b tv wv s v w->(kindS C s=2\/kindS C s=3\/kindS C s=4)->literalP C s ≠ .out->Calls Tryz.prog 264 #[.pointer (some ⟨b,0,none⟩)] w (RQ C dd bB b tv wv v w repN (literalP C s))) (HCA:Does C dd bB b tv wv 268 (castP C value)) (HAN:Does C dd bB b tv wv 269 (anewP C value)) (ho:firstP C value s ≠ .out):Calls Tryz.prog 262 #[.pointer (some ⟨b,0,none⟩)] w (RQ C dd bB b tv wv v w repN (firstP C value s)):=by
 have hf0:=field_tok0
 have HR0:=Lib.hid h
 have R0:=Lib.hid h
 have F0:=Lib.hid (Fr.refl bB b v w)
 have HO:=Lib.hid ho
 have E0:=Lib.hid (congrFun (firstP.eq_1 C value) s)
 clear h ho
 go_enter Tryz.func262,Tryz.ntmps262
 go_wp2_with fail
 refine (token_any R0.out).mono ?_
 rintro e w42 ⟨rfl,hb⟩
 have R42:=Lib.hid (R0.out.step hb)
 have F42:=Lib.hid (F0.out.below hb R0.out.hB)
 clear hb R0 F0
 have E43:=Lib.hid (E0.out.trans look_go)
 clear E0
 by_cases hk:kindS C s=2\/kindS C s=3\/kindS C s=4
 ·have E44:=Lib.hid (E43.out.trans (if_pos_go hk))
  clear E43
  rcases hk with hk|hk|hk
  ·have p0:((kindS C s:Int) == 2)=true:=by simp;omega
   have HK:=Lib.hid hk
   clear hk
   go_wp2_with fail
   refine (HLI _ _ _ R42.out (.inl HK.out) (fun e=>HO.out (E44.out.trans e))).mono ?_
   rintro e w45 (⟨x45,t45,v45,u45,hm,rfl,hrep,rd,fr⟩|⟨c,x,hm,rfl,hb⟩)
   rotate_left
   ·go_wp2_with fail
    exact ⟨rfl,rq_bad (E44.out.trans hm) (F42.out.bel.trans hb)⟩
   obtain rfl:u45 = .int .i64 (x45:Nat):=hrep
   have E45:=Lib.hid (E44.out.trans hm)
   have R45:=Lib.hid rd
   have F45:=Lib.hid (F42.out.trans fr)
   clear hm rd fr E44 R42 F42
   go_wp2_with fail
   go_ret
   exact rq_ok E45.out rfl R45.out F45.out
  ·have p0:((kindS C s:Int) == 2)=false:=by simp;omega
   have p1:((kindS C s:Int) == 3)=true:=by simp;omega
   have HK:=Lib.hid hk
   clear hk
   go_wp2_with fail
   refine (HLI _ _ _ R42.out (.inr (.inl HK.out)) (fun e=>HO.out (E44.out.trans e))).mono ?_
   rintro e w46 (⟨x46,t46,v46,u46,hm,rfl,hrep,rd,fr⟩|⟨c,x,hm,rfl,hb⟩)
   rotate_left
   ·go_wp2_with fail
    exact ⟨rfl,rq_bad (E44.out.trans hm) (F42.out.bel.trans hb)⟩
   obtain rfl:u46 = .int .i64 (x46:Nat):=hrep
   have E46:=Lib.hid (E44.out.trans hm)
   have R46:=Lib.hid rd
   have F46:=Lib.hid (F42.out.trans fr)
   clear hm rd fr E44 R42 F42
   go_wp2_with fail
   go_ret
   exact rq_ok E46.out rfl R46.out F46.out
  ·have p0:((kindS C s:Int) == 2)=false:=by simp;omega
   have p1:((kindS C s:Int) == 3)=false:=by simp;omega
   have p2:((kindS C s:Int) == 4)=true:=by simp;omega
   have HK:=Lib.hid hk
   clear hk
   go_wp2_with fail
   refine (HLI _ _ _ R42.out (.inr (.inr HK.out)) (fun e=>HO.out (E44.out.trans e))).mono ?_
   rintro e w47 (⟨x47,t47,v47,u47,hm,rfl,hrep,rd,fr⟩|⟨c,x,hm,rfl,hb⟩)
   rotate_left
   ·go_wp2_with fail
    exact ⟨rfl,rq_bad (E44.out.trans hm) (F42.out.bel.trans hb)⟩
   obtain rfl:u47 = .int .i64 (x47:Nat):=hrep
   have E47:=Lib.hid (E44.out.trans hm)
   have R47:=Lib.hid rd
   have F47:=Lib.hid (F42.out.trans fr)
   clear hm rd fr E44 R42 F42
   go_wp2_with fail
   go_ret
   exact rq_ok E47.out rfl R47.out F47.out
 ·have E48:=Lib.hid (E43.out.trans (if_neg_go hk))
  clear E43
  have p0:((kindS C s:Int) == 2)=false:=by simp;omega
  have p1:((kindS C s:Int) == 3)=false:=by simp;omega
  have p2:((kindS C s:Int) == 4)=false:=by simp;omega
  clear hk
  go_wp2_with fail
  refine (word_any R42.out 0 (by omega)).mono ?_
  rintro e w49 ⟨rfl,hb⟩
  have R49:=Lib.hid (R42.out.step hb)
  have F49:=Lib.hid (F42.out.below hb R42.out.hB)
  clear hb R42 F42
  have E50:=Lib.hid (E48.out.trans look_go)
  clear E48
  by_cases hs51:(wordS C 0 s)=(⟨#[40]⟩:ByteArray)
  ·have n51:((wordS C 0 s).toList == [40])=true:=str_yes hs51
   have m51:((wordS C 0 s).toList != [40])=false:=str_nyes hs51
   have E52:=Lib.hid (E50.out.trans (if_pos_go hs51))
   clear E50
   clear hs51
   go_wp2_with fail
   refine (within_any R49.out HV (fun e=>HO.out (E52.out.trans e))).mono ?_
   rintro e w53 (⟨x53,t53,v53,u53,hm,rfl,hrep,rd,fr⟩|⟨c,x,hm,rfl,hb⟩)
   rotate_left
   ·go_wp2_with fail
    exact ⟨rfl,rq_bad (E52.out.trans hm) (F49.out.bel.trans hb)⟩
   obtain rfl:u53 = .int .i64 (x53:Nat):=hrep
   have E53:=Lib.hid (E52.out.trans hm)
   have R53:=Lib.hid rd
   have F53:=Lib.hid (F49.out.trans fr)
   clear hm rd fr E52 R49 F49
   go_wp2_with fail
   go_ret
   exact rq_ok E53.out rfl R53.out F53.out
  ·have n51:((wordS C 0 s).toList == [40])=false:=str_no hs51
   have m51:((wordS C 0 s).toList != [40])=true:=str_nno hs51
   have E54:=Lib.hid (E50.out.trans (if_neg_go hs51))
   clear E50
   by_cases hs55:(wordS C 0 s)=(⟨#[116,114,117,101]⟩:ByteArray)
   ·have n55:((wordS C 0 s).toList == [116,114,117,101])=true:=str_yes hs55
    have m55:((wordS C 0 s).toList != [116,114,117,101])=false:=str_nyes hs55
    have E56:=Lib.hid (E54.out.trans (if_pos_go (.inl hs55)))
    clear E54
    clear hs55
    go_wp2_with fail
    refine (constant_any R49.out (wordS C 0 s) (fun e=>HO.out (E56.out.trans e))).mono ?_
    rintro e w57 (⟨x57,t57,v57,u57,hm,rfl,hrep,rd,fr⟩|⟨c,x,hm,rfl,hb⟩)
    rotate_left
    ·go_wp2_with fail
     exact ⟨rfl,rq_bad (E56.out.trans hm) (F49.out.bel.trans hb)⟩
    obtain rfl:u57 = .int .i64 (x57:Nat):=hrep
    have E57:=Lib.hid (E56.out.trans hm)
    have R57:=Lib.hid rd
    have F57:=Lib.hid (F49.out.trans fr)
    clear hm rd fr E56 R49 F49
    go_wp2_with fail
    go_ret
    exact rq_ok E57.out rfl R57.out F57.out
   ·have n55:((wordS C 0 s).toList == [116,114,117,101])=false:=str_no hs55
    have m55:((wordS C 0 s).toList != [116,114,117,101])=true:=str_nno hs55
    by_cases hs58:(wordS C 0 s)=(⟨#[102,97,108,115,101]⟩:ByteArray)
    ·have n58:((wordS C 0 s).toList == [102,97,108,115,101])=true:=str_yes hs58
     have m58:((wordS C 0 s).toList != [102,97,108,115,101])=false:=str_nyes hs58
     have E59:=Lib.hid (E54.out.trans (if_pos_go (.inr (.inl hs58))))
     clear E54
     clear hs58
     go_wp2_with fail
     refine (constant_any R49.out (wordS C 0 s) (fun e=>HO.out (E59.out.trans e))).mono ?_
     rintro e w60 (⟨x60,t60,v60,u60,hm,rfl,hrep,rd,fr⟩|⟨c,x,hm,rfl,hb⟩)
     rotate_left
     ·go_wp2_with fail
      exact ⟨rfl,rq_bad (E59.out.trans hm) (F49.out.bel.trans hb)⟩
     obtain rfl:u60 = .int .i64 (x60:Nat):=hrep
     have E60:=Lib.hid (E59.out.trans hm)
     have R60:=Lib.hid rd
     have F60:=Lib.hid (F49.out.trans fr)
     clear hm rd fr E59 R49 F49
     go_wp2_with fail
     go_ret
     exact rq_ok E60.out rfl R60.out F60.out
    ·have n58:((wordS C 0 s).toList == [102,97,108,115,101])=false:=str_no hs58
     have m58:((wordS C 0 s).toList != [102,97,108,115,101])=true:=str_nno hs58
     by_cases hs61:(wordS C 0 s)=(⟨#[110,117,108,108]⟩:ByteArray)
     ·have n61:((wordS C 0 s).toList == [110,117,108,108])=true:=str_yes hs61
      have m61:((wordS C 0 s).toList != [110,117,108,108])=false:=str_nyes hs61
      have E62:=Lib.hid (E54.out.trans (if_pos_go (.inr (.inr (.inl hs61)))))
      clear E54
      clear hs61
      go_wp2_with fail
      refine (constant_any R49.out (wordS C 0 s) (fun e=>HO.out (E62.out.trans e))).mono ?_
      rintro e w63 (⟨x63,t63,v63,u63,hm,rfl,hrep,rd,fr⟩|⟨c,x,hm,rfl,hb⟩)
      rotate_left
      ·go_wp2_with fail
       exact ⟨rfl,rq_bad (E62.out.trans hm) (F49.out.bel.trans hb)⟩
      obtain rfl:u63 = .int .i64 (x63:Nat):=hrep
      have E63:=Lib.hid (E62.out.trans hm)
      have R63:=Lib.hid rd
      have F63:=Lib.hid (F49.out.trans fr)
      clear hm rd fr E62 R49 F49
      go_wp2_with fail
      go_ret
      exact rq_ok E63.out rfl R63.out F63.out
     ·have n61:((wordS C 0 s).toList == [110,117,108,108])=false:=str_no hs61
      have m61:((wordS C 0 s).toList != [110,117,108,108])=true:=str_nno hs61
      by_cases hs64:(wordS C 0 s)=(⟨#[110,111,110,101]⟩:ByteArray)
      ·have n64:((wordS C 0 s).toList == [110,111,110,101])=true:=str_yes hs64
       have m64:((wordS C 0 s).toList != [110,111,110,101])=false:=str_nyes hs64
       have E65:=Lib.hid (E54.out.trans (if_pos_go (.inr (.inr (.inr (.inl hs64))))))
       clear E54
       clear hs64
       go_wp2_with fail
       refine (constant_any R49.out (wordS C 0 s) (fun e=>HO.out (E65.out.trans e))).mono ?_
       rintro e w66 (⟨x66,t66,v66,u66,hm,rfl,hrep,rd,fr⟩|⟨c,x,hm,rfl,hb⟩)
       rotate_left
       ·go_wp2_with fail
        exact ⟨rfl,rq_bad (E65.out.trans hm) (F49.out.bel.trans hb)⟩
       obtain rfl:u66 = .int .i64 (x66:Nat):=hrep
       have E66:=Lib.hid (E65.out.trans hm)
       have R66:=Lib.hid rd
       have F66:=Lib.hid (F49.out.trans fr)
       clear hm rd fr E65 R49 F49
       go_wp2_with fail
       go_ret
       exact rq_ok E66.out rfl R66.out F66.out
      ·have n64:((wordS C 0 s).toList == [110,111,110,101])=false:=str_no hs64
       have m64:((wordS C 0 s).toList != [110,111,110,101])=true:=str_nno hs64
       by_cases hs67:(wordS C 0 s)=(⟨#[116,104,105,115]⟩:ByteArray)
       ·have n67:((wordS C 0 s).toList == [116,104,105,115])=true:=str_yes hs67
        have m67:((wordS C 0 s).toList != [116,104,105,115])=false:=str_nyes hs67
        have E68:=Lib.hid (E54.out.trans (if_pos_go (.inr (.inr (.inr (.inr hs67))))))
        clear E54
        clear hs67
        go_wp2_with fail
        refine (constant_any R49.out (wordS C 0 s) (fun e=>HO.out (E68.out.trans e))).mono ?_
        rintro e w69 (⟨x69,t69,v69,u69,hm,rfl,hrep,rd,fr⟩|⟨c,x,hm,rfl,hb⟩)
        rotate_left
        ·go_wp2_with fail
         exact ⟨rfl,rq_bad (E68.out.trans hm) (F49.out.bel.trans hb)⟩
        obtain rfl:u69 = .int .i64 (x69:Nat):=hrep
        have E69:=Lib.hid (E68.out.trans hm)
        have R69:=Lib.hid rd
        have F69:=Lib.hid (F49.out.trans fr)
        clear hm rd fr E68 R49 F49
        go_wp2_with fail
        go_ret
        exact rq_ok E69.out rfl R69.out F69.out
       ·have n67:((wordS C 0 s).toList == [116,104,105,115])=false:=str_no hs67
        have m67:((wordS C 0 s).toList != [116,104,105,115])=true:=str_nno hs67
        have E70:=Lib.hid (E54.out.trans (if_neg_go (fun e=>by rcases e with e|e|e|e|e<;>contradiction)))
        clear E54
        by_cases hs71:(wordS C 0 s)=(⟨#[115,111,109,101]⟩:ByteArray)
        ·have n71:((wordS C 0 s).toList == [115,111,109,101])=true:=str_yes hs71
         have m71:((wordS C 0 s).toList != [115,111,109,101])=false:=str_nyes hs71
         have E72:=Lib.hid (E70.out.trans (if_pos_go (.inl hs71)))
         clear E70
         clear hs71
         go_wp2_with fail
         refine (wrapped_any R49.out HV (wordS C 0 s) (fun e=>HO.out (E72.out.trans e))).mono ?_
         rintro e w73 (⟨x73,t73,v73,u73,hm,rfl,hrep,rd,fr⟩|⟨c,x,hm,rfl,hb⟩)
         rotate_left
         ·go_wp2_with fail
          exact ⟨rfl,rq_bad (E72.out.trans hm) (F49.out.bel.trans hb)⟩
         obtain rfl:u73 = .int .i64 (x73:Nat):=hrep
         have E73:=Lib.hid (E72.out.trans hm)
         have R73:=Lib.hid rd
         have F73:=Lib.hid (F49.out.trans fr)
         clear hm rd fr E72 R49 F49
         go_wp2_with fail
         go_ret
         exact rq_ok E73.out rfl R73.out F73.out
        ·have n71:((wordS C 0 s).toList == [115,111,109,101])=false:=str_no hs71
         have m71:((wordS C 0 s).toList != [115,111,109,101])=true:=str_nno hs71
         by_cases hs74:(wordS C 0 s)=(⟨#[97,115,107]⟩:ByteArray)
         ·have n74:((wordS C 0 s).toList == [97,115,107])=true:=str_yes hs74
          have m74:((wordS C 0 s).toList != [97,115,107])=false:=str_nyes hs74
          have E75:=Lib.hid (E70.out.trans (if_pos_go (.inr (.inl hs74))))
          clear E70
          clear hs74
          go_wp2_with fail
          refine (wrapped_any R49.out HV (wordS C 0 s) (fun e=>HO.out (E75.out.trans e))).mono ?_
          rintro e w76 (⟨x76,t76,v76,u76,hm,rfl,hrep,rd,fr⟩|⟨c,x,hm,rfl,hb⟩)
          rotate_left
          ·go_wp2_with fail
           exact ⟨rfl,rq_bad (E75.out.trans hm) (F49.out.bel.trans hb)⟩
          obtain rfl:u76 = .int .i64 (x76:Nat):=hrep
          have E76:=Lib.hid (E75.out.trans hm)
          have R76:=Lib.hid rd
          have F76:=Lib.hid (F49.out.trans fr)
          clear hm rd fr E75 R49 F49
          go_wp2_with fail
          go_ret
          exact rq_ok E76.out rfl R76.out F76.out
         ·have n74:((wordS C 0 s).toList == [97,115,107])=false:=str_no hs74
          have m74:((wordS C 0 s).toList != [97,115,107])=true:=str_nno hs74
          by_cases hs77:(wordS C 0 s)=(⟨#[116,111,105,110,116]⟩:ByteArray)
          ·have n77:((wordS C 0 s).toList == [116,111,105,110,116])=true:=str_yes hs77
           have m77:((wordS C 0 s).toList != [116,111,105,110,116])=false:=str_nyes hs77
           have E78:=Lib.hid (E70.out.trans (if_pos_go (.inr (.inr (.inl hs77)))))
           clear E70
           clear hs77
           go_wp2_with fail
           refine (wrapped_any R49.out HV (wordS C 0 s) (fun e=>HO.out (E78.out.trans e))).mono ?_
           rintro e w79 (⟨x79,t79,v79,u79,hm,rfl,hrep,rd,fr⟩|⟨c,x,hm,rfl,hb⟩)
           rotate_left
           ·go_wp2_with fail
            exact ⟨rfl,rq_bad (E78.out.trans hm) (F49.out.bel.trans hb)⟩
           obtain rfl:u79 = .int .i64 (x79:Nat):=hrep
           have E79:=Lib.hid (E78.out.trans hm)
           have R79:=Lib.hid rd
           have F79:=Lib.hid (F49.out.trans fr)
           clear hm rd fr E78 R49 F49
           go_wp2_with fail
           go_ret
           exact rq_ok E79.out rfl R79.out F79.out
          ·have n77:((wordS C 0 s).toList == [116,111,105,110,116])=false:=str_no hs77
           have m77:((wordS C 0 s).toList != [116,111,105,110,116])=true:=str_nno hs77
           by_cases hs80:(wordS C 0 s)=(⟨#[116,111,100,111,117,98,108,101]⟩:ByteArray)
           ·have n80:((wordS C 0 s).toList == [116,111,100,111,117,98,108,101])=true:=str_yes hs80
            have m80:((wordS C 0 s).toList != [116,111,100,111,117,98,108,101])=false:=str_nyes hs80
            have E81:=Lib.hid (E70.out.trans (if_pos_go (.inr (.inr (.inr hs80)))))
            clear E70
            clear hs80
            go_wp2_with fail
            refine (wrapped_any R49.out HV (wordS C 0 s) (fun e=>HO.out (E81.out.trans e))).mono ?_
            rintro e w82 (⟨x82,t82,v82,u82,hm,rfl,hrep,rd,fr⟩|⟨c,x,hm,rfl,hb⟩)
            rotate_left
            ·go_wp2_with fail
             exact ⟨rfl,rq_bad (E81.out.trans hm) (F49.out.bel.trans hb)⟩
            obtain rfl:u82 = .int .i64 (x82:Nat):=hrep
            have E82:=Lib.hid (E81.out.trans hm)
            have R82:=Lib.hid rd
            have F82:=Lib.hid (F49.out.trans fr)
            clear hm rd fr E81 R49 F49
            go_wp2_with fail
            go_ret
            exact rq_ok E82.out rfl R82.out F82.out
           ·have n80:((wordS C 0 s).toList == [116,111,100,111,117,98,108,101])=false:=str_no hs80
            have m80:((wordS C 0 s).toList != [116,111,100,111,117,98,108,101])=true:=str_nno hs80
            have E83:=Lib.hid (E70.out.trans (if_neg_go (fun e=>by rcases e with e|e|e|e<;>contradiction)))
            clear E70
            by_cases hs84:(wordS C 0 s)=(⟨#[105,110,112,117,116]⟩:ByteArray)
            ·have n84:((wordS C 0 s).toList == [105,110,112,117,116])=true:=str_yes hs84
             have m84:((wordS C 0 s).toList != [105,110,112,117,116])=false:=str_nyes hs84
             have E85:=Lib.hid (E83.out.trans (if_pos_go hs84))
             clear E83
             clear hs84
             go_wp2_with fail
             refine (input_any R49.out (fun e=>HO.out (E85.out.trans e))).mono ?_
             rintro e w86 (⟨x86,t86,v86,u86,hm,rfl,hrep,rd,fr⟩|⟨c,x,hm,rfl,hb⟩)
             rotate_left
             ·go_wp2_with fail
              exact ⟨rfl,rq_bad (E85.out.trans hm) (F49.out.bel.trans hb)⟩
             obtain rfl:u86 = .int .i64 (x86:Nat):=hrep
             have E86:=Lib.hid (E85.out.trans hm)
             have R86:=Lib.hid rd
             have F86:=Lib.hid (F49.out.trans fr)
             clear hm rd fr E85 R49 F49
             go_wp2_with fail
             go_ret
             exact rq_ok E86.out rfl R86.out F86.out
            ·have n84:((wordS C 0 s).toList == [105,110,112,117,116])=false:=str_no hs84
             have m84:((wordS C 0 s).toList != [105,110,112,117,116])=true:=str_nno hs84
             have E87:=Lib.hid (E83.out.trans (if_neg_go hs84))
             clear E83
             by_cases hs88:(wordS C 0 s)=(⟨#[99,97,115,116]⟩:ByteArray)
             ·have n88:((wordS C 0 s).toList == [99,97,115,116])=true:=str_yes hs88
              have m88:((wordS C 0 s).toList != [99,97,115,116])=false:=str_nyes hs88
              have E89:=Lib.hid (E87.out.trans (if_pos_go hs88))
              clear E87
              clear hs88
              go_wp2_with fail
              refine (HCA _ _ _ R49.out (fun e=>HO.out (E89.out.trans e))).mono ?_
              rintro e w90 (⟨x90,t90,v90,u90,hm,rfl,hrep,rd,fr⟩|⟨c,x,hm,rfl,hb⟩)
              rotate_left
              ·go_wp2_with fail
               exact ⟨rfl,rq_bad (E89.out.trans hm) (F49.out.bel.trans hb)⟩
              obtain rfl:u90 = .int .i64 (x90:Nat):=hrep
              have E90:=Lib.hid (E89.out.trans hm)
              have R90:=Lib.hid rd
              have F90:=Lib.hid (F49.out.trans fr)
              clear hm rd fr E89 R49 F49
              go_wp2_with fail
              go_ret
              exact rq_ok E90.out rfl R90.out F90.out
             ·have n88:((wordS C 0 s).toList == [99,97,115,116])=false:=str_no hs88
              have m88:((wordS C 0 s).toList != [99,97,115,116])=true:=str_nno hs88
              have E91:=Lib.hid (E87.out.trans (if_neg_go hs88))
              clear E87
              by_cases hs92:(wordS C 0 s)=(⟨#[110,101,119]⟩:ByteArray)
              ·have n92:((wordS C 0 s).toList == [110,101,119])=true:=str_yes hs92
               have m92:((wordS C 0 s).toList != [110,101,119])=false:=str_nyes hs92
               have E93:=Lib.hid (E91.out.trans (if_pos_go hs92))
               clear E91
               clear hs92
               go_wp2_with fail
               refine (HAN _ _ _ R49.out (fun e=>HO.out (E93.out.trans e))).mono ?_
               rintro e w94 (⟨x94,t94,v94,u94,hm,rfl,hrep,rd,fr⟩|⟨c,x,hm,rfl,hb⟩)
               rotate_left
               ·go_wp2_with fail
                exact ⟨rfl,rq_bad (E93.out.trans hm) (F49.out.bel.trans hb)⟩
               obtain rfl:u94 = .int .i64 (x94:Nat):=hrep
               have E94:=Lib.hid (E93.out.trans hm)
               have R94:=Lib.hid rd
               have F94:=Lib.hid (F49.out.trans fr)
               clear hm rd fr E93 R49 F49
               go_wp2_with fail
               go_ret
               exact rq_ok E94.out rfl R94.out F94.out
              ·have n92:((wordS C 0 s).toList == [110,101,119])=false:=str_no hs92
               have m92:((wordS C 0 s).toList != [110,101,119])=true:=str_nno hs92
               have E95:=Lib.hid (E91.out.trans (if_neg_go hs92))
               clear E91
               go_wp2_with fail
               refine (from_any' R49.out).mono ?_
               rintro e w96 ⟨rfl,hb⟩
               have R96:=Lib.hid (R49.out.step hb)
               have F96:=Lib.hid (F49.out.below hb R49.out.hB)
               clear hb R49 F49
               have E97:=Lib.hid (E95.out.trans look_go)
               clear E95
               go_wp2_with fail
               refine (name_any R96.out hK (fun e=>HO.out (E97.out.trans (bnd_out e)))).mono ?_
               rintro e w98 (⟨x98,t98,v98,u98,hm,rfl,hrep,rd,fr⟩|⟨c,x,hm,rfl,hb⟩)
               rotate_left
               ·go_wp2_with fail
                exact ⟨rfl,rq_bad (E97.out.trans (bnd_bad hm)) (F96.out.bel.trans hb)⟩
               obtain rfl:u98 = .string x98:=hrep
               have E98:=Lib.hid (E97.out.trans (bnd_ok hm))
               have R98:=Lib.hid rd
               have F98:=Lib.hid (F96.out.trans fr)
               clear hm rd fr E97 R96 F96
               go_wp2_with fail
               refine (make_any 25 0 0 [] x98 0 ⟨#[]⟩ 0 ⟨#[]⟩ 0 0 0 [] _ _ (fromS C s) R98.out (fun e=>HO.out (E98.out.trans e)) (lst_none _ _ _) (lst_none _ _ _)).mono ?_
               rintro e w99 (⟨x99,t99,v99,u99,hm,rfl,hrep,rd,fr⟩|⟨c,x,hm,rfl,hb⟩)
               rotate_left
               ·go_wp2_with fail
                exact ⟨rfl,rq_bad (E98.out.trans hm) (F98.out.bel.trans hb)⟩
               obtain rfl:u99 = .int .i64 (x99:Nat):=hrep
               have E99:=Lib.hid (E98.out.trans hm)
               have R99:=Lib.hid rd
               have F99:=Lib.hid (F98.out.trans fr)
               clear hm rd fr E98 R98 F98
               go_wp2_with fail
               go_ret
               exact rq_ok E99.out rfl R99.out F99.out
theorem asked_any (h:Rd C dd bB b tv wv s v w) {value:PM Nat} (HV:Does C dd bB b tv wv 249 value) (HFI:Does C dd bB b tv wv 262 (firstP C value)) (HHA:∀ (of f:Nat) (s:PS) (v:RV) (w:World),Rd C dd bB b tv wv s v w->hadP C value of f s ≠ .out->Calls Tryz.prog 263 #[.pointer (some ⟨b,0,none⟩),.int .i64 (of:Nat),.int .i64 (f:Nat)] w (RQ C dd bB b tv wv v w repN (hadP C value of f s))) (ho:askedP C value s ≠ .out):Calls Tryz.prog 261 #[.pointer (some ⟨b,0,none⟩)] w (RQ C dd bB b tv wv v w repN (askedP C value s)):=by
 have HR0:=Lib.hid h
 have R0:=Lib.hid h
 have F0:=Lib.hid (Fr.refl bB b v w)
 have HO:=Lib.hid ho
 have E0:=Lib.hid (congrFun (askedP.eq_1 C value) s)
 clear h ho
 go_enter Tryz.func261,Tryz.ntmps261
 go_wp2_with fail
 refine (from_any' R0.out).mono ?_
 rintro e w100 ⟨rfl,hb⟩
 have R100:=Lib.hid (R0.out.step hb)
 have F100:=Lib.hid (F0.out.below hb R0.out.hB)
 clear hb R0 F0
 have E101:=Lib.hid (E0.out.trans look_go)
 clear E0
 go_wp2_with fail
 refine (HFI _ _ _ R100.out (fun e=>HO.out (E101.out.trans (bnd_out e)))).mono ?_
 rintro e w102 (⟨x102,t102,v102,u102,hm,rfl,hrep,rd,fr⟩|⟨c,x,hm,rfl,hb⟩)
 rotate_left
 ·go_wp2_with fail
  exact ⟨rfl,rq_bad (E101.out.trans (bnd_bad hm)) (F100.out.bel.trans hb)⟩
 obtain rfl:u102 = .int .i64 (x102:Nat):=hrep
 have E102:=Lib.hid (E101.out.trans (bnd_ok hm))
 have R102:=Lib.hid rd
 have F102:=Lib.hid (F100.out.trans fr)
 clear hm rd fr E101 R100 F100
 go_wp2_with fail
 go_loopg [4] C.toks.length (fun k nn wr=>∃ (m:Nat) (t:PS) (vv:RV),nn = .int .i64 (m:Nat)/\askedP C value s=askL C value (fromS C s) k m t/\Rd C dd bB b tv wv t vv wr/\Fr bB b v w vv wr)
 case atStart=>exact ⟨x102,_,_,rfl,E102.out,R102.out,F102.out⟩
 case round =>
  clear E102 R102 F102
  obtain ⟨m,t,vv,rfl,he,hr,hf⟩:=hrel
  cases gk with
  | zero=>exact (HO.out (he.trans rfl)).elim
  | succ gk =>
   have E0:=Lib.hid (he.trans (congrFun (askL.eq_2 C value (fromS C s) m gk) t))
   have R0:=Lib.hid hr
   have F0:=Lib.hid hf
   clear he hr hf
   go_wp2_with fail
   refine (take_any R0.out _ (fun e=>HO.out (E0.out.trans (bnd_out e)))).mono ?_
   rintro e w103 (⟨x103,t103,v103,u103,hm,rfl,hrep,rd,fr⟩|⟨c,x,hm,rfl,hb⟩)
   rotate_left
   ·go_wp2_with fail
    exact ⟨rfl,rq_bad (E0.out.trans (bnd_bad hm)) (F0.out.bel.trans hb)⟩
   obtain rfl:u103 = .bool x103:=hrep
   have E103:=Lib.hid (E0.out.trans (bnd_ok hm))
   have R103:=Lib.hid rd
   have F103:=Lib.hid (F0.out.trans fr)
   clear hm rd fr E0 R0 F0
   cases x103
   ·have E104:=Lib.hid (E103.out.trans (if_neg_go (by decide)))
    clear E103
    go_wp2_with fail
    refine (take_any R103.out _ (fun e=>HO.out (E104.out.trans (bnd_out e)))).mono ?_
    rintro e w105 (⟨x105,t105,v105,u105,hm,rfl,hrep,rd,fr⟩|⟨c,x,hm,rfl,hb⟩)
    rotate_left
    ·go_wp2_with fail
     exact ⟨rfl,rq_bad (E104.out.trans (bnd_bad hm)) (F103.out.bel.trans hb)⟩
    obtain rfl:u105 = .bool x105:=hrep
    have E105:=Lib.hid (E104.out.trans (bnd_ok hm))
    have R105:=Lib.hid rd
    have F105:=Lib.hid (F103.out.trans fr)
    clear hm rd fr E104 R103 F103
    cases x105
    ·have E106:=Lib.hid (E105.out.trans (if_neg_go (by decide)))
     clear E105
     go_wp2_with fail
     refine (take_any R105.out _ (fun e=>HO.out (E106.out.trans (bnd_out e)))).mono ?_
     rintro e w107 (⟨x107,t107,v107,u107,hm,rfl,hrep,rd,fr⟩|⟨c,x,hm,rfl,hb⟩)
     rotate_left
     ·go_wp2_with fail
      exact ⟨rfl,rq_bad (E106.out.trans (bnd_bad hm)) (F105.out.bel.trans hb)⟩
     obtain rfl:u107 = .bool x107:=hrep
     have E107:=Lib.hid (E106.out.trans (bnd_ok hm))
     have R107:=Lib.hid rd
     have F107:=Lib.hid (F105.out.trans fr)
     clear hm rd fr E106 R105 F105
     cases x107
     ·have E108:=Lib.hid (E107.out.trans (if_neg_go (by decide)))
      clear E107
      go_wp2_with fail
      go_ret
      exact rq_ok (E108.out.trans ret_go) rfl R107.out F107.out
     ·have E109:=Lib.hid (E107.out.trans (if_pos_go rfl))
      clear E107
      go_wp2_with fail
      refine (HHA _ _ _ _ _ R107.out (fun e=>HO.out (E109.out.trans (bnd_out e)))).mono ?_
      rintro e w110 (⟨x110,t110,v110,u110,hm,rfl,hrep,rd,fr⟩|⟨c,x,hm,rfl,hb⟩)
      rotate_left
      ·go_wp2_with fail
       exact ⟨rfl,rq_bad (E109.out.trans (bnd_bad hm)) (F107.out.bel.trans hb)⟩
      obtain rfl:u110 = .int .i64 (x110:Nat):=hrep
      have E110:=Lib.hid (E109.out.trans (bnd_ok hm))
      have R110:=Lib.hid rd
      have F110:=Lib.hid (F107.out.trans fr)
      clear hm rd fr E109 R107 F107
      go_wp2_with fail
      go_roundg gk
      case measure=>omega
      case rel=>exact ⟨x110,_,_,rfl,E110.out,R110.out,F110.out⟩
    ·have E111:=Lib.hid (E105.out.trans (if_pos_go rfl))
     clear E105
     go_wp2_with fail
     refine (HV _ _ _ R105.out (fun e=>HO.out (E111.out.trans (bnd_out e)))).mono ?_
     rintro e w112 (⟨x112,t112,v112,u112,hm,rfl,hrep,rd,fr⟩|⟨c,x,hm,rfl,hb⟩)
     rotate_left
     ·go_wp2_with fail
      exact ⟨rfl,rq_bad (E111.out.trans (bnd_bad hm)) (F105.out.bel.trans hb)⟩
     obtain rfl:u112 = .int .i64 (x112:Nat):=hrep
     have E112:=Lib.hid (E111.out.trans (bnd_ok hm))
     have R112:=Lib.hid rd
     have F112:=Lib.hid (F105.out.trans fr)
     clear hm rd fr E111 R105 F105
     have hal:Below w112.heap.size w112 (w112.alloc (.cells #[.int .i64 (m:Int),.int .i64 (x112:Int)] 3)):=(Below.refl _ _).alloc (Nat.le_refl _) _
     have K113:=Lib.hid (lst_two R112.out (m:Int) (x112:Int))
     have R113:=Lib.hid (R112.out.step hal)
     have F113:=Lib.hid (F112.out.below hal R112.out.hB)
     clear hal R112 F112
     go_wp2_with fail
     refine (want_any R113.out _ (fun e=>HO.out (E112.out.trans (bnd_out e)))).mono ?_
     rintro e w114 (⟨x114,t114,v114,u114,hm,rfl,hrep,rd,fr⟩|⟨c,x,hm,rfl,hb⟩)
     rotate_left
     ·go_wp2_with fail
      exact ⟨rfl,rq_bad (E112.out.trans (bnd_bad hm)) (F113.out.bel.trans hb)⟩
     obtain rfl:u114 = .tuple #[]:=hrep
     have E114:=Lib.hid (E112.out.trans (bnd_ok hm))
     have R114:=Lib.hid rd
     have F114:=Lib.hid (F113.out.trans fr)
     have K115:=Lib.hid (K113.out.step fr)
     clear K113
     clear hm rd fr E112 R113 F113
     go_wp2_with fail
     refine (make_any 27 0 0 [(m:Int),(x112:Int)] ⟨#[]⟩ 0 ⟨#[]⟩ 0 ⟨#[]⟩ 0 0 0 [] _ _ (fromS C s) R114.out (fun e=>HO.out (E114.out.trans (bnd_out e))) K115.out (lst_none _ _ _)).mono ?_
     rintro e w116 (⟨x116,t116,v116,u116,hm,rfl,hrep,rd,fr⟩|⟨c,x,hm,rfl,hb⟩)
     rotate_left
     ·go_wp2_with fail
      exact ⟨rfl,rq_bad (E114.out.trans (bnd_bad hm)) (F114.out.bel.trans hb)⟩
     obtain rfl:u116 = .int .i64 (x116:Nat):=hrep
     have E116:=Lib.hid (E114.out.trans (bnd_ok hm))
     have R116:=Lib.hid rd
     have F116:=Lib.hid (F114.out.trans fr)
     have K117:=Lib.hid (K115.out.step fr)
     clear K115
     clear hm rd fr E114 R114 F114
     go_wp2_with fail
     go_roundg gk
     case measure=>omega
     case rel=>exact ⟨x116,_,_,rfl,E116.out,R116.out,F116.out⟩
   ·have E118:=Lib.hid (E103.out.trans (if_pos_go rfl))
    clear E103
    have hal:Below w103.heap.size w103 (w103.alloc (.cells #[.int .i64 (m:Int)] 3)):=(Below.refl _ _).alloc (Nat.le_refl _) _
    have K119:=Lib.hid (lst_one R103.out (m:Int))
    have R119:=Lib.hid (R103.out.step hal)
    have F119:=Lib.hid (F103.out.below hal R103.out.hB)
    clear hal R103 F103
    go_wp2_with fail
    refine (make_any 40 0 0 [(m:Int)] ⟨#[]⟩ 0 ⟨#[]⟩ 0 ⟨#[]⟩ 0 0 0 [] _ _ (fromS C s) R119.out (fun e=>HO.out (E118.out.trans (bnd_out e))) K119.out (lst_none _ _ _)).mono ?_
    rintro e w120 (⟨x120,t120,v120,u120,hm,rfl,hrep,rd,fr⟩|⟨c,x,hm,rfl,hb⟩)
    rotate_left
    ·go_wp2_with fail
     exact ⟨rfl,rq_bad (E118.out.trans (bnd_bad hm)) (F119.out.bel.trans hb)⟩
    obtain rfl:u120 = .int .i64 (x120:Nat):=hrep
    have E120:=Lib.hid (E118.out.trans (bnd_ok hm))
    have R120:=Lib.hid rd
    have F120:=Lib.hid (F119.out.trans fr)
    have K121:=Lib.hid (K119.out.step fr)
    clear K119
    clear hm rd fr E118 R119 F119
    go_wp2_with fail
    go_roundg gk
    case measure=>omega
    case rel=>exact ⟨x120,_,_,rfl,E120.out,R120.out,F120.out⟩
end
end Go.Proofs.YtfehpdliobapfaaGreatDoor
namespace Go.Proofs.YtfehpdliobapfaaGreatDoor
open Go Go.RowKit
section
variable {C:PC} {dd d0 bB b:Nat} {tv wv:Value} {s s0 t:PS} {v v0 v1:RV} {w w0 w1 w':World} {u:Value} {l:List Int} {k kn kr:Nat} {cs cn cr:List Value}
theorem read_next {x:ByteArray} (h:readP C s = .ok x t):0<t.next:=by
 rw [read_eq] at h
 split at h
 ·split at h
  ·cases h;exact Nat.succ_pos _
  ·cases h
 ·cases h
theorem name_next {x:ByteArray} (h:nameP C s = .ok x t):0<t.next:=by
 replace h:(if C.name (wordS C 0 s)=true then readP C else look (fromS C) fun f=>thr 80 f) s = .ok x t:=h
 by_cases hc:C.name (wordS C 0 s)=true
 ·rw [if_pos_go hc] at h;exact read_next h
 ·rw [if_neg_go hc] at h;cases h
theorem take_next {x:ByteArray} (h:takeP C x s = .ok true t):0<t.next:=by
 replace h:(if sees C x s=true then bnd (readP C) fun _=>ret true else ret false) s = .ok true t:=h
 by_cases hc:sees C x s=true
 ·rw [if_pos_go hc] at h
  unfold bnd at h
  cases hr:readP C s with
  | ok a t'=>rw [hr] at h;cases h;exact read_next hr
  | bad c t'=>rw [hr] at h;cases h
  | out=>rw [hr] at h;cases h
 ·rw [if_neg_go hc] at h;cases h
theorem want_next {x:ByteArray} {a:Unit} (h:wantP C x s = .ok a t):0<t.next:=by
 unfold wantP at h
 cases hr:takeP C x s with
 | ok b t' =>
  rw [bnd_ok hr] at h
  cases b
  ·rw [if_neg_go (by decide)] at h;cases h
  ·rw [if_pos_go rfl] at h;cases h;exact take_next hr
 | bad c t'=>rw [bnd_bad hr] at h;cases h
 | out=>rw [bnd_out hr] at h;cases h
theorem size_setCells (k:Nat):∀ (vs:List Value) (o:Nat) (w:World),(w.setCells k o vs).heap.size=w.heap.size
 | [],o,w=>rfl
 | x :: vs,o,w=>by
  show ((w.setCell ⟨k,o,none⟩ x).setCells k (o+1) vs).heap.size=_
  rw [size_setCells k vs (o+1)];simp
theorem box_sets (R0:Rd C d0 bB b tv wv s0 v0 w0):∀ (vs:List Value) (o:Nat) {w:World} {cs:List Value},Rd C dd bB b tv wv s v w->Fr bB b v0 w0 v w->Box w0 b v w k cs ->
  Rd C dd bB b tv wv s v (w.setCells k o vs)/\Fr bB b v0 w0 v (w.setCells k o vs)
 | [],o,w,cs,R,F,h=>⟨R,F⟩
 | x :: vs,o,w,cs,R,F,h=>by
  obtain ⟨R1,F1,B1⟩:=box_set R0 R F h o x
  exact box_sets R0 vs (o+1) R1 F1 B1
theorem Box.other (h:Box w0 b v w kr cr) (hne:kr≠kn) (j:Nat) (x:Value):Box w0 b v (w.setCell ⟨kn,j,none⟩ x) kr cr :=
 ⟨⟨by simpa using h.mine.lt,h.mine.ne,h.mine.row,h.mine.cl⟩,h.at_,h.box.other hne j x⟩
theorem ret_node (R0:Rd C d0 bB b tv wv s0 v0 w0) (R:Rd C dd bB b tv wv s v w) (F:Fr bB b v0 w0 v w) (hn:Box w0 b v w kn cn) (hr:Box w0 b v w kr cr) (hne:kr≠kn) (x:Int) (vs:List Value) :
  Rd C dd bB b tv wv s v (((w.setCell ⟨kn,12,none⟩ (.slice (some ⟨w.heap.size,0,none⟩) 1 1)).setCells kr 0 vs).alloc (.cells #[.int .i64 x] 3)) /\
  Fr bB b v0 w0 v (((w.setCell ⟨kn,12,none⟩ (.slice (some ⟨w.heap.size,0,none⟩) 1 1)).setCells kr 0 vs).alloc (.cells #[.int .i64 x] 3)) /\
  Own w0 b v (((w.setCell ⟨kn,12,none⟩ (.slice (some ⟨w.heap.size,0,none⟩) 1 1)).setCells kr 0 vs).alloc (.cells #[.int .i64 x] 3)) (.slice (some ⟨w.heap.size,0,none⟩) 1 1) [x]:=by
 obtain ⟨R1,F1,B1⟩:=box_set R0 R F hn 12 (.slice (some ⟨w.heap.size,0,none⟩) 1 1)
 obtain ⟨R2,F2⟩:=box_sets R0 vs 0 R1 F1 (hr.other hne 12 _)
 have hs:((w.setCell ⟨kn,12,none⟩ (.slice (some ⟨w.heap.size,0,none⟩) 1 1)).setCells kr 0 vs).heap.size=w.heap.size:=by rw [size_setCells];simp
 have hal:Below ((w.setCell ⟨kn,12,none⟩ (.slice (some ⟨w.heap.size,0,none⟩) 1 1)).setCells kr 0 vs).heap.size ((w.setCell ⟨kn,12,none⟩ (.slice (some ⟨w.heap.size,0,none⟩) 1 1)).setCells kr 0 vs) (((w.setCell ⟨kn,12,none⟩ (.slice (some ⟨w.heap.size,0,none⟩) 1 1)).setCells kr 0 vs).alloc (.cells #[.int .i64 x] 3)):=(Below.refl _ _).alloc (Nat.le_refl _) _
 have K:=own_one R0 R2 F2 x
 rw [hs] at K
 exact ⟨R2.step hal,F2.below hal R2.hB,K⟩
def repNd (w0:World) (b:Nat) (n:Nd) (v:RV) (w:World) (u:Value):Prop:=∃ ev,u = .agg #[.int .i64 n.kind,.int .i64 n.sf,.int .i64 n.st,.slice none 0 0,.string n.text,.int .i64 n.B,.string n.N,.int .i64 n.D,.string n.M,.int .i64 n.num,.int .i64 n.wf,.int .i64 n.wt,ev]/\n.kids=[]/\Own w0 b v w ev n.ends
end
end Go.Proofs.YtfehpdliobapfaaGreatDoor
namespace Go.Proofs.YtfehpdliobapfaaGreatDoor
open Go Go.RowKit
section
variable {C:PC} {dd bB b:Nat} {tv wv:Value} {s:PS} {v v1:RV} {w w1:World}
theorem tbase_any (h:Rd C dd bB b tv wv s v w) (hK:CK C) (b0:Nat) (ho:baseP C b0 s ≠ .out):Calls Tryz.prog 209 #[.pointer (some ⟨b,0,none⟩),.int .i64 (b0:Nat)] w (RQ C dd bB b tv wv v w (repNd w b) (baseP C b0 s)):=by
 have HR0:=Lib.hid h
 have R0:=Lib.hid h
 have F0:=Lib.hid (Fr.refl bB b v w)
 have HO:=Lib.hid ho
 have E0:=Lib.hid (congrFun (baseP.eq_1 C b0) s)
 clear h ho
 go_enter Tryz.func209,Tryz.ntmps209
 have hal:Below w.heap.size w (w.alloc (.cells #[.int .i64 0,.int .i64 0,.int .i64 0,.slice none 0 0,.string ⟨#[]⟩,.int .i64 0,.string ⟨#[]⟩,.int .i64 0,.string ⟨#[]⟩,.int .i64 0,.int .i64 0,.int .i64 0,.slice none 0 0] 61)):=(Below.refl _ _).alloc (Nat.le_refl _) _
 have B1:=Lib.hid (box_new R0.out F0.out #[.int .i64 0,.int .i64 0,.int .i64 0,.slice none 0 0,.string ⟨#[]⟩,.int .i64 0,.string ⟨#[]⟩,.int .i64 0,.string ⟨#[]⟩,.int .i64 0,.int .i64 0,.int .i64 0,.slice none 0 0])
 have R1:=Lib.hid (R0.out.step hal)
 have F1:=Lib.hid (F0.out.below hal R0.out.hB)
 clear hal R0 F0
 have hal:Below (w.alloc (.cells #[.int .i64 0,.int .i64 0,.int .i64 0,.slice none 0 0,.string ⟨#[]⟩,.int .i64 0,.string ⟨#[]⟩,.int .i64 0,.string ⟨#[]⟩,.int .i64 0,.int .i64 0,.int .i64 0,.slice none 0 0] 61)).heap.size (w.alloc (.cells #[.int .i64 0,.int .i64 0,.int .i64 0,.slice none 0 0,.string ⟨#[]⟩,.int .i64 0,.string ⟨#[]⟩,.int .i64 0,.string ⟨#[]⟩,.int .i64 0,.int .i64 0,.int .i64 0,.slice none 0 0] 61)) ((w.alloc (.cells #[.int .i64 0,.int .i64 0,.int .i64 0,.slice none 0 0,.string ⟨#[]⟩,.int .i64 0,.string ⟨#[]⟩,.int .i64 0,.string ⟨#[]⟩,.int .i64 0,.int .i64 0,.int .i64 0,.slice none 0 0] 61)).alloc (.cells #[.int .i64 0,.int .i64 0,.int .i64 0,.slice none 0 0,.string ⟨#[]⟩,.int .i64 (b0:Nat),.string ⟨#[]⟩,.int .i64 0,.string ⟨#[32]⟩,.int .i64 0,.int .i64 0,.int .i64 0,.slice none 0 0] 61)):=(Below.refl _ _).alloc (Nat.le_refl _) _
 have B2:=Lib.hid (box_new1 R1.out F1.out #[.int .i64 0,.int .i64 0,.int .i64 0,.slice none 0 0,.string ⟨#[]⟩,.int .i64 (b0:Nat),.string ⟨#[]⟩,.int .i64 0,.string ⟨#[32]⟩,.int .i64 0,.int .i64 0,.int .i64 0,.slice none 0 0])
 have B3:=Lib.hid (B1.out.step (Fr.of_below hal R1.out.hB))
 clear B1
 have R2:=Lib.hid (R1.out.step hal)
 have F2:=Lib.hid (F1.out.below hal R1.out.hB)
 clear hal R1 F1
 by_cases h5:b0=5
 ·have p5:((b0:Int) == 5)=true:=by simp;omega
  have E4:=Lib.hid (E0.out.trans (bnd_if_pos h5))
  clear E0
  clear h5
  go_wp2_with fail
  refine (name_any R2.out hK (fun e=>HO.out (E4.out.trans (bnd_out e)))).mono ?_
  rintro e w5 (⟨x5,t5,v5,u5,hm,rfl,hrep,rd,fr⟩|⟨c,x,hm,rfl,hb⟩)
  rotate_left
  ·go_wp2_with fail
   exact ⟨rfl,rq_bad (E4.out.trans (bnd_bad hm)) (F2.out.bel.trans hb)⟩
  obtain rfl:u5 = .string x5:=hrep
  have E5:=Lib.hid (E4.out.trans (bnd_ok hm))
  have R5:=Lib.hid rd
  have F5:=Lib.hid (F2.out.trans fr)
  have B6:=Lib.hid (B3.out.step fr)
  clear B3
  have B7:=Lib.hid (B2.out.step fr)
  clear B2
  have hnx:0<t5.next:=name_next hm
  clear hm rd fr E4 R2 F2
  obtain ⟨⟨a0,a1,a2,a3,a4,a5,a6,a7,a8,a9,a10,a11,a12⟩,al,af⟩:=(show BoxN w5 (w.heap.size+1) [.int .i64 0,.int .i64 0,.int .i64 0,.slice none 0 0,.string ⟨#[]⟩,.int .i64 (b0:Nat),.string ⟨#[]⟩,.int .i64 0,.string ⟨#[32]⟩,.int .i64 0,.int .i64 0,.int .i64 0,.slice none 0 0] from B7.out.box).all
  obtain ⟨rd,fr,bx⟩:=box_set HR0.out R5.out F5.out B7.out 6 (.string x5)
  have R8:=Lib.hid rd
  have F8:=Lib.hid fr
  have B8:=Lib.hid bx
  clear rd fr bx R5 F5 B7
  have B9:=Lib.hid (B6.out.other (kn:=w.heap.size+1) (by omega) 6 (.string x5))
  clear B6
  go_wp2_with fail
  clear a0 a1 a2 a3 a4 a5 a6 a7 a8 a9 a10 a11 a12 al af
  refine (end_any R8.out hnx).mono ?_
  rintro e w10 ⟨rfl,hb⟩
  have R10:=Lib.hid (R8.out.step hb)
  have F10:=Lib.hid (F8.out.below hb R8.out.hB)
  have B11:=Lib.hid (B9.out.step (Fr.of_below hb R8.out.hB))
  clear B9
  have B12:=Lib.hid (B8.out.step (Fr.of_below hb R8.out.hB))
  clear B8
  clear hb R8 F8
  have E13:=Lib.hid (E5.out.trans look_go)
  clear E5
  obtain ⟨⟨r0,r1,r2,r3,r4,r5,r6,r7,r8,r9,r10,r11,r12⟩,rl,rf⟩:=(show BoxN w10 (w.heap.size) [.int .i64 0,.int .i64 0,.int .i64 0,.slice none 0 0,.string ⟨#[]⟩,.int .i64 0,.string ⟨#[]⟩,.int .i64 0,.string ⟨#[]⟩,.int .i64 0,.int .i64 0,.int .i64 0,.slice none 0 0] from B11.out.box).all
  obtain ⟨⟨a0,a1,a2,a3,a4,a5,a6,a7,a8,a9,a10,a11,a12⟩,al,af⟩:=(show BoxN w10 (w.heap.size+1) [.int .i64 0,.int .i64 0,.int .i64 0,.slice none 0 0,.string ⟨#[]⟩,.int .i64 (b0:Nat),.string x5,.int .i64 0,.string ⟨#[32]⟩,.int .i64 0,.int .i64 0,.int .i64 0,.slice none 0 0] from B12.out.box).all
  have FIN:=Lib.hid (ret_node HR0.out R10.out F10.out B12.out B11.out (by omega) ((endS C t5:Nat):Int) [.int .i64 0,.int .i64 0,.int .i64 0,.slice none 0 0,.string ⟨#[]⟩,.int .i64 (b0:Nat),.string x5,.int .i64 0,.string ⟨#[32]⟩,.int .i64 0,.int .i64 0,.int .i64 0,.slice (some ⟨w10.heap.size,0,none⟩) 1 1])
  go_wp2_with fail
  clear a0 a1 a2 a3 a4 a5 a6 a7 a8 a9 a10 a11 a12 al af
  refine bodyPost_ret (v:=.agg #[.int .i64 0,.int .i64 0,.int .i64 0,.slice none 0 0,.string ⟨#[]⟩,.int .i64 (b0:Nat),.string x5,.int .i64 0,.string ⟨#[32]⟩,.int .i64 0,.int .i64 0,.int .i64 0,.slice (some ⟨w10.heap.size,0,none⟩) 1 1]) (by simp [results,Tryz.results209,go_sem,r0,r1,r2,r3,r4,r5,r6,r7,r8,r9,r10,r11,r12,rl]) rfl ?_
  exact rq_ok (E13.out.trans ret_go) ⟨_,rfl,rfl,FIN.out.2.2⟩ FIN.out.1 FIN.out.2.1
 ·have p5:((b0:Int) == 5)=false:=by simp;omega
  have E14:=Lib.hid (E0.out.trans (bnd_if_neg h5))
  clear E0
  have E15:=Lib.hid (E14.out.trans bnd_assoc)
  clear E14
  clear h5
  go_wp2_with fail
  refine (read_any R2.out (fun e=>HO.out (E15.out.trans (bnd_out e)))).mono ?_
  rintro e w16 (⟨x16,t16,v16,u16,hm,rfl,hrep,rd,fr⟩|⟨c,x,hm,rfl,hb⟩)
  rotate_left
  ·go_wp2_with fail
   exact ⟨rfl,rq_bad (E15.out.trans (bnd_bad hm)) (F2.out.bel.trans hb)⟩
  obtain rfl:u16 = .string x16:=hrep
  have E16:=Lib.hid (E15.out.trans (bnd_ok hm))
  have R16:=Lib.hid rd
  have F16:=Lib.hid (F2.out.trans fr)
  have B17:=Lib.hid (B3.out.step fr)
  clear B3
  have B18:=Lib.hid (B2.out.step fr)
  clear B2
  have hnx:0<t16.next:=read_next hm
  clear hm rd fr E15 R2 F2
  have E19:=Lib.hid (E16.out.trans (bnd_ok ret_go))
  clear E16
  go_wp2_with fail
  refine (end_any R16.out hnx).mono ?_
  rintro e w20 ⟨rfl,hb⟩
  have R20:=Lib.hid (R16.out.step hb)
  have F20:=Lib.hid (F16.out.below hb R16.out.hB)
  have B21:=Lib.hid (B17.out.step (Fr.of_below hb R16.out.hB))
  clear B17
  have B22:=Lib.hid (B18.out.step (Fr.of_below hb R16.out.hB))
  clear B18
  clear hb R16 F16
  have E23:=Lib.hid (E19.out.trans look_go)
  clear E19
  obtain ⟨⟨r0,r1,r2,r3,r4,r5,r6,r7,r8,r9,r10,r11,r12⟩,rl,rf⟩:=(show BoxN w20 (w.heap.size) [.int .i64 0,.int .i64 0,.int .i64 0,.slice none 0 0,.string ⟨#[]⟩,.int .i64 0,.string ⟨#[]⟩,.int .i64 0,.string ⟨#[]⟩,.int .i64 0,.int .i64 0,.int .i64 0,.slice none 0 0] from B21.out.box).all
  obtain ⟨⟨a0,a1,a2,a3,a4,a5,a6,a7,a8,a9,a10,a11,a12⟩,al,af⟩:=(show BoxN w20 (w.heap.size+1) [.int .i64 0,.int .i64 0,.int .i64 0,.slice none 0 0,.string ⟨#[]⟩,.int .i64 (b0:Nat),.string ⟨#[]⟩,.int .i64 0,.string ⟨#[32]⟩,.int .i64 0,.int .i64 0,.int .i64 0,.slice none 0 0] from B22.out.box).all
  have FIN:=Lib.hid (ret_node HR0.out R20.out F20.out B22.out B21.out (by omega) ((endS C t16:Nat):Int) [.int .i64 0,.int .i64 0,.int .i64 0,.slice none 0 0,.string ⟨#[]⟩,.int .i64 (b0:Nat),.string ⟨#[]⟩,.int .i64 0,.string ⟨#[32]⟩,.int .i64 0,.int .i64 0,.int .i64 0,.slice (some ⟨w20.heap.size,0,none⟩) 1 1])
  go_wp2_with fail
  clear a0 a1 a2 a3 a4 a5 a6 a7 a8 a9 a10 a11 a12 al af
  refine bodyPost_ret (v:=.agg #[.int .i64 0,.int .i64 0,.int .i64 0,.slice none 0 0,.string ⟨#[]⟩,.int .i64 (b0:Nat),.string ⟨#[]⟩,.int .i64 0,.string ⟨#[32]⟩,.int .i64 0,.int .i64 0,.int .i64 0,.slice (some ⟨w20.heap.size,0,none⟩) 1 1]) (by simp [results,Tryz.results209,go_sem,r0,r1,r2,r3,r4,r5,r6,r7,r8,r9,r10,r11,r12,rl]) rfl ?_
  exact rq_ok (E23.out.trans ret_go) ⟨_,rfl,rfl,FIN.out.2.2⟩ FIN.out.1 FIN.out.2.1
end
end Go.Proofs.YtfehpdliobapfaaGreatDoor
namespace Go.Proofs.YtfehpdliobapfaaGreatDoor
open Go Go.RowKit
def ndV (n:Nd) (ev:Value):List Value:=[.int .i64 n.kind,.int .i64 n.sf,.int .i64 n.st,.slice none 0 0,.string n.text,.int .i64 n.B,.string n.N,.int .i64 n.D,.string n.M,.int .i64 n.num,.int .i64 n.wf,.int .i64 n.wt,ev]
def RQB (C:PC) (dd bB b:Nat) (tv wv:Value) (v0:RV) (w0:World) (kn kr:Nat) (cr:List Value) (r:PR Nd) (e:Ending) (w':World):Prop :=
 (∃ n t v' ev,r = .ok n t/\e = .returned (.tuple #[])/\Rd C dd bB b tv wv t v' w'/\Fr bB b v0 w0 v' w'/\Box w0 b v' w' kn (ndV n ev)/\Own w0 b v' w' ev n.ends/\Box w0 b v' w' kr cr) \/
 (∃ c t,r = .bad c t/\e = .panicked [{ v:=.iface 102 (.agg #[.int .i64 (c:Nat),.int .i64 t]),recovered:=false }]/\Below bB w0 w')
section
variable {C:PC} {dd d0 bB b:Nat} {tv wv:Value} {s s0 t:PS} {v v0 v1:RV} {w w0 w1 w':World} {kn kr:Nat} {cr:List Value} {n:Nd} {ev:Value}
theorem own_append2 {u:Value} {l:List Int} (R0:Rd C d0 bB b tv wv s0 v0 w0) (R:Rd C dd bB b tv wv s v w) (F:Fr bB b v0 w0 v w) (h:Own w0 b v w u l) (x:Int) (hl:l.length<=1000000) :
  ∃ u' w',(Builtin.append_ #[57,57] 57 #[u,.slice (some ⟨w.heap.size,0,none⟩) 1 1]).run Tryz.prog (w.alloc (.cells #[.int .i64 x] 3)) = .ok u' w'/\Own w0 b v w' u' (l ++ [x])/\Rd C dd bB b tv wv s v w'/\Fr bB b v0 w0 v w'/\∀ kb cb,Box w0 b v w kb cb->Box w0 b v w' kb cb:=by
 have hal:Below w.heap.size w (w.alloc (.cells #[.int .i64 x] 3)):=(Below.refl _ _).alloc (Nat.le_refl _) _
 have R1:=R.step hal
 have F1:=F.below hal R.hB
 have h1:=h.step (Fr.of_below hal R.hB)
 have X:=Bx.new 3 w #[.int .i64 x]
 obtain ⟨i0,hi,hz0,hz1,hz2⟩:=info_parts infoInt
 have hc:∀ j y,[Value.int .i64 x][j]? = some y->(w.alloc (.cells #[.int .i64 x] 3)).cell? ((⟨w.heap.size,0,none⟩:Addr).add j)=some y:=fun j y hj=>by
  rw [add_at,Nat.zero_add,X.cell];exact hj
 have h1c:∀ y ∈ [Value.int .i64 x],y.oneCell'=true:=fun y hy=>by rw [List.mem_singleton] at hy;subst hy;rfl
 obtain ⟨u',w',hrun,r1,r2,-⟩:=run_append_own (P:=Tryz.prog) (w.alloc (.cells #[.int .i64 x] 3)) w0.heap.size 57 57 3 i0 (.int .i64 0) 1 8 Tryz.underlying57 hi hz0 hz1 hz2 rfl (by decide) u l.length (numC l) h1.1 ⟨w.heap.size,0,none⟩ 1 1 [.int .i64 x] (by simp) hc h1c (by unfold maxLen;omega) (by omega) F1.bel.size
 have hw:=append_where (P:=Tryz.prog) w0.heap.size 57 57 3 i0 (.int .i64 0) 1 8 Tryz.underlying57 hi hz0 hz1 hz2 u l.length (numC l) h1.1 ⟨w.heap.size,0,none⟩ 1 1 [.int .i64 x] (by decide) (by simp) hc h1c (by unfold maxLen;omega) (by omega) hrun
 have hm:∀ k,u.ownBlock=some k->Mine b v (w.alloc (.cells #[.int .i64 x] 3)) k/\w0.heap.size<=k:=fun k hk=>⟨h1.2 k hk,(owns_in h1.1 k hk).1⟩
 obtain ⟨R2,M2⟩:=Rd.grown R0 R1 r2 hm
 refine ⟨u',w',hrun,⟨?_,fun k hk=>?_⟩,R2,⟨⟨by rw [r2.os];exact F1.bel.os,by rw [r2.tape];exact F1.bel.tape,by rw [r2.output];exact F1.bel.output,Nat.le_trans F1.bel.size r2.size,fun k hk=>?_⟩,fun k k1 k2 k3=>?_,F1.own,F1.lists⟩,fun kb cb hbb=>?_⟩
 ·rw [show numC (l ++ [x])=numC l ++ [.int .i64 x] by simp [numC],List.length_append];exact r1
 ·rcases hw k hk with e|e
  ·exact M2 k (h1.2 k e)
  ·refine ⟨(owns_in r1 k hk).2,fun e2=>?_,fun e2=>?_,fun e2=>?_⟩
   ·have:=R1.lt;omega
   ·have:=R1.own_lt _ e2;omega
   ·have:=R1.cl_lt _ e2;omega
 ·have h0:=R0.hB
  have hs:=F1.bel.size
  rw [r2.block k (by omega) (fun e=>by have:=(hm k e.symm).2;omega)];exact F1.bel.block k hk
 ·have hs:=F1.bel.size
  rw [r2.block k (by omega) (fun e=>by have:=(hm k e.symm).2;omega)];exact F1.kept k k1 k2 k3
 ·have hb1:=hbb.box.alloc (.cells #[.int .i64 x] 3)
  refine ⟨M2 kb (hbb.mine.step (Fr.of_below hal R.hB)).1,hbb.at_,?_⟩
  unfold BoxN at hb1 ⊢
  rw [r2.block kb (lt_block hb1) (fun e=>?_)]
  ·exact hb1
  ·rcases h1.1.2 with ⟨q,-⟩|⟨g,cap,cur,q,-,hg,-⟩
   ·rw [q] at e;simp [Value.ownBlock] at e
   ·rw [q] at e
    simp [Value.ownBlock] at e
    subst e
    rw [hg] at hb1;simp at hb1
theorem step_append_run {ops:Array Oper} {o:Oper} {a:Act} {w:World} {K:Act->World->Prop} {Q:Exit->Act->World->Prop} {E:Prop}
  (hg:o.guard=none) (s x:Operand) (hop:o.op=Op.call { callee:=Callee.builtin Builtin.append,args:=#[s,x],argTypes:=#[57,57] })
  (vs vx v':Value) (w':World) (hs:a.eval s=vs) (hx:a.eval x=vx) (hrun:(Builtin.append_ #[57,57] o.type #[vs,vx]).run Tryz.prog w = .ok v' w') (hK:K (a.put o.dst v') w') :
  if Region.wanted o (yielded ops a.tmps)=true then Oper.wp Tryz.prog o a w K Q else E:=by
 have hw:Region.wanted o (yielded ops a.tmps)=true:=by simp [Region.wanted,hg]
 rw [if_pos hw]
 unfold Oper.wp
 simp [execOp,hop,resolve,invoke,builtin,hs,hx,hrun,Result.andThen]
 exact hK
theorem rqb_ok {r:PR Nd} {v':RV} (e:r = .ok n t) (hd:Rd C dd bB b tv wv t v' w') (hf:Fr bB b v0 w0 v' w') (hb:Box w0 b v' w' kn (ndV n ev)) (hk:Own w0 b v' w' ev n.ends) (hr:Box w0 b v' w' kr cr):RQB C dd bB b tv wv v0 w0 kn kr cr r (.returned (.tuple #[])) w':=.inl ⟨n,t,v',ev,e,rfl,hd,hf,hb,hk,hr⟩
theorem rqb_bad {r:PR Nd} {c:Nat} {x:Int} (e:r = .bad c x) (hb:Below bB w0 w'):RQB C dd bB b tv wv v0 w0 kn kr cr r (.panicked [{ v:=.iface 102 (.agg #[.int .i64 (c:Nat),.int .i64 x]),recovered:=false }]) w':=.inr ⟨c,x,e,rfl,hb⟩
theorem free_of {n:Nd} {d:Nat} (h:n.D=d):freeB n=freeT n.B n.M d:=by
 unfold freeB freeT;rw [h,Int.toNat_natCast]
 congr 1
 congr 1
 rw [decide_eq_decide];omega
theorem null_eq:nullP C n s=look (fromS C) (fun f=>if typeB n=false then stop else if freeB n=false then thr 81 f else bnd (wantP C (⟨#[63]⟩:ByteArray)) fun _=>ret (markT n 63)) s:=rfl
end
end Go.Proofs.YtfehpdliobapfaaGreatDoor
namespace Go.Proofs.YtfehpdliobapfaaGreatDoor
open Go Go.RowKit
section
variable {C:PC} {dd d0 bB b:Nat} {tv wv:Value} {s s0 t:PS} {v v0 v1:RV} {w w0 w1 w':World} {kn kr:Nat} {cr:List Value}
theorem nullable_any (R0:Rd C d0 bB b tv wv s0 v0 w0) (F:Fr bB b v0 w0 v w) (kind sf st:Int) (text:ByteArray) (B:Int) (N:ByteArray) (d:Nat) (M:ByteArray) (num wf wt:Int) (ends:List Int) (ev:Value) (hne:kr≠kn) (hbr:Box w0 b v w kr cr) (hbx:Box w0 b v w kn (ndV ⟨kind,sf,st,[],text,B,N,(d:Int),M,num,wf,wt,ends⟩ ev)) (hk:Own w0 b v w ev ends) (h:Rd C dd bB b tv wv s v w) (ho:nullP C ⟨kind,sf,st,[],text,B,N,(d:Int),M,num,wf,wt,ends⟩ s ≠ .out):Calls Tryz.prog 242 #[.pointer (some ⟨b,0,none⟩),.pointer (some ⟨kn,0,none⟩)] w (RQB C dd bB b tv wv v0 w0 kn kr cr (nullP C ⟨kind,sf,st,[],text,B,N,(d:Int),M,num,wf,wt,ends⟩ s)):=by
 have HR0:=Lib.hid R0
 have R1:=Lib.hid h
 have F1:=Lib.hid F
 have B1:=Lib.hid hbx
 have BR:=Lib.hid hbr
 have K1:=Lib.hid hk
 have HO:=Lib.hid ho
 have E1:=Lib.hid (null_eq (C:=C) (n:=⟨kind,sf,st,[],text,B,N,(d:Int),M,num,wf,wt,ends⟩) (s:=s))
 have E1:=Lib.hid (E1.out.trans look_go)
 clear E1
 have hty:typeB ⟨kind,sf,st,[],text,B,N,(d:Int),M,num,wf,wt,ends⟩=true:=by
  cases hq:typeB ⟨kind,sf,st,[],text,B,N,(d:Int),M,num,wf,wt,ends⟩
  ·exact (HO.out (E1.out.trans (if_pos_go hq))).elim
  ·rfl
 have htf:=type_facts hty
 simp only at htf
 have hM:M.size=d+1:=by omega
 have hd4:d<=4:=by omega
 have E2:=Lib.hid (E1.out.trans (if_neg_go (fun e=>by rw [hty] at e;cases e)))
 clear E1
 have hfr:=free_of (n:=⟨kind,sf,st,[],text,B,N,(d:Int),M,num,wf,wt,ends⟩) (d:=d) rfl
 simp only at hfr
 clear R0 F h hbx hbr hk ho htf hty
 go_enter Tryz.func242,Tryz.ntmps242
 obtain ⟨⟨a0,a1,a2,a3,a4,a5,a6,a7,a8,a9,a10,a11,a12⟩,al,af⟩:=(show BoxN w (kn) [.int .i64 kind,.int .i64 sf,.int .i64 st,.slice none 0 0,.string text,.int .i64 B,.string N,.int .i64 (d:Int),.string M,.int .i64 num,.int .i64 wf,.int .i64 wt,ev] from B1.out.box).all
 go_wp2_with fail
 clear a0 a1 a2 a3 a4 a5 a6 a7 a8 a9 a10 a11 a12 al af
 refine (free_any B N d M _ hM hd4).mono ?_
 rintro e w3 ⟨rfl,hb⟩
 have R3:=Lib.hid (R1.out.step hb)
 have F3:=Lib.hid (F1.out.below hb R1.out.hB)
 have K4:=Lib.hid (K1.out.step (Fr.of_below hb R1.out.hB))
 clear K1
 have B5:=Lib.hid (B1.out.step (Fr.of_below hb R1.out.hB))
 clear B1
 have B6:=Lib.hid (BR.out.step (Fr.of_below hb R1.out.hB))
 clear BR
 clear hb R1 F1
 cases hc:freeT B M d
 ·have E7:=Lib.hid (E2.out.trans (if_pos_go (hfr.trans hc)))
  clear E2
  go_wp2_with fail
  refine (from_any' R3.out).mono ?_
  rintro e w8 ⟨rfl,hb⟩
  have R8:=Lib.hid (R3.out.step hb)
  have F8:=Lib.hid (F3.out.below hb R3.out.hB)
  have K9:=Lib.hid (K4.out.step (Fr.of_below hb R3.out.hB))
  clear K4
  have B10:=Lib.hid (B5.out.step (Fr.of_below hb R3.out.hB))
  clear B5
  have B11:=Lib.hid (B6.out.step (Fr.of_below hb R3.out.hB))
  clear B6
  clear hb R3 F3
  go_wp2_with fail
  refine (fail_any 81 _ _).mono ?_
  rintro e w12 ⟨rfl,rfl⟩
  go_wp2_with fail
  exact ⟨rfl,rqb_bad (E7.out.trans thr_go) F8.out.bel⟩
 ·have E13:=Lib.hid (E2.out.trans (if_neg_go (fun e=>by rw [hfr,hc] at e;cases e)))
  clear E2
  go_wp2_with fail
  refine (want_any R3.out _ (fun e=>HO.out (E13.out.trans (bnd_out e)))).mono ?_
  rintro e w14 (⟨x14,t14,v14,u14,hm,rfl,hrep,rd,fr⟩|⟨c,x,hm,rfl,hb⟩)
  rotate_left
  ·go_wp2_with fail
   exact ⟨rfl,rqb_bad (E13.out.trans (bnd_bad hm)) (F3.out.bel.trans hb)⟩
  obtain rfl:u14 = .tuple #[]:=hrep
  have E14:=Lib.hid (E13.out.trans (bnd_ok hm))
  have R14:=Lib.hid rd
  have F14:=Lib.hid (F3.out.trans fr)
  have K15:=Lib.hid (K4.out.step fr)
  clear K4
  have B16:=Lib.hid (B5.out.step fr)
  clear B5
  have B17:=Lib.hid (B6.out.step fr)
  clear B6
  clear hm rd fr E13 R3 F3
  obtain ⟨⟨a0,a1,a2,a3,a4,a5,a6,a7,a8,a9,a10,a11,a12⟩,al,af⟩:=(show BoxN w14 (kn) [.int .i64 kind,.int .i64 sf,.int .i64 st,.slice none 0 0,.string text,.int .i64 B,.string N,.int .i64 (d:Int),.string M,.int .i64 num,.int .i64 wf,.int .i64 wt,ev] from B16.out.box).all
  go_wp2_with fail
  clear a0 a1 a2 a3 a4 a5 a6 a7 a8 a9 a10 a11 a12 al af
  refine (marked_any' B N d M ⟨#[63]⟩ _ hM hd4 rfl).mono ?_
  rintro e w18 ⟨rfl,hb⟩
  have R18:=Lib.hid (R14.out.step hb)
  have F18:=Lib.hid (F14.out.below hb R14.out.hB)
  have K19:=Lib.hid (K15.out.step (Fr.of_below hb R14.out.hB))
  clear K15
  have B20:=Lib.hid (B16.out.step (Fr.of_below hb R14.out.hB))
  clear B16
  have B21:=Lib.hid (B17.out.step (Fr.of_below hb R14.out.hB))
  clear B17
  clear hb R14 F14
  obtain ⟨⟨a0,a1,a2,a3,a4,a5,a6,a7,a8,a9,a10,a11,a12⟩,al,af⟩:=(show BoxN w18 (kn) [.int .i64 kind,.int .i64 sf,.int .i64 st,.slice none 0 0,.string text,.int .i64 B,.string N,.int .i64 (d:Int),.string M,.int .i64 num,.int .i64 wf,.int .i64 wt,ev] from B20.out.box).all
  obtain ⟨rd,fr,bx⟩:=box_set HR0.out R18.out F18.out B20.out 5 (.int .i64 B)
  have K23:=Lib.hid (K19.out.set B20.out 5 (.int .i64 B))
  clear K19
  have R22:=Lib.hid rd
  have F22:=Lib.hid fr
  have B22:=Lib.hid bx
  clear rd fr bx R18 F18 B20
  have B24:=Lib.hid (B21.out.other (kn:=kn) (by omega) 5 (.int .i64 B))
  clear B21
  obtain ⟨rd,fr,bx⟩:=box_set HR0.out R22.out F22.out B22.out 6 (.string N)
  have K26:=Lib.hid (K23.out.set B22.out 6 (.string N))
  clear K23
  have R25:=Lib.hid rd
  have F25:=Lib.hid fr
  have B25:=Lib.hid bx
  clear rd fr bx R22 F22 B22
  have B27:=Lib.hid (B24.out.other (kn:=kn) (by omega) 6 (.string N))
  clear B24
  obtain ⟨rd,fr,bx⟩:=box_set HR0.out R25.out F25.out B25.out 7 (.int .i64 (d:Int))
  have K29:=Lib.hid (K26.out.set B25.out 7 (.int .i64 (d:Int)))
  clear K26
  have R28:=Lib.hid rd
  have F28:=Lib.hid fr
  have B28:=Lib.hid bx
  clear rd fr bx R25 F25 B25
  have B30:=Lib.hid (B27.out.other (kn:=kn) (by omega) 7 (.int .i64 (d:Int)))
  clear B27
  obtain ⟨rd,fr,bx⟩:=box_set HR0.out R28.out F28.out B28.out 8 (.string (M.extract 0 d ++ ⟨#[63]⟩))
  have K32:=Lib.hid (K29.out.set B28.out 8 (.string (M.extract 0 d ++ ⟨#[63]⟩)))
  clear K29
  have R31:=Lib.hid rd
  have F31:=Lib.hid fr
  have B31:=Lib.hid bx
  clear rd fr bx R28 F28 B28
  have B33:=Lib.hid (B30.out.other (kn:=kn) (by omega) 8 (.string (M.extract 0 d ++ ⟨#[63]⟩)))
  clear B30
  go_wp2_with fail
  clear a0 a1 a2 a3 a4 a5 a6 a7 a8 a9 a10 a11 a12 al af
  first|go_end0|refine bodyPost_ret (results_none rfl _ _ _) rfl ?_
  exact rqb_ok (ev:=ev) (E14.out.trans ret_go) R31.out F31.out B31.out K32.out B33.out
theorem array_eq {n:Nd}:arrayP C n s=look (fromS C) (fun f=>bnd (wantP C (⟨#[91]⟩:ByteArray)) fun _=>bnd (wantP C (⟨#[93]⟩:ByteArray)) fun _=>if typeB n=false then stop else if n.D=4 then thr 2 f else look (endS C) fun e=>ret { n with D:=n.D+1,M:=n.M ++ ⟨#[32]⟩,ends:=n.ends ++ [(e:Int)] }) s:=rfl
theorem array_any (R0:Rd C d0 bB b tv wv s0 v0 w0) (F:Fr bB b v0 w0 v w) (kind sf st:Int) (text:ByteArray) (B:Int) (N:ByteArray) (d:Nat) (M:ByteArray) (num wf wt:Int) (ends:List Int) (ev:Value) (hne:kr≠kn) (hbr:Box w0 b v w kr cr) (hbx:Box w0 b v w kn (ndV ⟨kind,sf,st,[],text,B,N,(d:Int),M,num,wf,wt,ends⟩ ev)) (hk:Own w0 b v w ev ends) (h:Rd C dd bB b tv wv s v w) (ho:arrayP C ⟨kind,sf,st,[],text,B,N,(d:Int),M,num,wf,wt,ends⟩ s ≠ .out):Calls Tryz.prog 243 #[.pointer (some ⟨b,0,none⟩),.pointer (some ⟨kn,0,none⟩)] w (RQB C dd bB b tv wv v0 w0 kn kr cr (arrayP C ⟨kind,sf,st,[],text,B,N,(d:Int),M,num,wf,wt,ends⟩ s)):=by
  obtain ⟨us,uc,hu⟩:=owns_shape hk.1
  subst hu
  have HR0:=Lib.hid R0
  have R1:=Lib.hid h
  have F1:=Lib.hid F
  have B1:=Lib.hid hbx
  have BR:=Lib.hid hbr
  have K1:=Lib.hid hk
  have HO:=Lib.hid ho
  have E1:=Lib.hid (array_eq (C:=C) (n:=⟨kind,sf,st,[],text,B,N,(d:Int),M,num,wf,wt,ends⟩) (s:=s))
  clear R0 F h hbx hbr hk ho
  go_enter Tryz.func243,Tryz.ntmps243
  go_wp2_with fail
  refine (from_any' R1.out).mono ?_
  rintro e w34 ⟨rfl,hb⟩
  have R34:=Lib.hid (R1.out.step hb)
  have F34:=Lib.hid (F1.out.below hb R1.out.hB)
  have K35:=Lib.hid (K1.out.step (Fr.of_below hb R1.out.hB))
  clear K1
  have B36:=Lib.hid (B1.out.step (Fr.of_below hb R1.out.hB))
  clear B1
  have B37:=Lib.hid (BR.out.step (Fr.of_below hb R1.out.hB))
  clear BR
  clear hb R1 F1
  have E38:=Lib.hid (E1.out.trans look_go)
  clear E1
  go_wp2_with fail
  refine (want_any R34.out _ (fun e=>HO.out (E38.out.trans (bnd_out e)))).mono ?_
  rintro e w39 (⟨x39,t39,v39,u39,hm,rfl,hrep,rd,fr⟩|⟨c,x,hm,rfl,hb⟩)
  rotate_left
  · go_wp2_with fail
    exact ⟨rfl,rqb_bad (E38.out.trans (bnd_bad hm)) (F34.out.bel.trans hb)⟩
  obtain rfl:u39 = .tuple #[]:=hrep
  have E39:=Lib.hid (E38.out.trans (bnd_ok hm))
  have R39:=Lib.hid rd
  have F39:=Lib.hid (F34.out.trans fr)
  have K40:=Lib.hid (K35.out.step fr)
  clear K35
  have B41:=Lib.hid (B36.out.step fr)
  clear B36
  have B42:=Lib.hid (B37.out.step fr)
  clear B37
  clear hm rd fr E38 R34 F34
  go_wp2_with fail
  refine (want_any R39.out _ (fun e=>HO.out (E39.out.trans (bnd_out e)))).mono ?_
  rintro e w43 (⟨x43,t43,v43,u43,hm,rfl,hrep,rd,fr⟩|⟨c,x,hm,rfl,hb⟩)
  rotate_left
  · go_wp2_with fail
    exact ⟨rfl,rqb_bad (E39.out.trans (bnd_bad hm)) (F39.out.bel.trans hb)⟩
  obtain rfl:u43 = .tuple #[]:=hrep
  have E43:=Lib.hid (E39.out.trans (bnd_ok hm))
  have R43:=Lib.hid rd
  have F43:=Lib.hid (F39.out.trans fr)
  have K44:=Lib.hid (K40.out.step fr)
  clear K40
  have B45:=Lib.hid (B41.out.step fr)
  clear B41
  have B46:=Lib.hid (B42.out.step fr)
  clear B42
  have hnx:0<t43.next:=want_next hm
  clear hm rd fr E39 R39 F39
  have hty:typeB ⟨kind,sf,st,[],text,B,N,(d:Int),M,num,wf,wt,ends⟩=true:=by
    cases hq:typeB ⟨kind,sf,st,[],text,B,N,(d:Int),M,num,wf,wt,ends⟩
    · exact (HO.out (E43.out.trans (if_pos_go hq))).elim
    · rfl
  have htf:=type_facts hty
  simp only at htf
  have hM:M.size=d+1:=by omega
  have hd4:d<=4:=by omega
  have HLE:Hid (ends.length<=5):=Lib.hid (by omega)
  have E47:=Lib.hid (E43.out.trans (if_neg_go (fun e=>by rw [hty] at e;cases e)))
  clear E43
  clear hty htf
  by_cases hd:(d:Int)=4
  · have p4:((d:Int) == 4)=true:=by simp;omega
    have E48:=Lib.hid (E47.out.trans (if_pos_go hd))
    clear E47
    clear hd
    obtain ⟨⟨a0,a1,a2,a3,a4,a5,a6,a7,a8,a9,a10,a11,a12⟩,al,af⟩:=(show BoxN w43 (kn) [.int .i64 kind,.int .i64 sf,.int .i64 st,.slice none 0 0,.string text,.int .i64 B,.string N,.int .i64 (d:Int),.string M,.int .i64 num,.int .i64 wf,.int .i64 wt,.slice us ends.length uc] from B45.out.box).all
    go_wp2_with fail
    clear a0 a1 a2 a3 a4 a5 a6 a7 a8 a9 a10 a11 a12 al af
    refine (fail_any 2 _ _).mono ?_
    rintro e w49 ⟨rfl,rfl⟩
    go_wp2_with fail
    exact ⟨rfl,rqb_bad (E48.out.trans thr_go) F43.out.bel⟩
  · have p4:((d:Int) == 4)=false:=by simp;omega
    have E50:=Lib.hid (E47.out.trans (if_neg_go hd))
    clear E47
    clear hd
    have i3:IntKind.i64.wrap ((d:Int)+1)=(d:Int)+1:=IntWalk.i64_in _ ⟨by omega,by omega⟩
    have z1:¬ 9223372036854775807<M.size+1:=by omega
    obtain ⟨⟨a0,a1,a2,a3,a4,a5,a6,a7,a8,a9,a10,a11,a12⟩,al,af⟩:=(show BoxN w43 (kn) [.int .i64 kind,.int .i64 sf,.int .i64 st,.slice none 0 0,.string text,.int .i64 B,.string N,.int .i64 (d:Int),.string M,.int .i64 num,.int .i64 wf,.int .i64 wt,.slice us ends.length uc] from B45.out.box).all
    obtain ⟨rd,fr,bx⟩:=box_set HR0.out R43.out F43.out B45.out 7 (.int .i64 ((d:Int)+1))
    have K52:=Lib.hid (K44.out.set B45.out 7 (.int .i64 ((d:Int)+1)))
    clear K44
    have R51:=Lib.hid rd
    have F51:=Lib.hid fr
    have B51:=Lib.hid bx
    clear rd fr bx R43 F43 B45
    have B53:=Lib.hid (B46.out.other (kn:=kn) (by omega) 7 (.int .i64 ((d:Int)+1)))
    clear B46
    obtain ⟨rd,fr,bx⟩:=box_set HR0.out R51.out F51.out B51.out 8 (.string (M ++ ⟨#[32]⟩))
    have K55:=Lib.hid (K52.out.set B51.out 8 (.string (M ++ ⟨#[32]⟩)))
    clear K52
    have R54:=Lib.hid rd
    have F54:=Lib.hid fr
    have B54:=Lib.hid bx
    clear rd fr bx R51 F51 B51
    have B56:=Lib.hid (B53.out.other (kn:=kn) (by omega) 8 (.string (M ++ ⟨#[32]⟩)))
    clear B53
    obtain ⟨W2,hW2⟩:∃ W2,W2=((w43.setCell ⟨kn,7,none⟩ (.int .i64 ((d:Int)+1))).setCell ⟨kn,8,none⟩ (.string (M ++ ⟨#[32]⟩))):=⟨_,rfl⟩
    rw [<- hW2] at R54 F54 B54 K55 B56
    have HW2:=Lib.hid hW2
    clear hW2
    have HE:=Lib.hid (fun (w2:World) (hb:Below W2.heap.size W2 w2)=>end_any (R54.out.step hb) hnx)
    go_wp2_with fail
    clear a0 a1 a2 a3 a4 a5 a6 a7 a8 a9 a10 a11 a12 al af
    rw [<- HW2.out]
    obtain ⟨⟨a0,a1,a2,a3,a4,a5,a6,a7,a8,a9,a10,a11,a12⟩,al,af⟩:=(show BoxN W2 (kn) [.int .i64 kind,.int .i64 sf,.int .i64 st,.slice none 0 0,.string text,.int .i64 B,.string N,.int .i64 ((d:Int)+1),.string (M ++ ⟨#[32]⟩),.int .i64 num,.int .i64 wf,.int .i64 wt,.slice us ends.length uc] from B54.out.box).all
    go_region_law (first
      | (refine step_append_run rfl (.tmp 41) (.tmp 44) rfl _ _ _ _ (by simp [Act.eval]) (by simp [Act.eval]) HAP.out ?_
         obtain ⟨⟨q0,q1,q2,q3,q4,q5,q6,q7,q8,q9,q10,q11,q12⟩,ql,qf⟩:=(show BoxN W6 kn [.int .i64 kind,.int .i64 sf,.int .i64 st,.slice none 0 0,.string text,.int .i64 B,.string N,.int .i64 ((d:Int)+1),.string (M ++ ⟨#[32]⟩),.int .i64 num,.int .i64 wf,.int .i64 wt,.slice us ends.length uc] from B6.out.box).all)
      | (go_simp
         go_at_call 188
         refine (HE.out _ ((Below.refl _ _).drew)).mono ?_
         rintro e W5 ⟨rfl,hb5⟩
         have hbd:Below W2.heap.size W2 W5:=after ((Below.refl _ _).drew) hb5
         have R5:=Lib.hid (R54.out.step hbd)
         have F5:=Lib.hid (F54.out.below hbd R54.out.hB)
         have B5:=Lib.hid (B54.out.step (Fr.of_below hbd R54.out.hB))
         have K5:=Lib.hid (K55.out.step (Fr.of_below hbd R54.out.hB))
         obtain ⟨u6,W6,hap,ow,rd,fr,hkeep⟩:=own_append2 HR0.out R5.out F5.out K5.out ((endS C t43:Nat):Int) (by have:=HLE.out;omega)
         obtain ⟨us6,uc6,hu6⟩:=owns_shape ow.1
         obtain ⟨n6,hn6⟩:∃ n6,n6=(ends ++ [((endS C t43:Nat):Int)]).length:=⟨_,rfl⟩
         rw [<- hn6] at hu6
         clear hn6
         subst hu6
         have HAP:=Lib.hid hap
         have K6:=Lib.hid ow
         have R6:=Lib.hid rd
         have F6:=Lib.hid fr
         have B6:=Lib.hid (hkeep _ _ B5.out)
         have BR6:=Lib.hid (hkeep _ _ (B56.out.step (Fr.of_below hbd R54.out.hB)))
         obtain ⟨⟨y0,y1,y2,y3,y4,y5,y6,y7,y8,y9,y10,y11,y12⟩,yl,yf⟩:=(show BoxN W5 kn [.int .i64 kind,.int .i64 sf,.int .i64 st,.slice none 0 0,.string text,.int .i64 B,.string N,.int .i64 ((d:Int)+1),.string (M ++ ⟨#[32]⟩),.int .i64 num,.int .i64 wf,.int .i64 wt,.slice us ends.length uc] from B5.out.box).all
         clear hap ow rd fr hkeep hbd hb5))
    all_goals obtain ⟨R7,F7,B7⟩:=box_set HR0.out R6.out F6.out B6.out 12 (.slice us6 n6 uc6)
    all_goals have FIN:=Lib.hid (And.intro R7 (And.intro F7 (And.intro B7 (K6.out.set B6.out 12 (.slice us6 n6 uc6)))))
    all_goals clear R7 F7 B7
    all_goals go_wp2_with fail
    all_goals first|go_end0|refine bodyPost_ret (results_none rfl _ _ _) rfl ?_
    all_goals exact rqb_ok (ev:=.slice us6 n6 uc6) ((E50.out.trans look_go).trans ret_go) FIN.out.1 FIN.out.2.1 FIN.out.2.2.1 FIN.out.2.2.2 (BR6.out.other (kn:=kn) hne 12 _)
end
end Go.Proofs.YtfehpdliobapfaaGreatDoor
