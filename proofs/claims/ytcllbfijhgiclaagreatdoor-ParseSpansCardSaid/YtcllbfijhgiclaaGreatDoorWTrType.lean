/- ParseWhole -/
import Derived.Test.YtcllbfijhgiclaaGreatDoorWTyC
set_option maxHeartbeats 2000000
set_option linter.unusedVariables false
namespace Go.Proofs.YtcllbfijhgiclaaGreatDoor
open Go Go.RowKit
theorem base2_any (B : Int) (N : ByteArray) (D : Int) (M : ByteArray) (w : World) (hN : N.size <= 300) (hB : 1 <= B /\ B <= 6) :
  Calls Tryz.prog 105 #[.agg #[.int .i64 B,.string N,.int .i64 D,.string M]] w fun e w'=>e = .returned (.string (baseS B N)) /\ Below w.heap.size w w':=by
 have hN' : N.size <= 281474976710656:=by omega
 have hB' : B = 1 \/ B = 2 \/ B = 3 \/ B = 4 \/ B = 5 \/ B = 6:=by omega
 rcases hB' with rfl | rfl | rfl | rfl | rfl | rfl
 ·go_enter Tryz.func105,Tryz.ntmps105
  go_wp2_with fail
  all_goals go_ret
  all_goals exact ⟨rfl,by repeat (first | exact Below.refl _ _ | apply Below.setCell _ (by first | omega | (simp <;> omega)) | apply Below.alloc _ (by first | omega | (simp <;> omega)))⟩
 ·go_enter Tryz.func105,Tryz.ntmps105
  go_wp2_with fail
  all_goals go_ret
  all_goals exact ⟨rfl,by repeat (first | exact Below.refl _ _ | apply Below.setCell _ (by first | omega | (simp <;> omega)) | apply Below.alloc _ (by first | omega | (simp <;> omega)))⟩
 ·go_enter Tryz.func105,Tryz.ntmps105
  go_wp2_with fail
  all_goals go_ret
  all_goals exact ⟨rfl,by repeat (first | exact Below.refl _ _ | apply Below.setCell _ (by first | omega | (simp <;> omega)) | apply Below.alloc _ (by first | omega | (simp <;> omega)))⟩
 ·go_enter Tryz.func105,Tryz.ntmps105
  go_wp2_with fail
  all_goals go_ret
  all_goals exact ⟨rfl,by repeat (first | exact Below.refl _ _ | apply Below.setCell _ (by first | omega | (simp <;> omega)) | apply Below.alloc _ (by first | omega | (simp <;> omega)))⟩
 ·go_enter Tryz.func105,Tryz.ntmps105
  go_wp2_with (go_at_call 54;refine (clone_any _ _ hN').mono ?_;rintro e w1 ⟨rfl,hb1⟩)
  all_goals go_ret
  all_goals exact ⟨rfl,by repeat (first | exact Below.refl _ _ | apply Below.setCell _ (by first | omega | (simp <;> omega)) | apply Below.alloc _ (by first | omega | (simp <;> omega)) | exact hb1 | refine after ?_ hb1)⟩
 ·go_enter Tryz.func105,Tryz.ntmps105
  go_wp2_with fail
  all_goals go_ret
  all_goals exact ⟨rfl,by repeat (first | exact Below.refl _ _ | apply Below.setCell _ (by first | omega | (simp <;> omega)) | apply Below.alloc _ (by first | omega | (simp <;> omega)))⟩
theorem typeText2_any (B : Int) (N : ByteArray) (D : Int) (M : ByteArray) (w : World) (hN : N.size <= 300) (hM : M.size <= 60) :
  Calls Tryz.prog 70 #[.agg #[.int .i64 B,.string N,.int .i64 D,.string M]] w fun e w'=>e = .returned (.string (ttS B N D M)) /\ Below w.heap.size w w':=by
 have HR:=Lib.hid (fun w=>right_any B N D M w (by unfold maxLen;omega))
 cases hr : rightB B N D M
 ·have E:=Lib.hid (show ttS B N D M = ⟨#[]⟩ by unfold ttS;rw [hr];rfl)
  rw [hr] at HR
  clear hr
  go_enter Tryz.func70,Tryz.ntmps70
  go_wp2_with (go_at_call 102;refine (HR.out _).mono ?_;rintro e w1 ⟨rfl,hb1⟩;obtain ⟨hc,hf⟩:=bcell hb1)
  all_goals go_ret
  all_goals exact ⟨by rw [E.out];rfl,by repeat (first | exact Below.refl _ _ | apply Below.setCell _ (by first | omega | (simp <;> omega)) | apply Below.alloc _ (by first | omega | (simp <;> omega)) | exact hb1 | refine after ?_ hb1)⟩
 ·have E:=Lib.hid (show ttS B N D M = typeS B N M by unfold ttS;rw [hr];rfl)
  rw [hr] at HR
  have hx : (1 <= B /\ B <= 6) /\ (B = 5 ↔ N.size ≠ 0):=by
   unfold rightB at hr
   simp only [Bool.and_eq_true,decide_eq_true_iff] at hr
   exact hr.1.1
  have HB:=Lib.hid (fun w=>base2_any B N D M w hN hx.1)
  have HS:=Lib.hid (show ∀ k,(textTo M (baseS B N) k).size <= 306 + 10 * k from fun k=>by
   have h1:=textTo_size M (baseS B N) k
   have h2:=baseS_size B N hx.2 hx.1
   omega)
  clear hr hx
  go_enter Tryz.func70,Tryz.ntmps70
  go_wp2_with (first | (go_at_call 102;refine (HR.out _).mono ?_;rintro e w1 ⟨rfl,hb1⟩;obtain ⟨hq1,hy1⟩:=box4 hb1;obtain ⟨hl1,c10,c11,c12,c13,f1⟩:=hy1) | (go_at_call 105;refine (HB.out _).mono ?_;rintro e w2 ⟨rfl,hb2⟩;obtain ⟨hl2,c20,c21,c22,c23,f2⟩:=TyAt.keep ⟨hl1,c10,c11,c12,c13,f1⟩ hb2))
  go_loopw [3,13] (fun s i wr=>∃ k : Nat,k <= M.size /\ i = .int .i64 k /\ s = .string (textTo M (baseS B N) k) /\ wr = w2) (fun _ i _=>M.size - (intOf i).toNat)
  case atStart=>exact ⟨0,Nat.zero_le _,rfl,rfl,rfl⟩
  case round =>
   obtain ⟨k,hk,rfl,rfl,rfl⟩:=hrel
   by_cases hlt : k < M.size
   ·have HC:=Lib.hid (byS_get M k hlt)
    have HZ:=Lib.hid (show textTo M (baseS B N) (k + 1) = stepS M (textTo M (baseS B N) k) k from rfl)
    have h66:=HS.out k
    generalize textTo M (baseS B N) k = x at *
    by_cases hk0 : k = 0
    ·subst hk0
     by_cases h63 : M[0].toNat = 63
     ·go_wp2_with fail
      go_roundw
      case rel=>exact ⟨1,by omega,rfl,by rw [HZ.out,stepS_eq M x 0 63 (by rw [HC.out,h63])];rfl,by trivial⟩
      case measure=>simp [intOf];omega
     ·by_cases h111 : M[0].toNat = 111
      ·go_wp2_with fail
       go_roundw
       case rel=>exact ⟨1,by omega,rfl,by rw [HZ.out,stepS_eq M x 0 111 (by rw [HC.out,h111])];rfl,by trivial⟩
       case measure=>simp [intOf];omega
      ·go_wp2_with fail
       go_roundw
       case rel=>exact ⟨1,by omega,rfl,by rw [HZ.out,stepS_eq M x 0 _ HC.out,if_neg h63,if_neg h111];rfl,by trivial⟩
       case measure=>simp [intOf];omega
    ·have hkp : 0 < k:=by omega
     by_cases h63 : M[k].toNat = 63
     ·go_wp2_with fail
      go_roundw
      case rel=>exact ⟨k + 1,by omega,by go_num,by rw [HZ.out,stepS_eq M x k 63 (by rw [HC.out,h63]),if_neg hk0];rfl,by trivial⟩
      case measure=>simp [intOf];omega
     ·by_cases h111 : M[k].toNat = 111
      ·go_wp2_with fail
       go_roundw
       case rel=>exact ⟨k + 1,by omega,by go_num,by rw [HZ.out,stepS_eq M x k 111 (by rw [HC.out,h111]),if_neg hk0];rfl,by trivial⟩
       case measure=>simp [intOf];omega
      ·go_wp2_with fail
       go_roundw
       case rel=>exact ⟨k + 1,by omega,by go_num,by rw [HZ.out,stepS_eq M x k _ HC.out,if_neg h63,if_neg h111,if_neg hk0],by trivial⟩
       case measure=>simp [intOf];omega
   ·have hk' : k = M.size:=by omega
    subst hk'
    go_wp2_with fail
    go_ret
    exact ⟨by rw [E.out];rfl,by exact after hq1 hb2⟩
end Go.Proofs.YtcllbfijhgiclaaGreatDoor
