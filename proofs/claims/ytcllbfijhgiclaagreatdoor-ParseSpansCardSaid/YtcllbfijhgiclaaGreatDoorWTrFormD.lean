/- ParseWhole -/
import Derived.Test.YtcllbfijhgiclaaGreatDoorWTrFormC
set_option linter.unusedVariables false
set_option linter.unusedSimpArgs false
namespace Go.Proofs.YtcllbfijhgiclaaGreatDoor
open Go Go.RowKit
theorem decDigits_len (k : Nat) : ∀ n,n < 10 ^ (k + 1) -> (Lib.decDigits n).length <= k + 1:=by
 induction k with
 | zero=>intro n hn;rw [Lib.decDigits,dif_pos (by omega)];simp
 | succ k ih =>
  intro n hn
  by_cases h : n < 10
  ·rw [Lib.decDigits,dif_pos h];simp
  ·rw [Lib.decDigits,dif_neg h]
   have:=ih (n / 10) (by rw [Nat.pow_succ] at hn;omega)
   simp;omega
theorem dec_size (n : Int) (h0 : -9223372036854775808 <= n) (h1 : n <= 9223372036854775807) : (goPen.dec n).size <= 21:=by
 show (Lib.itoa n).length <= 21
 unfold Lib.itoa
 split
 ·have:=decDigits_len 18 n.natAbs (by omega)
  simp;omega
 ·have:=decDigits_len 18 n.toNat (by omega)
  omega
theorem head_size (x : Nd) (hs : NdSm x) (h : shapedE x = 0) : (headS goPen x).size <= 3900:=by
 obtain ⟨⟨h0,h1⟩,ht⟩:=shaped_facts h
 obtain ⟨k,hk⟩ : ∃ k : Nat,x.kind = k:=⟨x.kind.toNat,by omega⟩
 have hn : (nameS x.kind).size <= 20:=by rw [hk,nameS_eq k (by omega) (by omega)];exact name_size k (by omega)
 have hq:=quote_size x.text
 have hd:=dec_size x.num hs.num.1 hs.num.2
 have hx:=hs.text
 have hN:=hs.N
 have hM:=hs.M
 have hty : (shp x.kind).typ = true -> (typeS x.B x.N x.M).size <= 806:=fun htp=>by
  have hr:=ht htp
  have h2:=textTo_size x.M (baseS x.B x.N) x.M.size
  unfold rightB at hr
  simp only [Bool.and_eq_true,decide_eq_true_iff] at hr
  have h3:=baseS_size x.B x.N hr.1.1.2 hr.1.1.1
  unfold typeS;omega
 unfold headS
 simp only
 split
 all_goals split
 all_goals split
 all_goals simp only [ByteArray.size_append,lit1.1,lit1.2.1]
 all_goals first | omega | (rename_i h5 h6;have:=hty h5;omega) | (rename_i h5 h6 h7;have:=hty h6;omega) | (rename_i h5 h6 h7;have:=hty h5;omega) | (rename_i h5 h6 h7;have:=hty h7;omega)
theorem sum_flat (f : Nat -> List Nat) (g : Nat -> ByteArray) (C : Nat) : ∀ (K : List Nat) (h : ByteArray),(∀ k ∈ K,(g k).size + 1 <= C * (f k).length) -> (K.foldl (fun s k=>s ++ ⟨#[32]⟩ ++ g k) h).size <= h.size + C * (K.flatMap f).length
 | [],h,_=>by simp
 | k :: K,h,hk=>by
  have h1:=sum_flat f g C K (h ++ ⟨#[32]⟩ ++ g k) (fun x hx=>hk x (List.mem_cons_of_mem _ hx))
  have h2:=hk k List.mem_cons_self
  rw [List.foldl_cons,List.flatMap_cons,List.length_append,Nat.mul_add]
  simp only [ByteArray.size_append,lit1.1] at h1
  omega
theorem form_size {l : List Nd} {root : Int} (P : ProgOk l root) (hf : ∀ x ∈ l,NdSm x) : ∀ a,a < l.length -> (formS goPen l a).size + 1 <= 4000 * (walkS l a).length:=by
 intro a
 induction a using Nat.strongRecOn with
 | _ a ih =>
  intro ha
  rw [form_eq goPen P ha,walk_eq P ha,ByteArray.size_append,lit1.2.2]
  have h1:=sum_flat (walkS l) (formS goPen l) 4000 (kidsOf l a) (headS goPen l[a]) (fun k hk=>by
   have:=kidsOf_lt P ha hk
   exact ih k this (by omega))
  have h2:=head_size l[a] (hf _ (List.getElem_mem ha)) (P.shaped a ha)
  rw [List.length_cons]
  omega
theorem form_small {l : List Nd} {root : Int} (P : ProgOk l root) (hf : ∀ x ∈ l,NdSm x) (a : Nat) (ha : a < l.length) : (formS goPen l a).size <= 70368744177664:=by
 have h1:=form_size P hf a ha
 have h2:=nodup_len l.length (walkS l a) (walk_once P a ha) (fun x hx=>by have:=walk_le P a ha x hx;omega)
 have h3:=P.long
 omega
set_option maxRecDepth 100000 in
set_option maxHeartbeats 4000000 in
theorem Form_any (l : List Nd) (nv : Value) (root at_ : Int) (w : World) (hT : Tabs w) (hn : NdsV w nv l) (hl : l.length <= 1099511627776) (hf : ∀ x ∈ l,NdSm x) :
  Calls Tryz.prog 23 #[.agg #[nv,.int .i64 root],.int .i64 at_] w fun e w'=>e = .returned (.string (FormS goPen l root at_)) /\ Below w.heap.size w w':=by
 have HC:=Lib.hid (fun (w2 : World) (hb : Below w.heap.size w w2)=>check_any l nv root w2 (hT.sh.step hb) (hn.step hb) hl (fun x hx=>(hf x hx).fit))
 obtain ⟨src,cap,hnv,-⟩:=id hn
 subst hnv
 have HN:=Lib.hid hn
 have HT:=Lib.hid hT
 have HF:=Lib.hid hf
 clear hn hT hf
 by_cases h0 : at_ < 0
 ·have E : Hid (FormS goPen l root at_ = ⟨#[]⟩):=Lib.hid (by unfold FormS;rw [if_neg (by omega)])
  have q1 : decide (at_ < 0) = true:=decide_eq_true h0
  clear HC
  go_enter Tryz.func23,Tryz.ntmps23
  go_wp2_with fail
  go_ret
  exact ⟨by rw [E.out];rfl,by repeat (first | exact Below.refl _ _ | apply Below.setCell _ (by first | omega | (simp <;> omega)) | apply Below.alloc _ (by first | omega | (simp <;> omega)))⟩
 ·obtain ⟨a,rfl⟩ : ∃ a : Nat,at_ = a:=⟨at_.toNat,by omega⟩
  have q1 : decide ((a : Int) < 0) = false:=decide_eq_false h0
  by_cases h1 : l.length <= a
  ·have E : Hid (FormS goPen l root a = ⟨#[]⟩):=Lib.hid (by unfold FormS;rw [if_neg (by omega)])
   have q2 : decide ((l.length : Int) <= (a : Int)) = true:=decide_eq_true (by omega)
   have q2n : decide (l.length <= a) = true:=decide_eq_true h1
   clear HC
   generalize l.length = n at *
   go_enter Tryz.func23,Tryz.ntmps23
   go_wp2_with fail
   go_ret
   exact ⟨by rw [E.out];rfl,by repeat (first | exact Below.refl _ _ | apply Below.setCell _ (by first | omega | (simp <;> omega)) | apply Below.alloc _ (by first | omega | (simp <;> omega)))⟩
  ·have q2 : decide ((l.length : Int) <= (a : Int)) = false:=decide_eq_false (by omega)
   have q2n : decide (l.length <= a) = false:=decide_eq_false h1
   by_cases hc : checkE l root = 0
   ·have P:=check_ok l root hc
    have E : Hid (FormS goPen l root a = formS goPen l a):=Lib.hid (by unfold FormS;rw [if_pos ⟨by omega,by omega,hc⟩];rfl)
    have HSZ:=Lib.hid (form_small P HF.out a (by omega))
    have HFO:=Lib.hid (fun (W0 : World) (b : Nat) (hb : Below w.heap.size w W0) (hbw : W0.heap.size <= b) (w2 : World) (hi : BdInv W0 b ⟨#[]⟩ w2)=>form_any P W0 b _ (HN.out.step hb) (HT.out.step hb) hbw HF.out a (by omega) ⟨#[]⟩ w2 hi (by show 0 + _ <= _;rw [Nat.zero_add];exact HSZ.out))
    rw [hc] at HC
    clear hc h0 h1 HSZ
    go_enter Tryz.func23,Tryz.ntmps23
    go_wp2_with fail
    refine (HC.out _ (by repeat (first | exact Below.refl _ _ | apply Below.setCell _ (by first | omega | (simp <;> omega)) | apply Below.alloc _ (by first | omega | (simp <;> omega))))).mono ?_
    rintro e w1 ⟨rfl,hb1⟩
    have hba : Below w.heap.size w (w.alloc (.cells #[.slice src l.length cap,.int .i64 root] 47)):=(Below.refl _ _).alloc (Nat.le_refl _) _
    have B1:=Lib.hid (after hba hb1)
    have X1:=Lib.hid ((Bx.new 47 w #[.slice src l.length cap,.int .i64 root]).keep hb1)
    obtain ⟨a0,a1,al,af⟩:=X1.out.two
    clear hba hb1
    have HI : Hid (BdInv w1 w1.heap.size ⟨#[]⟩ (w1.alloc (.cells #[.pointer none,.slice none 0 0] 33))):=Lib.hid (by
     refine ⟨(Below.refl _ _).alloc (Nat.le_refl _) _,.inl ⟨Nat.le_refl _,.slice none 0 0,heap_alloc_new _ _,⟨rfl,.inl ⟨rfl,rfl⟩⟩,by simp [Value.ownBlock]⟩⟩)
    go_wp2_with fail
    refine (HFO.out _ _ B1.out (Nat.le_refl _) _ HI.out).mono ?_
    rintro e w2 ⟨rfl,h2⟩
    have e0 : (⟨#[]⟩ : ByteArray) ++ formS goPen l a = formS goPen l a:=by apply ByteArray.ext;simp
    rw [e0] at h2
    have HS:=Lib.hid (Tryz.Builder_String_any_f w1.heap.size w1.heap.size (formS goPen l a).data.toList w2 (by exact h2.bld) h2.bel.size)
    have B2:=Lib.hid (B1.out.trans (h2.bel.mono B1.out.size))
    clear h2 e0 HI HFO
    go_wp2_with fail
    refine HS.out.mono ?_
    rintro e w3 ⟨rfl,-,h3⟩
    have B3:=Lib.hid (B2.out.trans (h3.mono B1.out.size))
    clear h3 HS
    go_wp2_with fail
    go_ret
    exact ⟨by rw [E.out];rfl,B3.out⟩
   ·have E : Hid (FormS goPen l root a = ⟨#[]⟩):=Lib.hid (by unfold FormS;rw [if_neg (fun h=>hc h.2.2)])
    generalize checkE l root = c at *
    have q3 : (c != 0) = true:=by simpa using hc
    clear hc
    go_enter Tryz.func23,Tryz.ntmps23
    go_wp2_with fail
    refine (HC.out _ (by repeat (first | exact Below.refl _ _ | apply Below.setCell _ (by first | omega | (simp <;> omega)) | apply Below.alloc _ (by first | omega | (simp <;> omega))))).mono ?_
    rintro e w1 ⟨rfl,hb1⟩
    have hba : Below w.heap.size w (w.alloc (.cells #[.slice src l.length cap,.int .i64 root] 47)):=(Below.refl _ _).alloc (Nat.le_refl _) _
    have B1:=Lib.hid (after hba hb1)
    clear hba hb1
    go_wp2_with fail
    go_ret
    exact ⟨by rw [E.out];rfl,B1.out⟩
end Go.Proofs.YtcllbfijhgiclaaGreatDoor
