/- ParseWhole -/
import Derived.Test.YtcllbfijhgiclaaGreatDoorWTrFormB
set_option linter.unusedVariables false
set_option linter.unusedSimpArgs false
namespace Go.Proofs.YtcllbfijhgiclaaGreatDoor
open Go Go.RowKit
structure NdSm (x : Nd) : Prop where
 num : -9223372036854775808 <= x.num /\ x.num <= 9223372036854775807
 text : x.text.size <= 260
 N : x.N.size <= 200
 M : x.M.size <= 60
 kids : x.kids.length <= 17592186044416
 ends : x.ends.length <= 17592186044416
theorem NdSm.fit {x : Nd} (h : NdSm x) : NdFit x:=⟨h.kids,h.ends,by have:=h.text;omega,by have:=h.N;omega,by have:=h.M;omega⟩
theorem name_size : ∀ k,k < 46 -> (nameL.getD k ⟨#[]⟩).size <= 20:=by decide +kernel
theorem nameS_eq (k : Nat) (h0 : 0 < k) (h1 : k < 46) : nameS (k : Int) = nameL.getD k ⟨#[]⟩:=by
 unfold nameS
 rw [if_pos (by unfold knownB;exact decide_eq_true ⟨by omega,by omega⟩)]
 rfl
theorem shaped_facts {x : Nd} (h : shapedE x = 0) : (0 < x.kind /\ x.kind < 46) /\ ((shp x.kind).typ = true -> rightB x.B x.N x.D x.M = true):=by
 unfold shapedE at h
 by_cases h1 : knownB x.kind = false
 ·rw [if_pos h1] at h;simp at h
 ·rw [if_neg h1] at h
  have hk : knownB x.kind = true:=by simpa using h1
  unfold knownB at hk
  refine ⟨by simpa using hk,fun ht=>?_⟩
  split at h
  ·simp at h
  ·split at h
   ·simp at h
   ·rename_i h3
    cases hr : rightB x.B x.N x.D x.M
    ·exfalso;apply h3;simp [ht,hr]
    ·rfl
theorem text_kinds : ∀ k,k < 46 -> ((shp (k : Nat)).text = true \/ (shp (k : Nat)).typ = true) -> k ≠ 19 /\ k ≠ 21:=by decide
theorem kids_nat {l : List Nd} {root : Int} (P : ProgOk l root) {a : Nat} (ha : a < l.length) : ∀ k ∈ l[a].kids,0 <= k /\ k < (a : Nat):=P.ahead a ha
theorem form_kids {l : List Nd} {root : Int} (P : ProgOk l root) {a : Nat} (ha : a < l.length) : formS goPen l a = kidsTo (formS goPen l) (l[a].kids.map Int.toNat) (headS goPen l[a]) l[a].kids.length ++ ⟨#[41]⟩:=by
 rw [form_eq goPen P ha,kidsOf_get l a ha]
 have:=kidsTo_all (formS goPen l) (l[a].kids.map Int.toNat) (headS goPen l[a])
 rw [List.length_map] at this
 rw [this]
theorem form_any {l : List Nd} {root : Int} (P : ProgOk l root) (W0 : World) (b : Nat) (nv : Value) (hn : NdsV W0 nv l) (hT : Tabs W0) (hbw : W0.heap.size <= b) (hf : ∀ x ∈ l,NdSm x) :
    ∀ (a : Nat),a < l.length -> ∀ (s : ByteArray) (w : World),BdInv W0 b s w -> s.size + (formS goPen l a).size <= 70368744177664 ->
    Calls Tryz.prog 42 #[.pointer (some ⟨b,0,none⟩),nv,.int .i64 (a : Nat)] w (FormPost W0 b (s ++ formS goPen l a)):=by
  obtain ⟨nsrc,ncap,rfl,hns⟩:=hn
  intro a
  induction a using Nat.strongRecOn with
  | _ a ih =>
    intro ha s w hinv hsz
    obtain ⟨nb,noff,rfl,hnb,hrow⟩:=hns (by omega)
    obtain ⟨kv,ev,hx0⟩:=hrow a ha
    have hx:=hx0.step hnb hinv.bel
    have hs:=hf _ (List.getElem_mem ha)
    have hsh:=shaped_facts (P.shaped a ha)
    have hsc:=(hT.sh.step hinv.bel)
    have hfk:=form_kids P ha
    have hkn:=kids_nat P ha
    have hP:=P.long
    have hcl : nb < w.heap.size:=Nat.lt_of_lt_of_le hnb hinv.bel.size
    rw [hfk] at hsz ⊢
    have hk0:=hx0.kids
    have he0:=hx0.ends
    clear hfk hx0
    generalize l[a] = y at *
    obtain ⟨kind,sf,st,K,text,B,N,D,M,num,wf,wt,ends⟩:=y
    obtain ⟨hkd,hty⟩:=hsh
    simp only at hkd hty hsz hkn
    obtain ⟨k,rfl⟩ : ∃ k : Nat,kind = k:=⟨kind.toNat,by omega⟩
    have h0 : 0 < k:=by omega
    have h1 : k < 46:=by omega
    obtain ⟨s0,s1,s2,s3,s4,sl⟩:=hsc.cells h1
    obtain ⟨ks,kc,hkv,hks⟩:=hk0
    obtain ⟨es,ec,hev,-⟩:=he0
    simp only at hkv hev hks
    subst hkv hev
    obtain ⟨-,-,c0,c1,c2,c3,c4,c5,c6,c7,c8,c9,c10,c11,c12⟩:=hx
    have hnm:=name_size k h1
    have hkk:=text_kinds k h1
    have hfk : FormKids W0 b (.slice (some ⟨nb,noff,none⟩) l.length ncap) (formS goPen l) K s (headS goPen ⟨(k : Int),sf,st,K,text,B,N,D,M,num,wf,wt,ends⟩):=by
      refine ⟨fun q hq=>(hkn q hq).1,hs.kids,by simp only [ByteArray.size_append,lit1.2.2] at hsz;omega,fun q hq s' w' hi hz=>?_⟩
      obtain ⟨q0,q1⟩:=hkn q hq
      obtain ⟨qn,rfl⟩ : ∃ x : Nat,q = x:=⟨q.toNat,by omega⟩
      exact ih qn (by omega) (by omega) s' w' hi hz
    have hss : s.size <= 70368744177664:=by omega
    have hhead : headS goPen ⟨(k : Int),sf,st,K,text,B,N,D,M,num,wf,wt,ends⟩ =
        (let A : ByteArray:=⟨#[40]⟩ ++ nameL.getD k ⟨#[]⟩
         let A:=if (shp k).text = true then A ++ (⟨#[32]⟩ ++ goPen.quote text) else A
         let A:=if (shp k).typ = true then A ++ (⟨#[32]⟩ ++ typeS B N M) else A
         if (k : Int) = 19 \/ (k : Int) = 21 then A ++ (⟨#[32]⟩ ++ goPen.dec num) else A):=by
      unfold headS
      simp only [nameS_eq k h0 h1]
    generalize headS goPen ⟨(k : Int),sf,st,K,text,B,N,D,M,num,wf,wt,ends⟩ = h at *
    have htxt:=hs.text
    have hN:=hs.N
    have hM:=hs.M
    have hnum:=hs.num
    simp only at htxt hN hM hnum
    have hty' : (shp k).typ = true -> rightB B N D M = true:=hty
    generalize (shp k).least = le at *
    generalize mostI (shp k).most = mo at *
    generalize nameL.getD k ⟨#[]⟩ = nm at *
    cases htx : (shp k).text
    · cases htp : (shp k).typ
      · rw [htx] at s3
        rw [htp] at s4
        simp only [htx,htp] at hhead
        by_cases k19 : k = 19
        · subst k19
          exact form_f19 W0 b nb noff l.length ncap _ a sf st ks K kc text B N D M num wf wt es _ ec nm le mo _ _ s h w c0 c1 c2 c3 c4 c5 c6 c7 c8 c9 c10 c11 c12 hcl s0 s1 s2 s3 s4 sl ha hks hT hbw hnm hss hfk hinv rfl rfl hnum (by rw [hhead];rfl)
        · by_cases k21 : k = 21
          · subst k21
            exact form_f21 W0 b nb noff l.length ncap _ a sf st ks K kc text B N D M num wf wt es _ ec nm le mo _ _ s h w c0 c1 c2 c3 c4 c5 c6 c7 c8 c9 c10 c11 c12 hcl s0 s1 s2 s3 s4 sl ha hks hT hbw hnm hss hfk hinv rfl rfl hnum (by rw [hhead];rfl)
          · have hkx : ¬ ((k : Int) = 19 \/ (k : Int) = 21):=by omega
            exact form_ff W0 b nb noff l.length ncap _ a k sf st ks K kc text B N D M num wf wt es _ ec nm le mo _ _ s h w c0 c1 c2 c3 c4 c5 c6 c7 c8 c9 c10 c11 c12 hcl s0 s1 s2 s3 s4 sl ha hks hT h0 h1 hbw hnm hss hfk hinv rfl rfl k19 k21 (by rw [hhead,if_neg hkx];rfl)
      · obtain ⟨k19,k21⟩:=hkk (.inr htp)
        have hkx : ¬ ((k : Int) = 19 \/ (k : Int) = 21):=by omega
        rw [htx] at s3
        rw [htp] at s4
        simp only [htx,htp] at hhead
        exact form_ft W0 b nb noff l.length ncap _ a k sf st ks K kc text B N D M num wf wt es _ ec nm le mo _ _ s h w c0 c1 c2 c3 c4 c5 c6 c7 c8 c9 c10 c11 c12 hcl s0 s1 s2 s3 s4 sl ha hks hT h0 h1 hbw hnm hss hfk hinv rfl rfl hN hM (hty' htp) k19 k21 (by rw [hhead,if_neg hkx];rfl)
    · obtain ⟨k19,k21⟩:=hkk (.inl htx)
      have hkx : ¬ ((k : Int) = 19 \/ (k : Int) = 21):=by omega
      cases htp : (shp k).typ
      · rw [htx] at s3
        rw [htp] at s4
        simp only [htx,htp] at hhead
        exact form_tf W0 b nb noff l.length ncap _ a k sf st ks K kc text B N D M num wf wt es _ ec nm le mo _ _ s h w c0 c1 c2 c3 c4 c5 c6 c7 c8 c9 c10 c11 c12 hcl s0 s1 s2 s3 s4 sl ha hks hT h0 h1 hbw hnm hss hfk hinv rfl rfl htxt k19 k21 (by rw [hhead,if_neg hkx];rfl)
      · rw [htx] at s3
        rw [htp] at s4
        simp only [htx,htp] at hhead
        exact form_tt W0 b nb noff l.length ncap _ a k sf st ks K kc text B N D M num wf wt es _ ec nm le mo _ _ s h w c0 c1 c2 c3 c4 c5 c6 c7 c8 c9 c10 c11 c12 hcl s0 s1 s2 s3 s4 sl ha hks hT h0 h1 hbw hnm hss hfk hinv rfl rfl htxt hN hM (hty' htp) k19 k21 (by rw [hhead,if_neg hkx];rfl)
end Go.Proofs.YtcllbfijhgiclaaGreatDoor
