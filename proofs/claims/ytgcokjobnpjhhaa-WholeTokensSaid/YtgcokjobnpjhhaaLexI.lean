/- Contracts of Unquote, Quote and Say. -/
import Derived.Test.YtgcokjobnpjhhaaLexH
namespace Go.Proofs.Ytgcokjobnpjhhaa
open Go Go.RowKit
set_option linter.unusedVariables false

theorem quote_prefix (x : ByteArray) : Lib.hasPrefix x.data.toList (⟨#[34]⟩ : ByteArray).data.toList = (decide (0 < x.size) && decide (byS x 0 = 34)) := by
  have hl : x.data.toList.length = x.size := by simp
  unfold Lib.hasPrefix
  show List.isPrefixOf [34] x.data.toList = _
  by_cases h : 0 < x.size
  · have e : x.data.toList = x[0] :: x.data.toList.drop 1 := by
      rw [show x.data.toList = x.data.toList.drop 0 from rfl, List.drop_eq_getElem_cons (by omega)]; rfl
    rw [e, byS_get x 0 h, decide_eq_true h]
    have u : ((34 : UInt8) == x[0]) = decide (x[0].toNat = 34) := by
      rw [Bool.eq_iff_iff, beq_iff_eq, decide_eq_true_iff]
      constructor
      · intro h; rw [← h]; rfl
      · intro h; exact UInt8.toNat_inj.1 (by rw [h]; rfl)
    simp [List.isPrefixOf, u]
  · have e : x.data.toList = [] := List.eq_nil_of_length_eq_zero (by omega)
    rw [e, decide_eq_false h]; rfl
/-- what Unquote answers: what is wrong, and what is said -/
def unqF (x : ByteArray) : Nat × List Nat :=
  if (decide (0 < x.size) && decide (byS x 0 = 34)) = false then (5, []) else
  if (saidG (byS x) (quotedG (byS x) x.size 0) 1 false []).1 ≠ 0 then ((saidG (byS x) (quotedG (byS x) x.size 0) 1 false []).1, []) else
  if quotedG (byS x) x.size 0 < x.size then (5, []) else (0, (saidG (byS x) (quotedG (byS x) x.size 0) 1 false []).2)
def UnqPost (w : World) (R : Nat × List Nat) (e : Ending) (w' : World) : Prop := e = .returned (.tuple #[.string (strN R.2), .int .i64 (R.1 : Nat)]) ∧ Below w.heap.size w w'

set_option maxHeartbeats 4000000 in
theorem unquote_any (x : ByteArray) (w : World) (hs : x.size ≤ 65536) :
    Calls Try.prog 13 #[.string x] w (UnqPost w (unqF x)) := by
  have HP : Hid (∀ w, Calls Try.prog 31 #[.string x, .string ⟨#[34]⟩] w fun e w' => e = .returned (.bool (decide (0 < x.size) && decide (byS x 0 = 34))) ∧ w = w') := Lib.hid (fun w =>
    (Try.strings_HasPrefix x ⟨#[34]⟩ w).mono fun e w' h => ⟨by rw [h.1, quote_prefix x], h.2.symm⟩)
  cases hp : (decide (0 < x.size) && decide (byS x 0 = 34))
  · have E := Lib.hid (show unqF x = (5, []) by unfold unqF; rw [if_pos hp])
    rw [hp] at HP
    clear hp
    go_enter Try.func13, Try.ntmps13
    go_wp2_with (go_at_call 31; refine (HP.out _).mono ?_; rintro e w1 ⟨rfl, rfl⟩)
    go_ret2
    exact ⟨by rw [E.out]; rfl, Below.refl _ _⟩
  · have h0 : 0 < x.size := by simp at hp; omega
    have HU : Hid (unqF x = if (saidG (byS x) (quotedG (byS x) x.size 0) 1 false []).1 ≠ 0 then ((saidG (byS x) (quotedG (byS x) x.size 0) 1 false []).1, []) else if quotedG (byS x) x.size 0 < x.size then (5, []) else (0, (saidG (byS x) (quotedG (byS x) x.size 0) 1 false []).2)) := Lib.hid (by unfold unqF; rw [if_neg (by rw [hp]; simp)])
    rw [hp] at HP
    have HQ := Lib.hid (fun w => quoted_any x 0 w hs h0)
    obtain ⟨q1, q2⟩ := quoted_facts (g := byS x) h0
    generalize quotedG (byS x) x.size 0 = t at *
    have hz : (x.extract 0 t).size = t := by simp; omega
    have HS := Lib.hid (fun w => said_any (x.extract 0 t) w (by omega) (by omega))
    rw [hz, said_congr (g := byS x) (fun j _ hj => by rw [byS_extract x 0 t j q2 (by omega), Nat.zero_add])] at HS
    obtain ⟨⟨code, out⟩, hR⟩ : ∃ R, saidG (byS x) t 1 false [] = R := ⟨_, rfl⟩
    rw [hR] at HS HU
    unfold SaidPost at HS
    dsimp only at HS HU
    clear hR hz hp
    by_cases hc : code = 0
    · have tc : ((code : Int) != 0) = false := by simp; omega
      by_cases hlt : t < x.size
      · have E := Lib.hid (show unqF x = (5, []) by rw [HU.out, if_neg (fun h => h hc), if_pos hlt])
        have i1 : (t : Int) < (x.size : Int) := by omega
        clear hc
        go_enter Try.func13, Try.ntmps13
        go_wp2_with (go_at_call 31; refine (HP.out _).mono ?_; rintro e w1 ⟨rfl, rfl⟩)
        refine (HQ.out _).mono ?_
        rintro e w1 ⟨rfl, h01⟩
        have H1 := Lib.hid h01
        clear h01
        go_wp2_with fail
        refine (HS.out _).mono ?_
        rintro e w2 ⟨rfl, h12⟩
        have H2 := Lib.hid (after H1.out h12)
        clear h12
        go_wp2_with fail
        go_ret2
        exact ⟨by rw [E.out]; rfl, H2.out⟩
      · have E := Lib.hid (show unqF x = (0, out) by rw [HU.out, if_neg (fun h => h hc), if_neg hlt])
        have i1 : ¬ (t : Int) < (x.size : Int) := by omega
        clear hc hlt
        go_enter Try.func13, Try.ntmps13
        go_wp2_with (go_at_call 31; refine (HP.out _).mono ?_; rintro e w1 ⟨rfl, rfl⟩)
        refine (HQ.out _).mono ?_
        rintro e w1 ⟨rfl, h01⟩
        have H1 := Lib.hid h01
        clear h01
        go_wp2_with fail
        refine (HS.out _).mono ?_
        rintro e w2 ⟨rfl, h12⟩
        have H2 := Lib.hid (after H1.out h12)
        clear h12
        go_wp2_with fail
        go_ret2
        exact ⟨by rw [E.out]; rfl, H2.out⟩
    · have E := Lib.hid (show unqF x = (code, []) by rw [HU.out, if_pos hc])
      have tc : ((code : Int) != 0) = true := by simp; omega
      clear hc
      go_enter Try.func13, Try.ntmps13
      go_wp2_with (go_at_call 31; refine (HP.out _).mono ?_; rintro e w1 ⟨rfl, rfl⟩)
      refine (HQ.out _).mono ?_
      rintro e w1 ⟨rfl, h01⟩
      have H1 := Lib.hid h01
      clear h01
      go_wp2_with fail
      refine (HS.out _).mono ?_
      rintro e w2 ⟨rfl, h12⟩
      have H2 := Lib.hid (after H1.out h12)
      clear h12
      go_wp2_with fail
      go_ret2
      exact ⟨by rw [E.out]; rfl, H2.out⟩

/-- a text's bytes as numbers -/
def natsOf (x : ByteArray) : List Nat := x.data.toList.map UInt8.toNat
theorem natsOf_len (x : ByteArray) : (natsOf x).length = x.size := by simp [natsOf]
theorem natsOf_get (x : ByteArray) (k : Nat) (h : k < x.size) : (natsOf x)[k]'(by rw [natsOf_len]; exact h) = x[k].toNat := by simp [natsOf]; rfl
theorem natsOf_take (x : ByteArray) (k : Nat) (h : k < x.size) : (natsOf x).take (k + 1) = (natsOf x).take k ++ [x[k].toNat] := by
  rw [List.take_succ_eq_append_getElem (by rw [natsOf_len]; exact h), natsOf_get x k h]
theorem strN_natsOf (x : ByteArray) : strN (natsOf x) = x := by
  unfold strN ofN natsOf
  rw [List.map_map]
  have : (Nat.toUInt8 ∘ UInt8.toNat) = id := by funext c; simp [Function.comp, Nat.toUInt8]
  rw [this, List.map_id]
/-- what Quote answers -/
def quoF (x : ByteArray) : Nat × List Nat := if (natsOf x).all goodC = true then (0, 34 :: (quoteL (natsOf x) ++ [34])) else (60, [])
def idxM (k : Nat) : Int := Lib.indexByte (⟨#[10, 9, 34, 92]⟩ : ByteArray).data.toList k.toUInt8
theorem idxM_all : ∀ k, k < 256 → (writS k = none → idxM k < 0) := by decide +kernel
theorem idxM10 : idxM 10 = 0 := by decide
theorem idxM9 : idxM 9 = 1 := by decide
theorem idxM34 : idxM 34 = 2 := by decide
theorem idxM92 : idxM 92 = 3 := by decide
theorem writ_cases {k m : Nat} (h : writS k = some m) : (k = 10 ∧ m = 110) ∨ (k = 9 ∧ m = 116) ∨ (k = 34 ∧ m = 34) ∨ (k = 92 ∧ m = 92) := by
  unfold writS at h
  split at h
  · injection h; omega
  · split at h
    · injection h; omega
    · split at h
      · injection h; omega
      · split at h
        · injection h; omega
        · cases h
theorem mean_any (k : Nat) (w : World) :
    Calls Try.prog 28 #[.string ⟨#[10, 9, 34, 92]⟩, .int .u8 (k : Int)] w fun e w' => e = .returned (.int .i64 (idxM k)) ∧ w = w' :=
  (Try.strings_IndexByte ⟨#[10, 9, 34, 92]⟩ (k : Int) w).mono fun e w' h => ⟨by rw [h.1]; rfl, h.2.symm⟩
theorem all_snoc (l : List Nat) (c : Nat) : (l ++ [c]).all goodC = (l.all goodC && goodC c) := by simp
theorem all_take {l : List Nat} {k : Nat} (h : (l.take k).all goodC = false) : l.all goodC = false := by
  rw [List.all_eq_false] at *
  obtain ⟨x, hx, hp⟩ := h
  exact ⟨x, List.mem_of_mem_take hx, hp⟩
theorem acc_len (l : List Nat) : (34 :: quoteL l).length ≤ 2 * l.length + 1 := by have := quoteL_len l; simp; omega

set_option maxRecDepth 100000 in
set_option maxHeartbeats 8000000 in
theorem quote_any (x : ByteArray) (w : World) (hs : x.size ≤ 65536) :
    Calls Try.prog 12 #[.string x] w (UnqPost w (quoF x)) := by
  have HI0 : Hid (SayInv w (w.alloc (.cells #[.pointer none, .slice none 0 0] 55)) []) := Lib.hid
    ⟨(Below.refl _ _).alloc (Nat.le_refl _) _, by simp, Lib.IsBuilderF.of (Lib.fresh_isBuilder 55 5 w)⟩
  go_enter Try.func12, Try.ntmps12
  go_wp2_with fail
  refine (writeByte_any _ _ _ _ _ HI0.out.2.2 (by simp [Lib.byteCells, ofN]) (by have := HI0.out.2.1; omega)).mono ?_
  rintro e w1 ⟨rfl, g1, g2, -⟩
  have HI1 := Lib.hid (HI0.out.wrote (c := 34) (by decide) g1 g2)
  clear g1 g2 HI0
  go_wp2_with fail
  go_loopw [11] (fun t wr => ∃ j : Nat, j ≤ x.size ∧ t = .int .i64 j ∧ ((natsOf x).take j).all goodC = true ∧ SayInv w wr (34 :: quoteL ((natsOf x).take j))) (fun t _ => x.size - (intOf t).toNat)
  case atStart => exact ⟨0, by omega, rfl, rfl, HI1.out⟩
  case round =>
    obtain ⟨j, hj, rfl, hall, hinv⟩ := hrel
    have HA := Lib.hid hall
    have HI := Lib.hid hinv
    have hlen := acc_len ((natsOf x).take j)
    have hlt2 : ((natsOf x).take j).length ≤ j := List.length_take_le _ _
    clear hall hinv HI1
    by_cases hlt : j < x.size
    · have i1 : (j : Int) < (x.size : Int) := by omega
      have HTK := Lib.hid (natsOf_take x j hlt)
      have hc256 : x[j].toNat < 256 := UInt8.toNat_lt _
      have HC := Lib.hid hc256
      have HW := Lib.hid (fun w => mean_any x[j].toNat w)
      generalize (natsOf x).take j = G at *
      cases hw : writS x[j].toNat with
      | none =>
        have hneg := idxM_all _ hc256 hw
        have HS := Lib.hid (fun w => seen_any x[j].toNat w)
        have HQ : Hid (qOne x[j].toNat = [x[j].toNat]) := Lib.hid (by unfold qOne; rw [hw])
        cases hsn : seenB x[j].toNat
        · have E := Lib.hid (show quoF x = (60, []) by
            have h1 : ((natsOf x).take (j + 1)).all goodC = false := by
              rw [HTK.out, all_snoc]
              unfold goodC; rw [hw, hsn]; simp
            unfold quoF; rw [if_neg (by rw [all_take h1]; simp)])
          rw [hsn] at HS
          clear hw hsn hc256
          generalize idxM x[j].toNat = v at *
          go_wp2_with fail
          refine (HW.out _).mono ?_
          rintro e w2 ⟨rfl, rfl⟩
          go_wp2_with fail
          refine (HS.out _).mono ?_
          rintro e w2 ⟨rfl, rfl⟩
          go_wp2_with fail
          go_ret2
          exact ⟨by rw [E.out]; rfl, HI.out.1⟩
        · have EA := Lib.hid (show ((natsOf x).take (j + 1)).all goodC = true by
            rw [HTK.out, all_snoc, HA.out]
            unfold goodC; rw [hw, hsn]; simp)
          have EQ := Lib.hid (show 34 :: quoteL ((natsOf x).take (j + 1)) = (34 :: quoteL G) ++ [x[j].toNat] by rw [HTK.out, quoteL_snoc, HQ.out]; rfl)
          rw [hsn] at HS
          clear hw hsn hc256
          generalize idxM x[j].toNat = v at *
          go_wp2_with fail
          refine (HW.out _).mono ?_
          rintro e w2 ⟨rfl, rfl⟩
          go_wp2_with fail
          refine (HS.out _).mono ?_
          rintro e w2 ⟨rfl, rfl⟩
          go_wp2_with fail
          refine (writeByte_any _ _ _ _ _ HI.out.2.2 (by rw [Lib.byteCells_length, ofN, List.length_map]; omega) (by have := HI.out.2.1; omega)).mono ?_
          rintro e w2 ⟨rfl, g1, g2, -⟩
          have HN := Lib.hid (HI.out.wrote HC.out g1 g2)
          clear g1 g2
          go_wp2_with fail
          go_roundw
          case rel => exact ⟨j + 1, by omega, by go_num, EA.out, by rw [EQ.out]; exact HN.out⟩
          case measure => simp [intOf]; omega
      | some m =>
        have EA := Lib.hid (show ((natsOf x).take (j + 1)).all goodC = true by
          rw [HTK.out, all_snoc, HA.out]
          unfold goodC; rw [hw]; simp)
        have EQ := Lib.hid (show 34 :: quoteL ((natsOf x).take (j + 1)) = ((34 :: quoteL G) ++ [92]) ++ [m] by
          rw [HTK.out, quoteL_snoc, show qOne x[j].toNat = [92, m] by unfold qOne; rw [hw]]
          simp)
        have hwc := writ_cases hw
        clear hw hc256 HC HTK
        rcases hwc with ⟨q1, q2⟩ | ⟨q1, q2⟩ | ⟨q1, q2⟩ | ⟨q1, q2⟩
        all_goals
          subst q2
          rw [q1] at HW
          first | rw [idxM10] at HW | rw [idxM9] at HW | rw [idxM34] at HW | rw [idxM92] at HW
          have HQ := Lib.hid q1
          clear q1
          go_wp2_with fail
          rw [HQ.out]
          refine (HW.out _).mono ?_
          rintro e w2 ⟨rfl, rfl⟩
          go_wp2_with fail
          refine (writeByte_any _ _ _ _ _ HI.out.2.2 (by rw [Lib.byteCells_length, ofN, List.length_map]; omega) (by have := HI.out.2.1; omega)).mono ?_
          rintro e w3 ⟨rfl, g1, g2, -⟩
          have HN := Lib.hid (HI.out.wrote (c := 92) (by decide) g1 g2)
          clear g1 g2
          go_wp2_with fail
          refine (seen_any _ _).mono ?_
          rintro e w4 ⟨rfl, rfl⟩
          go_wp2_with fail
          refine (writeByte_any _ _ _ _ _ HN.out.2.2 (by rw [Lib.byteCells_length, ofN, List.length_map, List.length_append]; simp only [List.length_cons, List.length_nil]; simp only [List.length_cons] at hlen; omega) (by have := HN.out.2.1; omega)).mono ?_
          rintro e w5 ⟨rfl, g1, g2, -⟩
          have HN2 := Lib.hid (HN.out.wrote (by decide) g1 g2)
          clear g1 g2
          go_wp2_with fail
          go_roundw
          case rel => exact ⟨j + 1, by omega, by go_num, EA.out, by rw [EQ.out]; exact HN2.out⟩
          case measure => simp [intOf]; omega
    · have hj' : j = x.size := by omega
      have hfull : (natsOf x).take j = natsOf x := List.take_of_length_le (by rw [natsOf_len]; omega)
      have E := Lib.hid (show quoF x = (0, (34 :: quoteL ((natsOf x).take j)) ++ [34]) by
        have h1 := HA.out
        rw [hfull] at h1 ⊢
        unfold quoF; rw [if_pos h1]; rfl)
      generalize (natsOf x).take j = G at *
      clear hfull
      go_wp2_with fail
      refine (writeByte_any _ _ _ _ _ HI.out.2.2 (by rw [Lib.byteCells_length, ofN, List.length_map]; omega) (by have := HI.out.2.1; omega)).mono ?_
      rintro e w3 ⟨rfl, g1, g2, -⟩
      have HN := Lib.hid (HI.out.wrote (c := 34) (by decide) g1 g2)
      clear g1 g2
      go_wp2_with fail
      refine (Try.Builder_String_any_k _ _ (ofN _) _ HN.out.2.2 (by have := HN.out.2.1; omega)).mono ?_
      rintro e w4 ⟨rfl, -, g2, -⟩
      have G2 := Lib.hid g2
      clear g2
      go_wp2_with fail
      go_ret2
      exact ⟨by rw [E.out]; rfl, HN.out.1.trans G2.out⟩

set_option maxHeartbeats 2000000 in
theorem say_any (s : ByteArray) (k f t : Nat) (w : World) (hs : s.size ≤ 65536) (hft : f ≤ t) (ht : t ≤ s.size) :
    Calls Try.prog 19 #[.string s, .agg #[.int .i64 (k : Nat), .int .i64 (f : Nat), .int .i64 (t : Nat)]] w fun e w' => e = .returned (.string (s.extract f t)) ∧ Below w.heap.size w w' := by
  have HT := Lib.hid (fun w => text_yes s f t w (chkB_iff.2 ⟨⟨by omega, by omega, by omega⟩, by omega, by omega⟩))
  go_enter Try.func19, Try.ntmps19
  go_wp2_with fail
  refine (HT.out _).mono ?_
  rintro e w1 ⟨rfl, h01⟩
  have H1 := Lib.hid h01
  clear h01
  go_wp2_with fail
  go_ret
  exact ⟨rfl, after ((Below.refl _ _).alloc (Nat.le_refl _) _) H1.out⟩

end Go.Proofs.Ytgcokjobnpjhhaa
