/- Contract of lex.Name, and of the statements' own first question of layer 6. -/
import Derived.Test.YtgcokjobnpjhhaaLexL
namespace Go.Proofs.Ytgcokjobnpjhhaa
open Go Go.RowKit
set_option linter.unusedVariables false

theorem lstr_empty (s : ByteArray) (h : s.size = 0) : s.toList.isEmpty = true := by
  have : s = ⟨#[]⟩ := by
    apply ByteArray.ext
    apply Array.eq_empty_of_size_eq_zero h
  subst this; rw [ByteArray.toList_eq]; rfl
theorem lstr_full (s : ByteArray) (h : s.size ≠ 0) : s.toList.isEmpty = false := by
  rw [ByteArray.toList_eq]
  cases hs : s.data.toList.isEmpty
  · rfl
  · rw [List.isEmpty_iff, ← List.length_eq_zero_iff] at hs
    exact absurd (show s.size = 0 from hs) h
/-- may a text be a name? -/
def nameS (x : ByteArray) : Bool := decide (0 < x.size) && decide (x.size ≤ 64) && letterB (byS x 0) && decide (skipG inWordB (byS x) x.size 0 = x.size) && !keptS x

set_option maxHeartbeats 4000000 in
theorem name_any (x : ByteArray) (w : World) (hs : x.size ≤ maxLen) :
    Calls Try.prog 17 #[.string x] w fun e w' => e = .returned (.bool (nameS x)) ∧ w = w' := by
  have HM := Lib.hid hs
  unfold maxLen at hs
  by_cases h0 : x.size = 0
  · have E := Lib.hid (show nameS x = false by unfold nameS; simp [h0])
    have he := lstr_empty x h0
    clear h0
    go_enter Try.func17, Try.ntmps17
    go_wp2_with fail
    go_ret
    exact ⟨ret_bo E.out.symm, rfl⟩
  · have he := lstr_full x h0
    have hp : 0 < x.size := by omega
    by_cases h64 : 64 < x.size
    · have E := Lib.hid (show nameS x = false by unfold nameS; rw [decide_eq_false (show ¬ x.size ≤ 64 by omega)]; simp)
      have i1 : (64 : Int) < (x.size : Int) := by omega
      clear h0
      go_enter Try.func17, Try.ntmps17
      go_wp2_with fail
      go_ret
      exact ⟨ret_bo E.out.symm, rfl⟩
    · have i1 : ¬ (64 : Int) < (x.size : Int) := by omega
      have HB := Lib.hid (byS_get x 0 hp)
      have HL := Lib.hid (fun w => letter_any x[0].toNat w)
      have HS := Lib.hid (fun w => skip_word x 0 w HM.out (Nat.zero_le _))
      have HK := Lib.hid (fun w => kept_any x w)
      have HN : Hid (nameS x = (letterB x[0].toNat && decide (skipG inWordB (byS x) x.size 0 = x.size) && !keptS x)) := Lib.hid (by
        unfold nameS; rw [HB.out, decide_eq_true hp, decide_eq_true (show x.size ≤ 64 by omega)]; simp)
      clear h0 h64
      cases hl : letterB x[0].toNat
      · have E := Lib.hid (show nameS x = false by rw [HN.out, hl]; rfl)
        rw [hl] at HL
        clear hl
        go_enter Try.func17, Try.ntmps17
        go_wp2_with (go_at_call 36; refine (HL.out _).mono ?_; rintro e w1 ⟨rfl, rfl⟩)
        go_ret
        exact ⟨ret_bo E.out.symm, rfl⟩
      · rw [hl] at HL HN
        clear hl
        generalize skipG inWordB (byS x) x.size 0 = a at *
        by_cases ha : a = x.size
        · have t1 : ((a : Int) == (x.size : Int)) = true := by simp; omega
          have E := Lib.hid (show nameS x = !keptS x by rw [HN.out, decide_eq_true ha]; simp)
          clear ha
          generalize keptS x = k at *
          go_enter Try.func17, Try.ntmps17
          go_wp2_with (first | (go_at_call 36; refine (HL.out _).mono ?_; rintro e w1 ⟨rfl, rfl⟩) | (go_at_call 37; refine (HS.out _).mono ?_; rintro e w1 ⟨rfl, rfl⟩) | (go_at_call 15; refine (HK.out _).mono ?_; rintro e w1 ⟨rfl, rfl⟩))
          go_ret
          exact ⟨ret_bo E.out.symm, rfl⟩
        · have t1 : ((a : Int) == (x.size : Int)) = false := by simp; omega
          have E := Lib.hid (show nameS x = false by rw [HN.out, decide_eq_false ha]; simp)
          clear ha
          go_enter Try.func17, Try.ntmps17
          go_wp2_with (first | (go_at_call 36; refine (HL.out _).mono ?_; rintro e w1 ⟨rfl, rfl⟩) | (go_at_call 37; refine (HS.out _).mono ?_; rintro e w1 ⟨rfl, rfl⟩))
          go_ret
          exact ⟨ret_bo E.out.symm, rfl⟩

def cutS : ByteArray := ⟨#[105, 102, 32, 40, 120, 32, 33, 61, 32, 49, 46, 53, 41, 32, 47, 47, 32, 115, 111, 10, 32, 112, 114, 105, 110, 116, 40, 34, 97, 92, 110, 34, 41, 59]⟩
def cutL : List Tok := [(1, 0, 2), (5, 3, 4), (1, 4, 5), (5, 6, 8), (3, 9, 12), (5, 12, 13), (1, 21, 26), (5, 26, 27), (4, 27, 32), (5, 32, 33), (5, 33, 34), (0, 34, 34)]
theorem cut_lex : lexG (byS cutS) cutS.size = (cutL, 0, 0) := by decide +kernel
def naw : ByteArray := ⟨#[97, 10]⟩
def naq : ByteArray := ⟨#[34, 97, 92, 110, 34]⟩
theorem cut_quo : quoF naw = (0, [34, 97, 92, 110, 34]) := by decide +kernel
theorem cut_unq : unqF naq = (0, [97, 10]) := by decide +kernel
def kCls : ByteArray := ⟨#[99, 108, 97, 115, 115]⟩
def kKls : ByteArray := ⟨#[107, 108, 97, 115, 115]⟩
theorem toList_mk (l : List UInt8) : (⟨l.toArray⟩ : ByteArray).toList = l := by rw [ByteArray.toList_eq]
theorem cut_kept : keptS kCls = true := by
  have : kCls.toList = [99, 108, 97, 115, 115] := toList_mk _
  unfold keptS; rw [this]; decide
theorem cut_kept2 : keptS kKls = false := by
  have : kKls.toList = [107, 108, 97, 115, 115] := toList_mk _
  unfold keptS; rw [this]; decide
theorem cut_name : nameS kCls = false := by unfold nameS; rw [cut_kept]; simp
theorem cut_name2 : nameS kKls = true := by
  unfold nameS; rw [cut_kept2]; decide +kernel

set_option maxRecDepth 100000 in
set_option maxHeartbeats 4000000 in
theorem cuts_any (w : World) : Calls Try.prog 9 #[] w fun e w' => e = .returned (.bool true) ∧ Below w.heap.size w w' := by
  have hl := fun w => lex_any cutS w (by unfold maxLen; decide)
  rw [cut_lex] at hl
  have hq : ∀ w, Calls Try.prog 12 #[.string ⟨#[97, 10]⟩] w fun e w' => e = .returned (.tuple #[.string ⟨#[34, 97, 92, 110, 34]⟩, .int .i64 0]) ∧ Below w.heap.size w w' := fun w =>
    (quote_any naw w (by decide)).mono fun e w' h => by rw [cut_quo] at h; exact ⟨h.1.trans rfl, h.2⟩
  have hu : ∀ w, Calls Try.prog 13 #[.string ⟨#[34, 97, 92, 110, 34]⟩] w fun e w' => e = .returned (.tuple #[.string ⟨#[97, 10]⟩, .int .i64 0]) ∧ Below w.heap.size w w' := fun w =>
    (unquote_any naq w (by decide)).mono fun e w' h => by rw [cut_unq] at h; exact ⟨h.1.trans rfl, h.2⟩
  have hk := fun w => kept_any kCls w
  rw [cut_kept] at hk
  have hn := fun w => name_any kCls w (by unfold maxLen; decide)
  rw [cut_name] at hn
  have hm := fun w => name_any kKls w (by unfold maxLen; decide)
  rw [cut_name2] at hm
  have hs := fun w => say_any cutS 3 9 12 w (by decide) (by decide) (by decide)
  have ht := fun w => say_any cutS 4 27 32 w (by decide) (by decide) (by decide)
  rw [show cutS.extract 9 12 = ⟨#[49, 46, 53]⟩ by decide +kernel] at hs
  rw [show cutS.extract 27 32 = ⟨#[34, 97, 92, 110, 34]⟩ by decide +kernel] at ht
  have HL := Lib.hid hl
  have HQ := Lib.hid hq
  have HU := Lib.hid hu
  have HK := Lib.hid hk
  have HN := Lib.hid hn
  have HM := Lib.hid hm
  have HS := Lib.hid hs
  have HT := Lib.hid ht
  clear hl hq hu hk hn hm hs ht
  have q1 : ∀ w, (binOp .eql 26 (.agg #[.int .i64 0, .int .i64 0]) (.agg #[.int .i64 0, .int .i64 0])).run Try.prog w = .ok (.bool true) w := fun _ => by kernel_rfl
  have q2 : ∀ w, (binOp .eql 32 (.agg #[.int .i64 5, .int .i64 6, .int .i64 8]) (.agg #[.int .i64 5, .int .i64 6, .int .i64 8])).run Try.prog w = .ok (.bool true) w := fun _ => by kernel_rfl
  go_enter Try.func9, Try.ntmps9
  go_wp2_with fail
  refine (HL.out _).mono ?_
  rintro e w1 ⟨h01, hok, -⟩
  obtain ⟨v, rfl, g, cap, rfl, hg1, hg2, hc1, hc2, hat⟩ := hok rfl
  have hb3 := hat 3 (by decide)
  have hb4 := hat 4 (by decide)
  have hb8 := hat 8 (by decide)
  have H1 := Lib.hid h01
  have hlen : cutL.length = 12 := rfl
  simp only [show cutL[3] = (5, 6, 8) from rfl, show cutL[4] = (3, 9, 12) from rfl, show cutL[8] = (4, 27, 32) from rfl] at hb3 hb4 hb8
  clear hok hat h01
  have s1 : ((⟨#[49, 46, 53]⟩ : ByteArray).toList == [49, 46, 53]) = true := by rw [toList_mk [49, 46, 53]]; rfl
  have s2 : ((⟨#[34, 97, 92, 110, 34]⟩ : ByteArray).toList == [34, 97, 92, 110, 34]) = true := by rw [toList_mk [34, 97, 92, 110, 34]]; rfl
  have s3 : ((⟨#[97, 10]⟩ : ByteArray).toList == [97, 10]) = true := by rw [toList_mk [97, 10]]; rfl
  go_wp2_with fail
  refine (HQ.out _).mono ?_
  rintro e w2 ⟨rfl, h12⟩
  obtain ⟨h12', f0, f1, hf⟩ := box2 h12
  have b3 := keep h12' hg2 hb3.1
  have b3a := keep h12' hg2 hb3.2.1
  have b3b := keep h12' hg2 hb3.2.2
  have b4 := keep h12' hg2 hb4.1
  have b4a := keep h12' hg2 hb4.2.1
  have b4b := keep h12' hg2 hb4.2.2
  have b8 := keep h12' hg2 hb8.1
  have b8a := keep h12' hg2 hb8.2.1
  have b8b := keep h12' hg2 hb8.2.2
  have hg3 : g < w2.heap.size := Nat.lt_of_lt_of_le hg2 h12'.size
  have H2 := Lib.hid (after H1.out h12')
  clear h12 h12' hb3 hb4 hb8
  go_wp2_with fail
  refine (HU.out _).mono ?_
  rintro e w3 ⟨rfl, h23⟩
  have f0 := keep h23 hf f0
  have f1 := keep h23 hf f1
  have b3 := keep h23 hg3 b3
  have b3a := keep h23 hg3 b3a
  have b3b := keep h23 hg3 b3b
  have b4 := keep h23 hg3 b4
  have b4a := keep h23 hg3 b4a
  have b4b := keep h23 hg3 b4b
  have b8 := keep h23 hg3 b8
  have b8a := keep h23 hg3 b8a
  have b8b := keep h23 hg3 b8b
  have hg4 : g < w3.heap.size := Nat.lt_of_lt_of_le hg3 h23.size
  have hf4 : w1.heap.size < w3.heap.size := Nat.lt_of_lt_of_le hf h23.size
  have H3 := Lib.hid (after H2.out h23)
  clear h23
  go_wp2_with fail
  refine (HS.out _).mono ?_
  rintro e w4 ⟨rfl, h34⟩
  have b4 := keep h34 hg4 b4
  have b8 := keep h34 hg4 b8
  have b8a := keep h34 hg4 b8a
  have b8b := keep h34 hg4 b8b
  have H4 := Lib.hid (after H3.out h34)
  clear h34
  go_wp2_with fail
  refine (HT.out _).mono ?_
  rintro e w5 ⟨rfl, h45⟩
  have H5 := Lib.hid (after H4.out h45)
  clear h45 b3 b3a b3b b4 b4a b4b b8 b8a b8b f0 f1
  go_wp2_with fail
  refine (HK.out _).mono ?_
  rintro e w6 ⟨rfl, rfl⟩
  go_wp2_with fail
  refine (HM.out _).mono ?_
  rintro e w6 ⟨rfl, rfl⟩
  go_wp2_with fail
  refine (HN.out _).mono ?_
  rintro e w6 ⟨rfl, rfl⟩
  go_wp2_with fail
  go_ret
  exact ⟨rfl, H5.out⟩

end Go.Proofs.Ytgcokjobnpjhhaa
