/- LexQuotes: the walk. -/
import Derived.Test.YtgcokjobnpjhhaaLexM
namespace Go.Proofs.Ytgcokjobnpjhhaa
open Go Go.RowKit
set_option linter.unusedVariables false

theorem strN_size (l : List Nat) : (strN l).size = l.length := by
  show ((ofN l).toArray).size = _
  simp [ofN]
theorem strN_reads (l : List Nat) (h : ∀ c ∈ l, c < 256) : Reads (byS (strN l)) 0 l := fun j hj => by
  have hz := strN_size l
  rw [Nat.zero_add, byS_get _ j (by omega)]
  have e : (strN l)[j]'(by omega) = (ofN l)[j]'(by simpa [ofN] using hj) := rfl
  rw [e]
  have hc := h _ (List.getElem_mem hj)
  simp only [ofN, List.getElem_map, Nat.toUInt8]
  simp
  omega
theorem good_lt {c : Nat} (h : goodC c = true) : c < 256 := by have := goodC_iff.1 h; omega
theorem qOne_lt {c : Nat} (h : goodC c = true) : ∀ d ∈ qOne c, d < 256 := by
  intro d hd
  unfold qOne at hd
  cases hw : writS c with
  | none => rw [hw] at hd; simp at hd; subst hd; exact good_lt h
  | some m =>
    rw [hw] at hd
    have := writ_cases hw
    simp at hd
    omega
theorem quoteL_lt : ∀ (l : List Nat), l.all goodC = true → ∀ d ∈ quoteL l, d < 256
  | [], _, d, hd => by simp [quoteL] at hd
  | c :: l, ha, d, hd => by
    simp only [List.all_cons, Bool.and_eq_true] at ha
    have e : quoteL (c :: l) = qOne c ++ quoteL l := rfl
    rw [e] at hd
    rcases List.mem_append.1 hd with hd | hd
    · exact qOne_lt ha.1 d hd
    · exact quoteL_lt l ha.2 d hd
/-- quoted and read again -/
theorem unq_quo (l : List Nat) (ha : l.all goodC = true) : unqF (strN (34 :: (quoteL l ++ [34]))) = (0, l) := by
  have hlt : ∀ c ∈ (34 :: (quoteL l ++ [34])), c < 256 := by
    intro c hc
    rcases List.mem_cons.1 hc with rfl | hc
    · omega
    · rcases List.mem_append.1 hc with hc | hc
      · exact quoteL_lt l ha c hc
      · simp at hc; omega
  have hr := strN_reads _ hlt
  have hz := strN_size (34 :: (quoteL l ++ [34]))
  generalize strN (34 :: (quoteL l ++ [34])) = q at *
  have hz' : q.size = (quoteL l).length + 2 := by rw [hz]; simp
  obtain ⟨k1, k2, k3⟩ := quote_back (g := byS q) (n := q.size) ha hr hz'
  unfold unqF
  rw [k2, k3, k1, decide_eq_true (show 0 < q.size by omega)]
  simp

theorem good_iff (c : Nat) : goodC c = ((decide (32 ≤ c) && decide (c ≤ 126)) || decide (c = 10) || decide (c = 9)) := by
  rw [Bool.eq_iff_iff, goodC_iff]; simp; omega

set_option maxHeartbeats 8000000 in
theorem lexQuotes_any (x : ByteArray) (hs : x.size ≤ maxLen) (w : World) :
    Calls Try.prog 5 #[.string x] w fun e w' => e = .returned (.bool true) ∧ Below w.heap.size w w' := by
  unfold maxLen at hs
  by_cases h500 : 500 < x.size
  · have i0 : (500 : Int) < (x.size : Int) := by omega
    clear h500
    go_enter Try.func5, Try.ntmps5
    go_wp2_with (go_at_call 9; refine (cuts_any _).mono ?_; rintro e w1 ⟨rfl, h01⟩)
    go_ret
    exact ⟨rfl, h01⟩
  · have i0 : ¬ (500 : Int) < (x.size : Int) := by omega
    have HQ := Lib.hid (fun w => quote_any x w (by omega))
    go_enter Try.func5, Try.ntmps5
    go_wp2_with fail
    refine (cuts_any _).mono ?_
    rintro e w1 ⟨rfl, h01⟩
    have H1 := Lib.hid h01
    clear h01
    go_wp2_with fail
    go_loop [16, 3] (fun t b => ∃ j : Nat, j ≤ x.size ∧ t = .int .i64 j ∧ b = .bool (((natsOf x).take j).all goodC)) (fun t _ => x.size - (intOf t).toNat)
    case atStart => exact ⟨0, by omega, rfl, rfl⟩
    case round =>
      obtain ⟨j, hj, rfl, rfl⟩ := hrel
      by_cases hlt : j < x.size
      · have i1 : (j : Int) < (x.size : Int) := by omega
        have hts := natsOf_take x j hlt
        have HS := Lib.hid (show ((natsOf x).take (j + 1)).all goodC = (((natsOf x).take j).all goodC && goodC x[j].toNat) by rw [hts, all_snoc])
        have HG := Lib.hid (good_iff x[j].toNat)
        clear hts
        generalize ((natsOf x).take j).all goodC = b at *
        cases b
        · go_wp2_with fail
          go_round
          case rel => exact ⟨j + 1, by omega, by go_num, by rw [HS.out]; rfl⟩
          case measure => simp [intOf]; omega
        · by_cases g1 : 32 ≤ x[j].toNat
          · have k1 : (32 : Int) ≤ (x[j].toNat : Int) := by omega
            by_cases g2 : x[j].toNat ≤ 126
            · have k2 : (x[j].toNat : Int) ≤ 126 := by omega
              have E := Lib.hid (show goodC x[j].toNat = true by rw [HG.out]; simp [g1, g2])
              clear g1 g2
              go_wp2_with fail
              go_round
              case rel => exact ⟨j + 1, by omega, by go_num, by rw [HS.out, E.out]; rfl⟩
              case measure => simp [intOf]; omega
            · have k2 : ¬ (x[j].toNat : Int) ≤ 126 := by omega
              have t1 : ((x[j].toNat : Int) == 10) = false := by simp; omega
              have t2 : ((x[j].toNat : Int) == 9) = false := by simp; omega
              have E := Lib.hid (show goodC x[j].toNat = false by rw [HG.out]; simp; omega)
              clear g1 g2
              go_wp2_with fail
              go_round
              case rel => exact ⟨j + 1, by omega, by go_num, by rw [HS.out, E.out]; rfl⟩
              case measure => simp [intOf]; omega
          · have k1 : ¬ (32 : Int) ≤ (x[j].toNat : Int) := by omega
            by_cases g2 : x[j].toNat = 10
            · have t1 : ((x[j].toNat : Int) == 10) = true := by rw [g2]; rfl
              have E := Lib.hid (show goodC x[j].toNat = true by rw [HG.out]; simp [g2])
              clear g1 g2
              go_wp2_with fail
              go_round
              case rel => exact ⟨j + 1, by omega, by go_num, by rw [HS.out, E.out]; rfl⟩
              case measure => simp [intOf]; omega
            · have t1 : ((x[j].toNat : Int) == 10) = false := by simp; omega
              by_cases g3 : x[j].toNat = 9
              · have t2 : ((x[j].toNat : Int) == 9) = true := by rw [g3]; rfl
                have E := Lib.hid (show goodC x[j].toNat = true by rw [HG.out]; simp [g3])
                clear g1 g2 g3
                go_wp2_with fail
                go_round
                case rel => exact ⟨j + 1, by omega, by go_num, by rw [HS.out, E.out]; rfl⟩
                case measure => simp [intOf]; omega
              · have t2 : ((x[j].toNat : Int) == 9) = false := by simp; omega
                have E := Lib.hid (show goodC x[j].toNat = false by rw [HG.out]; simp; omega)
                clear g1 g2 g3
                go_wp2_with fail
                go_round
                case rel => exact ⟨j + 1, by omega, by go_num, by rw [HS.out, E.out]; rfl⟩
                case measure => simp [intOf]; omega
      · have hj' : j = x.size := by omega
        have hfull : (natsOf x).take j = natsOf x := List.take_of_length_le (by rw [natsOf_len]; omega)
        rw [hfull]
        clear hfull
        cases hall : (natsOf x).all goodC
        · have E : quoF x = (60, []) := by unfold quoF; rw [if_neg (by rw [hall]; simp)]
          rw [E] at HQ
          have HQ2 : Hid (∀ w, Calls Try.prog 12 #[.string x] w fun e w' => e = .returned (.tuple #[.string ⟨#[]⟩, .int .i64 60]) ∧ Below w.heap.size w w') := Lib.hid (fun w => (HQ.out w).mono fun e w' h => ⟨h.1.trans rfl, h.2⟩)
          clear E HQ hall
          go_wp2_with fail
          refine (HQ2.out _).mono ?_
          rintro e w2 ⟨rfl, h12⟩
          have H2 := Lib.hid (after H1.out h12)
          clear h12
          have he : (⟨#[]⟩ : ByteArray).toList.isEmpty = true := lstr_empty _ rfl
          go_wp2_with fail
          go_ret
          exact ⟨rfl, H2.out⟩
        · have E : quoF x = (0, 34 :: (quoteL (natsOf x) ++ [34])) := by unfold quoF; rw [if_pos hall]
          have hql := quoteL_len (natsOf x)
          rw [natsOf_len] at hql
          have hz := strN_size (34 :: (quoteL (natsOf x) ++ [34]))
          rw [List.length_cons, List.length_append, List.length_singleton] at hz
          have HU := Lib.hid (fun w => unquote_any (strN (34 :: (quoteL (natsOf x) ++ [34]))) w (by omega))
          rw [unq_quo _ hall] at HU
          have HU2 : Hid (∀ w, Calls Try.prog 13 #[.string (strN (34 :: (quoteL (natsOf x) ++ [34])))] w fun e w' => e = .returned (.tuple #[.string x, .int .i64 0]) ∧ Below w.heap.size w w') := Lib.hid (fun w => (HU.out w).mono fun e w' h => ⟨h.1.trans (by rw [strN_natsOf]; rfl), h.2⟩)
          rw [E] at HQ
          have HQ2 : Hid (∀ w, Calls Try.prog 12 #[.string x] w fun e w' => e = .returned (.tuple #[.string (strN (34 :: (quoteL (natsOf x) ++ [34]))), .int .i64 0]) ∧ Below w.heap.size w w') := Lib.hid (fun w => (HQ.out w).mono fun e w' h => ⟨h.1.trans rfl, h.2⟩)
          clear E HQ hall HU hql hz
          generalize strN (34 :: (quoteL (natsOf x) ++ [34])) = q at *
          go_wp2_with fail
          refine (HQ2.out _).mono ?_
          rintro e w2 ⟨rfl, h12⟩
          have H2 := Lib.hid (after H1.out h12)
          clear h12
          go_wp2_with fail
          refine (HU2.out _).mono ?_
          rintro e w3 ⟨rfl, h23⟩
          have H3 := Lib.hid (after H2.out h23)
          clear h23
          go_wp2_with fail
          go_ret
          exact ⟨ret_bo (by simp), H3.out⟩

end Go.Proofs.Ytgcokjobnpjhhaa
