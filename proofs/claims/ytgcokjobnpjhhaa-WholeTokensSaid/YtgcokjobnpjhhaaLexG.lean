/- Contracts of token and Lex. -/
import Derived.Test.YtgcokjobnpjhhaaLexF
import Derived.Outline
namespace Go.Proofs.Ytgcokjobnpjhhaa
open Go Go.RowKit
set_option linter.unusedVariables false

def tokV (i : Nat) (r : Nat × Nat × Nat) : Value := if r.1 = 0 then .agg #[.int .i64 (r.2.1 : Nat), .int .i64 (i : Nat), .int .i64 (r.2.2 : Nat)] else .agg #[.int .i64 0, .int .i64 0, .int .i64 0]
def TokenPost (w : World) (i : Nat) (r : Nat × Nat × Nat) (e : Ending) (w' : World) : Prop := e = .returned (.tuple #[tokV i r, .int .i64 (r.1 : Nat)]) ∧ Below w.heap.size w w'

set_option maxHeartbeats 4000000 in
theorem token_any (s : ByteArray) (i : Nat) (w : World) (hs : s.size ≤ 65536) (hi : i < s.size) :
    Calls Try.prog 26 #[.string s, .int .i64 (i : Nat)] w (TokenPost w i (tokenG (byS s) s.size i)) := by
  have HR := Lib.hid (fun w => reach_any s i w hs hi)
  obtain ⟨a1, a2, a3, a4, a5⟩ := reach_facts (g := byS s) hi
  have HT : Hid (tokenG (byS s) s.size i = if longG (reachG (byS s) s.size i).1 < (reachG (byS s) s.size i).2 - i then (2, 0, 0) else if (reachG (byS s) s.size i).1 = 5 ∧ (reachG (byS s) s.size i).2 = i then (60, 0, 0) else if (reachG (byS s) s.size i).1 = 4 ∧ (saidG (fun j => byS s (i + j)) ((reachG (byS s) s.size i).2 - i) 1 false []).1 ≠ 0 then ((saidG (fun j => byS s (i + j)) ((reachG (byS s) s.size i).2 - i) 1 false []).1, 0, 0) else (0, (reachG (byS s) s.size i).1, (reachG (byS s) s.size i).2)) := Lib.hid rfl
  generalize reachG (byS s) s.size i = r at *
  obtain ⟨k, t⟩ := r
  dsimp only at a1 a2 a3 a4 a5 HT HR
  have HLG := Lib.hid (fun w => longest_any k w a4 a5)
  have hlg : longG k ≤ 256 := by unfold longG; split <;> (try split) <;> omega
  generalize hLL : longG k = lg at *
  clear hLL
  by_cases h1 : lg < t - i
  · have E := Lib.hid (show tokenG (byS s) s.size i = (2, 0, 0) by rw [HT.out, if_pos h1])
    have i1 : (lg : Int) < (t : Int) - (i : Int) := by omega
    clear h1
    go_enter Try.func26, Try.ntmps26
    go_wp2_with fail
    refine (HR.out _).mono ?_
    rintro e w1 ⟨rfl, h01⟩
    have hz := h01.size
    obtain ⟨hc, hf⟩ := bcell h01
    go_wp2_with fail
    refine (HLG.out _).mono ?_
    rintro e w2 ⟨rfl, rfl⟩
    go_wp2_with fail
    refine bodyPost_ret (v := .tuple #[.agg #[.int .i64 0, .int .i64 0, .int .i64 0], .int .i64 2]) (by simp [results, Try.results26, go_sem, hc]) rfl ?_
    exact ⟨by rw [E.out]; rfl, by repeat (first | exact Below.refl _ _ | apply Below.setCell _ (by first | omega | (simp <;> omega)) | apply Below.alloc _ (by first | omega | (simp <;> omega)) | exact h01 | refine after ?_ h01)⟩
  · have i1 : ¬ (lg : Int) < (t : Int) - (i : Int) := by omega
    by_cases h2 : k = 5 ∧ t = i
    · have E := Lib.hid (show tokenG (byS s) s.size i = (60, 0, 0) by rw [HT.out, if_neg h1, if_pos h2])
      obtain ⟨rfl, rfl⟩ := h2
      clear h1
      go_enter Try.func26, Try.ntmps26
      go_wp2_with fail
      refine (HR.out _).mono ?_
      rintro e w1 ⟨rfl, h01⟩
      have hz := h01.size
      obtain ⟨hc, hf⟩ := bcell h01
      go_wp2_with fail
      refine (HLG.out _).mono ?_
      rintro e w2 ⟨rfl, rfl⟩
      go_wp2_with fail
      refine bodyPost_ret (v := .tuple #[.agg #[.int .i64 0, .int .i64 0, .int .i64 0], .int .i64 60]) (by simp [results, Try.results26, go_sem, hc]) rfl ?_
      exact ⟨by rw [E.out]; rfl, by repeat (first | exact Below.refl _ _ | apply Below.setCell _ (by first | omega | (simp <;> omega)) | apply Below.alloc _ (by first | omega | (simp <;> omega)) | exact h01 | refine after ?_ h01)⟩
    · by_cases h4 : k = 4
      · have hti := a3 (by omega)
        have hz2 : (s.extract i t).size = t - i := by simp; omega
        have HS := Lib.hid (fun w => said_any (s.extract i t) w (by omega) (by omega))
        rw [hz2, said_congr (g := fun j => byS s (i + j)) (fun j _ hj => byS_extract s i t j a2 hj)] at HS
        have t4 : ((k : Int) == 4) = true := by simp; omega
        have t5 : ((k : Int) == 5) = false := by simp; omega
        obtain ⟨⟨code, out⟩, hR⟩ : ∃ R, saidG (fun j => byS s (i + j)) (t - i) 1 false [] = R := ⟨_, rfl⟩
        rw [hR] at HS HT
        unfold SaidPost at HS
        dsimp only at HS HT
        clear hR hz2
        by_cases h0 : code = 0
        · have E := Lib.hid (show tokenG (byS s) s.size i = (0, k, t) by rw [HT.out, if_neg h1, if_neg h2, if_neg (fun h => h.2 h0)])
          have tc : ((code : Int) != 0) = false := by simp; omega
          clear h0 h1 h2 h4
          go_enter Try.func26, Try.ntmps26
          go_wp2_with fail
          refine (HR.out _).mono ?_
          rintro e w1 ⟨rfl, h01⟩
          have hz := h01.size
          obtain ⟨hc, hf⟩ := bcell h01
          go_wp2_with fail
          refine (HLG.out _).mono ?_
          rintro e w2 ⟨rfl, rfl⟩
          go_wp2_with fail
          refine (HS.out _).mono ?_
          rintro e w3 ⟨rfl, h12⟩
          have h03 := after h01 h12
          have hz3 := h03.size
          obtain ⟨hc3, hf3⟩ := bcell h03
          clear hc hf
          go_wp2_with fail
          refine bodyPost_ret (v := .tuple #[.agg #[.int .i64 (k : Nat), .int .i64 (i : Nat), .int .i64 (t : Nat)], .int .i64 0]) (by simp [results, Try.results26, go_sem, hc3]) rfl ?_
          exact ⟨by rw [E.out]; rfl, by repeat (first | exact Below.refl _ _ | apply Below.setCell _ (by first | omega | (simp <;> omega)) | apply Below.alloc _ (by first | omega | (simp <;> omega)) | exact h03 | refine after ?_ h03)⟩
        · have E := Lib.hid (show tokenG (byS s) s.size i = (code, 0, 0) by rw [HT.out, if_neg h1, if_neg h2, if_pos ⟨h4, h0⟩])
          have tc : ((code : Int) != 0) = true := by simp; omega
          have EV := Lib.hid (show tokV i (code, 0, 0) = .agg #[.int .i64 0, .int .i64 0, .int .i64 0] by unfold tokV; rw [if_neg h0])
          clear h0 h1 h2 h4
          go_enter Try.func26, Try.ntmps26
          go_wp2_with fail
          refine (HR.out _).mono ?_
          rintro e w1 ⟨rfl, h01⟩
          have hz := h01.size
          obtain ⟨hc, hf⟩ := bcell h01
          go_wp2_with fail
          refine (HLG.out _).mono ?_
          rintro e w2 ⟨rfl, rfl⟩
          go_wp2_with fail
          refine (HS.out _).mono ?_
          rintro e w3 ⟨rfl, h12⟩
          have h03 := after h01 h12
          have hz3 := h03.size
          obtain ⟨hc3, hf3⟩ := bcell h03
          clear hc hf
          go_wp2_with fail
          refine bodyPost_ret (v := .tuple #[.agg #[.int .i64 0, .int .i64 0, .int .i64 0], .int .i64 (code : Nat)]) (by simp [results, Try.results26, go_sem, hc3]) rfl ?_
          exact ⟨by rw [E.out, EV.out], by repeat (first | exact Below.refl _ _ | apply Below.setCell _ (by first | omega | (simp <;> omega)) | apply Below.alloc _ (by first | omega | (simp <;> omega)) | exact h03 | refine after ?_ h03)⟩
      · have t4 : ((k : Int) == 4) = false := by simp; omega
        have E := Lib.hid (show tokenG (byS s) s.size i = (0, k, t) by rw [HT.out, if_neg h1, if_neg h2, if_neg (fun h => h4 h.1)])
        by_cases h5 : k = 5
        · have t5 : ((k : Int) == 5) = true := by simp; omega
          have t6 : ((t : Int) == (i : Int)) = false := by simp; omega
          clear h1 h2 h4 h5
          go_enter Try.func26, Try.ntmps26
          go_wp2_with fail
          refine (HR.out _).mono ?_
          rintro e w1 ⟨rfl, h01⟩
          have hz := h01.size
          obtain ⟨hc, hf⟩ := bcell h01
          go_wp2_with fail
          refine (HLG.out _).mono ?_
          rintro e w2 ⟨rfl, rfl⟩
          go_wp2_with fail
          refine bodyPost_ret (v := .tuple #[.agg #[.int .i64 (k : Nat), .int .i64 (i : Nat), .int .i64 (t : Nat)], .int .i64 0]) (by simp [results, Try.results26, go_sem, hc]) rfl ?_
          exact ⟨by rw [E.out]; rfl, by repeat (first | exact Below.refl _ _ | apply Below.setCell _ (by first | omega | (simp <;> omega)) | apply Below.alloc _ (by first | omega | (simp <;> omega)) | exact h01 | refine after ?_ h01)⟩
        · have t5 : ((k : Int) == 5) = false := by simp; omega
          clear h1 h2 h4 h5
          go_enter Try.func26, Try.ntmps26
          go_wp2_with fail
          refine (HR.out _).mono ?_
          rintro e w1 ⟨rfl, h01⟩
          have hz := h01.size
          obtain ⟨hc, hf⟩ := bcell h01
          go_wp2_with fail
          refine (HLG.out _).mono ?_
          rintro e w2 ⟨rfl, rfl⟩
          go_wp2_with fail
          refine bodyPost_ret (v := .tuple #[.agg #[.int .i64 (k : Nat), .int .i64 (i : Nat), .int .i64 (t : Nat)], .int .i64 0]) (by simp [results, Try.results26, go_sem, hc]) rfl ?_
          exact ⟨by rw [E.out]; rfl, by repeat (first | exact Below.refl _ _ | apply Below.setCell _ (by first | omega | (simp <;> omega)) | apply Below.alloc _ (by first | omega | (simp <;> omega)) | exact h01 | refine after ?_ h01)⟩

end Go.Proofs.Ytgcokjobnpjhhaa
