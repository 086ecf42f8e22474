/- Contract of diff's atEnd. -/
import Derived.Test.YtdhbcmbajbgblaaDiffA
namespace Go.Proofs.Ytdhbcmbajbgblaa
open Go Go.RowKit
set_option linter.unusedVariables false

/-- an entry that has come to both ends -/
def HitAt (a b : ByteArray) (n : Nat) (r : Nat → Nat) (i : Nat) : Prop := r i = a.size ∧ a.size + n = b.size + 2 * i

set_option maxRecDepth 100000 in
set_option maxHeartbeats 2000000 in
theorem atEnd_any (a b : ByteArray) (r : Nat → Nat) (g n cap : Nat) (w : World) (hg : g < w.heap.size) (hr : NumsAt w g (n + 1) r) (hn : n ≤ 900000) (hc : n + 1 ≤ cap) (hs : ∀ j, r j ≤ 1000000) (ha : a.size ≤ 1000000) (hb : b.size ≤ 1000000) :
    Calls Try.prog 40 #[.string a, .string b, .slice (some ⟨g, 0, none⟩) (n + 1) cap] w fun e w' => (∃ (i : Nat) (f : Bool), e = .returned (.tuple #[.int .i64 i, .bool f]) ∧ (f = true → i ≤ n ∧ HitAt a b n r i) ∧ (f = false → i = 0 ∧ ∀ j, j ≤ n → ¬ HitAt a b n r j)) ∧ Below w.heap.size w w' := by
  have HR := Lib.hid hr
  clear hr
  go_enter Try.func40, Try.ntmps40
  go_wp2_with fail
  go_loopw [12] (fun i wr => ∃ k : Nat, k ≤ n + 1 ∧ i = .int .i64 k ∧ Below w.heap.size w wr ∧ ∀ j, j < k → ¬ HitAt a b n r j) (fun i _ => n + 1 - (intOf i).toNat)
  case atStart => exact ⟨0, Nat.zero_le _, rfl, Below.refl _ _, fun j h => absurd h (by omega)⟩
  case round =>
    obtain ⟨k, hk, rfl, hbel, hno⟩ := hrel
    have HN := Lib.hid hno
    have HBEL := Lib.hid hbel
    by_cases hlt : k < n + 1
    · have c0 := keep hbel hg (HR.out k hlt)
      have sk := hs k
      have HH : Hid (HitAt a b n r k ↔ r k = a.size ∧ a.size + n = b.size + 2 * k) := Lib.hid Iff.rfl
      have hgw := Nat.lt_of_lt_of_le hg hbel.size
      clear hno hbel hs
      generalize hx : r k = x at *
      clear hx
      have i1 : (k : Int) < (n : Int) + 1 := by omega
      have e1 : ((n + 1 : Nat) : Int) = (n : Int) + 1 := by omega
      have w1 : IntKind.i64.wrap ((n : Int) + 1 - 1) = (n : Int) := by rw [show (n : Int) + 1 - 1 = (n : Int) by omega]; exact IntWalk.i64_in _ ⟨by omega, by omega⟩
      by_cases h1 : x = a.size
      · have d1 : ((x : Int) == (a.size : Int)) = true := by simp [h1]
        have H1 := Lib.hid h1
        clear h1
        go_wp2_with fail
        refine (diagonal_any n k _ (by omega) (by omega)).mono ?_
        rintro e w2 ⟨rfl, h12⟩
        have B2 := Lib.hid (after HBEL.out h12)
        clear h12
        by_cases h2 : a.size + n = b.size + 2 * k
        · have d2 : ((x : Int) - (2 * (k : Int) - n) == (b.size : Int)) = true := by have := H1.out; simp; omega
          go_wp2_with fail
          go_ret2
          exact ⟨⟨k, true, rfl, (fun _ => ⟨by omega, HH.out.2 ⟨H1.out, h2⟩⟩), (fun h => by cases h)⟩, B2.out⟩
        · have d2 : ((x : Int) - (2 * (k : Int) - n) == (b.size : Int)) = false := by have := H1.out; rw [Bool.eq_false_iff]; intro h; simp at h; omega
          go_wp2_with fail
          refine ⟨⟨k + 1, by omega, by go_num, B2.out, fun j hj => ?_⟩, by simp [intOf]; omega⟩
          by_cases hq : j = k
          · subst hq; exact fun h => h2 (HH.out.1 h).2
          · exact HN.out j (by omega)
      · have d1 : ((x : Int) == (a.size : Int)) = false := by rw [Bool.eq_false_iff]; intro h; simp at h; omega
        go_wp2_with fail
        refine ⟨⟨k + 1, by omega, by go_num, HBEL.out, fun j hj => ?_⟩, by simp [intOf]; omega⟩
        by_cases hq : j = k
        · subst hq; exact fun h => h1 (HH.out.1 h).1
        · exact HN.out j (by omega)
    · have hk' : k = n + 1 := by omega
      subst hk'
      go_wp2_with fail
      go_ret2
      exact ⟨⟨0, false, rfl, (fun h => by cases h), (fun _ => ⟨rfl, fun j hj => HN.out j (by omega)⟩)⟩, HBEL.out⟩

end Go.Proofs.Ytdhbcmbajbgblaa
