/- The document's own answer: a text's lines with their ends. -/
import Derived.Test.YtcmeeehhhnmfgaaDoorLineOf
import Derived.Test.YtcmeeehhhnmfgaaDoorLineLine
namespace Go.Proofs.YtcmeeehhhnmfgaaDoor
open Go.RowKit
set_option linter.unusedVariables false

theorem infoStr : (Tryd.prog.info? 9).map (fun i => (i.zero, i.size, i.bytes)) = some (some (.string ⟨#[]⟩), 1, 16) := by kernel_rfl

/-- the lines that end among the first k bytes -/
def outTo (s : ByteArray) : Nat → List ByteArray
  | 0 => []
  | k + 1 => if nlAt s k = true then outTo s k ++ [s.extract (begN s k) (k + 1)] else outTo s k
theorem outTo_yes {s : ByteArray} {k : Nat} (h : nlAt s k = true) : outTo s (k + 1) = outTo s k ++ [s.extract (begN s k) (k + 1)] := by simp [outTo, h]
theorem outTo_no {s : ByteArray} {k : Nat} (h : nlAt s k = false) : outTo s (k + 1) = outTo s k := by simp [outTo, h]
def strs (l : List ByteArray) : List Value := l.map Value.string
/-- a text's lines with their ends -/
def linesS (s : ByteArray) : List ByteArray := outTo s s.size ++ [s.extract (begN s s.size) s.size]
theorem outTo_len (s : ByteArray) (k : Nat) : (outTo s k).length + 1 = lineN s k := by
  induction k with
  | zero => rfl
  | succ k ih => cases h : nlAt s k
                 · rw [outTo_no h, (begN_no h).2]; exact ih
                 · rw [outTo_yes h, (begN_yes h).2, ← ih]; simp

def RlInv (w wr : World) (s : ByteArray) (k : Nat) (v : Value) : Prop :=
  Below w.heap.size w wr ∧ wr.ownsRow w.heap.size 9 1 v (outTo s k).length (strs (outTo s k))
theorem RlInv.no {w wr : World} {s : ByteArray} {k : Nat} {v : Value} (h : RlInv w wr s k v) (hn : nlAt s k = false) : RlInv w wr s (k + 1) v := ⟨h.1, by rw [outTo_no hn]; exact h.2⟩
/-- one more line joins -/
theorem grown_own {w wr w2 : World} {v v' : Value} {l : List ByteArray} {x : ByteArray} {o : Obj} (hbel : Below w.heap.size w wr) (ho : wr.ownsRow w.heap.size 9 1 v l.length (strs l))
    (hown' : w2.ownsRow w.heap.size 9 1 v' (l.length + 1) (strs l ++ [.string x])) (hg : (wr.alloc o).grownBy w2 v.ownBlock) :
    Below w.heap.size w w2 ∧ w2.ownsRow w.heap.size 9 1 v' (l ++ [x]).length (strs (l ++ [x])) := by
  refine ⟨Below.grown (hbel.alloc hbel.size o) hg (by simp; have := hbel.size; omega) (fun j hj => (ho.lt j hj).1), ?_⟩
  have e : strs (l ++ [x]) = strs l ++ [.string x] := by simp [strs]
  rw [e]; simpa using hown'

set_option maxRecDepth 100000 in
set_option maxHeartbeats 1000000 in
theorem reflines_any (s : ByteArray) (w : World) (hs : s.size ≤ 65536) :
    Calls Tryd.prog 16 #[.string s] w fun e w' => ∃ v, e = .returned v ∧ w'.ownsRow w.heap.size 9 1 v (linesS s).length (strs (linesS s)) ∧ Below w.heap.size w w' := by
  obtain ⟨i0, hi, hz0, hz1, hz2⟩ := info_parts infoStr
  go_enter Tryd.func16, Tryd.ntmps16
  go_wp2_with fail
  go_loopw [3, 4, 5] (fun u f i wr => ∃ (k : Nat) (v : Value), k ≤ s.size ∧ i = .int .i64 k ∧ f = .int .i64 (begN s k : Nat) ∧ u = v ∧ RlInv w wr s k v) (fun _ _ i _ => s.size - (intOf i).toNat)
  case atStart => exact ⟨0, _, Nat.zero_le _, rfl, rfl, rfl, Below.refl _ _, rfl, .inl ⟨rfl, rfl⟩⟩
  case round =>
    obtain ⟨k, v, hk, rfl, rfl, rfl, hinv⟩ := hrel
    have HI := Lib.hid hinv
    have hbk := begN_le s k
    by_cases hlt : k < s.size
    · cases hn : nlAt s k
      · have HI' := Lib.hid (hinv.no hn)
        have HB := Lib.hid (begN_no hn).1
        have hb : ((s[k].toNat : Int) == 10) = false := by rw [nlAt_int s k hlt]; exact hn
        clear hinv hn
        go_wp2_with fail
        go_roundw
        case rel => exact ⟨k + 1, _, by omega, by go_num, by rw [HB.out], rfl, HI'.out⟩
        case measure => simp [intOf]; omega
      · have HN := Lib.hid hn
        have hb : ((s[k].toNat : Int) == 10) = true := by rw [nlAt_int s k hlt]; exact hn
        have HB := Lib.hid (begN_yes hn).1
        clear hn
        obtain ⟨hbel, hown⟩ := hinv
        have HBEL := Lib.hid hbel
        have HO := Lib.hid hown
        have hsz := hbel.size
        have hlen := outTo_len s k
        have hlen2 := begsTo_len s k
        unfold lineN at hlen
        have hlen3 : (outTo s k).length ≤ 65537 := by omega
        clear hlen hlen2
        clear hown
        go_wp2_with (at_builtin; refine wpList_append_own _ rfl _ _ 39 rfl w.heap.size 9 i0 (.string ⟨#[]⟩) 1 16 Tryd.underlying39 hi hz0 hz1 hz2 rfl (by decide) _ _ _ rfl (HO.out.alloc _) ⟨wr.heap.size, 0, none⟩ 1 1 [.string (s.extract (begN s k) (k + 1))] rfl rfl ?c1 ?c2 ?c3 ?c4 ?c5 ?_)
        case c1 =>
          intro j u hj
          match j, hj with
          | 0, hj => simp at hj; subst hj; simp [Addr.add]
        case c2 => intro u hu; simp at hu; subst hu; rfl
        case c3 => unfold maxLen; omega
        case c4 => omega
        case c5 => simp; omega
        intro v' w2 hown' hgrow _
        have HR := Lib.hid (show RlInv w w2 s (k + 1) v' by
          obtain ⟨q1, q2⟩ := grown_own HBEL.out HO.out hown' hgrow
          exact ⟨q1, by rw [outTo_yes HN.out]; exact q2⟩)
        clear hown' hgrow
        go_wp2_with fail
        go_roundw
        case rel => exact ⟨k + 1, _, by omega, by go_num, by rw [HB.out]; go_num, rfl, HR.out⟩
        case measure => simp [intOf]; omega
    · have hk' : k = s.size := by omega
      subst hk'
      obtain ⟨hbel, hown⟩ := hinv
      have HBEL := Lib.hid hbel
      have HO := Lib.hid hown
      have hsz := hbel.size
      have hlen := outTo_len s s.size
      have hlen2 := begsTo_len s s.size
      unfold lineN at hlen
      have hlen3 : (outTo s s.size).length ≤ 65537 := by omega
      clear hlen hlen2
      clear hown
      go_wp2_with (at_builtin; refine wpList_append_own _ rfl _ _ 39 rfl w.heap.size 9 i0 (.string ⟨#[]⟩) 1 16 Tryd.underlying39 hi hz0 hz1 hz2 rfl (by decide) _ _ _ rfl (HO.out.alloc _) ⟨wr.heap.size, 0, none⟩ 1 1 [.string (s.extract (begN s s.size) s.size)] rfl rfl ?c1 ?c2 ?c3 ?c4 ?c5 ?_)
      case c1 =>
        intro j u hj
        match j, hj with
        | 0, hj => simp at hj; subst hj; simp [Addr.add]
      case c2 => intro u hu; simp at hu; subst hu; rfl
      case c3 => unfold maxLen; omega
      case c4 => omega
      case c5 => simp; omega
      intro v' w2 hown' hgrow _
      obtain ⟨q1, q2⟩ := grown_own HBEL.out HO.out hown' hgrow
      have Q1 := Lib.hid q1
      have Q2 := Lib.hid q2
      clear hown' hgrow q1 q2
      go_wp2_with fail
      go_ret
      exact ⟨_, rfl, Q2.out, Q1.out⟩

end Go.Proofs.YtcmeeehhhnmfgaaDoor
