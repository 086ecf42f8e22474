/- ScopeRaw: what is wrong with nodes that are no program or no method. -/
import Derived.Test.YtgegiianlkpefaaGreatDoorRTrMB
set_option maxRecDepth 100000
set_option maxHeartbeats 2000000
set_option linter.unusedVariables false
set_option linter.unusedSimpArgs false
namespace Go.Proofs.YtgegiianlkpefaaGreatDoor
open Go Go.RowKit
def mostI (m : Option Nat) : Int:=match m with | none=>9223372036854775807 | some n=>n
def shapeC (k : Nat) : List Value:=[.string (nameL.getD k ⟨#[]⟩),.int .i64 (shp k).least,.int .i64 (mostI (shp k).most),.bool (shp k).text,.bool (shp k).typ]
def ShTab (w : World) : Prop:=0 < w.heap.size /\ ∀ k,k < 46 -> ∀ j u,(shapeC k)[j]? = some u -> w.cell? ⟨0,k * 5 + j,none⟩ = some u
theorem ShTab.step {w w' : World} (h : ShTab w) (hb : Below w.heap.size w w') : ShTab w':=⟨Nat.lt_of_lt_of_le h.1 hb.size,fun k hk j u hj=>keep hb h.1 (h.2 k hk j u hj)⟩
theorem ShTab.cells {w : World} (h : ShTab w) {k : Nat} (hk : k < 46) : w.cell? ⟨0,k * 5,none⟩ = some (.string (nameL.getD k ⟨#[]⟩)) /\ w.cell? ⟨0,k * 5 + 1,none⟩ = some (.int .i64 (shp k).least) /\ w.cell? ⟨0,k * 5 + 2,none⟩ = some (.int .i64 (mostI (shp k).most)) /\ w.cell? ⟨0,k * 5 + 3,none⟩ = some (.bool (shp k).text) /\ w.cell? ⟨0,k * 5 + 4,none⟩ = some (.bool (shp k).typ) /\ 0 < w.heap.size :=
 ⟨h.2 k hk 0 _ rfl,h.2 k hk 1 _ rfl,h.2 k hk 2 _ rfl,h.2 k hk 3 _ rfl,h.2 k hk 4 _ rfl,h.1⟩
theorem known_yes (k : Nat) (w : World) (h0 : 0 < k) (h1 : k < 46) : Calls Tryz.prog 157 #[.int .i64 (k : Nat)] w fun e w'=>e = .returned (.bool true) /\ w' = w:=by
 have q0 : decide ((0 : Int) < (k : Int)) = true:=decide_eq_true (by omega)
 have q1 : decide ((k : Int) < 46) = true:=decide_eq_true (by omega)
 go_enter Tryz.func157,Tryz.ntmps157
 go_wp2_with fail
 go_ret
 exact ⟨rfl,rfl⟩
theorem known_no (k : Int) (w : World) (h : ¬ (0 < k /\ k < 46)) : Calls Tryz.prog 157 #[.int .i64 k] w fun e w'=>e = .returned (.bool false) /\ w' = w:=by
 by_cases h0 : 0 < k
 ·have h1 : ¬ k < 46:=fun x=>h ⟨h0,x⟩
  clear h
  have q0 : decide (0 < k) = true:=decide_eq_true h0
  have q1 : decide (k < 46) = false:=decide_eq_false h1
  go_enter Tryz.func157,Tryz.ntmps157
  go_wp2_with fail
  go_ret
  exact ⟨rfl,rfl⟩
 ·clear h
  have q0 : decide (0 < k) = false:=decide_eq_false h0
  go_enter Tryz.func157,Tryz.ntmps157
  go_wp2_with fail
  go_ret
  exact ⟨rfl,rfl⟩
theorem shaped_unknown (kind sf st : Int) (ks : Option Addr) (n kc : Nat) (text : ByteArray) (B : Int) (N : ByteArray) (D : Int) (M : ByteArray) (num wf wt : Int) (ev : Value) (w : World) (h : ¬ (0 < kind /\ kind < 46)) :
  Calls Tryz.prog 117 #[.agg #[.int .i64 kind,.int .i64 sf,.int .i64 st,.slice ks n kc,.string text,.int .i64 B,.string N,.int .i64 D,.string M,.int .i64 num,.int .i64 wf,.int .i64 wt,ev]] w fun e w'=>e = .returned (.int .i64 3) /\ Below w.heap.size w w':=by
 have HK:=Lib.hid (fun w=>known_no kind w h)
 clear h
 go_enter Tryz.func117,Tryz.ntmps117
 go_wp2_with (go_at_call 157;refine (HK.out _).mono ?_;rintro e w1 ⟨rfl,rfl⟩)
 all_goals go_ret
 all_goals exact ⟨rfl,by repeat (first | exact Below.refl _ _ | apply Below.setCell _ (by first | omega | (simp <;> omega)) | apply Below.alloc _ (by first | omega | (simp <;> omega)))⟩
theorem shaped_few (k : Nat) (sf st : Int) (ks : Option Addr) (n kc : Nat) (text : ByteArray) (B : Int) (N : ByteArray) (D : Int) (M : ByteArray) (num wf wt : Int) (ev : Value) (nm : ByteArray) (le : Nat) (mo : Int) (tx ty : Bool) (w : World) (h0 : 0 < k) (h1 : k < 46) (s0 : w.cell? ⟨0,k * 5,none⟩ = some (.string nm)) (s1 : w.cell? ⟨0,k * 5 + 1,none⟩ = some (.int .i64 (le : Nat))) (s2 : w.cell? ⟨0,k * 5 + 2,none⟩ = some (.int .i64 mo)) (s3 : w.cell? ⟨0,k * 5 + 3,none⟩ = some (.bool tx)) (s4 : w.cell? ⟨0,k * 5 + 4,none⟩ = some (.bool ty)) (sl : 0 < w.heap.size) (ha : n < le) :
  Calls Tryz.prog 117 #[.agg #[.int .i64 (k : Int),.int .i64 sf,.int .i64 st,.slice ks n kc,.string text,.int .i64 B,.string N,.int .i64 D,.string M,.int .i64 num,.int .i64 wf,.int .i64 wt,ev]] w fun e w'=>e = .returned (.int .i64 131) /\ Below w.heap.size w w':=by
 have q1 : decide ((n : Int) < (le : Int)) = true:=decide_eq_true (by omega)
 have q2 : decide (n < le) = true:=decide_eq_true ha
 go_enter Tryz.func117,Tryz.ntmps117
 go_wp2_with (go_at_call 157;refine (known_yes _ _ h0 h1).mono ?_;rintro e w1 ⟨rfl,rfl⟩)
 all_goals go_ret
 all_goals exact ⟨rfl,by repeat (first | exact Below.refl _ _ | apply Below.setCell _ (by first | omega | (simp <;> omega)) | apply Below.alloc _ (by first | omega | (simp <;> omega)))⟩
theorem shaped_many (k : Nat) (sf st : Int) (ks : Option Addr) (n kc : Nat) (text : ByteArray) (B : Int) (N : ByteArray) (D : Int) (M : ByteArray) (num wf wt : Int) (ev : Value) (nm : ByteArray) (le : Nat) (mo : Int) (tx ty : Bool) (w : World) (h0 : 0 < k) (h1 : k < 46) (s0 : w.cell? ⟨0,k * 5,none⟩ = some (.string nm)) (s1 : w.cell? ⟨0,k * 5 + 1,none⟩ = some (.int .i64 (le : Nat))) (s2 : w.cell? ⟨0,k * 5 + 2,none⟩ = some (.int .i64 mo)) (s3 : w.cell? ⟨0,k * 5 + 3,none⟩ = some (.bool tx)) (s4 : w.cell? ⟨0,k * 5 + 4,none⟩ = some (.bool ty)) (sl : 0 < w.heap.size) (ha : ¬ n < le) (hb : mo < (n : Int)) :
  Calls Tryz.prog 117 #[.agg #[.int .i64 (k : Int),.int .i64 sf,.int .i64 st,.slice ks n kc,.string text,.int .i64 B,.string N,.int .i64 D,.string M,.int .i64 num,.int .i64 wf,.int .i64 wt,ev]] w fun e w'=>e = .returned (.int .i64 131) /\ Below w.heap.size w w':=by
 have q1 : decide ((n : Int) < (le : Int)) = false:=decide_eq_false (by omega)
 have q2 : decide (n < le) = false:=decide_eq_false ha
 have q3 : decide (mo < (n : Int)) = true:=decide_eq_true hb
 go_enter Tryz.func117,Tryz.ntmps117
 go_wp2_with (go_at_call 157;refine (known_yes _ _ h0 h1).mono ?_;rintro e w1 ⟨rfl,rfl⟩)
 all_goals go_ret
 all_goals exact ⟨rfl,by repeat (first | exact Below.refl _ _ | apply Below.setCell _ (by first | omega | (simp <;> omega)) | apply Below.alloc _ (by first | omega | (simp <;> omega)))⟩
theorem shaped_text (k : Nat) (sf st : Int) (ks : Option Addr) (n kc : Nat) (text : ByteArray) (B : Int) (N : ByteArray) (D : Int) (M : ByteArray) (num wf wt : Int) (ev : Value) (nm : ByteArray) (le : Nat) (mo : Int) (tx ty : Bool) (w : World) (h0 : 0 < k) (h1 : k < 46) (s0 : w.cell? ⟨0,k * 5,none⟩ = some (.string nm)) (s1 : w.cell? ⟨0,k * 5 + 1,none⟩ = some (.int .i64 (le : Nat))) (s2 : w.cell? ⟨0,k * 5 + 2,none⟩ = some (.int .i64 mo)) (s3 : w.cell? ⟨0,k * 5 + 3,none⟩ = some (.bool tx)) (s4 : w.cell? ⟨0,k * 5 + 4,none⟩ = some (.bool ty)) (sl : 0 < w.heap.size) (ha : ¬ n < le) (hb : ¬ mo < (n : Int)) (hc : text.size ≠ 0) (hd : tx = false) :
  Calls Tryz.prog 117 #[.agg #[.int .i64 (k : Int),.int .i64 sf,.int .i64 st,.slice ks n kc,.string text,.int .i64 B,.string N,.int .i64 D,.string M,.int .i64 num,.int .i64 wf,.int .i64 wt,ev]] w fun e w'=>e = .returned (.int .i64 5) /\ Below w.heap.size w w':=by
 have q1 : decide ((n : Int) < (le : Int)) = false:=decide_eq_false (by omega)
 have q2 : decide (n < le) = false:=decide_eq_false ha
 have q3 : decide (mo < (n : Int)) = false:=decide_eq_false hb
 subst hd
 obtain ⟨n1,n2⟩:=tl_ne text hc
 clear hc ha hb
 go_enter Tryz.func117,Tryz.ntmps117
 go_wp2_with (go_at_call 157;refine (known_yes _ _ h0 h1).mono ?_;rintro e w1 ⟨rfl,rfl⟩)
 all_goals go_ret
 all_goals exact ⟨rfl,by repeat (first | exact Below.refl _ _ | apply Below.setCell _ (by first | omega | (simp <;> omega)) | apply Below.alloc _ (by first | omega | (simp <;> omega)))⟩
theorem shaped_ez_f (k : Nat) (sf st : Int) (ks : Option Addr) (n kc : Nat) (text : ByteArray) (B : Int) (N : ByteArray) (D : Int) (M : ByteArray) (num wf wt : Int) (ev : Value) (nm : ByteArray) (le : Nat) (mo : Int) (tx ty : Bool) (w : World) (h0 : 0 < k) (h1 : k < 46) (s0 : w.cell? ⟨0,k * 5,none⟩ = some (.string nm)) (s1 : w.cell? ⟨0,k * 5 + 1,none⟩ = some (.int .i64 (le : Nat))) (s2 : w.cell? ⟨0,k * 5 + 2,none⟩ = some (.int .i64 mo)) (s3 : w.cell? ⟨0,k * 5 + 3,none⟩ = some (.bool tx)) (s4 : w.cell? ⟨0,k * 5 + 4,none⟩ = some (.bool ty)) (sl : 0 < w.heap.size) (ha : ¬ n < le) (hb : ¬ mo < (n : Int)) (hc : text.size = 0) (hz : B = 0 /\ N.size = 0 /\ D = 0 /\ M.size = 0) (he : ty = false) :
  Calls Tryz.prog 117 #[.agg #[.int .i64 (k : Int),.int .i64 sf,.int .i64 st,.slice ks n kc,.string text,.int .i64 B,.string N,.int .i64 D,.string M,.int .i64 num,.int .i64 wf,.int .i64 wt,ev]] w fun e w'=>e = .returned (.int .i64 0) /\ Below w.heap.size w w':=by
 have q1 : decide ((n : Int) < (le : Int)) = false:=decide_eq_false (by omega)
 have q2 : decide (n < le) = false:=decide_eq_false ha
 have q3 : decide (mo < (n : Int)) = false:=decide_eq_false hb
 obtain rfl:=empty_of text hc
 clear hc ha hb
 subst he
 obtain ⟨rfl,z1,rfl,z3⟩:=hz
 obtain rfl:=empty_of N z1
 obtain rfl:=empty_of M z3
 clear z1 z3
 go_enter Tryz.func117,Tryz.ntmps117
 go_wp2_with (go_at_call 157;refine (known_yes _ _ h0 h1).mono ?_;rintro e w1 ⟨rfl,rfl⟩)
 all_goals go_ret
 all_goals exact ⟨rfl,by repeat (first | exact Below.refl _ _ | apply Below.setCell _ (by first | omega | (simp <;> omega)) | apply Below.alloc _ (by first | omega | (simp <;> omega)))⟩
theorem shaped_ez_false (k : Nat) (sf st : Int) (ks : Option Addr) (n kc : Nat) (text : ByteArray) (B : Int) (N : ByteArray) (D : Int) (M : ByteArray) (num wf wt : Int) (ev : Value) (nm : ByteArray) (le : Nat) (mo : Int) (tx ty : Bool) (w : World) (h0 : 0 < k) (h1 : k < 46) (s0 : w.cell? ⟨0,k * 5,none⟩ = some (.string nm)) (s1 : w.cell? ⟨0,k * 5 + 1,none⟩ = some (.int .i64 (le : Nat))) (s2 : w.cell? ⟨0,k * 5 + 2,none⟩ = some (.int .i64 mo)) (s3 : w.cell? ⟨0,k * 5 + 3,none⟩ = some (.bool tx)) (s4 : w.cell? ⟨0,k * 5 + 4,none⟩ = some (.bool ty)) (sl : 0 < w.heap.size) (ha : ¬ n < le) (hb : ¬ mo < (n : Int)) (hc : text.size = 0) (hz : B = 0 /\ N.size = 0 /\ D = 0 /\ M.size = 0) (he : ty = true) (hR : ∀ w : World,Calls Tryz.prog 158 #[.agg #[.int .i64 B,.string N,.int .i64 D,.string M]] w fun e w'=>e = .returned (.bool false) /\ Below w.heap.size w w') :
  Calls Tryz.prog 117 #[.agg #[.int .i64 (k : Int),.int .i64 sf,.int .i64 st,.slice ks n kc,.string text,.int .i64 B,.string N,.int .i64 D,.string M,.int .i64 num,.int .i64 wf,.int .i64 wt,ev]] w fun e w'=>e = .returned (.int .i64 5) /\ Below w.heap.size w w':=by
 have q1 : decide ((n : Int) < (le : Int)) = false:=decide_eq_false (by omega)
 have q2 : decide (n < le) = false:=decide_eq_false ha
 have q3 : decide (mo < (n : Int)) = false:=decide_eq_false hb
 obtain rfl:=empty_of text hc
 clear hc ha hb
 subst he
 have HR:=Lib.hid hR
 clear hR
 obtain ⟨rfl,z1,rfl,z3⟩:=hz
 obtain rfl:=empty_of N z1
 obtain rfl:=empty_of M z3
 clear z1 z3
 go_enter Tryz.func117,Tryz.ntmps117
 go_wp2_with (first | (go_at_call 157;refine (known_yes _ _ h0 h1).mono ?_;rintro e w1 ⟨rfl,rfl⟩) | (go_at_call 158;refine (HR.out _).mono ?_;rintro e w1 ⟨rfl,hb1⟩))
 all_goals go_ret
 all_goals exact ⟨rfl,by repeat (first | exact Below.refl _ _ | apply Below.setCell _ (by first | omega | (simp <;> omega)) | apply Below.alloc _ (by first | omega | (simp <;> omega)) | exact hb1 | refine after ?_ hb1)⟩
theorem shaped_eb_f (k : Nat) (sf st : Int) (ks : Option Addr) (n kc : Nat) (text : ByteArray) (B : Int) (N : ByteArray) (D : Int) (M : ByteArray) (num wf wt : Int) (ev : Value) (nm : ByteArray) (le : Nat) (mo : Int) (tx ty : Bool) (w : World) (h0 : 0 < k) (h1 : k < 46) (s0 : w.cell? ⟨0,k * 5,none⟩ = some (.string nm)) (s1 : w.cell? ⟨0,k * 5 + 1,none⟩ = some (.int .i64 (le : Nat))) (s2 : w.cell? ⟨0,k * 5 + 2,none⟩ = some (.int .i64 mo)) (s3 : w.cell? ⟨0,k * 5 + 3,none⟩ = some (.bool tx)) (s4 : w.cell? ⟨0,k * 5 + 4,none⟩ = some (.bool ty)) (sl : 0 < w.heap.size) (ha : ¬ n < le) (hb : ¬ mo < (n : Int)) (hc : text.size = 0) (hz : ¬ B = 0) (he : ty = false) :
  Calls Tryz.prog 117 #[.agg #[.int .i64 (k : Int),.int .i64 sf,.int .i64 st,.slice ks n kc,.string text,.int .i64 B,.string N,.int .i64 D,.string M,.int .i64 num,.int .i64 wf,.int .i64 wt,ev]] w fun e w'=>e = .returned (.int .i64 5) /\ Below w.heap.size w w':=by
 have q1 : decide ((n : Int) < (le : Int)) = false:=decide_eq_false (by omega)
 have q2 : decide (n < le) = false:=decide_eq_false ha
 have q3 : decide (mo < (n : Int)) = false:=decide_eq_false hb
 obtain rfl:=empty_of text hc
 clear hc ha hb
 subst he
 go_enter Tryz.func117,Tryz.ntmps117
 go_wp2_with (go_at_call 157;refine (known_yes _ _ h0 h1).mono ?_;rintro e w1 ⟨rfl,rfl⟩)
 all_goals go_ret
 all_goals exact ⟨rfl,by repeat (first | exact Below.refl _ _ | apply Below.setCell _ (by first | omega | (simp <;> omega)) | apply Below.alloc _ (by first | omega | (simp <;> omega)))⟩
theorem shaped_eb_true (k : Nat) (sf st : Int) (ks : Option Addr) (n kc : Nat) (text : ByteArray) (B : Int) (N : ByteArray) (D : Int) (M : ByteArray) (num wf wt : Int) (ev : Value) (nm : ByteArray) (le : Nat) (mo : Int) (tx ty : Bool) (w : World) (h0 : 0 < k) (h1 : k < 46) (s0 : w.cell? ⟨0,k * 5,none⟩ = some (.string nm)) (s1 : w.cell? ⟨0,k * 5 + 1,none⟩ = some (.int .i64 (le : Nat))) (s2 : w.cell? ⟨0,k * 5 + 2,none⟩ = some (.int .i64 mo)) (s3 : w.cell? ⟨0,k * 5 + 3,none⟩ = some (.bool tx)) (s4 : w.cell? ⟨0,k * 5 + 4,none⟩ = some (.bool ty)) (sl : 0 < w.heap.size) (ha : ¬ n < le) (hb : ¬ mo < (n : Int)) (hc : text.size = 0) (hz : ¬ B = 0) (he : ty = true) (hR : ∀ w : World,Calls Tryz.prog 158 #[.agg #[.int .i64 B,.string N,.int .i64 D,.string M]] w fun e w'=>e = .returned (.bool true) /\ Below w.heap.size w w') :
  Calls Tryz.prog 117 #[.agg #[.int .i64 (k : Int),.int .i64 sf,.int .i64 st,.slice ks n kc,.string text,.int .i64 B,.string N,.int .i64 D,.string M,.int .i64 num,.int .i64 wf,.int .i64 wt,ev]] w fun e w'=>e = .returned (.int .i64 0) /\ Below w.heap.size w w':=by
 have q1 : decide ((n : Int) < (le : Int)) = false:=decide_eq_false (by omega)
 have q2 : decide (n < le) = false:=decide_eq_false ha
 have q3 : decide (mo < (n : Int)) = false:=decide_eq_false hb
 obtain rfl:=empty_of text hc
 clear hc ha hb
 subst he
 have HR:=Lib.hid hR
 clear hR
 go_enter Tryz.func117,Tryz.ntmps117
 go_wp2_with (first | (go_at_call 157;refine (known_yes _ _ h0 h1).mono ?_;rintro e w1 ⟨rfl,rfl⟩) | (go_at_call 158;refine (HR.out _).mono ?_;rintro e w1 ⟨rfl,hb1⟩))
 all_goals go_ret
 all_goals exact ⟨rfl,by repeat (first | exact Below.refl _ _ | apply Below.setCell _ (by first | omega | (simp <;> omega)) | apply Below.alloc _ (by first | omega | (simp <;> omega)) | exact hb1 | refine after ?_ hb1)⟩
theorem shaped_eb_false (k : Nat) (sf st : Int) (ks : Option Addr) (n kc : Nat) (text : ByteArray) (B : Int) (N : ByteArray) (D : Int) (M : ByteArray) (num wf wt : Int) (ev : Value) (nm : ByteArray) (le : Nat) (mo : Int) (tx ty : Bool) (w : World) (h0 : 0 < k) (h1 : k < 46) (s0 : w.cell? ⟨0,k * 5,none⟩ = some (.string nm)) (s1 : w.cell? ⟨0,k * 5 + 1,none⟩ = some (.int .i64 (le : Nat))) (s2 : w.cell? ⟨0,k * 5 + 2,none⟩ = some (.int .i64 mo)) (s3 : w.cell? ⟨0,k * 5 + 3,none⟩ = some (.bool tx)) (s4 : w.cell? ⟨0,k * 5 + 4,none⟩ = some (.bool ty)) (sl : 0 < w.heap.size) (ha : ¬ n < le) (hb : ¬ mo < (n : Int)) (hc : text.size = 0) (hz : ¬ B = 0) (he : ty = true) (hR : ∀ w : World,Calls Tryz.prog 158 #[.agg #[.int .i64 B,.string N,.int .i64 D,.string M]] w fun e w'=>e = .returned (.bool false) /\ Below w.heap.size w w') :
  Calls Tryz.prog 117 #[.agg #[.int .i64 (k : Int),.int .i64 sf,.int .i64 st,.slice ks n kc,.string text,.int .i64 B,.string N,.int .i64 D,.string M,.int .i64 num,.int .i64 wf,.int .i64 wt,ev]] w fun e w'=>e = .returned (.int .i64 5) /\ Below w.heap.size w w':=by
 have q1 : decide ((n : Int) < (le : Int)) = false:=decide_eq_false (by omega)
 have q2 : decide (n < le) = false:=decide_eq_false ha
 have q3 : decide (mo < (n : Int)) = false:=decide_eq_false hb
 obtain rfl:=empty_of text hc
 clear hc ha hb
 subst he
 have HR:=Lib.hid hR
 clear hR
 go_enter Tryz.func117,Tryz.ntmps117
 go_wp2_with (first | (go_at_call 157;refine (known_yes _ _ h0 h1).mono ?_;rintro e w1 ⟨rfl,rfl⟩) | (go_at_call 158;refine (HR.out _).mono ?_;rintro e w1 ⟨rfl,hb1⟩))
 all_goals go_ret
 all_goals exact ⟨rfl,by repeat (first | exact Below.refl _ _ | apply Below.setCell _ (by first | omega | (simp <;> omega)) | apply Below.alloc _ (by first | omega | (simp <;> omega)) | exact hb1 | refine after ?_ hb1)⟩
theorem shaped_en_f (k : Nat) (sf st : Int) (ks : Option Addr) (n kc : Nat) (text : ByteArray) (B : Int) (N : ByteArray) (D : Int) (M : ByteArray) (num wf wt : Int) (ev : Value) (nm : ByteArray) (le : Nat) (mo : Int) (tx ty : Bool) (w : World) (h0 : 0 < k) (h1 : k < 46) (s0 : w.cell? ⟨0,k * 5,none⟩ = some (.string nm)) (s1 : w.cell? ⟨0,k * 5 + 1,none⟩ = some (.int .i64 (le : Nat))) (s2 : w.cell? ⟨0,k * 5 + 2,none⟩ = some (.int .i64 mo)) (s3 : w.cell? ⟨0,k * 5 + 3,none⟩ = some (.bool tx)) (s4 : w.cell? ⟨0,k * 5 + 4,none⟩ = some (.bool ty)) (sl : 0 < w.heap.size) (ha : ¬ n < le) (hb : ¬ mo < (n : Int)) (hc : text.size = 0) (hz0 : B = 0) (hz : N.size ≠ 0) (he : ty = false) :
  Calls Tryz.prog 117 #[.agg #[.int .i64 (k : Int),.int .i64 sf,.int .i64 st,.slice ks n kc,.string text,.int .i64 B,.string N,.int .i64 D,.string M,.int .i64 num,.int .i64 wf,.int .i64 wt,ev]] w fun e w'=>e = .returned (.int .i64 5) /\ Below w.heap.size w w':=by
 have q1 : decide ((n : Int) < (le : Int)) = false:=decide_eq_false (by omega)
 have q2 : decide (n < le) = false:=decide_eq_false ha
 have q3 : decide (mo < (n : Int)) = false:=decide_eq_false hb
 obtain rfl:=empty_of text hc
 clear hc ha hb
 subst he
 subst hz0
 obtain ⟨m1,m2⟩:=tl_ne N hz
 clear hz
 go_enter Tryz.func117,Tryz.ntmps117
 go_wp2_with (go_at_call 157;refine (known_yes _ _ h0 h1).mono ?_;rintro e w1 ⟨rfl,rfl⟩)
 all_goals go_ret
 all_goals exact ⟨rfl,by repeat (first | exact Below.refl _ _ | apply Below.setCell _ (by first | omega | (simp <;> omega)) | apply Below.alloc _ (by first | omega | (simp <;> omega)))⟩
theorem shaped_en_true (k : Nat) (sf st : Int) (ks : Option Addr) (n kc : Nat) (text : ByteArray) (B : Int) (N : ByteArray) (D : Int) (M : ByteArray) (num wf wt : Int) (ev : Value) (nm : ByteArray) (le : Nat) (mo : Int) (tx ty : Bool) (w : World) (h0 : 0 < k) (h1 : k < 46) (s0 : w.cell? ⟨0,k * 5,none⟩ = some (.string nm)) (s1 : w.cell? ⟨0,k * 5 + 1,none⟩ = some (.int .i64 (le : Nat))) (s2 : w.cell? ⟨0,k * 5 + 2,none⟩ = some (.int .i64 mo)) (s3 : w.cell? ⟨0,k * 5 + 3,none⟩ = some (.bool tx)) (s4 : w.cell? ⟨0,k * 5 + 4,none⟩ = some (.bool ty)) (sl : 0 < w.heap.size) (ha : ¬ n < le) (hb : ¬ mo < (n : Int)) (hc : text.size = 0) (hz0 : B = 0) (hz : N.size ≠ 0) (he : ty = true) (hR : ∀ w : World,Calls Tryz.prog 158 #[.agg #[.int .i64 B,.string N,.int .i64 D,.string M]] w fun e w'=>e = .returned (.bool true) /\ Below w.heap.size w w') :
  Calls Tryz.prog 117 #[.agg #[.int .i64 (k : Int),.int .i64 sf,.int .i64 st,.slice ks n kc,.string text,.int .i64 B,.string N,.int .i64 D,.string M,.int .i64 num,.int .i64 wf,.int .i64 wt,ev]] w fun e w'=>e = .returned (.int .i64 0) /\ Below w.heap.size w w':=by
 have q1 : decide ((n : Int) < (le : Int)) = false:=decide_eq_false (by omega)
 have q2 : decide (n < le) = false:=decide_eq_false ha
 have q3 : decide (mo < (n : Int)) = false:=decide_eq_false hb
 obtain rfl:=empty_of text hc
 clear hc ha hb
 subst he
 have HR:=Lib.hid hR
 clear hR
 subst hz0
 obtain ⟨m1,m2⟩:=tl_ne N hz
 clear hz
 go_enter Tryz.func117,Tryz.ntmps117
 go_wp2_with (first | (go_at_call 157;refine (known_yes _ _ h0 h1).mono ?_;rintro e w1 ⟨rfl,rfl⟩) | (go_at_call 158;refine (HR.out _).mono ?_;rintro e w1 ⟨rfl,hb1⟩))
 all_goals go_ret
 all_goals exact ⟨rfl,by repeat (first | exact Below.refl _ _ | apply Below.setCell _ (by first | omega | (simp <;> omega)) | apply Below.alloc _ (by first | omega | (simp <;> omega)) | exact hb1 | refine after ?_ hb1)⟩
theorem shaped_en_false (k : Nat) (sf st : Int) (ks : Option Addr) (n kc : Nat) (text : ByteArray) (B : Int) (N : ByteArray) (D : Int) (M : ByteArray) (num wf wt : Int) (ev : Value) (nm : ByteArray) (le : Nat) (mo : Int) (tx ty : Bool) (w : World) (h0 : 0 < k) (h1 : k < 46) (s0 : w.cell? ⟨0,k * 5,none⟩ = some (.string nm)) (s1 : w.cell? ⟨0,k * 5 + 1,none⟩ = some (.int .i64 (le : Nat))) (s2 : w.cell? ⟨0,k * 5 + 2,none⟩ = some (.int .i64 mo)) (s3 : w.cell? ⟨0,k * 5 + 3,none⟩ = some (.bool tx)) (s4 : w.cell? ⟨0,k * 5 + 4,none⟩ = some (.bool ty)) (sl : 0 < w.heap.size) (ha : ¬ n < le) (hb : ¬ mo < (n : Int)) (hc : text.size = 0) (hz0 : B = 0) (hz : N.size ≠ 0) (he : ty = true) (hR : ∀ w : World,Calls Tryz.prog 158 #[.agg #[.int .i64 B,.string N,.int .i64 D,.string M]] w fun e w'=>e = .returned (.bool false) /\ Below w.heap.size w w') :
  Calls Tryz.prog 117 #[.agg #[.int .i64 (k : Int),.int .i64 sf,.int .i64 st,.slice ks n kc,.string text,.int .i64 B,.string N,.int .i64 D,.string M,.int .i64 num,.int .i64 wf,.int .i64 wt,ev]] w fun e w'=>e = .returned (.int .i64 5) /\ Below w.heap.size w w':=by
 have q1 : decide ((n : Int) < (le : Int)) = false:=decide_eq_false (by omega)
 have q2 : decide (n < le) = false:=decide_eq_false ha
 have q3 : decide (mo < (n : Int)) = false:=decide_eq_false hb
 obtain rfl:=empty_of text hc
 clear hc ha hb
 subst he
 have HR:=Lib.hid hR
 clear hR
 subst hz0
 obtain ⟨m1,m2⟩:=tl_ne N hz
 clear hz
 go_enter Tryz.func117,Tryz.ntmps117
 go_wp2_with (first | (go_at_call 157;refine (known_yes _ _ h0 h1).mono ?_;rintro e w1 ⟨rfl,rfl⟩) | (go_at_call 158;refine (HR.out _).mono ?_;rintro e w1 ⟨rfl,hb1⟩))
 all_goals go_ret
 all_goals exact ⟨rfl,by repeat (first | exact Below.refl _ _ | apply Below.setCell _ (by first | omega | (simp <;> omega)) | apply Below.alloc _ (by first | omega | (simp <;> omega)) | exact hb1 | refine after ?_ hb1)⟩
theorem shaped_ed_f (k : Nat) (sf st : Int) (ks : Option Addr) (n kc : Nat) (text : ByteArray) (B : Int) (N : ByteArray) (D : Int) (M : ByteArray) (num wf wt : Int) (ev : Value) (nm : ByteArray) (le : Nat) (mo : Int) (tx ty : Bool) (w : World) (h0 : 0 < k) (h1 : k < 46) (s0 : w.cell? ⟨0,k * 5,none⟩ = some (.string nm)) (s1 : w.cell? ⟨0,k * 5 + 1,none⟩ = some (.int .i64 (le : Nat))) (s2 : w.cell? ⟨0,k * 5 + 2,none⟩ = some (.int .i64 mo)) (s3 : w.cell? ⟨0,k * 5 + 3,none⟩ = some (.bool tx)) (s4 : w.cell? ⟨0,k * 5 + 4,none⟩ = some (.bool ty)) (sl : 0 < w.heap.size) (ha : ¬ n < le) (hb : ¬ mo < (n : Int)) (hc : text.size = 0) (hz0 : B = 0) (hz1 : N.size = 0) (hz : ¬ D = 0) (he : ty = false) :
  Calls Tryz.prog 117 #[.agg #[.int .i64 (k : Int),.int .i64 sf,.int .i64 st,.slice ks n kc,.string text,.int .i64 B,.string N,.int .i64 D,.string M,.int .i64 num,.int .i64 wf,.int .i64 wt,ev]] w fun e w'=>e = .returned (.int .i64 5) /\ Below w.heap.size w w':=by
 have q1 : decide ((n : Int) < (le : Int)) = false:=decide_eq_false (by omega)
 have q2 : decide (n < le) = false:=decide_eq_false ha
 have q3 : decide (mo < (n : Int)) = false:=decide_eq_false hb
 obtain rfl:=empty_of text hc
 clear hc ha hb
 subst he
 subst hz0
 obtain rfl:=empty_of N hz1
 clear hz1
 go_enter Tryz.func117,Tryz.ntmps117
 go_wp2_with (go_at_call 157;refine (known_yes _ _ h0 h1).mono ?_;rintro e w1 ⟨rfl,rfl⟩)
 all_goals go_ret
 all_goals exact ⟨rfl,by repeat (first | exact Below.refl _ _ | apply Below.setCell _ (by first | omega | (simp <;> omega)) | apply Below.alloc _ (by first | omega | (simp <;> omega)))⟩
theorem shaped_ed_true (k : Nat) (sf st : Int) (ks : Option Addr) (n kc : Nat) (text : ByteArray) (B : Int) (N : ByteArray) (D : Int) (M : ByteArray) (num wf wt : Int) (ev : Value) (nm : ByteArray) (le : Nat) (mo : Int) (tx ty : Bool) (w : World) (h0 : 0 < k) (h1 : k < 46) (s0 : w.cell? ⟨0,k * 5,none⟩ = some (.string nm)) (s1 : w.cell? ⟨0,k * 5 + 1,none⟩ = some (.int .i64 (le : Nat))) (s2 : w.cell? ⟨0,k * 5 + 2,none⟩ = some (.int .i64 mo)) (s3 : w.cell? ⟨0,k * 5 + 3,none⟩ = some (.bool tx)) (s4 : w.cell? ⟨0,k * 5 + 4,none⟩ = some (.bool ty)) (sl : 0 < w.heap.size) (ha : ¬ n < le) (hb : ¬ mo < (n : Int)) (hc : text.size = 0) (hz0 : B = 0) (hz1 : N.size = 0) (hz : ¬ D = 0) (he : ty = true) (hR : ∀ w : World,Calls Tryz.prog 158 #[.agg #[.int .i64 B,.string N,.int .i64 D,.string M]] w fun e w'=>e = .returned (.bool true) /\ Below w.heap.size w w') :
  Calls Tryz.prog 117 #[.agg #[.int .i64 (k : Int),.int .i64 sf,.int .i64 st,.slice ks n kc,.string text,.int .i64 B,.string N,.int .i64 D,.string M,.int .i64 num,.int .i64 wf,.int .i64 wt,ev]] w fun e w'=>e = .returned (.int .i64 0) /\ Below w.heap.size w w':=by
 have q1 : decide ((n : Int) < (le : Int)) = false:=decide_eq_false (by omega)
 have q2 : decide (n < le) = false:=decide_eq_false ha
 have q3 : decide (mo < (n : Int)) = false:=decide_eq_false hb
 obtain rfl:=empty_of text hc
 clear hc ha hb
 subst he
 have HR:=Lib.hid hR
 clear hR
 subst hz0
 obtain rfl:=empty_of N hz1
 clear hz1
 go_enter Tryz.func117,Tryz.ntmps117
 go_wp2_with (first | (go_at_call 157;refine (known_yes _ _ h0 h1).mono ?_;rintro e w1 ⟨rfl,rfl⟩) | (go_at_call 158;refine (HR.out _).mono ?_;rintro e w1 ⟨rfl,hb1⟩))
 all_goals go_ret
 all_goals exact ⟨rfl,by repeat (first | exact Below.refl _ _ | apply Below.setCell _ (by first | omega | (simp <;> omega)) | apply Below.alloc _ (by first | omega | (simp <;> omega)) | exact hb1 | refine after ?_ hb1)⟩
theorem shaped_ed_false (k : Nat) (sf st : Int) (ks : Option Addr) (n kc : Nat) (text : ByteArray) (B : Int) (N : ByteArray) (D : Int) (M : ByteArray) (num wf wt : Int) (ev : Value) (nm : ByteArray) (le : Nat) (mo : Int) (tx ty : Bool) (w : World) (h0 : 0 < k) (h1 : k < 46) (s0 : w.cell? ⟨0,k * 5,none⟩ = some (.string nm)) (s1 : w.cell? ⟨0,k * 5 + 1,none⟩ = some (.int .i64 (le : Nat))) (s2 : w.cell? ⟨0,k * 5 + 2,none⟩ = some (.int .i64 mo)) (s3 : w.cell? ⟨0,k * 5 + 3,none⟩ = some (.bool tx)) (s4 : w.cell? ⟨0,k * 5 + 4,none⟩ = some (.bool ty)) (sl : 0 < w.heap.size) (ha : ¬ n < le) (hb : ¬ mo < (n : Int)) (hc : text.size = 0) (hz0 : B = 0) (hz1 : N.size = 0) (hz : ¬ D = 0) (he : ty = true) (hR : ∀ w : World,Calls Tryz.prog 158 #[.agg #[.int .i64 B,.string N,.int .i64 D,.string M]] w fun e w'=>e = .returned (.bool false) /\ Below w.heap.size w w') :
  Calls Tryz.prog 117 #[.agg #[.int .i64 (k : Int),.int .i64 sf,.int .i64 st,.slice ks n kc,.string text,.int .i64 B,.string N,.int .i64 D,.string M,.int .i64 num,.int .i64 wf,.int .i64 wt,ev]] w fun e w'=>e = .returned (.int .i64 5) /\ Below w.heap.size w w':=by
 have q1 : decide ((n : Int) < (le : Int)) = false:=decide_eq_false (by omega)
 have q2 : decide (n < le) = false:=decide_eq_false ha
 have q3 : decide (mo < (n : Int)) = false:=decide_eq_false hb
 obtain rfl:=empty_of text hc
 clear hc ha hb
 subst he
 have HR:=Lib.hid hR
 clear hR
 subst hz0
 obtain rfl:=empty_of N hz1
 clear hz1
 go_enter Tryz.func117,Tryz.ntmps117
 go_wp2_with (first | (go_at_call 157;refine (known_yes _ _ h0 h1).mono ?_;rintro e w1 ⟨rfl,rfl⟩) | (go_at_call 158;refine (HR.out _).mono ?_;rintro e w1 ⟨rfl,hb1⟩))
 all_goals go_ret
 all_goals exact ⟨rfl,by repeat (first | exact Below.refl _ _ | apply Below.setCell _ (by first | omega | (simp <;> omega)) | apply Below.alloc _ (by first | omega | (simp <;> omega)) | exact hb1 | refine after ?_ hb1)⟩
theorem shaped_em_f (k : Nat) (sf st : Int) (ks : Option Addr) (n kc : Nat) (text : ByteArray) (B : Int) (N : ByteArray) (D : Int) (M : ByteArray) (num wf wt : Int) (ev : Value) (nm : ByteArray) (le : Nat) (mo : Int) (tx ty : Bool) (w : World) (h0 : 0 < k) (h1 : k < 46) (s0 : w.cell? ⟨0,k * 5,none⟩ = some (.string nm)) (s1 : w.cell? ⟨0,k * 5 + 1,none⟩ = some (.int .i64 (le : Nat))) (s2 : w.cell? ⟨0,k * 5 + 2,none⟩ = some (.int .i64 mo)) (s3 : w.cell? ⟨0,k * 5 + 3,none⟩ = some (.bool tx)) (s4 : w.cell? ⟨0,k * 5 + 4,none⟩ = some (.bool ty)) (sl : 0 < w.heap.size) (ha : ¬ n < le) (hb : ¬ mo < (n : Int)) (hc : text.size = 0) (hz0 : B = 0) (hz1 : N.size = 0) (hz2 : D = 0) (hz : M.size ≠ 0) (he : ty = false) :
  Calls Tryz.prog 117 #[.agg #[.int .i64 (k : Int),.int .i64 sf,.int .i64 st,.slice ks n kc,.string text,.int .i64 B,.string N,.int .i64 D,.string M,.int .i64 num,.int .i64 wf,.int .i64 wt,ev]] w fun e w'=>e = .returned (.int .i64 5) /\ Below w.heap.size w w':=by
 have q1 : decide ((n : Int) < (le : Int)) = false:=decide_eq_false (by omega)
 have q2 : decide (n < le) = false:=decide_eq_false ha
 have q3 : decide (mo < (n : Int)) = false:=decide_eq_false hb
 obtain rfl:=empty_of text hc
 clear hc ha hb
 subst he
 subst hz0
 obtain rfl:=empty_of N hz1
 subst hz2
 obtain ⟨m1,m2⟩:=tl_ne M hz
 clear hz hz1
 go_enter Tryz.func117,Tryz.ntmps117
 go_wp2_with (go_at_call 157;refine (known_yes _ _ h0 h1).mono ?_;rintro e w1 ⟨rfl,rfl⟩)
 all_goals go_ret
 all_goals exact ⟨rfl,by repeat (first | exact Below.refl _ _ | apply Below.setCell _ (by first | omega | (simp <;> omega)) | apply Below.alloc _ (by first | omega | (simp <;> omega)))⟩
theorem shaped_em_true (k : Nat) (sf st : Int) (ks : Option Addr) (n kc : Nat) (text : ByteArray) (B : Int) (N : ByteArray) (D : Int) (M : ByteArray) (num wf wt : Int) (ev : Value) (nm : ByteArray) (le : Nat) (mo : Int) (tx ty : Bool) (w : World) (h0 : 0 < k) (h1 : k < 46) (s0 : w.cell? ⟨0,k * 5,none⟩ = some (.string nm)) (s1 : w.cell? ⟨0,k * 5 + 1,none⟩ = some (.int .i64 (le : Nat))) (s2 : w.cell? ⟨0,k * 5 + 2,none⟩ = some (.int .i64 mo)) (s3 : w.cell? ⟨0,k * 5 + 3,none⟩ = some (.bool tx)) (s4 : w.cell? ⟨0,k * 5 + 4,none⟩ = some (.bool ty)) (sl : 0 < w.heap.size) (ha : ¬ n < le) (hb : ¬ mo < (n : Int)) (hc : text.size = 0) (hz0 : B = 0) (hz1 : N.size = 0) (hz2 : D = 0) (hz : M.size ≠ 0) (he : ty = true) (hR : ∀ w : World,Calls Tryz.prog 158 #[.agg #[.int .i64 B,.string N,.int .i64 D,.string M]] w fun e w'=>e = .returned (.bool true) /\ Below w.heap.size w w') :
  Calls Tryz.prog 117 #[.agg #[.int .i64 (k : Int),.int .i64 sf,.int .i64 st,.slice ks n kc,.string text,.int .i64 B,.string N,.int .i64 D,.string M,.int .i64 num,.int .i64 wf,.int .i64 wt,ev]] w fun e w'=>e = .returned (.int .i64 0) /\ Below w.heap.size w w':=by
 have q1 : decide ((n : Int) < (le : Int)) = false:=decide_eq_false (by omega)
 have q2 : decide (n < le) = false:=decide_eq_false ha
 have q3 : decide (mo < (n : Int)) = false:=decide_eq_false hb
 obtain rfl:=empty_of text hc
 clear hc ha hb
 subst he
 have HR:=Lib.hid hR
 clear hR
 subst hz0
 obtain rfl:=empty_of N hz1
 subst hz2
 obtain ⟨m1,m2⟩:=tl_ne M hz
 clear hz hz1
 go_enter Tryz.func117,Tryz.ntmps117
 go_wp2_with (first | (go_at_call 157;refine (known_yes _ _ h0 h1).mono ?_;rintro e w1 ⟨rfl,rfl⟩) | (go_at_call 158;refine (HR.out _).mono ?_;rintro e w1 ⟨rfl,hb1⟩))
 all_goals go_ret
 all_goals exact ⟨rfl,by repeat (first | exact Below.refl _ _ | apply Below.setCell _ (by first | omega | (simp <;> omega)) | apply Below.alloc _ (by first | omega | (simp <;> omega)) | exact hb1 | refine after ?_ hb1)⟩
theorem shaped_em_false (k : Nat) (sf st : Int) (ks : Option Addr) (n kc : Nat) (text : ByteArray) (B : Int) (N : ByteArray) (D : Int) (M : ByteArray) (num wf wt : Int) (ev : Value) (nm : ByteArray) (le : Nat) (mo : Int) (tx ty : Bool) (w : World) (h0 : 0 < k) (h1 : k < 46) (s0 : w.cell? ⟨0,k * 5,none⟩ = some (.string nm)) (s1 : w.cell? ⟨0,k * 5 + 1,none⟩ = some (.int .i64 (le : Nat))) (s2 : w.cell? ⟨0,k * 5 + 2,none⟩ = some (.int .i64 mo)) (s3 : w.cell? ⟨0,k * 5 + 3,none⟩ = some (.bool tx)) (s4 : w.cell? ⟨0,k * 5 + 4,none⟩ = some (.bool ty)) (sl : 0 < w.heap.size) (ha : ¬ n < le) (hb : ¬ mo < (n : Int)) (hc : text.size = 0) (hz0 : B = 0) (hz1 : N.size = 0) (hz2 : D = 0) (hz : M.size ≠ 0) (he : ty = true) (hR : ∀ w : World,Calls Tryz.prog 158 #[.agg #[.int .i64 B,.string N,.int .i64 D,.string M]] w fun e w'=>e = .returned (.bool false) /\ Below w.heap.size w w') :
  Calls Tryz.prog 117 #[.agg #[.int .i64 (k : Int),.int .i64 sf,.int .i64 st,.slice ks n kc,.string text,.int .i64 B,.string N,.int .i64 D,.string M,.int .i64 num,.int .i64 wf,.int .i64 wt,ev]] w fun e w'=>e = .returned (.int .i64 5) /\ Below w.heap.size w w':=by
 have q1 : decide ((n : Int) < (le : Int)) = false:=decide_eq_false (by omega)
 have q2 : decide (n < le) = false:=decide_eq_false ha
 have q3 : decide (mo < (n : Int)) = false:=decide_eq_false hb
 obtain rfl:=empty_of text hc
 clear hc ha hb
 subst he
 have HR:=Lib.hid hR
 clear hR
 subst hz0
 obtain rfl:=empty_of N hz1
 subst hz2
 obtain ⟨m1,m2⟩:=tl_ne M hz
 clear hz hz1
 go_enter Tryz.func117,Tryz.ntmps117
 go_wp2_with (first | (go_at_call 157;refine (known_yes _ _ h0 h1).mono ?_;rintro e w1 ⟨rfl,rfl⟩) | (go_at_call 158;refine (HR.out _).mono ?_;rintro e w1 ⟨rfl,hb1⟩))
 all_goals go_ret
 all_goals exact ⟨rfl,by repeat (first | exact Below.refl _ _ | apply Below.setCell _ (by first | omega | (simp <;> omega)) | apply Below.alloc _ (by first | omega | (simp <;> omega)) | exact hb1 | refine after ?_ hb1)⟩
theorem shaped_tz_f (k : Nat) (sf st : Int) (ks : Option Addr) (n kc : Nat) (text : ByteArray) (B : Int) (N : ByteArray) (D : Int) (M : ByteArray) (num wf wt : Int) (ev : Value) (nm : ByteArray) (le : Nat) (mo : Int) (tx ty : Bool) (w : World) (h0 : 0 < k) (h1 : k < 46) (s0 : w.cell? ⟨0,k * 5,none⟩ = some (.string nm)) (s1 : w.cell? ⟨0,k * 5 + 1,none⟩ = some (.int .i64 (le : Nat))) (s2 : w.cell? ⟨0,k * 5 + 2,none⟩ = some (.int .i64 mo)) (s3 : w.cell? ⟨0,k * 5 + 3,none⟩ = some (.bool tx)) (s4 : w.cell? ⟨0,k * 5 + 4,none⟩ = some (.bool ty)) (sl : 0 < w.heap.size) (ha : ¬ n < le) (hb : ¬ mo < (n : Int)) (hc : text.size ≠ 0) (hd : tx = true) (hz : B = 0 /\ N.size = 0 /\ D = 0 /\ M.size = 0) (he : ty = false) :
  Calls Tryz.prog 117 #[.agg #[.int .i64 (k : Int),.int .i64 sf,.int .i64 st,.slice ks n kc,.string text,.int .i64 B,.string N,.int .i64 D,.string M,.int .i64 num,.int .i64 wf,.int .i64 wt,ev]] w fun e w'=>e = .returned (.int .i64 0) /\ Below w.heap.size w w':=by
 have q1 : decide ((n : Int) < (le : Int)) = false:=decide_eq_false (by omega)
 have q2 : decide (n < le) = false:=decide_eq_false ha
 have q3 : decide (mo < (n : Int)) = false:=decide_eq_false hb
 subst hd
 obtain ⟨n1,n2⟩:=tl_ne text hc
 clear hc ha hb
 subst he
 obtain ⟨rfl,z1,rfl,z3⟩:=hz
 obtain rfl:=empty_of N z1
 obtain rfl:=empty_of M z3
 clear z1 z3
 go_enter Tryz.func117,Tryz.ntmps117
 go_wp2_with (go_at_call 157;refine (known_yes _ _ h0 h1).mono ?_;rintro e w1 ⟨rfl,rfl⟩)
 all_goals go_ret
 all_goals exact ⟨rfl,by repeat (first | exact Below.refl _ _ | apply Below.setCell _ (by first | omega | (simp <;> omega)) | apply Below.alloc _ (by first | omega | (simp <;> omega)))⟩
theorem shaped_tz_false (k : Nat) (sf st : Int) (ks : Option Addr) (n kc : Nat) (text : ByteArray) (B : Int) (N : ByteArray) (D : Int) (M : ByteArray) (num wf wt : Int) (ev : Value) (nm : ByteArray) (le : Nat) (mo : Int) (tx ty : Bool) (w : World) (h0 : 0 < k) (h1 : k < 46) (s0 : w.cell? ⟨0,k * 5,none⟩ = some (.string nm)) (s1 : w.cell? ⟨0,k * 5 + 1,none⟩ = some (.int .i64 (le : Nat))) (s2 : w.cell? ⟨0,k * 5 + 2,none⟩ = some (.int .i64 mo)) (s3 : w.cell? ⟨0,k * 5 + 3,none⟩ = some (.bool tx)) (s4 : w.cell? ⟨0,k * 5 + 4,none⟩ = some (.bool ty)) (sl : 0 < w.heap.size) (ha : ¬ n < le) (hb : ¬ mo < (n : Int)) (hc : text.size ≠ 0) (hd : tx = true) (hz : B = 0 /\ N.size = 0 /\ D = 0 /\ M.size = 0) (he : ty = true) (hR : ∀ w : World,Calls Tryz.prog 158 #[.agg #[.int .i64 B,.string N,.int .i64 D,.string M]] w fun e w'=>e = .returned (.bool false) /\ Below w.heap.size w w') :
  Calls Tryz.prog 117 #[.agg #[.int .i64 (k : Int),.int .i64 sf,.int .i64 st,.slice ks n kc,.string text,.int .i64 B,.string N,.int .i64 D,.string M,.int .i64 num,.int .i64 wf,.int .i64 wt,ev]] w fun e w'=>e = .returned (.int .i64 5) /\ Below w.heap.size w w':=by
 have q1 : decide ((n : Int) < (le : Int)) = false:=decide_eq_false (by omega)
 have q2 : decide (n < le) = false:=decide_eq_false ha
 have q3 : decide (mo < (n : Int)) = false:=decide_eq_false hb
 subst hd
 obtain ⟨n1,n2⟩:=tl_ne text hc
 clear hc ha hb
 subst he
 have HR:=Lib.hid hR
 clear hR
 obtain ⟨rfl,z1,rfl,z3⟩:=hz
 obtain rfl:=empty_of N z1
 obtain rfl:=empty_of M z3
 clear z1 z3
 go_enter Tryz.func117,Tryz.ntmps117
 go_wp2_with (first | (go_at_call 157;refine (known_yes _ _ h0 h1).mono ?_;rintro e w1 ⟨rfl,rfl⟩) | (go_at_call 158;refine (HR.out _).mono ?_;rintro e w1 ⟨rfl,hb1⟩))
 all_goals go_ret
 all_goals exact ⟨rfl,by repeat (first | exact Below.refl _ _ | apply Below.setCell _ (by first | omega | (simp <;> omega)) | apply Below.alloc _ (by first | omega | (simp <;> omega)) | exact hb1 | refine after ?_ hb1)⟩
theorem shaped_tb_f (k : Nat) (sf st : Int) (ks : Option Addr) (n kc : Nat) (text : ByteArray) (B : Int) (N : ByteArray) (D : Int) (M : ByteArray) (num wf wt : Int) (ev : Value) (nm : ByteArray) (le : Nat) (mo : Int) (tx ty : Bool) (w : World) (h0 : 0 < k) (h1 : k < 46) (s0 : w.cell? ⟨0,k * 5,none⟩ = some (.string nm)) (s1 : w.cell? ⟨0,k * 5 + 1,none⟩ = some (.int .i64 (le : Nat))) (s2 : w.cell? ⟨0,k * 5 + 2,none⟩ = some (.int .i64 mo)) (s3 : w.cell? ⟨0,k * 5 + 3,none⟩ = some (.bool tx)) (s4 : w.cell? ⟨0,k * 5 + 4,none⟩ = some (.bool ty)) (sl : 0 < w.heap.size) (ha : ¬ n < le) (hb : ¬ mo < (n : Int)) (hc : text.size ≠ 0) (hd : tx = true) (hz : ¬ B = 0) (he : ty = false) :
  Calls Tryz.prog 117 #[.agg #[.int .i64 (k : Int),.int .i64 sf,.int .i64 st,.slice ks n kc,.string text,.int .i64 B,.string N,.int .i64 D,.string M,.int .i64 num,.int .i64 wf,.int .i64 wt,ev]] w fun e w'=>e = .returned (.int .i64 5) /\ Below w.heap.size w w':=by
 have q1 : decide ((n : Int) < (le : Int)) = false:=decide_eq_false (by omega)
 have q2 : decide (n < le) = false:=decide_eq_false ha
 have q3 : decide (mo < (n : Int)) = false:=decide_eq_false hb
 subst hd
 obtain ⟨n1,n2⟩:=tl_ne text hc
 clear hc ha hb
 subst he
 go_enter Tryz.func117,Tryz.ntmps117
 go_wp2_with (go_at_call 157;refine (known_yes _ _ h0 h1).mono ?_;rintro e w1 ⟨rfl,rfl⟩)
 all_goals go_ret
 all_goals exact ⟨rfl,by repeat (first | exact Below.refl _ _ | apply Below.setCell _ (by first | omega | (simp <;> omega)) | apply Below.alloc _ (by first | omega | (simp <;> omega)))⟩
theorem shaped_tb_true (k : Nat) (sf st : Int) (ks : Option Addr) (n kc : Nat) (text : ByteArray) (B : Int) (N : ByteArray) (D : Int) (M : ByteArray) (num wf wt : Int) (ev : Value) (nm : ByteArray) (le : Nat) (mo : Int) (tx ty : Bool) (w : World) (h0 : 0 < k) (h1 : k < 46) (s0 : w.cell? ⟨0,k * 5,none⟩ = some (.string nm)) (s1 : w.cell? ⟨0,k * 5 + 1,none⟩ = some (.int .i64 (le : Nat))) (s2 : w.cell? ⟨0,k * 5 + 2,none⟩ = some (.int .i64 mo)) (s3 : w.cell? ⟨0,k * 5 + 3,none⟩ = some (.bool tx)) (s4 : w.cell? ⟨0,k * 5 + 4,none⟩ = some (.bool ty)) (sl : 0 < w.heap.size) (ha : ¬ n < le) (hb : ¬ mo < (n : Int)) (hc : text.size ≠ 0) (hd : tx = true) (hz : ¬ B = 0) (he : ty = true) (hR : ∀ w : World,Calls Tryz.prog 158 #[.agg #[.int .i64 B,.string N,.int .i64 D,.string M]] w fun e w'=>e = .returned (.bool true) /\ Below w.heap.size w w') :
  Calls Tryz.prog 117 #[.agg #[.int .i64 (k : Int),.int .i64 sf,.int .i64 st,.slice ks n kc,.string text,.int .i64 B,.string N,.int .i64 D,.string M,.int .i64 num,.int .i64 wf,.int .i64 wt,ev]] w fun e w'=>e = .returned (.int .i64 0) /\ Below w.heap.size w w':=by
 have q1 : decide ((n : Int) < (le : Int)) = false:=decide_eq_false (by omega)
 have q2 : decide (n < le) = false:=decide_eq_false ha
 have q3 : decide (mo < (n : Int)) = false:=decide_eq_false hb
 subst hd
 obtain ⟨n1,n2⟩:=tl_ne text hc
 clear hc ha hb
 subst he
 have HR:=Lib.hid hR
 clear hR
 go_enter Tryz.func117,Tryz.ntmps117
 go_wp2_with (first | (go_at_call 157;refine (known_yes _ _ h0 h1).mono ?_;rintro e w1 ⟨rfl,rfl⟩) | (go_at_call 158;refine (HR.out _).mono ?_;rintro e w1 ⟨rfl,hb1⟩))
 all_goals go_ret
 all_goals exact ⟨rfl,by repeat (first | exact Below.refl _ _ | apply Below.setCell _ (by first | omega | (simp <;> omega)) | apply Below.alloc _ (by first | omega | (simp <;> omega)) | exact hb1 | refine after ?_ hb1)⟩
theorem shaped_tb_false (k : Nat) (sf st : Int) (ks : Option Addr) (n kc : Nat) (text : ByteArray) (B : Int) (N : ByteArray) (D : Int) (M : ByteArray) (num wf wt : Int) (ev : Value) (nm : ByteArray) (le : Nat) (mo : Int) (tx ty : Bool) (w : World) (h0 : 0 < k) (h1 : k < 46) (s0 : w.cell? ⟨0,k * 5,none⟩ = some (.string nm)) (s1 : w.cell? ⟨0,k * 5 + 1,none⟩ = some (.int .i64 (le : Nat))) (s2 : w.cell? ⟨0,k * 5 + 2,none⟩ = some (.int .i64 mo)) (s3 : w.cell? ⟨0,k * 5 + 3,none⟩ = some (.bool tx)) (s4 : w.cell? ⟨0,k * 5 + 4,none⟩ = some (.bool ty)) (sl : 0 < w.heap.size) (ha : ¬ n < le) (hb : ¬ mo < (n : Int)) (hc : text.size ≠ 0) (hd : tx = true) (hz : ¬ B = 0) (he : ty = true) (hR : ∀ w : World,Calls Tryz.prog 158 #[.agg #[.int .i64 B,.string N,.int .i64 D,.string M]] w fun e w'=>e = .returned (.bool false) /\ Below w.heap.size w w') :
  Calls Tryz.prog 117 #[.agg #[.int .i64 (k : Int),.int .i64 sf,.int .i64 st,.slice ks n kc,.string text,.int .i64 B,.string N,.int .i64 D,.string M,.int .i64 num,.int .i64 wf,.int .i64 wt,ev]] w fun e w'=>e = .returned (.int .i64 5) /\ Below w.heap.size w w':=by
 have q1 : decide ((n : Int) < (le : Int)) = false:=decide_eq_false (by omega)
 have q2 : decide (n < le) = false:=decide_eq_false ha
 have q3 : decide (mo < (n : Int)) = false:=decide_eq_false hb
 subst hd
 obtain ⟨n1,n2⟩:=tl_ne text hc
 clear hc ha hb
 subst he
 have HR:=Lib.hid hR
 clear hR
 go_enter Tryz.func117,Tryz.ntmps117
 go_wp2_with (first | (go_at_call 157;refine (known_yes _ _ h0 h1).mono ?_;rintro e w1 ⟨rfl,rfl⟩) | (go_at_call 158;refine (HR.out _).mono ?_;rintro e w1 ⟨rfl,hb1⟩))
 all_goals go_ret
 all_goals exact ⟨rfl,by repeat (first | exact Below.refl _ _ | apply Below.setCell _ (by first | omega | (simp <;> omega)) | apply Below.alloc _ (by first | omega | (simp <;> omega)) | exact hb1 | refine after ?_ hb1)⟩
theorem shaped_tn_f (k : Nat) (sf st : Int) (ks : Option Addr) (n kc : Nat) (text : ByteArray) (B : Int) (N : ByteArray) (D : Int) (M : ByteArray) (num wf wt : Int) (ev : Value) (nm : ByteArray) (le : Nat) (mo : Int) (tx ty : Bool) (w : World) (h0 : 0 < k) (h1 : k < 46) (s0 : w.cell? ⟨0,k * 5,none⟩ = some (.string nm)) (s1 : w.cell? ⟨0,k * 5 + 1,none⟩ = some (.int .i64 (le : Nat))) (s2 : w.cell? ⟨0,k * 5 + 2,none⟩ = some (.int .i64 mo)) (s3 : w.cell? ⟨0,k * 5 + 3,none⟩ = some (.bool tx)) (s4 : w.cell? ⟨0,k * 5 + 4,none⟩ = some (.bool ty)) (sl : 0 < w.heap.size) (ha : ¬ n < le) (hb : ¬ mo < (n : Int)) (hc : text.size ≠ 0) (hd : tx = true) (hz0 : B = 0) (hz : N.size ≠ 0) (he : ty = false) :
  Calls Tryz.prog 117 #[.agg #[.int .i64 (k : Int),.int .i64 sf,.int .i64 st,.slice ks n kc,.string text,.int .i64 B,.string N,.int .i64 D,.string M,.int .i64 num,.int .i64 wf,.int .i64 wt,ev]] w fun e w'=>e = .returned (.int .i64 5) /\ Below w.heap.size w w':=by
 have q1 : decide ((n : Int) < (le : Int)) = false:=decide_eq_false (by omega)
 have q2 : decide (n < le) = false:=decide_eq_false ha
 have q3 : decide (mo < (n : Int)) = false:=decide_eq_false hb
 subst hd
 obtain ⟨n1,n2⟩:=tl_ne text hc
 clear hc ha hb
 subst he
 subst hz0
 obtain ⟨m1,m2⟩:=tl_ne N hz
 clear hz
 go_enter Tryz.func117,Tryz.ntmps117
 go_wp2_with (go_at_call 157;refine (known_yes _ _ h0 h1).mono ?_;rintro e w1 ⟨rfl,rfl⟩)
 all_goals go_ret
 all_goals exact ⟨rfl,by repeat (first | exact Below.refl _ _ | apply Below.setCell _ (by first | omega | (simp <;> omega)) | apply Below.alloc _ (by first | omega | (simp <;> omega)))⟩
theorem shaped_tn_true (k : Nat) (sf st : Int) (ks : Option Addr) (n kc : Nat) (text : ByteArray) (B : Int) (N : ByteArray) (D : Int) (M : ByteArray) (num wf wt : Int) (ev : Value) (nm : ByteArray) (le : Nat) (mo : Int) (tx ty : Bool) (w : World) (h0 : 0 < k) (h1 : k < 46) (s0 : w.cell? ⟨0,k * 5,none⟩ = some (.string nm)) (s1 : w.cell? ⟨0,k * 5 + 1,none⟩ = some (.int .i64 (le : Nat))) (s2 : w.cell? ⟨0,k * 5 + 2,none⟩ = some (.int .i64 mo)) (s3 : w.cell? ⟨0,k * 5 + 3,none⟩ = some (.bool tx)) (s4 : w.cell? ⟨0,k * 5 + 4,none⟩ = some (.bool ty)) (sl : 0 < w.heap.size) (ha : ¬ n < le) (hb : ¬ mo < (n : Int)) (hc : text.size ≠ 0) (hd : tx = true) (hz0 : B = 0) (hz : N.size ≠ 0) (he : ty = true) (hR : ∀ w : World,Calls Tryz.prog 158 #[.agg #[.int .i64 B,.string N,.int .i64 D,.string M]] w fun e w'=>e = .returned (.bool true) /\ Below w.heap.size w w') :
  Calls Tryz.prog 117 #[.agg #[.int .i64 (k : Int),.int .i64 sf,.int .i64 st,.slice ks n kc,.string text,.int .i64 B,.string N,.int .i64 D,.string M,.int .i64 num,.int .i64 wf,.int .i64 wt,ev]] w fun e w'=>e = .returned (.int .i64 0) /\ Below w.heap.size w w':=by
 have q1 : decide ((n : Int) < (le : Int)) = false:=decide_eq_false (by omega)
 have q2 : decide (n < le) = false:=decide_eq_false ha
 have q3 : decide (mo < (n : Int)) = false:=decide_eq_false hb
 subst hd
 obtain ⟨n1,n2⟩:=tl_ne text hc
 clear hc ha hb
 subst he
 have HR:=Lib.hid hR
 clear hR
 subst hz0
 obtain ⟨m1,m2⟩:=tl_ne N hz
 clear hz
 go_enter Tryz.func117,Tryz.ntmps117
 go_wp2_with (first | (go_at_call 157;refine (known_yes _ _ h0 h1).mono ?_;rintro e w1 ⟨rfl,rfl⟩) | (go_at_call 158;refine (HR.out _).mono ?_;rintro e w1 ⟨rfl,hb1⟩))
 all_goals go_ret
 all_goals exact ⟨rfl,by repeat (first | exact Below.refl _ _ | apply Below.setCell _ (by first | omega | (simp <;> omega)) | apply Below.alloc _ (by first | omega | (simp <;> omega)) | exact hb1 | refine after ?_ hb1)⟩
theorem shaped_tn_false (k : Nat) (sf st : Int) (ks : Option Addr) (n kc : Nat) (text : ByteArray) (B : Int) (N : ByteArray) (D : Int) (M : ByteArray) (num wf wt : Int) (ev : Value) (nm : ByteArray) (le : Nat) (mo : Int) (tx ty : Bool) (w : World) (h0 : 0 < k) (h1 : k < 46) (s0 : w.cell? ⟨0,k * 5,none⟩ = some (.string nm)) (s1 : w.cell? ⟨0,k * 5 + 1,none⟩ = some (.int .i64 (le : Nat))) (s2 : w.cell? ⟨0,k * 5 + 2,none⟩ = some (.int .i64 mo)) (s3 : w.cell? ⟨0,k * 5 + 3,none⟩ = some (.bool tx)) (s4 : w.cell? ⟨0,k * 5 + 4,none⟩ = some (.bool ty)) (sl : 0 < w.heap.size) (ha : ¬ n < le) (hb : ¬ mo < (n : Int)) (hc : text.size ≠ 0) (hd : tx = true) (hz0 : B = 0) (hz : N.size ≠ 0) (he : ty = true) (hR : ∀ w : World,Calls Tryz.prog 158 #[.agg #[.int .i64 B,.string N,.int .i64 D,.string M]] w fun e w'=>e = .returned (.bool false) /\ Below w.heap.size w w') :
  Calls Tryz.prog 117 #[.agg #[.int .i64 (k : Int),.int .i64 sf,.int .i64 st,.slice ks n kc,.string text,.int .i64 B,.string N,.int .i64 D,.string M,.int .i64 num,.int .i64 wf,.int .i64 wt,ev]] w fun e w'=>e = .returned (.int .i64 5) /\ Below w.heap.size w w':=by
 have q1 : decide ((n : Int) < (le : Int)) = false:=decide_eq_false (by omega)
 have q2 : decide (n < le) = false:=decide_eq_false ha
 have q3 : decide (mo < (n : Int)) = false:=decide_eq_false hb
 subst hd
 obtain ⟨n1,n2⟩:=tl_ne text hc
 clear hc ha hb
 subst he
 have HR:=Lib.hid hR
 clear hR
 subst hz0
 obtain ⟨m1,m2⟩:=tl_ne N hz
 clear hz
 go_enter Tryz.func117,Tryz.ntmps117
 go_wp2_with (first | (go_at_call 157;refine (known_yes _ _ h0 h1).mono ?_;rintro e w1 ⟨rfl,rfl⟩) | (go_at_call 158;refine (HR.out _).mono ?_;rintro e w1 ⟨rfl,hb1⟩))
 all_goals go_ret
 all_goals exact ⟨rfl,by repeat (first | exact Below.refl _ _ | apply Below.setCell _ (by first | omega | (simp <;> omega)) | apply Below.alloc _ (by first | omega | (simp <;> omega)) | exact hb1 | refine after ?_ hb1)⟩
theorem shaped_td_f (k : Nat) (sf st : Int) (ks : Option Addr) (n kc : Nat) (text : ByteArray) (B : Int) (N : ByteArray) (D : Int) (M : ByteArray) (num wf wt : Int) (ev : Value) (nm : ByteArray) (le : Nat) (mo : Int) (tx ty : Bool) (w : World) (h0 : 0 < k) (h1 : k < 46) (s0 : w.cell? ⟨0,k * 5,none⟩ = some (.string nm)) (s1 : w.cell? ⟨0,k * 5 + 1,none⟩ = some (.int .i64 (le : Nat))) (s2 : w.cell? ⟨0,k * 5 + 2,none⟩ = some (.int .i64 mo)) (s3 : w.cell? ⟨0,k * 5 + 3,none⟩ = some (.bool tx)) (s4 : w.cell? ⟨0,k * 5 + 4,none⟩ = some (.bool ty)) (sl : 0 < w.heap.size) (ha : ¬ n < le) (hb : ¬ mo < (n : Int)) (hc : text.size ≠ 0) (hd : tx = true) (hz0 : B = 0) (hz1 : N.size = 0) (hz : ¬ D = 0) (he : ty = false) :
  Calls Tryz.prog 117 #[.agg #[.int .i64 (k : Int),.int .i64 sf,.int .i64 st,.slice ks n kc,.string text,.int .i64 B,.string N,.int .i64 D,.string M,.int .i64 num,.int .i64 wf,.int .i64 wt,ev]] w fun e w'=>e = .returned (.int .i64 5) /\ Below w.heap.size w w':=by
 have q1 : decide ((n : Int) < (le : Int)) = false:=decide_eq_false (by omega)
 have q2 : decide (n < le) = false:=decide_eq_false ha
 have q3 : decide (mo < (n : Int)) = false:=decide_eq_false hb
 subst hd
 obtain ⟨n1,n2⟩:=tl_ne text hc
 clear hc ha hb
 subst he
 subst hz0
 obtain rfl:=empty_of N hz1
 clear hz1
 go_enter Tryz.func117,Tryz.ntmps117
 go_wp2_with (go_at_call 157;refine (known_yes _ _ h0 h1).mono ?_;rintro e w1 ⟨rfl,rfl⟩)
 all_goals go_ret
 all_goals exact ⟨rfl,by repeat (first | exact Below.refl _ _ | apply Below.setCell _ (by first | omega | (simp <;> omega)) | apply Below.alloc _ (by first | omega | (simp <;> omega)))⟩
theorem shaped_td_true (k : Nat) (sf st : Int) (ks : Option Addr) (n kc : Nat) (text : ByteArray) (B : Int) (N : ByteArray) (D : Int) (M : ByteArray) (num wf wt : Int) (ev : Value) (nm : ByteArray) (le : Nat) (mo : Int) (tx ty : Bool) (w : World) (h0 : 0 < k) (h1 : k < 46) (s0 : w.cell? ⟨0,k * 5,none⟩ = some (.string nm)) (s1 : w.cell? ⟨0,k * 5 + 1,none⟩ = some (.int .i64 (le : Nat))) (s2 : w.cell? ⟨0,k * 5 + 2,none⟩ = some (.int .i64 mo)) (s3 : w.cell? ⟨0,k * 5 + 3,none⟩ = some (.bool tx)) (s4 : w.cell? ⟨0,k * 5 + 4,none⟩ = some (.bool ty)) (sl : 0 < w.heap.size) (ha : ¬ n < le) (hb : ¬ mo < (n : Int)) (hc : text.size ≠ 0) (hd : tx = true) (hz0 : B = 0) (hz1 : N.size = 0) (hz : ¬ D = 0) (he : ty = true) (hR : ∀ w : World,Calls Tryz.prog 158 #[.agg #[.int .i64 B,.string N,.int .i64 D,.string M]] w fun e w'=>e = .returned (.bool true) /\ Below w.heap.size w w') :
  Calls Tryz.prog 117 #[.agg #[.int .i64 (k : Int),.int .i64 sf,.int .i64 st,.slice ks n kc,.string text,.int .i64 B,.string N,.int .i64 D,.string M,.int .i64 num,.int .i64 wf,.int .i64 wt,ev]] w fun e w'=>e = .returned (.int .i64 0) /\ Below w.heap.size w w':=by
 have q1 : decide ((n : Int) < (le : Int)) = false:=decide_eq_false (by omega)
 have q2 : decide (n < le) = false:=decide_eq_false ha
 have q3 : decide (mo < (n : Int)) = false:=decide_eq_false hb
 subst hd
 obtain ⟨n1,n2⟩:=tl_ne text hc
 clear hc ha hb
 subst he
 have HR:=Lib.hid hR
 clear hR
 subst hz0
 obtain rfl:=empty_of N hz1
 clear hz1
 go_enter Tryz.func117,Tryz.ntmps117
 go_wp2_with (first | (go_at_call 157;refine (known_yes _ _ h0 h1).mono ?_;rintro e w1 ⟨rfl,rfl⟩) | (go_at_call 158;refine (HR.out _).mono ?_;rintro e w1 ⟨rfl,hb1⟩))
 all_goals go_ret
 all_goals exact ⟨rfl,by repeat (first | exact Below.refl _ _ | apply Below.setCell _ (by first | omega | (simp <;> omega)) | apply Below.alloc _ (by first | omega | (simp <;> omega)) | exact hb1 | refine after ?_ hb1)⟩
theorem shaped_td_false (k : Nat) (sf st : Int) (ks : Option Addr) (n kc : Nat) (text : ByteArray) (B : Int) (N : ByteArray) (D : Int) (M : ByteArray) (num wf wt : Int) (ev : Value) (nm : ByteArray) (le : Nat) (mo : Int) (tx ty : Bool) (w : World) (h0 : 0 < k) (h1 : k < 46) (s0 : w.cell? ⟨0,k * 5,none⟩ = some (.string nm)) (s1 : w.cell? ⟨0,k * 5 + 1,none⟩ = some (.int .i64 (le : Nat))) (s2 : w.cell? ⟨0,k * 5 + 2,none⟩ = some (.int .i64 mo)) (s3 : w.cell? ⟨0,k * 5 + 3,none⟩ = some (.bool tx)) (s4 : w.cell? ⟨0,k * 5 + 4,none⟩ = some (.bool ty)) (sl : 0 < w.heap.size) (ha : ¬ n < le) (hb : ¬ mo < (n : Int)) (hc : text.size ≠ 0) (hd : tx = true) (hz0 : B = 0) (hz1 : N.size = 0) (hz : ¬ D = 0) (he : ty = true) (hR : ∀ w : World,Calls Tryz.prog 158 #[.agg #[.int .i64 B,.string N,.int .i64 D,.string M]] w fun e w'=>e = .returned (.bool false) /\ Below w.heap.size w w') :
  Calls Tryz.prog 117 #[.agg #[.int .i64 (k : Int),.int .i64 sf,.int .i64 st,.slice ks n kc,.string text,.int .i64 B,.string N,.int .i64 D,.string M,.int .i64 num,.int .i64 wf,.int .i64 wt,ev]] w fun e w'=>e = .returned (.int .i64 5) /\ Below w.heap.size w w':=by
 have q1 : decide ((n : Int) < (le : Int)) = false:=decide_eq_false (by omega)
 have q2 : decide (n < le) = false:=decide_eq_false ha
 have q3 : decide (mo < (n : Int)) = false:=decide_eq_false hb
 subst hd
 obtain ⟨n1,n2⟩:=tl_ne text hc
 clear hc ha hb
 subst he
 have HR:=Lib.hid hR
 clear hR
 subst hz0
 obtain rfl:=empty_of N hz1
 clear hz1
 go_enter Tryz.func117,Tryz.ntmps117
 go_wp2_with (first | (go_at_call 157;refine (known_yes _ _ h0 h1).mono ?_;rintro e w1 ⟨rfl,rfl⟩) | (go_at_call 158;refine (HR.out _).mono ?_;rintro e w1 ⟨rfl,hb1⟩))
 all_goals go_ret
 all_goals exact ⟨rfl,by repeat (first | exact Below.refl _ _ | apply Below.setCell _ (by first | omega | (simp <;> omega)) | apply Below.alloc _ (by first | omega | (simp <;> omega)) | exact hb1 | refine after ?_ hb1)⟩
theorem shaped_tm_f (k : Nat) (sf st : Int) (ks : Option Addr) (n kc : Nat) (text : ByteArray) (B : Int) (N : ByteArray) (D : Int) (M : ByteArray) (num wf wt : Int) (ev : Value) (nm : ByteArray) (le : Nat) (mo : Int) (tx ty : Bool) (w : World) (h0 : 0 < k) (h1 : k < 46) (s0 : w.cell? ⟨0,k * 5,none⟩ = some (.string nm)) (s1 : w.cell? ⟨0,k * 5 + 1,none⟩ = some (.int .i64 (le : Nat))) (s2 : w.cell? ⟨0,k * 5 + 2,none⟩ = some (.int .i64 mo)) (s3 : w.cell? ⟨0,k * 5 + 3,none⟩ = some (.bool tx)) (s4 : w.cell? ⟨0,k * 5 + 4,none⟩ = some (.bool ty)) (sl : 0 < w.heap.size) (ha : ¬ n < le) (hb : ¬ mo < (n : Int)) (hc : text.size ≠ 0) (hd : tx = true) (hz0 : B = 0) (hz1 : N.size = 0) (hz2 : D = 0) (hz : M.size ≠ 0) (he : ty = false) :
  Calls Tryz.prog 117 #[.agg #[.int .i64 (k : Int),.int .i64 sf,.int .i64 st,.slice ks n kc,.string text,.int .i64 B,.string N,.int .i64 D,.string M,.int .i64 num,.int .i64 wf,.int .i64 wt,ev]] w fun e w'=>e = .returned (.int .i64 5) /\ Below w.heap.size w w':=by
 have q1 : decide ((n : Int) < (le : Int)) = false:=decide_eq_false (by omega)
 have q2 : decide (n < le) = false:=decide_eq_false ha
 have q3 : decide (mo < (n : Int)) = false:=decide_eq_false hb
 subst hd
 obtain ⟨n1,n2⟩:=tl_ne text hc
 clear hc ha hb
 subst he
 subst hz0
 obtain rfl:=empty_of N hz1
 subst hz2
 obtain ⟨m1,m2⟩:=tl_ne M hz
 clear hz hz1
 go_enter Tryz.func117,Tryz.ntmps117
 go_wp2_with (go_at_call 157;refine (known_yes _ _ h0 h1).mono ?_;rintro e w1 ⟨rfl,rfl⟩)
 all_goals go_ret
 all_goals exact ⟨rfl,by repeat (first | exact Below.refl _ _ | apply Below.setCell _ (by first | omega | (simp <;> omega)) | apply Below.alloc _ (by first | omega | (simp <;> omega)))⟩
theorem shaped_tm_true (k : Nat) (sf st : Int) (ks : Option Addr) (n kc : Nat) (text : ByteArray) (B : Int) (N : ByteArray) (D : Int) (M : ByteArray) (num wf wt : Int) (ev : Value) (nm : ByteArray) (le : Nat) (mo : Int) (tx ty : Bool) (w : World) (h0 : 0 < k) (h1 : k < 46) (s0 : w.cell? ⟨0,k * 5,none⟩ = some (.string nm)) (s1 : w.cell? ⟨0,k * 5 + 1,none⟩ = some (.int .i64 (le : Nat))) (s2 : w.cell? ⟨0,k * 5 + 2,none⟩ = some (.int .i64 mo)) (s3 : w.cell? ⟨0,k * 5 + 3,none⟩ = some (.bool tx)) (s4 : w.cell? ⟨0,k * 5 + 4,none⟩ = some (.bool ty)) (sl : 0 < w.heap.size) (ha : ¬ n < le) (hb : ¬ mo < (n : Int)) (hc : text.size ≠ 0) (hd : tx = true) (hz0 : B = 0) (hz1 : N.size = 0) (hz2 : D = 0) (hz : M.size ≠ 0) (he : ty = true) (hR : ∀ w : World,Calls Tryz.prog 158 #[.agg #[.int .i64 B,.string N,.int .i64 D,.string M]] w fun e w'=>e = .returned (.bool true) /\ Below w.heap.size w w') :
  Calls Tryz.prog 117 #[.agg #[.int .i64 (k : Int),.int .i64 sf,.int .i64 st,.slice ks n kc,.string text,.int .i64 B,.string N,.int .i64 D,.string M,.int .i64 num,.int .i64 wf,.int .i64 wt,ev]] w fun e w'=>e = .returned (.int .i64 0) /\ Below w.heap.size w w':=by
 have q1 : decide ((n : Int) < (le : Int)) = false:=decide_eq_false (by omega)
 have q2 : decide (n < le) = false:=decide_eq_false ha
 have q3 : decide (mo < (n : Int)) = false:=decide_eq_false hb
 subst hd
 obtain ⟨n1,n2⟩:=tl_ne text hc
 clear hc ha hb
 subst he
 have HR:=Lib.hid hR
 clear hR
 subst hz0
 obtain rfl:=empty_of N hz1
 subst hz2
 obtain ⟨m1,m2⟩:=tl_ne M hz
 clear hz hz1
 go_enter Tryz.func117,Tryz.ntmps117
 go_wp2_with (first | (go_at_call 157;refine (known_yes _ _ h0 h1).mono ?_;rintro e w1 ⟨rfl,rfl⟩) | (go_at_call 158;refine (HR.out _).mono ?_;rintro e w1 ⟨rfl,hb1⟩))
 all_goals go_ret
 all_goals exact ⟨rfl,by repeat (first | exact Below.refl _ _ | apply Below.setCell _ (by first | omega | (simp <;> omega)) | apply Below.alloc _ (by first | omega | (simp <;> omega)) | exact hb1 | refine after ?_ hb1)⟩
theorem shaped_tm_false (k : Nat) (sf st : Int) (ks : Option Addr) (n kc : Nat) (text : ByteArray) (B : Int) (N : ByteArray) (D : Int) (M : ByteArray) (num wf wt : Int) (ev : Value) (nm : ByteArray) (le : Nat) (mo : Int) (tx ty : Bool) (w : World) (h0 : 0 < k) (h1 : k < 46) (s0 : w.cell? ⟨0,k * 5,none⟩ = some (.string nm)) (s1 : w.cell? ⟨0,k * 5 + 1,none⟩ = some (.int .i64 (le : Nat))) (s2 : w.cell? ⟨0,k * 5 + 2,none⟩ = some (.int .i64 mo)) (s3 : w.cell? ⟨0,k * 5 + 3,none⟩ = some (.bool tx)) (s4 : w.cell? ⟨0,k * 5 + 4,none⟩ = some (.bool ty)) (sl : 0 < w.heap.size) (ha : ¬ n < le) (hb : ¬ mo < (n : Int)) (hc : text.size ≠ 0) (hd : tx = true) (hz0 : B = 0) (hz1 : N.size = 0) (hz2 : D = 0) (hz : M.size ≠ 0) (he : ty = true) (hR : ∀ w : World,Calls Tryz.prog 158 #[.agg #[.int .i64 B,.string N,.int .i64 D,.string M]] w fun e w'=>e = .returned (.bool false) /\ Below w.heap.size w w') :
  Calls Tryz.prog 117 #[.agg #[.int .i64 (k : Int),.int .i64 sf,.int .i64 st,.slice ks n kc,.string text,.int .i64 B,.string N,.int .i64 D,.string M,.int .i64 num,.int .i64 wf,.int .i64 wt,ev]] w fun e w'=>e = .returned (.int .i64 5) /\ Below w.heap.size w w':=by
 have q1 : decide ((n : Int) < (le : Int)) = false:=decide_eq_false (by omega)
 have q2 : decide (n < le) = false:=decide_eq_false ha
 have q3 : decide (mo < (n : Int)) = false:=decide_eq_false hb
 subst hd
 obtain ⟨n1,n2⟩:=tl_ne text hc
 clear hc ha hb
 subst he
 have HR:=Lib.hid hR
 clear hR
 subst hz0
 obtain rfl:=empty_of N hz1
 subst hz2
 obtain ⟨m1,m2⟩:=tl_ne M hz
 clear hz hz1
 go_enter Tryz.func117,Tryz.ntmps117
 go_wp2_with (first | (go_at_call 157;refine (known_yes _ _ h0 h1).mono ?_;rintro e w1 ⟨rfl,rfl⟩) | (go_at_call 158;refine (HR.out _).mono ?_;rintro e w1 ⟨rfl,hb1⟩))
 all_goals go_ret
 all_goals exact ⟨rfl,by repeat (first | exact Below.refl _ _ | apply Below.setCell _ (by first | omega | (simp <;> omega)) | apply Below.alloc _ (by first | omega | (simp <;> omega)) | exact hb1 | refine after ?_ hb1)⟩
end Go.Proofs.YtgegiianlkpefaaGreatDoor
