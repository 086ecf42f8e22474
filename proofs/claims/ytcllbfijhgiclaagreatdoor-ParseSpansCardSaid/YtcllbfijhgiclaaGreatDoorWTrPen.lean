/- ParseWhole -/
import Derived.Test.YtcllbfijhgiclaaGreatDoorWTrBld
import Derived.Lib.LaidPrint
set_option linter.unusedVariables false
set_option linter.unusedSimpArgs false
namespace Go.Proofs.YtcllbfijhgiclaaGreatDoor
open Go Go.RowKit
structure Tabs (w : World) : Prop where
 sh : ShTab w
 pr : Lib.PrintTabsAt 5 6 7 8 Lib.goPrintTabs w
 u8 : Lib.Utf8Tabs 2 3 w
 pow : Lib.TabIs Tryz.prog w "internal/strconv.uint64pow10" .u64 Lib.pow10Tab
theorem pow_step {w w' : World} (h : Lib.TabIs Tryz.prog w "internal/strconv.uint64pow10" .u64 Lib.pow10Tab) (hb : Below w.heap.size w w') : Lib.TabIs Tryz.prog w' "internal/strconv.uint64pow10" .u64 Lib.pow10Tab := by
 unfold Lib.TabIs at *
 cases hg : Tryz.prog.globalNamed "internal/strconv.uint64pow10" with
 | none=>simp [World.var?,hg] at h
 | some g =>
  refine var?_below hb hg ?_ h
  by_cases hlt : g < w.heap.size
  ·exact hlt
  ·simp [World.var?,hg,Array.getElem?_eq_none (show w.heap.size <= g by omega)] at h
theorem u8_step {g3 g4 : Nat} {w w' : World} (h : Lib.Utf8Tabs g3 g4 w) (hb : Below w.heap.size w w') : Lib.Utf8Tabs g3 g4 w':=by
 have key : ∀ g o v,w.cell? ⟨g,o,none⟩ = some v -> w'.cell? ⟨g,o,none⟩ = some v:=fun g o v h=>keep hb (World.block_lt_of_cell? w _ h) h
 exact ⟨fun c hc=>key _ _ _ (h.1 c hc),fun i hi=>⟨key _ _ _ (h.2 i hi).1,key _ _ _ (h.2 i hi).2⟩⟩
theorem Tabs.step {w w' : World} (h : Tabs w) (hb : Below w.heap.size w w') : Tabs w':=⟨h.sh.step hb,printTabs_below h.pr hb,u8_step h.u8 hb,pow_step h.pow hb⟩
def goPen : Pen:=⟨fun s=>strOfNums (Lib.quoteZ Lib.goPrintTabs s),fun n=>⟨(Lib.itoa n).toArray⟩⟩
theorem below_grown (w : World) (n : Nat) (os : Array Obj) : Below w.heap.size w (Sort.grow (w.drewN n) os):=by
 refine ⟨rfl,rfl,rfl,by simp [Sort.grow],fun k hk=>?_⟩
 show (w.heap ++ os)[k]? = _
 rw [Array.getElem?_append_left hk]
theorem quote_any (s : ByteArray) (w : World) (hT : Tabs w) (hs : s.size <= 300) : Calls Tryz.prog 69 #[.string s] w fun e w'=>e = .returned (.string (goPen.quote s)) /\ Below w.heap.size w w' :=
 Tryz.strconv_Quote Lib.goPrintTabs s w (by omega) hT.pr hT.u8
theorem dec_any (n : Int) (w : World) (hT : Tabs w) (h0 : -9223372036854775808 <= n) (h1 : n <= 9223372036854775807) : Calls Tryz.prog 71 #[.int .i64 n,.int .i64 10] w fun e w'=>e = .returned (.string (goPen.dec n)) /\ Below w.heap.size w w':=by
 refine (Tryz.strconv_FormatInt_10 n h0 h1 w hT.pow).mono ?_
 rintro e w' ⟨rfl,k,os,rfl⟩
 exact ⟨rfl,below_grown _ _ _⟩
theorem quote_size (s : ByteArray) : (goPen.quote s).size <= 10 * s.size + 2:=by
 have h:=Lib.quoteZ_length_le Lib.goPrintTabs s
 have : (goPen.quote s).size = (Lib.quoteZ Lib.goPrintTabs s).length:=by
  show (strOfNums _).size = _
  unfold strOfNums
  first | (simp [ByteArray.size];done) | (rw [ByteArray.size];simp)
 omega
structure BdInv (W0 : World) (b : Nat) (s : ByteArray) (w : World) : Prop where
 bel : Below W0.heap.size W0 w
 bld : Lib.IsBuilderF 33 5 W0.heap.size b (Lib.strCells s) w
theorem strCells_app (a b : ByteArray) : Lib.strCells (a ++ b) = Lib.strCells a ++ Lib.strCells b:=by
 unfold Lib.strCells
 rw [ByteArray.data_append,Array.toList_append,List.map_append]
theorem strCells_one (c : UInt8) : Lib.strCells ⟨#[c]⟩ = [.int .u8 c.toNat]:=rfl
theorem BdInv.step {W0 w w' : World} {b : Nat} {s : ByteArray} (h : BdInv W0 b s w) (hb : Below w.heap.size w w') : BdInv W0 b s w' :=
 ⟨h.bel.trans (hb.mono h.bel.size),bld_step h.bld hb⟩
theorem BdInv.lt {W0 w : World} {b : Nat} {s : ByteArray} (h : BdInv W0 b s w) : b < w.heap.size:=bld_lt h.bld
theorem box_kept {T : TypeId} {w w' : World} {b g : Nat} {cs : List Value} (h : Bx T w g cs) (hT : T ≠ 5) (hg : g ≠ b) (hk : Lib.OthersKept 5 (some b) w w') : Bx T w' g cs:=by
 unfold Bx at *
 exact hk g _ h (by simpa using hg) (fun c fz e=>by injection e with _ h2;exact hT h2)
theorem bs_len (s : ByteArray) : (Lib.strCells s).length = s.size:=Lib.strCells_length s
theorem write_any (W0 : World) (b : Nat) (s t : ByteArray) (w : World) (h : BdInv W0 b s w) (hl : s.size + t.size <= 140737488355328) :
  Calls Tryz.prog 11 #[.pointer (some ⟨b,0,none⟩),.string t] w fun e w'=>e = .returned (.tuple #[.int .i64 t.size,.nilIface]) /\ BdInv W0 b (s ++ t) w' /\ Lib.OthersKept 5 (some b) w w':=by
 refine (writeString_any W0.heap.size b _ t w h.bld (by rw [bs_len];exact hl) h.bel.size).mono ?_
 rintro e w' ⟨rfl,h1,h2,h3⟩
 exact ⟨rfl,⟨h.bel.trans h2,by rw [strCells_app];exact h1⟩,h3⟩
theorem writeB_any (W0 : World) (b : Nat) (s : ByteArray) (c : UInt8) (w : World) (h : BdInv W0 b s w) (hl : s.size + 1 <= 140737488355328) :
  Calls Tryz.prog 12 #[.pointer (some ⟨b,0,none⟩),.int .u8 (c.toNat : Nat)] w fun e w'=>e = .returned .nilIface /\ BdInv W0 b (s ++ ⟨#[c]⟩) w':=by
 refine (writeByte_any W0.heap.size b _ (c.toNat : Nat) w h.bld (by rw [bs_len];exact hl) h.bel.size).mono ?_
 rintro e w' ⟨rfl,h1,h2,h3⟩
 exact ⟨rfl,⟨h.bel.trans h2,by rw [strCells_app,strCells_one];exact h1⟩⟩
end Go.Proofs.YtcllbfijhgiclaaGreatDoor
