/- A node as a text in brackets, without a program; how texts are quoted, and numbers written, is handed in. -/
import Derived.Test.YtfalgnapghienaaGreatDoorTrWalk
namespace Go.Proofs.YtfalgnapghienaaGreatDoor
set_option linter.unusedVariables false
set_option linter.unusedSimpArgs false

/-- the kinds' names -/
def nameL : List ByteArray := [⟨#[]⟩,
  ⟨#[112, 114, 111, 103, 114, 97, 109]⟩, ⟨#[99, 108, 97, 115, 115]⟩, ⟨#[101, 120, 116, 101, 110, 100, 115]⟩, ⟨#[102, 105, 101, 108, 100]⟩, ⟨#[105, 110, 105, 116]⟩, ⟨#[109, 101, 116, 104, 111, 100]⟩, ⟨#[112, 97, 114, 97, 109]⟩, ⟨#[98, 108, 111, 99, 107]⟩, ⟨#[100, 101, 99, 108]⟩, ⟨#[97, 115, 115, 105, 103, 110]⟩, ⟨#[105, 102]⟩, ⟨#[119, 104, 105, 108, 101]⟩, ⟨#[98, 114, 101, 97, 107]⟩, ⟨#[99, 111, 110, 116, 105, 110, 117, 101]⟩, ⟨#[114, 101, 116, 117, 114, 110]⟩, ⟨#[112, 114, 105, 110, 116]⟩, ⟨#[115, 117, 112, 101, 114]⟩, ⟨#[101, 120, 112, 114]⟩,
  ⟨#[105, 110, 116]⟩, ⟨#[100, 111, 117, 98, 108, 101]⟩, ⟨#[98, 111, 111, 108]⟩, ⟨#[115, 116, 114]⟩, ⟨#[110, 117, 108, 108]⟩, ⟨#[116, 104, 105, 115]⟩, ⟨#[118, 97, 114]⟩, ⟨#[103, 101, 116]⟩, ⟨#[105, 110, 100, 101, 120]⟩, ⟨#[108, 101, 110, 103, 116, 104]⟩, ⟨#[99, 97, 108, 108]⟩, ⟨#[110, 101, 119]⟩, ⟨#[97, 114, 114, 97, 121]⟩, ⟨#[110, 101, 103]⟩, ⟨#[110, 111, 116]⟩, ⟨#[98, 105, 110, 97, 114, 121]⟩, ⟨#[99, 97, 115, 116]⟩, ⟨#[116, 111, 105, 110, 116]⟩, ⟨#[116, 111, 100, 111, 117, 98, 108, 101]⟩, ⟨#[105, 110, 112, 117, 116]⟩, ⟨#[97, 115, 107]⟩,
  ⟨#[103, 117, 97, 114, 100]⟩, ⟨#[115, 111, 109, 101]⟩, ⟨#[110, 111, 110, 101]⟩, ⟨#[105, 115, 115, 111, 109, 101]⟩, ⟨#[105, 115, 110, 111, 110, 101]⟩, ⟨#[118, 97, 108]⟩]
theorem nameL_len : nameL.length = 46 := rfl
def nameS (k : Int) : ByteArray := if knownB k = true then nameL.getD k.toNat ⟨#[]⟩ else ⟨#[]⟩

/-- how texts are quoted, and numbers written -/
structure Pen where
  quote : ByteArray → ByteArray
  dec : Int → ByteArray

def joinS (l : List ByteArray) : ByteArray := l.foldl (· ++ ·) ⟨#[]⟩
theorem joinS_app (a b : ByteArray) (l : List ByteArray) : l.foldl (· ++ ·) (a ++ b) = a ++ l.foldl (· ++ ·) b := by
  induction l generalizing b with
  | nil => rfl
  | cons x l ih =>
    rw [List.foldl_cons, List.foldl_cons, ByteArray.append_assoc]
    exact ih (b ++ x)
/-- what a node has of its own, behind the bracket -/
def headS (p : Pen) (x : Nd) : ByteArray :=
  let a : ByteArray := ⟨#[40]⟩ ++ nameS x.kind
  let b := if (shp x.kind).text = true then a ++ (⟨#[32]⟩ ++ p.quote x.text) else a
  let c := if (shp x.kind).typ = true then b ++ (⟨#[32]⟩ ++ typeS x.B x.N x.M) else b
  if x.kind = 19 ∨ x.kind = 21 then c ++ (⟨#[32]⟩ ++ p.dec x.num) else c
/-- a node's form, so many nodes deep at most -/
def formF (p : Pen) (l : List Nd) : Nat → Nat → ByteArray
  | 0, _ => ⟨#[]⟩
  | f + 1, a => match l[a]? with
    | none => ⟨#[]⟩
    | some x => (kidsOf l a).foldl (fun s k => s ++ ⟨#[32]⟩ ++ formF p l f k) (headS p x) ++ ⟨#[41]⟩
def formS (p : Pen) (l : List Nd) (a : Nat) : ByteArray := formF p l (a + 1) a
theorem fold_congrB {f g : Nat → ByteArray} : ∀ (ks : List Nat) (s : ByteArray), (∀ k ∈ ks, f k = g k) → ks.foldl (fun s k => s ++ ⟨#[32]⟩ ++ f k) s = ks.foldl (fun s k => s ++ ⟨#[32]⟩ ++ g k) s := by
  intro ks
  induction ks with
  | nil => intro s _; rfl
  | cons k ks ih =>
    intro s h
    rw [List.foldl_cons, List.foldl_cons, h k List.mem_cons_self]
    exact ih _ (fun x hx => h x (List.mem_cons_of_mem _ hx))
theorem form_fuel (p : Pen) {l : List Nd} {root : Int} (P : ProgOk l root) : ∀ (a : Nat), a < l.length → ∀ f, a + 1 ≤ f → formF p l f a = formS p l a := by
  intro a
  induction a using Nat.strongRecOn with
  | _ a ih =>
    intro ha f hf
    obtain ⟨g, rfl⟩ : ∃ g, f = g + 1 := ⟨f - 1, by omega⟩
    show (match l[a]? with | none => (⟨#[]⟩ : ByteArray) | some x => (kidsOf l a).foldl (fun (s : ByteArray) k => s ++ (⟨#[32]⟩ : ByteArray) ++ formF p l g k) (headS p x) ++ (⟨#[41]⟩ : ByteArray)) = (match l[a]? with | none => (⟨#[]⟩ : ByteArray) | some x => (kidsOf l a).foldl (fun (s : ByteArray) k => s ++ (⟨#[32]⟩ : ByteArray) ++ formF p l a k) (headS p x) ++ (⟨#[41]⟩ : ByteArray))
    rw [List.getElem?_eq_getElem ha]
    simp only
    congr 1
    apply fold_congrB
    intro k hk
    have hk' := kidsOf_lt P ha hk
    rw [ih k hk' (by omega) g (by omega), ih k hk' (by omega) a (by omega)]
theorem form_eq (p : Pen) {l : List Nd} {root : Int} (P : ProgOk l root) {a : Nat} (ha : a < l.length) :
    formS p l a = (kidsOf l a).foldl (fun s k => s ++ ⟨#[32]⟩ ++ formS p l k) (headS p l[a]) ++ ⟨#[41]⟩ := by
  show (match l[a]? with | none => (⟨#[]⟩ : ByteArray) | some x => (kidsOf l a).foldl (fun (s : ByteArray) k => s ++ (⟨#[32]⟩ : ByteArray) ++ formF p l a k) (headS p x) ++ (⟨#[41]⟩ : ByteArray)) = _
  rw [List.getElem?_eq_getElem ha]
  simp only
  congr 1
  apply fold_congrB
  intro k hk
  have hk' := kidsOf_lt P ha hk
  exact form_fuel p P k (by omega) a (by omega)
/-- no form is empty -/
theorem form_some (p : Pen) {l : List Nd} {root : Int} (P : ProgOk l root) {a : Nat} (ha : a < l.length) : (formS p l a).size ≠ 0 := by
  rw [form_eq p P ha, ByteArray.size_append]
  have : (⟨#[41]⟩ : ByteArray).size = 1 := rfl
  omega
/-- a program's form: nothing, if it is none -/
def FormS (p : Pen) (l : List Nd) (root at_ : Int) : ByteArray := if 0 ≤ at_ ∧ at_ < l.length ∧ checkE l root = 0 then formS p l at_.toNat else ⟨#[]⟩
def sameB (p : Pen) (l : List Nd) (root : Int) (l' : List Nd) (root' : Int) : Bool := decide (checkE l root = 0) && decide (checkE l' root' = 0) && decide (FormS p l root root = FormS p l' root' root')
end Go.Proofs.YtfalgnapghienaaGreatDoor
