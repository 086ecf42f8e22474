/- For any two whole numbers, ParseMany returns true and leaves its arguments as they were. -/
import Derived.Test.YtidannabjhbjpaaGreatDoorNTrPl
set_option linter.unusedVariables false
set_option linter.unusedSimpArgs false
namespace Go.Proofs.YtidannabjhbjpaaGreatDoor
structure PC where
  toks : List (Nat × Nat × Nat)
  ws : List ByteArray
  name : ByteArray → Bool
  int : ByteArray → Int × Nat
  flt : ByteArray → Int × Nat
  unq : ByteArray → ByteArray × Nat
structure PS where
  next : Nat
  deep : Nat
  over : Nat
  made : List Nd
inductive PR (α : Type) where
  | ok (a : α) (s : PS)
  | bad (c : Nat) (t : Int)
  | out
abbrev PM (α : Type) := PS → PR α
def bnd {α β : Type} (m : PM α) (k : α → PM β) : PM β := fun s => match m s with
  | .ok a s' => k a s'
  | .bad c t => .bad c t
  | .out => .out
def ret {α : Type} (a : α) : PM α := fun s => .ok a s
def thr {α : Type} (c : Nat) (t : Int) : PM α := fun _ => .bad c t
def stop {α : Type} : PM α := fun _ => .out
def look {α β : Type} (f : PS → α) (k : α → PM β) : PM β := fun s => k (f s) s
def PC.tok (C : PC) (i : Nat) : Nat × Nat × Nat := C.toks.getD i (0, 0, 0)
def PC.word (C : PC) (i : Nat) : ByteArray := C.ws.getD i ⟨#[]⟩
def fromS (C : PC) (s : PS) : Nat := (C.tok s.next).2.1
def endS (C : PC) (s : PS) : Nat := (C.tok (s.next - 1)).2.2
def kindS (C : PC) (s : PS) : Nat := (C.tok s.next).1
def wordS (C : PC) (k : Nat) (s : PS) : ByteArray := C.word (s.next + k)
def sees (C : PC) (x : ByteArray) (s : PS) : Bool := decide (wordS C 0 s = x)
def readP (C : PC) : PM ByteArray := fun s =>
  if s.next + 1 < C.toks.length then
    if s.over = 0 then .ok (C.word s.next) { s with next := s.next + 1 } else .bad s.over (fromS C s)
  else .out
def takeP (C : PC) (x : ByteArray) : PM Bool := look (sees C x) fun b => if b = true then bnd (readP C) fun _ => ret true else ret false
def wantP (C : PC) (x : ByteArray) : PM Unit := bnd (takeP C x) fun b => if b = true then ret () else look (fromS C) fun f => thr 80 f
def nameP (C : PC) : PM ByteArray := look (wordS C 0) fun x => if C.name x = true then readP C else look (fromS C) fun f => thr 80 f
def enterP : PM Unit := fun s => .ok () { s with deep := s.deep + 1, over := if s.deep = 60 then 6 else s.over }
def leaveP : PM Unit := fun s => if s.deep = 0 then .out else .ok () { s with deep := s.deep - 1 }
def moreP (n : Nat) : PM Unit := fun s => .ok () { s with over := if n = 64 then 2 else s.over }
def goodN (x : Nd) : Bool := decide (x.kids.length ≤ 100000 ∧ x.text.size ≤ 65536 ∧ x.N.size ≤ 65536 ∧ x.M.size ≤ 5 ∧ x.ends.length ≤ 5)
def capP (l : List Nat) : PM Unit := fun s => if l.length ≤ 90000 then .ok () s else .out
def makeP (C : PC) (x : Nd) (f : Nat) : PM Nat := fun s =>
  if s.next = 0 ∨ goodN x = false then .out
  else if s.made.length = 8192 then .bad 2 f
  else .ok s.made.length { s with made := s.made ++ [{ x with sf := f, st := endS C s }] }
def nd (k : Int) (t : ByteArray) (l : List Nat) : Nd := ⟨k, 0, 0, l.map Int.ofNat, t, 0, ⟨#[]⟩, 0, ⟨#[]⟩, 0, 0, 0, []⟩
def manyP (C : PC) (one : PM Nat) : Nat → List Nat → PM (List Nat)
  | 0, _ => stop
  | k + 1, l => bnd (capP l) fun _ => bnd (takeP C (⟨#[44]⟩ : ByteArray)) fun b => if b = true then bnd (moreP l.length) fun _ => bnd one fun a => manyP C one k (l ++ [a]) else ret l
def listP (C : PC) (one : PM Nat) : PM (List Nat) :=
  bnd (wantP C (⟨#[40]⟩ : ByteArray)) fun _ => bnd (takeP C (⟨#[41]⟩ : ByteArray)) fun b => if b = true then ret [] else
  bnd one fun a => bnd (manyP C one C.toks.length [a]) fun l => bnd (wantP C (⟨#[41]⟩ : ByteArray)) fun _ => ret l
def bindsN (x : ByteArray) : Nat :=
  if x = (⟨#[124, 124]⟩ : ByteArray) then 1 else if x = (⟨#[38, 38]⟩ : ByteArray) then 2 else if x = (⟨#[61, 61]⟩ : ByteArray) ∨ x = (⟨#[33, 61]⟩ : ByteArray) then 3
  else if x = (⟨#[60]⟩ : ByteArray) ∨ x = (⟨#[60, 61]⟩ : ByteArray) ∨ x = (⟨#[62]⟩ : ByteArray) ∨ x = (⟨#[62, 61]⟩ : ByteArray) ∨ x = (⟨#[105, 115]⟩ : ByteArray) then 4
  else if x = (⟨#[43]⟩ : ByteArray) ∨ x = (⟨#[45]⟩ : ByteArray) then 5 else if x = (⟨#[42]⟩ : ByteArray) ∨ x = (⟨#[47]⟩ : ByteArray) ∨ x = (⟨#[37]⟩ : ByteArray) then 6 else 0
def joinP (C : PC) (part : PM Nat) (first f : Nat) : PM Nat :=
  bnd (readP C) fun sign => if sign ≠ (⟨#[105, 115]⟩ : ByteArray) then bnd part fun k => makeP C (nd 34 sign [first, k]) f
  else bnd (takeP C (⟨#[115, 111, 109, 101]⟩ : ByteArray)) fun b => if b = true then makeP C (nd 43 ⟨#[]⟩ [first]) f
  else bnd (wantP C (⟨#[110, 111, 110, 101]⟩ : ByteArray)) fun _ => makeP C (nd 44 ⟨#[]⟩ [first]) f
def joinL (C : PC) (part : PM Nat) (c f : Nat) : Nat → Nat → PM Nat
  | 0, _ => stop
  | k + 1, n => look (wordS C 0) fun x => if bindsN x = c then bnd (joinP C part n f) fun m => joinL C part c f k m else ret n
def freeB (n : Nd) : Bool := decide (byS n.M n.D.toNat = 32) && (decide (0 < n.D) || decide (n.B = 5))
def markT (n : Nd) (m : UInt8) : Nd := { n with M := n.M.extract 0 n.D.toNat ++ ⟨#[m]⟩ }
def kindT (x : ByteArray) : Nat := if x = (⟨#[105, 110, 116]⟩ : ByteArray) then 1 else if x = (⟨#[98, 111, 111, 108]⟩ : ByteArray) then 2 else if x = (⟨#[100, 111, 117, 98, 108, 101]⟩ : ByteArray) then 3 else if x = (⟨#[115, 116, 114]⟩ : ByteArray) then 4 else 5
def baseP (C : PC) (b : Nat) : PM Nd :=
  bnd (if b = 5 then nameP C else bnd (readP C) fun _ => ret ⟨#[]⟩) fun x =>
  look (endS C) fun e => ret ⟨0, 0, 0, [], ⟨#[]⟩, b, x, 0, ⟨#[32]⟩, 0, 0, 0, [(e : Int)]⟩
def typeB (n : Nd) : Bool := decide (0 ≤ n.D ∧ n.D ≤ 4 ∧ n.M.size = n.D.toNat + 1 ∧ n.N.size ≤ 65536 ∧ n.ends.length ≤ n.D.toNat + 1)
def nullP (C : PC) (n : Nd) : PM Nd := look (fromS C) fun f => if typeB n = false then stop else if freeB n = false then thr 81 f else bnd (wantP C (⟨#[63]⟩ : ByteArray)) fun _ => ret (markT n 63)
def arrayP (C : PC) (n : Nd) : PM Nd :=
  look (fromS C) fun f => bnd (wantP C (⟨#[91]⟩ : ByteArray)) fun _ => bnd (wantP C (⟨#[93]⟩ : ByteArray)) fun _ => if typeB n = false then stop else if n.D = 4 then thr 2 f else
  look (endS C) fun e => ret { n with D := n.D + 1, M := n.M ++ ⟨#[32]⟩, ends := n.ends ++ [(e : Int)] }
def innerL (C : PC) (anew : Bool) (f : Nat) : Nat → Nd → PM Nd
  | 0, _ => stop
  | k + 1, n => look (fun s => (wordS C 0 s, wordS C 1 s)) fun p =>
    if p.1 = (⟨#[63]⟩ : ByteArray) then bnd (nullP C n) fun m => innerL C anew f k m
    else if p.1 = (⟨#[91]⟩ : ByteArray) ∧ ¬ (anew = true ∧ p.2 ≠ (⟨#[93]⟩ : ByteArray)) then bnd (arrayP C n) fun m => innerL C anew f k m
    else look (endS C) fun e => ret { n with wf := f, wt := e }
def innerP (C : PC) (anew : Bool) : PM Nd := look (fromS C) fun f => look (wordS C 0) fun x => bnd (baseP C (kindT x)) fun n => innerL C anew f C.toks.length n
def typedP (C : PC) : PM Nd :=
  look (fromS C) fun f => bnd (takeP C (⟨#[79, 112, 116, 105, 111, 110]⟩ : ByteArray)) fun b => if b = true then
    bnd (wantP C (⟨#[60]⟩ : ByteArray)) fun _ => bnd (innerP C false) fun n => bnd (wantP C (⟨#[62]⟩ : ByteArray)) fun _ =>
    if typeB n = false then stop else if freeB n = false then thr 5 f else look (endS C) fun e => ret { markT n 111 with wf := f, wt := e }
  else innerP C false
def answerP (C : PC) : PM Nd :=
  look (sees C (⟨#[118, 111, 105, 100]⟩ : ByteArray)) fun b => if b = true then look (fromS C) fun f => bnd (baseP C 6) fun n => look (endS C) fun e => ret { n with wf := f, wt := e }
  else typedP C
def withinP (C : PC) (value : PM Nat) : PM Nat := bnd (wantP C (⟨#[40]⟩ : ByteArray)) fun _ => bnd value fun n => bnd (wantP C (⟨#[41]⟩ : ByteArray)) fun _ => ret n
def litN (C : PC) (k : Nat) (x : ByteArray) : Nd × Nat :=
  if k = 2 then ({ nd 19 ⟨#[]⟩ [] with num := (C.int x).1 }, (C.int x).2)
  else if k = 3 then ({ nd 20 x [] with num := (C.flt x).1 }, (C.flt x).2)
  else (nd 22 (C.unq x).1 [], (C.unq x).2)
def literalP (C : PC) : PM Nat :=
  look (fromS C) fun f => look (kindS C) fun k => bnd (readP C) fun x => bnd (makeP C (litN C k x).1 f) fun i =>
  if (litN C k x).2 = 0 then ret i else thr (litN C k x).2 f
def constN (x : ByteArray) : Nd :=
  if x = (⟨#[116, 114, 117, 101]⟩ : ByteArray) then { nd 21 ⟨#[]⟩ [] with num := 1 } else if x = (⟨#[110, 117, 108, 108]⟩ : ByteArray) then nd 23 ⟨#[]⟩ [] else if x = (⟨#[110, 111, 110, 101]⟩ : ByteArray) then nd 42 ⟨#[]⟩ [] else if x = (⟨#[116, 104, 105, 115]⟩ : ByteArray) then nd 24 ⟨#[]⟩ [] else nd 21 ⟨#[]⟩ []
def constP (C : PC) (x : ByteArray) : PM Nat := look (fromS C) fun f => bnd (wantP C x) fun _ => makeP C (constN x) f
def wrapK (x : ByteArray) : Int := if x = (⟨#[97, 115, 107]⟩ : ByteArray) then 39 else if x = (⟨#[116, 111, 105, 110, 116]⟩ : ByteArray) then 36 else if x = (⟨#[116, 111, 100, 111, 117, 98, 108, 101]⟩ : ByteArray) then 37 else 41
def wrapP (C : PC) (value : PM Nat) (x : ByteArray) : PM Nat := look (fromS C) fun f => bnd (wantP C x) fun _ => bnd (withinP C value) fun k => makeP C (nd (wrapK x) ⟨#[]⟩ [k]) f
def inputP (C : PC) : PM Nat := look (fromS C) fun f => bnd (wantP C (⟨#[105, 110, 112, 117, 116]⟩ : ByteArray)) fun _ => bnd (wantP C (⟨#[40]⟩ : ByteArray)) fun _ => bnd (wantP C (⟨#[41]⟩ : ByteArray)) fun _ => makeP C (nd 38 ⟨#[]⟩ []) f
def castP (C : PC) (value : PM Nat) : PM Nat :=
  look (fromS C) fun f => bnd (wantP C (⟨#[99, 97, 115, 116]⟩ : ByteArray)) fun _ => bnd (wantP C (⟨#[60]⟩ : ByteArray)) fun _ => bnd (typedP C) fun n => bnd (wantP C (⟨#[62]⟩ : ByteArray)) fun _ =>
  bnd (withinP C value) fun k => makeP C { n with kind := 35, kids := [(k : Int)] } f
def aloneB (n : Nd) : Bool := decide (n.B = 5) && decide (n.M = ⟨#[32]⟩)
def anewP (C : PC) (value : PM Nat) : PM Nat :=
  look (fromS C) fun f => bnd (wantP C (⟨#[110, 101, 119]⟩ : ByteArray)) fun _ => bnd (innerP C true) fun n => bnd (takeP C (⟨#[91]⟩ : ByteArray)) fun b => if b = true then
    bnd value fun k => bnd (wantP C (⟨#[93]⟩ : ByteArray)) fun _ => makeP C { n with kind := 31, kids := [(k : Int)] } f
  else look (sees C (⟨#[40]⟩ : ByteArray)) fun p => if p = true ∧ aloneB n = false then thr 5 n.wf else
    bnd (listP C value) fun l => makeP C { n with kind := 30, kids := l.map Int.ofNat } f
def firstP (C : PC) (value : PM Nat) : PM Nat :=
  look (kindS C) fun k => if k = 2 ∨ k = 3 ∨ k = 4 then literalP C else
  look (wordS C 0) fun x =>
  if x = (⟨#[40]⟩ : ByteArray) then withinP C value
  else if x = (⟨#[116, 114, 117, 101]⟩ : ByteArray) ∨ x = (⟨#[102, 97, 108, 115, 101]⟩ : ByteArray) ∨ x = (⟨#[110, 117, 108, 108]⟩ : ByteArray) ∨ x = (⟨#[110, 111, 110, 101]⟩ : ByteArray) ∨ x = (⟨#[116, 104, 105, 115]⟩ : ByteArray) then constP C x
  else if x = (⟨#[115, 111, 109, 101]⟩ : ByteArray) ∨ x = (⟨#[97, 115, 107]⟩ : ByteArray) ∨ x = (⟨#[116, 111, 105, 110, 116]⟩ : ByteArray) ∨ x = (⟨#[116, 111, 100, 111, 117, 98, 108, 101]⟩ : ByteArray) then wrapP C value x
  else if x = (⟨#[105, 110, 112, 117, 116]⟩ : ByteArray) then inputP C
  else if x = (⟨#[99, 97, 115, 116]⟩ : ByteArray) then castP C value
  else if x = (⟨#[110, 101, 119]⟩ : ByteArray) then anewP C value
  else look (fromS C) fun f => bnd (nameP C) fun t => makeP C (nd 25 t []) f
def hadP (C : PC) (value : PM Nat) (of f : Nat) : PM Nat :=
  bnd (takeP C (⟨#[108, 101, 110, 103, 116, 104]⟩ : ByteArray)) fun b => if b = true then makeP C (nd 28 ⟨#[]⟩ [of]) f else
  bnd (takeP C (⟨#[118, 97, 108]⟩ : ByteArray)) fun b => if b = true then makeP C (nd 45 ⟨#[]⟩ [of]) f else
  bnd (nameP C) fun t => look (sees C (⟨#[40]⟩ : ByteArray)) fun p => if p = true then bnd (listP C value) fun l => makeP C (nd 29 t (of :: l)) f
  else makeP C (nd 26 t [of]) f
def askL (C : PC) (value : PM Nat) (f : Nat) : Nat → Nat → PM Nat
  | 0, _ => stop
  | k + 1, n =>
    bnd (takeP C (⟨#[33]⟩ : ByteArray)) fun b => if b = true then bnd (makeP C (nd 40 ⟨#[]⟩ [n]) f) fun m => askL C value f k m else
    bnd (takeP C (⟨#[91]⟩ : ByteArray)) fun b => if b = true then bnd value fun i => bnd (wantP C (⟨#[93]⟩ : ByteArray)) fun _ => bnd (makeP C (nd 27 ⟨#[]⟩ [n, i]) f) fun m => askL C value f k m else
    bnd (takeP C (⟨#[46]⟩ : ByteArray)) fun b => if b = true then bnd (hadP C value n f) fun m => askL C value f k m else ret n
def askedP (C : PC) (value : PM Nat) : PM Nat := look (fromS C) fun f => bnd (firstP C value) fun n => askL C value f C.toks.length n
def declares (C : PC) (s : PS) : Bool :=
  decide (wordS C 0 s = (⟨#[105, 110, 116]⟩ : ByteArray) ∨ wordS C 0 s = (⟨#[98, 111, 111, 108]⟩ : ByteArray) ∨ wordS C 0 s = (⟨#[100, 111, 117, 98, 108, 101]⟩ : ByteArray) ∨ wordS C 0 s = (⟨#[115, 116, 114]⟩ : ByteArray) ∨ wordS C 0 s = (⟨#[79, 112, 116, 105, 111, 110]⟩ : ByteArray)) ||
  (C.name (wordS C 0 s) && (C.name (wordS C 1 s) || decide (wordS C 1 s = (⟨#[63]⟩ : ByteArray)) || (decide (wordS C 1 s = (⟨#[91]⟩ : ByteArray)) && decide (wordS C 2 s = (⟨#[93]⟩ : ByteArray)))))
def declP (C : PC) (value : PM Nat) : PM Nat :=
  look (fromS C) fun f => bnd (typedP C) fun n => bnd (nameP C) fun t => bnd (takeP C (⟨#[61]⟩ : ByteArray)) fun b => if b = true then
    bnd value fun k => bnd (wantP C (⟨#[59]⟩ : ByteArray)) fun _ => makeP C { n with kind := 9, text := t, kids := [(k : Int)] } f
  else bnd (wantP C (⟨#[59]⟩ : ByteArray)) fun _ => makeP C { n with kind := 9, text := t } f
def branchP (C : PC) (value block : PM Nat) : PM Nat :=
  look (fromS C) fun f => bnd (wantP C (⟨#[105, 102]⟩ : ByteArray)) fun _ => bnd (withinP C value) fun a => bnd block fun b => bnd (takeP C (⟨#[101, 108, 115, 101]⟩ : ByteArray)) fun e => if e = true then
    bnd block fun c => makeP C (nd 11 ⟨#[]⟩ [a, b, c]) f
  else makeP C (nd 11 ⟨#[]⟩ [a, b]) f
def loopP (C : PC) (value block : PM Nat) : PM Nat := look (fromS C) fun f => bnd (wantP C (⟨#[119, 104, 105, 108, 101]⟩ : ByteArray)) fun _ => bnd (withinP C value) fun a => bnd block fun b => makeP C (nd 12 ⟨#[]⟩ [a, b]) f
def shortP (C : PC) (k : Int) : PM Nat := look (fromS C) fun f => bnd (readP C) fun _ => bnd (wantP C (⟨#[59]⟩ : ByteArray)) fun _ => makeP C (nd k ⟨#[]⟩ []) f
def resultP (C : PC) (value : PM Nat) : PM Nat :=
  look (fromS C) fun f => bnd (wantP C (⟨#[114, 101, 116, 117, 114, 110]⟩ : ByteArray)) fun _ => look (sees C (⟨#[59]⟩ : ByteArray)) fun b => if b = true then bnd (wantP C (⟨#[59]⟩ : ByteArray)) fun _ => makeP C (nd 15 ⟨#[]⟩ []) f
  else bnd value fun k => bnd (wantP C (⟨#[59]⟩ : ByteArray)) fun _ => makeP C (nd 15 ⟨#[]⟩ [k]) f
def printP (C : PC) (value : PM Nat) : PM Nat := look (fromS C) fun f => bnd (wantP C (⟨#[112, 114, 105, 110, 116]⟩ : ByteArray)) fun _ => bnd (withinP C value) fun k => bnd (wantP C (⟨#[59]⟩ : ByteArray)) fun _ => makeP C (nd 16 ⟨#[]⟩ [k]) f
def superP (C : PC) (value : PM Nat) : PM Nat := look (fromS C) fun f => bnd (wantP C (⟨#[115, 117, 112, 101, 114]⟩ : ByteArray)) fun _ => bnd (listP C value) fun l => bnd (wantP C (⟨#[59]⟩ : ByteArray)) fun _ => makeP C (nd 17 ⟨#[]⟩ l) f
def kindAt (i : Nat) (s : PS) : Int := match s.made[i]? with | some x => x.kind | none => 0
def valuedP (C : PC) (value : PM Nat) : PM Nat :=
  look (fromS C) fun f => bnd value fun a => look (kindAt a) fun k => look (sees C (⟨#[61]⟩ : ByteArray)) fun b => if b = true then
    if k = 25 ∨ k = 26 ∨ k = 27 then bnd (wantP C (⟨#[61]⟩ : ByteArray)) fun _ => bnd value fun v => bnd (wantP C (⟨#[59]⟩ : ByteArray)) fun _ => makeP C (nd 10 ⟨#[]⟩ [a, v]) f
    else look (fromS C) fun g => thr 132 g
  else bnd (wantP C (⟨#[59]⟩ : ByteArray)) fun _ => bnd (makeP C (nd 18 ⟨#[]⟩ [a]) f) fun i => if k = 29 ∨ k = 30 then ret i else thr 132 f
def statP (C : PC) (value block : PM Nat) : PM Nat :=
  look (wordS C 0) fun x =>
  if x = (⟨#[123]⟩ : ByteArray) then block
  else if x = (⟨#[105, 102]⟩ : ByteArray) then branchP C value block
  else if x = (⟨#[119, 104, 105, 108, 101]⟩ : ByteArray) then loopP C value block
  else if x = (⟨#[98, 114, 101, 97, 107]⟩ : ByteArray) then shortP C 13
  else if x = (⟨#[99, 111, 110, 116, 105, 110, 117, 101]⟩ : ByteArray) then shortP C 14
  else if x = (⟨#[114, 101, 116, 117, 114, 110]⟩ : ByteArray) then resultP C value
  else if x = (⟨#[112, 114, 105, 110, 116]⟩ : ByteArray) then printP C value
  else if x = (⟨#[115, 117, 112, 101, 114]⟩ : ByteArray) then superP C value
  else look (declares C) fun b => if b = true then declP C value else valuedP C value
def statL (C : PC) (stat : PM Nat) : Nat → List Nat → PM (List Nat)
  | 0, _ => stop
  | k + 1, l => bnd (capP l) fun _ => bnd (takeP C (⟨#[125]⟩ : ByteArray)) fun b => if b = true then ret l else bnd stat fun a => statL C stat k (l ++ [a])
inductive PG where
  | value
  | joined (c : Nat)
  | signed
  | block
def stepG (C : PC) (rec : PG → PM Nat) : PG → PM Nat
  | .value => bnd enterP fun _ => bnd (rec (.joined 1)) fun n => bnd leaveP fun _ => ret n
  | .joined c => if 6 < c then rec .signed else look (fromS C) fun f => bnd (rec (.joined (c + 1))) fun n => joinL C (rec (.joined (c + 1))) c f C.toks.length n
  | .signed => look (wordS C 0) fun x =>
    if x = (⟨#[45]⟩ : ByteArray) ∨ x = (⟨#[33]⟩ : ByteArray) then look (fromS C) fun f => bnd enterP fun _ => bnd (readP C) fun _ => bnd (rec .signed) fun k => bnd leaveP fun _ => makeP C (nd (if x = (⟨#[45]⟩ : ByteArray) then 32 else 33) ⟨#[]⟩ [k]) f
    else askedP C (rec .value)
  | .block => look (fromS C) fun f => bnd enterP fun _ => bnd (wantP C (⟨#[123]⟩ : ByteArray)) fun _ => bnd (statL C (statP C (rec .value) (rec .block)) C.toks.length []) fun l => bnd leaveP fun _ => makeP C (nd 8 ⟨#[]⟩ l) f
def runG (C : PC) : Nat → PG → PM Nat
  | 0, _ => stop
  | n + 1, g => stepG C (runG C n) g
def paramP (C : PC) : PM Nat := look (fromS C) fun f => bnd (typedP C) fun n => bnd (nameP C) fun t => makeP C { n with kind := 7, text := t } f
def bodyP (C : PC) (block : PM Nat) (n : Nd) (f : Nat) : PM Nat := bnd (listP C (paramP C)) fun l => bnd block fun b => makeP C { n with kids := (l ++ [b]).map Int.ofNat } f
def memberP (C : PC) (block : PM Nat) : PM Nat :=
  look (fromS C) fun f => bnd (takeP C (⟨#[105, 110, 105, 116]⟩ : ByteArray)) fun b => if b = true then bodyP C block (nd 5 ⟨#[]⟩ []) f else
  bnd (answerP C) fun n => bnd (nameP C) fun t => look (sees C (⟨#[40]⟩ : ByteArray)) fun p => if p = true then bodyP C block { n with text := t, kind := 6 } f
  else if n.B = 6 then thr 80 f else bnd (wantP C (⟨#[59]⟩ : ByteArray)) fun _ => makeP C { n with text := t, kind := 4 } f
def ancestorP (C : PC) : PM Nat := look (fromS C) fun f => bnd (wantP C (⟨#[101, 120, 116, 101, 110, 100, 115]⟩ : ByteArray)) fun _ => bnd (nameP C) fun t => makeP C (nd 3 t []) f
def memberL (C : PC) (member : PM Nat) : Nat → List Nat → PM (List Nat)
  | 0, _ => stop
  | k + 1, l => bnd (capP l) fun _ => bnd (takeP C (⟨#[125]⟩ : ByteArray)) fun b => if b = true then ret l else bnd (moreP l.length) fun _ => bnd member fun a => memberL C member k (l ++ [a])
def classP (C : PC) (block : PM Nat) : PM Nat :=
  look (fromS C) fun f => bnd (wantP C (⟨#[99, 108, 97, 115, 115]⟩ : ByteArray)) fun _ => bnd (nameP C) fun t => look (sees C (⟨#[101, 120, 116, 101, 110, 100, 115]⟩ : ByteArray)) fun b =>
  bnd (if b = true then bnd (ancestorP C) fun a => ret [a] else ret []) fun l => bnd (wantP C (⟨#[123]⟩ : ByteArray)) fun _ =>
  bnd (memberL C (memberP C block) C.toks.length l) fun l => makeP C (nd 2 t l) f
def classL (C : PC) (cls : PM Nat) : Nat → List Nat → PM (List Nat)
  | 0, _ => stop
  | k + 1, l => bnd (capP l) fun _ => look (kindS C) fun e => if e = 0 then ret l else bnd (moreP l.length) fun _ => bnd cls fun a => classL C cls k (l ++ [a])
def programP (C : PC) (block : PM Nat) : PM Unit :=
  look (fromS C) fun f => bnd (classL C (classP C block) C.toks.length []) fun l =>
  if l.length = 0 then fun s => .ok () { s with made := s.made ++ [nd 1 ⟨#[]⟩ []] } else bnd (makeP C (nd 1 ⟨#[]⟩ l) f) fun _ => ret ()
def PC.fuel (C : PC) : Nat := 20 * C.toks.length + 40
def parseP (C : PC) : PR Unit := programP C (runG C C.fuel .block) ⟨0, 0, 0, []⟩
end Go.Proofs.YtidannabjhbjpaaGreatDoor
namespace Go.Proofs.YtidannabjhbjpaaGreatDoor
structure CW (C : PC) : Prop where
  some_ : 0 < C.toks.length
  long : C.toks.length ≤ 90000
  last : ∀ i, (C.word i).size ≠ 0 → i + 1 < C.toks.length
  kind : ∀ i, (C.tok i).1 ≠ 0 → i + 1 < C.toks.length
  name : ∀ x, C.name x = true → x.size ≠ 0
  size : ∀ i, (C.word i).size ≤ 65536
  unq : ∀ x, x.size ≤ 65536 → (C.unq x).1.size ≤ 65536
def Ho {α : Type} (m : PM α) (s : PS) (Q : α → PS → Prop) : Prop := match m s with
  | .ok a t => Q a t
  | .bad _ _ => True
  | .out => False
section
variable {α β : Type} {C : PC} {s : PS}
theorem ho_mono {m : PM α} {Q R : α → PS → Prop} (h : Ho m s Q) (hq : ∀ a t, Q a t → R a t) : Ho m s R := by
  unfold Ho at *
  cases hm : m s with
  | ok a t => rw [hm] at h; exact hq _ _ h
  | bad c t => trivial
  | out => rw [hm] at h; exact h
theorem ho_bnd {m : PM α} {k : α → PM β} {Q : β → PS → Prop} (h : Ho m s fun a t => Ho (k a) t Q) : Ho (bnd m k) s Q := by
  unfold Ho at h
  show (match (match m s with | .ok a s' => k a s' | .bad c t => .bad c t | .out => .out : PR β) with | .ok a t => Q a t | .bad _ _ => True | .out => False)
  cases hm : m s with
  | ok a t => rw [hm] at h; exact h
  | bad c t => trivial
  | out => rw [hm] at h; exact h
theorem ho_then {m : PM α} {k : α → PM β} {P : α → PS → Prop} {Q : β → PS → Prop} (h : Ho m s P) (hk : ∀ a t, P a t → Ho (k a) t Q) : Ho (bnd m k) s Q := ho_bnd (ho_mono h hk)
theorem ho_look {f : PS → α} {k : α → PM β} {Q : β → PS → Prop} (h : Ho (k (f s)) s Q) : Ho (look f k) s Q := h
theorem ho_ret {a : α} {Q : α → PS → Prop} (h : Q a s) : Ho (ret a) s Q := h
theorem ho_thr {c : Nat} {t : Int} {Q : α → PS → Prop} : Ho (thr c t) s Q := trivial
theorem ho_if {c : Prop} [Decidable c] {m n : PM α} {Q : α → PS → Prop} (h1 : c → Ho m s Q) (h2 : ¬ c → Ho n s Q) : Ho (if c then m else n) s Q := by
  by_cases h : c
  · rw [if_pos h]; exact h1 h
  · rw [if_neg h]; exact h2 h
structure Mv (C : PC) (d : Nat) (s t : PS) : Prop where
  on : s.next + d ≤ t.next
  in_ : t.next < C.toks.length
  deep : t.deep = s.deep
theorem Mv.trans {d e : Nat} {s t u : PS} (h : Mv C d s t) (g : Mv C e t u) : Mv C (d + e) s u := ⟨by have := h.on; have := g.on; omega, g.in_, by rw [g.deep, h.deep]⟩
theorem Mv.le {d e : Nat} {s t : PS} (h : Mv C d s t) (he : e ≤ d) : Mv C e s t := ⟨by have := h.on; omega, h.in_, h.deep⟩
theorem read_ho (h : s.next + 1 < C.toks.length) : Ho (readP C) s fun x t => x = C.word s.next ∧ t.next = s.next + 1 ∧ Mv C 1 s t := by
  unfold Ho readP
  rw [if_pos h]
  by_cases h0 : s.over = 0
  · rw [if_pos h0]; exact ⟨rfl, rfl, by show s.next + 1 ≤ s.next + 1; omega, h, rfl⟩
  · rw [if_neg h0]; trivial
theorem take_ho (hC : CW C) {x : ByteArray} (hx : x.size ≠ 0) (hs : s.next < C.toks.length) : Ho (takeP C x) s fun b t => (b = true → Mv C 1 s t ∧ wordS C 0 s = x) ∧ (b = false → t = s ∧ wordS C 0 s ≠ x) := by
  refine ho_look (ho_if (fun h => ?_) (fun h => ho_ret ⟨(fun h' => by cases h'), fun _ => ⟨rfl, fun e => h (decide_eq_true e)⟩⟩))
  have he : wordS C 0 s = x := of_decide_eq_true h
  refine ho_then (read_ho (hC.last _ (by rw [show C.word s.next = x from he]; exact hx))) (fun a t ht => ho_ret ⟨fun _ => ⟨ht.2.2, he⟩, fun h' => by cases h'⟩)
theorem want_ho (hC : CW C) {x : ByteArray} (hx : x.size ≠ 0) (hs : s.next < C.toks.length) : Ho (wantP C x) s fun _ t => Mv C 1 s t := by
  refine ho_then (take_ho hC hx hs) (fun b t ht => ho_if (fun h => ho_ret (ht.1 h).1) (fun _ => ho_look ho_thr))
theorem name_ho (hC : CW C) : Ho (nameP C) s fun x t => x.size ≠ 0 ∧ x.size ≤ 65536 ∧ Mv C 1 s t := by
  refine ho_look (ho_if (fun h => ?_) (fun _ => ho_look ho_thr))
  have hn := hC.name _ h
  refine ho_mono (read_ho (hC.last _ hn)) (fun a t ht => ⟨?_, ?_, ht.2.2⟩)
  · rw [ht.1]; exact hn
  · rw [ht.1]; exact hC.size _
theorem make_ho {x : Nd} {f d : Nat} {s0 : PS} (h : Mv C d s0 s) (hd : 0 < d) (hg : goodN x = true) : Ho (makeP C x f) s fun _ t => Mv C d s0 t := by
  unfold Ho makeP
  rw [if_neg (by have := h.on; rw [hg]; simp; omega)]
  by_cases h0 : s.made.length = 8192
  · rw [if_pos h0]; trivial
  · rw [if_neg h0]; exact ⟨h.on, h.in_, h.deep⟩
theorem more_ho {n d : Nat} {s0 : PS} (h : Mv C d s0 s) : Ho (moreP n) s fun _ t => Mv C d s0 t := ⟨h.on, h.in_, h.deep⟩
theorem cap_ho {l : List Nat} (h : l.length ≤ 90000) : Ho (capP l) s fun _ t => t = s := by
  unfold Ho capP
  rw [if_pos h]
theorem good_nd (k : Int) {t : ByteArray} {l : List Nat} (ht : t.size ≤ 65536) (hl : l.length ≤ 100000) : goodN (nd k t l) = true := by
  unfold goodN nd
  simp only [List.length_map, decide_eq_true_iff, List.length_nil]
  exact ⟨hl, ht, by show (0 : Nat) ≤ _; omega, by show (0 : Nat) ≤ _; omega, by omega⟩
theorem Mv.refl (h : s.next < C.toks.length) : Mv C 0 s s := ⟨by omega, h, rfl⟩
def OneA (C : PC) (a : Nat) (one : PM Nat) : Prop := ∀ t : PS, a ≤ t.next → t.next < C.toks.length → Ho one t fun _ u => Mv C 1 t u
theorem many_ho (hC : CW C) (one : PM Nat) (a : Nat) (h1 : OneA C a one) : ∀ (k : Nat) (l : List Nat) (s : PS), a ≤ s.next → s.next < C.toks.length → C.toks.length ≤ s.next + k → l.length ≤ s.next → Ho (manyP C one k l) s fun r t => Mv C 0 s t ∧ r.length ≤ t.next
  | 0, l, s, ha, hs, hk, hl => by omega
  | k + 1, l, s, ha, hs, hk, hl => by
    have hlen := hC.long
    refine ho_then (cap_ho (by omega)) (fun _ t0 h0 => ?_)
    subst h0
    refine ho_then (take_ho hC (by decide) hs) (fun b t ht => ho_if (fun hb => ?_) (fun hb => ho_ret ?_))
    · obtain ⟨m1, -⟩ := ht.1 hb
      refine ho_then (more_ho m1) (fun _ t2 m2 => ho_then (h1 t2 (by have := m2.on; omega) m2.in_) (fun x t3 m3 => ?_))
      have e1 := m2.on
      have e2 := m3.on
      refine ho_mono (many_ho hC one a h1 k (l ++ [x]) t3 (by omega) m3.in_ (by omega) (by simp; omega)) (fun r t4 h4 => ⟨((m2.trans m3).trans h4.1).le (Nat.zero_le _), h4.2⟩)
    · have hb' : b = false := by simpa using hb
      obtain ⟨rfl, -⟩ := ht.2 hb'
      exact ⟨Mv.refl hs, hl⟩
theorem list_ho (hC : CW C) (one : PM Nat) (h1 : OneA C (s.next + 1) one) (hs : s.next < C.toks.length) : Ho (listP C one) s fun r t => Mv C 1 s t ∧ r.length ≤ t.next := by
  refine ho_then (want_ho hC (by decide) hs) (fun _ t m1 => ho_then (take_ho hC (by decide) m1.in_) (fun b u hu => ho_if (fun hb => ho_ret ?_) (fun hb => ?_)))
  · exact ⟨(m1.trans (hu.1 hb).1).le (by omega), by simp⟩
  · obtain ⟨rfl, -⟩ := hu.2 (by simpa using hb)
    have e1 := m1.on
    refine ho_then (h1 u e1 m1.in_) (fun x v m2 => ?_)
    have e2 := m2.on
    refine ho_then (many_ho hC one (s.next + 1) h1 _ [x] v (by omega) m2.in_ (by omega) (by simp; omega)) (fun l t3 h3 => ho_then (want_ho hC (by decide) h3.1.in_) (fun _ t4 m4 => ho_ret ?_))
    have := m4.on
    exact ⟨(((m1.trans m2).trans h3.1).trans m4).le (by omega), by omega⟩
theorem base_ho (hC : CW C) (b : Nat) (hs : b ≠ 5 → s.next + 1 < C.toks.length) : Ho (baseP C b) s fun n t => typeB n = true ∧ n.kids = [] ∧ n.text.size = 0 ∧ Mv C 1 s t := by
  have H : Ho (if b = 5 then nameP C else bnd (readP C) fun _ => ret ⟨#[]⟩) s fun x t => x.size ≤ 65536 ∧ Mv C 1 s t :=
    ho_if (fun _ => ho_mono (name_ho hC) (fun x t h => h.2)) (fun hb => ho_then (read_ho (hs hb)) (fun x t h => ho_ret ⟨by decide, h.2.2⟩))
  refine ho_then H (fun x t h => ho_look (ho_ret ⟨?_, rfl, rfl, h.2⟩))
  unfold typeB
  simp only [decide_eq_true_iff]
  exact ⟨by omega, by omega, rfl, h.1, by simp⟩
theorem type_facts {n : Nd} (h : typeB n = true) : 0 ≤ n.D ∧ n.D ≤ 4 ∧ n.M.size = n.D.toNat + 1 ∧ n.N.size ≤ 65536 ∧ n.ends.length ≤ n.D.toNat + 1 := by unfold typeB at h; exact of_decide_eq_true h
theorem mark_type {n : Nd} (h : typeB n = true) (m : UInt8) : typeB (markT n m) = true := by
  obtain ⟨h0, h1, h2, h3, h4⟩ := type_facts h
  unfold typeB markT
  simp only [decide_eq_true_iff]
  refine ⟨h0, h1, ?_, h3, h4⟩
  rw [ByteArray.size_append, ByteArray.size_extract]
  have : (⟨#[m]⟩ : ByteArray).size = 1 := rfl
  omega
theorem null_ho (hC : CW C) {n : Nd} (hn : typeB n = true) (hs : s.next < C.toks.length) : Ho (nullP C n) s fun m t => (typeB m = true ∧ m.kids = n.kids ∧ m.text = n.text) ∧ Mv C 1 s t :=
  ho_look (ho_if (fun h => by rw [hn] at h; cases h) (fun _ => ho_if (fun _ => ho_thr) (fun _ => ho_then (want_ho hC (by decide) hs) (fun _ t m => ho_ret ⟨⟨mark_type hn _, rfl, rfl⟩, m⟩))))
theorem array_ho (hC : CW C) {n : Nd} (hn : typeB n = true) (hs : s.next < C.toks.length) : Ho (arrayP C n) s fun m t => (typeB m = true ∧ m.kids = n.kids ∧ m.text = n.text) ∧ Mv C 1 s t := by
  refine ho_look (ho_then (want_ho hC (by decide) hs) (fun _ t m1 => ho_then (want_ho hC (by decide) m1.in_) (fun _ u m2 => ho_if (fun h => by rw [hn] at h; cases h) (fun _ => ho_if (fun _ => ho_thr) (fun h4 => ho_look (ho_ret ⟨⟨?_, rfl, rfl⟩, (m1.trans m2).le (by omega)⟩))))))
  obtain ⟨h0, h1, h2, h3, h5⟩ := type_facts hn
  unfold typeB
  simp only [decide_eq_true_iff]
  refine ⟨by omega, by omega, ?_, h3, ?_⟩
  · rw [ByteArray.size_append, h2]
    have : (⟨#[32]⟩ : ByteArray).size = 1 := rfl
    omega
  · simp; omega
theorem inner_loop_ho (hC : CW C) (anew : Bool) (f : Nat) : ∀ (k : Nat) (n : Nd) (s : PS), s.next < C.toks.length → C.toks.length ≤ s.next + k → typeB n = true → Ho (innerL C anew f k n) s fun m t => (typeB m = true ∧ m.kids = n.kids ∧ m.text = n.text) ∧ Mv C 0 s t
  | 0, n, s, hs, hk, hn => by omega
  | k + 1, n, s, hs, hk, hn => by
    refine ho_look (ho_if (fun _ => ?_) (fun _ => ho_if (fun _ => ?_) (fun _ => ho_look (ho_ret ⟨⟨?_, rfl, rfl⟩, Mv.refl hs⟩))))
    · refine ho_then (null_ho hC hn hs) (fun m t h => ?_)
      have := h.2.on
      exact ho_mono (inner_loop_ho hC anew f k m t h.2.in_ (by omega) h.1.1) (fun r u hr => ⟨⟨hr.1.1, by rw [hr.1.2.1, h.1.2.1], by rw [hr.1.2.2, h.1.2.2]⟩, (h.2.trans hr.2).le (by omega)⟩)
    · refine ho_then (array_ho hC hn hs) (fun m t h => ?_)
      have := h.2.on
      exact ho_mono (inner_loop_ho hC anew f k m t h.2.in_ (by omega) h.1.1) (fun r u hr => ⟨⟨hr.1.1, by rw [hr.1.2.1, h.1.2.1], by rw [hr.1.2.2, h.1.2.2]⟩, (h.2.trans hr.2).le (by omega)⟩)
    · obtain ⟨h0, h1, h2, h3, h5⟩ := type_facts hn
      unfold typeB
      simp only [decide_eq_true_iff]
      exact ⟨h0, h1, h2, h3, h5⟩
def TyN (n : Nd) : Prop := typeB n = true ∧ n.kids = [] ∧ n.text.size = 0
theorem kindT_word {x : ByteArray} (h : kindT x ≠ 5) : x.size ≠ 0 := by
  intro h0
  apply h
  obtain rfl : x = ⟨#[]⟩ := by
    cases x with
    | mk d => cases d with
      | mk l => cases l with
        | nil => rfl
        | cons a l => simp [ByteArray.size] at h0
  rfl
theorem inner_ho (hC : CW C) (anew : Bool) (hs : s.next < C.toks.length) : Ho (innerP C anew) s fun m t => TyN m ∧ Mv C 1 s t := by
  refine ho_look (ho_look (ho_then (base_ho hC _ (fun h => hC.last _ (kindT_word h))) (fun n t h => ?_)))
  have := h.2.2.2.on
  exact ho_mono (inner_loop_ho hC anew _ _ n t h.2.2.2.in_ (by omega) h.1) (fun m u hm => ⟨⟨hm.1.1, by rw [hm.1.2.1, h.2.1], by rw [hm.1.2.2, h.2.2.1]⟩, (h.2.2.2.trans hm.2).le (by omega)⟩)
theorem typed_ho (hC : CW C) (hs : s.next < C.toks.length) : Ho (typedP C) s fun m t => TyN m ∧ Mv C 1 s t := by
  refine ho_look (ho_then (take_ho hC (by decide) hs) (fun b t ht => ho_if (fun hb => ?_) (fun hb => ?_)))
  · obtain ⟨m1, -⟩ := ht.1 hb
    refine ho_then (want_ho hC (by decide) m1.in_) (fun _ u m2 => ho_then (inner_ho hC false m2.in_) (fun n v h3 => ho_then (want_ho hC (by decide) h3.2.in_) (fun _ z m4 => ho_if (fun h => by rw [h3.1.1] at h; cases h) (fun _ => ho_if (fun _ => ho_thr) (fun _ => ho_look (ho_ret ⟨⟨?_, h3.1.2⟩, ((m1.trans m2).trans (h3.2.trans m4)).le (by omega)⟩))))))
    have hm := mark_type h3.1.1 111
    obtain ⟨a0, a1, a2, a3, a4⟩ := type_facts hm
    unfold typeB
    simp only [decide_eq_true_iff]
    exact ⟨a0, a1, a2, a3, a4⟩
  · obtain ⟨rfl, -⟩ := ht.2 (by simpa using hb)
    exact inner_ho hC false hs
theorem answer_ho (hC : CW C) (hs : s.next < C.toks.length) : Ho (answerP C) s fun m t => TyN m ∧ Mv C 1 s t := by
  refine ho_look (ho_if (fun hb => ho_look (ho_then (base_ho hC 6 (fun _ => hC.last _ ?_)) (fun n t h => ho_look (ho_ret ⟨⟨?_, h.2.1, h.2.2.1⟩, h.2.2.2⟩)))) (fun _ => typed_ho hC hs))
  · rw [show C.word s.next = _ from of_decide_eq_true hb]; decide
  · obtain ⟨a0, a1, a2, a3, a4⟩ := type_facts h.1
    unfold typeB
    simp only [decide_eq_true_iff]
    exact ⟨a0, a1, a2, a3, a4⟩
theorem good_ty {n x : Nd} (h : TyN n) (hk : x.kids.length ≤ 100000) (ht : x.text.size ≤ 65536) (h1 : x.N = n.N) (h2 : x.M = n.M) (h3 : x.ends = n.ends) : goodN x = true := by
  obtain ⟨a0, a1, a2, a3, a4⟩ := type_facts h.1
  unfold goodN
  simp only [decide_eq_true_iff]
  exact ⟨hk, ht, by rw [h1]; exact a3, by rw [h2]; omega, by rw [h3]; omega⟩
end
end Go.Proofs.YtidannabjhbjpaaGreatDoor
namespace Go.Proofs.YtidannabjhbjpaaGreatDoor
section
variable {α β : Type} {C : PC} {s : PS}
theorem OneA.le {a b : Nat} {one : PM Nat} (h : OneA C a one) (hab : a ≤ b) : OneA C b one := fun t ht => h t (by omega)
theorem within_ho (hC : CW C) {value : PM Nat} (hv : OneA C (s.next + 1) value) (hs : s.next < C.toks.length) : Ho (withinP C value) s fun _ t => Mv C 1 s t := by
  refine ho_then (want_ho hC (by decide) hs) (fun _ t m1 => ho_then (hv t m1.on m1.in_) (fun n u m2 => ho_then (want_ho hC (by decide) m2.in_) (fun _ v m3 => ho_ret ((m1.trans (m2.trans m3)).le (by omega)))))
theorem lit_good (hC : CW C) (k : Nat) (x : ByteArray) (h : x.size ≤ 65536) : goodN (litN C k x).1 = true := by
  unfold litN
  by_cases h2 : k = 2
  · rw [if_pos h2]; rfl
  · rw [if_neg h2]
    by_cases h3 : k = 3
    · rw [if_pos h3]
      exact good_nd 20 (l := []) h (by simp)
    · rw [if_neg h3]
      exact good_nd 22 (l := []) (hC.unq x h) (by simp)
theorem literal_ho (hC : CW C) (hk : kindS C s ≠ 0) : Ho (literalP C) s fun _ t => Mv C 1 s t := by
  refine ho_look (ho_look (ho_then (read_ho (hC.kind _ hk)) (fun x t h => ho_then (make_ho h.2.2 (by omega) (lit_good hC _ _ (by rw [h.1]; exact hC.size _))) (fun i u m => ho_if (fun _ => ho_ret m) (fun _ => ho_thr)))))
theorem const_good (x : ByteArray) : goodN (constN x) = true := by
  unfold constN
  repeat' split
  all_goals rfl
theorem first_ho (hC : CW C) {value : PM Nat} (hv : OneA C (s.next + 1) value) (hs : s.next < C.toks.length) : Ho (firstP C value) s fun _ t => Mv C 1 s t := by
  have pos : ∀ {x y : ByteArray}, x = y → y.size ≠ 0 → x.size ≠ 0 := fun e h => by rw [e]; exact h
  refine ho_look (ho_if (fun hk => literal_ho hC (by omega)) (fun _ => ho_look (ho_if (fun _ => within_ho hC hv hs) (fun _ => ho_if (fun hx => ?_) (fun _ => ho_if (fun hx => ?_) (fun _ => ho_if (fun _ => ?_) (fun _ => ho_if (fun _ => ?_) (fun _ => ho_if (fun _ => ?_) (fun _ => ?_)))))))))
  · have hx' : (wordS C 0 s).size ≠ 0 := by
      rcases hx with hx | hx | hx | hx | hx <;> exact pos hx (by decide)
    exact ho_look (ho_then (want_ho hC hx' hs) (fun _ t m => make_ho m (by omega) (const_good _)))
  · have hx' : (wordS C 0 s).size ≠ 0 := by
      rcases hx with hx | hx | hx | hx <;> exact pos hx (by decide)
    exact ho_look (ho_then (want_ho hC hx' hs) (fun _ t m => ho_then (within_ho hC (hv.le (by have := m.on; omega)) m.in_) (fun k u m2 => make_ho ((m.trans m2).le (by omega)) (by omega) (good_nd _ (by decide) (by simp)))))
  · exact ho_look (ho_then (want_ho hC (by decide) hs) (fun _ t m => ho_then (want_ho hC (by decide) m.in_) (fun _ u m2 => ho_then (want_ho hC (by decide) m2.in_) (fun _ v m3 => make_ho ((m.trans (m2.trans m3)).le (by omega)) (by omega) rfl))))
  · refine ho_look (ho_then (want_ho hC (by decide) hs) (fun _ t m => ho_then (want_ho hC (by decide) m.in_) (fun _ u m2 => ho_then (typed_ho hC m2.in_) (fun n v h3 => ho_then (want_ho hC (by decide) h3.2.in_) (fun _ z m4 => ?_)))))
    have mm := (m.trans m2).trans (h3.2.trans m4)
    refine ho_then (within_ho hC (hv.le (by have := mm.on; omega)) m4.in_) (fun k y m5 => make_ho ((mm.trans m5).le (by omega)) (by omega) (good_ty (n := n) h3.1 (by show [(k : Int)].length ≤ _; simp) (by show n.text.size ≤ _; rw [h3.1.2.2]; omega) rfl rfl rfl))
  · refine ho_look (ho_then (want_ho hC (by decide) hs) (fun _ t m => ho_then (inner_ho hC true m.in_) (fun n u h2 => ho_then (take_ho hC (by decide) h2.2.in_) (fun b v hb => ho_if (fun h => ?_) (fun h => ?_)))))
    · have mm := (m.trans h2.2).trans (hb.1 h).1
      refine ho_then (hv v (by have := mm.on; omega) mm.in_) (fun k y m5 => ho_then (want_ho hC (by decide) m5.in_) (fun _ z m6 => make_ho ((mm.trans (m5.trans m6)).le (by omega)) (by omega) (good_ty (n := n) h2.1 (by show [(k : Int)].length ≤ _; simp) (by show n.text.size ≤ _; rw [h2.1.2.2]; omega) rfl rfl rfl)))
    · obtain ⟨rfl, -⟩ := hb.2 (by simpa using h)
      have mm := m.trans h2.2
      refine ho_look (ho_if (fun _ => ho_thr) (fun _ => ho_then (list_ho hC value (hv.le (by have := mm.on; omega)) mm.in_) (fun l y m5 => make_ho ((mm.trans m5.1).le (by omega)) (by omega) (good_ty (n := n) h2.1 ?_ (by show n.text.size ≤ _; rw [h2.1.2.2]; omega) rfl rfl rfl))))
      have := hC.long
      have := m5.1.in_
      have := m5.2
      show (l.map Int.ofNat).length ≤ _
      simp; omega
  · refine ho_look (ho_then (name_ho hC) (fun t u h => make_ho h.2.2 (by omega) (good_nd _ h.2.1 (by simp))))
theorem had_ho (hC : CW C) {value : PM Nat} {of f : Nat} (hv : OneA C (s.next + 1) value) (hs : s.next < C.toks.length) : Ho (hadP C value of f) s fun _ t => Mv C 1 s t := by
  refine ho_then (take_ho hC (by decide) hs) (fun b t hb => ho_if (fun h => make_ho (hb.1 h).1 (by omega) rfl) (fun h => ?_))
  obtain ⟨rfl, -⟩ := hb.2 (by simpa using h)
  refine ho_then (take_ho hC (by decide) hs) (fun b t hb => ho_if (fun h => make_ho (hb.1 h).1 (by omega) rfl) (fun h => ?_))
  obtain ⟨rfl, -⟩ := hb.2 (by simpa using h)
  refine ho_then (name_ho hC) (fun x u hx => ho_look (ho_if (fun _ => ?_) (fun _ => make_ho hx.2.2 (by omega) (good_nd _ hx.2.1 (by simp)))))
  refine ho_then (list_ho hC value (hv.le (by have := hx.2.2.on; omega)) hx.2.2.in_) (fun l y m5 => make_ho ((hx.2.2.trans m5.1).le (by omega)) (by omega) (good_nd _ hx.2.1 ?_))
  have := hC.long
  have := m5.1.in_
  have := m5.2
  simp; omega
theorem ask_ho (hC : CW C) {value : PM Nat} (a f : Nat) (hv : OneA C (a + 1) value) : ∀ (k n : Nat) (s : PS), a ≤ s.next → s.next < C.toks.length → 1 ≤ s.next → C.toks.length ≤ s.next + k → Ho (askL C value f k n) s fun _ t => Mv C 0 s t
  | 0, n, s, ha, hs, h1, hk => by omega
  | k + 1, n, s, ha, hs, h1, hk => by
    refine ho_then (take_ho hC (by decide) hs) (fun b t hb => ho_if (fun h => ?_) (fun h => ?_))
    · refine ho_then (make_ho (hb.1 h).1 (by omega) rfl) (fun m u m1 => ?_)
      have := m1.on
      exact ho_mono (ask_ho hC a f hv k m u (by omega) m1.in_ (by omega) (by omega)) (fun _ v m2 => (m1.trans m2).le (by omega))
    · obtain ⟨rfl, -⟩ := hb.2 (by simpa using h)
      refine ho_then (take_ho hC (by decide) hs) (fun b t hb => ho_if (fun h => ?_) (fun h => ?_))
      · obtain ⟨m1, -⟩ := hb.1 h
        have := m1.on
        refine ho_then (hv t (by omega) m1.in_) (fun i u m2 => ho_then (want_ho hC (by decide) m2.in_) (fun _ v m3 => ho_then (make_ho (m1.trans (m2.trans m3)) (by omega) rfl) (fun m z m4 => ?_)))
        have := m4.on
        exact ho_mono (ask_ho hC a f hv k m z (by omega) m4.in_ (by omega) (by omega)) (fun _ v m5 => (m4.trans m5).le (by omega))
      · obtain ⟨rfl, -⟩ := hb.2 (by simpa using h)
        refine ho_then (take_ho hC (by decide) hs) (fun b t hb => ho_if (fun h => ?_) (fun h => ?_))
        · obtain ⟨m1, -⟩ := hb.1 h
          have := m1.on
          refine ho_then (had_ho hC (hv.le (by omega)) m1.in_) (fun m u m2 => ?_)
          have := m2.on
          exact ho_mono (ask_ho hC a f hv k m u (by omega) m2.in_ (by omega) (by omega)) (fun _ v m5 => ((m1.trans m2).trans m5).le (by omega))
        · obtain ⟨rfl, -⟩ := hb.2 (by simpa using h)
          exact ho_ret (Mv.refl hs)
theorem asked_ho (hC : CW C) {value : PM Nat} (hv : OneA C (s.next + 1) value) (hs : s.next < C.toks.length) : Ho (askedP C value) s fun _ t => Mv C 1 s t := by
  refine ho_look (ho_then (first_ho hC hv hs) (fun n t m => ?_))
  have := m.on
  exact ho_mono (ask_ho hC s.next _ hv _ n t (by omega) m.in_ (by omega) (by omega)) (fun _ u m2 => (m.trans m2).le (by omega))
theorem binds_word {x : ByteArray} (h : bindsN x ≠ 0) : x.size ≠ 0 := by
  intro h0
  apply h
  obtain rfl : x = ⟨#[]⟩ := by
    cases x with
    | mk d => cases d with
      | mk l => cases l with
        | nil => rfl
        | cons a l => simp [ByteArray.size] at h0
  rfl
theorem join_ho (hC : CW C) {part : PM Nat} {first f : Nat} (hp : OneA C (s.next + 1) part) (hw : (wordS C 0 s).size ≠ 0) : Ho (joinP C part first f) s fun _ t => Mv C 1 s t := by
  refine ho_then (read_ho (hC.last _ hw)) (fun x t h => ho_if (fun _ => ?_) (fun _ => ?_))
  · exact ho_then (hp t h.2.2.on h.2.2.in_) (fun k u m => make_ho ((h.2.2.trans m).le (by omega)) (by omega) (good_nd _ (by rw [h.1]; exact hC.size _) (by simp)))
  · refine ho_then (take_ho hC (by decide) h.2.2.in_) (fun b u hb => ho_if (fun hbt => make_ho ((h.2.2.trans (hb.1 hbt).1).le (by omega)) (by omega) rfl) (fun hbf => ?_))
    obtain ⟨rfl, -⟩ := hb.2 (by simpa using hbf)
    exact ho_then (want_ho hC (by decide) h.2.2.in_) (fun _ v m => make_ho ((h.2.2.trans m).le (by omega)) (by omega) rfl)
theorem join_loop_ho (hC : CW C) {part : PM Nat} (c a f : Nat) (hc : c ≠ 0) (hp : OneA C (a + 1) part) : ∀ (k n : Nat) (s : PS), a ≤ s.next → s.next < C.toks.length → C.toks.length ≤ s.next + k → Ho (joinL C part c f k n) s fun _ t => Mv C 0 s t
  | 0, n, s, ha, hs, hk => by omega
  | k + 1, n, s, ha, hs, hk => by
    refine ho_look (ho_if (fun h => ?_) (fun _ => ho_ret (Mv.refl hs)))
    refine ho_then (join_ho hC (hp.le (by omega)) (binds_word (by omega))) (fun m t m1 => ?_)
    have := m1.on
    exact ho_mono (join_loop_ho hC c a f hc hp k m t (by omega) m1.in_ (by omega)) (fun _ u m2 => (m1.trans m2).le (by omega))
theorem decl_ho (hC : CW C) {value : PM Nat} (hv : OneA C (s.next + 1) value) (hs : s.next < C.toks.length) : Ho (declP C value) s fun _ t => Mv C 1 s t := by
  refine ho_look (ho_then (typed_ho hC hs) (fun n t h1 => ho_then (name_ho hC) (fun x u h2 => ho_then (take_ho hC (by decide) h2.2.2.in_) (fun b v hb => ho_if (fun h => ?_) (fun h => ?_)))))
  · have mm := (h1.2.trans h2.2.2).trans (hb.1 h).1
    exact ho_then (hv v (by have := mm.on; omega) mm.in_) (fun k y m5 => ho_then (want_ho hC (by decide) m5.in_) (fun _ z m6 => make_ho ((mm.trans (m5.trans m6)).le (by omega)) (by omega) (good_ty (n := n) h1.1 (by show [(k : Int)].length ≤ _; simp) h2.2.1 rfl rfl rfl)))
  · obtain ⟨rfl, -⟩ := hb.2 (by simpa using h)
    exact ho_then (want_ho hC (by decide) h2.2.2.in_) (fun _ z m6 => make_ho (((h1.2.trans h2.2.2).trans m6).le (by omega)) (by omega) (good_ty (n := n) h1.1 (by show n.kids.length ≤ _; rw [h1.1.2.1]; simp) h2.2.1 rfl rfl rfl))
theorem branch_ho (hC : CW C) {value block : PM Nat} (hv : OneA C (s.next + 1) value) (hb : OneA C (s.next + 1) block) (hs : s.next < C.toks.length) : Ho (branchP C value block) s fun _ t => Mv C 1 s t := by
  refine ho_look (ho_then (want_ho hC (by decide) hs) (fun _ t m1 => ?_))
  have e1 := m1.on
  refine ho_then (within_ho hC (hv.le (by omega)) m1.in_) (fun a u m2 => ?_)
  have e2 := m2.on
  refine ho_then (hb u (by omega) m2.in_) (fun b v m3 => ho_then (take_ho hC (by decide) m3.in_) (fun e y he => ho_if (fun h => ?_) (fun h => ?_)))
  · have mm := (m1.trans m2).trans (m3.trans (he.1 h).1)
    exact ho_then (hb y (by have := mm.on; omega) mm.in_) (fun c z m5 => make_ho ((mm.trans m5).le (by omega)) (by omega) rfl)
  · obtain ⟨rfl, -⟩ := he.2 (by simpa using h)
    exact make_ho ((m1.trans (m2.trans m3)).le (by omega)) (by omega) rfl
theorem loop_ho (hC : CW C) {value block : PM Nat} (hv : OneA C (s.next + 1) value) (hb : OneA C (s.next + 1) block) (hs : s.next < C.toks.length) : Ho (loopP C value block) s fun _ t => Mv C 1 s t := by
  refine ho_look (ho_then (want_ho hC (by decide) hs) (fun _ t m1 => ?_))
  have e1 := m1.on
  refine ho_then (within_ho hC (hv.le (by omega)) m1.in_) (fun a u m2 => ?_)
  have e2 := m2.on
  exact ho_then (hb u (by omega) m2.in_) (fun b v m3 => make_ho ((m1.trans (m2.trans m3)).le (by omega)) (by omega) rfl)
theorem short_ho (hC : CW C) {k : Int} (hw : (wordS C 0 s).size ≠ 0) : Ho (shortP C k) s fun _ t => Mv C 1 s t := by
  refine ho_look (ho_then (read_ho (hC.last _ hw)) (fun x t h => ho_then (want_ho hC (by decide) h.2.2.in_) (fun _ u m => make_ho ((h.2.2.trans m).le (by omega)) (by omega) rfl)))
theorem result_ho (hC : CW C) {value : PM Nat} (hv : OneA C (s.next + 1) value) (hs : s.next < C.toks.length) : Ho (resultP C value) s fun _ t => Mv C 1 s t := by
  refine ho_look (ho_then (want_ho hC (by decide) hs) (fun _ t m1 => ho_look (ho_if (fun _ => ?_) (fun _ => ?_))))
  · exact ho_then (want_ho hC (by decide) m1.in_) (fun _ u m => make_ho ((m1.trans m).le (by omega)) (by omega) rfl)
  · exact ho_then (hv t m1.on m1.in_) (fun k u m2 => ho_then (want_ho hC (by decide) m2.in_) (fun _ v m => make_ho ((m1.trans (m2.trans m)).le (by omega)) (by omega) rfl))
theorem print_ho (hC : CW C) {value : PM Nat} (hv : OneA C (s.next + 1) value) (hs : s.next < C.toks.length) : Ho (printP C value) s fun _ t => Mv C 1 s t := by
  refine ho_look (ho_then (want_ho hC (by decide) hs) (fun _ t m1 => ?_))
  have e1 := m1.on
  exact ho_then (within_ho hC (hv.le (by omega)) m1.in_) (fun a u m2 => ho_then (want_ho hC (by decide) m2.in_) (fun _ v m => make_ho ((m1.trans (m2.trans m)).le (by omega)) (by omega) rfl))
theorem super_ho (hC : CW C) {value : PM Nat} (hv : OneA C (s.next + 1) value) (hs : s.next < C.toks.length) : Ho (superP C value) s fun _ t => Mv C 1 s t := by
  refine ho_look (ho_then (want_ho hC (by decide) hs) (fun _ t m1 => ?_))
  have e1 := m1.on
  refine ho_then (list_ho hC value (hv.le (by omega)) m1.in_) (fun l u m2 => ho_then (want_ho hC (by decide) m2.1.in_) (fun _ v m => make_ho ((m1.trans (m2.1.trans m)).le (by omega)) (by omega) (good_nd _ (by decide) ?_)))
  have := hC.long
  have := m2.1.in_
  have := m2.2
  omega
theorem valued_ho (hC : CW C) {value : PM Nat} (hv : OneA C s.next value) (hs : s.next < C.toks.length) : Ho (valuedP C value) s fun _ t => Mv C 1 s t := by
  refine ho_look (ho_then (hv s (Nat.le_refl _) hs) (fun a t m1 => ho_look (ho_look (ho_if (fun _ => ho_if (fun _ => ?_) (fun _ => ho_look ho_thr)) (fun _ => ?_)))))
  · refine ho_then (want_ho hC (by decide) m1.in_) (fun _ u m2 => ho_then (hv u (by have := m1.on; have := m2.on; omega) m2.in_) (fun k v m3 => ho_then (want_ho hC (by decide) m3.in_) (fun _ z m4 => make_ho (((m1.trans m2).trans (m3.trans m4)).le (by omega)) (by omega) rfl)))
  · exact ho_then (want_ho hC (by decide) m1.in_) (fun _ u m2 => ho_then (make_ho (m1.trans m2) (by omega) rfl) (fun i v m3 => ho_if (fun _ => ho_ret (m3.le (by omega))) (fun _ => ho_thr)))
theorem stat_ho (hC : CW C) {value block : PM Nat} (hv : OneA C s.next value) (hb : OneA C s.next block) (hs : s.next < C.toks.length) : Ho (statP C value block) s fun _ t => Mv C 1 s t := by
  have hv1 := hv.le (Nat.le_succ s.next)
  have hb1 := hb.le (Nat.le_succ s.next)
  have pos : ∀ {x y : ByteArray}, x = y → y.size ≠ 0 → x.size ≠ 0 := fun e h => by rw [e]; exact h
  refine ho_look (ho_if (fun _ => hb s (Nat.le_refl _) hs) (fun _ => ho_if (fun _ => branch_ho hC hv1 hb1 hs) (fun _ => ho_if (fun _ => loop_ho hC hv1 hb1 hs) (fun _ => ho_if (fun h => short_ho hC (pos h (by decide))) (fun _ => ho_if (fun h => short_ho hC (pos h (by decide))) (fun _ => ho_if (fun _ => result_ho hC hv1 hs) (fun _ => ho_if (fun _ => print_ho hC hv1 hs) (fun _ => ho_if (fun _ => super_ho hC hv1 hs) (fun _ => ho_look (ho_if (fun _ => decl_ho hC hv1 hs) (fun _ => valued_ho hC hv hs)))))))))))
theorem stats_ho (hC : CW C) {stat : PM Nat} (a : Nat) (h1 : OneA C a stat) : ∀ (k : Nat) (l : List Nat) (s : PS), a ≤ s.next → s.next < C.toks.length → C.toks.length ≤ s.next + k → l.length ≤ s.next → Ho (statL C stat k l) s fun r t => Mv C 1 s t ∧ r.length ≤ t.next
  | 0, l, s, ha, hs, hk, hl => by omega
  | k + 1, l, s, ha, hs, hk, hl => by
    have hlen := hC.long
    refine ho_then (cap_ho (by omega)) (fun _ t0 h0 => ?_)
    subst h0
    refine ho_then (take_ho hC (by decide) hs) (fun b t ht => ho_if (fun hb => ho_ret ⟨(ht.1 hb).1, by have := (ht.1 hb).1.on; omega⟩) (fun hb => ?_))
    obtain ⟨rfl, -⟩ := ht.2 (by simpa using hb)
    refine ho_then (h1 t ha hs) (fun x t3 m3 => ?_)
    have e2 := m3.on
    exact ho_mono (stats_ho hC a h1 k (l ++ [x]) t3 (by omega) m3.in_ (by omega) (by simp; omega)) (fun r t4 h4 => ⟨(m3.trans h4.1).le (by omega), h4.2⟩)
def rankG : PG → Nat
  | .value => 9
  | .joined c => 8 - c
  | .signed => 0
  | .block => 0
def okG : PG → Prop
  | .joined c => 1 ≤ c ∧ c ≤ 7
  | _ => True
theorem run_ho (hC : CW C) : ∀ (n : Nat) (g : PG) (s : PS), okG g → s.next < C.toks.length → 20 * (C.toks.length - s.next) + rankG g < n → Ho (runG C n g) s fun _ t => Mv C 1 s t
  | 0, g, s, _, _, h => by omega
  | n + 1, g, s, hg, hs, hn => by
    have hv : OneA C (s.next + 1) (runG C n .value) := fun t ht hin => run_ho hC n .value t trivial hin (by show _ + 9 < n; omega)
    have hb : OneA C (s.next + 1) (runG C n .block) := fun t ht hin => run_ho hC n .block t trivial hin (by show _ + 0 < n; omega)
    show Ho (stepG C (runG C n) g) s _
    cases g with
    | value =>
      have hn' : 20 * (C.toks.length - s.next) + 9 < n + 1 := hn
      show Ho (bnd enterP fun _ => bnd (runG C n (.joined 1)) fun k => bnd leaveP fun _ => ret k) s _
      refine ho_then (P := fun (_ : Unit) t => Mv C 0 s { t with deep := t.deep - 1 } ∧ 0 < t.deep) (m := enterP) ?_ (fun _ t h => ?_)
      · exact ⟨⟨by show s.next + 0 ≤ s.next; omega, hs, rfl⟩, Nat.succ_pos _⟩
      · have e1 : s.next ≤ t.next := h.1.on
        have e2 : t.next < C.toks.length := h.1.in_
        refine ho_then (run_ho hC n (.joined 1) t ⟨by omega, by omega⟩ e2 (by show _ + 7 < n; omega)) (fun k u m => ?_)
        have hd : t.deep - 1 = s.deep := h.1.deep
        refine ho_then (m := leaveP) (P := fun (_ : Unit) v => Mv C 1 s v) ?_ (fun _ v m => ho_ret m)
        unfold Ho leaveP
        rw [if_neg (by have := m.deep; have := h.2; omega)]
        exact ⟨by show s.next + 1 ≤ u.next; have := m.on; omega, m.in_, by show u.deep - 1 = s.deep; rw [m.deep]; exact hd⟩
    | joined c =>
      have hn' : 20 * (C.toks.length - s.next) + (8 - c) < n + 1 := hn
      obtain ⟨c0, c1⟩ : 1 ≤ c ∧ c ≤ 7 := hg
      refine ho_if (fun _ => run_ho hC n .signed s trivial hs (by show _ + 0 < n; omega)) (fun hc => ho_look (ho_then (run_ho hC n (.joined (c + 1)) s ⟨by omega, by omega⟩ hs (by show _ + (8 - (c + 1)) < n; omega)) (fun k t m => ?_)))
      have e1 := m.on
      have hp : OneA C (s.next + 1) (runG C n (.joined (c + 1))) := fun t ht hin => run_ho hC n _ t ⟨by omega, by omega⟩ hin (by show _ + (8 - (c + 1)) < n; omega)
      exact ho_mono (join_loop_ho hC c s.next _ (by omega) hp _ k t (by omega) m.in_ (by omega)) (fun _ u m2 => (m.trans m2).le (by omega))
    | signed =>
      have hn' : 20 * (C.toks.length - s.next) + 0 < n + 1 := hn
      refine ho_look (ho_if (fun h => ho_look ?_) (fun _ => asked_ho hC hv hs))
      have hw : (wordS C 0 s).size ≠ 0 := by rcases h with h | h <;> (rw [h]; decide)
      refine ho_then (P := fun (_ : Unit) t => (t.next = s.next ∧ t.deep = s.deep + 1)) (m := enterP) ⟨rfl, rfl⟩ (fun _ t h1 => ?_)
      refine ho_then (read_ho (by rw [h1.1]; exact hC.last _ hw)) (fun _ u h2 => ?_)
      have e1 := h2.2.2.on
      have e2 := h2.2.2.in_
      refine ho_then (run_ho hC n .signed u trivial e2 (by show _ + 0 < n; omega)) (fun k v m => ?_)
      refine ho_then (m := leaveP) (P := fun (_ : Unit) v => Mv C 1 s v) ?_ (fun _ v m => make_ho m (by omega) (by rfl))
      unfold Ho leaveP
      rw [if_neg (by have := m.deep; have := h2.2.2.deep; omega)]
      exact ⟨by show s.next + 1 ≤ v.next; have := m.on; omega, m.in_, by show v.deep - 1 = s.deep; have := m.deep; have := h2.2.2.deep; omega⟩
    | block =>
      have hn' : 20 * (C.toks.length - s.next) + 0 < n + 1 := hn
      show Ho (bnd enterP fun _ => bnd (wantP C ⟨#[123]⟩) fun _ => bnd (statL C (statP C (runG C n .value) (runG C n .block)) C.toks.length []) fun l => bnd leaveP fun _ => makeP C (nd 8 ⟨#[]⟩ l) (fromS C s)) s _
      refine ho_then (P := fun (_ : Unit) t => (t.next = s.next ∧ t.deep = s.deep + 1)) (m := enterP) ⟨rfl, rfl⟩ (fun _ t h1 => ?_)
      refine ho_then (want_ho hC (by decide) (by omega)) (fun _ u m1 => ?_)
      have e1 := m1.on
      have hst : OneA C u.next (statP C (runG C n .value) (runG C n .block)) := fun y hy hin => stat_ho hC (hv.le (by omega)) (hb.le (by omega)) hin
      refine ho_then (stats_ho hC u.next hst _ [] u (Nat.le_refl _) m1.in_ (by omega) (by simp)) (fun l v h2 => ?_)
      have hlen := hC.long
      refine ho_then (m := leaveP) (P := fun (_ : Unit) y => Mv C 1 s y ∧ l.length ≤ 90000) ?_ (fun _ y h => make_ho h.1 (by omega) (good_nd _ (by decide) (by omega)))
      unfold Ho leaveP
      rw [if_neg (by have := h2.1.deep; have := m1.deep; omega)]
      exact ⟨⟨by show s.next + 1 ≤ v.next; have := h2.1.on; omega, h2.1.in_, by show v.deep - 1 = s.deep; have := h2.1.deep; have := m1.deep; omega⟩, by have := h2.2; have := h2.1.in_; omega⟩
theorem param_ho (hC : CW C) (hs : s.next < C.toks.length) : Ho (paramP C) s fun _ t => Mv C 1 s t := by
  refine ho_look (ho_then (typed_ho hC hs) (fun n t h1 => ho_then (name_ho hC) (fun x u h2 => make_ho ((h1.2.trans h2.2.2).le (by omega)) (by omega) (good_ty (n := n) h1.1 (by show n.kids.length ≤ _; rw [h1.1.2.1]; simp) h2.2.1 rfl rfl rfl))))
theorem body_ho (hC : CW C) {block : PM Nat} {n x : Nd} {f : Nat} (hb : OneA C (s.next + 1) block) (hs : s.next < C.toks.length) (hx : ∀ l : List Int, l.length ≤ 100000 → goodN { x with kids := l } = true) : Ho (bodyP C block x f) s fun _ t => Mv C 1 s t := by
  refine ho_then (list_ho hC (paramP C) (fun t _ hin => param_ho hC hin) hs) (fun l t m1 => ?_)
  have e1 := m1.1.on
  refine ho_then (hb t e1 m1.1.in_) (fun b u m2 => make_ho ((m1.1.trans m2).le (by omega)) (by omega) (hx _ ?_))
  have := hC.long
  have := m1.1.in_
  have := m1.2
  simp; omega
theorem member_ho (hC : CW C) {block : PM Nat} (hb : OneA C (s.next + 1) block) (hs : s.next < C.toks.length) : Ho (memberP C block) s fun _ t => Mv C 1 s t := by
  refine ho_look (ho_then (take_ho hC (by decide) hs) (fun b t ht => ho_if (fun h => ?_) (fun h => ?_)))
  · obtain ⟨m1, -⟩ := ht.1 h
    have e1 := m1.on
    refine ho_mono (body_ho (n := nd 5 ⟨#[]⟩ []) hC (hb.le (by omega)) m1.in_ (fun l hl => ?_)) (fun _ u m2 => (m1.trans m2).le (by omega))
    unfold goodN nd
    simp only [decide_eq_true_iff]
    exact ⟨hl, by decide, by decide, by decide, by decide⟩
  · obtain ⟨rfl, -⟩ := ht.2 (by simpa using h)
    refine ho_then (answer_ho hC hs) (fun n u h1 => ho_then (name_ho hC) (fun x v h2 => ho_look (ho_if (fun _ => ?_) (fun _ => ho_if (fun _ => ho_thr) (fun _ => ?_)))))
    · have mm := h1.2.trans h2.2.2
      refine ho_mono (body_ho (n := n) hC (hb.le (by have := mm.on; omega)) mm.in_ (fun l hl => good_ty (n := n) h1.1 hl h2.2.1 rfl rfl rfl)) (fun _ u m2 => (mm.trans m2).le (by omega))
    · exact ho_then (want_ho hC (by decide) h2.2.2.in_) (fun _ z m6 => make_ho (((h1.2.trans h2.2.2).trans m6).le (by omega)) (by omega) (good_ty (n := n) h1.1 (by show n.kids.length ≤ _; rw [h1.1.2.1]; simp) h2.2.1 rfl rfl rfl))
theorem ancestor_ho (hC : CW C) (hs : s.next < C.toks.length) : Ho (ancestorP C) s fun _ t => Mv C 1 s t := by
  refine ho_look (ho_then (want_ho hC (by decide) hs) (fun _ t m1 => ho_then (name_ho hC) (fun x u h2 => make_ho ((m1.trans h2.2.2).le (by omega)) (by omega) (good_nd _ h2.2.1 (by simp)))))
theorem members_ho (hC : CW C) {member : PM Nat} (a : Nat) (h1 : OneA C a member) : ∀ (k : Nat) (l : List Nat) (s : PS), a ≤ s.next → s.next < C.toks.length → C.toks.length ≤ s.next + k → l.length ≤ s.next → Ho (memberL C member k l) s fun r t => Mv C 1 s t ∧ r.length ≤ t.next
  | 0, l, s, ha, hs, hk, hl => by omega
  | k + 1, l, s, ha, hs, hk, hl => by
    have hlen := hC.long
    refine ho_then (cap_ho (by omega)) (fun _ t0 h0 => ?_)
    subst h0
    refine ho_then (take_ho hC (by decide) hs) (fun b t ht => ho_if (fun hb => ho_ret ⟨(ht.1 hb).1, by have := (ht.1 hb).1.on; omega⟩) (fun hb => ?_))
    obtain ⟨rfl, -⟩ := ht.2 (by simpa using hb)
    refine ho_then (more_ho (Mv.refl hs)) (fun _ t2 m2 => ho_then (h1 t2 (by have := m2.on; omega) m2.in_) (fun x t3 m3 => ?_))
    have e1 := m2.on
    have e2 := m3.on
    exact ho_mono (members_ho hC a h1 k (l ++ [x]) t3 (by omega) m3.in_ (by omega) (by simp; omega)) (fun r t4 h4 => ⟨((m2.trans m3).trans h4.1).le (by omega), h4.2⟩)
theorem class_ho (hC : CW C) {block : PM Nat} (hb : OneA C (s.next + 1) block) (hs : s.next < C.toks.length) : Ho (classP C block) s fun _ t => Mv C 1 s t := by
  have hlen := hC.long
  refine ho_look (ho_then (want_ho hC (by decide) hs) (fun _ t m1 => ho_then (name_ho hC) (fun x u h2 => ho_look ?_)))
  have mm := m1.trans h2.2.2
  refine ho_then (P := fun l v => Mv C 1 s v ∧ l.length ≤ 1) (ho_if (fun _ => ho_then (ancestor_ho hC mm.in_) (fun a v m3 => ho_ret ⟨(mm.trans m3).le (by omega), by simp⟩)) (fun _ => ho_ret ⟨mm.le (by omega), by simp⟩)) (fun l v h3 => ?_)
  refine ho_then (want_ho hC (by decide) h3.1.in_) (fun _ y m4 => ?_)
  have e3 := h3.1.on
  have e4 := m4.on
  have hm : OneA C y.next (memberP C block) := fun t ht hin => member_ho hC (hb.le (by omega)) hin
  refine ho_then (members_ho hC y.next hm _ l y (Nat.le_refl _) m4.in_ (by omega) (by omega)) (fun r z h5 => make_ho ((h3.1.trans (m4.trans h5.1)).le (by omega)) (by omega) (good_nd _ h2.2.1 (by have := h5.2; have := h5.1.in_; omega)))
theorem classes_ho (hC : CW C) {cls : PM Nat} (h1 : OneA C 0 cls) : ∀ (k : Nat) (l : List Nat) (s : PS), s.next < C.toks.length → C.toks.length ≤ s.next + k → l.length ≤ s.next → Ho (classL C cls k l) s fun r t => Mv C 0 s t ∧ r.length ≤ t.next
  | 0, l, s, hs, hk, hl => by omega
  | k + 1, l, s, hs, hk, hl => by
    have hlen := hC.long
    refine ho_then (cap_ho (by omega)) (fun _ t0 h0 => ?_)
    subst h0
    refine ho_look (ho_if (fun _ => ho_ret ⟨Mv.refl hs, hl⟩) (fun _ => ho_then (more_ho (Mv.refl hs)) (fun _ t2 m2 => ho_then (h1 t2 (by omega) m2.in_) (fun x t3 m3 => ?_))))
    have e1 := m2.on
    have e2 := m3.on
    exact ho_mono (classes_ho hC h1 k (l ++ [x]) t3 m3.in_ (by omega) (by simp; omega)) (fun r t4 h4 => ⟨((m2.trans m3).trans h4.1).le (by omega), h4.2⟩)
theorem program_ho (hC : CW C) {block : PM Nat} (hb : OneA C 1 block) : Ho (programP C block) ⟨0, 0, 0, []⟩ fun _ _ => True := by
  have hlen := hC.long
  have h0 := hC.some_
  refine ho_look (ho_then (classes_ho hC (fun t _ hin => class_ho hC (hb.le (by omega)) hin) _ [] _ h0 (by show _ ≤ 0 + _; omega) (by simp)) (fun l t h => ho_if (fun _ => trivial) (fun hl => ?_)))
  have := h.2
  refine ho_then (make_ho (d := 1) (s0 := ⟨0, 0, 0, []⟩) ⟨by show 0 + 1 ≤ t.next; omega, h.1.in_, h.1.deep⟩ (by omega) (good_nd _ (by decide) (by have := h.1.in_; omega))) (fun _ _ _ => ho_ret trivial)
theorem parse_ends (hC : CW C) : parseP C ≠ .out := by
  have h := program_ho hC (block := runG C C.fuel .block) (fun t ht hin => run_ho hC _ .block t trivial hin (by show _ + 0 < 20 * C.toks.length + 40; omega))
  intro e
  unfold Ho at h
  unfold parseP at e
  rw [e] at h
  exact h
end
end Go.Proofs.YtidannabjhbjpaaGreatDoor
namespace Go.Proofs.YtidannabjhbjpaaGreatDoor
def Cd {α : Type} (m : PM α) : Prop := ∀ s c z, m s = .bad c z → c ≠ 0
section
variable {α β : Type} {C : PC}
theorem cd_bnd {m : PM α} {k : α → PM β} (h : Cd m) (hk : ∀ a, Cd (k a)) : Cd (bnd m k) := fun s c z e => by
  unfold bnd at e
  cases hm : m s with
  | ok a t => rw [hm] at e; exact hk a t c z e
  | bad c' z' => rw [hm] at e; cases e; exact h _ _ _ hm
  | out => rw [hm] at e; cases e
theorem cd_look {f : PS → α} {k : α → PM β} (h : ∀ a, Cd (k a)) : Cd (look f k) := fun s c z e => h _ s c z e
theorem cd_ret {a : α} : Cd (ret a) := fun s c z e => by cases e
theorem cd_stop : Cd (stop : PM α) := fun s c z e => by cases e
theorem cd_thr {n : Nat} {x : Int} (h : n ≠ 0) : Cd (thr n x : PM α) := fun s c z e => by cases e; exact h
theorem cd_if {p : Prop} [Decidable p] {m n : PM α} (h1 : p → Cd m) (h2 : ¬ p → Cd n) : Cd (if p then m else n) := by
  split
  · exact h1 (by assumption)
  · exact h2 (by assumption)
theorem read_cd : Cd (readP C) := fun s c z e => by
  unfold readP at e
  split at e
  · split at e
    · cases e
    · cases e; assumption
  · cases e
theorem enter_cd : Cd enterP := fun s c z e => by cases e
theorem leave_cd : Cd leaveP := fun s c z e => by unfold leaveP at e; split at e <;> cases e
theorem more_cd (n : Nat) : Cd (moreP n) := fun s c z e => by cases e
theorem cap_cd (l : List Nat) : Cd (capP l) := fun s c z e => by unfold capP at e; split at e <;> cases e
theorem make_cd (x : Nd) (f : Nat) : Cd (makeP C x f) := fun s c z e => by
  unfold makeP at e
  split at e
  · cases e
  · split at e
    · cases e; decide
    · cases e
theorem take_cd (x : ByteArray) : Cd (takeP C x) := by
  unfold takeP
  repeat (first | assumption | with_reducible exact cd_ret | with_reducible exact cd_stop | with_reducible exact cd_thr (by first | decide | assumption) | with_reducible exact read_cd | with_reducible exact enter_cd | with_reducible exact leave_cd | with_reducible exact more_cd _ | with_reducible exact cap_cd _ | with_reducible exact make_cd _ _ | with_reducible refine cd_if ?_ ?_ | with_reducible refine cd_bnd ?_ ?_ | with_reducible refine cd_look ?_ | intro _)
theorem want_cd (x : ByteArray) : Cd (wantP C x) := by
  unfold wantP
  repeat (first | assumption | with_reducible exact cd_ret | with_reducible exact cd_stop | with_reducible exact cd_thr (by first | decide | assumption) | with_reducible exact read_cd | with_reducible exact enter_cd | with_reducible exact leave_cd | with_reducible exact more_cd _ | with_reducible exact cap_cd _ | with_reducible exact make_cd _ _ | with_reducible exact take_cd _ | with_reducible refine cd_if ?_ ?_ | with_reducible refine cd_bnd ?_ ?_ | with_reducible refine cd_look ?_ | intro _)
theorem name_cd : Cd (nameP C) := by
  unfold nameP
  repeat (first | assumption | with_reducible exact cd_ret | with_reducible exact cd_stop | with_reducible exact cd_thr (by first | decide | assumption) | with_reducible exact read_cd | with_reducible exact enter_cd | with_reducible exact leave_cd | with_reducible exact more_cd _ | with_reducible exact cap_cd _ | with_reducible exact make_cd _ _ | with_reducible exact take_cd _ | with_reducible exact want_cd _ | with_reducible refine cd_if ?_ ?_ | with_reducible refine cd_bnd ?_ ?_ | with_reducible refine cd_look ?_ | intro _)
theorem many_cd {one : PM Nat} (ho : Cd one) : ∀ (k : Nat) (l : List Nat), Cd (manyP C one k l)
  | 0, l => cd_stop
  | k + 1, l => by
    have ih := many_cd ho k
    unfold manyP
    repeat (first | exact ih _ | assumption | with_reducible exact cd_ret | with_reducible exact cd_stop | with_reducible exact cd_thr (by first | decide | assumption) | with_reducible exact read_cd | with_reducible exact enter_cd | with_reducible exact leave_cd | with_reducible exact more_cd _ | with_reducible exact cap_cd _ | with_reducible exact make_cd _ _ | with_reducible exact take_cd _ | with_reducible exact want_cd _ | with_reducible exact name_cd | with_reducible refine cd_if ?_ ?_ | with_reducible refine cd_bnd ?_ ?_ | with_reducible refine cd_look ?_ | intro _)
theorem list_cd {one : PM Nat} (ho : Cd one) : Cd (listP C one) := by
  unfold listP
  repeat (first | assumption | with_reducible exact cd_ret | with_reducible exact cd_stop | with_reducible exact cd_thr (by first | decide | assumption) | with_reducible exact read_cd | with_reducible exact enter_cd | with_reducible exact leave_cd | with_reducible exact more_cd _ | with_reducible exact cap_cd _ | with_reducible exact make_cd _ _ | with_reducible exact take_cd _ | with_reducible exact want_cd _ | with_reducible exact name_cd | with_reducible exact many_cd (by assumption) _ _ | with_reducible refine cd_if ?_ ?_ | with_reducible refine cd_bnd ?_ ?_ | with_reducible refine cd_look ?_ | intro _)
theorem join_cd {part : PM Nat} (hp : Cd part) (a f : Nat) : Cd (joinP C part a f) := by
  unfold joinP
  repeat (first | assumption | with_reducible exact cd_ret | with_reducible exact cd_stop | with_reducible exact cd_thr (by first | decide | assumption) | with_reducible exact read_cd | with_reducible exact enter_cd | with_reducible exact leave_cd | with_reducible exact more_cd _ | with_reducible exact cap_cd _ | with_reducible exact make_cd _ _ | with_reducible exact take_cd _ | with_reducible exact want_cd _ | with_reducible exact name_cd | with_reducible exact many_cd (by assumption) _ _ | with_reducible exact list_cd (by assumption) | with_reducible refine cd_if ?_ ?_ | with_reducible refine cd_bnd ?_ ?_ | with_reducible refine cd_look ?_ | intro _)
theorem joinl_cd {part : PM Nat} (hp : Cd part) (c f : Nat) : ∀ (k : Nat) (n : Nat), Cd (joinL C part c f k n)
  | 0, n => cd_stop
  | k + 1, n => by
    have ih := joinl_cd hp c f k
    unfold joinL
    repeat (first | exact ih _ | assumption | with_reducible exact cd_ret | with_reducible exact cd_stop | with_reducible exact cd_thr (by first | decide | assumption) | with_reducible exact read_cd | with_reducible exact enter_cd | with_reducible exact leave_cd | with_reducible exact more_cd _ | with_reducible exact cap_cd _ | with_reducible exact make_cd _ _ | with_reducible exact take_cd _ | with_reducible exact want_cd _ | with_reducible exact name_cd | with_reducible exact many_cd (by assumption) _ _ | with_reducible exact list_cd (by assumption) | with_reducible exact join_cd (by assumption) _ _ | with_reducible refine cd_if ?_ ?_ | with_reducible refine cd_bnd ?_ ?_ | with_reducible refine cd_look ?_ | intro _)
theorem base_cd (b : Nat) : Cd (baseP C b) := by
  unfold baseP
  repeat (first | assumption | with_reducible exact cd_ret | with_reducible exact cd_stop | with_reducible exact cd_thr (by first | decide | assumption) | with_reducible exact read_cd | with_reducible exact enter_cd | with_reducible exact leave_cd | with_reducible exact more_cd _ | with_reducible exact cap_cd _ | with_reducible exact make_cd _ _ | with_reducible exact take_cd _ | with_reducible exact want_cd _ | with_reducible exact name_cd | with_reducible exact many_cd (by assumption) _ _ | with_reducible exact list_cd (by assumption) | with_reducible exact join_cd (by assumption) _ _ | with_reducible exact joinl_cd (by assumption) _ _ _ _ | with_reducible refine cd_if ?_ ?_ | with_reducible refine cd_bnd ?_ ?_ | with_reducible refine cd_look ?_ | intro _)
theorem null_cd (n : Nd) : Cd (nullP C n) := by
  unfold nullP
  repeat (first | assumption | with_reducible exact cd_ret | with_reducible exact cd_stop | with_reducible exact cd_thr (by first | decide | assumption) | with_reducible exact read_cd | with_reducible exact enter_cd | with_reducible exact leave_cd | with_reducible exact more_cd _ | with_reducible exact cap_cd _ | with_reducible exact make_cd _ _ | with_reducible exact take_cd _ | with_reducible exact want_cd _ | with_reducible exact name_cd | with_reducible exact many_cd (by assumption) _ _ | with_reducible exact list_cd (by assumption) | with_reducible exact join_cd (by assumption) _ _ | with_reducible exact joinl_cd (by assumption) _ _ _ _ | with_reducible exact base_cd _ | with_reducible refine cd_if ?_ ?_ | with_reducible refine cd_bnd ?_ ?_ | with_reducible refine cd_look ?_ | intro _)
theorem array_cd (n : Nd) : Cd (arrayP C n) := by
  unfold arrayP
  repeat (first | assumption | with_reducible exact cd_ret | with_reducible exact cd_stop | with_reducible exact cd_thr (by first | decide | assumption) | with_reducible exact read_cd | with_reducible exact enter_cd | with_reducible exact leave_cd | with_reducible exact more_cd _ | with_reducible exact cap_cd _ | with_reducible exact make_cd _ _ | with_reducible exact take_cd _ | with_reducible exact want_cd _ | with_reducible exact name_cd | with_reducible exact many_cd (by assumption) _ _ | with_reducible exact list_cd (by assumption) | with_reducible exact join_cd (by assumption) _ _ | with_reducible exact joinl_cd (by assumption) _ _ _ _ | with_reducible exact base_cd _ | with_reducible exact null_cd _ | with_reducible refine cd_if ?_ ?_ | with_reducible refine cd_bnd ?_ ?_ | with_reducible refine cd_look ?_ | intro _)
theorem innerl_cd (a : Bool) (f : Nat) : ∀ (k : Nat) (n : Nd), Cd (innerL C a f k n)
  | 0, n => cd_stop
  | k + 1, n => by
    have ih := innerl_cd a f k
    unfold innerL
    repeat (first | exact ih _ | assumption | with_reducible exact cd_ret | with_reducible exact cd_stop | with_reducible exact cd_thr (by first | decide | assumption) | with_reducible exact read_cd | with_reducible exact enter_cd | with_reducible exact leave_cd | with_reducible exact more_cd _ | with_reducible exact cap_cd _ | with_reducible exact make_cd _ _ | with_reducible exact take_cd _ | with_reducible exact want_cd _ | with_reducible exact name_cd | with_reducible exact many_cd (by assumption) _ _ | with_reducible exact list_cd (by assumption) | with_reducible exact join_cd (by assumption) _ _ | with_reducible exact joinl_cd (by assumption) _ _ _ _ | with_reducible exact base_cd _ | with_reducible exact null_cd _ | with_reducible exact array_cd _ | with_reducible refine cd_if ?_ ?_ | with_reducible refine cd_bnd ?_ ?_ | with_reducible refine cd_look ?_ | intro _)
theorem inner_cd (a : Bool) : Cd (innerP C a) := by
  unfold innerP
  repeat (first | assumption | with_reducible exact cd_ret | with_reducible exact cd_stop | with_reducible exact cd_thr (by first | decide | assumption) | with_reducible exact read_cd | with_reducible exact enter_cd | with_reducible exact leave_cd | with_reducible exact more_cd _ | with_reducible exact cap_cd _ | with_reducible exact make_cd _ _ | with_reducible exact take_cd _ | with_reducible exact want_cd _ | with_reducible exact name_cd | with_reducible exact many_cd (by assumption) _ _ | with_reducible exact list_cd (by assumption) | with_reducible exact join_cd (by assumption) _ _ | with_reducible exact joinl_cd (by assumption) _ _ _ _ | with_reducible exact base_cd _ | with_reducible exact null_cd _ | with_reducible exact array_cd _ | with_reducible exact innerl_cd _ _ _ _ | with_reducible refine cd_if ?_ ?_ | with_reducible refine cd_bnd ?_ ?_ | with_reducible refine cd_look ?_ | intro _)
theorem typed_cd : Cd (typedP C) := by
  unfold typedP
  repeat (first | assumption | with_reducible exact cd_ret | with_reducible exact cd_stop | with_reducible exact cd_thr (by first | decide | assumption) | with_reducible exact read_cd | with_reducible exact enter_cd | with_reducible exact leave_cd | with_reducible exact more_cd _ | with_reducible exact cap_cd _ | with_reducible exact make_cd _ _ | with_reducible exact take_cd _ | with_reducible exact want_cd _ | with_reducible exact name_cd | with_reducible exact many_cd (by assumption) _ _ | with_reducible exact list_cd (by assumption) | with_reducible exact join_cd (by assumption) _ _ | with_reducible exact joinl_cd (by assumption) _ _ _ _ | with_reducible exact base_cd _ | with_reducible exact null_cd _ | with_reducible exact array_cd _ | with_reducible exact innerl_cd _ _ _ _ | with_reducible exact inner_cd _ | with_reducible refine cd_if ?_ ?_ | with_reducible refine cd_bnd ?_ ?_ | with_reducible refine cd_look ?_ | intro _)
theorem answer_cd : Cd (answerP C) := by
  unfold answerP
  repeat (first | assumption | with_reducible exact cd_ret | with_reducible exact cd_stop | with_reducible exact cd_thr (by first | decide | assumption) | with_reducible exact read_cd | with_reducible exact enter_cd | with_reducible exact leave_cd | with_reducible exact more_cd _ | with_reducible exact cap_cd _ | with_reducible exact make_cd _ _ | with_reducible exact take_cd _ | with_reducible exact want_cd _ | with_reducible exact name_cd | with_reducible exact many_cd (by assumption) _ _ | with_reducible exact list_cd (by assumption) | with_reducible exact join_cd (by assumption) _ _ | with_reducible exact joinl_cd (by assumption) _ _ _ _ | with_reducible exact base_cd _ | with_reducible exact null_cd _ | with_reducible exact array_cd _ | with_reducible exact innerl_cd _ _ _ _ | with_reducible exact inner_cd _ | with_reducible exact typed_cd | with_reducible refine cd_if ?_ ?_ | with_reducible refine cd_bnd ?_ ?_ | with_reducible refine cd_look ?_ | intro _)
theorem within_cd {value : PM Nat} (hv : Cd value) : Cd (withinP C value) := by
  unfold withinP
  repeat (first | assumption | with_reducible exact cd_ret | with_reducible exact cd_stop | with_reducible exact cd_thr (by first | decide | assumption) | with_reducible exact read_cd | with_reducible exact enter_cd | with_reducible exact leave_cd | with_reducible exact more_cd _ | with_reducible exact cap_cd _ | with_reducible exact make_cd _ _ | with_reducible exact take_cd _ | with_reducible exact want_cd _ | with_reducible exact name_cd | with_reducible exact many_cd (by assumption) _ _ | with_reducible exact list_cd (by assumption) | with_reducible exact join_cd (by assumption) _ _ | with_reducible exact joinl_cd (by assumption) _ _ _ _ | with_reducible exact base_cd _ | with_reducible exact null_cd _ | with_reducible exact array_cd _ | with_reducible exact innerl_cd _ _ _ _ | with_reducible exact inner_cd _ | with_reducible exact typed_cd | with_reducible exact answer_cd | with_reducible refine cd_if ?_ ?_ | with_reducible refine cd_bnd ?_ ?_ | with_reducible refine cd_look ?_ | intro _)
theorem literal_cd : Cd (literalP C) := by
  unfold literalP
  repeat (first | assumption | with_reducible exact cd_ret | with_reducible exact cd_stop | with_reducible exact cd_thr (by first | decide | assumption) | with_reducible exact read_cd | with_reducible exact enter_cd | with_reducible exact leave_cd | with_reducible exact more_cd _ | with_reducible exact cap_cd _ | with_reducible exact make_cd _ _ | with_reducible exact take_cd _ | with_reducible exact want_cd _ | with_reducible exact name_cd | with_reducible exact many_cd (by assumption) _ _ | with_reducible exact list_cd (by assumption) | with_reducible exact join_cd (by assumption) _ _ | with_reducible exact joinl_cd (by assumption) _ _ _ _ | with_reducible exact base_cd _ | with_reducible exact null_cd _ | with_reducible exact array_cd _ | with_reducible exact innerl_cd _ _ _ _ | with_reducible exact inner_cd _ | with_reducible exact typed_cd | with_reducible exact answer_cd | with_reducible exact within_cd (by assumption) | with_reducible refine cd_if ?_ ?_ | with_reducible refine cd_bnd ?_ ?_ | with_reducible refine cd_look ?_ | intro _)
theorem const_cd (x : ByteArray) : Cd (constP C x) := by
  unfold constP
  repeat (first | assumption | with_reducible exact cd_ret | with_reducible exact cd_stop | with_reducible exact cd_thr (by first | decide | assumption) | with_reducible exact read_cd | with_reducible exact enter_cd | with_reducible exact leave_cd | with_reducible exact more_cd _ | with_reducible exact cap_cd _ | with_reducible exact make_cd _ _ | with_reducible exact take_cd _ | with_reducible exact want_cd _ | with_reducible exact name_cd | with_reducible exact many_cd (by assumption) _ _ | with_reducible exact list_cd (by assumption) | with_reducible exact join_cd (by assumption) _ _ | with_reducible exact joinl_cd (by assumption) _ _ _ _ | with_reducible exact base_cd _ | with_reducible exact null_cd _ | with_reducible exact array_cd _ | with_reducible exact innerl_cd _ _ _ _ | with_reducible exact inner_cd _ | with_reducible exact typed_cd | with_reducible exact answer_cd | with_reducible exact within_cd (by assumption) | with_reducible exact literal_cd | with_reducible refine cd_if ?_ ?_ | with_reducible refine cd_bnd ?_ ?_ | with_reducible refine cd_look ?_ | intro _)
theorem wrap_cd {value : PM Nat} (hv : Cd value) (x : ByteArray) : Cd (wrapP C value x) := by
  unfold wrapP
  repeat (first | assumption | with_reducible exact cd_ret | with_reducible exact cd_stop | with_reducible exact cd_thr (by first | decide | assumption) | with_reducible exact read_cd | with_reducible exact enter_cd | with_reducible exact leave_cd | with_reducible exact more_cd _ | with_reducible exact cap_cd _ | with_reducible exact make_cd _ _ | with_reducible exact take_cd _ | with_reducible exact want_cd _ | with_reducible exact name_cd | with_reducible exact many_cd (by assumption) _ _ | with_reducible exact list_cd (by assumption) | with_reducible exact join_cd (by assumption) _ _ | with_reducible exact joinl_cd (by assumption) _ _ _ _ | with_reducible exact base_cd _ | with_reducible exact null_cd _ | with_reducible exact array_cd _ | with_reducible exact innerl_cd _ _ _ _ | with_reducible exact inner_cd _ | with_reducible exact typed_cd | with_reducible exact answer_cd | with_reducible exact within_cd (by assumption) | with_reducible exact literal_cd | with_reducible exact const_cd _ | with_reducible refine cd_if ?_ ?_ | with_reducible refine cd_bnd ?_ ?_ | with_reducible refine cd_look ?_ | intro _)
theorem input_cd : Cd (inputP C) := by
  unfold inputP
  repeat (first | assumption | with_reducible exact cd_ret | with_reducible exact cd_stop | with_reducible exact cd_thr (by first | decide | assumption) | with_reducible exact read_cd | with_reducible exact enter_cd | with_reducible exact leave_cd | with_reducible exact more_cd _ | with_reducible exact cap_cd _ | with_reducible exact make_cd _ _ | with_reducible exact take_cd _ | with_reducible exact want_cd _ | with_reducible exact name_cd | with_reducible exact many_cd (by assumption) _ _ | with_reducible exact list_cd (by assumption) | with_reducible exact join_cd (by assumption) _ _ | with_reducible exact joinl_cd (by assumption) _ _ _ _ | with_reducible exact base_cd _ | with_reducible exact null_cd _ | with_reducible exact array_cd _ | with_reducible exact innerl_cd _ _ _ _ | with_reducible exact inner_cd _ | with_reducible exact typed_cd | with_reducible exact answer_cd | with_reducible exact within_cd (by assumption) | with_reducible exact literal_cd | with_reducible exact const_cd _ | with_reducible exact wrap_cd (by assumption) _ | with_reducible refine cd_if ?_ ?_ | with_reducible refine cd_bnd ?_ ?_ | with_reducible refine cd_look ?_ | intro _)
theorem cast_cd {value : PM Nat} (hv : Cd value) : Cd (castP C value) := by
  unfold castP
  repeat (first | assumption | with_reducible exact cd_ret | with_reducible exact cd_stop | with_reducible exact cd_thr (by first | decide | assumption) | with_reducible exact read_cd | with_reducible exact enter_cd | with_reducible exact leave_cd | with_reducible exact more_cd _ | with_reducible exact cap_cd _ | with_reducible exact make_cd _ _ | with_reducible exact take_cd _ | with_reducible exact want_cd _ | with_reducible exact name_cd | with_reducible exact many_cd (by assumption) _ _ | with_reducible exact list_cd (by assumption) | with_reducible exact join_cd (by assumption) _ _ | with_reducible exact joinl_cd (by assumption) _ _ _ _ | with_reducible exact base_cd _ | with_reducible exact null_cd _ | with_reducible exact array_cd _ | with_reducible exact innerl_cd _ _ _ _ | with_reducible exact inner_cd _ | with_reducible exact typed_cd | with_reducible exact answer_cd | with_reducible exact within_cd (by assumption) | with_reducible exact literal_cd | with_reducible exact const_cd _ | with_reducible exact wrap_cd (by assumption) _ | with_reducible exact input_cd | with_reducible refine cd_if ?_ ?_ | with_reducible refine cd_bnd ?_ ?_ | with_reducible refine cd_look ?_ | intro _)
theorem anew_cd {value : PM Nat} (hv : Cd value) : Cd (anewP C value) := by
  unfold anewP
  repeat (first | assumption | with_reducible exact cd_ret | with_reducible exact cd_stop | with_reducible exact cd_thr (by first | decide | assumption) | with_reducible exact read_cd | with_reducible exact enter_cd | with_reducible exact leave_cd | with_reducible exact more_cd _ | with_reducible exact cap_cd _ | with_reducible exact make_cd _ _ | with_reducible exact take_cd _ | with_reducible exact want_cd _ | with_reducible exact name_cd | with_reducible exact many_cd (by assumption) _ _ | with_reducible exact list_cd (by assumption) | with_reducible exact join_cd (by assumption) _ _ | with_reducible exact joinl_cd (by assumption) _ _ _ _ | with_reducible exact base_cd _ | with_reducible exact null_cd _ | with_reducible exact array_cd _ | with_reducible exact innerl_cd _ _ _ _ | with_reducible exact inner_cd _ | with_reducible exact typed_cd | with_reducible exact answer_cd | with_reducible exact within_cd (by assumption) | with_reducible exact literal_cd | with_reducible exact const_cd _ | with_reducible exact wrap_cd (by assumption) _ | with_reducible exact input_cd | with_reducible exact cast_cd (by assumption) | with_reducible refine cd_if ?_ ?_ | with_reducible refine cd_bnd ?_ ?_ | with_reducible refine cd_look ?_ | intro _)
theorem first_cd {value : PM Nat} (hv : Cd value) : Cd (firstP C value) := by
  unfold firstP
  repeat (first | assumption | with_reducible exact cd_ret | with_reducible exact cd_stop | with_reducible exact cd_thr (by first | decide | assumption) | with_reducible exact read_cd | with_reducible exact enter_cd | with_reducible exact leave_cd | with_reducible exact more_cd _ | with_reducible exact cap_cd _ | with_reducible exact make_cd _ _ | with_reducible exact take_cd _ | with_reducible exact want_cd _ | with_reducible exact name_cd | with_reducible exact many_cd (by assumption) _ _ | with_reducible exact list_cd (by assumption) | with_reducible exact join_cd (by assumption) _ _ | with_reducible exact joinl_cd (by assumption) _ _ _ _ | with_reducible exact base_cd _ | with_reducible exact null_cd _ | with_reducible exact array_cd _ | with_reducible exact innerl_cd _ _ _ _ | with_reducible exact inner_cd _ | with_reducible exact typed_cd | with_reducible exact answer_cd | with_reducible exact within_cd (by assumption) | with_reducible exact literal_cd | with_reducible exact const_cd _ | with_reducible exact wrap_cd (by assumption) _ | with_reducible exact input_cd | with_reducible exact cast_cd (by assumption) | with_reducible exact anew_cd (by assumption) | with_reducible refine cd_if ?_ ?_ | with_reducible refine cd_bnd ?_ ?_ | with_reducible refine cd_look ?_ | intro _)
theorem had_cd {value : PM Nat} (hv : Cd value) (a f : Nat) : Cd (hadP C value a f) := by
  unfold hadP
  repeat (first | assumption | with_reducible exact cd_ret | with_reducible exact cd_stop | with_reducible exact cd_thr (by first | decide | assumption) | with_reducible exact read_cd | with_reducible exact enter_cd | with_reducible exact leave_cd | with_reducible exact more_cd _ | with_reducible exact cap_cd _ | with_reducible exact make_cd _ _ | with_reducible exact take_cd _ | with_reducible exact want_cd _ | with_reducible exact name_cd | with_reducible exact many_cd (by assumption) _ _ | with_reducible exact list_cd (by assumption) | with_reducible exact join_cd (by assumption) _ _ | with_reducible exact joinl_cd (by assumption) _ _ _ _ | with_reducible exact base_cd _ | with_reducible exact null_cd _ | with_reducible exact array_cd _ | with_reducible exact innerl_cd _ _ _ _ | with_reducible exact inner_cd _ | with_reducible exact typed_cd | with_reducible exact answer_cd | with_reducible exact within_cd (by assumption) | with_reducible exact literal_cd | with_reducible exact const_cd _ | with_reducible exact wrap_cd (by assumption) _ | with_reducible exact input_cd | with_reducible exact cast_cd (by assumption) | with_reducible exact anew_cd (by assumption) | with_reducible exact first_cd (by assumption) | with_reducible refine cd_if ?_ ?_ | with_reducible refine cd_bnd ?_ ?_ | with_reducible refine cd_look ?_ | intro _)
theorem askl_cd {value : PM Nat} (hv : Cd value) (f : Nat) : ∀ (k : Nat) (n : Nat), Cd (askL C value f k n)
  | 0, n => cd_stop
  | k + 1, n => by
    have ih := askl_cd hv f k
    unfold askL
    repeat (first | exact ih _ | assumption | with_reducible exact cd_ret | with_reducible exact cd_stop | with_reducible exact cd_thr (by first | decide | assumption) | with_reducible exact read_cd | with_reducible exact enter_cd | with_reducible exact leave_cd | with_reducible exact more_cd _ | with_reducible exact cap_cd _ | with_reducible exact make_cd _ _ | with_reducible exact take_cd _ | with_reducible exact want_cd _ | with_reducible exact name_cd | with_reducible exact many_cd (by assumption) _ _ | with_reducible exact list_cd (by assumption) | with_reducible exact join_cd (by assumption) _ _ | with_reducible exact joinl_cd (by assumption) _ _ _ _ | with_reducible exact base_cd _ | with_reducible exact null_cd _ | with_reducible exact array_cd _ | with_reducible exact innerl_cd _ _ _ _ | with_reducible exact inner_cd _ | with_reducible exact typed_cd | with_reducible exact answer_cd | with_reducible exact within_cd (by assumption) | with_reducible exact literal_cd | with_reducible exact const_cd _ | with_reducible exact wrap_cd (by assumption) _ | with_reducible exact input_cd | with_reducible exact cast_cd (by assumption) | with_reducible exact anew_cd (by assumption) | with_reducible exact first_cd (by assumption) | with_reducible exact had_cd (by assumption) _ _ | with_reducible refine cd_if ?_ ?_ | with_reducible refine cd_bnd ?_ ?_ | with_reducible refine cd_look ?_ | intro _)
theorem asked_cd {value : PM Nat} (hv : Cd value) : Cd (askedP C value) := by
  unfold askedP
  repeat (first | assumption | with_reducible exact cd_ret | with_reducible exact cd_stop | with_reducible exact cd_thr (by first | decide | assumption) | with_reducible exact read_cd | with_reducible exact enter_cd | with_reducible exact leave_cd | with_reducible exact more_cd _ | with_reducible exact cap_cd _ | with_reducible exact make_cd _ _ | with_reducible exact take_cd _ | with_reducible exact want_cd _ | with_reducible exact name_cd | with_reducible exact many_cd (by assumption) _ _ | with_reducible exact list_cd (by assumption) | with_reducible exact join_cd (by assumption) _ _ | with_reducible exact joinl_cd (by assumption) _ _ _ _ | with_reducible exact base_cd _ | with_reducible exact null_cd _ | with_reducible exact array_cd _ | with_reducible exact innerl_cd _ _ _ _ | with_reducible exact inner_cd _ | with_reducible exact typed_cd | with_reducible exact answer_cd | with_reducible exact within_cd (by assumption) | with_reducible exact literal_cd | with_reducible exact const_cd _ | with_reducible exact wrap_cd (by assumption) _ | with_reducible exact input_cd | with_reducible exact cast_cd (by assumption) | with_reducible exact anew_cd (by assumption) | with_reducible exact first_cd (by assumption) | with_reducible exact had_cd (by assumption) _ _ | with_reducible exact askl_cd (by assumption) _ _ _ | with_reducible refine cd_if ?_ ?_ | with_reducible refine cd_bnd ?_ ?_ | with_reducible refine cd_look ?_ | intro _)
theorem decl_cd {value : PM Nat} (hv : Cd value) : Cd (declP C value) := by
  unfold declP
  repeat (first | assumption | with_reducible exact cd_ret | with_reducible exact cd_stop | with_reducible exact cd_thr (by first | decide | assumption) | with_reducible exact read_cd | with_reducible exact enter_cd | with_reducible exact leave_cd | with_reducible exact more_cd _ | with_reducible exact cap_cd _ | with_reducible exact make_cd _ _ | with_reducible exact take_cd _ | with_reducible exact want_cd _ | with_reducible exact name_cd | with_reducible exact many_cd (by assumption) _ _ | with_reducible exact list_cd (by assumption) | with_reducible exact join_cd (by assumption) _ _ | with_reducible exact joinl_cd (by assumption) _ _ _ _ | with_reducible exact base_cd _ | with_reducible exact null_cd _ | with_reducible exact array_cd _ | with_reducible exact innerl_cd _ _ _ _ | with_reducible exact inner_cd _ | with_reducible exact typed_cd | with_reducible exact answer_cd | with_reducible exact within_cd (by assumption) | with_reducible exact literal_cd | with_reducible exact const_cd _ | with_reducible exact wrap_cd (by assumption) _ | with_reducible exact input_cd | with_reducible exact cast_cd (by assumption) | with_reducible exact anew_cd (by assumption) | with_reducible exact first_cd (by assumption) | with_reducible exact had_cd (by assumption) _ _ | with_reducible exact askl_cd (by assumption) _ _ _ | with_reducible exact asked_cd (by assumption) | with_reducible refine cd_if ?_ ?_ | with_reducible refine cd_bnd ?_ ?_ | with_reducible refine cd_look ?_ | intro _)
theorem branch_cd {value : PM Nat} (hv : Cd value) {block : PM Nat} (hb : Cd block) : Cd (branchP C value block) := by
  unfold branchP
  repeat (first | assumption | with_reducible exact cd_ret | with_reducible exact cd_stop | with_reducible exact cd_thr (by first | decide | assumption) | with_reducible exact read_cd | with_reducible exact enter_cd | with_reducible exact leave_cd | with_reducible exact more_cd _ | with_reducible exact cap_cd _ | with_reducible exact make_cd _ _ | with_reducible exact take_cd _ | with_reducible exact want_cd _ | with_reducible exact name_cd | with_reducible exact many_cd (by assumption) _ _ | with_reducible exact list_cd (by assumption) | with_reducible exact join_cd (by assumption) _ _ | with_reducible exact joinl_cd (by assumption) _ _ _ _ | with_reducible exact base_cd _ | with_reducible exact null_cd _ | with_reducible exact array_cd _ | with_reducible exact innerl_cd _ _ _ _ | with_reducible exact inner_cd _ | with_reducible exact typed_cd | with_reducible exact answer_cd | with_reducible exact within_cd (by assumption) | with_reducible exact literal_cd | with_reducible exact const_cd _ | with_reducible exact wrap_cd (by assumption) _ | with_reducible exact input_cd | with_reducible exact cast_cd (by assumption) | with_reducible exact anew_cd (by assumption) | with_reducible exact first_cd (by assumption) | with_reducible exact had_cd (by assumption) _ _ | with_reducible exact askl_cd (by assumption) _ _ _ | with_reducible exact asked_cd (by assumption) | with_reducible exact decl_cd (by assumption) | with_reducible refine cd_if ?_ ?_ | with_reducible refine cd_bnd ?_ ?_ | with_reducible refine cd_look ?_ | intro _)
theorem loop_cd {value : PM Nat} (hv : Cd value) {block : PM Nat} (hb : Cd block) : Cd (loopP C value block) := by
  unfold loopP
  repeat (first | assumption | with_reducible exact cd_ret | with_reducible exact cd_stop | with_reducible exact cd_thr (by first | decide | assumption) | with_reducible exact read_cd | with_reducible exact enter_cd | with_reducible exact leave_cd | with_reducible exact more_cd _ | with_reducible exact cap_cd _ | with_reducible exact make_cd _ _ | with_reducible exact take_cd _ | with_reducible exact want_cd _ | with_reducible exact name_cd | with_reducible exact many_cd (by assumption) _ _ | with_reducible exact list_cd (by assumption) | with_reducible exact join_cd (by assumption) _ _ | with_reducible exact joinl_cd (by assumption) _ _ _ _ | with_reducible exact base_cd _ | with_reducible exact null_cd _ | with_reducible exact array_cd _ | with_reducible exact innerl_cd _ _ _ _ | with_reducible exact inner_cd _ | with_reducible exact typed_cd | with_reducible exact answer_cd | with_reducible exact within_cd (by assumption) | with_reducible exact literal_cd | with_reducible exact const_cd _ | with_reducible exact wrap_cd (by assumption) _ | with_reducible exact input_cd | with_reducible exact cast_cd (by assumption) | with_reducible exact anew_cd (by assumption) | with_reducible exact first_cd (by assumption) | with_reducible exact had_cd (by assumption) _ _ | with_reducible exact askl_cd (by assumption) _ _ _ | with_reducible exact asked_cd (by assumption) | with_reducible exact decl_cd (by assumption) | with_reducible exact branch_cd (by assumption) (by assumption) | with_reducible refine cd_if ?_ ?_ | with_reducible refine cd_bnd ?_ ?_ | with_reducible refine cd_look ?_ | intro _)
theorem short_cd (n : Int) : Cd (shortP C n) := by
  unfold shortP
  repeat (first | assumption | with_reducible exact cd_ret | with_reducible exact cd_stop | with_reducible exact cd_thr (by first | decide | assumption) | with_reducible exact read_cd | with_reducible exact enter_cd | with_reducible exact leave_cd | with_reducible exact more_cd _ | with_reducible exact cap_cd _ | with_reducible exact make_cd _ _ | with_reducible exact take_cd _ | with_reducible exact want_cd _ | with_reducible exact name_cd | with_reducible exact many_cd (by assumption) _ _ | with_reducible exact list_cd (by assumption) | with_reducible exact join_cd (by assumption) _ _ | with_reducible exact joinl_cd (by assumption) _ _ _ _ | with_reducible exact base_cd _ | with_reducible exact null_cd _ | with_reducible exact array_cd _ | with_reducible exact innerl_cd _ _ _ _ | with_reducible exact inner_cd _ | with_reducible exact typed_cd | with_reducible exact answer_cd | with_reducible exact within_cd (by assumption) | with_reducible exact literal_cd | with_reducible exact const_cd _ | with_reducible exact wrap_cd (by assumption) _ | with_reducible exact input_cd | with_reducible exact cast_cd (by assumption) | with_reducible exact anew_cd (by assumption) | with_reducible exact first_cd (by assumption) | with_reducible exact had_cd (by assumption) _ _ | with_reducible exact askl_cd (by assumption) _ _ _ | with_reducible exact asked_cd (by assumption) | with_reducible exact decl_cd (by assumption) | with_reducible exact branch_cd (by assumption) (by assumption) | with_reducible exact loop_cd (by assumption) (by assumption) | with_reducible refine cd_if ?_ ?_ | with_reducible refine cd_bnd ?_ ?_ | with_reducible refine cd_look ?_ | intro _)
theorem result_cd {value : PM Nat} (hv : Cd value) : Cd (resultP C value) := by
  unfold resultP
  repeat (first | assumption | with_reducible exact cd_ret | with_reducible exact cd_stop | with_reducible exact cd_thr (by first | decide | assumption) | with_reducible exact read_cd | with_reducible exact enter_cd | with_reducible exact leave_cd | with_reducible exact more_cd _ | with_reducible exact cap_cd _ | with_reducible exact make_cd _ _ | with_reducible exact take_cd _ | with_reducible exact want_cd _ | with_reducible exact name_cd | with_reducible exact many_cd (by assumption) _ _ | with_reducible exact list_cd (by assumption) | with_reducible exact join_cd (by assumption) _ _ | with_reducible exact joinl_cd (by assumption) _ _ _ _ | with_reducible exact base_cd _ | with_reducible exact null_cd _ | with_reducible exact array_cd _ | with_reducible exact innerl_cd _ _ _ _ | with_reducible exact inner_cd _ | with_reducible exact typed_cd | with_reducible exact answer_cd | with_reducible exact within_cd (by assumption) | with_reducible exact literal_cd | with_reducible exact const_cd _ | with_reducible exact wrap_cd (by assumption) _ | with_reducible exact input_cd | with_reducible exact cast_cd (by assumption) | with_reducible exact anew_cd (by assumption) | with_reducible exact first_cd (by assumption) | with_reducible exact had_cd (by assumption) _ _ | with_reducible exact askl_cd (by assumption) _ _ _ | with_reducible exact asked_cd (by assumption) | with_reducible exact decl_cd (by assumption) | with_reducible exact branch_cd (by assumption) (by assumption) | with_reducible exact loop_cd (by assumption) (by assumption) | with_reducible exact short_cd _ | with_reducible refine cd_if ?_ ?_ | with_reducible refine cd_bnd ?_ ?_ | with_reducible refine cd_look ?_ | intro _)
theorem print_cd {value : PM Nat} (hv : Cd value) : Cd (printP C value) := by
  unfold printP
  repeat (first | assumption | with_reducible exact cd_ret | with_reducible exact cd_stop | with_reducible exact cd_thr (by first | decide | assumption) | with_reducible exact read_cd | with_reducible exact enter_cd | with_reducible exact leave_cd | with_reducible exact more_cd _ | with_reducible exact cap_cd _ | with_reducible exact make_cd _ _ | with_reducible exact take_cd _ | with_reducible exact want_cd _ | with_reducible exact name_cd | with_reducible exact many_cd (by assumption) _ _ | with_reducible exact list_cd (by assumption) | with_reducible exact join_cd (by assumption) _ _ | with_reducible exact joinl_cd (by assumption) _ _ _ _ | with_reducible exact base_cd _ | with_reducible exact null_cd _ | with_reducible exact array_cd _ | with_reducible exact innerl_cd _ _ _ _ | with_reducible exact inner_cd _ | with_reducible exact typed_cd | with_reducible exact answer_cd | with_reducible exact within_cd (by assumption) | with_reducible exact literal_cd | with_reducible exact const_cd _ | with_reducible exact wrap_cd (by assumption) _ | with_reducible exact input_cd | with_reducible exact cast_cd (by assumption) | with_reducible exact anew_cd (by assumption) | with_reducible exact first_cd (by assumption) | with_reducible exact had_cd (by assumption) _ _ | with_reducible exact askl_cd (by assumption) _ _ _ | with_reducible exact asked_cd (by assumption) | with_reducible exact decl_cd (by assumption) | with_reducible exact branch_cd (by assumption) (by assumption) | with_reducible exact loop_cd (by assumption) (by assumption) | with_reducible exact short_cd _ | with_reducible exact result_cd (by assumption) | with_reducible refine cd_if ?_ ?_ | with_reducible refine cd_bnd ?_ ?_ | with_reducible refine cd_look ?_ | intro _)
theorem super_cd {value : PM Nat} (hv : Cd value) : Cd (superP C value) := by
  unfold superP
  repeat (first | assumption | with_reducible exact cd_ret | with_reducible exact cd_stop | with_reducible exact cd_thr (by first | decide | assumption) | with_reducible exact read_cd | with_reducible exact enter_cd | with_reducible exact leave_cd | with_reducible exact more_cd _ | with_reducible exact cap_cd _ | with_reducible exact make_cd _ _ | with_reducible exact take_cd _ | with_reducible exact want_cd _ | with_reducible exact name_cd | with_reducible exact many_cd (by assumption) _ _ | with_reducible exact list_cd (by assumption) | with_reducible exact join_cd (by assumption) _ _ | with_reducible exact joinl_cd (by assumption) _ _ _ _ | with_reducible exact base_cd _ | with_reducible exact null_cd _ | with_reducible exact array_cd _ | with_reducible exact innerl_cd _ _ _ _ | with_reducible exact inner_cd _ | with_reducible exact typed_cd | with_reducible exact answer_cd | with_reducible exact within_cd (by assumption) | with_reducible exact literal_cd | with_reducible exact const_cd _ | with_reducible exact wrap_cd (by assumption) _ | with_reducible exact input_cd | with_reducible exact cast_cd (by assumption) | with_reducible exact anew_cd (by assumption) | with_reducible exact first_cd (by assumption) | with_reducible exact had_cd (by assumption) _ _ | with_reducible exact askl_cd (by assumption) _ _ _ | with_reducible exact asked_cd (by assumption) | with_reducible exact decl_cd (by assumption) | with_reducible exact branch_cd (by assumption) (by assumption) | with_reducible exact loop_cd (by assumption) (by assumption) | with_reducible exact short_cd _ | with_reducible exact result_cd (by assumption) | with_reducible exact print_cd (by assumption) | with_reducible refine cd_if ?_ ?_ | with_reducible refine cd_bnd ?_ ?_ | with_reducible refine cd_look ?_ | intro _)
theorem valued_cd {value : PM Nat} (hv : Cd value) : Cd (valuedP C value) := by
  unfold valuedP
  repeat (first | assumption | with_reducible exact cd_ret | with_reducible exact cd_stop | with_reducible exact cd_thr (by first | decide | assumption) | with_reducible exact read_cd | with_reducible exact enter_cd | with_reducible exact leave_cd | with_reducible exact more_cd _ | with_reducible exact cap_cd _ | with_reducible exact make_cd _ _ | with_reducible exact take_cd _ | with_reducible exact want_cd _ | with_reducible exact name_cd | with_reducible exact many_cd (by assumption) _ _ | with_reducible exact list_cd (by assumption) | with_reducible exact join_cd (by assumption) _ _ | with_reducible exact joinl_cd (by assumption) _ _ _ _ | with_reducible exact base_cd _ | with_reducible exact null_cd _ | with_reducible exact array_cd _ | with_reducible exact innerl_cd _ _ _ _ | with_reducible exact inner_cd _ | with_reducible exact typed_cd | with_reducible exact answer_cd | with_reducible exact within_cd (by assumption) | with_reducible exact literal_cd | with_reducible exact const_cd _ | with_reducible exact wrap_cd (by assumption) _ | with_reducible exact input_cd | with_reducible exact cast_cd (by assumption) | with_reducible exact anew_cd (by assumption) | with_reducible exact first_cd (by assumption) | with_reducible exact had_cd (by assumption) _ _ | with_reducible exact askl_cd (by assumption) _ _ _ | with_reducible exact asked_cd (by assumption) | with_reducible exact decl_cd (by assumption) | with_reducible exact branch_cd (by assumption) (by assumption) | with_reducible exact loop_cd (by assumption) (by assumption) | with_reducible exact short_cd _ | with_reducible exact result_cd (by assumption) | with_reducible exact print_cd (by assumption) | with_reducible exact super_cd (by assumption) | with_reducible refine cd_if ?_ ?_ | with_reducible refine cd_bnd ?_ ?_ | with_reducible refine cd_look ?_ | intro _)
theorem stat_cd {value : PM Nat} (hv : Cd value) {block : PM Nat} (hb : Cd block) : Cd (statP C value block) := by
  unfold statP
  repeat (first | assumption | with_reducible exact cd_ret | with_reducible exact cd_stop | with_reducible exact cd_thr (by first | decide | assumption) | with_reducible exact read_cd | with_reducible exact enter_cd | with_reducible exact leave_cd | with_reducible exact more_cd _ | with_reducible exact cap_cd _ | with_reducible exact make_cd _ _ | with_reducible exact take_cd _ | with_reducible exact want_cd _ | with_reducible exact name_cd | with_reducible exact many_cd (by assumption) _ _ | with_reducible exact list_cd (by assumption) | with_reducible exact join_cd (by assumption) _ _ | with_reducible exact joinl_cd (by assumption) _ _ _ _ | with_reducible exact base_cd _ | with_reducible exact null_cd _ | with_reducible exact array_cd _ | with_reducible exact innerl_cd _ _ _ _ | with_reducible exact inner_cd _ | with_reducible exact typed_cd | with_reducible exact answer_cd | with_reducible exact within_cd (by assumption) | with_reducible exact literal_cd | with_reducible exact const_cd _ | with_reducible exact wrap_cd (by assumption) _ | with_reducible exact input_cd | with_reducible exact cast_cd (by assumption) | with_reducible exact anew_cd (by assumption) | with_reducible exact first_cd (by assumption) | with_reducible exact had_cd (by assumption) _ _ | with_reducible exact askl_cd (by assumption) _ _ _ | with_reducible exact asked_cd (by assumption) | with_reducible exact decl_cd (by assumption) | with_reducible exact branch_cd (by assumption) (by assumption) | with_reducible exact loop_cd (by assumption) (by assumption) | with_reducible exact short_cd _ | with_reducible exact result_cd (by assumption) | with_reducible exact print_cd (by assumption) | with_reducible exact super_cd (by assumption) | with_reducible exact valued_cd (by assumption) | with_reducible refine cd_if ?_ ?_ | with_reducible refine cd_bnd ?_ ?_ | with_reducible refine cd_look ?_ | intro _)
theorem statl_cd {stat : PM Nat} (hs : Cd stat) : ∀ (k : Nat) (l : List Nat), Cd (statL C stat k l)
  | 0, l => cd_stop
  | k + 1, l => by
    have ih := statl_cd hs k
    unfold statL
    repeat (first | exact ih _ | assumption | with_reducible exact cd_ret | with_reducible exact cd_stop | with_reducible exact cd_thr (by first | decide | assumption) | with_reducible exact read_cd | with_reducible exact enter_cd | with_reducible exact leave_cd | with_reducible exact more_cd _ | with_reducible exact cap_cd _ | with_reducible exact make_cd _ _ | with_reducible exact take_cd _ | with_reducible exact want_cd _ | with_reducible exact name_cd | with_reducible exact many_cd (by assumption) _ _ | with_reducible exact list_cd (by assumption) | with_reducible exact join_cd (by assumption) _ _ | with_reducible exact joinl_cd (by assumption) _ _ _ _ | with_reducible exact base_cd _ | with_reducible exact null_cd _ | with_reducible exact array_cd _ | with_reducible exact innerl_cd _ _ _ _ | with_reducible exact inner_cd _ | with_reducible exact typed_cd | with_reducible exact answer_cd | with_reducible exact within_cd (by assumption) | with_reducible exact literal_cd | with_reducible exact const_cd _ | with_reducible exact wrap_cd (by assumption) _ | with_reducible exact input_cd | with_reducible exact cast_cd (by assumption) | with_reducible exact anew_cd (by assumption) | with_reducible exact first_cd (by assumption) | with_reducible exact had_cd (by assumption) _ _ | with_reducible exact askl_cd (by assumption) _ _ _ | with_reducible exact asked_cd (by assumption) | with_reducible exact decl_cd (by assumption) | with_reducible exact branch_cd (by assumption) (by assumption) | with_reducible exact loop_cd (by assumption) (by assumption) | with_reducible exact short_cd _ | with_reducible exact result_cd (by assumption) | with_reducible exact print_cd (by assumption) | with_reducible exact super_cd (by assumption) | with_reducible exact valued_cd (by assumption) | with_reducible exact stat_cd (by assumption) (by assumption) | with_reducible refine cd_if ?_ ?_ | with_reducible refine cd_bnd ?_ ?_ | with_reducible refine cd_look ?_ | intro _)
theorem step_cd {rec : PG → PM Nat} (h : ∀ g, Cd (rec g)) (g : PG) : Cd (stepG C rec g) := by
  have hv := h .value
  have hb := h .block
  have hs := h .signed
  have hst := stat_cd (C := C) hv hb
  have ha := asked_cd (C := C) hv
  cases g with
  | value =>
    have hj := h (.joined 1)
    unfold stepG
    repeat (first | assumption | with_reducible exact cd_ret | with_reducible exact cd_stop | with_reducible exact cd_thr (by first | decide | assumption) | with_reducible exact read_cd | with_reducible exact enter_cd | with_reducible exact leave_cd | with_reducible exact more_cd _ | with_reducible exact cap_cd _ | with_reducible exact make_cd _ _ | with_reducible exact take_cd _ | with_reducible exact want_cd _ | with_reducible exact name_cd | with_reducible exact many_cd (by assumption) _ _ | with_reducible exact list_cd (by assumption) | with_reducible exact join_cd (by assumption) _ _ | with_reducible exact joinl_cd (by assumption) _ _ _ _ | with_reducible exact base_cd _ | with_reducible exact null_cd _ | with_reducible exact array_cd _ | with_reducible exact innerl_cd _ _ _ _ | with_reducible exact inner_cd _ | with_reducible exact typed_cd | with_reducible exact answer_cd | with_reducible exact within_cd (by assumption) | with_reducible exact literal_cd | with_reducible exact const_cd _ | with_reducible exact wrap_cd (by assumption) _ | with_reducible exact input_cd | with_reducible exact cast_cd (by assumption) | with_reducible exact anew_cd (by assumption) | with_reducible exact first_cd (by assumption) | with_reducible exact had_cd (by assumption) _ _ | with_reducible exact askl_cd (by assumption) _ _ _ | with_reducible exact asked_cd (by assumption) | with_reducible exact decl_cd (by assumption) | with_reducible exact branch_cd (by assumption) (by assumption) | with_reducible exact loop_cd (by assumption) (by assumption) | with_reducible exact short_cd _ | with_reducible exact result_cd (by assumption) | with_reducible exact print_cd (by assumption) | with_reducible exact super_cd (by assumption) | with_reducible exact valued_cd (by assumption) | with_reducible exact stat_cd (by assumption) (by assumption) | with_reducible exact statl_cd (by assumption) _ _ | with_reducible refine cd_if ?_ ?_ | with_reducible refine cd_bnd ?_ ?_ | with_reducible refine cd_look ?_ | intro _)
  | joined c =>
    have hj := h (.joined (c + 1))
    have hl := fun f n => joinl_cd (C := C) hj c f C.toks.length n
    unfold stepG
    repeat (first | exact hl _ _ | assumption | with_reducible exact cd_ret | with_reducible exact cd_stop | with_reducible exact cd_thr (by first | decide | assumption) | with_reducible exact read_cd | with_reducible exact enter_cd | with_reducible exact leave_cd | with_reducible exact more_cd _ | with_reducible exact cap_cd _ | with_reducible exact make_cd _ _ | with_reducible exact take_cd _ | with_reducible exact want_cd _ | with_reducible exact name_cd | with_reducible exact many_cd (by assumption) _ _ | with_reducible exact list_cd (by assumption) | with_reducible exact join_cd (by assumption) _ _ | with_reducible exact joinl_cd (by assumption) _ _ _ _ | with_reducible exact base_cd _ | with_reducible exact null_cd _ | with_reducible exact array_cd _ | with_reducible exact innerl_cd _ _ _ _ | with_reducible exact inner_cd _ | with_reducible exact typed_cd | with_reducible exact answer_cd | with_reducible exact within_cd (by assumption) | with_reducible exact literal_cd | with_reducible exact const_cd _ | with_reducible exact wrap_cd (by assumption) _ | with_reducible exact input_cd | with_reducible exact cast_cd (by assumption) | with_reducible exact anew_cd (by assumption) | with_reducible exact first_cd (by assumption) | with_reducible exact had_cd (by assumption) _ _ | with_reducible exact askl_cd (by assumption) _ _ _ | with_reducible exact asked_cd (by assumption) | with_reducible exact decl_cd (by assumption) | with_reducible exact branch_cd (by assumption) (by assumption) | with_reducible exact loop_cd (by assumption) (by assumption) | with_reducible exact short_cd _ | with_reducible exact result_cd (by assumption) | with_reducible exact print_cd (by assumption) | with_reducible exact super_cd (by assumption) | with_reducible exact valued_cd (by assumption) | with_reducible exact stat_cd (by assumption) (by assumption) | with_reducible exact statl_cd (by assumption) _ _ | with_reducible refine cd_if ?_ ?_ | with_reducible refine cd_bnd ?_ ?_ | with_reducible refine cd_look ?_ | intro _)
  | signed =>
    unfold stepG
    repeat (first | assumption | with_reducible exact cd_ret | with_reducible exact cd_stop | with_reducible exact cd_thr (by first | decide | assumption) | with_reducible exact read_cd | with_reducible exact enter_cd | with_reducible exact leave_cd | with_reducible exact more_cd _ | with_reducible exact cap_cd _ | with_reducible exact make_cd _ _ | with_reducible exact take_cd _ | with_reducible exact want_cd _ | with_reducible exact name_cd | with_reducible exact many_cd (by assumption) _ _ | with_reducible exact list_cd (by assumption) | with_reducible exact join_cd (by assumption) _ _ | with_reducible exact joinl_cd (by assumption) _ _ _ _ | with_reducible exact base_cd _ | with_reducible exact null_cd _ | with_reducible exact array_cd _ | with_reducible exact innerl_cd _ _ _ _ | with_reducible exact inner_cd _ | with_reducible exact typed_cd | with_reducible exact answer_cd | with_reducible exact within_cd (by assumption) | with_reducible exact literal_cd | with_reducible exact const_cd _ | with_reducible exact wrap_cd (by assumption) _ | with_reducible exact input_cd | with_reducible exact cast_cd (by assumption) | with_reducible exact anew_cd (by assumption) | with_reducible exact first_cd (by assumption) | with_reducible exact had_cd (by assumption) _ _ | with_reducible exact askl_cd (by assumption) _ _ _ | with_reducible exact asked_cd (by assumption) | with_reducible exact decl_cd (by assumption) | with_reducible exact branch_cd (by assumption) (by assumption) | with_reducible exact loop_cd (by assumption) (by assumption) | with_reducible exact short_cd _ | with_reducible exact result_cd (by assumption) | with_reducible exact print_cd (by assumption) | with_reducible exact super_cd (by assumption) | with_reducible exact valued_cd (by assumption) | with_reducible exact stat_cd (by assumption) (by assumption) | with_reducible exact statl_cd (by assumption) _ _ | with_reducible refine cd_if ?_ ?_ | with_reducible refine cd_bnd ?_ ?_ | with_reducible refine cd_look ?_ | intro _)
  | block =>
    have hl := statl_cd (C := C) hst C.toks.length []
    unfold stepG
    repeat (first | assumption | with_reducible exact cd_ret | with_reducible exact cd_stop | with_reducible exact cd_thr (by first | decide | assumption) | with_reducible exact read_cd | with_reducible exact enter_cd | with_reducible exact leave_cd | with_reducible exact more_cd _ | with_reducible exact cap_cd _ | with_reducible exact make_cd _ _ | with_reducible exact take_cd _ | with_reducible exact want_cd _ | with_reducible exact name_cd | with_reducible exact many_cd (by assumption) _ _ | with_reducible exact list_cd (by assumption) | with_reducible exact join_cd (by assumption) _ _ | with_reducible exact joinl_cd (by assumption) _ _ _ _ | with_reducible exact base_cd _ | with_reducible exact null_cd _ | with_reducible exact array_cd _ | with_reducible exact innerl_cd _ _ _ _ | with_reducible exact inner_cd _ | with_reducible exact typed_cd | with_reducible exact answer_cd | with_reducible exact within_cd (by assumption) | with_reducible exact literal_cd | with_reducible exact const_cd _ | with_reducible exact wrap_cd (by assumption) _ | with_reducible exact input_cd | with_reducible exact cast_cd (by assumption) | with_reducible exact anew_cd (by assumption) | with_reducible exact first_cd (by assumption) | with_reducible exact had_cd (by assumption) _ _ | with_reducible exact askl_cd (by assumption) _ _ _ | with_reducible exact asked_cd (by assumption) | with_reducible exact decl_cd (by assumption) | with_reducible exact branch_cd (by assumption) (by assumption) | with_reducible exact loop_cd (by assumption) (by assumption) | with_reducible exact short_cd _ | with_reducible exact result_cd (by assumption) | with_reducible exact print_cd (by assumption) | with_reducible exact super_cd (by assumption) | with_reducible exact valued_cd (by assumption) | with_reducible exact stat_cd (by assumption) (by assumption) | with_reducible exact statl_cd (by assumption) _ _ | with_reducible refine cd_if ?_ ?_ | with_reducible refine cd_bnd ?_ ?_ | with_reducible refine cd_look ?_ | intro _)
theorem run_cd : ∀ (n : Nat) (g : PG), Cd (runG C n g)
  | 0, _ => cd_stop
  | n + 1, g => step_cd (run_cd n) g
theorem param_cd : Cd (paramP C) := by
  unfold paramP
  repeat (first | assumption | with_reducible exact cd_ret | with_reducible exact cd_stop | with_reducible exact cd_thr (by first | decide | assumption) | with_reducible exact read_cd | with_reducible exact enter_cd | with_reducible exact leave_cd | with_reducible exact more_cd _ | with_reducible exact cap_cd _ | with_reducible exact make_cd _ _ | with_reducible exact take_cd _ | with_reducible exact want_cd _ | with_reducible exact name_cd | with_reducible exact many_cd (by assumption) _ _ | with_reducible exact list_cd (by assumption) | with_reducible exact join_cd (by assumption) _ _ | with_reducible exact joinl_cd (by assumption) _ _ _ _ | with_reducible exact base_cd _ | with_reducible exact null_cd _ | with_reducible exact array_cd _ | with_reducible exact innerl_cd _ _ _ _ | with_reducible exact inner_cd _ | with_reducible exact typed_cd | with_reducible exact answer_cd | with_reducible exact within_cd (by assumption) | with_reducible exact literal_cd | with_reducible exact const_cd _ | with_reducible exact wrap_cd (by assumption) _ | with_reducible exact input_cd | with_reducible exact cast_cd (by assumption) | with_reducible exact anew_cd (by assumption) | with_reducible exact first_cd (by assumption) | with_reducible exact had_cd (by assumption) _ _ | with_reducible exact askl_cd (by assumption) _ _ _ | with_reducible exact asked_cd (by assumption) | with_reducible exact decl_cd (by assumption) | with_reducible exact branch_cd (by assumption) (by assumption) | with_reducible exact loop_cd (by assumption) (by assumption) | with_reducible exact short_cd _ | with_reducible exact result_cd (by assumption) | with_reducible exact print_cd (by assumption) | with_reducible exact super_cd (by assumption) | with_reducible exact valued_cd (by assumption) | with_reducible exact stat_cd (by assumption) (by assumption) | with_reducible exact statl_cd (by assumption) _ _ | with_reducible refine cd_if ?_ ?_ | with_reducible refine cd_bnd ?_ ?_ | with_reducible refine cd_look ?_ | intro _)
theorem body_cd {block : PM Nat} (hb : Cd block) (n : Nd) (f : Nat) : Cd (bodyP C block n f) := by
  have hl := list_cd (C := C) (param_cd (C := C))
  unfold bodyP
  repeat (first | assumption | with_reducible exact cd_ret | with_reducible exact cd_stop | with_reducible exact cd_thr (by first | decide | assumption) | with_reducible exact read_cd | with_reducible exact enter_cd | with_reducible exact leave_cd | with_reducible exact more_cd _ | with_reducible exact cap_cd _ | with_reducible exact make_cd _ _ | with_reducible exact take_cd _ | with_reducible exact want_cd _ | with_reducible exact name_cd | with_reducible exact many_cd (by assumption) _ _ | with_reducible exact list_cd (by assumption) | with_reducible exact join_cd (by assumption) _ _ | with_reducible exact joinl_cd (by assumption) _ _ _ _ | with_reducible exact base_cd _ | with_reducible exact null_cd _ | with_reducible exact array_cd _ | with_reducible exact innerl_cd _ _ _ _ | with_reducible exact inner_cd _ | with_reducible exact typed_cd | with_reducible exact answer_cd | with_reducible exact within_cd (by assumption) | with_reducible exact literal_cd | with_reducible exact const_cd _ | with_reducible exact wrap_cd (by assumption) _ | with_reducible exact input_cd | with_reducible exact cast_cd (by assumption) | with_reducible exact anew_cd (by assumption) | with_reducible exact first_cd (by assumption) | with_reducible exact had_cd (by assumption) _ _ | with_reducible exact askl_cd (by assumption) _ _ _ | with_reducible exact asked_cd (by assumption) | with_reducible exact decl_cd (by assumption) | with_reducible exact branch_cd (by assumption) (by assumption) | with_reducible exact loop_cd (by assumption) (by assumption) | with_reducible exact short_cd _ | with_reducible exact result_cd (by assumption) | with_reducible exact print_cd (by assumption) | with_reducible exact super_cd (by assumption) | with_reducible exact valued_cd (by assumption) | with_reducible exact stat_cd (by assumption) (by assumption) | with_reducible exact statl_cd (by assumption) _ _ | with_reducible exact param_cd | with_reducible refine cd_if ?_ ?_ | with_reducible refine cd_bnd ?_ ?_ | with_reducible refine cd_look ?_ | intro _)
theorem member_cd {block : PM Nat} (hb : Cd block) : Cd (memberP C block) := by
  unfold memberP
  repeat (first | assumption | with_reducible exact cd_ret | with_reducible exact cd_stop | with_reducible exact cd_thr (by first | decide | assumption) | with_reducible exact read_cd | with_reducible exact enter_cd | with_reducible exact leave_cd | with_reducible exact more_cd _ | with_reducible exact cap_cd _ | with_reducible exact make_cd _ _ | with_reducible exact take_cd _ | with_reducible exact want_cd _ | with_reducible exact name_cd | with_reducible exact many_cd (by assumption) _ _ | with_reducible exact list_cd (by assumption) | with_reducible exact join_cd (by assumption) _ _ | with_reducible exact joinl_cd (by assumption) _ _ _ _ | with_reducible exact base_cd _ | with_reducible exact null_cd _ | with_reducible exact array_cd _ | with_reducible exact innerl_cd _ _ _ _ | with_reducible exact inner_cd _ | with_reducible exact typed_cd | with_reducible exact answer_cd | with_reducible exact within_cd (by assumption) | with_reducible exact literal_cd | with_reducible exact const_cd _ | with_reducible exact wrap_cd (by assumption) _ | with_reducible exact input_cd | with_reducible exact cast_cd (by assumption) | with_reducible exact anew_cd (by assumption) | with_reducible exact first_cd (by assumption) | with_reducible exact had_cd (by assumption) _ _ | with_reducible exact askl_cd (by assumption) _ _ _ | with_reducible exact asked_cd (by assumption) | with_reducible exact decl_cd (by assumption) | with_reducible exact branch_cd (by assumption) (by assumption) | with_reducible exact loop_cd (by assumption) (by assumption) | with_reducible exact short_cd _ | with_reducible exact result_cd (by assumption) | with_reducible exact print_cd (by assumption) | with_reducible exact super_cd (by assumption) | with_reducible exact valued_cd (by assumption) | with_reducible exact stat_cd (by assumption) (by assumption) | with_reducible exact statl_cd (by assumption) _ _ | with_reducible exact param_cd | with_reducible exact body_cd (by assumption) _ _ | with_reducible refine cd_if ?_ ?_ | with_reducible refine cd_bnd ?_ ?_ | with_reducible refine cd_look ?_ | intro _)
theorem ancestor_cd : Cd (ancestorP C) := by
  unfold ancestorP
  repeat (first | assumption | with_reducible exact cd_ret | with_reducible exact cd_stop | with_reducible exact cd_thr (by first | decide | assumption) | with_reducible exact read_cd | with_reducible exact enter_cd | with_reducible exact leave_cd | with_reducible exact more_cd _ | with_reducible exact cap_cd _ | with_reducible exact make_cd _ _ | with_reducible exact take_cd _ | with_reducible exact want_cd _ | with_reducible exact name_cd | with_reducible exact many_cd (by assumption) _ _ | with_reducible exact list_cd (by assumption) | with_reducible exact join_cd (by assumption) _ _ | with_reducible exact joinl_cd (by assumption) _ _ _ _ | with_reducible exact base_cd _ | with_reducible exact null_cd _ | with_reducible exact array_cd _ | with_reducible exact innerl_cd _ _ _ _ | with_reducible exact inner_cd _ | with_reducible exact typed_cd | with_reducible exact answer_cd | with_reducible exact within_cd (by assumption) | with_reducible exact literal_cd | with_reducible exact const_cd _ | with_reducible exact wrap_cd (by assumption) _ | with_reducible exact input_cd | with_reducible exact cast_cd (by assumption) | with_reducible exact anew_cd (by assumption) | with_reducible exact first_cd (by assumption) | with_reducible exact had_cd (by assumption) _ _ | with_reducible exact askl_cd (by assumption) _ _ _ | with_reducible exact asked_cd (by assumption) | with_reducible exact decl_cd (by assumption) | with_reducible exact branch_cd (by assumption) (by assumption) | with_reducible exact loop_cd (by assumption) (by assumption) | with_reducible exact short_cd _ | with_reducible exact result_cd (by assumption) | with_reducible exact print_cd (by assumption) | with_reducible exact super_cd (by assumption) | with_reducible exact valued_cd (by assumption) | with_reducible exact stat_cd (by assumption) (by assumption) | with_reducible exact statl_cd (by assumption) _ _ | with_reducible exact param_cd | with_reducible exact body_cd (by assumption) _ _ | with_reducible exact member_cd (by assumption) | with_reducible refine cd_if ?_ ?_ | with_reducible refine cd_bnd ?_ ?_ | with_reducible refine cd_look ?_ | intro _)
theorem memberl_cd {member : PM Nat} (hm : Cd member) : ∀ (k : Nat) (l : List Nat), Cd (memberL C member k l)
  | 0, l => cd_stop
  | k + 1, l => by
    have ih := memberl_cd hm k
    unfold memberL
    repeat (first | exact ih _ | assumption | with_reducible exact cd_ret | with_reducible exact cd_stop | with_reducible exact cd_thr (by first | decide | assumption) | with_reducible exact read_cd | with_reducible exact enter_cd | with_reducible exact leave_cd | with_reducible exact more_cd _ | with_reducible exact cap_cd _ | with_reducible exact make_cd _ _ | with_reducible exact take_cd _ | with_reducible exact want_cd _ | with_reducible exact name_cd | with_reducible exact many_cd (by assumption) _ _ | with_reducible exact list_cd (by assumption) | with_reducible exact join_cd (by assumption) _ _ | with_reducible exact joinl_cd (by assumption) _ _ _ _ | with_reducible exact base_cd _ | with_reducible exact null_cd _ | with_reducible exact array_cd _ | with_reducible exact innerl_cd _ _ _ _ | with_reducible exact inner_cd _ | with_reducible exact typed_cd | with_reducible exact answer_cd | with_reducible exact within_cd (by assumption) | with_reducible exact literal_cd | with_reducible exact const_cd _ | with_reducible exact wrap_cd (by assumption) _ | with_reducible exact input_cd | with_reducible exact cast_cd (by assumption) | with_reducible exact anew_cd (by assumption) | with_reducible exact first_cd (by assumption) | with_reducible exact had_cd (by assumption) _ _ | with_reducible exact askl_cd (by assumption) _ _ _ | with_reducible exact asked_cd (by assumption) | with_reducible exact decl_cd (by assumption) | with_reducible exact branch_cd (by assumption) (by assumption) | with_reducible exact loop_cd (by assumption) (by assumption) | with_reducible exact short_cd _ | with_reducible exact result_cd (by assumption) | with_reducible exact print_cd (by assumption) | with_reducible exact super_cd (by assumption) | with_reducible exact valued_cd (by assumption) | with_reducible exact stat_cd (by assumption) (by assumption) | with_reducible exact statl_cd (by assumption) _ _ | with_reducible exact param_cd | with_reducible exact body_cd (by assumption) _ _ | with_reducible exact member_cd (by assumption) | with_reducible exact ancestor_cd | with_reducible refine cd_if ?_ ?_ | with_reducible refine cd_bnd ?_ ?_ | with_reducible refine cd_look ?_ | intro _)
theorem class_cd {block : PM Nat} (hb : Cd block) : Cd (classP C block) := by
  have hm := member_cd (C := C) hb
  unfold classP
  repeat (first | assumption | with_reducible exact cd_ret | with_reducible exact cd_stop | with_reducible exact cd_thr (by first | decide | assumption) | with_reducible exact read_cd | with_reducible exact enter_cd | with_reducible exact leave_cd | with_reducible exact more_cd _ | with_reducible exact cap_cd _ | with_reducible exact make_cd _ _ | with_reducible exact take_cd _ | with_reducible exact want_cd _ | with_reducible exact name_cd | with_reducible exact many_cd (by assumption) _ _ | with_reducible exact list_cd (by assumption) | with_reducible exact join_cd (by assumption) _ _ | with_reducible exact joinl_cd (by assumption) _ _ _ _ | with_reducible exact base_cd _ | with_reducible exact null_cd _ | with_reducible exact array_cd _ | with_reducible exact innerl_cd _ _ _ _ | with_reducible exact inner_cd _ | with_reducible exact typed_cd | with_reducible exact answer_cd | with_reducible exact within_cd (by assumption) | with_reducible exact literal_cd | with_reducible exact const_cd _ | with_reducible exact wrap_cd (by assumption) _ | with_reducible exact input_cd | with_reducible exact cast_cd (by assumption) | with_reducible exact anew_cd (by assumption) | with_reducible exact first_cd (by assumption) | with_reducible exact had_cd (by assumption) _ _ | with_reducible exact askl_cd (by assumption) _ _ _ | with_reducible exact asked_cd (by assumption) | with_reducible exact decl_cd (by assumption) | with_reducible exact branch_cd (by assumption) (by assumption) | with_reducible exact loop_cd (by assumption) (by assumption) | with_reducible exact short_cd _ | with_reducible exact result_cd (by assumption) | with_reducible exact print_cd (by assumption) | with_reducible exact super_cd (by assumption) | with_reducible exact valued_cd (by assumption) | with_reducible exact stat_cd (by assumption) (by assumption) | with_reducible exact statl_cd (by assumption) _ _ | with_reducible exact param_cd | with_reducible exact body_cd (by assumption) _ _ | with_reducible exact member_cd (by assumption) | with_reducible exact ancestor_cd | with_reducible exact memberl_cd (by assumption) _ _ | with_reducible refine cd_if ?_ ?_ | with_reducible refine cd_bnd ?_ ?_ | with_reducible refine cd_look ?_ | intro _)
theorem classl_cd {cls : PM Nat} (hc : Cd cls) : ∀ (k : Nat) (l : List Nat), Cd (classL C cls k l)
  | 0, l => cd_stop
  | k + 1, l => by
    have ih := classl_cd hc k
    unfold classL
    repeat (first | exact ih _ | assumption | with_reducible exact cd_ret | with_reducible exact cd_stop | with_reducible exact cd_thr (by first | decide | assumption) | with_reducible exact read_cd | with_reducible exact enter_cd | with_reducible exact leave_cd | with_reducible exact more_cd _ | with_reducible exact cap_cd _ | with_reducible exact make_cd _ _ | with_reducible exact take_cd _ | with_reducible exact want_cd _ | with_reducible exact name_cd | with_reducible exact many_cd (by assumption) _ _ | with_reducible exact list_cd (by assumption) | with_reducible exact join_cd (by assumption) _ _ | with_reducible exact joinl_cd (by assumption) _ _ _ _ | with_reducible exact base_cd _ | with_reducible exact null_cd _ | with_reducible exact array_cd _ | with_reducible exact innerl_cd _ _ _ _ | with_reducible exact inner_cd _ | with_reducible exact typed_cd | with_reducible exact answer_cd | with_reducible exact within_cd (by assumption) | with_reducible exact literal_cd | with_reducible exact const_cd _ | with_reducible exact wrap_cd (by assumption) _ | with_reducible exact input_cd | with_reducible exact cast_cd (by assumption) | with_reducible exact anew_cd (by assumption) | with_reducible exact first_cd (by assumption) | with_reducible exact had_cd (by assumption) _ _ | with_reducible exact askl_cd (by assumption) _ _ _ | with_reducible exact asked_cd (by assumption) | with_reducible exact decl_cd (by assumption) | with_reducible exact branch_cd (by assumption) (by assumption) | with_reducible exact loop_cd (by assumption) (by assumption) | with_reducible exact short_cd _ | with_reducible exact result_cd (by assumption) | with_reducible exact print_cd (by assumption) | with_reducible exact super_cd (by assumption) | with_reducible exact valued_cd (by assumption) | with_reducible exact stat_cd (by assumption) (by assumption) | with_reducible exact statl_cd (by assumption) _ _ | with_reducible exact param_cd | with_reducible exact body_cd (by assumption) _ _ | with_reducible exact member_cd (by assumption) | with_reducible exact ancestor_cd | with_reducible exact memberl_cd (by assumption) _ _ | with_reducible exact class_cd (by assumption) | with_reducible refine cd_if ?_ ?_ | with_reducible refine cd_bnd ?_ ?_ | with_reducible refine cd_look ?_ | intro _)
theorem parse_code {c : Nat} {z : Int} (h : parseP C = .bad c z) : c ≠ 0 := by
  have hb := run_cd (C := C) C.fuel .block
  have hc := class_cd (C := C) hb
  have : Cd (programP C (runG C C.fuel .block)) := by
    unfold programP
    refine cd_look fun f => cd_bnd (classl_cd hc _ _) fun l => cd_if (fun _ => ?_) (fun _ => ?_)
    · intro s c z e; cases e
    · exact cd_bnd (make_cd _ _) fun _ => cd_ret
  exact this _ _ _ h
end
end Go.Proofs.YtidannabjhbjpaaGreatDoor
namespace Go.Proofs.YtidannabjhbjpaaGreatDoor
structure Tk (C : PC) (p k : Nat) (x : ByteArray) : Prop where
  word : C.word p = x
  kind : (C.tok p).1 = k
  in_ : p + 1 < C.toks.length
def Bad {α : Type} (c : Nat) (m : PM α) (s : PS) : Prop := ∃ z, m s = .bad c z
def Made (m : PM Nat) (p d : Nat) (M : List Nd) (q k : Nat) (kd : Int) : Prop := ∃ X y, X.length + 1 = k ∧ y.kind = kd ∧ m ⟨p, d, 0, M⟩ = .ok (M.length + X.length) ⟨q, d, 0, M ++ X ++ [y]⟩
section
variable {α β : Type} {C : PC} {p q d o k c f : Nat} {kd : Int} {M : List Nd} {x y : ByteArray} {s t : PS}
theorem bnd_go {m : PM α} {j : α → PM β} {a : α} (h : m s = .ok a t) : bnd m j s = j a t := by unfold bnd; rw [h]
theorem bad_bnd {m : PM α} {j : α → PM β} (h : Bad c m s) : Bad c (bnd m j) s := by
  obtain ⟨z, e⟩ := h
  exact ⟨z, by unfold bnd; rw [e]⟩
theorem bad_then {m : PM α} {j : α → PM β} {a : α} (h : m s = .ok a t) (g : Bad c (j a) t) : Bad c (bnd m j) s := by
  obtain ⟨z, e⟩ := g
  exact ⟨z, by rw [bnd_go h]; exact e⟩
theorem read_go (h : Tk C p k x) : readP C ⟨p, d, 0, M⟩ = .ok x ⟨p + 1, d, 0, M⟩ := by
  show (if p + 1 < C.toks.length then (if (0 : Nat) = 0 then PR.ok (C.word p) (⟨p + 1, d, 0, M⟩ : PS) else _) else _) = _
  rw [if_pos h.in_, if_pos rfl, h.word]
theorem read_over (ho : o ≠ 0) (h : Tk C p k x) : Bad o (readP C) ⟨p, d, o, M⟩ := by
  refine ⟨fromS C ⟨p, d, o, M⟩, ?_⟩
  show (if p + 1 < C.toks.length then (if o = 0 then _ else PR.bad o _) else _) = _
  rw [if_pos h.in_, if_neg ho]
theorem sees_yes (h : C.word p = x) : sees C x ⟨p, d, o, M⟩ = true := decide_eq_true h
theorem sees_no (h : C.word p ≠ x) : sees C x ⟨p, d, o, M⟩ = false := decide_eq_false h
theorem take_yes (h : Tk C p k x) : takeP C x ⟨p, d, 0, M⟩ = .ok true ⟨p + 1, d, 0, M⟩ := by
  show (if sees C x ⟨p, d, 0, M⟩ = true then bnd (readP C) (fun _ => ret true) else ret false) _ = _
  rw [if_pos (sees_yes h.word), bnd_go (read_go h)]; rfl
theorem take_no (h : C.word p ≠ x) : takeP C x ⟨p, d, o, M⟩ = .ok false ⟨p, d, o, M⟩ := by
  show (if sees C x ⟨p, d, o, M⟩ = true then bnd (readP C) (fun _ => ret true) else ret false) _ = _
  rw [if_neg (by rw [sees_no h]; simp)]; rfl
theorem take_over (ho : o ≠ 0) (h : Tk C p k x) : Bad o (takeP C x) ⟨p, d, o, M⟩ := by
  obtain ⟨z, e⟩ := bad_bnd (j := fun _ => ret true) (read_over (d := d) (M := M) ho h)
  refine ⟨z, ?_⟩
  show (if sees C x ⟨p, d, o, M⟩ = true then bnd (readP C) (fun _ => ret true) else ret false) _ = _
  rw [if_pos (sees_yes h.word)]; exact e
theorem want_go (h : Tk C p k x) : wantP C x ⟨p, d, 0, M⟩ = .ok () ⟨p + 1, d, 0, M⟩ := by
  unfold wantP
  rw [bnd_go (take_yes h), if_pos rfl]; rfl
theorem want_over (ho : o ≠ 0) (h : Tk C p k x) : Bad o (wantP C x) ⟨p, d, o, M⟩ := bad_bnd (take_over ho h)
theorem name_go (h : Tk C p k x) (hn : C.name x = true) : nameP C ⟨p, d, 0, M⟩ = .ok x ⟨p + 1, d, 0, M⟩ := by
  show (if C.name (C.word p) = true then readP C else _) _ = _
  rw [h.word, if_pos hn, read_go h]
theorem make_go {n : Nd} (hp : p ≠ 0) (hg : goodN n = true) (hM : M.length < 8192) : ∃ y, y.kind = n.kind ∧ makeP C n f ⟨p, d, 0, M⟩ = .ok M.length ⟨p, d, 0, M ++ [y]⟩ := by
  refine ⟨{ n with sf := f, st := endS C ⟨p, d, 0, M⟩ }, rfl, ?_⟩
  show (if p = 0 ∨ goodN n = false then PR.out else if M.length = 8192 then _ else PR.ok M.length (⟨p, d, 0, M ++ [{ n with sf := f, st := endS C ⟨p, d, 0, M⟩ }]⟩ : PS)) = _
  rw [if_neg (by rw [hg]; simp [hp]), if_neg (by omega)]
theorem make_full {n : Nd} (hp : p ≠ 0) (hg : goodN n = true) (hM : M.length = 8192) : Bad 2 (makeP C n f) ⟨p, d, o, M⟩ := by
  refine ⟨f, ?_⟩
  show (if p = 0 ∨ goodN n = false then PR.out else if M.length = 8192 then PR.bad 2 f else _) = _
  rw [if_neg (by rw [hg]; simp [hp]), if_pos hM]
theorem made_make {n : Nd} {X : List Nd} (hp : p ≠ 0) (hg : goodN n = true) (hM : M.length + X.length < 8192) : ∃ y, y.kind = n.kind ∧ makeP C n f ⟨p, d, 0, M ++ X⟩ = .ok (M.length + X.length) ⟨p, d, 0, M ++ X ++ [y]⟩ := by
  obtain ⟨y, h1, h2⟩ := make_go (C := C) (f := f) (d := d) (M := M ++ X) (n := n) hp hg (by simpa using hM)
  exact ⟨y, h1, by rw [h2]; simp⟩
theorem good_of (k : Int) {t : ByteArray} {l : List Nat} (hl : l.length ≤ 100000) (ht : t.size ≤ 65536) : goodN (nd k t l) = true := by
  unfold goodN nd
  refine decide_eq_true ⟨by simpa using hl, ht, by show (0 : Nat) ≤ _; omega, by show (0 : Nat) ≤ _; omega, by show (0 : Nat) ≤ _; omega⟩
theorem Made.eq {m n : PM Nat} (h : Made m p d M q k kd) (e : n ⟨p, d, 0, M⟩ = m ⟨p, d, 0, M⟩) : Made n p d M q k kd := by
  obtain ⟨X, y, h1, h2, h3⟩ := h
  exact ⟨X, y, h1, h2, e.trans h3⟩
theorem Bad.eq {m n : PM α} (h : Bad c m s) (e : n s = m s) : Bad c n s := by
  obtain ⟨z, h⟩ := h
  exact ⟨z, e.trans h⟩
structure Stop (C : PC) (q : Nat) : Prop where
  binds : bindsN (C.word q) = 0
  guard : C.word q ≠ (⟨#[33]⟩ : ByteArray)
  index : C.word q ≠ (⟨#[91]⟩ : ByteArray)
  point : C.word q ≠ (⟨#[46]⟩ : ByteArray)
theorem join_stop {part : PM Nat} {n : Nat} (hs : bindsN (C.word q) ≠ c) (hl : 0 < C.toks.length) : joinL C part c f C.toks.length n ⟨q, d, o, M⟩ = .ok n ⟨q, d, o, M⟩ := by
  obtain ⟨k, hk⟩ : ∃ k, C.toks.length = k + 1 := ⟨C.toks.length - 1, by omega⟩
  rw [hk]
  show (if bindsN (C.word q) = c then _ else ret n) _ = _
  rw [if_neg hs]; rfl
theorem joined_eq {m c : Nat} (hc : c ≤ 6) : runG C (m + 1) (.joined c) s = bnd (runG C m (.joined (c + 1))) (fun n => joinL C (runG C m (.joined (c + 1))) c (fromS C s) C.toks.length n) s := by
  show (if 6 < c then _ else look (fromS C) fun f => _) s = _
  rw [if_neg (by omega)]; rfl
theorem joined_up {m c : Nat} (hc : c ≤ 6) (hl : 0 < C.toks.length) (h : Made (runG C m (.joined (c + 1))) p d M q k kd) (hs : bindsN (C.word q) ≠ c) : Made (runG C (m + 1) (.joined c)) p d M q k kd := by
  obtain ⟨X, y, h1, h2, h3⟩ := h
  exact ⟨X, y, h1, h2, by rw [joined_eq hc, bnd_go h3, join_stop hs hl]⟩
theorem bad_joined {m c e : Nat} (hc : c ≤ 6) (h : Bad e (runG C m (.joined (c + 1))) s) : Bad e (runG C (m + 1) (.joined c)) s := (bad_bnd h).eq (joined_eq hc)
theorem seven_eq {m : Nat} : runG C (m + 1) (.joined 7) s = runG C m .signed s := rfl
theorem signed_eq {m : Nat} (h1 : C.word s.next ≠ (⟨#[45]⟩ : ByteArray)) (h2 : C.word s.next ≠ (⟨#[33]⟩ : ByteArray)) : runG C (m + 1) .signed s = askedP C (runG C m .value) s := by
  show (if C.word s.next = _ ∨ C.word s.next = _ then _ else askedP C (runG C m .value)) s = _
  rw [if_neg (by intro e; exact e.elim h1 h2)]
theorem up {m : Nat} (hl : 0 < C.toks.length) (h : Made (runG C m .signed) p d M q k kd) (hs : Stop C q) : Made (runG C (m + 7) (.joined 1)) p d M q k kd :=
  joined_up (by omega) hl (joined_up (by omega) hl (joined_up (by omega) hl (joined_up (by omega) hl (joined_up (by omega) hl (joined_up (by omega) hl (h.eq seven_eq) (by rw [hs.binds]; decide)) (by rw [hs.binds]; decide)) (by rw [hs.binds]; decide)) (by rw [hs.binds]; decide)) (by rw [hs.binds]; decide)) (by rw [hs.binds]; decide)
theorem bad_up {m e : Nat} (h : Bad e (runG C m .signed) s) : Bad e (runG C (m + 7) (.joined 1)) s :=
  bad_joined (by omega) (bad_joined (by omega) (bad_joined (by omega) (bad_joined (by omega) (bad_joined (by omega) (bad_joined (by omega) (h.eq seven_eq))))))
theorem made_asked {m : Nat} (h : Made (askedP C (runG C m .value)) p d M q k kd) (h1 : C.word p ≠ (⟨#[45]⟩ : ByteArray)) (h2 : C.word p ≠ (⟨#[33]⟩ : ByteArray)) : Made (runG C (m + 1) .signed) p d M q k kd := h.eq (signed_eq h1 h2)
theorem made_value {m : Nat} (hd : d < 60) (h : Made (runG C m (.joined 1)) p (d + 1) M q k kd) : Made (runG C (m + 1) .value) p d M q k kd := by
  obtain ⟨X, y, h1, h2, h3⟩ := h
  refine ⟨X, y, h1, h2, ?_⟩
  show bnd enterP (fun _ => bnd (runG C m (.joined 1)) fun n => bnd leaveP fun _ => ret n) _ = _
  rw [bnd_go (a := ()) (t := ⟨p, d + 1, 0, M⟩) (by show PR.ok () (⟨p, d + 1, if d = 60 then 6 else 0, M⟩ : PS) = _; rw [if_neg (by omega)]), bnd_go h3]
  rfl
theorem bad_value {m e : Nat} (h : Bad e (runG C m (.joined 1)) ⟨p, d + 1, if d = 60 then 6 else o, M⟩) : Bad e (runG C (m + 1) .value) ⟨p, d, o, M⟩ := by
  have : Bad e (bnd enterP (fun _ => bnd (runG C m (.joined 1)) fun n => bnd leaveP fun _ => ret n)) ⟨p, d, o, M⟩ := bad_then (a := ()) rfl (bad_bnd h)
  exact this
theorem ask_stop {value : PM Nat} {n : Nat} (hl : 0 < C.toks.length) (hs : Stop C q) : ∀ k, 0 < k → askL C value f k n ⟨q, d, o, M⟩ = .ok n ⟨q, d, o, M⟩ := by
  intro k hk
  obtain ⟨j, rfl⟩ : ∃ j, k = j + 1 := ⟨k - 1, by omega⟩
  unfold askL
  rw [bnd_go (take_no hs.guard), if_neg (by simp), bnd_go (take_no hs.index), if_neg (by simp), bnd_go (take_no hs.point), if_neg (by simp)]; rfl
theorem asked_stop {value : PM Nat} (hl : 0 < C.toks.length) (h : Made (firstP C value) p d M q k kd) (hs : Stop C q) : Made (askedP C value) p d M q k kd := by
  obtain ⟨X, y, h1, h2, h3⟩ := h
  refine ⟨X, y, h1, h2, ?_⟩
  show bnd (firstP C value) (fun n => askL C value _ C.toks.length n) _ = _
  rw [bnd_go h3, ask_stop hl hs _ hl]
theorem bad_asked {value : PM Nat} {e : Nat} (h : Bad e (firstP C value) s) : Bad e (askedP C value) s := by
  have : Bad e (bnd (firstP C value) (fun n => askL C value (fromS C s) C.toks.length n)) s := bad_bnd h
  exact this
theorem bad_signed {m e : Nat} (h1 : C.word s.next ≠ (⟨#[45]⟩ : ByteArray)) (h2 : C.word s.next ≠ (⟨#[33]⟩ : ByteArray)) (h : Bad e (askedP C (runG C m .value)) s) : Bad e (runG C (m + 1) .signed) s := h.eq (signed_eq h1 h2)
def firstW : List ByteArray := [⟨#[40]⟩, ⟨#[116, 114, 117, 101]⟩, ⟨#[102, 97, 108, 115, 101]⟩, ⟨#[110, 117, 108, 108]⟩, ⟨#[110, 111, 110, 101]⟩, ⟨#[116, 104, 105, 115]⟩, ⟨#[115, 111, 109, 101]⟩, ⟨#[97, 115, 107]⟩, ⟨#[116, 111, 105, 110, 116]⟩, ⟨#[116, 111, 100, 111, 117, 98, 108, 101]⟩, ⟨#[105, 110, 112, 117, 116]⟩, ⟨#[99, 97, 115, 116]⟩, ⟨#[110, 101, 119]⟩]
theorem first_var_eq {value : PM Nat} (hw : ∀ z ∈ firstW, C.word s.next ≠ z) (hk : (C.tok s.next).1 ≠ 2 ∧ (C.tok s.next).1 ≠ 3 ∧ (C.tok s.next).1 ≠ 4) : firstP C value s = bnd (nameP C) (fun t => makeP C (nd 25 t []) (fromS C s)) s := by
  unfold firstW at hw
  simp only [List.mem_cons, List.not_mem_nil, or_false, forall_eq_or_imp, forall_eq] at hw
  obtain ⟨a0, a1, a2, a3, a4, a5, a6, a7, a8, a9, a10, a11, a12⟩ := hw
  have e : wordS C 0 s = C.word s.next := rfl
  show (if kindS C s = 2 ∨ kindS C s = 3 ∨ kindS C s = 4 then literalP C else look (wordS C 0) _) s = _
  rw [if_neg (by intro e; rcases e with e | e | e; exact hk.1 e; exact hk.2.1 e; exact hk.2.2 e)]
  unfold look
  simp only [e]
  rw [if_neg a0, if_neg (by simp [a1, a2, a3, a4, a5]), if_neg (by simp [a6, a7, a8, a9]), if_neg a10, if_neg a11, if_neg a12]
theorem first_var {value : PM Nat} (h : Tk C p 1 x) (hp : p + 1 ≠ 0) (hw : ∀ z ∈ firstW, x ≠ z) (hn : C.name x = true) (hx : x.size ≤ 65536) (hM : M.length < 8192) : Made (firstP C value) p d M (p + 1) 1 25 := by
  obtain ⟨y, h1, h2⟩ := make_go (C := C) (f := fromS C ⟨p, d, 0, M⟩) (d := d) (M := M) (n := nd 25 x []) hp (good_of 25 (by simp) hx) hM
  refine ⟨[], y, rfl, h1, ?_⟩
  rw [first_var_eq (by rw [h.word]; exact hw) (by rw [h.kind]; decide), bnd_go (name_go h hn), h2]; simp
theorem first_lit_eq {value : PM Nat} (hk : (C.tok s.next).1 = 2) : firstP C value s = literalP C s := by
  show (if kindS C s = 2 ∨ kindS C s = 3 ∨ kindS C s = 4 then literalP C else look (wordS C 0) _) s = _
  rw [if_pos (.inl hk)]
theorem lit_eq (hk : (C.tok s.next).1 = 2) : literalP C s = bnd (readP C) (fun x => bnd (makeP C (litN C 2 x).1 (fromS C s)) fun i => if (litN C 2 x).2 = 0 then ret i else thr (litN C 2 x).2 (fromS C s)) s := by
  show bnd (readP C) (fun x => bnd (makeP C (litN C (kindS C s) x).1 (fromS C s)) fun i => if (litN C (kindS C s) x).2 = 0 then ret i else thr (litN C (kindS C s) x).2 (fromS C s)) s = _
  rw [show kindS C s = 2 from hk]
theorem first_lit {value : PM Nat} (h : Tk C p 2 x) (hi : (C.int x).2 = 0) (hM : M.length < 8192) : Made (firstP C value) p d M (p + 1) 1 19 := by
  have hg : goodN (litN C 2 x).1 = true := by unfold litN; rw [if_pos rfl]; rfl
  have h0 : (litN C 2 x).2 = 0 := by unfold litN; rw [if_pos rfl]; exact hi
  have hkd : (litN C 2 x).1.kind = 19 := by unfold litN; rw [if_pos rfl]; rfl
  obtain ⟨y, h1, h2⟩ := make_go (C := C) (p := p + 1) (f := fromS C ⟨p, d, 0, M⟩) (d := d) (M := M) (n := (litN C 2 x).1) (by omega) hg hM
  refine ⟨[], y, rfl, by rw [h1, hkd], ?_⟩
  rw [first_lit_eq h.kind, lit_eq h.kind, bnd_go (read_go h), bnd_go h2, if_pos h0]
  unfold ret; simp
theorem full_first_lit {value : PM Nat} (h : Tk C p 2 x) (hM : M.length = 8192) : Bad 2 (firstP C value) ⟨p, d, 0, M⟩ := by
  have hg : goodN (litN C 2 x).1 = true := by unfold litN; rw [if_pos rfl]; rfl
  refine Bad.eq ?_ ((first_lit_eq h.kind).trans (lit_eq h.kind))
  exact bad_then (read_go h) (bad_bnd (make_full (by omega) hg hM))
theorem over_first_lit {value : PM Nat} (ho : o ≠ 0) (h : Tk C p 2 x) : Bad o (firstP C value) ⟨p, d, o, M⟩ := Bad.eq (bad_bnd (read_over ho h)) ((first_lit_eq h.kind).trans (lit_eq h.kind))
end
end Go.Proofs.YtidannabjhbjpaaGreatDoor
namespace Go.Proofs.YtidannabjhbjpaaGreatDoor
section
variable {α β : Type} {C : PC} {p q d o k c f m e : Nat} {kd : Int} {M : List Nd} {x y : ByteArray} {s t : PS}
theorem cap_go {l : List Nat} (h : l.length ≤ 90000) : capP l s = .ok () s := by unfold capP; rw [if_pos h]
theorem enter_go (hd : d < 60) : enterP ⟨p, d, 0, M⟩ = .ok () ⟨p, d + 1, 0, M⟩ := by
  show PR.ok () (⟨p, d + 1, if d = 60 then 6 else 0, M⟩ : PS) = _
  rw [if_neg (by omega)]
theorem leave_go : leaveP ⟨p, d + 1, 0, M⟩ = .ok () ⟨p, d, 0, M⟩ := rfl
theorem stat_stop {stat : PM Nat} {l : List Nat} {k : Nat} (hk : 0 < k) (hl : l.length ≤ 90000) (h : Tk C p 5 (⟨#[125]⟩ : ByteArray)) : statL C stat k l ⟨p, d, 0, M⟩ = .ok l ⟨p + 1, d, 0, M⟩ := by
  obtain ⟨j, rfl⟩ : ∃ j, k = j + 1 := ⟨k - 1, by omega⟩
  unfold statL
  rw [bnd_go (cap_go hl), bnd_go (take_yes h), if_pos rfl]; rfl
theorem block_eq : runG C (m + 1) .block s = bnd enterP (fun _ => bnd (wantP C (⟨#[123]⟩ : ByteArray)) fun _ => bnd (statL C (statP C (runG C m .value) (runG C m .block)) C.toks.length []) fun l => bnd leaveP fun _ => makeP C (nd 8 ⟨#[]⟩ l) (fromS C s)) s := rfl
theorem block_none (hd : d < 60) (h : Tk C p 5 (⟨#[123]⟩ : ByteArray)) (h2 : Tk C (p + 1) 5 (⟨#[125]⟩ : ByteArray)) (hM : M.length < 8192) : Made (runG C (m + 1) .block) p d M (p + 2) 1 8 := by
  obtain ⟨y, h3, h4⟩ := make_go (C := C) (p := p + 2) (f := fromS C ⟨p, d, 0, M⟩) (d := d) (M := M) (n := nd 8 ⟨#[]⟩ []) (by omega) (good_of 8 (by simp) (by decide)) hM
  refine ⟨[], y, rfl, h3, ?_⟩
  have := h2.in_
  rw [block_eq, bnd_go (enter_go hd), bnd_go (want_go h), bnd_go (stat_stop (by omega) (by simp) h2), bnd_go leave_go, h4]; simp
theorem block_one (hd : d < 60) (h : Tk C p 5 (⟨#[123]⟩ : ByteArray)) (hw : C.word (p + 1) ≠ (⟨#[125]⟩ : ByteArray)) (hst : Made (statP C (runG C m .value) (runG C m .block)) (p + 1) (d + 1) M q k kd) (h2 : Tk C q 5 (⟨#[125]⟩ : ByteArray)) (hpq : p < q) (hM : M.length + k < 8192) : Made (runG C (m + 1) .block) p d M (q + 1) (k + 1) 8 := by
  obtain ⟨X, z, h5, h6, h7⟩ := hst
  obtain ⟨y, h3, h4⟩ := made_make (C := C) (p := q + 1) (f := fromS C ⟨p, d, 0, M⟩) (d := d) (M := M) (X := X ++ [z]) (n := nd 8 ⟨#[]⟩ [M.length + X.length]) (by omega) (good_of 8 (by simp) (by decide)) (by simp; omega)
  refine ⟨X ++ [z], y, by simp; omega, h3, ?_⟩
  have := h2.in_
  obtain ⟨j, hj⟩ : ∃ j, C.toks.length = j + 2 := ⟨C.toks.length - 2, by omega⟩
  have hs : statL C (statP C (runG C m .value) (runG C m .block)) C.toks.length [] ⟨p + 1, d + 1, 0, M⟩ = .ok [M.length + X.length] ⟨q + 1, d + 1, 0, M ++ X ++ [z]⟩ := by
    rw [hj]
    unfold statL
    rw [bnd_go (cap_go (by simp)), bnd_go (take_no hw), if_neg (by simp), bnd_go h7, stat_stop (by omega) (by simp) h2]; rfl
  rw [block_eq, bnd_go (enter_go hd), bnd_go (want_go h), bnd_go hs, bnd_go leave_go]
  rw [List.append_assoc] at h4 ⊢
  rw [h4]; simp
theorem bad_block (hd : d < 60) (h : Tk C p 5 (⟨#[123]⟩ : ByteArray)) (hw : C.word (p + 1) ≠ (⟨#[125]⟩ : ByteArray)) (hst : Bad e (statP C (runG C m .value) (runG C m .block)) ⟨p + 1, d + 1, 0, M⟩) : Bad e (runG C (m + 1) .block) ⟨p, d, 0, M⟩ := by
  have := h.in_
  obtain ⟨j, hj⟩ : ∃ j, C.toks.length = j + 1 := ⟨C.toks.length - 1, by omega⟩
  have hs : Bad e (statL C (statP C (runG C m .value) (runG C m .block)) C.toks.length []) ⟨p + 1, d + 1, 0, M⟩ := by
    rw [hj]
    unfold statL
    refine bad_then (cap_go (by simp)) (bad_then (take_no hw) ?_)
    rw [if_neg (by simp)]
    exact bad_bnd hst
  exact Bad.eq (bad_then (enter_go hd) (bad_then (want_go h) (bad_bnd hs))) block_eq
def statW : List ByteArray := [⟨#[123]⟩, ⟨#[105, 102]⟩, ⟨#[119, 104, 105, 108, 101]⟩, ⟨#[98, 114, 101, 97, 107]⟩, ⟨#[99, 111, 110, 116, 105, 110, 117, 101]⟩, ⟨#[114, 101, 116, 117, 114, 110]⟩, ⟨#[112, 114, 105, 110, 116]⟩, ⟨#[115, 117, 112, 101, 114]⟩]
theorem stat_valued_eq {value block : PM Nat} (hw : ∀ z ∈ statW, C.word s.next ≠ z) (hd : declares C s = false) : statP C value block s = valuedP C value s := by
  unfold statW at hw
  simp only [List.mem_cons, List.not_mem_nil, or_false, forall_eq_or_imp, forall_eq] at hw
  obtain ⟨a0, a1, a2, a3, a4, a5, a6, a7⟩ := hw
  have e : wordS C 0 s = C.word s.next := rfl
  unfold statP look
  simp only [e]
  rw [if_neg a0, if_neg a1, if_neg a2, if_neg a3, if_neg a4, if_neg a5, if_neg a6, if_neg a7]
  show (if declares C s = true then _ else valuedP C value) s = _
  rw [hd, if_neg (by simp)]
theorem stat_block_eq {value block : PM Nat} (hw : C.word s.next = (⟨#[123]⟩ : ByteArray)) : statP C value block s = block s := by
  have e : wordS C 0 s = C.word s.next := rfl
  unfold statP look
  simp only [e]
  rw [if_pos hw]
theorem assign_go {value : PM Nat} (ha : Made value p d M (p + 1) 1 25) (h1 : Tk C (p + 1) 5 (⟨#[61]⟩ : ByteArray)) (hv : ∀ y : Nd, ∃ kd, Made value (p + 2) d (M ++ [y]) q k kd) (h2 : Tk C q 5 (⟨#[59]⟩ : ByteArray)) (hM : M.length + 1 + k < 8192) : Made (valuedP C value) p d M (q + 1) (k + 2) 10 := by
  obtain ⟨X, z, h5, h6, h7⟩ := ha
  obtain rfl : X = [] := by cases X with | nil => rfl | cons a X => simp at h5
  simp only [List.append_nil, List.length_nil, Nat.add_zero] at h7
  obtain ⟨kd, Y, u, h8, h9, h10⟩ := hv z
  obtain ⟨y, h3, h4⟩ := made_make (C := C) (p := q + 1) (f := fromS C ⟨p, d, 0, M⟩) (d := d) (M := M) (X := z :: (Y ++ [u])) (n := nd 10 ⟨#[]⟩ [M.length, M.length + 1 + Y.length]) (by omega) (good_of 10 (by simp) (by decide)) (by simp; omega)
  refine ⟨z :: (Y ++ [u]), y, by simp; omega, h3, ?_⟩
  have hk : kindAt M.length ⟨p + 1, d, 0, M ++ [z]⟩ = 25 := by
    unfold kindAt
    simp only [List.getElem?_append_right (Nat.le_refl _), Nat.sub_self, List.getElem?_cons_zero]
    exact h6
  show bnd value (fun a => look (kindAt a) fun k => look (sees C _) fun b => _) _ = _
  rw [bnd_go h7]
  unfold look
  rw [hk]
  simp only [sees_yes h1.word, if_pos, true_or]
  have hlen : (M ++ [z]).length = M.length + 1 := by simp
  rw [hlen] at h10
  rw [bnd_go (want_go h1), bnd_go h10, bnd_go (want_go h2)]
  have hap : M ++ [z] ++ Y ++ [u] = M ++ z :: (Y ++ [u]) := by simp
  rw [hap, h4]
theorem bad_assign {value : PM Nat} (ha : Made value p d M (p + 1) 1 25) (h1 : Tk C (p + 1) 5 (⟨#[61]⟩ : ByteArray)) (hv : ∀ y : Nd, Bad e value ⟨p + 2, d, 0, M ++ [y]⟩) : Bad e (valuedP C value) ⟨p, d, 0, M⟩ := by
  obtain ⟨X, z, h5, h6, h7⟩ := ha
  obtain rfl : X = [] := by cases X with | nil => rfl | cons a X => simp at h5
  simp only [List.append_nil, List.length_nil, Nat.add_zero] at h7
  obtain ⟨w, hb⟩ := hv z
  refine ⟨w, ?_⟩
  have hk : kindAt M.length ⟨p + 1, d, 0, M ++ [z]⟩ = 25 := by
    unfold kindAt
    simp only [List.getElem?_append_right (Nat.le_refl _), Nat.sub_self, List.getElem?_cons_zero]
    exact h6
  show bnd value (fun a => look (kindAt a) fun k => look (sees C _) fun b => _) _ = _
  rw [bnd_go h7]
  unfold look
  rw [hk]
  simp only [sees_yes h1.word, if_pos, true_or]
  rw [bnd_go (want_go h1)]
  unfold bnd
  rw [hb]
end
end Go.Proofs.YtidannabjhbjpaaGreatDoor
namespace Go.Proofs.YtidannabjhbjpaaGreatDoor
section
variable {α β : Type} {C : PC} {p q d o k c f m e : Nat} {kd : Int} {M : List Nd} {x y : ByteArray} {s t : PS}
def intNd (f e : Nat) : Nd := ⟨0, 0, 0, [], ⟨#[]⟩, 1, ⟨#[]⟩, 0, ⟨#[32]⟩, 0, f, e, [(e : Int)]⟩
theorem typed_int (h : Tk C p 1 (⟨#[105, 110, 116]⟩ : ByteArray)) (h1 : C.word (p + 1) ≠ (⟨#[63]⟩ : ByteArray)) (h2 : C.word (p + 1) ≠ (⟨#[91]⟩ : ByteArray)) : ∃ f e, typedP C ⟨p, d, 0, M⟩ = .ok (intNd f e) ⟨p + 1, d, 0, M⟩ := by
  have := h.in_
  obtain ⟨j, hj⟩ : ∃ j, C.toks.length = j + 1 := ⟨C.toks.length - 1, by omega⟩
  refine ⟨fromS C ⟨p, d, 0, M⟩, endS C ⟨p + 1, d, 0, M⟩, ?_⟩
  have hn : C.word p ≠ (⟨#[79, 112, 116, 105, 111, 110]⟩ : ByteArray) := by rw [h.word]; decide
  show bnd (takeP C _) (fun b => _) _ = _
  rw [bnd_go (take_no hn), if_neg (by simp)]
  have hk : kindT (C.word p) = 1 := by rw [h.word]; decide
  have hb : baseP C (kindT (C.word p)) ⟨p, d, 0, M⟩ = .ok ⟨0, 0, 0, [], ⟨#[]⟩, 1, ⟨#[]⟩, 0, ⟨#[32]⟩, 0, 0, 0, [(endS C ⟨p + 1, d, 0, M⟩ : Int)]⟩ ⟨p + 1, d, 0, M⟩ := by
    rw [hk]
    unfold baseP
    rw [if_neg (by decide)]
    have : bnd (readP C) (fun _ => (ret ⟨#[]⟩ : PM ByteArray)) ⟨p, d, 0, M⟩ = .ok ⟨#[]⟩ ⟨p + 1, d, 0, M⟩ := by rw [bnd_go (read_go h)]; rfl
    rw [bnd_go this]; rfl
  show bnd (baseP C (kindT (C.word p))) (fun n => innerL C false _ C.toks.length n) _ = _
  rw [bnd_go hb, hj]
  unfold innerL
  have e0 : wordS C 0 ⟨p + 1, d, 0, M⟩ = C.word (p + 1) := rfl
  have e1 : wordS C 1 ⟨p + 1, d, 0, M⟩ = C.word (p + 2) := rfl
  unfold look
  simp only [e0, e1]
  rw [if_neg h1, if_neg (by intro e; exact h2 e.1)]; rfl
theorem over_typed (ho : o ≠ 0) (h : Tk C p 1 (⟨#[105, 110, 116]⟩ : ByteArray)) : Bad o (typedP C) ⟨p, d, o, M⟩ := by
  have hn : C.word p ≠ (⟨#[79, 112, 116, 105, 111, 110]⟩ : ByteArray) := by rw [h.word]; decide
  have hk : kindT (C.word p) = 1 := by rw [h.word]; decide
  have hb : Bad o (bnd (baseP C (kindT (C.word p))) (fun n => innerL C false (fromS C ⟨p, d, o, M⟩) C.toks.length n)) ⟨p, d, o, M⟩ := by
    rw [hk]
    refine bad_bnd ?_
    unfold baseP
    rw [if_neg (by decide)]
    exact bad_bnd (bad_bnd (read_over ho h))
  have : Bad o (bnd (takeP C (⟨#[79, 112, 116, 105, 111, 110]⟩ : ByteArray)) (fun b => if b = true then
    bnd (wantP C (⟨#[60]⟩ : ByteArray)) fun _ => bnd (innerP C false) fun n => bnd (wantP C (⟨#[62]⟩ : ByteArray)) fun _ =>
    if typeB n = false then stop else if freeB n = false then thr 5 (fromS C ⟨p, d, o, M⟩) else look (endS C) fun e => ret { markT n 111 with wf := fromS C ⟨p, d, o, M⟩, wt := e }
  else innerP C false)) ⟨p, d, o, M⟩ := by
    refine bad_then (take_no hn) ?_
    rw [if_neg (by simp)]
    exact hb
  exact this
theorem good_int (kd : Int) (f e : Nat) (l : List Int) (x : ByteArray) (hl : l.length ≤ 100000) (hx : x.size ≤ 65536) : goodN { intNd f e with text := x, kind := kd, kids := l } = true := by
  unfold goodN intNd
  refine decide_eq_true ⟨hl, hx, by show (0 : Nat) ≤ _; omega, by show (1 : Nat) ≤ _; omega, by show (1 : Nat) ≤ _; omega⟩
theorem good_int0 (kd : Int) (f e : Nat) (x : ByteArray) (hx : x.size ≤ 65536) : goodN { intNd f e with text := x, kind := kd } = true := good_int kd f e [] x (by simp) hx
theorem param_go (h : Tk C p 1 (⟨#[105, 110, 116]⟩ : ByteArray)) (h1 : Tk C (p + 1) 1 x) (hn : C.name x = true) (hx : x.size ≤ 65536) (q1 : x ≠ (⟨#[63]⟩ : ByteArray)) (q2 : x ≠ (⟨#[91]⟩ : ByteArray)) (hM : M.length < 8192) : Made (paramP C) p d M (p + 2) 1 7 := by
  obtain ⟨f, e, ht⟩ := typed_int (d := d) (M := M) h (by rw [h1.word]; exact q1) (by rw [h1.word]; exact q2)
  obtain ⟨y, h3, h4⟩ := make_go (C := C) (p := p + 2) (f := fromS C ⟨p, d, 0, M⟩) (d := d) (M := M) (n := { intNd f e with kind := 7, text := x }) (by omega) (good_int0 7 f e x hx) hM
  refine ⟨[], y, rfl, h3, ?_⟩
  show bnd (typedP C) (fun n => bnd (nameP C) fun t => makeP C { n with kind := 7, text := t } _) _ = _
  rw [bnd_go ht, bnd_go (name_go h1 hn), h4]; simp
theorem over_param (ho : o ≠ 0) (h : Tk C p 1 (⟨#[105, 110, 116]⟩ : ByteArray)) : Bad o (paramP C) ⟨p, d, o, M⟩ := by
  have : Bad o (bnd (typedP C) (fun n => bnd (nameP C) fun t => makeP C { n with kind := 7, text := t } (fromS C ⟨p, d, o, M⟩))) ⟨p, d, o, M⟩ := bad_bnd (over_typed ho h)
  exact this
theorem answer_int (h : Tk C p 1 (⟨#[105, 110, 116]⟩ : ByteArray)) : answerP C ⟨p, d, o, M⟩ = typedP C ⟨p, d, o, M⟩ := by
  show (if sees C _ ⟨p, d, o, M⟩ = true then _ else typedP C) _ = _
  rw [if_neg (by rw [sees_no (by rw [h.word]; decide)]; simp)]
theorem member_eq {block : PM Nat} (h : Tk C p 1 (⟨#[105, 110, 116]⟩ : ByteArray)) : memberP C block ⟨p, d, o, M⟩ = bnd (answerP C) (fun n => bnd (nameP C) fun t => look (sees C (⟨#[40]⟩ : ByteArray)) fun b => if b = true then bodyP C block { n with text := t, kind := 6 } (fromS C ⟨p, d, o, M⟩)
  else if n.B = 6 then thr 80 (fromS C ⟨p, d, o, M⟩) else bnd (wantP C (⟨#[59]⟩ : ByteArray)) fun _ => makeP C { n with text := t, kind := 4 } (fromS C ⟨p, d, o, M⟩)) ⟨p, d, o, M⟩ := by
  show bnd (takeP C _) (fun b => _) _ = _
  rw [bnd_go (take_no (by rw [h.word]; decide)), if_neg (by simp)]
theorem field_go {block : PM Nat} (h : Tk C p 1 (⟨#[105, 110, 116]⟩ : ByteArray)) (h1 : Tk C (p + 1) 1 x) (hn : C.name x = true) (hx : x.size ≤ 65536) (q1 : x ≠ (⟨#[63]⟩ : ByteArray)) (q2 : x ≠ (⟨#[91]⟩ : ByteArray)) (h2 : Tk C (p + 2) 5 (⟨#[59]⟩ : ByteArray)) (hM : M.length < 8192) : Made (memberP C block) p d M (p + 3) 1 4 := by
  obtain ⟨f, e, ht⟩ := typed_int (d := d) (M := M) h (by rw [h1.word]; exact q1) (by rw [h1.word]; exact q2)
  obtain ⟨y, h3, h4⟩ := make_go (C := C) (p := p + 3) (f := fromS C ⟨p, d, 0, M⟩) (d := d) (M := M) (n := { intNd f e with text := x, kind := 4 }) (by omega) (good_int0 4 f e x hx) hM
  refine ⟨[], y, rfl, h3, ?_⟩
  rw [member_eq h, bnd_go ((answer_int h).trans ht), bnd_go (name_go h1 hn)]
  have e9 : sees C (⟨#[40]⟩ : ByteArray) ⟨p + 1 + 1, d, 0, M⟩ = false := sees_no (by rw [h2.word]; decide)
  have e8 : ¬ (intNd f e).B = 6 := by show ¬ ((1 : Int) = 6); decide
  unfold look
  simp only [e9, e8, if_false, Bool.false_eq_true]
  rw [bnd_go (want_go h2), h4]; simp
theorem over_member {block : PM Nat} (ho : o ≠ 0) (h : Tk C p 1 (⟨#[105, 110, 116]⟩ : ByteArray)) : Bad o (memberP C block) ⟨p, d, o, M⟩ :=
  Bad.eq (bad_bnd (Bad.eq (over_typed ho h) (answer_int h))) (member_eq h)
theorem method_go {block : PM Nat} {l : List Nat} {X : List Nd} {j : Nat} (h : Tk C p 1 (⟨#[105, 110, 116]⟩ : ByteArray)) (h1 : Tk C (p + 1) 1 x) (hn : C.name x = true) (hx : x.size ≤ 65536) (q1 : x ≠ (⟨#[63]⟩ : ByteArray)) (q2 : x ≠ (⟨#[91]⟩ : ByteArray)) (h2 : C.word (p + 2) = (⟨#[40]⟩ : ByteArray))
    (hp : listP C (paramP C) ⟨p + 2, d, 0, M⟩ = .ok l ⟨q, d, 0, M ++ X⟩) (hl : l.length ≤ 1000) (hb : Made block q d (M ++ X) c k kd) (hc : c ≠ 0) (hM : M.length + X.length + k < 8192) : Made (memberP C block) p d M c (X.length + k + 1) 6 := by
  obtain ⟨f, e, ht⟩ := typed_int (d := d) (M := M) h (by rw [h1.word]; exact q1) (by rw [h1.word]; exact q2)
  obtain ⟨Y, z, h5, h6, h7⟩ := hb
  obtain ⟨y, h3, h4⟩ := made_make (C := C) (p := c) (f := fromS C ⟨p, d, 0, M⟩) (d := d) (M := M) (X := X ++ Y ++ [z]) (n := { intNd f e with text := x, kind := 6, kids := (l ++ [(M ++ X).length + Y.length]).map Int.ofNat }) hc (good_int 6 f e _ x (by simp; omega) hx) (by simp; omega)
  refine ⟨X ++ Y ++ [z], y, by simp; omega, h3, ?_⟩
  rw [member_eq h, bnd_go ((answer_int h).trans ht), bnd_go (name_go h1 hn)]
  have e9 : sees C (⟨#[40]⟩ : ByteArray) ⟨p + 1 + 1, d, 0, M⟩ = true := sees_yes h2
  unfold look
  simp only [e9, if_true]
  unfold bodyP
  rw [bnd_go hp, bnd_go h7]
  have hap : M ++ X ++ Y ++ [z] = M ++ (X ++ Y ++ [z]) := by simp
  rw [hap, h4]
theorem bad_method {block : PM Nat} {l : List Nat} {X : List Nd} (h : Tk C p 1 (⟨#[105, 110, 116]⟩ : ByteArray)) (h1 : Tk C (p + 1) 1 x) (hn : C.name x = true) (q1 : x ≠ (⟨#[63]⟩ : ByteArray)) (q2 : x ≠ (⟨#[91]⟩ : ByteArray)) (h2 : C.word (p + 2) = (⟨#[40]⟩ : ByteArray))
    (hp : listP C (paramP C) ⟨p + 2, d, 0, M⟩ = .ok l ⟨q, d, 0, M ++ X⟩) (hb : Bad e block ⟨q, d, 0, M ++ X⟩) : Bad e (memberP C block) ⟨p, d, 0, M⟩ := by
  obtain ⟨f, e2, ht⟩ := typed_int (d := d) (M := M) h (by rw [h1.word]; exact q1) (by rw [h1.word]; exact q2)
  refine Bad.eq (bad_then ((answer_int h).trans ht) (bad_then (name_go h1 hn) ?_)) (member_eq h)
  have : Bad e (if sees C (⟨#[40]⟩ : ByteArray) ⟨p + 2, d, 0, M⟩ = true then bodyP C block { intNd f e2 with text := x, kind := 6 } (fromS C ⟨p, d, 0, M⟩) else if (intNd f e2).B = 6 then thr 80 (fromS C ⟨p, d, 0, M⟩) else bnd (wantP C (⟨#[59]⟩ : ByteArray)) fun _ => makeP C { intNd f e2 with text := x, kind := 4 } (fromS C ⟨p, d, 0, M⟩)) ⟨p + 2, d, 0, M⟩ := by
    rw [if_pos (sees_yes h2)]
    unfold bodyP
    exact bad_then hp (bad_bnd hb)
  exact this
theorem bad_method_params {block : PM Nat} (h : Tk C p 1 (⟨#[105, 110, 116]⟩ : ByteArray)) (h1 : Tk C (p + 1) 1 x) (hn : C.name x = true) (q1 : x ≠ (⟨#[63]⟩ : ByteArray)) (q2 : x ≠ (⟨#[91]⟩ : ByteArray)) (h2 : C.word (p + 2) = (⟨#[40]⟩ : ByteArray))
    (hp : Bad e (listP C (paramP C)) ⟨p + 2, d, 0, M⟩) : Bad e (memberP C block) ⟨p, d, 0, M⟩ := by
  obtain ⟨f, e2, ht⟩ := typed_int (d := d) (M := M) h (by rw [h1.word]; exact q1) (by rw [h1.word]; exact q2)
  refine Bad.eq (bad_then ((answer_int h).trans ht) (bad_then (name_go h1 hn) ?_)) (member_eq h)
  have : Bad e (if sees C (⟨#[40]⟩ : ByteArray) ⟨p + 2, d, 0, M⟩ = true then bodyP C block { intNd f e2 with text := x, kind := 6 } (fromS C ⟨p, d, 0, M⟩) else if (intNd f e2).B = 6 then thr 80 (fromS C ⟨p, d, 0, M⟩) else bnd (wantP C (⟨#[59]⟩ : ByteArray)) fun _ => makeP C { intNd f e2 with text := x, kind := 4 } (fromS C ⟨p, d, 0, M⟩)) ⟨p + 2, d, 0, M⟩ := by
    rw [if_pos (sees_yes h2)]
    unfold bodyP
    exact bad_bnd hp
  exact this
theorem list_none {one : PM Nat} (h : Tk C p 5 (⟨#[40]⟩ : ByteArray)) (h1 : Tk C (p + 1) 5 (⟨#[41]⟩ : ByteArray)) : listP C one ⟨p, d, 0, M⟩ = .ok [] ⟨p + 2, d, 0, M⟩ := by
  unfold listP
  rw [bnd_go (want_go h), bnd_go (take_yes h1), if_pos rfl]; rfl
theorem class_eq {block : PM Nat} (h : Tk C p 1 (⟨#[99, 108, 97, 115, 115]⟩ : ByteArray)) (h1 : Tk C (p + 1) 1 x) (hn : C.name x = true) (h2 : Tk C (p + 2) 5 (⟨#[123]⟩ : ByteArray)) : classP C block ⟨p, d, 0, M⟩ = bnd (memberL C (memberP C block) C.toks.length []) (fun l => makeP C (nd 2 x l) (fromS C ⟨p, d, 0, M⟩)) ⟨p + 3, d, 0, M⟩ := by
  show bnd (wantP C _) (fun _ => _) _ = _
  rw [bnd_go (want_go h), bnd_go (name_go h1 hn)]
  show bnd (if sees C _ ⟨p + 2, d, 0, M⟩ = true then _ else ret []) _ _ = _
  rw [if_neg (by rw [sees_no (by rw [h2.word]; decide)]; simp)]
  rw [bnd_go (m := ret []) (a := []) (t := ⟨p + 2, d, 0, M⟩) rfl, bnd_go (want_go h2)]
theorem members_stop {member : PM Nat} {l : List Nat} {k : Nat} (hk : 0 < k) (hl : l.length ≤ 90000) (h : Tk C p 5 (⟨#[125]⟩ : ByteArray)) : memberL C member k l ⟨p, d, 0, M⟩ = .ok l ⟨p + 1, d, 0, M⟩ := by
  obtain ⟨j, rfl⟩ : ∃ j, k = j + 1 := ⟨k - 1, by omega⟩
  unfold memberL
  rw [bnd_go (cap_go hl), bnd_go (take_yes h), if_pos rfl]; rfl
theorem class_go {block : PM Nat} {l : List Nat} {X : List Nd} (h : Tk C p 1 (⟨#[99, 108, 97, 115, 115]⟩ : ByteArray)) (h1 : Tk C (p + 1) 1 x) (hn : C.name x = true) (hx : x.size ≤ 65536) (h2 : Tk C (p + 2) 5 (⟨#[123]⟩ : ByteArray))
    (hm : memberL C (memberP C block) C.toks.length [] ⟨p + 3, d, 0, M⟩ = .ok l ⟨q, d, 0, M ++ X⟩) (hl : l.length ≤ 1000) (hq : q ≠ 0) (hM : M.length + X.length < 8192) : Made (classP C block) p d M q (X.length + 1) 2 := by
  obtain ⟨y, h3, h4⟩ := made_make (C := C) (p := q) (f := fromS C ⟨p, d, 0, M⟩) (d := d) (M := M) (X := X) (n := nd 2 x l) hq (good_of 2 (by omega) hx) hM
  exact ⟨X, y, rfl, h3, by rw [class_eq h h1 hn h2, bnd_go hm, h4]⟩
theorem bad_class {block : PM Nat} (h : Tk C p 1 (⟨#[99, 108, 97, 115, 115]⟩ : ByteArray)) (h1 : Tk C (p + 1) 1 x) (hn : C.name x = true) (h2 : Tk C (p + 2) 5 (⟨#[123]⟩ : ByteArray)) (hm : Bad e (memberL C (memberP C block) C.toks.length []) ⟨p + 3, d, 0, M⟩) : Bad e (classP C block) ⟨p, d, 0, M⟩ := by
  obtain ⟨z, hz⟩ := hm
  refine ⟨z, ?_⟩
  rw [class_eq h h1 hn h2]
  unfold bnd
  rw [hz]
theorem over_class {block : PM Nat} (ho : o ≠ 0) (h : Tk C p 1 (⟨#[99, 108, 97, 115, 115]⟩ : ByteArray)) : Bad o (classP C block) ⟨p, d, o, M⟩ := by
  obtain ⟨z, e⟩ := want_over (d := d) (M := M) ho h
  refine ⟨z, ?_⟩
  show bnd (wantP C _) (fun _ => _) _ = _
  unfold bnd
  rw [e]
theorem members_one {member : PM Nat} (hw : C.word p ≠ (⟨#[125]⟩ : ByteArray)) (hm : Made member p d M q k kd) (h2 : Tk C q 5 (⟨#[125]⟩ : ByteArray)) (hpq : p < q) : ∃ l X, l.length = 1 ∧ X.length = k ∧ memberL C member C.toks.length [] ⟨p, d, 0, M⟩ = .ok l ⟨q + 1, d, 0, M ++ X⟩ := by
  obtain ⟨X, z, h5, h6, h7⟩ := hm
  have := h2.in_
  obtain ⟨j, hj⟩ : ∃ j, C.toks.length = j + 2 := ⟨C.toks.length - 2, by omega⟩
  refine ⟨[M.length + X.length], X ++ [z], rfl, by simp; omega, ?_⟩
  rw [hj]
  unfold memberL
  rw [bnd_go (cap_go (by simp)), bnd_go (take_no hw), if_neg (by simp), bnd_go (m := moreP _) (a := ()) (t := ⟨p, d, 0, M⟩) rfl, bnd_go h7, members_stop (by omega) (by simp) h2]; simp
theorem bad_members {member : PM Nat} (hl : 0 < C.toks.length) (hw : C.word p ≠ (⟨#[125]⟩ : ByteArray)) (hm : Bad e member ⟨p, d, 0, M⟩) : Bad e (memberL C member C.toks.length []) ⟨p, d, 0, M⟩ := by
  obtain ⟨j, hj⟩ : ∃ j, C.toks.length = j + 1 := ⟨C.toks.length - 1, by omega⟩
  rw [hj]
  unfold memberL
  refine bad_then (cap_go (by simp)) (bad_then (take_no hw) ?_)
  rw [if_neg (by simp)]
  exact bad_then (a := ()) (t := ⟨p, d, 0, M⟩) rfl (bad_bnd hm)
theorem prog_one {block : PM Nat} (h0 : (C.tok 0).1 ≠ 0) (hc : Made (classP C block) 0 0 [] q k kd) (hq : q ≠ 0) (h1 : (C.tok q).1 = 0) (hl : 2 ≤ C.toks.length) (hM : k < 8192) : ∃ X, programP C block ⟨0, 0, 0, []⟩ = .ok () ⟨q, 0, 0, X⟩ := by
  obtain ⟨X, z, h5, h6, h7⟩ := hc
  obtain ⟨y, h3, h4⟩ := make_go (C := C) (p := q) (f := fromS C ⟨0, 0, 0, []⟩) (d := 0) (M := X ++ [z]) (n := nd 1 ⟨#[]⟩ [X.length]) hq (good_of 1 (by simp) (by decide)) (by simp; omega)
  obtain ⟨j, hj⟩ : ∃ j, C.toks.length = j + 2 := ⟨C.toks.length - 2, by omega⟩
  refine ⟨X ++ [z] ++ [y], ?_⟩
  simp only [List.nil_append, List.length_nil, Nat.zero_add] at h7
  have e0 : kindS C ⟨0, 0, 0, []⟩ = (C.tok 0).1 := rfl
  have hcl : classL C (classP C block) C.toks.length [] ⟨0, 0, 0, []⟩ = .ok [X.length] ⟨q, 0, 0, X ++ [z]⟩ := by
    rw [hj]
    show bnd (capP []) (fun _ => look (kindS C) fun e => if e = 0 then ret [] else bnd (moreP 0) fun _ => bnd (classP C block) fun a => classL C (classP C block) (j + 1) ([] ++ [a])) _ = _
    rw [bnd_go (cap_go (by simp))]
    unfold look
    simp only [e0]
    rw [if_neg h0, bnd_go (m := moreP _) (a := ()) (t := ⟨0, 0, 0, []⟩) rfl, bnd_go h7]
    show bnd (capP _) (fun _ => look (kindS C) fun e => if e = 0 then ret _ else _) _ = _
    rw [bnd_go (cap_go (by simp))]
    have e1 : kindS C ⟨q, 0, 0, X ++ [z]⟩ = 0 := h1
    unfold look
    simp only [e1]
    rfl
  show bnd (classL C (classP C block) C.toks.length []) (fun l => _) _ = _
  rw [bnd_go hcl, if_neg (by simp), bnd_go h4]; rfl
theorem bad_prog {block : PM Nat} (h0 : (C.tok 0).1 ≠ 0) (hc : Bad e (classP C block) ⟨0, 0, 0, []⟩) (hl : 1 ≤ C.toks.length) : Bad e (programP C block) ⟨0, 0, 0, []⟩ := by
  obtain ⟨j, hj⟩ : ∃ j, C.toks.length = j + 1 := ⟨C.toks.length - 1, by omega⟩
  have e0 : kindS C ⟨0, 0, 0, []⟩ = (C.tok 0).1 := rfl
  have hcl : Bad e (classL C (classP C block) C.toks.length []) ⟨0, 0, 0, []⟩ := by
    rw [hj]
    have : Bad e (bnd (capP []) (fun _ => look (kindS C) fun e => if e = 0 then ret [] else bnd (moreP 0) fun _ => bnd (classP C block) fun a => classL C (classP C block) j ([] ++ [a]))) ⟨0, 0, 0, []⟩ := by
      refine bad_then (cap_go (by simp)) ?_
      unfold look
      obtain ⟨z, hz⟩ : Bad e (bnd (moreP 0) fun _ => bnd (classP C block) fun a => classL C (classP C block) j ([] ++ [a])) ⟨0, 0, 0, []⟩ := bad_then (a := ()) (t := ⟨0, 0, 0, []⟩) rfl (bad_bnd hc)
      exact ⟨z, by simp only [e0]; rw [if_neg h0]; exact hz⟩
    exact this
  have : Bad e (bnd (classL C (classP C block) C.toks.length []) (fun l => if l.length = 0 then fun s => .ok () { s with made := s.made ++ [nd 1 ⟨#[]⟩ []] } else bnd (makeP C (nd 1 ⟨#[]⟩ l) (fromS C ⟨0, 0, 0, []⟩)) fun _ => ret ())) ⟨0, 0, 0, []⟩ := bad_bnd hcl
  exact this
end
end Go.Proofs.YtidannabjhbjpaaGreatDoor
namespace Go.Proofs.YtidannabjhbjpaaGreatDoor
def Lies (C : PC) (W : List (Nat × ByteArray)) (p : Nat) : Prop := ∀ i (h : i < W.length), Tk C (p + i) W[i].1 W[i].2
section
variable {C : PC} {p q d o k c f m e n : Nat} {kd : Int} {M : List Nd} {x y : ByteArray} {W V : List (Nat × ByteArray)}
theorem Lies.left (h : Lies C (W ++ V) p) : Lies C W p := fun i hi => by
  have := h i (by simp; omega)
  rwa [List.getElem_append_left hi] at this
theorem Lies.right (h : Lies C (W ++ V) p) : Lies C V (p + W.length) := fun i hi => by
  have := h (W.length + i) (by simp; omega)
  rw [List.getElem_append_right (by omega)] at this
  simp only [Nat.add_sub_cancel_left] at this
  rwa [← Nat.add_assoc] at this
theorem Lies.at_ (h : Lies C W p) (i : Nat) (hi : i < W.length) : Tk C (p + i) W[i].1 W[i].2 := h i hi
theorem Tk.at_ (h : Tk C p k x) (e : p = q) : Tk C q k x := e ▸ h
theorem stop_of (h : C.word q = x) (h1 : bindsN x = 0) (h2 : x ≠ (⟨#[33]⟩ : ByteArray)) (h3 : x ≠ (⟨#[91]⟩ : ByteArray)) (h4 : x ≠ (⟨#[46]⟩ : ByteArray)) : Stop C q := ⟨by rw [h]; exact h1, by rw [h]; exact h2, by rw [h]; exact h3, by rw [h]; exact h4⟩
theorem stop_close (h : Tk C q k (⟨#[41]⟩ : ByteArray)) : Stop C q := stop_of h.word (by decide) (by decide) (by decide) (by decide)
theorem stop_semi (h : Tk C q k (⟨#[59]⟩ : ByteArray)) : Stop C q := stop_of h.word (by decide) (by decide) (by decide) (by decide)
theorem stop_set (h : Tk C q k (⟨#[61]⟩ : ByteArray)) : Stop C q := stop_of h.word (by decide) (by decide) (by decide) (by decide)
theorem stop_comma (h : Tk C q k (⟨#[44]⟩ : ByteArray)) : Stop C q := stop_of h.word (by decide) (by decide) (by decide) (by decide)
structure Nm (C : PC) (x : ByteArray) : Prop where
  first : ∀ z ∈ firstW, x ≠ z
  name : C.name x = true
  size : x.size ≤ 65536
  minus : x ≠ (⟨#[45]⟩ : ByteArray)
  not : x ≠ (⟨#[33]⟩ : ByteArray)
theorem name_asked {value : PM Nat} (hl : 0 < C.toks.length) (h : Tk C p 1 x) (hx : Nm C x) (hs : Stop C (p + 1)) (hM : M.length < 8192) : Made (askedP C value) p d M (p + 1) 1 25 := asked_stop hl (first_var h (by omega) hx.first hx.name hx.size hM) hs
theorem name_value (hl : 0 < C.toks.length) (h : Tk C p 1 x) (hx : Nm C x) (hs : Stop C (p + 1)) (hd : d < 60) (hM : M.length < 8192) (hm : 9 ≤ m) : Made (runG C m .value) p d M (p + 1) 1 25 := by
  obtain ⟨j, rfl⟩ : ∃ j, m = j + 1 + 7 + 1 := ⟨m - 9, by omega⟩
  exact made_value hd (up hl (made_asked (name_asked hl h hx hs hM) (by rw [h.word]; exact hx.minus) (by rw [h.word]; exact hx.not)) hs)
theorem blocks : ∀ (n p d : Nat) (M : List Nd) (m : Nat), n + 1 ≤ m → d + n < 60 → M.length + n < 8192 → (∀ i, i < n + 1 → Tk C (p + i) 5 (⟨#[123]⟩ : ByteArray)) → (∀ i, i < n + 1 → Tk C (p + n + 1 + i) 5 (⟨#[125]⟩ : ByteArray)) →
    Made (runG C m .block) p d M (p + n + 1 + n + 1) (n + 1) 8
  | 0, p, d, M, m, hm, hd, hM, h1, h2 => by
    obtain ⟨j, rfl⟩ : ∃ j, m = j + 1 := ⟨m - 1, by omega⟩
    exact block_none (by omega) (h1 0 (by omega)) (h2 0 (by omega)) (by omega)
  | n + 1, p, d, M, m, hm, hd, hM, h1, h2 => by
    obtain ⟨j, rfl⟩ : ∃ j, m = j + 1 := ⟨m - 1, by omega⟩
    have t0 : Tk C p 5 (⟨#[123]⟩ : ByteArray) := h1 0 (by omega)
    have t1 : Tk C (p + 1) 5 (⟨#[123]⟩ : ByteArray) := h1 1 (by omega)
    have IH := blocks n (p + 1) (d + 1) M j (by omega) (by omega) (by omega) (fun i hi => (h1 (i + 1) (by omega)).at_ (by omega)) (fun i hi => (h2 i (by omega)).at_ (by omega))
    have e1 : p + 1 + n + 1 + n + 1 = p + (n + 1) + 1 + (n + 1) := by omega
    rw [e1] at IH
    exact block_one (by omega) t0 (by rw [t1.word]; decide) (IH.eq (stat_block_eq t1.word)) (h2 (n + 1) (by omega)) (by omega) (by omega)
end
end Go.Proofs.YtidannabjhbjpaaGreatDoor
namespace Go.Proofs.YtidannabjhbjpaaGreatDoor
def shellW : List (Nat × ByteArray) := [(1, ⟨#[99, 108, 97, 115, 115]⟩), (1, ⟨#[65]⟩), (5, ⟨#[123]⟩), (1, ⟨#[105, 110, 116]⟩), (1, ⟨#[102]⟩), (5, ⟨#[40]⟩), (5, ⟨#[41]⟩)]
structure Nms (C : PC) : Prop where
  A : C.name (⟨#[65]⟩ : ByteArray) = true
  f : C.name (⟨#[102]⟩ : ByteArray) = true
  x : C.name (⟨#[120]⟩ : ByteArray) = true
  y : C.name (⟨#[121]⟩ : ByteArray) = true
  set : C.name (⟨#[61]⟩ : ByteArray) = false
  this : C.name (⟨#[116, 104, 105, 115]⟩ : ByteArray) = false
section
variable {C : PC} {p q d o k c f m e n : Nat} {kd : Int} {M : List Nd} {x y : ByteArray} {W V : List (Nat × ByteArray)}
theorem nm_x (h : Nms C) : Nm C (⟨#[120]⟩ : ByteArray) := ⟨by decide, h.x, by decide, by decide, by decide⟩
theorem shell_ok {block : PM Nat} (hN : Nms C) (h : Lies C shellW 0) (hb : Made block 7 0 [] q k 8) (hq : 7 < q) (h1 : Tk C q 5 (⟨#[125]⟩ : ByteArray)) (h2 : (C.tok (q + 1)).1 = 0) (hk : k + 3 ≤ 8192) : ∃ X, programP C block ⟨0, 0, 0, []⟩ = .ok () ⟨q + 1, 0, 0, X⟩ := by
  have t0 : Tk C 0 1 _ := h.at_ 0 (by decide)
  have t1 : Tk C 1 1 _ := (h.at_ 1 (by decide)).at_ (by omega)
  have t2 : Tk C 2 5 _ := (h.at_ 2 (by decide)).at_ (by omega)
  have t3 : Tk C 3 1 _ := (h.at_ 3 (by decide)).at_ (by omega)
  have t4 : Tk C 4 1 _ := (h.at_ 4 (by decide)).at_ (by omega)
  have t5 : Tk C 5 5 _ := (h.at_ 5 (by decide)).at_ (by omega)
  have t6 : Tk C 6 5 _ := (h.at_ 6 (by decide)).at_ (by omega)
  have hl : listP C (paramP C) ⟨3 + 2, 0, 0, []⟩ = .ok [] ⟨7, 0, 0, [] ++ []⟩ := list_none t5 t6
  have hm := method_go (M := []) (X := []) (j := 0) t3 t4 hN.f (by decide) (by decide) (by decide) t5.word hl (by simp) hb (by omega) (by simp; omega)
  obtain ⟨l, X, hl1, hX, hms⟩ := members_one (by rw [t3.word]; decide) hm h1 (by omega)
  have hX' : X.length = k + 1 := by simpa using hX
  have hc := class_go (M := []) t0 t1 hN.A (by decide) t2 hms (by omega) (by omega) (by simp; omega)
  exact prog_one (by rw [t0.kind]; decide) hc (by omega) h2 (by have := t0.in_; omega) (by omega)
theorem shell_bad {block : PM Nat} (hN : Nms C) (h : Lies C shellW 0) (hb : Bad e block ⟨7, 0, 0, []⟩) : Bad e (programP C block) ⟨0, 0, 0, []⟩ := by
  have t0 : Tk C 0 1 _ := h.at_ 0 (by decide)
  have t1 : Tk C 1 1 _ := (h.at_ 1 (by decide)).at_ (by omega)
  have t2 : Tk C 2 5 _ := (h.at_ 2 (by decide)).at_ (by omega)
  have t3 : Tk C 3 1 _ := (h.at_ 3 (by decide)).at_ (by omega)
  have t4 : Tk C 4 1 _ := (h.at_ 4 (by decide)).at_ (by omega)
  have t5 : Tk C 5 5 _ := (h.at_ 5 (by decide)).at_ (by omega)
  have t6 : Tk C 6 5 _ := (h.at_ 6 (by decide)).at_ (by omega)
  have hl : listP C (paramP C) ⟨3 + 2, 0, 0, []⟩ = .ok [] ⟨7, 0, 0, [] ++ []⟩ := list_none t5 t6
  have hm := bad_method (block := block) (M := []) (X := []) t3 t4 hN.f (by decide) (by decide) t5.word hl hb
  have hlen := t0.in_
  exact bad_prog (by rw [t0.kind]; decide) (bad_class t0 t1 hN.A t2 (bad_members (by omega) (by rw [t3.word]; decide) hm)) (by omega)
theorem set_ok (hN : Nms C) (h0 : Tk C p 5 (⟨#[123]⟩ : ByteArray)) (h1 : Tk C (p + 1) 1 (⟨#[120]⟩ : ByteArray)) (h2 : Tk C (p + 2) 5 (⟨#[61]⟩ : ByteArray)) (hv : ∀ y : Nd, ∃ kd, Made (runG C m .value) (p + 3) (d + 1) (M ++ [y]) q k kd) (h3 : Tk C q 5 (⟨#[59]⟩ : ByteArray)) (h4 : Tk C (q + 1) 5 (⟨#[125]⟩ : ByteArray)) (hpq : p < q) (hd : d < 59) (hm : 9 ≤ m) (hM : M.length + k + 3 < 8192) :
    Made (runG C (m + 1) .block) p d M (q + 2) (k + 3) 8 := by
  have hl := h0.in_
  have hx := name_value (d := d + 1) (M := M) (m := m) (by omega) h1 (nm_x hN) (stop_set h2) (by omega) (by omega) hm
  have ha := assign_go hx h2 hv h3 (by omega)
  have hw : C.word (p + 1) = _ := h1.word
  have hde : declares C ⟨p + 1, d + 1, 0, M⟩ = false := by
    have e0 : wordS C 0 ⟨p + 1, d + 1, 0, M⟩ = C.word (p + 1) := rfl
    have e1 : wordS C 1 ⟨p + 1, d + 1, 0, M⟩ = C.word (p + 2) := rfl
    unfold declares
    rw [e0, e1, hw, h2.word, hN.x, hN.set]
    simp
  have hs := ha.eq (stat_valued_eq (block := runG C m .block) (by show ∀ z ∈ statW, C.word (p + 1) ≠ z; rw [hw]; decide) hde)
  exact block_one (by omega) h0 (by rw [hw]; decide) hs h4 (by omega) (by omega)
theorem set_bad (hN : Nms C) (h0 : Tk C p 5 (⟨#[123]⟩ : ByteArray)) (h1 : Tk C (p + 1) 1 (⟨#[120]⟩ : ByteArray)) (h2 : Tk C (p + 2) 5 (⟨#[61]⟩ : ByteArray)) (hv : ∀ y : Nd, Bad e (runG C m .value) ⟨p + 3, d + 1, 0, M ++ [y]⟩) (hd : d < 59) (hm : 9 ≤ m) (hM : M.length < 8192) :
    Bad e (runG C (m + 1) .block) ⟨p, d, 0, M⟩ := by
  have hl := h0.in_
  have hx := name_value (d := d + 1) (M := M) (m := m) (by omega) h1 (nm_x hN) (stop_set h2) (by omega) (by omega) hm
  have ha := bad_assign hx h2 hv
  have hw : C.word (p + 1) = _ := h1.word
  have hde : declares C ⟨p + 1, d + 1, 0, M⟩ = false := by
    have e0 : wordS C 0 ⟨p + 1, d + 1, 0, M⟩ = C.word (p + 1) := rfl
    have e1 : wordS C 1 ⟨p + 1, d + 1, 0, M⟩ = C.word (p + 2) := rfl
    unfold declares
    rw [e0, e1, hw, h2.word, hN.x, hN.set]
    simp
  have hs := Bad.eq ha (stat_valued_eq (block := runG C m .block) (by show ∀ z ∈ statW, C.word (p + 1) ≠ z; rw [hw]; decide) hde)
  exact bad_block (by omega) h0 (by rw [hw]; decide) hs
end
end Go.Proofs.YtidannabjhbjpaaGreatDoor
namespace Go.Proofs.YtidannabjhbjpaaGreatDoor
section
variable {α β : Type} {C : PC} {p q d o k c f m e n : Nat} {kd : Int} {M : List Nd} {x y : ByteArray} {W V : List (Nat × ByteArray)} {s t : PS}
theorem more_go {h : Nat} (hh : h < 64) : moreP h ⟨p, d, 0, M⟩ = .ok () ⟨p, d, 0, M⟩ := by
  show PR.ok () (⟨p, d, if h = 64 then 2 else 0, M⟩ : PS) = _
  rw [if_neg (by omega)]
theorem more_full : moreP 64 ⟨p, d, 0, M⟩ = .ok () ⟨p, d, 2, M⟩ := rfl
theorem Made.one {m : PM Nat} (h : Made m p d M q 1 kd) : ∃ a y, m ⟨p, d, 0, M⟩ = .ok a ⟨q, d, 0, M ++ [y]⟩ := by
  obtain ⟨X, y, h1, h2, h3⟩ := h
  obtain rfl : X = [] := by cases X with | nil => rfl | cons a X => simp at h1
  exact ⟨M.length, y, by rw [h3]; simp⟩
theorem many_go {one : PM Nat} (w0 : Nat) (hw0 : 0 < w0) (kd : Int) : ∀ (r p : Nat) (M : List Nd) (k : Nat) (l : List Nat), r < k → l.length + r ≤ 64 → M.length + r ≤ 8191 →
    (∀ j, j < r → Tk C (p + j * (w0 + 1)) 5 (⟨#[44]⟩ : ByteArray)) → (∀ j, j < r → ∀ N : List Nd, N.length < 8192 → Made one (p + j * (w0 + 1) + 1) d N (p + j * (w0 + 1) + 1 + w0) 1 kd) → C.word (p + r * (w0 + 1)) ≠ (⟨#[44]⟩ : ByteArray) →
    ∃ l' X, l'.length = l.length + r ∧ X.length = r ∧ manyP C one k l ⟨p, d, 0, M⟩ = .ok l' ⟨p + r * (w0 + 1), d, 0, M ++ X⟩
  | 0, p, M, k, l, hk, hl, hM, h1, h2, h3 => by
    obtain ⟨k, rfl⟩ : ∃ j, k = j + 1 := ⟨k - 1, by omega⟩
    refine ⟨l, [], by simp, rfl, ?_⟩
    unfold manyP
    simp only [Nat.zero_mul, Nat.add_zero] at h3
    rw [bnd_go (cap_go (by omega)), bnd_go (take_no h3), if_neg (by simp)]
    show PR.ok _ _ = _
    simp
  | r + 1, p, M, k, l, hk, hl, hM, h1, h2, h3 => by
    obtain ⟨k, rfl⟩ : ∃ j, k = j + 1 := ⟨k - 1, by omega⟩
    have t0 : Tk C p 5 (⟨#[44]⟩ : ByteArray) := (h1 0 (by omega)).at_ (by omega)
    have m0 := h2 0 (by omega) M (by omega)
    simp only [Nat.zero_mul, Nat.add_zero] at m0
    obtain ⟨a, y, m1⟩ := m0.one
    have e : ∀ j, p + (j + 1) * (w0 + 1) = p + 1 + w0 + j * (w0 + 1) := fun j => by rw [Nat.add_mul]; omega
    obtain ⟨l', X, hl', hX, hm⟩ := many_go w0 hw0 kd r (p + 1 + w0) (M ++ [y]) k (l ++ [a]) (by omega) (by simp; omega) (by simp; omega) (fun j hj => (h1 (j + 1) (by omega)).at_ (e j)) (fun j hj N hN => by have := h2 (j + 1) (by omega) N hN; rwa [e j] at this) (by rw [← e r]; exact h3)
    refine ⟨l', y :: X, by rw [hl']; simp; omega, by simp [hX], ?_⟩
    unfold manyP
    rw [bnd_go (cap_go (by omega)), bnd_go (take_yes t0), if_pos rfl, bnd_go (more_go (by omega)), bnd_go m1, hm, e r]
    simp
theorem many_bad {one : PM Nat} (w0 : Nat) (hw0 : 0 < w0) (kd : Int) : ∀ (r p : Nat) (M : List Nd) (k : Nat) (l : List Nat), r < k → l.length + r = 64 → M.length + r ≤ 8191 →
    (∀ j, j ≤ r → Tk C (p + j * (w0 + 1)) 5 (⟨#[44]⟩ : ByteArray)) → (∀ j, j < r → ∀ N : List Nd, N.length < 8192 → Made one (p + j * (w0 + 1) + 1) d N (p + j * (w0 + 1) + 1 + w0) 1 kd) → (∀ N : List Nd, Bad 2 one ⟨p + r * (w0 + 1) + 1, d, 2, N⟩) →
    Bad 2 (manyP C one k l) ⟨p, d, 0, M⟩
  | 0, p, M, k, l, hk, hl, hM, h1, h2, h3 => by
    obtain ⟨k, rfl⟩ : ∃ j, k = j + 1 := ⟨k - 1, by omega⟩
    have t0 : Tk C p 5 (⟨#[44]⟩ : ByteArray) := (h1 0 (by omega)).at_ (by omega)
    have hl2 : l.length = 64 := by omega
    have h4 := h3 M
    simp only [Nat.zero_mul, Nat.add_zero] at h4
    unfold manyP
    refine bad_then (cap_go (by omega)) (bad_then (take_yes t0) ?_)
    rw [if_pos rfl, hl2]
    exact bad_then more_full (bad_bnd h4)
  | r + 1, p, M, k, l, hk, hl, hM, h1, h2, h3 => by
    obtain ⟨k, rfl⟩ : ∃ j, k = j + 1 := ⟨k - 1, by omega⟩
    have t0 : Tk C p 5 (⟨#[44]⟩ : ByteArray) := (h1 0 (by omega)).at_ (by omega)
    have m0 := h2 0 (by omega) M (by omega)
    simp only [Nat.zero_mul, Nat.add_zero] at m0
    obtain ⟨a, y, m1⟩ := m0.one
    have e : ∀ j, p + (j + 1) * (w0 + 1) = p + 1 + w0 + j * (w0 + 1) := fun j => by rw [Nat.add_mul]; omega
    have ih := many_bad w0 hw0 kd r (p + 1 + w0) (M ++ [y]) k (l ++ [a]) (by omega) (by simp; omega) (by simp; omega) (fun j hj => (h1 (j + 1) (by omega)).at_ (e j)) (fun j hj N hN => by have := h2 (j + 1) (by omega) N hN; rwa [e j] at this) (fun N => by have := h3 N; rwa [e r] at this)
    unfold manyP
    refine bad_then (cap_go (by omega)) (bad_then (take_yes t0) ?_)
    rw [if_pos rfl]
    exact bad_then (more_go (by omega)) (bad_then m1 ih)
theorem list_some {one : PM Nat} (w0 : Nat) (hw0 : 0 < w0) (kd : Int) (r : Nat) (hr : r + 1 ≤ 64) (h : Tk C p 5 (⟨#[40]⟩ : ByteArray)) (hw : C.word (p + 1) ≠ (⟨#[41]⟩ : ByteArray)) (hlen : r < C.toks.length) (hM : M.length + r + 1 ≤ 8191)
    (h1 : ∀ j, j < r → Tk C (p + 1 + w0 + j * (w0 + 1)) 5 (⟨#[44]⟩ : ByteArray)) (h2 : ∀ j, j ≤ r → ∀ N : List Nd, N.length < 8192 → Made one (p + 1 + j * (w0 + 1)) d N (p + 1 + j * (w0 + 1) + w0) 1 kd) (h3 : Tk C (p + 1 + w0 + r * (w0 + 1)) 5 (⟨#[41]⟩ : ByteArray)) :
    ∃ l X, l.length = r + 1 ∧ X.length = r + 1 ∧ listP C one ⟨p, d, 0, M⟩ = .ok l ⟨p + 1 + w0 + r * (w0 + 1) + 1, d, 0, M ++ X⟩ := by
  have m0 := h2 0 (by omega) M (by omega)
  simp only [Nat.zero_mul, Nat.add_zero] at m0
  obtain ⟨a, y, m1⟩ := m0.one
  obtain ⟨l, X, hl, hX, hm⟩ := many_go (C := C) (d := d) w0 hw0 kd r (p + 1 + w0) (M ++ [y]) C.toks.length [a] hlen (by simp; omega) (by simp; omega) h1 (fun j hj N hN => by
    have := h2 (j + 1) (by omega) N hN
    rwa [show p + 1 + (j + 1) * (w0 + 1) = p + 1 + w0 + j * (w0 + 1) + 1 by rw [Nat.add_mul]; omega] at this) (by rw [h3.word]; decide)
  refine ⟨l, y :: X, by rw [hl]; simp; omega, by simp [hX], ?_⟩
  unfold listP
  rw [bnd_go (want_go h), bnd_go (take_no hw), if_neg (by simp), bnd_go m1, bnd_go hm, bnd_go (want_go h3)]
  show PR.ok _ _ = _
  simp
theorem list_bad {one : PM Nat} (w0 : Nat) (hw0 : 0 < w0) (kd : Int) (h : Tk C p 5 (⟨#[40]⟩ : ByteArray)) (hw : C.word (p + 1) ≠ (⟨#[41]⟩ : ByteArray)) (hlen : 63 < C.toks.length) (hM : M.length + 64 ≤ 8191)
    (h1 : ∀ j, j ≤ 63 → Tk C (p + 1 + w0 + j * (w0 + 1)) 5 (⟨#[44]⟩ : ByteArray)) (h2 : ∀ j, j ≤ 63 → ∀ N : List Nd, N.length < 8192 → Made one (p + 1 + j * (w0 + 1)) d N (p + 1 + j * (w0 + 1) + w0) 1 kd) (h3 : ∀ N : List Nd, Bad 2 one ⟨p + 1 + 64 * (w0 + 1), d, 2, N⟩) :
    Bad 2 (listP C one) ⟨p, d, 0, M⟩ := by
  have m0 := h2 0 (by omega) M (by omega)
  simp only [Nat.zero_mul, Nat.add_zero] at m0
  obtain ⟨a, y, m1⟩ := m0.one
  have hb := many_bad (C := C) (d := d) w0 hw0 kd 63 (p + 1 + w0) (M ++ [y]) C.toks.length [a] hlen (by simp) (by simp; omega) h1 (fun j hj N hN => by
    have := h2 (j + 1) (by omega) N hN
    rwa [show p + 1 + (j + 1) * (w0 + 1) = p + 1 + w0 + j * (w0 + 1) + 1 by rw [Nat.add_mul]; omega] at this) (fun N => by
    have := h3 N
    rwa [show p + 1 + 64 * (w0 + 1) = p + 1 + w0 + 63 * (w0 + 1) + 1 by omega] at this)
  unfold listP
  refine bad_then (want_go h) (bad_then (take_no hw) ?_)
  rw [if_neg (by simp)]
  exact bad_then m1 (bad_bnd hb)
theorem members_go {member : PM Nat} (w0 : Nat) (hw0 : 0 < w0) (kd : Int) : ∀ (r p : Nat) (M : List Nd) (k : Nat) (l : List Nat), r < k → l.length + r ≤ 64 → M.length + r ≤ 8191 →
    (∀ j, j < r → C.word (p + j * w0) ≠ (⟨#[125]⟩ : ByteArray)) → (∀ j, j < r → ∀ N : List Nd, N.length < 8192 → Made member (p + j * w0) d N (p + j * w0 + w0) 1 kd) → Tk C (p + r * w0) 5 (⟨#[125]⟩ : ByteArray) →
    ∃ l' X, l'.length = l.length + r ∧ X.length = r ∧ memberL C member k l ⟨p, d, 0, M⟩ = .ok l' ⟨p + r * w0 + 1, d, 0, M ++ X⟩
  | 0, p, M, k, l, hk, hl, hM, h1, h2, h3 => by
    simp only [Nat.zero_mul, Nat.add_zero] at h3 ⊢
    exact ⟨l, [], rfl, rfl, by rw [members_stop (by omega) (by omega) h3]; simp⟩
  | r + 1, p, M, k, l, hk, hl, hM, h1, h2, h3 => by
    obtain ⟨k, rfl⟩ : ∃ j, k = j + 1 := ⟨k - 1, by omega⟩
    have hw := h1 0 (by omega)
    have m0 := h2 0 (by omega) M (by omega)
    simp only [Nat.zero_mul, Nat.add_zero] at m0 hw
    obtain ⟨a, y, m1⟩ := m0.one
    have e : ∀ j, p + (j + 1) * w0 = p + w0 + j * w0 := fun j => by rw [Nat.add_mul]; omega
    obtain ⟨l', X, hl', hX, hm⟩ := members_go w0 hw0 kd r (p + w0) (M ++ [y]) k (l ++ [a]) (by omega) (by simp; omega) (by simp; omega) (fun j hj => by have := h1 (j + 1) (by omega); rwa [e j] at this) (fun j hj N hN => by have := h2 (j + 1) (by omega) N hN; rwa [e j] at this) (h3.at_ (e r))
    refine ⟨l', y :: X, by rw [hl']; simp; omega, by simp [hX], ?_⟩
    unfold memberL
    rw [bnd_go (cap_go (by omega)), bnd_go (take_no hw), if_neg (by simp), bnd_go (more_go (by omega)), bnd_go m1, hm, e r]
    simp
theorem members_bad {member : PM Nat} (w0 : Nat) (hw0 : 0 < w0) (kd : Int) : ∀ (r p : Nat) (M : List Nd) (k : Nat) (l : List Nat), r < k → l.length + r = 64 → M.length + r ≤ 8191 →
    (∀ j, j ≤ r → C.word (p + j * w0) ≠ (⟨#[125]⟩ : ByteArray)) → (∀ j, j < r → ∀ N : List Nd, N.length < 8192 → Made member (p + j * w0) d N (p + j * w0 + w0) 1 kd) → (∀ N : List Nd, Bad 2 member ⟨p + r * w0, d, 2, N⟩) →
    Bad 2 (memberL C member k l) ⟨p, d, 0, M⟩
  | 0, p, M, k, l, hk, hl, hM, h1, h2, h3 => by
    obtain ⟨k, rfl⟩ : ∃ j, k = j + 1 := ⟨k - 1, by omega⟩
    have hw := h1 0 (by omega)
    have h4 := h3 M
    simp only [Nat.zero_mul, Nat.add_zero] at hw h4
    have hl2 : l.length = 64 := by omega
    unfold memberL
    refine bad_then (cap_go (by omega)) (bad_then (take_no hw) ?_)
    rw [if_neg (by simp), hl2]
    exact bad_then more_full (bad_bnd h4)
  | r + 1, p, M, k, l, hk, hl, hM, h1, h2, h3 => by
    obtain ⟨k, rfl⟩ : ∃ j, k = j + 1 := ⟨k - 1, by omega⟩
    have hw := h1 0 (by omega)
    have m0 := h2 0 (by omega) M (by omega)
    simp only [Nat.zero_mul, Nat.add_zero] at m0 hw
    obtain ⟨a, y, m1⟩ := m0.one
    have e : ∀ j, p + (j + 1) * w0 = p + w0 + j * w0 := fun j => by rw [Nat.add_mul]; omega
    have ih := members_bad w0 hw0 kd r (p + w0) (M ++ [y]) k (l ++ [a]) (by omega) (by simp; omega) (by simp; omega) (fun j hj => by have := h1 (j + 1) (by omega); rwa [e j] at this) (fun j hj N hN => by have := h2 (j + 1) (by omega) N hN; rwa [e j] at this) (fun N => by have := h3 N; rwa [e r] at this)
    unfold memberL
    refine bad_then (cap_go (by omega)) (bad_then (take_no hw) ?_)
    rw [if_neg (by simp)]
    exact bad_then (more_go (by omega)) (bad_then m1 ih)
theorem classes_go {cls : PM Nat} (w0 : Nat) (kd : Int) : ∀ (r p : Nat) (M : List Nd) (k : Nat) (l : List Nat), r < k → l.length + r ≤ 64 → M.length + 2 * r ≤ 8191 →
    (∀ j, j < r → (C.tok (p + j * w0)).1 ≠ 0) → (∀ j, j < r → ∀ N : List Nd, N.length < 8192 → Made cls (p + j * w0) 0 N (p + j * w0 + w0) 1 kd) → (C.tok (p + r * w0)).1 = 0 →
    ∃ l' X, l'.length = l.length + r ∧ X.length = r ∧ classL C cls k l ⟨p, 0, 0, M⟩ = .ok l' ⟨p + r * w0, 0, 0, M ++ X⟩
  | 0, p, M, k, l, hk, hl, hM, h1, h2, h3 => by
    obtain ⟨k, rfl⟩ : ∃ j, k = j + 1 := ⟨k - 1, by omega⟩
    simp only [Nat.zero_mul, Nat.add_zero] at h3 ⊢
    refine ⟨l, [], rfl, rfl, ?_⟩
    show bnd (capP l) (fun _ => look (kindS C) fun e => if e = 0 then ret l else _) _ = _
    rw [bnd_go (cap_go (by omega))]
    have e1 : kindS C ⟨p, 0, 0, M⟩ = 0 := h3
    unfold look
    simp only [e1]
    show PR.ok _ _ = _
    simp
  | r + 1, p, M, k, l, hk, hl, hM, h1, h2, h3 => by
    obtain ⟨k, rfl⟩ : ∃ j, k = j + 1 := ⟨k - 1, by omega⟩
    have hw := h1 0 (by omega)
    have m0 := h2 0 (by omega) M (by omega)
    simp only [Nat.zero_mul, Nat.add_zero] at m0 hw
    obtain ⟨a, y, m1⟩ := m0.one
    have e : ∀ j, p + (j + 1) * w0 = p + w0 + j * w0 := fun j => by rw [Nat.add_mul]; omega
    obtain ⟨l', X, hl', hX, hm⟩ := classes_go w0 kd r (p + w0) (M ++ [y]) k (l ++ [a]) (by omega) (by simp; omega) (by simp; omega) (fun j hj => by have := h1 (j + 1) (by omega); rwa [e j] at this) (fun j hj N hN => by have := h2 (j + 1) (by omega) N hN; rwa [e j] at this) (by rw [← e r]; exact h3)
    refine ⟨l', y :: X, by rw [hl']; simp; omega, by simp [hX], ?_⟩
    show bnd (capP l) (fun _ => look (kindS C) fun e => if e = 0 then ret l else bnd (moreP l.length) fun _ => bnd cls fun a => classL C cls k (l ++ [a])) _ = _
    rw [bnd_go (cap_go (by omega))]
    have e1 : kindS C ⟨p, 0, 0, M⟩ = (C.tok p).1 := rfl
    unfold look
    simp only [e1]
    rw [if_neg hw, bnd_go (more_go (by omega)), bnd_go m1, hm, e r]
    simp
theorem classes_bad {cls : PM Nat} (w0 : Nat) (kd : Int) : ∀ (r p : Nat) (M : List Nd) (k : Nat) (l : List Nat), r < k → l.length + r = 64 → M.length + 2 * r ≤ 8191 →
    (∀ j, j ≤ r → (C.tok (p + j * w0)).1 ≠ 0) → (∀ j, j < r → ∀ N : List Nd, N.length < 8192 → Made cls (p + j * w0) 0 N (p + j * w0 + w0) 1 kd) → (∀ N : List Nd, Bad 2 cls ⟨p + r * w0, 0, 2, N⟩) →
    Bad 2 (classL C cls k l) ⟨p, 0, 0, M⟩
  | 0, p, M, k, l, hk, hl, hM, h1, h2, h3 => by
    obtain ⟨k, rfl⟩ : ∃ j, k = j + 1 := ⟨k - 1, by omega⟩
    have hw := h1 0 (by omega)
    have h4 := h3 M
    simp only [Nat.zero_mul, Nat.add_zero] at hw h4
    have hl2 : l.length = 64 := by omega
    have : Bad 2 (bnd (capP l) (fun _ => look (kindS C) fun e => if e = 0 then ret l else bnd (moreP l.length) fun _ => bnd cls fun a => classL C cls k (l ++ [a]))) ⟨p, 0, 0, M⟩ := by
      refine bad_then (cap_go (by omega)) ?_
      obtain ⟨z, hz⟩ : Bad 2 (bnd (moreP l.length) fun _ => bnd cls fun a => classL C cls k (l ++ [a])) ⟨p, 0, 0, M⟩ := by rw [hl2]; exact bad_then more_full (bad_bnd h4)
      have e1 : kindS C ⟨p, 0, 0, M⟩ = (C.tok p).1 := rfl
      refine ⟨z, ?_⟩
      unfold look
      simp only [e1]
      rw [if_neg hw]; exact hz
    exact this
  | r + 1, p, M, k, l, hk, hl, hM, h1, h2, h3 => by
    obtain ⟨k, rfl⟩ : ∃ j, k = j + 1 := ⟨k - 1, by omega⟩
    have hw := h1 0 (by omega)
    have m0 := h2 0 (by omega) M (by omega)
    simp only [Nat.zero_mul, Nat.add_zero] at m0 hw
    obtain ⟨a, y, m1⟩ := m0.one
    have e : ∀ j, p + (j + 1) * w0 = p + w0 + j * w0 := fun j => by rw [Nat.add_mul]; omega
    have ih := classes_bad w0 kd r (p + w0) (M ++ [y]) k (l ++ [a]) (by omega) (by simp; omega) (by simp; omega) (fun j hj => by have := h1 (j + 1) (by omega); rwa [e j] at this) (fun j hj N hN => by have := h2 (j + 1) (by omega) N hN; rwa [e j] at this) (fun N => by have := h3 N; rwa [e r] at this)
    have : Bad 2 (bnd (capP l) (fun _ => look (kindS C) fun e => if e = 0 then ret l else bnd (moreP l.length) fun _ => bnd cls fun a => classL C cls k (l ++ [a]))) ⟨p, 0, 0, M⟩ := by
      refine bad_then (cap_go (by omega)) ?_
      obtain ⟨z, hz⟩ : Bad 2 (bnd (moreP l.length) fun _ => bnd cls fun a => classL C cls k (l ++ [a])) ⟨p, 0, 0, M⟩ := bad_then (more_go (by omega)) (bad_then m1 ih)
      have e1 : kindS C ⟨p, 0, 0, M⟩ = (C.tok p).1 := rfl
      refine ⟨z, ?_⟩
      unfold look
      simp only [e1]
      rw [if_neg hw]; exact hz
    exact this
end
end Go.Proofs.YtidannabjhbjpaaGreatDoor
namespace Go.Proofs.YtidannabjhbjpaaGreatDoor
def rpt {α : Type} (n : Nat) (a : List α) : List α := (List.replicate n a).flatten
theorem rpt_succ {α : Type} (n : Nat) (a : List α) : rpt (n + 1) a = a ++ rpt n a := by unfold rpt; rw [List.replicate_succ, List.flatten_cons]
theorem rpt_len {α : Type} (n : Nat) (a : List α) : (rpt n a).length = n * a.length := by unfold rpt; simp
section
variable {α β : Type} {C : PC} {p q d o k c f m e n : Nat} {kd : Int} {M : List Nd} {x y : ByteArray} {U W V : List (Nat × ByteArray)} {s t : PS}
theorem Lies.rpt : ∀ (n p : Nat), Lies C (rpt n U) p → ∀ j, j < n → Lies C U (p + j * U.length)
  | 0, p, h, j, hj => by omega
  | n + 1, p, h, j, hj => by
    rw [rpt_succ] at h
    cases j with
    | zero => rw [Nat.zero_mul]; exact h.left
    | succ j => rw [Nat.add_mul, Nat.one_mul, Nat.add_comm (j * U.length), ← Nat.add_assoc]; exact Lies.rpt n _ h.right j (by omega)
def clsW : List (Nat × ByteArray) := [(1, ⟨#[99, 108, 97, 115, 115]⟩), (1, ⟨#[65]⟩), (5, ⟨#[123]⟩), (5, ⟨#[125]⟩)]
theorem empty_class {block : PM Nat} (hN : Nms C) (h : Lies C clsW p) (hM : M.length < 8192) : Made (classP C block) p d M (p + 4) 1 2 := by
  have t0 : Tk C p 1 _ := h.at_ 0 (by decide)
  have t1 : Tk C (p + 1) 1 _ := h.at_ 1 (by decide)
  have t2 : Tk C (p + 2) 5 _ := h.at_ 2 (by decide)
  have t3 : Tk C (p + 3) 5 (⟨#[125]⟩ : ByteArray) := h.at_ 3 (by decide)
  have hm : memberL C (memberP C block) C.toks.length [] ⟨p + 3, d, 0, M⟩ = .ok [] ⟨p + 4, d, 0, M ++ []⟩ := by
    rw [members_stop (by have := t0.in_; omega) (by simp) t3]; simp
  exact class_go t0 t1 hN.A (by decide) t2 hm (by simp) (by omega) (by simpa using hM)
theorem prog_of {block : PM Nat} {l : List Nat} {X : List Nd} (h : classL C (classP C block) C.toks.length [] ⟨0, 0, 0, []⟩ = .ok l ⟨q, 0, 0, X⟩) (hl : l.length ≤ 1000) (hq : l.length ≠ 0 → q ≠ 0) (hX : X.length < 8192) : ∃ t, programP C block ⟨0, 0, 0, []⟩ = .ok () t := by
  by_cases h0 : l.length = 0
  · refine ⟨⟨q, 0, 0, X ++ [nd 1 ⟨#[]⟩ []]⟩, ?_⟩
    show bnd (classL C (classP C block) C.toks.length []) (fun l => _) _ = _
    rw [bnd_go h, if_pos h0]
  · obtain ⟨y, h3, h4⟩ := make_go (C := C) (p := q) (f := fromS C ⟨0, 0, 0, []⟩) (d := 0) (M := X) (n := nd 1 ⟨#[]⟩ l) (hq h0) (good_of 1 (by omega) (by decide)) hX
    refine ⟨⟨q, 0, 0, X ++ [y]⟩, ?_⟩
    show bnd (classL C (classP C block) C.toks.length []) (fun l => _) _ = _
    rw [bnd_go h, if_neg h0, bnd_go h4]; rfl
theorem bad_prog_of {block : PM Nat} (h : Bad e (classL C (classP C block) C.toks.length []) ⟨0, 0, 0, []⟩) : Bad e (programP C block) ⟨0, 0, 0, []⟩ := by
  have : Bad e (bnd (classL C (classP C block) C.toks.length []) (fun l => if l.length = 0 then fun s => .ok () { s with made := s.made ++ [nd 1 ⟨#[]⟩ []] } else bnd (makeP C (nd 1 ⟨#[]⟩ l) (fromS C ⟨0, 0, 0, []⟩)) fun _ => ret ())) ⟨0, 0, 0, []⟩ := bad_bnd h
  exact this
theorem many0 (hN : Nms C) (n : Nat) (hn : n ≤ 100) (h : Lies C (rpt n clsW) 0) (hlen : C.toks.length = 4 * n + 1) (he : (C.tok (4 * n)).1 = 0) :
    (n ≤ 64 → ∃ t, parseP C = .ok () t) ∧ (64 < n → ∃ z, parseP C = .bad 2 z) := by
  have hc := Lies.rpt n 0 h
  have hcl : clsW.length = 4 := rfl
  rw [hcl] at hc
  have hk : ∀ j, j < n → (C.tok (0 + j * 4)).1 ≠ 0 := fun j hj => by
    have t0 : Tk C (0 + j * 4) 1 _ := (hc j hj).at_ 0 (by decide)
    rw [t0.kind]; decide
  unfold parseP
  constructor
  · intro h64
    obtain ⟨l, X, hl, hX, hg⟩ := classes_go (C := C) (cls := classP C (runG C C.fuel .block)) 4 2 n 0 [] C.toks.length [] (by omega) (by simpa using h64) (by simp; omega) hk (fun j hj N hN2 => empty_class hN (hc j hj) hN2) (by rw [show 0 + n * 4 = 4 * n by omega]; exact he)
    exact prog_of hg (by simp at hl; omega) (fun h0 => by simp at hl; omega) (by simp; omega)
  · intro h64
    exact bad_prog_of (classes_bad (C := C) (cls := classP C (runG C C.fuel .block)) 4 2 64 0 [] C.toks.length [] (by omega) (by simp) (by simp) (fun j hj => hk j (by omega)) (fun j hj N hN2 => empty_class hN (hc j (by omega)) hN2) (fun N => over_class (by decide) ((hc 64 (by omega)).at_ 0 (by decide))))
def fldW : List (Nat × ByteArray) := [(1, ⟨#[105, 110, 116]⟩), (1, ⟨#[120]⟩), (5, ⟨#[59]⟩)]
def preW : List (Nat × ByteArray) := [(1, ⟨#[99, 108, 97, 115, 115]⟩), (1, ⟨#[65]⟩), (5, ⟨#[123]⟩)]
theorem many1 (hN : Nms C) (n : Nat) (hn : n ≤ 100) (h : Lies C (preW ++ (rpt n fldW ++ [(5, ⟨#[125]⟩)])) 0) (hlen : C.toks.length = 3 * n + 5) (he : (C.tok (3 * n + 4)).1 = 0) :
    (n ≤ 64 → ∃ t, parseP C = .ok () t) ∧ (64 < n → ∃ z, parseP C = .bad 2 z) := by
  have hp := h.left
  have hc := Lies.rpt n _ h.right.left
  have hz := h.right.right
  have e1 : 0 + preW.length = 3 := rfl
  have e2 : fldW.length = 3 := rfl
  rw [rpt_len, e2] at hz
  rw [e1] at hc hz
  rw [e2] at hc
  have t0 : Tk C 0 1 _ := hp.at_ 0 (by decide)
  have t1 : Tk C 1 1 _ := (hp.at_ 1 (by decide)).at_ (by omega)
  have t2 : Tk C 2 5 _ := (hp.at_ 2 (by decide)).at_ (by omega)
  have tz : Tk C (3 + n * 3) 5 (⟨#[125]⟩ : ByteArray) := (hz.at_ 0 (by decide)).at_ (by omega)
  have hw : ∀ j, j < n → C.word (3 + j * 3) ≠ (⟨#[125]⟩ : ByteArray) := fun j hj => by
    have a0 : Tk C (3 + j * 3) 1 _ := (hc j hj).at_ 0 (by decide)
    rw [a0.word]; decide
  have hm : ∀ j, j < n → ∀ N : List Nd, N.length < 8192 → Made (memberP C (runG C C.fuel .block)) (3 + j * 3) 0 N (3 + j * 3 + 3) 1 4 := fun j hj N hN2 =>
    field_go ((hc j hj).at_ 0 (by decide)) ((hc j hj).at_ 1 (by decide)) hN.x (by decide) (by decide) (by decide) ((hc j hj).at_ 2 (by decide)) hN2
  unfold parseP
  constructor
  · intro h64
    obtain ⟨l, X, hl, hX, hg⟩ := members_go (C := C) (d := 0) (member := memberP C (runG C C.fuel .block)) 3 (by omega) 4 n 3 [] C.toks.length [] (by omega) (by simpa using h64) (by simp; omega) hw hm tz
    have hcg := class_go (M := []) (C := C) t0 t1 hN.A (by decide) t2 hg (by simp at hl; omega) (by omega) (by simp; omega)
    obtain ⟨X2, hX2⟩ := prog_one (C := C) (by rw [t0.kind]; decide) hcg (by omega) (by rw [show 3 + n * 3 + 1 = 3 * n + 4 by omega]; exact he) (by omega) (by omega)
    exact ⟨_, hX2⟩
  · intro h64
    have hb := members_bad (C := C) (d := 0) (member := memberP C (runG C C.fuel .block)) 3 (by omega) 4 64 3 [] C.toks.length [] (by omega) (by simp) (by simp) (fun j hj => hw j (by omega)) (fun j hj => hm j (by omega)) (fun N => over_member (by decide) ((hc 64 (by omega)).at_ 0 (by decide)))
    exact bad_prog (C := C) (by rw [t0.kind]; decide) (bad_class t0 t1 hN.A t2 hb) (by omega)
end
end Go.Proofs.YtidannabjhbjpaaGreatDoor
namespace Go.Proofs.YtidannabjhbjpaaGreatDoor
def methW : List (Nat × ByteArray) := [(1, ⟨#[99, 108, 97, 115, 115]⟩), (1, ⟨#[65]⟩), (5, ⟨#[123]⟩), (1, ⟨#[105, 110, 116]⟩), (1, ⟨#[102]⟩)]
section
variable {α β : Type} {C : PC} {p q d o k c f m e n : Nat} {kd : Int} {M : List Nd} {x y : ByteArray} {U W V : List (Nat × ByteArray)} {s t : PS}
theorem meth_ok {block : PM Nat} {l : List Nat} {X : List Nd} (hN : Nms C) (h : Lies C methW 0) (h5 : C.word 5 = (⟨#[40]⟩ : ByteArray)) (hp : listP C (paramP C) ⟨5, 0, 0, []⟩ = .ok l ⟨q, 0, 0, X⟩) (hl : l.length ≤ 1000) (hb : Made block q 0 X c k 8) (hq : 5 < c) (h1 : Tk C c 5 (⟨#[125]⟩ : ByteArray)) (h2 : (C.tok (c + 1)).1 = 0) (hk : X.length + k + 3 ≤ 8192) : ∃ t, programP C block ⟨0, 0, 0, []⟩ = .ok () t := by
  have t0 : Tk C 0 1 _ := h.at_ 0 (by decide)
  have t1 : Tk C 1 1 _ := (h.at_ 1 (by decide)).at_ (by omega)
  have t2 : Tk C 2 5 _ := (h.at_ 2 (by decide)).at_ (by omega)
  have t3 : Tk C 3 1 _ := (h.at_ 3 (by decide)).at_ (by omega)
  have t4 : Tk C 4 1 _ := (h.at_ 4 (by decide)).at_ (by omega)
  have hm := method_go (M := []) (X := X) (j := 0) t3 t4 hN.f (by decide) (by decide) (by decide) h5 (by rw [List.nil_append]; exact hp) hl (by rw [List.nil_append]; exact hb) (by omega) (by simp; omega)
  obtain ⟨l2, Y, hl1, hY, hms⟩ := members_one (by rw [t3.word]; decide) hm h1 (by omega)
  have hc := class_go (M := []) t0 t1 hN.A (by decide) t2 hms (by omega) (by omega) (by simp; omega)
  obtain ⟨Z, hZ⟩ := prog_one (by rw [t0.kind]; decide) hc (by omega) h2 (by have := t0.in_; omega) (by omega)
  exact ⟨_, hZ⟩
theorem meth_bad {block : PM Nat} (hN : Nms C) (h : Lies C methW 0) (h5 : C.word 5 = (⟨#[40]⟩ : ByteArray)) (hp : Bad e (listP C (paramP C)) ⟨5, 0, 0, []⟩) : Bad e (programP C block) ⟨0, 0, 0, []⟩ := by
  have t0 : Tk C 0 1 _ := h.at_ 0 (by decide)
  have t1 : Tk C 1 1 _ := (h.at_ 1 (by decide)).at_ (by omega)
  have t2 : Tk C 2 5 _ := (h.at_ 2 (by decide)).at_ (by omega)
  have t3 : Tk C 3 1 _ := (h.at_ 3 (by decide)).at_ (by omega)
  have t4 : Tk C 4 1 _ := (h.at_ 4 (by decide)).at_ (by omega)
  have hm := bad_method_params (block := block) (M := []) t3 t4 hN.f (by decide) (by decide) h5 hp
  have hlen := t0.in_
  exact bad_prog (by rw [t0.kind]; decide) (bad_class t0 t1 hN.A t2 (bad_members (by omega) (by rw [t3.word]; decide) hm)) (by omega)
def parW : List (Nat × ByteArray) := [(1, ⟨#[105, 110, 116]⟩), (1, ⟨#[120]⟩), (5, ⟨#[44]⟩)]
def many2W (r : Nat) : List (Nat × ByteArray) := methW ++ ([(5, ⟨#[40]⟩)] ++ (rpt r parW ++ [(1, ⟨#[105, 110, 116]⟩), (1, ⟨#[120]⟩), (5, ⟨#[41]⟩), (5, ⟨#[123]⟩), (5, ⟨#[125]⟩), (5, ⟨#[125]⟩)]))
theorem many2_len (r : Nat) : (many2W r).length = 12 + 3 * r := by unfold many2W; simp [rpt_len, methW, parW]; omega
theorem many2 (hN : Nms C) (r : Nat) (hr : r ≤ 99) (h : Lies C (many2W r) 0) (he : (C.tok (12 + 3 * r)).1 = 0) :
    (r + 1 ≤ 64 → ∃ t, parseP C = .ok () t) ∧ (64 < r + 1 → ∃ z, parseP C = .bad 2 z) := by
  have hlen : 12 + 3 * r < C.toks.length := by
    have := (h.at_ (11 + 3 * r) (by rw [many2_len]; omega)).in_
    omega
  have hm := h.left
  have h5 := h.right.left
  have hc := Lies.rpt r _ h.right.right.left
  have hz := h.right.right.right
  have e1 : methW.length = 5 := rfl
  have e2 : parW.length = 3 := rfl
  rw [rpt_len, e2] at hz
  simp only [e1, e2, List.length_cons, List.length_nil, Nat.zero_add] at h5 hc hz
  have t5 : Tk C 5 5 (⟨#[40]⟩ : ByteArray) := h5.at_ 0 (by decide)
  have z0 : Tk C (6 + 3 * r) 1 (⟨#[105, 110, 116]⟩ : ByteArray) := (hz.at_ 0 (by decide)).at_ (by omega)
  have z1 : Tk C (7 + 3 * r) 1 (⟨#[120]⟩ : ByteArray) := (hz.at_ 1 (by decide)).at_ (by omega)
  have z2 : Tk C (8 + 3 * r) 5 (⟨#[41]⟩ : ByteArray) := (hz.at_ 2 (by decide)).at_ (by omega)
  have z3 : Tk C (9 + 3 * r) 5 (⟨#[123]⟩ : ByteArray) := (hz.at_ 3 (by decide)).at_ (by omega)
  have z4 : Tk C (10 + 3 * r) 5 (⟨#[125]⟩ : ByteArray) := (hz.at_ 4 (by decide)).at_ (by omega)
  have z5 : Tk C (11 + 3 * r) 5 (⟨#[125]⟩ : ByteArray) := (hz.at_ 5 (by decide)).at_ (by omega)
  have a0 : ∀ j, j ≤ r → Tk C (5 + 1 + j * (2 + 1)) 1 (⟨#[105, 110, 116]⟩ : ByteArray) ∧ Tk C (5 + 1 + j * (2 + 1) + 1) 1 (⟨#[120]⟩ : ByteArray) := fun j hj => by
    by_cases hjr : j = r
    · subst hjr; exact ⟨z0.at_ (by omega), z1.at_ (by omega)⟩
    · exact ⟨((hc j (by omega)).at_ 0 (by decide)).at_ (by omega), ((hc j (by omega)).at_ 1 (by decide)).at_ (by omega)⟩
  have a1 : ∀ j, j < r → Tk C (5 + 1 + 2 + j * (2 + 1)) 5 (⟨#[44]⟩ : ByteArray) := fun j hj => ((hc j hj).at_ 2 (by decide)).at_ (by omega)
  have a2 : ∀ j, j ≤ r → ∀ N : List Nd, N.length < 8192 → Made (paramP C) (5 + 1 + j * (2 + 1)) 0 N (5 + 1 + j * (2 + 1) + 2) 1 7 := fun j hj N hN2 => param_go (a0 j hj).1 (a0 j hj).2 hN.x (by decide) (by decide) (by decide) hN2
  have w6 : C.word (5 + 1) ≠ (⟨#[41]⟩ : ByteArray) := by have := (a0 0 (by omega)).1.word; simp only [Nat.zero_mul, Nat.add_zero] at this; rw [this]; decide
  unfold parseP
  constructor
  · intro h64
    obtain ⟨l, X, hl, hX, hg⟩ := list_some (C := C) (d := 0) (M := []) (one := paramP C) 2 (by omega) 7 r (by omega) t5 w6 (by omega) (by simp; omega) a1 a2 (z2.at_ (by omega))
    rw [List.nil_append, show 5 + 1 + 2 + r * (2 + 1) + 1 = 9 + 3 * r by omega] at hg
    obtain ⟨j, hj⟩ : ∃ j, C.fuel = j + 1 := ⟨C.fuel - 1, by unfold PC.fuel; omega⟩
    rw [hj]
    exact meth_ok hN hm t5.word hg (by omega) (block_none (by omega) z3 (z4.at_ (by omega)) (by omega)) (by omega) (z5.at_ (by omega)) (by rw [show 9 + 3 * r + 2 + 1 = 12 + 3 * r by omega]; exact he) (by omega)
  · intro h64
    exact meth_bad hN hm t5.word (list_bad (C := C) (d := 0) (M := []) (one := paramP C) 2 (by omega) 7 t5 w6 (by omega) (by simp) (fun j hj => a1 j (by omega)) (fun j hj => a2 j (by omega)) (fun N => over_param (by decide) (a0 64 (by omega)).1))
end
end Go.Proofs.YtidannabjhbjpaaGreatDoor
namespace Go.Proofs.YtidannabjhbjpaaGreatDoor
section
variable {α β : Type} {C : PC} {p q d o k c f m e n : Nat} {kd : Int} {M : List Nd} {x y : ByteArray} {U W V : List (Nat × ByteArray)} {s t : PS}
structure Calm (C : PC) (q : Nat) : Prop where
  guard : C.word q ≠ (⟨#[33]⟩ : ByteArray)
  index : C.word q ≠ (⟨#[91]⟩ : ByteArray)
  point : C.word q ≠ (⟨#[46]⟩ : ByteArray)
theorem ask_calm {value : PM Nat} {n : Nat} (hs : Calm C q) : ∀ k, 0 < k → askL C value f k n ⟨q, d, o, M⟩ = .ok n ⟨q, d, o, M⟩ := by
  intro k hk
  obtain ⟨j, rfl⟩ : ∃ j, k = j + 1 := ⟨k - 1, by omega⟩
  unfold askL
  rw [bnd_go (take_no hs.guard), if_neg (by simp), bnd_go (take_no hs.index), if_neg (by simp), bnd_go (take_no hs.point), if_neg (by simp)]; rfl
theorem asked_calm {value : PM Nat} (hl : 0 < C.toks.length) (h : Made (firstP C value) p d M q k kd) (hs : Calm C q) : Made (askedP C value) p d M q k kd := by
  obtain ⟨X, y, h1, h2, h3⟩ := h
  refine ⟨X, y, h1, h2, ?_⟩
  show bnd (firstP C value) (fun n => askL C value _ C.toks.length n) _ = _
  rw [bnd_go h3, ask_calm hs _ hl]
structure UnitOne (C : PC) : Prop where
  int : (C.int (⟨#[49]⟩ : ByteArray)).2 = 0
theorem lit_six (h1 : UnitOne C) (hl : 0 < C.toks.length) (h : Tk C p 2 (⟨#[49]⟩ : ByteArray)) (hs : Calm C (p + 1)) (hb : bindsN (C.word (p + 1)) ≠ 6) (hM : M.length < 8192) : Made (runG C (m + 3) (.joined 6)) p d M (p + 1) 1 19 :=
  joined_up (m := m + 2) (by omega) hl ((made_asked (m := m) (asked_calm hl (first_lit h h1.int hM) hs) (by rw [h.word]; decide) (by rw [h.word]; decide)).eq seven_eq) hb
theorem full_six (hl : 0 < C.toks.length) (h : Tk C p 2 (⟨#[49]⟩ : ByteArray)) (hM : M.length = 8192) : Bad 2 (runG C (m + 3) (.joined 6)) ⟨p, d, 0, M⟩ :=
  bad_joined (m := m + 2) (by omega) ((bad_signed (m := m) (by show C.word p ≠ _; rw [h.word]; decide) (by show C.word p ≠ _; rw [h.word]; decide) (bad_asked (full_first_lit h hM))).eq seven_eq)
theorem lit_value (h1 : UnitOne C) (hl : 0 < C.toks.length) (h : Tk C p 2 (⟨#[49]⟩ : ByteArray)) (hs : Stop C (p + 1)) (hd : d < 60) (hM : M.length < 8192) (hm : 9 ≤ m) : Made (runG C m .value) p d M (p + 1) 1 19 := by
  obtain ⟨j, rfl⟩ : ∃ j, m = j + 1 + 7 + 1 := ⟨m - 9, by omega⟩
  exact made_value hd (up hl (made_asked (asked_stop hl (first_lit h h1.int hM) hs) (by rw [h.word]; decide) (by rw [h.word]; decide)) hs)
theorem over_value (h : Tk C p 2 (⟨#[49]⟩ : ByteArray)) (hd : d < 60) (hm : 9 ≤ m) : Bad 2 (runG C m .value) ⟨p, d, 2, M⟩ := by
  obtain ⟨j, rfl⟩ : ∃ j, m = j + 1 + 7 + 1 := ⟨m - 9, by omega⟩
  refine bad_value ?_
  rw [if_neg (by omega)]
  exact bad_up (bad_signed (by show C.word p ≠ _; rw [h.word]; decide) (by show C.word p ≠ _; rw [h.word]; decide) (bad_asked (over_first_lit (by decide) h)))
def addW : List (Nat × ByteArray) := [(5, ⟨#[43]⟩), (2, ⟨#[49]⟩)]
theorem join_add {part : PM Nat} {n : Nat} (h : Tk C q 5 (⟨#[43]⟩ : ByteArray)) (hp : Made part (q + 1) d M (q + 2) 1 19) (hM : M.length + 1 < 8192) : ∃ X, X.length = 2 ∧ joinP C part n f ⟨q, d, 0, M⟩ = .ok (M.length + 1) ⟨q + 2, d, 0, M ++ X⟩ := by
  obtain ⟨X, z, h1, h2, h3⟩ := hp
  obtain rfl : X = [] := by cases X with | nil => rfl | cons a X => simp at h1
  simp only [List.append_nil, List.length_nil, Nat.add_zero] at h3
  obtain ⟨y, h4, h5⟩ := make_go (C := C) (p := q + 2) (f := f) (d := d) (M := M ++ [z]) (n := nd 34 (⟨#[43]⟩ : ByteArray) [n, M.length]) (by omega) (good_of 34 (by simp) (by decide)) (by simp; omega)
  refine ⟨[z, y], rfl, ?_⟩
  unfold joinP
  rw [bnd_go (read_go h), if_pos (by decide), bnd_go h3, h5]
  simp
theorem add_go {part : PM Nat} (hp : ∀ (j : Nat) (N : List Nd), j < n → N.length < 8192 → Made part (p + 2 * j + 1) d N (p + 2 * j + 2) 1 19) (ht : ∀ j, j < n → Tk C (p + 2 * j) 5 (⟨#[43]⟩ : ByteArray)) (hb : bindsN (C.word (p + 2 * n)) ≠ 5) : ∀ (r i : Nat) (M : List Nd) (a k : Nat), i + r = n → r < k → M.length + 2 * r ≤ 8192 →
    ∃ X a', X.length = 2 * r ∧ a' = (if r = 0 then a else M.length + 2 * r - 1) ∧ joinL C part 5 f k a ⟨p + 2 * i, d, 0, M⟩ = .ok a' ⟨p + 2 * n, d, 0, M ++ X⟩
  | 0, i, M, a, k, hi, hk, hM => by
    obtain ⟨k, rfl⟩ : ∃ j, k = j + 1 := ⟨k - 1, by omega⟩
    obtain rfl : i = n := by omega
    refine ⟨[], a, rfl, by simp, ?_⟩
    show (if bindsN (C.word (p + 2 * i)) = 5 then _ else ret a) _ = _
    rw [if_neg hb]
    show PR.ok _ _ = _
    simp
  | r + 1, i, M, a, k, hi, hk, hM => by
    obtain ⟨k, rfl⟩ : ∃ j, k = j + 1 := ⟨k - 1, by omega⟩
    have t0 := ht i (by omega)
    obtain ⟨X, hX, hj⟩ := join_add (f := f) (n := a) t0 (hp i M (by omega) (by omega)) (by omega)
    obtain ⟨Y, a', hY, ha, hg⟩ := add_go hp ht hb r (i + 1) (M ++ X) (M.length + 1) k (by omega) (by omega) (by simp; omega)
    refine ⟨X ++ Y, a', by simp; omega, ?_, ?_⟩
    · rw [ha, if_neg (Nat.succ_ne_zero r)]
      by_cases h0 : r = 0
      · rw [if_pos h0]; omega
      · rw [if_neg h0]; simp; omega
    · show (if bindsN (C.word (p + 2 * i)) = 5 then bnd (joinP C part a f) (fun m => joinL C part 5 f k m) else ret a) _ = _
      rw [if_pos (by rw [t0.word]; decide), bnd_go hj, show p + 2 * i + 2 = p + 2 * (i + 1) by omega, hg]
      simp
theorem add_bad {part : PM Nat} (hp : ∀ (j : Nat) (N : List Nd), j < n → N.length < 8192 → Made part (p + 2 * j + 1) d N (p + 2 * j + 2) 1 19) (hf : ∀ (j : Nat) (N : List Nd), j < n → N.length = 8192 → Bad 2 part ⟨p + 2 * j + 1, d, 0, N⟩) (ht : ∀ j, j < n → Tk C (p + 2 * j) 5 (⟨#[43]⟩ : ByteArray)) : ∀ (r i : Nat) (M : List Nd) (a k : Nat), i + r = n → r < k → M.length ≤ 8192 → 8192 < M.length + 2 * r →
    Bad 2 (joinL C part 5 f k a) ⟨p + 2 * i, d, 0, M⟩
  | 0, i, M, a, k, hi, hk, hM, hM2 => by omega
  | r + 1, i, M, a, k, hi, hk, hM, hM2 => by
    obtain ⟨k, rfl⟩ : ∃ j, k = j + 1 := ⟨k - 1, by omega⟩
    have t0 := ht i (by omega)
    have : Bad 2 (bnd (joinP C part a f) (fun m => joinL C part 5 f k m)) ⟨p + 2 * i, d, 0, M⟩ := by
      by_cases h1 : M.length + 1 < 8192
      · obtain ⟨X, hX, hj⟩ := join_add (f := f) (n := a) t0 (hp i M (by omega) (by omega)) h1
        have ih := add_bad hp hf ht r (i + 1) (M ++ X) (M.length + 1) k (by omega) (by omega) (by simp; omega) (by simp; omega)
        refine bad_then hj ?_
        rw [show p + 2 * i + 2 = p + 2 * (i + 1) by omega]; exact ih
      · refine bad_bnd ?_
        unfold joinP
        refine bad_then (read_go t0) ?_
        rw [if_pos (by decide)]
        by_cases h2 : M.length = 8192
        · exact bad_bnd (hf i M (by omega) h2)
        · obtain ⟨a2, y2, hm⟩ := (hp i M (by omega) (by omega)).one
          exact bad_then hm (make_full (by omega) (good_of 34 (by simp) (by decide)) (by simp; omega))
    obtain ⟨z, hz⟩ := this
    refine ⟨z, ?_⟩
    show (if bindsN (C.word (p + 2 * i)) = 5 then bnd (joinP C part a f) (fun m => joinL C part 5 f k m) else ret a) _ = _
    rw [if_pos (by rw [t0.word]; decide)]; exact hz
theorem sum_value (h1 : UnitOne C) (hl : n < C.toks.length) (h : Tk C p 2 (⟨#[49]⟩ : ByteArray)) (ha : ∀ j, j < n → Tk C (p + 1 + 2 * j) 5 (⟨#[43]⟩ : ByteArray) ∧ Tk C (p + 1 + 2 * j + 1) 2 (⟨#[49]⟩ : ByteArray)) (hs : Tk C (p + 1 + 2 * n) 5 (⟨#[59]⟩ : ByteArray)) (hd : d < 60) (hM : M.length + 1 + 2 * n ≤ 8192) (hm : 9 ≤ m) :
    ∃ kd, Made (runG C m .value) p d M (p + 1 + 2 * n) (1 + 2 * n) kd := by
  obtain ⟨j, rfl⟩ : ∃ j, m = j + 3 + 1 + 4 + 1 := ⟨m - 9, by omega⟩
  have hw : ∀ j, j ≤ n → Calm C (p + 1 + 2 * j) ∧ bindsN (C.word (p + 1 + 2 * j)) ≠ 6 := fun j hj => by
    by_cases hjn : j = n
    · subst hjn
      exact ⟨⟨by rw [hs.word]; decide, by rw [hs.word]; decide, by rw [hs.word]; decide⟩, by rw [hs.word]; decide⟩
    · have t := (ha j (by omega)).1
      exact ⟨⟨by rw [t.word]; decide, by rw [t.word]; decide, by rw [t.word]; decide⟩, by rw [t.word]; decide⟩
  have hp : ∀ (i : Nat) (N : List Nd), i < n → N.length < 8192 → Made (runG C (j + 3) (.joined 6)) (p + 1 + 2 * i + 1) (d + 1) N (p + 1 + 2 * i + 2) 1 19 := fun i N hi hN => by
    have e : p + 1 + 2 * i + 1 + 1 = p + 1 + 2 * (i + 1) := by omega
    have := lit_six (m := j) (d := d + 1) (M := N) h1 (by omega) (ha i hi).2 (by rw [e]; exact (hw (i + 1) (by omega)).1) (by rw [e]; exact (hw (i + 1) (by omega)).2) hN
    exact this
  obtain ⟨X, z, h2, h3, h4⟩ := lit_six (m := j) (d := d + 1) (M := M) h1 (by omega) h (by have := (hw 0 (by omega)).1; simpa using this) (by have := (hw 0 (by omega)).2; simpa using this) (by omega)
  obtain rfl : X = [] := by cases X with | nil => rfl | cons a X => simp at h2
  simp only [List.append_nil, List.length_nil, Nat.add_zero] at h4
  obtain ⟨Y, a', hY, ha', hg⟩ := add_go (f := fromS C ⟨p, d + 1, 0, M⟩) hp (fun i hi => (ha i hi).1) (by rw [hs.word]; decide) n 0 (M ++ [z]) M.length C.toks.length (by omega) hl (by simp; omega)
  have h5 : runG C (j + 3 + 1) (.joined 5) ⟨p, d + 1, 0, M⟩ = .ok (M.length + 2 * n) ⟨p + 1 + 2 * n, d + 1, 0, M ++ [z] ++ Y⟩ := by
    rw [joined_eq (by omega), bnd_go h4]
    simp only [Nat.mul_zero, Nat.add_zero] at hg
    rw [hg, ha']
    by_cases h0 : n = 0
    · rw [if_pos h0, h0]; rfl
    · have e7 : (M ++ [z]).length + 2 * n - 1 = M.length + 2 * n := by simp
      rw [if_neg h0, e7]
  have hm5 : ∃ kd, Made (runG C (j + 3 + 1) (.joined 5)) p (d + 1) M (p + 1 + 2 * n) (1 + 2 * n) kd := by
    have hne : [z] ++ Y ≠ [] := by simp
    refine ⟨(([z] ++ Y).getLast hne).kind, ([z] ++ Y).dropLast, ([z] ++ Y).getLast hne, by simp; omega, rfl, ?_⟩
    have e : M ++ ([z] ++ Y).dropLast ++ [([z] ++ Y).getLast hne] = M ++ [z] ++ Y := by rw [List.append_assoc, List.dropLast_concat_getLast hne, ← List.append_assoc]
    rw [e, h5]
    congr 1
    simp; omega
  obtain ⟨kd, hm5⟩ := hm5
  have hb : ∀ c, c ≠ 0 → bindsN (C.word (p + 1 + 2 * n)) ≠ c := fun c hc => by rw [hs.word]; intro e; exact hc (e.symm.trans (by decide))
  exact ⟨kd, made_value hd (joined_up (by omega) (by omega) (joined_up (by omega) (by omega) (joined_up (by omega) (by omega) (joined_up (by omega) (by omega) hm5 (hb 4 (by decide))) (hb 3 (by decide))) (hb 2 (by decide))) (hb 1 (by decide)))⟩
theorem sum_bad (h1 : UnitOne C) (hl : n < C.toks.length) (h : Tk C p 2 (⟨#[49]⟩ : ByteArray)) (ha : ∀ j, j < n → Tk C (p + 1 + 2 * j) 5 (⟨#[43]⟩ : ByteArray) ∧ Tk C (p + 1 + 2 * j + 1) 2 (⟨#[49]⟩ : ByteArray)) (hs : Tk C (p + 1 + 2 * n) 5 (⟨#[59]⟩ : ByteArray)) (hd : d < 60) (hM0 : M.length < 8192) (hM : 8192 < M.length + 1 + 2 * n) (hm : 9 ≤ m) :
    Bad 2 (runG C m .value) ⟨p, d, 0, M⟩ := by
  obtain ⟨j, rfl⟩ : ∃ j, m = j + 3 + 1 + 4 + 1 := ⟨m - 9, by omega⟩
  have hw : ∀ j, j ≤ n → Calm C (p + 1 + 2 * j) ∧ bindsN (C.word (p + 1 + 2 * j)) ≠ 6 := fun j hj => by
    by_cases hjn : j = n
    · subst hjn
      exact ⟨⟨by rw [hs.word]; decide, by rw [hs.word]; decide, by rw [hs.word]; decide⟩, by rw [hs.word]; decide⟩
    · have t := (ha j (by omega)).1
      exact ⟨⟨by rw [t.word]; decide, by rw [t.word]; decide, by rw [t.word]; decide⟩, by rw [t.word]; decide⟩
  have hp : ∀ (i : Nat) (N : List Nd), i < n → N.length < 8192 → Made (runG C (j + 3) (.joined 6)) (p + 1 + 2 * i + 1) (d + 1) N (p + 1 + 2 * i + 2) 1 19 := fun i N hi hN => by
    have e : p + 1 + 2 * i + 1 + 1 = p + 1 + 2 * (i + 1) := by omega
    have := lit_six (m := j) (d := d + 1) (M := N) h1 (by omega) (ha i hi).2 (by rw [e]; exact (hw (i + 1) (by omega)).1) (by rw [e]; exact (hw (i + 1) (by omega)).2) hN
    exact this
  have hf : ∀ (i : Nat) (N : List Nd), i < n → N.length = 8192 → Bad 2 (runG C (j + 3) (.joined 6)) ⟨p + 1 + 2 * i + 1, d + 1, 0, N⟩ := fun i N hi hN => full_six (by omega) (ha i hi).2 hN
  obtain ⟨X, z, h2, h3, h4⟩ := lit_six (m := j) (d := d + 1) (M := M) h1 (by omega) h (by have := (hw 0 (by omega)).1; simpa using this) (by have := (hw 0 (by omega)).2; simpa using this) hM0
  obtain rfl : X = [] := by cases X with | nil => rfl | cons a X => simp at h2
  simp only [List.append_nil, List.length_nil, Nat.add_zero] at h4
  have hg := add_bad (f := fromS C ⟨p, d + 1, 0, M⟩) hp hf (fun i hi => (ha i hi).1) n 0 (M ++ [z]) M.length C.toks.length (by omega) hl (by simp; omega) (by simp; omega)
  have h5 : Bad 2 (runG C (j + 3 + 1) (.joined 5)) ⟨p, d + 1, 0, M⟩ := Bad.eq (bad_then h4 hg) (joined_eq (by omega))
  refine bad_value ?_
  rw [if_neg (by omega)]
  exact bad_joined (by omega) (bad_joined (by omega) (bad_joined (by omega) (bad_joined (by omega) h5)))
def sumW (n : Nat) : List (Nat × ByteArray) := shellW ++ ([(5, ⟨#[123]⟩), (1, ⟨#[120]⟩), (5, ⟨#[61]⟩), (2, ⟨#[49]⟩)] ++ (rpt n addW ++ [(5, ⟨#[59]⟩), (5, ⟨#[125]⟩), (5, ⟨#[125]⟩)]))
theorem sum_len (n : Nat) : (sumW n).length = 14 + 2 * n := by unfold sumW; simp [rpt_len, shellW, addW]; omega
theorem sums (hN : Nms C) (h1 : UnitOne C) (n : Nat) (hn : n ≤ 5000) (h : Lies C (sumW n) 0) (he : (C.tok (14 + 2 * n)).1 = 0) :
    (7 + 2 * n ≤ 8192 → ∃ t, parseP C = .ok () t) ∧ (8192 < 2 + 2 * n → ∃ z, parseP C = .bad 2 z) := by
  have hlen : 14 + 2 * n < C.toks.length := by
    have := (h.at_ (13 + 2 * n) (by rw [sum_len]; omega)).in_
    omega
  have hb := h.right.left
  have hc := Lies.rpt n _ h.right.right.left
  have hz := h.right.right.right
  have e1 : shellW.length = 7 := rfl
  have e2 : addW.length = 2 := rfl
  rw [rpt_len, e2] at hz
  simp only [e1, e2, List.length_cons, List.length_nil, Nat.zero_add] at hb hc hz
  have t7 : Tk C 7 5 (⟨#[123]⟩ : ByteArray) := hb.at_ 0 (by decide)
  have t8 : Tk C 8 1 (⟨#[120]⟩ : ByteArray) := hb.at_ 1 (by decide)
  have t9 : Tk C 9 5 (⟨#[61]⟩ : ByteArray) := hb.at_ 2 (by decide)
  have ta : Tk C 10 2 (⟨#[49]⟩ : ByteArray) := hb.at_ 3 (by decide)
  have z0 : Tk C (11 + 2 * n) 5 (⟨#[59]⟩ : ByteArray) := (hz.at_ 0 (by decide)).at_ (by omega)
  have z1 : Tk C (12 + 2 * n) 5 (⟨#[125]⟩ : ByteArray) := (hz.at_ 1 (by decide)).at_ (by omega)
  have z2 : Tk C (13 + 2 * n) 5 (⟨#[125]⟩ : ByteArray) := (hz.at_ 2 (by decide)).at_ (by omega)
  have hadd : ∀ j, j < n → Tk C (10 + 1 + 2 * j) 5 (⟨#[43]⟩ : ByteArray) ∧ Tk C (10 + 1 + 2 * j + 1) 2 (⟨#[49]⟩ : ByteArray) := fun j hj => ⟨((hc j hj).at_ 0 (by decide)).at_ (by omega), ((hc j hj).at_ 1 (by decide)).at_ (by omega)⟩
  have hf : C.fuel = (20 * C.toks.length + 39) + 1 := by unfold PC.fuel; omega
  unfold parseP
  rw [hf]
  constructor
  · intro hn2
    have hv : ∀ y : Nd, ∃ kd, Made (runG C (20 * C.toks.length + 39) .value) 10 1 [y] (11 + 2 * n) (1 + 2 * n) kd := fun y => by
      obtain ⟨kd, hk⟩ := sum_value (m := 20 * C.toks.length + 39) (d := 1) (M := [y]) h1 (n := n) (by omega) ta hadd (z0.at_ (by omega)) (by omega) (by simp; omega) (by omega)
      rw [show 10 + 1 + 2 * n = 11 + 2 * n by omega] at hk
      exact ⟨kd, hk⟩
    have hbk := set_ok (M := []) (d := 0) hN t7 t8 t9 hv z0 (z1.at_ (by omega)) (by omega) (by omega) (by omega) (by simp; omega)
    obtain ⟨X, hX⟩ := shell_ok hN h.left hbk (by omega) (z2.at_ (by omega)) (by rw [show 11 + 2 * n + 2 + 1 = 14 + 2 * n by omega]; exact he) (by omega)
    exact ⟨_, hX⟩
  · intro hn2
    have hv : ∀ y : Nd, Bad 2 (runG C (20 * C.toks.length + 39) .value) ⟨10, 1, 0, [y]⟩ := fun y =>
      sum_bad (m := 20 * C.toks.length + 39) (d := 1) (M := [y]) h1 (n := n) (by omega) ta hadd (z0.at_ (by omega)) (by omega) (by simp) (by simp; omega) (by omega)
    exact shell_bad hN h.left (set_bad (M := []) (d := 0) hN t7 t8 t9 hv (by omega) (by omega) (by simp))
end
end Go.Proofs.YtidannabjhbjpaaGreatDoor
namespace Go.Proofs.YtidannabjhbjpaaGreatDoor
section
variable {α β : Type} {C : PC} {p q d o k c f m e n : Nat} {kd : Int} {M : List Nd} {x y : ByteArray} {U W V : List (Nat × ByteArray)} {s t : PS}
theorem first_this_eq {value : PM Nat} (hw : C.word s.next = (⟨#[116, 104, 105, 115]⟩ : ByteArray)) (hk : (C.tok s.next).1 = 1) : firstP C value s = constP C (⟨#[116, 104, 105, 115]⟩ : ByteArray) s := by
  have e : wordS C 0 s = C.word s.next := rfl
  have hk' : kindS C s = 1 := hk
  show (if kindS C s = 2 ∨ kindS C s = 3 ∨ kindS C s = 4 then literalP C else look (wordS C 0) _) s = _
  rw [if_neg (by rw [hk']; decide)]
  unfold look
  simp only [e, hw]
  rw [if_neg (by decide), if_pos (by decide)]
theorem first_this {value : PM Nat} (h : Tk C p 1 (⟨#[116, 104, 105, 115]⟩ : ByteArray)) (hM : M.length < 8192) : Made (firstP C value) p d M (p + 1) 1 24 := by
  obtain ⟨y, h1, h2⟩ := make_go (C := C) (p := p + 1) (f := fromS C ⟨p, d, 0, M⟩) (d := d) (M := M) (n := constN (⟨#[116, 104, 105, 115]⟩ : ByteArray)) (by omega) (by decide) hM
  refine ⟨[], y, rfl, h1, ?_⟩
  rw [first_this_eq h.word h.kind]
  show bnd (wantP C _) (fun _ => makeP C _ _) _ = _
  rw [bnd_go (want_go h), h2]; simp
theorem had_call {value : PM Nat} {l : List Nat} {X : List Nd} {a : Nat} (hN : Nms C) (h : Tk C p 1 (⟨#[102]⟩ : ByteArray)) (h1 : C.word (p + 1) = (⟨#[40]⟩ : ByteArray)) (hp : listP C value ⟨p + 1, d, 0, M⟩ = .ok l ⟨q, d, 0, M ++ X⟩) (hl : l.length ≤ 1000) (hq : q ≠ 0) (hM : M.length + X.length < 8192) : ∃ y, y.kind = 29 ∧ hadP C value a f ⟨p, d, 0, M⟩ = .ok (M.length + X.length) ⟨q, d, 0, M ++ X ++ [y]⟩ := by
  obtain ⟨y, h3, h4⟩ := made_make (C := C) (p := q) (f := f) (d := d) (M := M) (X := X) (n := nd 29 (⟨#[102]⟩ : ByteArray) (a :: l)) hq (good_of 29 (by simp; omega) (by decide)) hM
  refine ⟨y, h3, ?_⟩
  unfold hadP
  rw [bnd_go (take_no (by rw [h.word]; decide)), if_neg (by simp), bnd_go (take_no (by rw [h.word]; decide)), if_neg (by simp), bnd_go (name_go h hN.f)]
  have e9 : sees C (⟨#[40]⟩ : ByteArray) ⟨p + 1, d, 0, M⟩ = true := sees_yes h1
  unfold look
  simp only [e9, if_true]
  rw [bnd_go hp, h4]
theorem had_bad {value : PM Nat} {a : Nat} (hN : Nms C) (h : Tk C p 1 (⟨#[102]⟩ : ByteArray)) (h1 : C.word (p + 1) = (⟨#[40]⟩ : ByteArray)) (hp : Bad e (listP C value) ⟨p + 1, d, 0, M⟩) : Bad e (hadP C value a f) ⟨p, d, 0, M⟩ := by
  obtain ⟨z, hz⟩ := hp
  refine ⟨z, ?_⟩
  unfold hadP
  rw [bnd_go (take_no (by rw [h.word]; decide)), if_neg (by simp), bnd_go (take_no (by rw [h.word]; decide)), if_neg (by simp), bnd_go (name_go h hN.f)]
  have e9 : sees C (⟨#[40]⟩ : ByteArray) ⟨p + 1, d, 0, M⟩ = true := sees_yes h1
  unfold look
  simp only [e9, if_true]
  unfold bnd
  rw [hz]
theorem asked_call {value : PM Nat} {l : List Nat} {X : List Nd} (hN : Nms C) (h : Tk C p 1 (⟨#[116, 104, 105, 115]⟩ : ByteArray)) (h1 : Tk C (p + 1) 5 (⟨#[46]⟩ : ByteArray)) (h2 : Tk C (p + 2) 1 (⟨#[102]⟩ : ByteArray)) (h3 : C.word (p + 3) = (⟨#[40]⟩ : ByteArray))
    (hp : ∀ y : Nd, ∃ l X, l.length = n ∧ X.length = k ∧ listP C value ⟨p + 3, d, 0, M ++ [y]⟩ = .ok l ⟨q, d, 0, M ++ [y] ++ X⟩) (hl : n ≤ 1000) (hq : q ≠ 0) (hs : Calm C q) (hM : M.length + 1 + k < 8192) : Made (askedP C value) p d M q (k + 2) 29 := by
  obtain ⟨a, y, hy⟩ := (first_this (value := value) (d := d) (M := M) h (by omega)).one
  obtain ⟨l, X, hl2, hX, hlp⟩ := hp y
  obtain ⟨z, hz, hh⟩ := had_call (a := a) (f := fromS C ⟨p, d, 0, M⟩) hN h2 h3 hlp (by omega) hq (by simp; omega)
  refine ⟨y :: X, z, by simp; omega, hz, ?_⟩
  have hlen := h1.in_
  obtain ⟨j, hj⟩ : ∃ j, C.toks.length = j + 2 := ⟨C.toks.length - 2, by omega⟩
  show bnd (firstP C value) (fun n => askL C value _ C.toks.length n) _ = _
  rw [bnd_go hy, hj]
  unfold askL
  rw [bnd_go (take_no (by rw [h1.word]; decide)), if_neg (by simp), bnd_go (take_no (by rw [h1.word]; decide)), if_neg (by simp), bnd_go (take_yes h1), if_pos rfl, bnd_go hh, ask_calm hs _ (by omega)]
  simp; omega
theorem asked_bad {value : PM Nat} (hN : Nms C) (h : Tk C p 1 (⟨#[116, 104, 105, 115]⟩ : ByteArray)) (h1 : Tk C (p + 1) 5 (⟨#[46]⟩ : ByteArray)) (h2 : Tk C (p + 2) 1 (⟨#[102]⟩ : ByteArray)) (h3 : C.word (p + 3) = (⟨#[40]⟩ : ByteArray)) (hp : ∀ y : Nd, Bad e (listP C value) ⟨p + 3, d, 0, M ++ [y]⟩) (hM : M.length < 8192) : Bad e (askedP C value) ⟨p, d, 0, M⟩ := by
  obtain ⟨a, y, hy⟩ := (first_this (value := value) (d := d) (M := M) h (by omega)).one
  have hlen := h1.in_
  obtain ⟨j, hj⟩ : ∃ j, C.toks.length = j + 1 := ⟨C.toks.length - 1, by omega⟩
  have hb := had_bad (a := a) (f := fromS C ⟨p, d, 0, M⟩) hN h2 h3 (hp y)
  have : Bad e (bnd (firstP C value) (fun n => askL C value (fromS C ⟨p, d, 0, M⟩) C.toks.length n)) ⟨p, d, 0, M⟩ := by
    refine bad_then hy ?_
    rw [hj]
    unfold askL
    refine bad_then (take_no (by rw [h1.word]; decide)) ?_
    rw [if_neg (by simp)]
    refine bad_then (take_no (by rw [h1.word]; decide)) ?_
    rw [if_neg (by simp)]
    refine bad_then (take_yes h1) ?_
    rw [if_pos rfl]
    exact bad_bnd hb
  exact this
theorem call_go {value : PM Nat} (ha : Made value p d M q k 29) (h2 : Tk C q 5 (⟨#[59]⟩ : ByteArray)) (hM : M.length + k < 8192) : Made (valuedP C value) p d M (q + 1) (k + 1) 18 := by
  obtain ⟨X, z, h5, h6, h7⟩ := ha
  obtain ⟨y, h3, h4⟩ := made_make (C := C) (p := q + 1) (f := fromS C ⟨p, d, 0, M⟩) (d := d) (M := M) (X := X ++ [z]) (n := nd 18 ⟨#[]⟩ [M.length + X.length]) (by omega) (good_of 18 (by simp) (by decide)) (by simp; omega)
  refine ⟨X ++ [z], y, by simp; omega, h3, ?_⟩
  have hk : kindAt (M.length + X.length) ⟨q, d, 0, M ++ X ++ [z]⟩ = 29 := by
    have : (M ++ X ++ [z])[M.length + X.length]? = some z := by
      rw [List.getElem?_append_right (by simp)]; simp
    unfold kindAt
    simp only [this]
    exact h6
  have hs : sees C (⟨#[61]⟩ : ByteArray) ⟨q, d, 0, M ++ X ++ [z]⟩ = false := sees_no (by rw [h2.word]; decide)
  show bnd value (fun a => look (kindAt a) fun k => look (sees C _) fun b => _) _ = _
  rw [bnd_go h7]
  unfold look
  simp only [hk, hs, Bool.false_eq_true, if_false]
  rw [List.append_assoc] at *
  rw [bnd_go (want_go h2), bnd_go h4, if_pos (.inl trivial)]
  show PR.ok _ _ = PR.ok _ _
  simp
theorem bad_call {value : PM Nat} (ha : Bad e value ⟨p, d, 0, M⟩) : Bad e (valuedP C value) ⟨p, d, 0, M⟩ := by
  obtain ⟨z, hz⟩ := ha
  refine ⟨z, ?_⟩
  show bnd value (fun a => look (kindAt a) fun k => look (sees C _) fun b => _) _ = _
  unfold bnd
  rw [hz]
def argW : List (Nat × ByteArray) := [(2, ⟨#[49]⟩), (5, ⟨#[44]⟩)]
def many3W (r : Nat) : List (Nat × ByteArray) := shellW ++ ([(5, ⟨#[123]⟩), (1, ⟨#[116, 104, 105, 115]⟩), (5, ⟨#[46]⟩), (1, ⟨#[102]⟩), (5, ⟨#[40]⟩)] ++ (rpt r argW ++ [(2, ⟨#[49]⟩), (5, ⟨#[41]⟩), (5, ⟨#[59]⟩), (5, ⟨#[125]⟩), (5, ⟨#[125]⟩)]))
theorem many3_len (r : Nat) : (many3W r).length = 17 + 2 * r := by unfold many3W; simp [rpt_len, shellW, argW]; omega
theorem many3 (hN : Nms C) (h1 : UnitOne C) (r : Nat) (hr : r ≤ 99) (h : Lies C (many3W r) 0) (he : (C.tok (17 + 2 * r)).1 = 0) :
    (r + 1 ≤ 64 → ∃ t, parseP C = .ok () t) ∧ (64 < r + 1 → ∃ z, parseP C = .bad 2 z) := by
  have hlen : 17 + 2 * r < C.toks.length := by
    have := (h.at_ (16 + 2 * r) (by rw [many3_len]; omega)).in_
    omega
  have hb := h.right.left
  have hc := Lies.rpt r _ h.right.right.left
  have hz := h.right.right.right
  have e1 : shellW.length = 7 := rfl
  have e2 : argW.length = 2 := rfl
  rw [rpt_len, e2] at hz
  simp only [e1, e2, List.length_cons, List.length_nil, Nat.zero_add] at hb hc hz
  have t7 : Tk C 7 5 (⟨#[123]⟩ : ByteArray) := hb.at_ 0 (by decide)
  have t8 : Tk C 8 1 (⟨#[116, 104, 105, 115]⟩ : ByteArray) := hb.at_ 1 (by decide)
  have t9 : Tk C 9 5 (⟨#[46]⟩ : ByteArray) := hb.at_ 2 (by decide)
  have ta : Tk C 10 1 (⟨#[102]⟩ : ByteArray) := hb.at_ 3 (by decide)
  have tb : Tk C 11 5 (⟨#[40]⟩ : ByteArray) := hb.at_ 4 (by decide)
  have z0 : Tk C (12 + 2 * r) 2 (⟨#[49]⟩ : ByteArray) := (hz.at_ 0 (by decide)).at_ (by omega)
  have z1 : Tk C (13 + 2 * r) 5 (⟨#[41]⟩ : ByteArray) := (hz.at_ 1 (by decide)).at_ (by omega)
  have z2 : Tk C (14 + 2 * r) 5 (⟨#[59]⟩ : ByteArray) := (hz.at_ 2 (by decide)).at_ (by omega)
  have z3 : Tk C (15 + 2 * r) 5 (⟨#[125]⟩ : ByteArray) := (hz.at_ 3 (by decide)).at_ (by omega)
  have z4 : Tk C (16 + 2 * r) 5 (⟨#[125]⟩ : ByteArray) := (hz.at_ 4 (by decide)).at_ (by omega)
  have a0 : ∀ j, j ≤ r → Tk C (11 + 1 + j * (1 + 1)) 2 (⟨#[49]⟩ : ByteArray) := fun j hj => by
    by_cases hjr : j = r
    · subst hjr; exact z0.at_ (by omega)
    · exact ((hc j (by omega)).at_ 0 (by decide)).at_ (by omega)
  have a1 : ∀ j, j < r → Tk C (11 + 1 + 1 + j * (1 + 1)) 5 (⟨#[44]⟩ : ByteArray) := fun j hj => ((hc j hj).at_ 1 (by decide)).at_ (by omega)
  have hf : C.fuel = ((20 * C.toks.length + 30) + 1 + 7 + 1) + 1 := by unfold PC.fuel; omega
  have a2 : ∀ j, j ≤ r → ∀ N : List Nd, N.length < 8192 → Made (runG C (20 * C.toks.length + 30) .value) (11 + 1 + j * (1 + 1)) 2 N (11 + 1 + j * (1 + 1) + 1) 1 19 := fun j hj N hN2 => by
    refine lit_value h1 (by omega) (a0 j hj) ?_ (by omega) hN2 (by omega)
    by_cases hjr : j = r
    · subst hjr; exact stop_close (z1.at_ (by omega))
    · exact stop_comma ((a1 j (by omega)).at_ (by omega))
  have w6 : C.word (11 + 1) ≠ (⟨#[41]⟩ : ByteArray) := by have := (a0 0 (by omega)).word; simp only [Nat.zero_mul, Nat.add_zero] at this; rw [this]; decide
  have hde : ∀ M : List Nd, declares C ⟨8, 1, 0, M⟩ = false := fun M => by
    have e0 : wordS C 0 ⟨8, 1, 0, M⟩ = C.word 8 := rfl
    unfold declares
    rw [e0, t8.word, hN.this]
    simp
  have hst : ∀ z ∈ statW, C.word 8 ≠ z := by rw [t8.word]; decide
  unfold parseP
  rw [hf]
  constructor
  · intro h64
    have ha : Made (askedP C (runG C (20 * C.toks.length + 30) .value)) 8 2 [] (14 + 2 * r) (r + 1 + 2) 29 := by
      refine asked_call (l := []) (X := []) (n := r + 1) hN t8 t9 ta tb.word (fun y => ?_) (by omega) (by omega) ⟨by rw [z2.word]; decide, by rw [z2.word]; decide, by rw [z2.word]; decide⟩ (by simp; omega)
      obtain ⟨l, X, hl, hX, hg⟩ := list_some (C := C) (d := 2) (M := [] ++ [y]) (one := runG C (20 * C.toks.length + 30) .value) 1 (by omega) 19 r (by omega) tb w6 (by omega) (by simp; omega) a1 a2 (z1.at_ (by omega))
      exact ⟨l, X, hl, hX, by rw [hg, show 11 + 1 + 1 + r * (1 + 1) + 1 = 14 + 2 * r by omega]⟩
    have hv := made_value (d := 1) (by omega) (up (by omega) (made_asked ha (by rw [t8.word]; decide) (by rw [t8.word]; decide)) (stop_semi z2))
    have hs := (call_go hv z2 (by simp; omega)).eq (stat_valued_eq (block := runG C (20 * C.toks.length + 30 + 1 + 7 + 1) .block) hst (hde []))
    have hbk := block_one (d := 0) (by omega) t7 (by rw [t8.word]; decide) hs (z3.at_ (by omega)) (by omega) (by simp; omega)
    obtain ⟨X, hX⟩ := shell_ok hN h.left hbk (by omega) (z4.at_ (by omega)) (by rw [show 14 + 2 * r + 1 + 1 + 1 = 17 + 2 * r by omega]; exact he) (by omega)
    exact ⟨_, hX⟩
  · intro h64
    have ha : Bad 2 (askedP C (runG C (20 * C.toks.length + 30) .value)) ⟨8, 2, 0, []⟩ := by
      refine asked_bad hN t8 t9 ta tb.word (fun y => ?_) (by simp)
      exact list_bad (C := C) (d := 2) (M := [] ++ [y]) (one := runG C (20 * C.toks.length + 30) .value) 1 (by omega) 19 tb w6 (by omega) (by simp) (fun j hj => a1 j (by omega)) (fun j hj => a2 j (by omega)) (fun N => over_value (a0 64 (by omega)) (by omega) (by omega))
    have hv : Bad 2 (runG C (20 * C.toks.length + 30 + 1 + 7 + 1) .value) ⟨8, 1, 0, []⟩ := by
      refine bad_value (bad_up (bad_signed (by show C.word 8 ≠ _; rw [t8.word]; decide) (by show C.word 8 ≠ _; rw [t8.word]; decide) ?_))
      rw [if_neg (by omega)]; exact ha
    have hs := Bad.eq (bad_call hv) (stat_valued_eq (block := runG C (20 * C.toks.length + 30 + 1 + 7 + 1) .block) hst (hde []))
    exact shell_bad hN h.left (bad_block (d := 0) (by omega) t7 (by rw [t8.word]; decide) hs)
end
end Go.Proofs.YtidannabjhbjpaaGreatDoor
