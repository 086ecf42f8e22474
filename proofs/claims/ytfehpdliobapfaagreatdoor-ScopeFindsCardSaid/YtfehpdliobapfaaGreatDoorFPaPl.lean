/- For any text and any number,ScopeFinds returns true and leaves its arguments as they were. -/
import Derived.Test.YtfehpdliobapfaaGreatDoorFTrPl
set_option linter.unusedVariables false
set_option linter.unusedSimpArgs false
namespace Go.Proofs.YtfehpdliobapfaaGreatDoor
structure PC where
 toks:List (Nat × Nat × Nat)
 ws:List ByteArray
 name:ByteArray->Bool
 int:ByteArray->Int × Nat
 flt:ByteArray->Int × Nat
 unq:ByteArray->ByteArray × Nat
structure PS where
 next:Nat
 deep:Nat
 over:Nat
 made:List Nd
inductive PR (α : Type) where
 | ok (a : α) (s:PS)
 | bad (c:Nat) (t:Int)
 | out
abbrev PM (α : Type):=PS->PR α
def bnd {α β : Type} (m:PM α) (k : α -> PM β):PM β:=fun s=>match m s with
 | .ok a s'=>k a s'
 | .bad c t=>.bad c t
 | .out=>.out
def ret {α : Type} (a : α):PM α:=fun s=>.ok a s
def thr {α : Type} (c:Nat) (t:Int):PM α:=fun _=>.bad c t
def stop {α : Type}:PM α:=fun _=>.out
def look {α β : Type} (f:PS -> α) (k : α -> PM β):PM β:=fun s=>k (f s) s
def PC.tok (C:PC) (i:Nat):Nat × Nat × Nat:=C.toks.getD i (0,0,0)
def PC.word (C:PC) (i:Nat):ByteArray:=C.ws.getD i ⟨#[]⟩
def fromS (C:PC) (s:PS):Nat:=(C.tok s.next).2.1
def endS (C:PC) (s:PS):Nat:=(C.tok (s.next-1)).2.2
def kindS (C:PC) (s:PS):Nat:=(C.tok s.next).1
def wordS (C:PC) (k:Nat) (s:PS):ByteArray:=C.word (s.next+k)
def sees (C:PC) (x:ByteArray) (s:PS):Bool:=decide (wordS C 0 s=x)
def readP (C:PC):PM ByteArray:=fun s =>
 if s.next+1<C.toks.length then
  if s.over=0 then .ok (C.word s.next) { s with next:=s.next+1 } else .bad s.over (fromS C s)
 else .out
def takeP (C:PC) (x:ByteArray):PM Bool:=look (sees C x) fun b=>if b=true then bnd (readP C) fun _=>ret true else ret false
def wantP (C:PC) (x:ByteArray):PM Unit:=bnd (takeP C x) fun b=>if b=true then ret () else look (fromS C) fun f=>thr 80 f
def nameP (C:PC):PM ByteArray:=look (wordS C 0) fun x=>if C.name x=true then readP C else look (fromS C) fun f=>thr 80 f
def enterP:PM Unit:=fun s=>.ok () { s with deep:=s.deep+1,over:=if s.deep=60 then 6 else s.over }
def leaveP:PM Unit:=fun s=>if s.deep=0 then .out else .ok () { s with deep:=s.deep-1 }
def moreP (n:Nat):PM Unit:=fun s=>.ok () { s with over:=if n=64 then 2 else s.over }
def goodN (x:Nd):Bool:=decide (x.kids.length<=100000/\x.text.size<=65536/\x.N.size<=65536/\x.M.size<=5/\x.ends.length<=5)
def capP (l:List Nat):PM Unit:=fun s=>if l.length<=90000 then .ok () s else .out
def makeP (C:PC) (x:Nd) (f:Nat):PM Nat:=fun s =>
 if s.next=0\/goodN x=false then .out
 else if s.made.length=8192 then .bad 2 f
 else .ok s.made.length { s with made:=s.made ++ [{ x with sf:=f,st:=endS C s }] }
def nd (k:Int) (t:ByteArray) (l:List Nat):Nd:=⟨k,0,0,l.map Int.ofNat,t,0,⟨#[]⟩,0,⟨#[]⟩,0,0,0,[]⟩
def manyP (C:PC) (one:PM Nat):Nat->List Nat->PM (List Nat)
 | 0,_=>stop
 | k+1,l=>bnd (capP l) fun _=>bnd (takeP C (⟨#[44]⟩:ByteArray)) fun b=>if b=true then bnd (moreP l.length) fun _=>bnd one fun a=>manyP C one k (l ++ [a]) else ret l
def listP (C:PC) (one:PM Nat):PM (List Nat) :=
 bnd (wantP C (⟨#[40]⟩:ByteArray)) fun _=>bnd (takeP C (⟨#[41]⟩:ByteArray)) fun b=>if b=true then ret [] else
 bnd one fun a=>bnd (manyP C one C.toks.length [a]) fun l=>bnd (wantP C (⟨#[41]⟩:ByteArray)) fun _=>ret l
def bindsN (x:ByteArray):Nat :=
 if x=(⟨#[124,124]⟩:ByteArray) then 1 else if x=(⟨#[38,38]⟩:ByteArray) then 2 else if x=(⟨#[61,61]⟩:ByteArray)\/x=(⟨#[33,61]⟩:ByteArray) then 3
 else if x=(⟨#[60]⟩:ByteArray)\/x=(⟨#[60,61]⟩:ByteArray)\/x=(⟨#[62]⟩:ByteArray)\/x=(⟨#[62,61]⟩:ByteArray)\/x=(⟨#[105,115]⟩:ByteArray) then 4
 else if x=(⟨#[43]⟩:ByteArray)\/x=(⟨#[45]⟩:ByteArray) then 5 else if x=(⟨#[42]⟩:ByteArray)\/x=(⟨#[47]⟩:ByteArray)\/x=(⟨#[37]⟩:ByteArray) then 6 else 0
def joinP (C:PC) (part:PM Nat) (first f:Nat):PM Nat :=
 bnd (readP C) fun sign=>if sign≠(⟨#[105,115]⟩:ByteArray) then bnd part fun k=>makeP C (nd 34 sign [first,k]) f
 else bnd (takeP C (⟨#[115,111,109,101]⟩:ByteArray)) fun b=>if b=true then makeP C (nd 43 ⟨#[]⟩ [first]) f
 else bnd (wantP C (⟨#[110,111,110,101]⟩:ByteArray)) fun _=>makeP C (nd 44 ⟨#[]⟩ [first]) f
def joinL (C:PC) (part:PM Nat) (c f:Nat):Nat->Nat->PM Nat
 | 0,_=>stop
 | k+1,n=>look (wordS C 0) fun x=>if bindsN x=c then bnd (joinP C part n f) fun m=>joinL C part c f k m else ret n
def freeB (n:Nd):Bool:=decide (byS n.M n.D.toNat=32) && (decide (0<n.D) || decide (n.B=5))
def markT (n:Nd) (m:UInt8):Nd:={ n with M:=n.M.extract 0 n.D.toNat ++ ⟨#[m]⟩ }
def kindT (x:ByteArray):Nat:=if x=(⟨#[105,110,116]⟩:ByteArray) then 1 else if x=(⟨#[98,111,111,108]⟩:ByteArray) then 2 else if x=(⟨#[100,111,117,98,108,101]⟩:ByteArray) then 3 else if x=(⟨#[115,116,114]⟩:ByteArray) then 4 else 5
def baseP (C:PC) (b:Nat):PM Nd :=
 bnd (if b=5 then nameP C else bnd (readP C) fun _=>ret ⟨#[]⟩) fun x =>
 look (endS C) fun e=>ret ⟨0,0,0,[],⟨#[]⟩,b,x,0,⟨#[32]⟩,0,0,0,[(e:Int)]⟩
def typeB (n:Nd):Bool:=decide (0<=n.D/\n.D<=4/\n.M.size=n.D.toNat+1/\n.N.size<=65536/\n.ends.length<=n.D.toNat+1)
def nullP (C:PC) (n:Nd):PM Nd:=look (fromS C) fun f=>if typeB n=false then stop else if freeB n=false then thr 81 f else bnd (wantP C (⟨#[63]⟩:ByteArray)) fun _=>ret (markT n 63)
def arrayP (C:PC) (n:Nd):PM Nd :=
 look (fromS C) fun f=>bnd (wantP C (⟨#[91]⟩:ByteArray)) fun _=>bnd (wantP C (⟨#[93]⟩:ByteArray)) fun _=>if typeB n=false then stop else if n.D=4 then thr 2 f else
 look (endS C) fun e=>ret { n with D:=n.D+1,M:=n.M ++ ⟨#[32]⟩,ends:=n.ends ++ [(e:Int)] }
def innerL (C:PC) (anew:Bool) (f:Nat):Nat->Nd->PM Nd
 | 0,_=>stop
 | k+1,n=>look (fun s=>(wordS C 0 s,wordS C 1 s)) fun p =>
  if p.1=(⟨#[63]⟩:ByteArray) then bnd (nullP C n) fun m=>innerL C anew f k m
  else if p.1=(⟨#[91]⟩:ByteArray)/\¬ (anew=true/\p.2≠(⟨#[93]⟩:ByteArray)) then bnd (arrayP C n) fun m=>innerL C anew f k m
  else look (endS C) fun e=>ret { n with wf:=f,wt:=e }
def innerP (C:PC) (anew:Bool):PM Nd:=look (fromS C) fun f=>look (wordS C 0) fun x=>bnd (baseP C (kindT x)) fun n=>innerL C anew f C.toks.length n
def typedP (C:PC):PM Nd :=
 look (fromS C) fun f=>bnd (takeP C (⟨#[79,112,116,105,111,110]⟩:ByteArray)) fun b=>if b=true then
  bnd (wantP C (⟨#[60]⟩:ByteArray)) fun _=>bnd (innerP C false) fun n=>bnd (wantP C (⟨#[62]⟩:ByteArray)) fun _ =>
  if typeB n=false then stop else if freeB n=false then thr 5 f else look (endS C) fun e=>ret { markT n 111 with wf:=f,wt:=e }
 else innerP C false
def answerP (C:PC):PM Nd :=
 look (sees C (⟨#[118,111,105,100]⟩:ByteArray)) fun b=>if b=true then look (fromS C) fun f=>bnd (baseP C 6) fun n=>look (endS C) fun e=>ret { n with wf:=f,wt:=e }
 else typedP C
def withinP (C:PC) (value:PM Nat):PM Nat:=bnd (wantP C (⟨#[40]⟩:ByteArray)) fun _=>bnd value fun n=>bnd (wantP C (⟨#[41]⟩:ByteArray)) fun _=>ret n
def litN (C:PC) (k:Nat) (x:ByteArray):Nd × Nat :=
 if k=2 then ({ nd 19 ⟨#[]⟩ [] with num:=(C.int x).1 },(C.int x).2)
 else if k=3 then ({ nd 20 x [] with num:=(C.flt x).1 },(C.flt x).2)
 else (nd 22 (C.unq x).1 [],(C.unq x).2)
def literalP (C:PC):PM Nat :=
 look (fromS C) fun f=>look (kindS C) fun k=>bnd (readP C) fun x=>bnd (makeP C (litN C k x).1 f) fun i =>
 if (litN C k x).2=0 then ret i else thr (litN C k x).2 f
def constN (x:ByteArray):Nd :=
 if x=(⟨#[116,114,117,101]⟩:ByteArray) then { nd 21 ⟨#[]⟩ [] with num:=1 } else if x=(⟨#[110,117,108,108]⟩:ByteArray) then nd 23 ⟨#[]⟩ [] else if x=(⟨#[110,111,110,101]⟩:ByteArray) then nd 42 ⟨#[]⟩ [] else if x=(⟨#[116,104,105,115]⟩:ByteArray) then nd 24 ⟨#[]⟩ [] else nd 21 ⟨#[]⟩ []
def constP (C:PC) (x:ByteArray):PM Nat:=look (fromS C) fun f=>bnd (wantP C x) fun _=>makeP C (constN x) f
def wrapK (x:ByteArray):Int:=if x=(⟨#[97,115,107]⟩:ByteArray) then 39 else if x=(⟨#[116,111,105,110,116]⟩:ByteArray) then 36 else if x=(⟨#[116,111,100,111,117,98,108,101]⟩:ByteArray) then 37 else 41
def wrapP (C:PC) (value:PM Nat) (x:ByteArray):PM Nat:=look (fromS C) fun f=>bnd (wantP C x) fun _=>bnd (withinP C value) fun k=>makeP C (nd (wrapK x) ⟨#[]⟩ [k]) f
def inputP (C:PC):PM Nat:=look (fromS C) fun f=>bnd (wantP C (⟨#[105,110,112,117,116]⟩:ByteArray)) fun _=>bnd (wantP C (⟨#[40]⟩:ByteArray)) fun _=>bnd (wantP C (⟨#[41]⟩:ByteArray)) fun _=>makeP C (nd 38 ⟨#[]⟩ []) f
def castP (C:PC) (value:PM Nat):PM Nat :=
 look (fromS C) fun f=>bnd (wantP C (⟨#[99,97,115,116]⟩:ByteArray)) fun _=>bnd (wantP C (⟨#[60]⟩:ByteArray)) fun _=>bnd (typedP C) fun n=>bnd (wantP C (⟨#[62]⟩:ByteArray)) fun _ =>
 bnd (withinP C value) fun k=>makeP C { n with kind:=35,kids:=[(k:Int)] } f
def aloneB (n:Nd):Bool:=decide (n.B=5) && decide (n.M=⟨#[32]⟩)
def anewP (C:PC) (value:PM Nat):PM Nat :=
 look (fromS C) fun f=>bnd (wantP C (⟨#[110,101,119]⟩:ByteArray)) fun _=>bnd (innerP C true) fun n=>bnd (takeP C (⟨#[91]⟩:ByteArray)) fun b=>if b=true then
  bnd value fun k=>bnd (wantP C (⟨#[93]⟩:ByteArray)) fun _=>makeP C { n with kind:=31,kids:=[(k:Int)] } f
 else look (sees C (⟨#[40]⟩:ByteArray)) fun p=>if p=true/\aloneB n=false then thr 5 n.wf else
  bnd (listP C value) fun l=>makeP C { n with kind:=30,kids:=l.map Int.ofNat } f
def firstP (C:PC) (value:PM Nat):PM Nat :=
 look (kindS C) fun k=>if k=2\/k=3\/k=4 then literalP C else
 look (wordS C 0) fun x =>
 if x=(⟨#[40]⟩:ByteArray) then withinP C value
 else if x=(⟨#[116,114,117,101]⟩:ByteArray)\/x=(⟨#[102,97,108,115,101]⟩:ByteArray)\/x=(⟨#[110,117,108,108]⟩:ByteArray)\/x=(⟨#[110,111,110,101]⟩:ByteArray)\/x=(⟨#[116,104,105,115]⟩:ByteArray) then constP C x
 else if x=(⟨#[115,111,109,101]⟩:ByteArray)\/x=(⟨#[97,115,107]⟩:ByteArray)\/x=(⟨#[116,111,105,110,116]⟩:ByteArray)\/x=(⟨#[116,111,100,111,117,98,108,101]⟩:ByteArray) then wrapP C value x
 else if x=(⟨#[105,110,112,117,116]⟩:ByteArray) then inputP C
 else if x=(⟨#[99,97,115,116]⟩:ByteArray) then castP C value
 else if x=(⟨#[110,101,119]⟩:ByteArray) then anewP C value
 else look (fromS C) fun f=>bnd (nameP C) fun t=>makeP C (nd 25 t []) f
def hadP (C:PC) (value:PM Nat) (of f:Nat):PM Nat :=
 bnd (takeP C (⟨#[108,101,110,103,116,104]⟩:ByteArray)) fun b=>if b=true then makeP C (nd 28 ⟨#[]⟩ [of]) f else
 bnd (takeP C (⟨#[118,97,108]⟩:ByteArray)) fun b=>if b=true then makeP C (nd 45 ⟨#[]⟩ [of]) f else
 bnd (nameP C) fun t=>look (sees C (⟨#[40]⟩:ByteArray)) fun p=>if p=true then bnd (listP C value) fun l=>makeP C (nd 29 t (of :: l)) f
 else makeP C (nd 26 t [of]) f
def askL (C:PC) (value:PM Nat) (f:Nat):Nat->Nat->PM Nat
 | 0,_=>stop
 | k+1,n =>
  bnd (takeP C (⟨#[33]⟩:ByteArray)) fun b=>if b=true then bnd (makeP C (nd 40 ⟨#[]⟩ [n]) f) fun m=>askL C value f k m else
  bnd (takeP C (⟨#[91]⟩:ByteArray)) fun b=>if b=true then bnd value fun i=>bnd (wantP C (⟨#[93]⟩:ByteArray)) fun _=>bnd (makeP C (nd 27 ⟨#[]⟩ [n,i]) f) fun m=>askL C value f k m else
  bnd (takeP C (⟨#[46]⟩:ByteArray)) fun b=>if b=true then bnd (hadP C value n f) fun m=>askL C value f k m else ret n
def askedP (C:PC) (value:PM Nat):PM Nat:=look (fromS C) fun f=>bnd (firstP C value) fun n=>askL C value f C.toks.length n
def declares (C:PC) (s:PS):Bool :=
 decide (wordS C 0 s=(⟨#[105,110,116]⟩:ByteArray)\/wordS C 0 s=(⟨#[98,111,111,108]⟩:ByteArray)\/wordS C 0 s=(⟨#[100,111,117,98,108,101]⟩:ByteArray)\/wordS C 0 s=(⟨#[115,116,114]⟩:ByteArray)\/wordS C 0 s=(⟨#[79,112,116,105,111,110]⟩:ByteArray)) ||
 (C.name (wordS C 0 s) && (C.name (wordS C 1 s) || decide (wordS C 1 s=(⟨#[63]⟩:ByteArray)) || (decide (wordS C 1 s=(⟨#[91]⟩:ByteArray)) && decide (wordS C 2 s=(⟨#[93]⟩:ByteArray)))))
def declP (C:PC) (value:PM Nat):PM Nat :=
 look (fromS C) fun f=>bnd (typedP C) fun n=>bnd (nameP C) fun t=>bnd (takeP C (⟨#[61]⟩:ByteArray)) fun b=>if b=true then
  bnd value fun k=>bnd (wantP C (⟨#[59]⟩:ByteArray)) fun _=>makeP C { n with kind:=9,text:=t,kids:=[(k:Int)] } f
 else bnd (wantP C (⟨#[59]⟩:ByteArray)) fun _=>makeP C { n with kind:=9,text:=t } f
def branchP (C:PC) (value block:PM Nat):PM Nat :=
 look (fromS C) fun f=>bnd (wantP C (⟨#[105,102]⟩:ByteArray)) fun _=>bnd (withinP C value) fun a=>bnd block fun b=>bnd (takeP C (⟨#[101,108,115,101]⟩:ByteArray)) fun e=>if e=true then
  bnd block fun c=>makeP C (nd 11 ⟨#[]⟩ [a,b,c]) f
 else makeP C (nd 11 ⟨#[]⟩ [a,b]) f
def loopP (C:PC) (value block:PM Nat):PM Nat:=look (fromS C) fun f=>bnd (wantP C (⟨#[119,104,105,108,101]⟩:ByteArray)) fun _=>bnd (withinP C value) fun a=>bnd block fun b=>makeP C (nd 12 ⟨#[]⟩ [a,b]) f
def shortP (C:PC) (k:Int):PM Nat:=look (fromS C) fun f=>bnd (readP C) fun _=>bnd (wantP C (⟨#[59]⟩:ByteArray)) fun _=>makeP C (nd k ⟨#[]⟩ []) f
def resultP (C:PC) (value:PM Nat):PM Nat :=
 look (fromS C) fun f=>bnd (wantP C (⟨#[114,101,116,117,114,110]⟩:ByteArray)) fun _=>look (sees C (⟨#[59]⟩:ByteArray)) fun b=>if b=true then bnd (wantP C (⟨#[59]⟩:ByteArray)) fun _=>makeP C (nd 15 ⟨#[]⟩ []) f
 else bnd value fun k=>bnd (wantP C (⟨#[59]⟩:ByteArray)) fun _=>makeP C (nd 15 ⟨#[]⟩ [k]) f
def printP (C:PC) (value:PM Nat):PM Nat:=look (fromS C) fun f=>bnd (wantP C (⟨#[112,114,105,110,116]⟩:ByteArray)) fun _=>bnd (withinP C value) fun k=>bnd (wantP C (⟨#[59]⟩:ByteArray)) fun _=>makeP C (nd 16 ⟨#[]⟩ [k]) f
def superP (C:PC) (value:PM Nat):PM Nat:=look (fromS C) fun f=>bnd (wantP C (⟨#[115,117,112,101,114]⟩:ByteArray)) fun _=>bnd (listP C value) fun l=>bnd (wantP C (⟨#[59]⟩:ByteArray)) fun _=>makeP C (nd 17 ⟨#[]⟩ l) f
def kindAt (i:Nat) (s:PS):Int:=match s.made[i]? with|some x=>x.kind|none=>0
def valuedP (C:PC) (value:PM Nat):PM Nat :=
 look (fromS C) fun f=>bnd value fun a=>look (kindAt a) fun k=>look (sees C (⟨#[61]⟩:ByteArray)) fun b=>if b=true then
  if k=25\/k=26\/k=27 then bnd (wantP C (⟨#[61]⟩:ByteArray)) fun _=>bnd value fun v=>bnd (wantP C (⟨#[59]⟩:ByteArray)) fun _=>makeP C (nd 10 ⟨#[]⟩ [a,v]) f
  else look (fromS C) fun g=>thr 132 g
 else bnd (wantP C (⟨#[59]⟩:ByteArray)) fun _=>bnd (makeP C (nd 18 ⟨#[]⟩ [a]) f) fun i=>if k=29\/k=30 then ret i else thr 132 f
def statP (C:PC) (value block:PM Nat):PM Nat :=
 look (wordS C 0) fun x =>
 if x=(⟨#[123]⟩:ByteArray) then block
 else if x=(⟨#[105,102]⟩:ByteArray) then branchP C value block
 else if x=(⟨#[119,104,105,108,101]⟩:ByteArray) then loopP C value block
 else if x=(⟨#[98,114,101,97,107]⟩:ByteArray) then shortP C 13
 else if x=(⟨#[99,111,110,116,105,110,117,101]⟩:ByteArray) then shortP C 14
 else if x=(⟨#[114,101,116,117,114,110]⟩:ByteArray) then resultP C value
 else if x=(⟨#[112,114,105,110,116]⟩:ByteArray) then printP C value
 else if x=(⟨#[115,117,112,101,114]⟩:ByteArray) then superP C value
 else look (declares C) fun b=>if b=true then declP C value else valuedP C value
def statL (C:PC) (stat:PM Nat):Nat->List Nat->PM (List Nat)
 | 0,_=>stop
 | k+1,l=>bnd (capP l) fun _=>bnd (takeP C (⟨#[125]⟩:ByteArray)) fun b=>if b=true then ret l else bnd stat fun a=>statL C stat k (l ++ [a])
inductive PG where
 | value
 | joined (c:Nat)
 | signed
 | block
def stepG (C:PC) (rec:PG->PM Nat):PG->PM Nat
 | .value=>bnd enterP fun _=>bnd (rec (.joined 1)) fun n=>bnd leaveP fun _=>ret n
 | .joined c=>if 6<c then rec .signed else look (fromS C) fun f=>bnd (rec (.joined (c+1))) fun n=>joinL C (rec (.joined (c+1))) c f C.toks.length n
 | .signed=>look (wordS C 0) fun x =>
  if x=(⟨#[45]⟩:ByteArray)\/x=(⟨#[33]⟩:ByteArray) then look (fromS C) fun f=>bnd enterP fun _=>bnd (readP C) fun _=>bnd (rec .signed) fun k=>bnd leaveP fun _=>makeP C (nd (if x=(⟨#[45]⟩:ByteArray) then 32 else 33) ⟨#[]⟩ [k]) f
  else askedP C (rec .value)
 | .block=>look (fromS C) fun f=>bnd enterP fun _=>bnd (wantP C (⟨#[123]⟩:ByteArray)) fun _=>bnd (statL C (statP C (rec .value) (rec .block)) C.toks.length []) fun l=>bnd leaveP fun _=>makeP C (nd 8 ⟨#[]⟩ l) f
def runG (C:PC):Nat->PG->PM Nat
 | 0,_=>stop
 | n+1,g=>stepG C (runG C n) g
def paramP (C:PC):PM Nat:=look (fromS C) fun f=>bnd (typedP C) fun n=>bnd (nameP C) fun t=>makeP C { n with kind:=7,text:=t } f
def bodyP (C:PC) (block:PM Nat) (n:Nd) (f:Nat):PM Nat:=bnd (listP C (paramP C)) fun l=>bnd block fun b=>makeP C { n with kids:=(l ++ [b]).map Int.ofNat } f
def memberP (C:PC) (block:PM Nat):PM Nat :=
 look (fromS C) fun f=>bnd (takeP C (⟨#[105,110,105,116]⟩:ByteArray)) fun b=>if b=true then bodyP C block (nd 5 ⟨#[]⟩ []) f else
 bnd (answerP C) fun n=>bnd (nameP C) fun t=>look (sees C (⟨#[40]⟩:ByteArray)) fun p=>if p=true then bodyP C block { n with text:=t,kind:=6 } f
 else if n.B=6 then thr 80 f else bnd (wantP C (⟨#[59]⟩:ByteArray)) fun _=>makeP C { n with text:=t,kind:=4 } f
def ancestorP (C:PC):PM Nat:=look (fromS C) fun f=>bnd (wantP C (⟨#[101,120,116,101,110,100,115]⟩:ByteArray)) fun _=>bnd (nameP C) fun t=>makeP C (nd 3 t []) f
def memberL (C:PC) (member:PM Nat):Nat->List Nat->PM (List Nat)
 | 0,_=>stop
 | k+1,l=>bnd (capP l) fun _=>bnd (takeP C (⟨#[125]⟩:ByteArray)) fun b=>if b=true then ret l else bnd (moreP l.length) fun _=>bnd member fun a=>memberL C member k (l ++ [a])
def classP (C:PC) (block:PM Nat):PM Nat :=
 look (fromS C) fun f=>bnd (wantP C (⟨#[99,108,97,115,115]⟩:ByteArray)) fun _=>bnd (nameP C) fun t=>look (sees C (⟨#[101,120,116,101,110,100,115]⟩:ByteArray)) fun b =>
 bnd (if b=true then bnd (ancestorP C) fun a=>ret [a] else ret []) fun l=>bnd (wantP C (⟨#[123]⟩:ByteArray)) fun _ =>
 bnd (memberL C (memberP C block) C.toks.length l) fun l=>makeP C (nd 2 t l) f
def classL (C:PC) (cls:PM Nat):Nat->List Nat->PM (List Nat)
 | 0,_=>stop
 | k+1,l=>bnd (capP l) fun _=>look (kindS C) fun e=>if e=0 then ret l else bnd (moreP l.length) fun _=>bnd cls fun a=>classL C cls k (l ++ [a])
def programP (C:PC) (block:PM Nat):PM Unit :=
 look (fromS C) fun f=>bnd (classL C (classP C block) C.toks.length []) fun l =>
 if l.length=0 then fun s=>.ok () { s with made:=s.made ++ [nd 1 ⟨#[]⟩ []] } else bnd (makeP C (nd 1 ⟨#[]⟩ l) f) fun _=>ret ()
def PC.fuel (C:PC):Nat:=20*C.toks.length+40
def parseP (C:PC):PR Unit:=programP C (runG C C.fuel .block) ⟨0,0,0,[]⟩
structure CW (C:PC):Prop where
 some_:0<C.toks.length
 long:C.toks.length<=90000
 last:∀ i,(C.word i).size≠0->i+1<C.toks.length
 kind:∀ i,(C.tok i).1≠0->i+1<C.toks.length
 name:∀ x,C.name x=true->x.size≠0
 size:∀ i,(C.word i).size<=65536
 unq:∀ x,x.size<=65536->(C.unq x).1.size<=65536
def Ho {α : Type} (m:PM α) (s:PS) (Q : α -> PS->Prop):Prop:=match m s with
 | .ok a t=>Q a t
 | .bad _ _=>True
 | .out=>False
section
variable {α β : Type} {C:PC} {s:PS}
theorem ho_mono {m:PM α} {Q R : α -> PS->Prop} (h:Ho m s Q) (hq:∀ a t,Q a t->R a t):Ho m s R:=by
 unfold Ho at *
 cases hm:m s with
 | ok a t=>rw [hm] at h;exact hq _ _ h
 | bad c t=>trivial
 | out=>rw [hm] at h;exact h
theorem ho_bnd {m:PM α} {k : α -> PM β} {Q : β -> PS->Prop} (h:Ho m s fun a t=>Ho (k a) t Q):Ho (bnd m k) s Q:=by
 unfold Ho at h
 show (match (match m s with | .ok a s'=>k a s' | .bad c t=>.bad c t | .out=>.out:PR β) with | .ok a t=>Q a t | .bad _ _=>True | .out=>False)
 cases hm:m s with
 | ok a t=>rw [hm] at h;exact h
 | bad c t=>trivial
 | out=>rw [hm] at h;exact h
theorem ho_then {m:PM α} {k : α -> PM β} {P : α -> PS->Prop} {Q : β -> PS->Prop} (h:Ho m s P) (hk:∀ a t,P a t->Ho (k a) t Q):Ho (bnd m k) s Q:=ho_bnd (ho_mono h hk)
theorem ho_look {f:PS -> α} {k : α -> PM β} {Q : β -> PS->Prop} (h:Ho (k (f s)) s Q):Ho (look f k) s Q:=h
theorem ho_ret {a : α} {Q : α -> PS->Prop} (h:Q a s):Ho (ret a) s Q:=h
theorem ho_thr {c:Nat} {t:Int} {Q : α -> PS->Prop}:Ho (thr c t) s Q:=trivial
theorem ho_if {c:Prop} [Decidable c] {m n:PM α} {Q : α -> PS->Prop} (h1:c->Ho m s Q) (h2:¬ c->Ho n s Q):Ho (if c then m else n) s Q:=by
 by_cases h:c
 ·rw [if_pos h];exact h1 h
 ·rw [if_neg h];exact h2 h
structure Mv (C:PC) (d:Nat) (s t:PS):Prop where
 on:s.next+d<=t.next
 in_:t.next<C.toks.length
 deep:t.deep=s.deep
theorem Mv.trans {d e:Nat} {s t u:PS} (h:Mv C d s t) (g:Mv C e t u):Mv C (d+e) s u:=⟨by have:=h.on;have:=g.on;omega,g.in_,by rw [g.deep,h.deep]⟩
theorem Mv.le {d e:Nat} {s t:PS} (h:Mv C d s t) (he:e<=d):Mv C e s t:=⟨by have:=h.on;omega,h.in_,h.deep⟩
theorem read_ho (h:s.next+1<C.toks.length):Ho (readP C) s fun x t=>x=C.word s.next/\t.next=s.next+1/\Mv C 1 s t:=by
 unfold Ho readP
 rw [if_pos h]
 by_cases h0:s.over=0
 ·rw [if_pos h0];exact ⟨rfl,rfl,by show s.next+1<=s.next+1;omega,h,rfl⟩
 ·rw [if_neg h0];trivial
theorem take_ho (hC:CW C) {x:ByteArray} (hx:x.size≠0) (hs:s.next<C.toks.length):Ho (takeP C x) s fun b t=>(b=true->Mv C 1 s t/\wordS C 0 s=x)/\(b=false->t=s/\wordS C 0 s≠x):=by
 refine ho_look (ho_if (fun h=>?_) (fun h=>ho_ret ⟨(fun h'=>by cases h'),fun _=>⟨rfl,fun e=>h (decide_eq_true e)⟩⟩))
 have he:wordS C 0 s=x:=of_decide_eq_true h
 refine ho_then (read_ho (hC.last _ (by rw [show C.word s.next=x from he];exact hx))) (fun a t ht=>ho_ret ⟨fun _=>⟨ht.2.2,he⟩,fun h'=>by cases h'⟩)
theorem want_ho (hC:CW C) {x:ByteArray} (hx:x.size≠0) (hs:s.next<C.toks.length):Ho (wantP C x) s fun _ t=>Mv C 1 s t:=by
 refine ho_then (take_ho hC hx hs) (fun b t ht=>ho_if (fun h=>ho_ret (ht.1 h).1) (fun _=>ho_look ho_thr))
theorem name_ho (hC:CW C):Ho (nameP C) s fun x t=>x.size≠0/\x.size<=65536/\Mv C 1 s t:=by
 refine ho_look (ho_if (fun h=>?_) (fun _=>ho_look ho_thr))
 have hn:=hC.name _ h
 refine ho_mono (read_ho (hC.last _ hn)) (fun a t ht=>⟨?_,?_,ht.2.2⟩)
 ·rw [ht.1];exact hn
 ·rw [ht.1];exact hC.size _
theorem make_ho {x:Nd} {f d:Nat} {s0:PS} (h:Mv C d s0 s) (hd:0<d) (hg:goodN x=true):Ho (makeP C x f) s fun _ t=>Mv C d s0 t:=by
 unfold Ho makeP
 rw [if_neg (by have:=h.on;rw [hg];simp;omega)]
 by_cases h0:s.made.length=8192
 ·rw [if_pos h0];trivial
 ·rw [if_neg h0];exact ⟨h.on,h.in_,h.deep⟩
theorem more_ho {n d:Nat} {s0:PS} (h:Mv C d s0 s):Ho (moreP n) s fun _ t=>Mv C d s0 t:=⟨h.on,h.in_,h.deep⟩
theorem cap_ho {l:List Nat} (h:l.length<=90000):Ho (capP l) s fun _ t=>t=s:=by
 unfold Ho capP
 rw [if_pos h]
theorem good_nd (k:Int) {t:ByteArray} {l:List Nat} (ht:t.size<=65536) (hl:l.length<=100000):goodN (nd k t l)=true:=by
 unfold goodN nd
 simp only [List.length_map,decide_eq_true_iff,List.length_nil]
 exact ⟨hl,ht,by show (0:Nat)<=_;omega,by show (0:Nat)<=_;omega,by omega⟩
theorem Mv.refl (h:s.next<C.toks.length):Mv C 0 s s:=⟨by omega,h,rfl⟩
def OneA (C:PC) (a:Nat) (one:PM Nat):Prop:=∀ t:PS,a<=t.next->t.next<C.toks.length->Ho one t fun _ u=>Mv C 1 t u
theorem many_ho (hC:CW C) (one:PM Nat) (a:Nat) (h1:OneA C a one):∀ (k:Nat) (l:List Nat) (s:PS),a<=s.next->s.next<C.toks.length->C.toks.length<=s.next+k->l.length<=s.next->Ho (manyP C one k l) s fun r t=>Mv C 0 s t/\r.length<=t.next
 | 0,l,s,ha,hs,hk,hl=>by omega
 | k+1,l,s,ha,hs,hk,hl=>by
  have hlen:=hC.long
  refine ho_then (cap_ho (by omega)) (fun _ t0 h0=>?_)
  subst h0
  refine ho_then (take_ho hC (by decide) hs) (fun b t ht=>ho_if (fun hb=>?_) (fun hb=>ho_ret ?_))
  ·obtain ⟨m1,-⟩:=ht.1 hb
   refine ho_then (more_ho m1) (fun _ t2 m2=>ho_then (h1 t2 (by have:=m2.on;omega) m2.in_) (fun x t3 m3=>?_))
   have e1:=m2.on
   have e2:=m3.on
   refine ho_mono (many_ho hC one a h1 k (l ++ [x]) t3 (by omega) m3.in_ (by omega) (by simp;omega)) (fun r t4 h4=>⟨((m2.trans m3).trans h4.1).le (Nat.zero_le _),h4.2⟩)
  ·have hb':b=false:=by simpa using hb
   obtain ⟨rfl,-⟩:=ht.2 hb'
   exact ⟨Mv.refl hs,hl⟩
theorem list_ho (hC:CW C) (one:PM Nat) (h1:OneA C (s.next+1) one) (hs:s.next<C.toks.length):Ho (listP C one) s fun r t=>Mv C 1 s t/\r.length<=t.next:=by
 refine ho_then (want_ho hC (by decide) hs) (fun _ t m1=>ho_then (take_ho hC (by decide) m1.in_) (fun b u hu=>ho_if (fun hb=>ho_ret ?_) (fun hb=>?_)))
 ·exact ⟨(m1.trans (hu.1 hb).1).le (by omega),by simp⟩
 ·obtain ⟨rfl,-⟩:=hu.2 (by simpa using hb)
  have e1:=m1.on
  refine ho_then (h1 u e1 m1.in_) (fun x v m2=>?_)
  have e2:=m2.on
  refine ho_then (many_ho hC one (s.next+1) h1 _ [x] v (by omega) m2.in_ (by omega) (by simp;omega)) (fun l t3 h3=>ho_then (want_ho hC (by decide) h3.1.in_) (fun _ t4 m4=>ho_ret ?_))
  have:=m4.on
  exact ⟨(((m1.trans m2).trans h3.1).trans m4).le (by omega),by omega⟩
theorem base_ho (hC:CW C) (b:Nat) (hs:b≠5->s.next+1<C.toks.length):Ho (baseP C b) s fun n t=>typeB n=true/\n.kids=[]/\n.text.size=0/\Mv C 1 s t:=by
 have H:Ho (if b=5 then nameP C else bnd (readP C) fun _=>ret ⟨#[]⟩) s fun x t=>x.size<=65536/\Mv C 1 s t :=
  ho_if (fun _=>ho_mono (name_ho hC) (fun x t h=>h.2)) (fun hb=>ho_then (read_ho (hs hb)) (fun x t h=>ho_ret ⟨by decide,h.2.2⟩))
 refine ho_then H (fun x t h=>ho_look (ho_ret ⟨?_,rfl,rfl,h.2⟩))
 unfold typeB
 simp only [decide_eq_true_iff]
 exact ⟨by omega,by omega,rfl,h.1,by simp⟩
theorem type_facts {n:Nd} (h:typeB n=true):0<=n.D/\n.D<=4/\n.M.size=n.D.toNat+1/\n.N.size<=65536/\n.ends.length<=n.D.toNat+1:=by unfold typeB at h;exact of_decide_eq_true h
theorem mark_type {n:Nd} (h:typeB n=true) (m:UInt8):typeB (markT n m)=true:=by
 obtain ⟨h0,h1,h2,h3,h4⟩:=type_facts h
 unfold typeB markT
 simp only [decide_eq_true_iff]
 refine ⟨h0,h1,?_,h3,h4⟩
 rw [ByteArray.size_append,ByteArray.size_extract]
 have:(⟨#[m]⟩:ByteArray).size=1:=rfl
 omega
theorem null_ho (hC:CW C) {n:Nd} (hn:typeB n=true) (hs:s.next<C.toks.length):Ho (nullP C n) s fun m t=>(typeB m=true/\m.kids=n.kids/\m.text=n.text)/\Mv C 1 s t :=
 ho_look (ho_if (fun h=>by rw [hn] at h;cases h) (fun _=>ho_if (fun _=>ho_thr) (fun _=>ho_then (want_ho hC (by decide) hs) (fun _ t m=>ho_ret ⟨⟨mark_type hn _,rfl,rfl⟩,m⟩))))
theorem array_ho (hC:CW C) {n:Nd} (hn:typeB n=true) (hs:s.next<C.toks.length):Ho (arrayP C n) s fun m t=>(typeB m=true/\m.kids=n.kids/\m.text=n.text)/\Mv C 1 s t:=by
 refine ho_look (ho_then (want_ho hC (by decide) hs) (fun _ t m1=>ho_then (want_ho hC (by decide) m1.in_) (fun _ u m2=>ho_if (fun h=>by rw [hn] at h;cases h) (fun _=>ho_if (fun _=>ho_thr) (fun h4=>ho_look (ho_ret ⟨⟨?_,rfl,rfl⟩,(m1.trans m2).le (by omega)⟩))))))
 obtain ⟨h0,h1,h2,h3,h5⟩:=type_facts hn
 unfold typeB
 simp only [decide_eq_true_iff]
 refine ⟨by omega,by omega,?_,h3,?_⟩
 ·rw [ByteArray.size_append,h2]
  have:(⟨#[32]⟩:ByteArray).size=1:=rfl
  omega
 ·simp;omega
theorem inner_loop_ho (hC:CW C) (anew:Bool) (f:Nat):∀ (k:Nat) (n:Nd) (s:PS),s.next<C.toks.length->C.toks.length<=s.next+k->typeB n=true->Ho (innerL C anew f k n) s fun m t=>(typeB m=true/\m.kids=n.kids/\m.text=n.text)/\Mv C 0 s t
 | 0,n,s,hs,hk,hn=>by omega
 | k+1,n,s,hs,hk,hn=>by
  refine ho_look (ho_if (fun _=>?_) (fun _=>ho_if (fun _=>?_) (fun _=>ho_look (ho_ret ⟨⟨?_,rfl,rfl⟩,Mv.refl hs⟩))))
  ·refine ho_then (null_ho hC hn hs) (fun m t h=>?_)
   have:=h.2.on
   exact ho_mono (inner_loop_ho hC anew f k m t h.2.in_ (by omega) h.1.1) (fun r u hr=>⟨⟨hr.1.1,by rw [hr.1.2.1,h.1.2.1],by rw [hr.1.2.2,h.1.2.2]⟩,(h.2.trans hr.2).le (by omega)⟩)
  ·refine ho_then (array_ho hC hn hs) (fun m t h=>?_)
   have:=h.2.on
   exact ho_mono (inner_loop_ho hC anew f k m t h.2.in_ (by omega) h.1.1) (fun r u hr=>⟨⟨hr.1.1,by rw [hr.1.2.1,h.1.2.1],by rw [hr.1.2.2,h.1.2.2]⟩,(h.2.trans hr.2).le (by omega)⟩)
  ·obtain ⟨h0,h1,h2,h3,h5⟩:=type_facts hn
   unfold typeB
   simp only [decide_eq_true_iff]
   exact ⟨h0,h1,h2,h3,h5⟩
def TyN (n:Nd):Prop:=typeB n=true/\n.kids=[]/\n.text.size=0
theorem kindT_word {x:ByteArray} (h:kindT x≠5):x.size≠0:=by
 intro h0
 apply h
 obtain rfl:x=⟨#[]⟩:=by
  cases x with
  | mk d=>cases d with
   | mk l=>cases l with
    | nil=>rfl
    | cons a l=>simp [ByteArray.size] at h0
 rfl
theorem inner_ho (hC:CW C) (anew:Bool) (hs:s.next<C.toks.length):Ho (innerP C anew) s fun m t=>TyN m/\Mv C 1 s t:=by
 refine ho_look (ho_look (ho_then (base_ho hC _ (fun h=>hC.last _ (kindT_word h))) (fun n t h=>?_)))
 have:=h.2.2.2.on
 exact ho_mono (inner_loop_ho hC anew _ _ n t h.2.2.2.in_ (by omega) h.1) (fun m u hm=>⟨⟨hm.1.1,by rw [hm.1.2.1,h.2.1],by rw [hm.1.2.2,h.2.2.1]⟩,(h.2.2.2.trans hm.2).le (by omega)⟩)
theorem typed_ho (hC:CW C) (hs:s.next<C.toks.length):Ho (typedP C) s fun m t=>TyN m/\Mv C 1 s t:=by
 refine ho_look (ho_then (take_ho hC (by decide) hs) (fun b t ht=>ho_if (fun hb=>?_) (fun hb=>?_)))
 ·obtain ⟨m1,-⟩:=ht.1 hb
  refine ho_then (want_ho hC (by decide) m1.in_) (fun _ u m2=>ho_then (inner_ho hC false m2.in_) (fun n v h3=>ho_then (want_ho hC (by decide) h3.2.in_) (fun _ z m4=>ho_if (fun h=>by rw [h3.1.1] at h;cases h) (fun _=>ho_if (fun _=>ho_thr) (fun _=>ho_look (ho_ret ⟨⟨?_,h3.1.2⟩,((m1.trans m2).trans (h3.2.trans m4)).le (by omega)⟩))))))
  have hm:=mark_type h3.1.1 111
  obtain ⟨a0,a1,a2,a3,a4⟩:=type_facts hm
  unfold typeB
  simp only [decide_eq_true_iff]
  exact ⟨a0,a1,a2,a3,a4⟩
 ·obtain ⟨rfl,-⟩:=ht.2 (by simpa using hb)
  exact inner_ho hC false hs
theorem answer_ho (hC:CW C) (hs:s.next<C.toks.length):Ho (answerP C) s fun m t=>TyN m/\Mv C 1 s t:=by
 refine ho_look (ho_if (fun hb=>ho_look (ho_then (base_ho hC 6 (fun _=>hC.last _ ?_)) (fun n t h=>ho_look (ho_ret ⟨⟨?_,h.2.1,h.2.2.1⟩,h.2.2.2⟩)))) (fun _=>typed_ho hC hs))
 ·rw [show C.word s.next=_ from of_decide_eq_true hb];decide
 ·obtain ⟨a0,a1,a2,a3,a4⟩:=type_facts h.1
  unfold typeB
  simp only [decide_eq_true_iff]
  exact ⟨a0,a1,a2,a3,a4⟩
theorem good_ty {n x:Nd} (h:TyN n) (hk:x.kids.length<=100000) (ht:x.text.size<=65536) (h1:x.N=n.N) (h2:x.M=n.M) (h3:x.ends=n.ends):goodN x=true:=by
 obtain ⟨a0,a1,a2,a3,a4⟩:=type_facts h.1
 unfold goodN
 simp only [decide_eq_true_iff]
 exact ⟨hk,ht,by rw [h1];exact a3,by rw [h2];omega,by rw [h3];omega⟩
end
end Go.Proofs.YtfehpdliobapfaaGreatDoor
namespace Go.Proofs.YtfehpdliobapfaaGreatDoor
section
variable {α β : Type} {C:PC} {s:PS}
theorem OneA.le {a b:Nat} {one:PM Nat} (h:OneA C a one) (hab:a<=b):OneA C b one:=fun t ht=>h t (by omega)
theorem within_ho (hC:CW C) {value:PM Nat} (hv:OneA C (s.next+1) value) (hs:s.next<C.toks.length):Ho (withinP C value) s fun _ t=>Mv C 1 s t:=by
 refine ho_then (want_ho hC (by decide) hs) (fun _ t m1=>ho_then (hv t m1.on m1.in_) (fun n u m2=>ho_then (want_ho hC (by decide) m2.in_) (fun _ v m3=>ho_ret ((m1.trans (m2.trans m3)).le (by omega)))))
theorem lit_good (hC:CW C) (k:Nat) (x:ByteArray) (h:x.size<=65536):goodN (litN C k x).1=true:=by
 unfold litN
 by_cases h2:k=2
 ·rw [if_pos h2];rfl
 ·rw [if_neg h2]
  by_cases h3:k=3
  ·rw [if_pos h3]
   exact good_nd 20 (l:=[]) h (by simp)
  ·rw [if_neg h3]
   exact good_nd 22 (l:=[]) (hC.unq x h) (by simp)
theorem literal_ho (hC:CW C) (hk:kindS C s≠0):Ho (literalP C) s fun _ t=>Mv C 1 s t:=by
 refine ho_look (ho_look (ho_then (read_ho (hC.kind _ hk)) (fun x t h=>ho_then (make_ho h.2.2 (by omega) (lit_good hC _ _ (by rw [h.1];exact hC.size _))) (fun i u m=>ho_if (fun _=>ho_ret m) (fun _=>ho_thr)))))
theorem const_good (x:ByteArray):goodN (constN x)=true:=by
 unfold constN
 repeat' split
 all_goals rfl
theorem first_ho (hC:CW C) {value:PM Nat} (hv:OneA C (s.next+1) value) (hs:s.next<C.toks.length):Ho (firstP C value) s fun _ t=>Mv C 1 s t:=by
 have pos:∀ {x y:ByteArray},x=y->y.size≠0->x.size≠0:=fun e h=>by rw [e];exact h
 refine ho_look (ho_if (fun hk=>literal_ho hC (by omega)) (fun _=>ho_look (ho_if (fun _=>within_ho hC hv hs) (fun _=>ho_if (fun hx=>?_) (fun _=>ho_if (fun hx=>?_) (fun _=>ho_if (fun _=>?_) (fun _=>ho_if (fun _=>?_) (fun _=>ho_if (fun _=>?_) (fun _=>?_)))))))))
 ·have hx':(wordS C 0 s).size≠0:=by
   rcases hx with hx|hx|hx|hx|hx<;>exact pos hx (by decide)
  exact ho_look (ho_then (want_ho hC hx' hs) (fun _ t m=>make_ho m (by omega) (const_good _)))
 ·have hx':(wordS C 0 s).size≠0:=by
   rcases hx with hx|hx|hx|hx<;>exact pos hx (by decide)
  exact ho_look (ho_then (want_ho hC hx' hs) (fun _ t m=>ho_then (within_ho hC (hv.le (by have:=m.on;omega)) m.in_) (fun k u m2=>make_ho ((m.trans m2).le (by omega)) (by omega) (good_nd _ (by decide) (by simp)))))
 ·exact ho_look (ho_then (want_ho hC (by decide) hs) (fun _ t m=>ho_then (want_ho hC (by decide) m.in_) (fun _ u m2=>ho_then (want_ho hC (by decide) m2.in_) (fun _ v m3=>make_ho ((m.trans (m2.trans m3)).le (by omega)) (by omega) rfl))))
 ·refine ho_look (ho_then (want_ho hC (by decide) hs) (fun _ t m=>ho_then (want_ho hC (by decide) m.in_) (fun _ u m2=>ho_then (typed_ho hC m2.in_) (fun n v h3=>ho_then (want_ho hC (by decide) h3.2.in_) (fun _ z m4=>?_)))))
  have mm:=(m.trans m2).trans (h3.2.trans m4)
  refine ho_then (within_ho hC (hv.le (by have:=mm.on;omega)) m4.in_) (fun k y m5=>make_ho ((mm.trans m5).le (by omega)) (by omega) (good_ty (n:=n) h3.1 (by show [(k:Int)].length<=_;simp) (by show n.text.size<=_;rw [h3.1.2.2];omega) rfl rfl rfl))
 ·refine ho_look (ho_then (want_ho hC (by decide) hs) (fun _ t m=>ho_then (inner_ho hC true m.in_) (fun n u h2=>ho_then (take_ho hC (by decide) h2.2.in_) (fun b v hb=>ho_if (fun h=>?_) (fun h=>?_)))))
  ·have mm:=(m.trans h2.2).trans (hb.1 h).1
   refine ho_then (hv v (by have:=mm.on;omega) mm.in_) (fun k y m5=>ho_then (want_ho hC (by decide) m5.in_) (fun _ z m6=>make_ho ((mm.trans (m5.trans m6)).le (by omega)) (by omega) (good_ty (n:=n) h2.1 (by show [(k:Int)].length<=_;simp) (by show n.text.size<=_;rw [h2.1.2.2];omega) rfl rfl rfl)))
  ·obtain ⟨rfl,-⟩:=hb.2 (by simpa using h)
   have mm:=m.trans h2.2
   refine ho_look (ho_if (fun _=>ho_thr) (fun _=>ho_then (list_ho hC value (hv.le (by have:=mm.on;omega)) mm.in_) (fun l y m5=>make_ho ((mm.trans m5.1).le (by omega)) (by omega) (good_ty (n:=n) h2.1 ?_ (by show n.text.size<=_;rw [h2.1.2.2];omega) rfl rfl rfl))))
   have:=hC.long
   have:=m5.1.in_
   have:=m5.2
   show (l.map Int.ofNat).length<=_
   simp;omega
 ·refine ho_look (ho_then (name_ho hC) (fun t u h=>make_ho h.2.2 (by omega) (good_nd _ h.2.1 (by simp))))
theorem had_ho (hC:CW C) {value:PM Nat} {of f:Nat} (hv:OneA C (s.next+1) value) (hs:s.next<C.toks.length):Ho (hadP C value of f) s fun _ t=>Mv C 1 s t:=by
 refine ho_then (take_ho hC (by decide) hs) (fun b t hb=>ho_if (fun h=>make_ho (hb.1 h).1 (by omega) rfl) (fun h=>?_))
 obtain ⟨rfl,-⟩:=hb.2 (by simpa using h)
 refine ho_then (take_ho hC (by decide) hs) (fun b t hb=>ho_if (fun h=>make_ho (hb.1 h).1 (by omega) rfl) (fun h=>?_))
 obtain ⟨rfl,-⟩:=hb.2 (by simpa using h)
 refine ho_then (name_ho hC) (fun x u hx=>ho_look (ho_if (fun _=>?_) (fun _=>make_ho hx.2.2 (by omega) (good_nd _ hx.2.1 (by simp)))))
 refine ho_then (list_ho hC value (hv.le (by have:=hx.2.2.on;omega)) hx.2.2.in_) (fun l y m5=>make_ho ((hx.2.2.trans m5.1).le (by omega)) (by omega) (good_nd _ hx.2.1 ?_))
 have:=hC.long
 have:=m5.1.in_
 have:=m5.2
 simp;omega
theorem ask_ho (hC:CW C) {value:PM Nat} (a f:Nat) (hv:OneA C (a+1) value):∀ (k n:Nat) (s:PS),a<=s.next->s.next<C.toks.length->1<=s.next->C.toks.length<=s.next+k->Ho (askL C value f k n) s fun _ t=>Mv C 0 s t
 | 0,n,s,ha,hs,h1,hk=>by omega
 | k+1,n,s,ha,hs,h1,hk=>by
  refine ho_then (take_ho hC (by decide) hs) (fun b t hb=>ho_if (fun h=>?_) (fun h=>?_))
  ·refine ho_then (make_ho (hb.1 h).1 (by omega) rfl) (fun m u m1=>?_)
   have:=m1.on
   exact ho_mono (ask_ho hC a f hv k m u (by omega) m1.in_ (by omega) (by omega)) (fun _ v m2=>(m1.trans m2).le (by omega))
  ·obtain ⟨rfl,-⟩:=hb.2 (by simpa using h)
   refine ho_then (take_ho hC (by decide) hs) (fun b t hb=>ho_if (fun h=>?_) (fun h=>?_))
   ·obtain ⟨m1,-⟩:=hb.1 h
    have:=m1.on
    refine ho_then (hv t (by omega) m1.in_) (fun i u m2=>ho_then (want_ho hC (by decide) m2.in_) (fun _ v m3=>ho_then (make_ho (m1.trans (m2.trans m3)) (by omega) rfl) (fun m z m4=>?_)))
    have:=m4.on
    exact ho_mono (ask_ho hC a f hv k m z (by omega) m4.in_ (by omega) (by omega)) (fun _ v m5=>(m4.trans m5).le (by omega))
   ·obtain ⟨rfl,-⟩:=hb.2 (by simpa using h)
    refine ho_then (take_ho hC (by decide) hs) (fun b t hb=>ho_if (fun h=>?_) (fun h=>?_))
    ·obtain ⟨m1,-⟩:=hb.1 h
     have:=m1.on
     refine ho_then (had_ho hC (hv.le (by omega)) m1.in_) (fun m u m2=>?_)
     have:=m2.on
     exact ho_mono (ask_ho hC a f hv k m u (by omega) m2.in_ (by omega) (by omega)) (fun _ v m5=>((m1.trans m2).trans m5).le (by omega))
    ·obtain ⟨rfl,-⟩:=hb.2 (by simpa using h)
     exact ho_ret (Mv.refl hs)
theorem asked_ho (hC:CW C) {value:PM Nat} (hv:OneA C (s.next+1) value) (hs:s.next<C.toks.length):Ho (askedP C value) s fun _ t=>Mv C 1 s t:=by
 refine ho_look (ho_then (first_ho hC hv hs) (fun n t m=>?_))
 have:=m.on
 exact ho_mono (ask_ho hC s.next _ hv _ n t (by omega) m.in_ (by omega) (by omega)) (fun _ u m2=>(m.trans m2).le (by omega))
theorem binds_word {x:ByteArray} (h:bindsN x≠0):x.size≠0:=by
 intro h0
 apply h
 obtain rfl:x=⟨#[]⟩:=by
  cases x with
  | mk d=>cases d with
   | mk l=>cases l with
    | nil=>rfl
    | cons a l=>simp [ByteArray.size] at h0
 rfl
theorem join_ho (hC:CW C) {part:PM Nat} {first f:Nat} (hp:OneA C (s.next+1) part) (hw:(wordS C 0 s).size≠0):Ho (joinP C part first f) s fun _ t=>Mv C 1 s t:=by
 refine ho_then (read_ho (hC.last _ hw)) (fun x t h=>ho_if (fun _=>?_) (fun _=>?_))
 ·exact ho_then (hp t h.2.2.on h.2.2.in_) (fun k u m=>make_ho ((h.2.2.trans m).le (by omega)) (by omega) (good_nd _ (by rw [h.1];exact hC.size _) (by simp)))
 ·refine ho_then (take_ho hC (by decide) h.2.2.in_) (fun b u hb=>ho_if (fun hbt=>make_ho ((h.2.2.trans (hb.1 hbt).1).le (by omega)) (by omega) rfl) (fun hbf=>?_))
  obtain ⟨rfl,-⟩:=hb.2 (by simpa using hbf)
  exact ho_then (want_ho hC (by decide) h.2.2.in_) (fun _ v m=>make_ho ((h.2.2.trans m).le (by omega)) (by omega) rfl)
theorem join_loop_ho (hC:CW C) {part:PM Nat} (c a f:Nat) (hc:c≠0) (hp:OneA C (a+1) part):∀ (k n:Nat) (s:PS),a<=s.next->s.next<C.toks.length->C.toks.length<=s.next+k->Ho (joinL C part c f k n) s fun _ t=>Mv C 0 s t
 | 0,n,s,ha,hs,hk=>by omega
 | k+1,n,s,ha,hs,hk=>by
  refine ho_look (ho_if (fun h=>?_) (fun _=>ho_ret (Mv.refl hs)))
  refine ho_then (join_ho hC (hp.le (by omega)) (binds_word (by omega))) (fun m t m1=>?_)
  have:=m1.on
  exact ho_mono (join_loop_ho hC c a f hc hp k m t (by omega) m1.in_ (by omega)) (fun _ u m2=>(m1.trans m2).le (by omega))
theorem decl_ho (hC:CW C) {value:PM Nat} (hv:OneA C (s.next+1) value) (hs:s.next<C.toks.length):Ho (declP C value) s fun _ t=>Mv C 1 s t:=by
 refine ho_look (ho_then (typed_ho hC hs) (fun n t h1=>ho_then (name_ho hC) (fun x u h2=>ho_then (take_ho hC (by decide) h2.2.2.in_) (fun b v hb=>ho_if (fun h=>?_) (fun h=>?_)))))
 ·have mm:=(h1.2.trans h2.2.2).trans (hb.1 h).1
  exact ho_then (hv v (by have:=mm.on;omega) mm.in_) (fun k y m5=>ho_then (want_ho hC (by decide) m5.in_) (fun _ z m6=>make_ho ((mm.trans (m5.trans m6)).le (by omega)) (by omega) (good_ty (n:=n) h1.1 (by show [(k:Int)].length<=_;simp) h2.2.1 rfl rfl rfl)))
 ·obtain ⟨rfl,-⟩:=hb.2 (by simpa using h)
  exact ho_then (want_ho hC (by decide) h2.2.2.in_) (fun _ z m6=>make_ho (((h1.2.trans h2.2.2).trans m6).le (by omega)) (by omega) (good_ty (n:=n) h1.1 (by show n.kids.length<=_;rw [h1.1.2.1];simp) h2.2.1 rfl rfl rfl))
theorem branch_ho (hC:CW C) {value block:PM Nat} (hv:OneA C (s.next+1) value) (hb:OneA C (s.next+1) block) (hs:s.next<C.toks.length):Ho (branchP C value block) s fun _ t=>Mv C 1 s t:=by
 refine ho_look (ho_then (want_ho hC (by decide) hs) (fun _ t m1=>?_))
 have e1:=m1.on
 refine ho_then (within_ho hC (hv.le (by omega)) m1.in_) (fun a u m2=>?_)
 have e2:=m2.on
 refine ho_then (hb u (by omega) m2.in_) (fun b v m3=>ho_then (take_ho hC (by decide) m3.in_) (fun e y he=>ho_if (fun h=>?_) (fun h=>?_)))
 ·have mm:=(m1.trans m2).trans (m3.trans (he.1 h).1)
  exact ho_then (hb y (by have:=mm.on;omega) mm.in_) (fun c z m5=>make_ho ((mm.trans m5).le (by omega)) (by omega) rfl)
 ·obtain ⟨rfl,-⟩:=he.2 (by simpa using h)
  exact make_ho ((m1.trans (m2.trans m3)).le (by omega)) (by omega) rfl
theorem loop_ho (hC:CW C) {value block:PM Nat} (hv:OneA C (s.next+1) value) (hb:OneA C (s.next+1) block) (hs:s.next<C.toks.length):Ho (loopP C value block) s fun _ t=>Mv C 1 s t:=by
 refine ho_look (ho_then (want_ho hC (by decide) hs) (fun _ t m1=>?_))
 have e1:=m1.on
 refine ho_then (within_ho hC (hv.le (by omega)) m1.in_) (fun a u m2=>?_)
 have e2:=m2.on
 exact ho_then (hb u (by omega) m2.in_) (fun b v m3=>make_ho ((m1.trans (m2.trans m3)).le (by omega)) (by omega) rfl)
theorem short_ho (hC:CW C) {k:Int} (hw:(wordS C 0 s).size≠0):Ho (shortP C k) s fun _ t=>Mv C 1 s t:=by
 refine ho_look (ho_then (read_ho (hC.last _ hw)) (fun x t h=>ho_then (want_ho hC (by decide) h.2.2.in_) (fun _ u m=>make_ho ((h.2.2.trans m).le (by omega)) (by omega) rfl)))
theorem result_ho (hC:CW C) {value:PM Nat} (hv:OneA C (s.next+1) value) (hs:s.next<C.toks.length):Ho (resultP C value) s fun _ t=>Mv C 1 s t:=by
 refine ho_look (ho_then (want_ho hC (by decide) hs) (fun _ t m1=>ho_look (ho_if (fun _=>?_) (fun _=>?_))))
 ·exact ho_then (want_ho hC (by decide) m1.in_) (fun _ u m=>make_ho ((m1.trans m).le (by omega)) (by omega) rfl)
 ·exact ho_then (hv t m1.on m1.in_) (fun k u m2=>ho_then (want_ho hC (by decide) m2.in_) (fun _ v m=>make_ho ((m1.trans (m2.trans m)).le (by omega)) (by omega) rfl))
theorem print_ho (hC:CW C) {value:PM Nat} (hv:OneA C (s.next+1) value) (hs:s.next<C.toks.length):Ho (printP C value) s fun _ t=>Mv C 1 s t:=by
 refine ho_look (ho_then (want_ho hC (by decide) hs) (fun _ t m1=>?_))
 have e1:=m1.on
 exact ho_then (within_ho hC (hv.le (by omega)) m1.in_) (fun a u m2=>ho_then (want_ho hC (by decide) m2.in_) (fun _ v m=>make_ho ((m1.trans (m2.trans m)).le (by omega)) (by omega) rfl))
theorem super_ho (hC:CW C) {value:PM Nat} (hv:OneA C (s.next+1) value) (hs:s.next<C.toks.length):Ho (superP C value) s fun _ t=>Mv C 1 s t:=by
 refine ho_look (ho_then (want_ho hC (by decide) hs) (fun _ t m1=>?_))
 have e1:=m1.on
 refine ho_then (list_ho hC value (hv.le (by omega)) m1.in_) (fun l u m2=>ho_then (want_ho hC (by decide) m2.1.in_) (fun _ v m=>make_ho ((m1.trans (m2.1.trans m)).le (by omega)) (by omega) (good_nd _ (by decide) ?_)))
 have:=hC.long
 have:=m2.1.in_
 have:=m2.2
 omega
theorem valued_ho (hC:CW C) {value:PM Nat} (hv:OneA C s.next value) (hs:s.next<C.toks.length):Ho (valuedP C value) s fun _ t=>Mv C 1 s t:=by
 refine ho_look (ho_then (hv s (Nat.le_refl _) hs) (fun a t m1=>ho_look (ho_look (ho_if (fun _=>ho_if (fun _=>?_) (fun _=>ho_look ho_thr)) (fun _=>?_)))))
 ·refine ho_then (want_ho hC (by decide) m1.in_) (fun _ u m2=>ho_then (hv u (by have:=m1.on;have:=m2.on;omega) m2.in_) (fun k v m3=>ho_then (want_ho hC (by decide) m3.in_) (fun _ z m4=>make_ho (((m1.trans m2).trans (m3.trans m4)).le (by omega)) (by omega) rfl)))
 ·exact ho_then (want_ho hC (by decide) m1.in_) (fun _ u m2=>ho_then (make_ho (m1.trans m2) (by omega) rfl) (fun i v m3=>ho_if (fun _=>ho_ret (m3.le (by omega))) (fun _=>ho_thr)))
theorem stat_ho (hC:CW C) {value block:PM Nat} (hv:OneA C s.next value) (hb:OneA C s.next block) (hs:s.next<C.toks.length):Ho (statP C value block) s fun _ t=>Mv C 1 s t:=by
 have hv1:=hv.le (Nat.le_succ s.next)
 have hb1:=hb.le (Nat.le_succ s.next)
 have pos:∀ {x y:ByteArray},x=y->y.size≠0->x.size≠0:=fun e h=>by rw [e];exact h
 refine ho_look (ho_if (fun _=>hb s (Nat.le_refl _) hs) (fun _=>ho_if (fun _=>branch_ho hC hv1 hb1 hs) (fun _=>ho_if (fun _=>loop_ho hC hv1 hb1 hs) (fun _=>ho_if (fun h=>short_ho hC (pos h (by decide))) (fun _=>ho_if (fun h=>short_ho hC (pos h (by decide))) (fun _=>ho_if (fun _=>result_ho hC hv1 hs) (fun _=>ho_if (fun _=>print_ho hC hv1 hs) (fun _=>ho_if (fun _=>super_ho hC hv1 hs) (fun _=>ho_look (ho_if (fun _=>decl_ho hC hv1 hs) (fun _=>valued_ho hC hv hs)))))))))))
theorem stats_ho (hC:CW C) {stat:PM Nat} (a:Nat) (h1:OneA C a stat):∀ (k:Nat) (l:List Nat) (s:PS),a<=s.next->s.next<C.toks.length->C.toks.length<=s.next+k->l.length<=s.next->Ho (statL C stat k l) s fun r t=>Mv C 1 s t/\r.length<=t.next
 | 0,l,s,ha,hs,hk,hl=>by omega
 | k+1,l,s,ha,hs,hk,hl=>by
  have hlen:=hC.long
  refine ho_then (cap_ho (by omega)) (fun _ t0 h0=>?_)
  subst h0
  refine ho_then (take_ho hC (by decide) hs) (fun b t ht=>ho_if (fun hb=>ho_ret ⟨(ht.1 hb).1,by have:=(ht.1 hb).1.on;omega⟩) (fun hb=>?_))
  obtain ⟨rfl,-⟩:=ht.2 (by simpa using hb)
  refine ho_then (h1 t ha hs) (fun x t3 m3=>?_)
  have e2:=m3.on
  exact ho_mono (stats_ho hC a h1 k (l ++ [x]) t3 (by omega) m3.in_ (by omega) (by simp;omega)) (fun r t4 h4=>⟨(m3.trans h4.1).le (by omega),h4.2⟩)
def rankG:PG->Nat
 | .value=>9
 | .joined c=>8-c
 | .signed=>0
 | .block=>0
def okG:PG->Prop
 | .joined c=>1<=c/\c<=7
 | _=>True
theorem run_ho (hC:CW C):∀ (n:Nat) (g:PG) (s:PS),okG g->s.next<C.toks.length->20*(C.toks.length-s.next)+rankG g<n->Ho (runG C n g) s fun _ t=>Mv C 1 s t
 | 0,g,s,_,_,h=>by omega
 | n+1,g,s,hg,hs,hn=>by
  have hv:OneA C (s.next+1) (runG C n .value):=fun t ht hin=>run_ho hC n .value t trivial hin (by show _+9<n;omega)
  have hb:OneA C (s.next+1) (runG C n .block):=fun t ht hin=>run_ho hC n .block t trivial hin (by show _+0<n;omega)
  show Ho (stepG C (runG C n) g) s _
  cases g with
  | value =>
   have hn':20*(C.toks.length-s.next)+9<n+1:=hn
   show Ho (bnd enterP fun _=>bnd (runG C n (.joined 1)) fun k=>bnd leaveP fun _=>ret k) s _
   refine ho_then (P:=fun (_:Unit) t=>Mv C 0 s { t with deep:=t.deep-1 }/\0<t.deep) (m:=enterP) ?_ (fun _ t h=>?_)
   ·exact ⟨⟨by show s.next+0<=s.next;omega,hs,rfl⟩,Nat.succ_pos _⟩
   ·have e1:s.next<=t.next:=h.1.on
    have e2:t.next<C.toks.length:=h.1.in_
    refine ho_then (run_ho hC n (.joined 1) t ⟨by omega,by omega⟩ e2 (by show _+7<n;omega)) (fun k u m=>?_)
    have hd:t.deep-1=s.deep:=h.1.deep
    refine ho_then (m:=leaveP) (P:=fun (_:Unit) v=>Mv C 1 s v) ?_ (fun _ v m=>ho_ret m)
    unfold Ho leaveP
    rw [if_neg (by have:=m.deep;have:=h.2;omega)]
    exact ⟨by show s.next+1<=u.next;have:=m.on;omega,m.in_,by show u.deep-1=s.deep;rw [m.deep];exact hd⟩
  | joined c =>
   have hn':20*(C.toks.length-s.next)+(8-c)<n+1:=hn
   obtain ⟨c0,c1⟩:1<=c/\c<=7:=hg
   refine ho_if (fun _=>run_ho hC n .signed s trivial hs (by show _+0<n;omega)) (fun hc=>ho_look (ho_then (run_ho hC n (.joined (c+1)) s ⟨by omega,by omega⟩ hs (by show _+(8-(c+1))<n;omega)) (fun k t m=>?_)))
   have e1:=m.on
   have hp:OneA C (s.next+1) (runG C n (.joined (c+1))):=fun t ht hin=>run_ho hC n _ t ⟨by omega,by omega⟩ hin (by show _+(8-(c+1))<n;omega)
   exact ho_mono (join_loop_ho hC c s.next _ (by omega) hp _ k t (by omega) m.in_ (by omega)) (fun _ u m2=>(m.trans m2).le (by omega))
  | signed =>
   have hn':20*(C.toks.length-s.next)+0<n+1:=hn
   refine ho_look (ho_if (fun h=>ho_look ?_) (fun _=>asked_ho hC hv hs))
   have hw:(wordS C 0 s).size≠0:=by rcases h with h|h<;>(rw [h];decide)
   refine ho_then (P:=fun (_:Unit) t=>(t.next=s.next/\t.deep=s.deep+1)) (m:=enterP) ⟨rfl,rfl⟩ (fun _ t h1=>?_)
   refine ho_then (read_ho (by rw [h1.1];exact hC.last _ hw)) (fun _ u h2=>?_)
   have e1:=h2.2.2.on
   have e2:=h2.2.2.in_
   refine ho_then (run_ho hC n .signed u trivial e2 (by show _+0<n;omega)) (fun k v m=>?_)
   refine ho_then (m:=leaveP) (P:=fun (_:Unit) v=>Mv C 1 s v) ?_ (fun _ v m=>make_ho m (by omega) (by rfl))
   unfold Ho leaveP
   rw [if_neg (by have:=m.deep;have:=h2.2.2.deep;omega)]
   exact ⟨by show s.next+1<=v.next;have:=m.on;omega,m.in_,by show v.deep-1=s.deep;have:=m.deep;have:=h2.2.2.deep;omega⟩
  | block =>
   have hn':20*(C.toks.length-s.next)+0<n+1:=hn
   show Ho (bnd enterP fun _=>bnd (wantP C ⟨#[123]⟩) fun _=>bnd (statL C (statP C (runG C n .value) (runG C n .block)) C.toks.length []) fun l=>bnd leaveP fun _=>makeP C (nd 8 ⟨#[]⟩ l) (fromS C s)) s _
   refine ho_then (P:=fun (_:Unit) t=>(t.next=s.next/\t.deep=s.deep+1)) (m:=enterP) ⟨rfl,rfl⟩ (fun _ t h1=>?_)
   refine ho_then (want_ho hC (by decide) (by omega)) (fun _ u m1=>?_)
   have e1:=m1.on
   have hst:OneA C u.next (statP C (runG C n .value) (runG C n .block)):=fun y hy hin=>stat_ho hC (hv.le (by omega)) (hb.le (by omega)) hin
   refine ho_then (stats_ho hC u.next hst _ [] u (Nat.le_refl _) m1.in_ (by omega) (by simp)) (fun l v h2=>?_)
   have hlen:=hC.long
   refine ho_then (m:=leaveP) (P:=fun (_:Unit) y=>Mv C 1 s y/\l.length<=90000) ?_ (fun _ y h=>make_ho h.1 (by omega) (good_nd _ (by decide) (by omega)))
   unfold Ho leaveP
   rw [if_neg (by have:=h2.1.deep;have:=m1.deep;omega)]
   exact ⟨⟨by show s.next+1<=v.next;have:=h2.1.on;omega,h2.1.in_,by show v.deep-1=s.deep;have:=h2.1.deep;have:=m1.deep;omega⟩,by have:=h2.2;have:=h2.1.in_;omega⟩
theorem param_ho (hC:CW C) (hs:s.next<C.toks.length):Ho (paramP C) s fun _ t=>Mv C 1 s t:=by
 refine ho_look (ho_then (typed_ho hC hs) (fun n t h1=>ho_then (name_ho hC) (fun x u h2=>make_ho ((h1.2.trans h2.2.2).le (by omega)) (by omega) (good_ty (n:=n) h1.1 (by show n.kids.length<=_;rw [h1.1.2.1];simp) h2.2.1 rfl rfl rfl))))
theorem body_ho (hC:CW C) {block:PM Nat} {n x:Nd} {f:Nat} (hb:OneA C (s.next+1) block) (hs:s.next<C.toks.length) (hx:∀ l:List Int,l.length<=100000->goodN { x with kids:=l }=true):Ho (bodyP C block x f) s fun _ t=>Mv C 1 s t:=by
 refine ho_then (list_ho hC (paramP C) (fun t _ hin=>param_ho hC hin) hs) (fun l t m1=>?_)
 have e1:=m1.1.on
 refine ho_then (hb t e1 m1.1.in_) (fun b u m2=>make_ho ((m1.1.trans m2).le (by omega)) (by omega) (hx _ ?_))
 have:=hC.long
 have:=m1.1.in_
 have:=m1.2
 simp;omega
theorem member_ho (hC:CW C) {block:PM Nat} (hb:OneA C (s.next+1) block) (hs:s.next<C.toks.length):Ho (memberP C block) s fun _ t=>Mv C 1 s t:=by
 refine ho_look (ho_then (take_ho hC (by decide) hs) (fun b t ht=>ho_if (fun h=>?_) (fun h=>?_)))
 ·obtain ⟨m1,-⟩:=ht.1 h
  have e1:=m1.on
  refine ho_mono (body_ho (n:=nd 5 ⟨#[]⟩ []) hC (hb.le (by omega)) m1.in_ (fun l hl=>?_)) (fun _ u m2=>(m1.trans m2).le (by omega))
  unfold goodN nd
  simp only [decide_eq_true_iff]
  exact ⟨hl,by decide,by decide,by decide,by decide⟩
 ·obtain ⟨rfl,-⟩:=ht.2 (by simpa using h)
  refine ho_then (answer_ho hC hs) (fun n u h1=>ho_then (name_ho hC) (fun x v h2=>ho_look (ho_if (fun _=>?_) (fun _=>ho_if (fun _=>ho_thr) (fun _=>?_)))))
  ·have mm:=h1.2.trans h2.2.2
   refine ho_mono (body_ho (n:=n) hC (hb.le (by have:=mm.on;omega)) mm.in_ (fun l hl=>good_ty (n:=n) h1.1 hl h2.2.1 rfl rfl rfl)) (fun _ u m2=>(mm.trans m2).le (by omega))
  ·exact ho_then (want_ho hC (by decide) h2.2.2.in_) (fun _ z m6=>make_ho (((h1.2.trans h2.2.2).trans m6).le (by omega)) (by omega) (good_ty (n:=n) h1.1 (by show n.kids.length<=_;rw [h1.1.2.1];simp) h2.2.1 rfl rfl rfl))
theorem ancestor_ho (hC:CW C) (hs:s.next<C.toks.length):Ho (ancestorP C) s fun _ t=>Mv C 1 s t:=by
 refine ho_look (ho_then (want_ho hC (by decide) hs) (fun _ t m1=>ho_then (name_ho hC) (fun x u h2=>make_ho ((m1.trans h2.2.2).le (by omega)) (by omega) (good_nd _ h2.2.1 (by simp)))))
theorem members_ho (hC:CW C) {member:PM Nat} (a:Nat) (h1:OneA C a member):∀ (k:Nat) (l:List Nat) (s:PS),a<=s.next->s.next<C.toks.length->C.toks.length<=s.next+k->l.length<=s.next->Ho (memberL C member k l) s fun r t=>Mv C 1 s t/\r.length<=t.next
 | 0,l,s,ha,hs,hk,hl=>by omega
 | k+1,l,s,ha,hs,hk,hl=>by
  have hlen:=hC.long
  refine ho_then (cap_ho (by omega)) (fun _ t0 h0=>?_)
  subst h0
  refine ho_then (take_ho hC (by decide) hs) (fun b t ht=>ho_if (fun hb=>ho_ret ⟨(ht.1 hb).1,by have:=(ht.1 hb).1.on;omega⟩) (fun hb=>?_))
  obtain ⟨rfl,-⟩:=ht.2 (by simpa using hb)
  refine ho_then (more_ho (Mv.refl hs)) (fun _ t2 m2=>ho_then (h1 t2 (by have:=m2.on;omega) m2.in_) (fun x t3 m3=>?_))
  have e1:=m2.on
  have e2:=m3.on
  exact ho_mono (members_ho hC a h1 k (l ++ [x]) t3 (by omega) m3.in_ (by omega) (by simp;omega)) (fun r t4 h4=>⟨((m2.trans m3).trans h4.1).le (by omega),h4.2⟩)
theorem class_ho (hC:CW C) {block:PM Nat} (hb:OneA C (s.next+1) block) (hs:s.next<C.toks.length):Ho (classP C block) s fun _ t=>Mv C 1 s t:=by
 have hlen:=hC.long
 refine ho_look (ho_then (want_ho hC (by decide) hs) (fun _ t m1=>ho_then (name_ho hC) (fun x u h2=>ho_look ?_)))
 have mm:=m1.trans h2.2.2
 refine ho_then (P:=fun l v=>Mv C 1 s v/\l.length<=1) (ho_if (fun _=>ho_then (ancestor_ho hC mm.in_) (fun a v m3=>ho_ret ⟨(mm.trans m3).le (by omega),by simp⟩)) (fun _=>ho_ret ⟨mm.le (by omega),by simp⟩)) (fun l v h3=>?_)
 refine ho_then (want_ho hC (by decide) h3.1.in_) (fun _ y m4=>?_)
 have e3:=h3.1.on
 have e4:=m4.on
 have hm:OneA C y.next (memberP C block):=fun t ht hin=>member_ho hC (hb.le (by omega)) hin
 refine ho_then (members_ho hC y.next hm _ l y (Nat.le_refl _) m4.in_ (by omega) (by omega)) (fun r z h5=>make_ho ((h3.1.trans (m4.trans h5.1)).le (by omega)) (by omega) (good_nd _ h2.2.1 (by have:=h5.2;have:=h5.1.in_;omega)))
theorem classes_ho (hC:CW C) {cls:PM Nat} (h1:OneA C 0 cls):∀ (k:Nat) (l:List Nat) (s:PS),s.next<C.toks.length->C.toks.length<=s.next+k->l.length<=s.next->Ho (classL C cls k l) s fun r t=>Mv C 0 s t/\r.length<=t.next
 | 0,l,s,hs,hk,hl=>by omega
 | k+1,l,s,hs,hk,hl=>by
  have hlen:=hC.long
  refine ho_then (cap_ho (by omega)) (fun _ t0 h0=>?_)
  subst h0
  refine ho_look (ho_if (fun _=>ho_ret ⟨Mv.refl hs,hl⟩) (fun _=>ho_then (more_ho (Mv.refl hs)) (fun _ t2 m2=>ho_then (h1 t2 (by omega) m2.in_) (fun x t3 m3=>?_))))
  have e1:=m2.on
  have e2:=m3.on
  exact ho_mono (classes_ho hC h1 k (l ++ [x]) t3 m3.in_ (by omega) (by simp;omega)) (fun r t4 h4=>⟨((m2.trans m3).trans h4.1).le (by omega),h4.2⟩)
theorem program_ho (hC:CW C) {block:PM Nat} (hb:OneA C 1 block):Ho (programP C block) ⟨0,0,0,[]⟩ fun _ _=>True:=by
 have hlen:=hC.long
 have h0:=hC.some_
 refine ho_look (ho_then (classes_ho hC (fun t _ hin=>class_ho hC (hb.le (by omega)) hin) _ [] _ h0 (by show _<=0+_;omega) (by simp)) (fun l t h=>ho_if (fun _=>trivial) (fun hl=>?_)))
 have:=h.2
 refine ho_then (make_ho (d:=1) (s0:=⟨0,0,0,[]⟩) ⟨by show 0+1<=t.next;omega,h.1.in_,h.1.deep⟩ (by omega) (good_nd _ (by decide) (by have:=h.1.in_;omega))) (fun _ _ _=>ho_ret trivial)
theorem parse_ends (hC:CW C):parseP C ≠ .out:=by
 have h:=program_ho hC (block:=runG C C.fuel .block) (fun t ht hin=>run_ho hC _ .block t trivial hin (by show _+0<20*C.toks.length+40;omega))
 intro e
 unfold Ho at h
 unfold parseP at e
 rw [e] at h
 exact h
end
end Go.Proofs.YtfehpdliobapfaaGreatDoor
namespace Go.Proofs.YtfehpdliobapfaaGreatDoor
structure Alike (C E:PC):Prop where
 len:C.toks.length=E.toks.length
 kind:∀ i,(C.tok i).1=(E.tok i).1
 ws:C.ws=E.ws
 name:C.name=E.name
 int:C.int=E.int
 flt:C.flt=E.flt
 unq:C.unq=E.unq
structure EqN (x y:Nd):Prop where
 kind:x.kind=y.kind
 kids:x.kids=y.kids
 text:x.text=y.text
 B:x.B=y.B
 N:x.N=y.N
 D:x.D=y.D
 M:x.M=y.M
 num:x.num=y.num
 ends:x.ends.length=y.ends.length
inductive EqL:List Nd->List Nd->Prop
 | nil:EqL [] []
 | cons {x y:Nd} {l m:List Nd} (h:EqN x y) (t:EqL l m):EqL (x :: l) (y :: m)
theorem EqL.len {l m:List Nd} (h:EqL l m):l.length=m.length:=by
 induction h with
 | nil=>rfl
 | cons _ _ ih=>simp [ih]
theorem EqL.app {l m l' m':List Nd} (h:EqL l m) (h':EqL l' m'):EqL (l ++ l') (m ++ m'):=by
 induction h with
 | nil=>exact h'
 | cons hx _ ih=>exact .cons hx ih
structure EqS (s t:PS):Prop where
 next:s.next=t.next
 deep:s.deep=t.deep
 over:s.over=t.over
 made:EqL s.made t.made
def EqR {α β : Type} (R : α -> β -> Prop):PR α -> PR β -> Prop
 | .ok a s,.ok b t=>R a b/\EqS s t
 | .bad c _,.bad d _=>c=d/\c≠0
 | .out,.out=>True
 | _,_=>False
def EqM {α β : Type} (R : α -> β -> Prop) (m:PM α) (n:PM β):Prop:=∀ s t,EqS s t->EqR R (m s) (n t)
section
variable {α β γ δ : Type} {R : α -> β -> Prop} {S : γ -> δ -> Prop} {C E:PC}
theorem EqN.rfl_ (x:Nd):EqN x x:=⟨rfl,rfl,rfl,rfl,rfl,rfl,rfl,rfl,rfl⟩
theorem eq_bnd {m:PM α} {n:PM β} {k : α -> PM γ} {l : β -> PM δ} (h:EqM R m n) (hk:∀ a b,R a b->EqM S (k a) (l b)):EqM S (bnd m k) (bnd n l):=fun s t hs=>by
 have:=h s t hs
 unfold bnd
 revert this
 cases m s<;>cases n t<;>intro h1<;>first|exact hk _ _ h1.1 _ _ h1.2|exact h1.elim|exact h1
theorem eq_look {f:PS -> α} {g:PS -> β} {k : α -> PM γ} {l : β -> PM δ} (h:∀ s t,EqS s t->R (f s) (g t)) (hk:∀ a b,R a b->EqM S (k a) (l b)):EqM S (look f k) (look g l):=fun s t hs=>hk _ _ (h s t hs) s t hs
theorem eq_ret {a : α} {b : β} (h:R a b):EqM R (ret a) (ret b):=fun s t hs=>⟨h,hs⟩
theorem eq_thr {c:Nat} {z y:Int} (hc:c≠0):EqM R (thr c z) (thr c y):=fun s t hs=>⟨rfl,hc⟩
theorem eq_stop:EqM R stop stop:=fun s t hs=>trivial
theorem eq_ite {p:Prop} [Decidable p] {a b:PM α} {c d:PM β} (h1:p->EqM R a c) (h2:¬ p->EqM R b d):EqM R (if p then a else b) (if p then c else d):=by
 split
 ·exact h1 ‹_›
 ·exact h2 ‹_›
theorem eq_word (h:Alike C E) (k:Nat):∀ s t,EqS s t->wordS C k s=wordS E k t:=fun s t hs=>by unfold wordS PC.word;rw [h.ws,hs.next]
theorem eq_kind (h:Alike C E):∀ s t,EqS s t->kindS C s=kindS E t:=fun s t hs=>by unfold kindS;rw [hs.next,h.kind]
theorem eq_sees (h:Alike C E) (x:ByteArray):∀ s t,EqS s t->sees C x s=sees E x t:=fun s t hs=>by unfold sees;rw [eq_word h 0 s t hs]
theorem eq_read (h:Alike C E):EqM Eq (readP C) (readP E):=fun s t hs=>by
 unfold readP PC.word
 rw [hs.next,h.len,hs.over,h.ws]
 by_cases h1:t.next+1<E.toks.length
 ·rw [if_pos h1,if_pos h1]
  by_cases h2:t.over=0
  ·rw [if_pos h2,if_pos h2]
   exact ⟨rfl,rfl,hs.deep,rfl,hs.made⟩
  ·rw [if_neg h2,if_neg h2];exact ⟨rfl,h2⟩
 ·rw [if_neg h1,if_neg h1];trivial
theorem eq_take (h:Alike C E) (x:ByteArray):EqM Eq (takeP C x) (takeP E x):=by
 refine eq_look (eq_sees h x) ?_
 rintro a _ rfl
 refine eq_ite (fun _=>eq_bnd (eq_read h) fun _ _ _=>eq_ret rfl) (fun _=>eq_ret rfl)
def Any {α β : Type} (_ : α) (_ : β):Prop:=True
theorem eq_want (h:Alike C E) (x:ByteArray):EqM Eq (wantP C x) (wantP E x):=by
 refine eq_bnd (eq_take h x) ?_
 rintro a _ rfl
 exact eq_ite (fun _=>eq_ret rfl) (fun _=>eq_look (R:=Any) (fun _ _ _=>trivial) fun _ _ _=>eq_thr (by decide))
theorem eq_name (h:Alike C E):EqM Eq (nameP C) (nameP E):=by
 refine eq_look (eq_word h 0) ?_
 rintro a _ rfl
 rw [h.name]
 exact eq_ite (fun _=>eq_read h) (fun _=>eq_look (R:=Any) (fun _ _ _=>trivial) fun _ _ _=>eq_thr (by decide))
theorem eq_enter:EqM Eq enterP enterP:=fun s t hs=>⟨rfl,hs.next,by show s.deep+1=t.deep+1;rw [hs.deep],by show (if s.deep=60 then 6 else s.over)=if t.deep=60 then 6 else t.over;rw [hs.deep,hs.over],hs.made⟩
theorem eq_leave:EqM Eq leaveP leaveP:=fun s t hs=>by
 unfold leaveP
 rw [hs.deep]
 by_cases h1:t.deep=0
 ·rw [if_pos h1,if_pos h1];trivial
 ·rw [if_neg h1,if_neg h1];exact ⟨rfl,hs.next,rfl,hs.over,hs.made⟩
theorem eq_more (n:Nat):EqM Eq (moreP n) (moreP n):=fun s t hs=>⟨rfl,hs.next,hs.deep,by show (if n=64 then 2 else s.over)=if n=64 then 2 else t.over;rw [hs.over],hs.made⟩
theorem eq_cap (l:List Nat):EqM Eq (capP l) (capP l):=fun s t hs=>by
 unfold capP
 split
 ·exact ⟨rfl,hs⟩
 ·trivial
theorem eq_good {x y:Nd} (h:EqN x y):goodN x=goodN y:=by unfold goodN;rw [h.kids,h.text,h.N,h.M,h.ends]
theorem eq_make (h:Alike C E) {x y:Nd} (hx:EqN x y) (f g:Nat):EqM Eq (makeP C x f) (makeP E y g):=fun s t hs=>by
 have hl:=hs.made.len
 unfold makeP
 rw [hs.next,eq_good hx,hl]
 by_cases h1:t.next=0\/goodN y=false
 ·rw [if_pos h1,if_pos h1];trivial
 ·rw [if_neg h1,if_neg h1]
  by_cases h2:t.made.length=8192
  ·rw [if_pos h2,if_pos h2];exact ⟨rfl,by decide⟩
  ·rw [if_neg h2,if_neg h2]
   exact ⟨rfl,rfl,hs.deep,hs.over,hs.made.app (.cons ⟨hx.kind,hx.kids,hx.text,hx.B,hx.N,hx.D,hx.M,hx.num,hx.ends⟩ .nil)⟩
theorem eq_at (i:Nat):∀ s t,EqS s t->kindAt i s=kindAt i t:=fun s t hs=>by
 unfold kindAt
 have:=hs.made
 revert this
 generalize s.made=l;generalize t.made=m
 intro h
 induction h generalizing i with
 | nil=>rfl
 | cons hx _ ih=>cases i with
  | zero=>exact hx.kind
  | succ i=>simpa using ih i
theorem eq_bndE {m:PM α} {n:PM α} {k : α -> PM γ} {l : α -> PM δ} (h:EqM Eq m n) (hk:∀ a,EqM S (k a) (l a)):EqM S (bnd m k) (bnd n l):=eq_bnd h (by rintro a _ rfl;exact hk a)
theorem eq_bndN {m n:PM Nd} {k:Nd->PM γ} {l:Nd->PM δ} (h:EqM EqN m n) (hk:∀ a b,EqN a b->EqM S (k a) (l b)):EqM S (bnd m k) (bnd n l):=eq_bnd h hk
theorem eq_lookE {f g:PS -> α} {k : α -> PM γ} {l : α -> PM δ} (h:∀ s t,EqS s t->f s=g t) (hk:∀ a,EqM S (k a) (l a)):EqM S (look f k) (look g l):=eq_look h (by rintro a _ rfl;exact hk a)
theorem eq_lookA {f g:PS -> α} {k l : α -> PM γ} {S : γ -> γ -> Prop} (hk:∀ a b,EqM S (k a) (l b)):EqM S (look f k) (look g l):=eq_look (R:=Any) (fun _ _ _=>trivial) (fun a b _=>hk a b)
theorem eq_many (h:Alike C E) {one two:PM Nat} (ho:EqM Eq one two):∀ (k:Nat) (l:List Nat),EqM Eq (manyP C one k l) (manyP E two k l)
 | 0,l=>eq_stop
 | k+1,l=>by
  unfold manyP
  have ih:=eq_many h ho k
  refine eq_bndE (eq_cap _) fun _=>eq_bndE (eq_take h _) fun _=>eq_ite (fun _=>eq_bndE (eq_more _) fun _=>eq_bndE ho fun _=>ih _) (fun _=>eq_ret rfl)
theorem eq_list (h:Alike C E) {one two:PM Nat} (ho:EqM Eq one two):EqM Eq (listP C one) (listP E two):=by
 unfold listP
 rw [h.len]
 have:=fun l=>eq_many h ho E.toks.length l
 refine eq_bndE (eq_want h _) fun _=>eq_bndE (eq_take h _) fun _=>eq_ite (fun _=>eq_ret rfl) fun _=>eq_bndE ho fun _=>eq_bndE (this _) fun _=>eq_bndE (eq_want h _) fun _=>eq_ret rfl
theorem eq_join (h:Alike C E) {p q:PM Nat} (hp:EqM Eq p q) (n f g:Nat):EqM Eq (joinP C p n f) (joinP E q n g):=by
 unfold joinP
 repeat' (with_reducible first|exact eq_ret rfl|exact eq_thr (by decide)|exact eq_stop|assumption|exact eq_read h|exact eq_want h _|exact eq_name h|exact eq_enter|exact eq_leave|exact eq_more _|exact eq_cap _|exact eq_take h _|exact eq_make h (EqN.rfl_ _) _ _|refine eq_lookE (eq_word h _) (fun _=>?_)|refine eq_lookE (eq_kind h) (fun _=>?_)|refine eq_lookE (eq_sees h _) (fun _=>?_)|refine eq_lookE (eq_at _) (fun _=>?_)|refine eq_lookA (fun _ _=>?_)|refine eq_bndE ?_ (fun _=>?_)|refine eq_ite (fun _=>?_) (fun _=>?_))
theorem eq_joinL (h:Alike C E) {p q:PM Nat} (hp:EqM Eq p q) (c f g:Nat):∀ k n,EqM Eq (joinL C p c f k n) (joinL E q c g k n)
 | 0,n=>eq_stop
 | k+1,n=>by
  unfold joinL
  have ih:=eq_joinL h hp c f g k
  exact eq_lookE (eq_word h 0) fun _=>eq_ite (fun _=>eq_bndE (eq_join h hp _ _ _) fun _=>ih _) fun _=>eq_ret rfl
theorem eq_free {x y:Nd} (h:EqN x y):freeB x=freeB y:=by unfold freeB;rw [h.M,h.D,h.B]
theorem eq_typeB {x y:Nd} (h:EqN x y):typeB x=typeB y:=by unfold typeB;rw [h.M,h.D,h.N,h.ends]
theorem eq_alone {x y:Nd} (h:EqN x y):aloneB x=aloneB y:=by unfold aloneB;rw [h.M,h.B]
theorem eq_mark {x y:Nd} (h:EqN x y) (m:UInt8):EqN (markT x m) (markT y m):=⟨h.kind,h.kids,h.text,h.B,h.N,h.D,by show x.M.extract 0 x.D.toNat ++ _=y.M.extract 0 y.D.toNat ++ _;rw [h.M,h.D],h.num,h.ends⟩
theorem eq_base (h:Alike C E) (b:Nat):EqM EqN (baseP C b) (baseP E b):=by
 unfold baseP
 refine eq_bndE ?_ fun x=>?_
 ·skip
  repeat' (with_reducible first|exact eq_ret rfl|exact eq_thr (by decide)|exact eq_stop|assumption|exact eq_read h|exact eq_want h _|exact eq_name h|exact eq_enter|exact eq_leave|exact eq_more _|exact eq_cap _|exact eq_take h _|exact eq_make h (EqN.rfl_ _) _ _|refine eq_lookE (eq_word h _) (fun _=>?_)|refine eq_lookE (eq_kind h) (fun _=>?_)|refine eq_lookE (eq_sees h _) (fun _=>?_)|refine eq_lookE (eq_at _) (fun _=>?_)|refine eq_lookA (fun _ _=>?_)|refine eq_bndE ?_ (fun _=>?_)|refine eq_ite (fun _=>?_) (fun _=>?_))
 ·exact eq_lookA fun _ _=>eq_ret ⟨rfl,rfl,rfl,rfl,rfl,rfl,rfl,rfl,rfl⟩
theorem eq_null (h:Alike C E) {x y:Nd} (hx:EqN x y):EqM EqN (nullP C x) (nullP E y):=by
 unfold nullP
 rw [eq_typeB hx,eq_free hx]
 exact eq_lookA fun _ _=>eq_ite (fun _=>eq_stop) fun _=>eq_ite (fun _=>eq_thr (by decide)) fun _=>eq_bndE (eq_want h _) fun _=>eq_ret (eq_mark hx _)
theorem eq_array (h:Alike C E) {x y:Nd} (hx:EqN x y):EqM EqN (arrayP C x) (arrayP E y):=by
 unfold arrayP
 rw [eq_typeB hx,hx.D]
 refine eq_lookA fun _ _=>eq_bndE (eq_want h _) fun _=>eq_bndE (eq_want h _) fun _=>eq_ite (fun _=>eq_stop) fun _=>eq_ite (fun _=>eq_thr (by decide)) fun _=>eq_lookA fun _ _=>eq_ret ⟨hx.kind,hx.kids,hx.text,hx.B,hx.N,rfl,?_,hx.num,?_⟩
 ·show x.M ++ _=y.M ++ _;rw [hx.M]
 ·show (x.ends ++ _).length=(y.ends ++ _).length;simp [hx.ends]
theorem eq_innerL (h:Alike C E) (an:Bool) (f g:Nat):∀ (k:Nat) (x y:Nd),EqN x y->EqM EqN (innerL C an f k x) (innerL E an g k y)
 | 0,x,y,hx=>eq_stop
 | k+1,x,y,hx=>by
  unfold innerL
  have ih:=eq_innerL h an f g k
  refine eq_lookE (fun s t hs=>by rw [eq_word h 0 s t hs,eq_word h 1 s t hs]) fun p=>eq_ite (fun _=>eq_bndN (eq_null h hx) ih) fun _=>eq_ite (fun _=>eq_bndN (eq_array h hx) ih) fun _=>eq_lookA fun _ _=>eq_ret ⟨hx.kind,hx.kids,hx.text,hx.B,hx.N,hx.D,hx.M,hx.num,hx.ends⟩
theorem eq_inner (h:Alike C E) (an:Bool):EqM EqN (innerP C an) (innerP E an):=by
 unfold innerP
 rw [h.len]
 exact eq_lookA fun f g=>eq_lookE (eq_word h 0) fun _=>eq_bndN (eq_base h _) fun x y hx=>eq_innerL h an f g _ x y hx
theorem eq_typed (h:Alike C E):EqM EqN (typedP C) (typedP E):=by
 unfold typedP
 refine eq_lookA fun _ _=>eq_bndE (eq_take h _) fun _=>eq_ite (fun _=>eq_bndE (eq_want h _) fun _=>eq_bndN (eq_inner h _) fun x y hx=>eq_bndE (eq_want h _) fun _=>?_) fun _=>eq_inner h _
 rw [eq_typeB hx,eq_free hx]
 exact eq_ite (fun _=>eq_stop) fun _=>eq_ite (fun _=>eq_thr (by decide)) fun _=>eq_lookA fun _ _=>eq_ret (let m:=eq_mark hx 111;⟨m.kind,m.kids,m.text,m.B,m.N,m.D,m.M,m.num,m.ends⟩)
theorem eq_answer (h:Alike C E):EqM EqN (answerP C) (answerP E):=by
 unfold answerP
 exact eq_lookE (eq_sees h _) fun _=>eq_ite (fun _=>eq_lookA fun _ _=>eq_bndN (eq_base h _) fun x y hx=>eq_lookA fun _ _=>eq_ret ⟨hx.kind,hx.kids,hx.text,hx.B,hx.N,hx.D,hx.M,hx.num,hx.ends⟩) fun _=>eq_typed h
theorem eq_within (h:Alike C E) {v u:PM Nat} (hv:EqM Eq v u):EqM Eq (withinP C v) (withinP E u):=by
 unfold withinP
 repeat' (with_reducible first|exact eq_ret rfl|exact eq_thr (by decide)|exact eq_stop|assumption|exact eq_read h|exact eq_want h _|exact eq_name h|exact eq_enter|exact eq_leave|exact eq_more _|exact eq_cap _|exact eq_take h _|exact eq_make h (EqN.rfl_ _) _ _|refine eq_lookE (eq_word h _) (fun _=>?_)|refine eq_lookE (eq_kind h) (fun _=>?_)|refine eq_lookE (eq_sees h _) (fun _=>?_)|refine eq_lookE (eq_at _) (fun _=>?_)|refine eq_lookA (fun _ _=>?_)|refine eq_bndE ?_ (fun _=>?_)|refine eq_ite (fun _=>?_) (fun _=>?_))
theorem eq_lit (h:Alike C E) (k:Nat) (x:ByteArray):litN C k x=litN E k x:=by unfold litN;rw [h.int,h.flt,h.unq]
theorem eq_literal (h:Alike C E):EqM Eq (literalP C) (literalP E):=by
 unfold literalP
 refine eq_lookA fun _ _=>eq_lookE (eq_kind h) fun k=>eq_bndE (eq_read h) fun x=>?_
 rw [eq_lit h]
 exact eq_bndE (eq_make h (EqN.rfl_ _) _ _) fun _=>eq_ite (fun _=>eq_ret rfl) fun hn=>eq_thr hn
theorem eq_const (h:Alike C E) (x:ByteArray):EqM Eq (constP C x) (constP E x):=by
 unfold constP
 repeat' (with_reducible first|exact eq_ret rfl|exact eq_thr (by decide)|exact eq_stop|assumption|exact eq_read h|exact eq_want h _|exact eq_name h|exact eq_enter|exact eq_leave|exact eq_more _|exact eq_cap _|exact eq_take h _|exact eq_make h (EqN.rfl_ _) _ _|refine eq_lookE (eq_word h _) (fun _=>?_)|refine eq_lookE (eq_kind h) (fun _=>?_)|refine eq_lookE (eq_sees h _) (fun _=>?_)|refine eq_lookE (eq_at _) (fun _=>?_)|refine eq_lookA (fun _ _=>?_)|refine eq_bndE ?_ (fun _=>?_)|refine eq_ite (fun _=>?_) (fun _=>?_))
theorem eq_wrap (h:Alike C E) {v u:PM Nat} (hv:EqM Eq v u) (x:ByteArray):EqM Eq (wrapP C v x) (wrapP E u x):=by
 unfold wrapP
 have:=eq_within h hv
 repeat' (with_reducible first|exact eq_ret rfl|exact eq_thr (by decide)|exact eq_stop|assumption|exact eq_read h|exact eq_want h _|exact eq_name h|exact eq_enter|exact eq_leave|exact eq_more _|exact eq_cap _|exact eq_take h _|exact eq_make h (EqN.rfl_ _) _ _|refine eq_lookE (eq_word h _) (fun _=>?_)|refine eq_lookE (eq_kind h) (fun _=>?_)|refine eq_lookE (eq_sees h _) (fun _=>?_)|refine eq_lookE (eq_at _) (fun _=>?_)|refine eq_lookA (fun _ _=>?_)|refine eq_bndE ?_ (fun _=>?_)|refine eq_ite (fun _=>?_) (fun _=>?_))
theorem eq_input (h:Alike C E):EqM Eq (inputP C) (inputP E):=by
 unfold inputP
 repeat' (with_reducible first|exact eq_ret rfl|exact eq_thr (by decide)|exact eq_stop|assumption|exact eq_read h|exact eq_want h _|exact eq_name h|exact eq_enter|exact eq_leave|exact eq_more _|exact eq_cap _|exact eq_take h _|exact eq_make h (EqN.rfl_ _) _ _|refine eq_lookE (eq_word h _) (fun _=>?_)|refine eq_lookE (eq_kind h) (fun _=>?_)|refine eq_lookE (eq_sees h _) (fun _=>?_)|refine eq_lookE (eq_at _) (fun _=>?_)|refine eq_lookA (fun _ _=>?_)|refine eq_bndE ?_ (fun _=>?_)|refine eq_ite (fun _=>?_) (fun _=>?_))
theorem EqN.wth {x y:Nd} (h:EqN x y) (k:Int) (t:ByteArray) (l:List Int):EqN { x with kind:=k,text:=t,kids:=l } { y with kind:=k,text:=t,kids:=l }:=⟨rfl,rfl,rfl,h.B,h.N,h.D,h.M,h.num,h.ends⟩
theorem EqN.wk {x y:Nd} (h:EqN x y) (k:Int) (l:List Int):EqN { x with kind:=k,kids:=l } { y with kind:=k,kids:=l }:=⟨rfl,rfl,h.text,h.B,h.N,h.D,h.M,h.num,h.ends⟩
theorem EqN.wt_ {x y:Nd} (h:EqN x y) (k:Int) (t:ByteArray):EqN { x with kind:=k,text:=t } { y with kind:=k,text:=t }:=⟨rfl,h.kids,rfl,h.B,h.N,h.D,h.M,h.num,h.ends⟩
theorem EqN.wl {x y:Nd} (h:EqN x y) (l:List Int):EqN { x with kids:=l } { y with kids:=l }:=⟨h.kind,rfl,h.text,h.B,h.N,h.D,h.M,h.num,h.ends⟩
theorem eq_cast (h:Alike C E) {v u:PM Nat} (hv:EqM Eq v u):EqM Eq (castP C v) (castP E u):=by
 unfold castP
 exact eq_lookA fun _ _=>eq_bndE (eq_want h _) fun _=>eq_bndE (eq_want h _) fun _=>eq_bndN (eq_typed h) fun x y hx=>eq_bndE (eq_want h _) fun _=>eq_bndE (eq_within h hv) fun k=>eq_make h (hx.wk _ _) _ _
theorem eq_anew (h:Alike C E) {v u:PM Nat} (hv:EqM Eq v u):EqM Eq (anewP C v) (anewP E u):=by
 unfold anewP
 refine eq_lookA fun _ _=>eq_bndE (eq_want h _) fun _=>eq_bndN (eq_inner h _) fun x y hx=>eq_bndE (eq_take h _) fun _=>eq_ite (fun _=>eq_bndE hv fun k=>eq_bndE (eq_want h _) fun _=>eq_make h (hx.wk _ _) _ _) fun _=>eq_lookE (eq_sees h _) fun _=>?_
 rw [eq_alone hx]
 exact eq_ite (fun _=>eq_thr (by decide)) fun _=>eq_bndE (eq_list h hv) fun l=>eq_make h (hx.wk _ _) _ _
theorem eq_first (h:Alike C E) {v u:PM Nat} (hv:EqM Eq v u):EqM Eq (firstP C v) (firstP E u):=by
 unfold firstP
 exact eq_lookE (eq_kind h) fun _=>eq_ite (fun _=>eq_literal h) fun _=>eq_lookE (eq_word h 0) fun _=>eq_ite (fun _=>eq_within h hv) fun _=>eq_ite (fun _=>eq_const h _) fun _=>eq_ite (fun _=>eq_wrap h hv _) fun _=>eq_ite (fun _=>eq_input h) fun _=>eq_ite (fun _=>eq_cast h hv) fun _=>eq_ite (fun _=>eq_anew h hv) fun _=>eq_lookA fun _ _=>eq_bndE (eq_name h) fun _=>eq_make h (EqN.rfl_ _) _ _
theorem eq_had (h:Alike C E) {v u:PM Nat} (hv:EqM Eq v u) (n f g:Nat):EqM Eq (hadP C v n f) (hadP E u n g):=by
 unfold hadP
 have:=eq_list h hv
 repeat' (with_reducible first|exact eq_ret rfl|exact eq_thr (by decide)|exact eq_stop|assumption|exact eq_read h|exact eq_want h _|exact eq_name h|exact eq_enter|exact eq_leave|exact eq_more _|exact eq_cap _|exact eq_take h _|exact eq_make h (EqN.rfl_ _) _ _|refine eq_lookE (eq_word h _) (fun _=>?_)|refine eq_lookE (eq_kind h) (fun _=>?_)|refine eq_lookE (eq_sees h _) (fun _=>?_)|refine eq_lookE (eq_at _) (fun _=>?_)|refine eq_lookA (fun _ _=>?_)|refine eq_bndE ?_ (fun _=>?_)|refine eq_ite (fun _=>?_) (fun _=>?_))
theorem eq_askL (h:Alike C E) {v u:PM Nat} (hv:EqM Eq v u) (f g:Nat):∀ k n,EqM Eq (askL C v f k n) (askL E u g k n)
 | 0,n=>eq_stop
 | k+1,n=>by
  unfold askL
  have ih:=eq_askL h hv f g k
  exact eq_bndE (eq_take h _) fun _=>eq_ite (fun _=>eq_bndE (eq_make h (EqN.rfl_ _) _ _) fun _=>ih _) fun _=>eq_bndE (eq_take h _) fun _=>eq_ite (fun _=>eq_bndE hv fun _=>eq_bndE (eq_want h _) fun _=>eq_bndE (eq_make h (EqN.rfl_ _) _ _) fun _=>ih _) fun _=>eq_bndE (eq_take h _) fun _=>eq_ite (fun _=>eq_bndE (eq_had h hv _ _ _) fun _=>ih _) fun _=>eq_ret rfl
theorem eq_asked (h:Alike C E) {v u:PM Nat} (hv:EqM Eq v u):EqM Eq (askedP C v) (askedP E u):=by
 unfold askedP
 rw [h.len]
 exact eq_lookA fun _ _=>eq_bndE (eq_first h hv) fun _=>eq_askL h hv _ _ _ _
theorem eq_declares (h:Alike C E):∀ s t,EqS s t->declares C s=declares E t:=fun s t hs=>by unfold declares;rw [eq_word h 0 s t hs,eq_word h 1 s t hs,eq_word h 2 s t hs,h.name]
theorem eq_decl (h:Alike C E) {v u:PM Nat} (hv:EqM Eq v u):EqM Eq (declP C v) (declP E u):=by
 unfold declP
 exact eq_lookA fun _ _=>eq_bndN (eq_typed h) fun x y hx=>eq_bndE (eq_name h) fun _=>eq_bndE (eq_take h _) fun _=>eq_ite (fun _=>eq_bndE hv fun _=>eq_bndE (eq_want h _) fun _=>eq_make h (hx.wth _ _ _) _ _) fun _=>eq_bndE (eq_want h _) fun _=>eq_make h (hx.wt_ _ _) _ _
theorem eq_branch (h:Alike C E) {v u b d:PM Nat} (hv:EqM Eq v u) (hb:EqM Eq b d):EqM Eq (branchP C v b) (branchP E u d):=by
 unfold branchP
 have:=eq_within h hv
 repeat' (with_reducible first|exact eq_ret rfl|exact eq_thr (by decide)|exact eq_stop|assumption|exact eq_read h|exact eq_want h _|exact eq_name h|exact eq_enter|exact eq_leave|exact eq_more _|exact eq_cap _|exact eq_take h _|exact eq_make h (EqN.rfl_ _) _ _|refine eq_lookE (eq_word h _) (fun _=>?_)|refine eq_lookE (eq_kind h) (fun _=>?_)|refine eq_lookE (eq_sees h _) (fun _=>?_)|refine eq_lookE (eq_at _) (fun _=>?_)|refine eq_lookA (fun _ _=>?_)|refine eq_bndE ?_ (fun _=>?_)|refine eq_ite (fun _=>?_) (fun _=>?_))
theorem eq_loop (h:Alike C E) {v u b d:PM Nat} (hv:EqM Eq v u) (hb:EqM Eq b d):EqM Eq (loopP C v b) (loopP E u d):=by
 unfold loopP
 have:=eq_within h hv
 repeat' (with_reducible first|exact eq_ret rfl|exact eq_thr (by decide)|exact eq_stop|assumption|exact eq_read h|exact eq_want h _|exact eq_name h|exact eq_enter|exact eq_leave|exact eq_more _|exact eq_cap _|exact eq_take h _|exact eq_make h (EqN.rfl_ _) _ _|refine eq_lookE (eq_word h _) (fun _=>?_)|refine eq_lookE (eq_kind h) (fun _=>?_)|refine eq_lookE (eq_sees h _) (fun _=>?_)|refine eq_lookE (eq_at _) (fun _=>?_)|refine eq_lookA (fun _ _=>?_)|refine eq_bndE ?_ (fun _=>?_)|refine eq_ite (fun _=>?_) (fun _=>?_))
theorem eq_short (h:Alike C E) (k:Int):EqM Eq (shortP C k) (shortP E k):=by
 unfold shortP
 repeat' (with_reducible first|exact eq_ret rfl|exact eq_thr (by decide)|exact eq_stop|assumption|exact eq_read h|exact eq_want h _|exact eq_name h|exact eq_enter|exact eq_leave|exact eq_more _|exact eq_cap _|exact eq_take h _|exact eq_make h (EqN.rfl_ _) _ _|refine eq_lookE (eq_word h _) (fun _=>?_)|refine eq_lookE (eq_kind h) (fun _=>?_)|refine eq_lookE (eq_sees h _) (fun _=>?_)|refine eq_lookE (eq_at _) (fun _=>?_)|refine eq_lookA (fun _ _=>?_)|refine eq_bndE ?_ (fun _=>?_)|refine eq_ite (fun _=>?_) (fun _=>?_))
theorem eq_result (h:Alike C E) {v u:PM Nat} (hv:EqM Eq v u):EqM Eq (resultP C v) (resultP E u):=by
 unfold resultP
 repeat' (with_reducible first|exact eq_ret rfl|exact eq_thr (by decide)|exact eq_stop|assumption|exact eq_read h|exact eq_want h _|exact eq_name h|exact eq_enter|exact eq_leave|exact eq_more _|exact eq_cap _|exact eq_take h _|exact eq_make h (EqN.rfl_ _) _ _|refine eq_lookE (eq_word h _) (fun _=>?_)|refine eq_lookE (eq_kind h) (fun _=>?_)|refine eq_lookE (eq_sees h _) (fun _=>?_)|refine eq_lookE (eq_at _) (fun _=>?_)|refine eq_lookA (fun _ _=>?_)|refine eq_bndE ?_ (fun _=>?_)|refine eq_ite (fun _=>?_) (fun _=>?_))
theorem eq_print (h:Alike C E) {v u:PM Nat} (hv:EqM Eq v u):EqM Eq (printP C v) (printP E u):=by
 unfold printP
 have:=eq_within h hv
 repeat' (with_reducible first|exact eq_ret rfl|exact eq_thr (by decide)|exact eq_stop|assumption|exact eq_read h|exact eq_want h _|exact eq_name h|exact eq_enter|exact eq_leave|exact eq_more _|exact eq_cap _|exact eq_take h _|exact eq_make h (EqN.rfl_ _) _ _|refine eq_lookE (eq_word h _) (fun _=>?_)|refine eq_lookE (eq_kind h) (fun _=>?_)|refine eq_lookE (eq_sees h _) (fun _=>?_)|refine eq_lookE (eq_at _) (fun _=>?_)|refine eq_lookA (fun _ _=>?_)|refine eq_bndE ?_ (fun _=>?_)|refine eq_ite (fun _=>?_) (fun _=>?_))
theorem eq_super (h:Alike C E) {v u:PM Nat} (hv:EqM Eq v u):EqM Eq (superP C v) (superP E u):=by
 unfold superP
 have:=eq_list h hv
 repeat' (with_reducible first|exact eq_ret rfl|exact eq_thr (by decide)|exact eq_stop|assumption|exact eq_read h|exact eq_want h _|exact eq_name h|exact eq_enter|exact eq_leave|exact eq_more _|exact eq_cap _|exact eq_take h _|exact eq_make h (EqN.rfl_ _) _ _|refine eq_lookE (eq_word h _) (fun _=>?_)|refine eq_lookE (eq_kind h) (fun _=>?_)|refine eq_lookE (eq_sees h _) (fun _=>?_)|refine eq_lookE (eq_at _) (fun _=>?_)|refine eq_lookA (fun _ _=>?_)|refine eq_bndE ?_ (fun _=>?_)|refine eq_ite (fun _=>?_) (fun _=>?_))
theorem eq_valued (h:Alike C E) {v u:PM Nat} (hv:EqM Eq v u):EqM Eq (valuedP C v) (valuedP E u):=by
 unfold valuedP
 repeat' (with_reducible first|exact eq_ret rfl|exact eq_thr (by decide)|exact eq_stop|assumption|exact eq_read h|exact eq_want h _|exact eq_name h|exact eq_enter|exact eq_leave|exact eq_more _|exact eq_cap _|exact eq_take h _|exact eq_make h (EqN.rfl_ _) _ _|refine eq_lookE (eq_word h _) (fun _=>?_)|refine eq_lookE (eq_kind h) (fun _=>?_)|refine eq_lookE (eq_sees h _) (fun _=>?_)|refine eq_lookE (eq_at _) (fun _=>?_)|refine eq_lookA (fun _ _=>?_)|refine eq_bndE ?_ (fun _=>?_)|refine eq_ite (fun _=>?_) (fun _=>?_))
theorem eq_stat (h:Alike C E) {v u b d:PM Nat} (hv:EqM Eq v u) (hb:EqM Eq b d):EqM Eq (statP C v b) (statP E u d):=by
 unfold statP
 exact eq_lookE (eq_word h 0) fun _=>eq_ite (fun _=>hb) fun _=>eq_ite (fun _=>eq_branch h hv hb) fun _=>eq_ite (fun _=>eq_loop h hv hb) fun _=>eq_ite (fun _=>eq_short h _) fun _=>eq_ite (fun _=>eq_short h _) fun _=>eq_ite (fun _=>eq_result h hv) fun _=>eq_ite (fun _=>eq_print h hv) fun _=>eq_ite (fun _=>eq_super h hv) fun _=>eq_lookE (eq_declares h) fun _=>eq_ite (fun _=>eq_decl h hv) fun _=>eq_valued h hv
theorem eq_statL (h:Alike C E) {p q:PM Nat} (hp:EqM Eq p q):∀ (k:Nat) (l:List Nat),EqM Eq (statL C p k l) (statL E q k l)
 | 0,l=>eq_stop
 | k+1,l=>by
  unfold statL
  have ih:=eq_statL h hp k
  exact eq_bndE (eq_cap _) fun _=>eq_bndE (eq_take h _) fun _=>eq_ite (fun _=>eq_ret rfl) fun _=>eq_bndE hp fun _=>ih _
theorem eq_run (h:Alike C E):∀ (n:Nat) (g:PG),EqM Eq (runG C n g) (runG E n g)
 | 0,g=>eq_stop
 | n+1,g=>by
  have ih:=eq_run h n
  unfold runG
  cases g with
  | value =>
   show EqM Eq (bnd enterP fun _=>bnd (runG C n (.joined 1)) fun n=>bnd leaveP fun _=>ret n) (bnd enterP fun _=>bnd (runG E n (.joined 1)) fun n=>bnd leaveP fun _=>ret n)
   exact eq_bndE eq_enter fun _=>eq_bndE (ih _) fun _=>eq_bndE eq_leave fun _=>eq_ret rfl
  | joined c =>
   unfold stepG
   rw [h.len]
   exact eq_ite (fun _=>ih _) fun _=>eq_lookA fun _ _=>eq_bndE (ih _) fun _=>eq_joinL h (ih _) _ _ _ _ _
  | signed =>
   unfold stepG
   exact eq_lookE (eq_word h 0) fun _=>eq_ite (fun _=>eq_lookA fun _ _=>eq_bndE eq_enter fun _=>eq_bndE (eq_read h) fun _=>eq_bndE (ih _) fun _=>eq_bndE eq_leave fun _=>eq_make h (EqN.rfl_ _) _ _) fun _=>eq_asked h (ih _)
  | block =>
   unfold stepG
   rw [h.len]
   exact eq_lookA fun _ _=>eq_bndE eq_enter fun _=>eq_bndE (eq_want h _) fun _=>eq_bndE (eq_statL h (eq_stat h (ih _) (ih _)) _ _) fun _=>eq_bndE eq_leave fun _=>eq_make h (EqN.rfl_ _) _ _
theorem eq_param (h:Alike C E):EqM Eq (paramP C) (paramP E):=by
 unfold paramP
 exact eq_lookA fun _ _=>eq_bndN (eq_typed h) fun x y hx=>eq_bndE (eq_name h) fun _=>eq_make h (hx.wt_ _ _) _ _
theorem eq_body (h:Alike C E) {b d:PM Nat} (hb:EqM Eq b d) {x y:Nd} (hx:EqN x y) (f g:Nat):EqM Eq (bodyP C b x f) (bodyP E d y g):=by
 unfold bodyP
 exact eq_bndE (eq_list h (eq_param h)) fun _=>eq_bndE hb fun _=>eq_make h (hx.wl _) _ _
theorem eq_member (h:Alike C E) {b d:PM Nat} (hb:EqM Eq b d):EqM Eq (memberP C b) (memberP E d):=by
 unfold memberP
 refine eq_lookA fun _ _=>eq_bndE (eq_take h _) fun _=>eq_ite (fun _=>eq_body h hb (EqN.rfl_ _) _ _) fun _=>eq_bndN (eq_answer h) fun x y hx=>eq_bndE (eq_name h) fun _=>eq_lookE (eq_sees h _) fun _=>eq_ite (fun _=>eq_body h hb (hx.wt_ _ _) _ _) fun _=>?_
 rw [hx.B]
 exact eq_ite (fun _=>eq_thr (by decide)) fun _=>eq_bndE (eq_want h _) fun _=>eq_make h (by exact ⟨rfl,hx.kids,rfl,rfl,hx.N,hx.D,hx.M,hx.num,hx.ends⟩) _ _
theorem eq_ancestor (h:Alike C E):EqM Eq (ancestorP C) (ancestorP E):=by
 unfold ancestorP
 repeat' (with_reducible first|exact eq_ret rfl|exact eq_thr (by decide)|exact eq_stop|assumption|exact eq_read h|exact eq_want h _|exact eq_name h|exact eq_enter|exact eq_leave|exact eq_more _|exact eq_cap _|exact eq_take h _|exact eq_make h (EqN.rfl_ _) _ _|refine eq_lookE (eq_word h _) (fun _=>?_)|refine eq_lookE (eq_kind h) (fun _=>?_)|refine eq_lookE (eq_sees h _) (fun _=>?_)|refine eq_lookE (eq_at _) (fun _=>?_)|refine eq_lookA (fun _ _=>?_)|refine eq_bndE ?_ (fun _=>?_)|refine eq_ite (fun _=>?_) (fun _=>?_))
theorem eq_memberL (h:Alike C E) {p q:PM Nat} (hp:EqM Eq p q):∀ (k:Nat) (l:List Nat),EqM Eq (memberL C p k l) (memberL E q k l)
 | 0,l=>eq_stop
 | k+1,l=>by
  unfold memberL
  have ih:=eq_memberL h hp k
  exact eq_bndE (eq_cap _) fun _=>eq_bndE (eq_take h _) fun _=>eq_ite (fun _=>eq_ret rfl) fun _=>eq_bndE (eq_more _) fun _=>eq_bndE hp fun _=>ih _
theorem eq_class (h:Alike C E) {b d:PM Nat} (hb:EqM Eq b d):EqM Eq (classP C b) (classP E d):=by
 unfold classP
 rw [h.len]
 exact eq_lookA fun _ _=>eq_bndE (eq_want h _) fun _=>eq_bndE (eq_name h) fun _=>eq_lookE (eq_sees h _) fun _=>eq_bndE (eq_ite (fun _=>eq_bndE (eq_ancestor h) fun _=>eq_ret rfl) fun _=>eq_ret rfl) fun _=>eq_bndE (eq_want h _) fun _=>eq_bndE (eq_memberL h (eq_member h hb) _ _) fun _=>eq_make h (EqN.rfl_ _) _ _
theorem eq_classL (h:Alike C E) {p q:PM Nat} (hp:EqM Eq p q):∀ (k:Nat) (l:List Nat),EqM Eq (classL C p k l) (classL E q k l)
 | 0,l=>eq_stop
 | k+1,l=>by
  unfold classL
  have ih:=eq_classL h hp k
  exact eq_bndE (eq_cap _) fun _=>eq_lookE (eq_kind h) fun _=>eq_ite (fun _=>eq_ret rfl) fun _=>eq_bndE (eq_more _) fun _=>eq_bndE hp fun _=>ih _
theorem eq_program (h:Alike C E) {b d:PM Nat} (hb:EqM Eq b d):EqM Eq (programP C b) (programP E d):=by
 unfold programP
 rw [h.len]
 refine eq_lookA fun _ _=>eq_bndE (eq_classL h (eq_class h hb) _ _) fun _=>eq_ite (fun _=>?_) fun _=>eq_bndE (eq_make h (EqN.rfl_ _) _ _) fun _=>eq_ret rfl
 exact fun s t hs=>⟨rfl,hs.next,hs.deep,hs.over,hs.made.app (.cons (EqN.rfl_ _) .nil)⟩
theorem eq_parse (h:Alike C E):EqR Eq (parseP C) (parseP E):=by
 unfold parseP PC.fuel
 rw [h.len]
 exact eq_program h (eq_run h _ _) _ _ ⟨rfl,rfl,rfl,.nil⟩
theorem alike_refl (C:PC):Alike C C:=⟨rfl,fun _=>rfl,rfl,rfl,rfl,rfl,rfl⟩
theorem parse_code {c:Nat} {z:Int} (h:parseP C = .bad c z):c≠0:=by
 have:=eq_parse (alike_refl C)
 rw [h] at this
 exact this.2
end
end Go.Proofs.YtfehpdliobapfaaGreatDoor
