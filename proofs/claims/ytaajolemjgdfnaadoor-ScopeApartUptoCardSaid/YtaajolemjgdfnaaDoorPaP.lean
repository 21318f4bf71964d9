/-
  What package parse tells, as functions on tokens (plain). 'out' says that the count of steps handed in was too small: no real input comes there.
-/
import Derived.Test.YtaajolemjgdfnaaDoorLexP
import Derived.Test.YtaajolemjgdfnaaDoorTreeN
import Derived.Test.YtaajolemjgdfnaaDoorTreeO
import Derived.Test.YtaajolemjgdfnaaDoorPnP
namespace Go.Proofs.YtaajolemjgdfnaaDoor
open Go

inductive PR (α : Type) where
  | ok (v : α) (r : List Tok)
  | bad (p c : Nat)
  | out
def PR.bind {α β : Type} (x : PR α) (f : α → List Tok → PR β) : PR β :=
  match x with
  | .ok v r => f v r
  | .bad p c => .bad p c
  | .out => .out
def hdT (ts : List Tok) : Tok := ts.headD ⟨4, [], 0⟩
def isT (ts : List Tok) (s : List UInt8) : Bool := decide ((hdT ts).text = s)
def baT (l : List UInt8) : ByteArray := ⟨l.toArray⟩

/-- An expression; a statement. -/
structure Ex where
  op : Int
  n : Int
  s : ByteArray
  l : ES
def toES (e : Ex) (r : ES) : ES := .cons e.op e.n e.s e.l r
def exES : List Ex → ES
  | [] => .nil
  | e :: r => toES e (exES r)
structure Sm where
  op : Int
  s : ByteArray
  n : Int
  l : ES
  x : SS
  y : SS
def toSS (t : Sm) (r : SS) : SS := .cons t.op t.s t.n t.l t.x t.y r
def smSS : List Sm → SS
  | [] => .nil
  | t :: r => toSS t (smSS r)
def nilS : ByteArray := ⟨#[]⟩

def wantT (s : List UInt8) (ts : List Tok) : PR Unit := if isT ts s then .ok () ts.tail else .bad (hdT ts).at_ 2
def enterT (s : List UInt8) (o : Nat) (ts : List Tok) : PR Unit := if isT ts s then (if o = 256 then .bad (hdT ts).at_ 3 else .ok () ts.tail) else .bad (hdT ts).at_ 2
def nameT (ts : List Tok) : PR ByteArray := if nameB (baT (hdT ts).text) then .ok (baT (hdT ts).text) ts.tail else .bad (hdT ts).at_ 2
def numT (low high : Int) (ts : List Tok) : PR Int :=
  if (hdT ts).kind = 2 then
    match parseL (hdT ts).text with
    | some n => if n < low ∨ high < n then .bad (hdT ts).at_ 1 else .ok n ts.tail
    | none => .bad (hdT ts).at_ 1
  else .bad (hdT ts).at_ 2
/-- An operation of two, and how strongly it binds. -/
def opT (l : List UInt8) : Int × Nat :=
  if l = [124] then (16, 1) else if l = [38] then (15, 2) else if l = [61, 61] then (14, 3) else if l = [60] then (13, 3) else if l = [43] then (8, 4) else if l = [45] then (9, 4)
  else if l = [42] then (10, 5) else if l = [47] then (11, 5) else if l = [37] then (12, 5) else (0, 0)

section
variable {α : Type}
def moreT (one : List Tok → PR α) : Nat → List α → List Tok → PR (List α)
  | 0, _, _ => .out
  | m + 1, l, ts =>
    if isT ts [44] then (if l.length = 8 then .bad (hdT ts.tail).at_ 10 else (one ts.tail).bind fun x r => moreT one m (l ++ [x]) r)
    else (wantT [41] ts).bind fun _ r => .ok l r
def severalT (one : List Tok → PR α) (m o : Nat) (ts : List Tok) : PR (List α) :=
  (enterT [40] o ts).bind fun _ r => if isT r [41] then (wantT [41] r).bind fun _ r => .ok [] r else (one r).bind fun x r => moreT one m [x] r
end

section
variable (ex : Nat → Nat → List Tok → PR Ex)
def withinT (a b : List UInt8) (o : Nat) (ts : List Tok) : PR Ex :=
  (enterT a o ts).bind fun _ r => (ex 1 (o + 1) r).bind fun e r => (wantT b r).bind fun _ r => .ok e r
def namedT (m o : Nat) (ts : List Tok) : PR Ex :=
  (nameT ts).bind fun s r =>
    if isT r [91] then (withinT ex [91] [93] o r).bind fun e r => .ok ⟨4, 0, s, toES e .nil⟩ r
    else if isT r [40] then (severalT (ex 1 (o + 1)) m o r).bind fun l r => .ok ⟨5, 0, s, exES l⟩ r
    else .ok ⟨2, 0, s, .nil⟩ r
def singleT : Nat → Nat → List Tok → PR Ex
  | 0, _, _ => .out
  | m + 1, o, ts =>
    if isT ts [45] then (enterT [45] o ts).bind fun _ r => (singleT m (o + 1) r).bind fun e r => .ok ⟨6, 0, nilS, toES e .nil⟩ r
    else if isT ts [33] then (enterT [33] o ts).bind fun _ r => (singleT m (o + 1) r).bind fun e r => .ok ⟨7, 0, nilS, toES e .nil⟩ r
    else if isT ts [40] then withinT ex [40] [41] o ts
    else if isT ts [99, 108, 111, 99, 107] then .ok ⟨3, 0, nilS, .nil⟩ ts.tail
    else if (hdT ts).kind = 2 then (numT 0 9223372036854775807 ts).bind fun n r => .ok ⟨1, n, nilS, .nil⟩ r
    else namedT ex (m + 1) o ts
def loopT : Nat → Nat → Ex → Nat → List Tok → PR Ex
  | 0, _, _, _, _ => .out
  | m + 1, least, e, o, ts =>
    if (opT (hdT ts).text).2 < least then .ok e ts
    else (ex ((opT (hdT ts).text).2 + 1) o ts.tail).bind fun e2 r => loopT m least ⟨(opT (hdT ts).text).1, 0, nilS, toES e (toES e2 .nil)⟩ o r
end
/-- An expression whose operations of two bind at least that strongly; so many are open. -/
def exT : Nat → Nat → Nat → List Tok → PR Ex
  | 0, _, _, _ => .out
  | n + 1, least, o, ts => (singleT (exT n) (n + 1) o ts).bind fun e r => loopT (exT n) (n + 1) least e o r

def bodyT (one : List Tok → PR Sm) : Nat → List Sm → List Tok → PR (List Sm)
  | 0, _, _ => .out
  | m + 1, l, ts => if isT ts [125] then (wantT [125] ts).bind fun _ r => .ok l r else (one ts).bind fun t r => bodyT one m (l ++ [t]) r
def blockT (one : List Tok → PR Sm) (m o : Nat) (ts : List Tok) : PR (List Sm) := (enterT [123] o ts).bind fun _ r => bodyT one m [] r
def tellT (n : Nat) (op : Int) (o : Nat) (ts : List Tok) : PR Sm := (exT n 1 o ts).bind fun e r => .ok ⟨op, nilS, 0, toES e .nil, .nil, .nil⟩ r
def storeT (n o : Nat) (ts : List Tok) : PR Sm :=
  (nameT ts).bind fun s r =>
    if isT r [91] then (withinT (exT n) [91] [93] o r).bind fun i r => (wantT [61] r).bind fun _ r => (exT n 1 o r).bind fun e r => .ok ⟨2, s, 0, toES i (toES e .nil), .nil, .nil⟩ r
    else (wantT [61] r).bind fun _ r => (exT n 1 o r).bind fun e r => .ok ⟨1, s, 0, toES e .nil, .nil, .nil⟩ r
def semiT (x : PR Sm) : PR Sm := x.bind fun t r => (wantT [59] r).bind fun _ r => .ok t r
/-- A statement. -/
def smT : Nat → Nat → List Tok → PR Sm
  | 0, _, _ => .out
  | n + 1, o, ts =>
    if isT ts [97, 114, 114, 97, 121] then semiT ((nameT ts.tail).bind fun s r => (numT 1 4096 r).bind fun k r => .ok ⟨3, s, k, .nil, .nil, .nil⟩ r)
    else if isT ts [105, 110, 112, 117, 116] then semiT ((nameT ts.tail).bind fun s r => .ok ⟨4, s, 0, .nil, .nil, .nil⟩ r)
    else if isT ts [112, 114, 105, 110, 116] then semiT (tellT (n + 1) 5 o ts.tail)
    else if isT ts [107, 101, 101, 112] then semiT (tellT (n + 1) 6 o ts.tail)
    else if isT ts [114, 101, 116, 117, 114, 110] then semiT (tellT (n + 1) 9 o ts.tail)
    else if isT ts [105, 102] then
      (tellT (n + 1) 7 o ts.tail).bind fun t r => (blockT (smT n (o + 1)) (n + 1) o r).bind fun b r =>
        if isT r [101, 108, 115, 101] then (blockT (smT n (o + 1)) (n + 1) o r.tail).bind fun c r => .ok ⟨7, nilS, 0, t.l, smSS b, smSS c⟩ r
        else .ok ⟨7, nilS, 0, t.l, smSS b, .nil⟩ r
    else if isT ts [119, 104, 105, 108, 101] then (tellT (n + 1) 8 o ts.tail).bind fun t r => (blockT (smT n (o + 1)) (n + 1) o r).bind fun b r => .ok ⟨8, nilS, 0, t.l, smSS b, .nil⟩ r
    else semiT (storeT (n + 1) o ts)
def outerT (n o : Nat) (ts : List Tok) : PR Sm := (smT n o ts).bind fun t r => if 64 < (toSS t .nil).deep then .bad (hdT ts).at_ 3 else .ok t r
def funcT (n : Nat) (ts : List Tok) : PR Fn :=
  (wantT [102, 117, 110, 99] ts).bind fun _ r => (nameT r).bind fun s r => (severalT nameT n 0 r).bind fun ps r => (blockT (outerT n 1) n 0 r).bind fun b r => .ok ⟨s, ps, smSS b⟩ r
def funcsT (n : Nat) : Nat → List Fn → List Tok → PR (List Fn)
  | 0, _, _ => .out
  | m + 1, l, ts => if isT ts [102, 117, 110, 99] then (if l.length = 32 then .bad (hdT ts).at_ 10 else (funcT n ts).bind fun f r => funcsT n m (l ++ [f]) r) else .ok l ts
def mainT (n : Nat) : Nat → List Sm → List Tok → PR (List Sm)
  | 0, _, _ => .out
  | m + 1, l, ts => if (hdT ts).kind = 4 then .ok l ts else (outerT n 0 ts).bind fun t r => mainT n m (l ++ [t]) r
/-- A program. -/
def progT (n : Nat) (ts : List Tok) : PR Pg := (funcsT n n [] ts).bind fun fs r => (mainT n n [] r).bind fun m r => .ok ⟨fs, smSS m⟩ r

end Go.Proofs.YtaajolemjgdfnaaDoor
