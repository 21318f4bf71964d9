/-
  Plain words for layer 5: a program's text, as a function on trees. No program is named here.
-/
import Derived.Test.YtppagjhmlgkamaaGreatDoorCz5
import Derived.Test.YtppagjhmlgkamaaGreatDoorCnAr
import Derived.Lib.ItoaNum
namespace Go.Proofs.YtppagjhmlgkamaaGreatDoor
open Go Go.RowKit

/-- Texts with a gap ahead of each; with a gap between each two. -/
def restT (gap : List UInt8) : List (List UInt8) → List UInt8
  | [] => []
  | a :: r => gap ++ a ++ restT gap r
def gapT (gap : List UInt8) : List (List UInt8) → List UInt8
  | [] => []
  | a :: r => a ++ restT gap r
theorem gapT_nil (gap : List UInt8) : gapT gap [] = [] := rfl
theorem gapT_cons (gap a : List UInt8) (r : List (List UInt8)) : gapT gap (a :: r) = a ++ restT gap r := rfl
def hdT' (ts : List (List UInt8)) : List UInt8 := ts.headD []

/-- What stands between the parts of an operation of two. -/
def betwT : List (List UInt8) := [[], [], [], [], [], [], [], [], [32, 43, 32], [32, 45, 32], [32, 42, 32], [32, 47, 32], [32, 37, 32], [32, 60, 32], [32, 61, 61, 32], [32, 38, 32], [32, 124, 32]]
def betw (op : Int) : List UInt8 := betwT.getD op.toNat []

/-- An expression's text, of its parts' texts. -/
def exX (op n : Int) (s : List UInt8) (ts : List (List UInt8)) : List UInt8 :=
  if op = 1 then Lib.itoa n
  else if op = 2 then s
  else if op = 3 then [99, 108, 111, 99, 107]
  else if op = 4 then s ++ ([91] ++ gapT [44, 32] ts ++ [93])
  else if op = 5 then s ++ ([40] ++ gapT [44, 32] ts ++ [41])
  else if op = 6 then [45] ++ hdT' ts
  else if op = 7 then [33] ++ hdT' ts
  else [40] ++ gapT (betw op) ts ++ [41]
def ES.txs : ES → List (List UInt8)
  | .nil => []
  | .cons op n s l r => exX op n s.data.toList l.txs :: r.txs

/-- A block behind a line that was begun, its end left open. -/
def blkT (k : Nat) (b : List UInt8) : List UInt8 := [32, 123, 10] ++ b ++ tabsT k ++ [125]
/-- A statement's text, of its parts' texts, k blocks in: without the tabs ahead of it, and its last line's end. -/
def stX (k : Nat) (op : Int) (s : List UInt8) (n : Int) (ts : List (List UInt8)) (b e : List UInt8) (ne : Bool) : List UInt8 :=
  if op = 1 then s ++ ([32, 61, 32] ++ hdT' ts ++ [59])
  else if op = 2 then s ++ [91] ++ hdT' ts ++ [93] ++ ([32, 61, 32] ++ hdT' ts.tail ++ [59])
  else if op = 3 then [97, 114, 114, 97, 121, 32] ++ s ++ [32] ++ Lib.itoa n ++ [59]
  else if op = 4 then [105, 110, 112, 117, 116, 32] ++ s ++ [59]
  else if op = 5 then [112, 114, 105, 110, 116, 32] ++ hdT' ts ++ [59]
  else if op = 6 then [107, 101, 101, 112, 32] ++ hdT' ts ++ [59]
  else if op = 7 then [105, 102, 32] ++ hdT' ts ++ blkT k b ++ (if ne then [32, 101, 108, 115, 101] ++ blkT k e else [])
  else if op = 8 then [119, 104, 105, 108, 101, 32] ++ hdT' ts ++ blkT k b
  else [114, 101, 116, 117, 114, 110, 32] ++ hdT' ts ++ [59]
def SS.txt : SS → Nat → List UInt8
  | .nil, _ => []
  | .cons op s n l b e r, k => tabsT k ++ stX k op s.data.toList n l.txs (b.txt (k + 1)) (e.txt (k + 1)) (decide (0 < e.len)) ++ [10] ++ r.txt k
def fnX (f : Fn) : List UInt8 := [102, 117, 110, 99, 32] ++ f.s.data.toList ++ [40] ++ gapT [44, 32] (f.ps.map fun s => s.data.toList) ++ [41] ++ blkT 0 (f.b.txt 1) ++ [10]
def fsX : List Fn → List UInt8
  | [] => []
  | f :: r => fnX f ++ fsX r
/-- A right program's text. -/
def Pg.txt (p : Pg) : List UInt8 := fsX p.fs ++ p.m.txt 0

/-- What the writer asks of what it writes: no part is lacking. -/
def ES.wr : ES → Prop
  | .nil => True
  | .cons op _ _ l r => ((1 ≤ op ∧ op ≤ 16) ∧ (op = 6 ∨ op = 7 → 1 ≤ l.len)) ∧ l.wr ∧ r.wr
def SS.wr : SS → Prop
  | .nil => True
  | .cons op _ _ l b e r => ((1 ≤ op ∧ op ≤ 9) ∧ (op ≠ 3 → op ≠ 4 → 1 ≤ l.len) ∧ (op = 2 → 2 ≤ l.len)) ∧ l.wr ∧ b.wr ∧ e.wr ∧ r.wr

end Go.Proofs.YtppagjhmlgkamaaGreatDoor
