/-
  Plain mathematics for the statements of layer 1 (wrap): what Parse tells, as a function on lists of bytes. No program is named here.
-/
import Derived.WalkKit
import Derived.RowKit
import Derived.Test.YtaajolemjgdfnaaDoorTreeJ
namespace Go.Proofs.YtaajolemjgdfnaaDoor
open Go

/-- The digits one by one, as Parse goes through them: the number so far, and what is left of the text. -/
def pgo : Int → List UInt8 → Option Int
  | n, [] => some n
  | n, c :: l => if 48 ≤ (c.toNat : Int) ∧ (c.toNat : Int) ≤ 57 ∧ n ≤ (9223372036854775807 - ((c.toNat : Int) - 48)) / 10 then pgo (n * 10 + ((c.toNat : Int) - 48)) l else none

/-- What Parse tells of a text's bytes. -/
def parseL (l : List UInt8) : Option Int := if l = [] ∨ (1 < l.length ∧ l.head? = some 48) then none else pgo 0 l
def pval (l : List UInt8) : Int := (parseL l).getD 0
def pok (l : List UInt8) : Bool := (parseL l).isSome

theorem pgo_cons (n : Int) (c : UInt8) (l : List UInt8) : pgo n (c :: l) = if 48 ≤ (c.toNat : Int) ∧ (c.toNat : Int) ≤ 57 ∧ n ≤ (9223372036854775807 - ((c.toNat : Int) - 48)) / 10 then pgo (n * 10 + ((c.toNat : Int) - 48)) l else none := by
  rw [pgo]

theorem pgo_bounds : ∀ (l : List UInt8) (n v : Int), 0 ≤ n → n ≤ 9223372036854775807 → pgo n l = some v → 0 ≤ v ∧ v ≤ 9223372036854775807
  | [], n, v, h0, h1, h => by
    have : n = v := by simpa [pgo] using h
    omega
  | c :: l, n, v, h0, h1, h => by
    rw [pgo_cons] at h
    split at h
    · rename_i hc
      exact pgo_bounds l _ v (by omega) (by omega) h
    · cases h

theorem parseL_bounds {l : List UInt8} {v : Int} (h : parseL l = some v) : 0 ≤ v ∧ v ≤ 9223372036854775807 := by
  unfold parseL at h
  split at h
  · cases h
  · exact pgo_bounds l 0 v (by omega) (by omega) h

theorem parse_none {l : List UInt8} (h : parseL l = none) : pval l = 0 ∧ pok l = false := by simp [pval, pok, h]
theorem parse_some {l : List UInt8} {v : Int} (h : parseL l = some v) : pval l = v ∧ pok l = true := by simp [pval, pok, h]

/- The operations of A1, on numbers of 64 bits. -/
def gAdd (a b : Int) : Int := RowKit.wrap64 (a + b)
def gSub (a b : Int) : Int := RowKit.wrap64 (a - b)
def gMul (a b : Int) : Int := RowKit.wrap64 (a * b)
def gNeg (a : Int) : Int := RowKit.wrap64 (-a)
def g01 (p : Bool) : Int := if p then 1 else 0
def gNot (a : Int) : Int := g01 (a == 0)
def gLess (a b : Int) : Int := g01 (decide (a < b))
def gSame (a b : Int) : Int := g01 (a == b)
def gAnd (a b : Int) : Int := bits BinOp.and IntKind.i64 a b
def gOr (a b : Int) : Int := bits BinOp.or IntKind.i64 a b
def gDiv (a b : Int) : Int := if b = 0 then 0 else RowKit.wrap64 (a.tdiv b)
def gMod (a b : Int) : Int := if b = 0 then 0 else a.tmod b
def nz (b : Int) : Bool := !(b == 0)

/-- A number of 64 bits. -/

instance (a : Int) : Decidable (I64 a) := by unfold I64; infer_instance

theorem drop_at (s : ByteArray) (k : Nat) (h : k < s.size) : s.data.toList.drop k = s[k] :: s.data.toList.drop (k + 1) := by
  rw [List.drop_eq_getElem_cons (by simpa using h)]; rfl

end Go.Proofs.YtaajolemjgdfnaaDoor
