/-
  What names a program has, plainly: uses in order; what is gathered of them; the scopes.
-/
import Derived.Test.YtnilklgnpfgieaaDoorTreeG
namespace Go.Proofs.YtnilklgnpfgieaaDoor
open Go Go.RowKit

instance decMem (s : ByteArray) (l : List ByteArray) : Decidable (s ∈ l) := @List.instDecidableMemOfLawfulBEq ByteArray instBEqOfDecidableEq inferInstance s l
/-- A name as it stands: a variable, an array, an array that is made, a call of so many parts. -/
inductive Us where
  | var (s : ByteArray)
  | arr (s : ByteArray)
  | mk (s : ByteArray)
  | call (s : ByteArray) (n : Nat)
def exU (op : Int) (s : ByteArray) (k : Nat) : List Us := if op = 2 then [.var s] else if op = 4 then [.arr s] else if op = 5 then [.call s k] else []
def stU (op : Int) (s : ByteArray) : List Us := if op = 1 ∨ op = 4 then [.var s] else if op = 2 then [.arr s] else if op = 3 then [.mk s] else []
def ES.us : ES → List Us
  | .nil => []
  | .cons op _ s l r => exU op s l.len ++ (l.us ++ r.us)
def SS.us : SS → List Us
  | .nil => []
  | .cons op s _ l b e r => stU op s ++ (l.us ++ (b.us ++ (e.us ++ r.us)))

/-- What is gathered: variables, arrays, arrays that are made; whether all calls may be. -/
structure Gt where
  vs : List ByteArray
  xs : List ByteArray
  ms : List ByteArray
  ok : Bool
/-- A row with one more, if it has it not. -/
def withN (l : List ByteArray) (s : ByteArray) : List ByteArray := if s ∈ l then l else l ++ [s]
def Gt.step (ar : ByteArray → Option Nat) (g : Gt) : Us → Gt
  | .var s => { g with vs := withN g.vs s }
  | .arr s => { g with xs := withN g.xs s }
  | .mk s => { g with xs := withN g.xs s, ms := withN g.ms s }
  | .call s n => { g with ok := g.ok && decide (ar s = some n) }
def Gt.run (ar : ByteArray → Option Nat) (g : Gt) (l : List Us) : Gt := l.foldl (Gt.step ar) g
theorem Gt.run_app (ar : ByteArray → Option Nat) (g : Gt) (a b : List Us) : g.run ar (a ++ b) = (g.run ar a).run ar b := List.foldl_append
theorem Gt.run_nil (ar : ByteArray → Option Nat) (g : Gt) : g.run ar [] = g := rfl
theorem withN_mem {l : List ByteArray} {s x : ByteArray} : x ∈ withN l s ↔ x ∈ l ∨ x = s := by
  unfold withN; split
  · rename_i h; constructor
    · exact .inl
    · rintro (h' | rfl)
      · exact h'
      · exact h
  · simp
theorem withN_len (l : List ByteArray) (s : ByteArray) : (withN l s).length ≤ l.length + 1 := by unfold withN; split <;> simp
theorem withN_nodup {l : List ByteArray} (h : l.Nodup) (s : ByteArray) : (withN l s).Nodup := by
  unfold withN; split
  · exact h
  · rename_i hs
    rw [List.nodup_append]
    exact ⟨h, by simp, fun a ha b hb => by rw [List.mem_singleton] at hb; subst hb; exact fun e => hs (e ▸ ha)⟩
/-- How a name was used: 1, 2 and 4 for each way. -/
def Gt.bits (g : Gt) (s : ByteArray) : Int := (if s ∈ g.vs then 1 else 0) + (if s ∈ g.xs then 2 else 0) + (if s ∈ g.ms then 4 else 0)
/-- All arrays are made, and no variables. -/
def Gt.agree (g : Gt) : Bool := g.xs.all fun a => decide (a ∈ g.ms) && !decide (a ∈ g.vs)

/-- How many parameters the function of a name has. -/
def arF (fs : List Fn) (s : ByteArray) : Option Nat := fs.foldl (fun a f => if f.s = s then some f.ps.length else a) none
def g0 : Gt := ⟨[], [], [], true⟩
def gPar (ps : List ByteArray) : Gt := ps.foldl (fun g s => { g with vs := withN g.vs s }) g0
def gFn (ar : ByteArray → Option Nat) (f : Fn) : Gt := Gt.run ar { gPar f.ps with ok := decide ((gPar f.ps).vs.length = f.ps.length) } f.b.us
def okFn (ar : ByteArray → Option Nat) (f : Fn) : Bool := (gFn ar f).ok && (gFn ar f).agree
/-- A scope. -/
structure Sp where
  s : ByteArray
  n : Nat
  vs : List ByteArray
  xs : List ByteArray
def spFn (ar : ByteArray → Option Nat) (f : Fn) : Sp := ⟨f.s, f.ps.length, (gFn ar f).vs, (gFn ar f).xs⟩
def Sp.full (s : Sp) : Bool := decide (64 < s.vs.length) || decide (64 < s.xs.length)
def mainF (p : Pg) : Fn := ⟨⟨#[]⟩, [], p.m⟩
/-- The scopes of a right program; the error. -/
def scopes (p : Pg) : List Sp := (mainF p :: p.fs).map (spFn (arF p.fs))
def distinctN (fs : List Fn) : Bool := decide (fs.map (·.s)).Nodup
def resErr (p : Pg) : Int := if rightN p ≠ 0 then rightN p else if distinctN p.fs && (mainF p :: p.fs).all (okFn (arF p.fs)) then (if (scopes p).any Sp.full then 10 else 0) else 4
def resP (p : Pg) : List Sp := if resErr p = 0 then scopes p else []
end Go.Proofs.YtnilklgnpfgieaaDoor
