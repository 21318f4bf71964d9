/-
  Plain words for layer 7: functions and programs in memory; what is secret; what tells a secret.
-/
import Derived.Test.YtacleafbjbhcgaaTreeP
namespace Go.Proofs.Ytacleafbjbhcgaa
open Go Go.RowKit

/-- A function; a program. -/
structure Fn where
  s : ByteArray
  ps : List ByteArray
  b : SS
structure Pg where
  fs : List Fn
  m : SS

/-- Texts lie one behind the other. -/
def PsIn (W : World) : List ByteArray → Nat → Nat → Prop
  | [] => fun _ _ => True
  | s :: r => fun b o => W.cell? ⟨b, o, none⟩ = some (.string s) ∧ s.size ≤ 9223372036854775807 ∧ PsIn W r b (o + 1)
/-- Functions lie one behind the other. -/
def FsIn (B : Nat) (W : World) : List Fn → Nat → Nat → Prop
  | [] => fun _ _ => True
  | f :: r => fun b o => W.cell? ⟨b, o, none⟩ = some (.string f.s) ∧ (∃ v, W.cell? ⟨b, o + 1, none⟩ = some v ∧ RowV (PsIn W f.ps) B f.ps.length v) ∧
      (∃ v, W.cell? ⟨b, o + 2, none⟩ = some v ∧ SV B W v f.b) ∧ f.s.size ≤ 9223372036854775807 ∧ FsIn B W r b (o + 3)
abbrev FV (B : Nat) (W : World) (v : Value) (l : List Fn) : Prop := RowV (FsIn B W l) B l.length v

theorem PsIn.below {B : Nat} {W W' : World} (h : Below B W W') : ∀ {l : List ByteArray} {b o : Nat}, b < B → PsIn W l b o → PsIn W' l b o
  | [], _, _, _, _ => trivial
  | _ :: _, b, o, hb, ⟨h0, h1, hr⟩ => ⟨(h.cell (p := ⟨b, o, none⟩) hb).trans h0, h1, PsIn.below h hb hr⟩
theorem FsIn.below {B B' : Nat} {W W' : World} (h : Below B W W') (hB : B ≤ B') : ∀ {l : List Fn} {b o : Nat}, b < B → FsIn B W l b o → FsIn B' W' l b o
  | [], _, _, _, _ => trivial
  | _ :: _, b, o, hb, ⟨h0, ⟨v, h1, hp⟩, ⟨v', h2, hs⟩, h3, hr⟩ =>
    ⟨(h.cell (p := ⟨b, o, none⟩) hb).trans h0, ⟨v, (h.cell (p := ⟨b, o + 1, none⟩) hb).trans h1, hp.imp hB fun _ _ hb' hq => PsIn.below h hb' hq⟩,
      ⟨v', (h.cell (p := ⟨b, o + 2, none⟩) hb).trans h2, hs.below h hB⟩, h3, FsIn.below h hB hb hr⟩
theorem FV.below {B B' : Nat} {W W' : World} {v : Value} {l : List Fn} (hv : FV B W v l) (h : Below B W W') (hB : B ≤ B') : FV B' W' v l := RowV.imp hv hB fun _ _ hb hp => FsIn.below h hB hb hp

/-- A program's value. -/
def PgV (B : Nat) (W : World) (v : Value) (p : Pg) : Prop :=
  ∃ A cap A' cap', v = .agg #[.slice A p.fs.length cap, .slice A' p.m.len cap'] ∧ FV B W (.slice A p.fs.length cap) p.fs ∧ SV B W (.slice A' p.m.len cap') p.m
theorem PgV.below {B B' : Nat} {W W' : World} {v : Value} {p : Pg} (hv : PgV B W v p) (h : Below B W W') (hB : B ≤ B') : PgV B' W' v p := by
  obtain ⟨A, cap, A', cap', e, h1, h2⟩ := hv
  exact ⟨A, cap, A', cap', e, h1.below h hB, h2.below h hB⟩
/-- An expression's value. -/
def EsV (B : Nat) (W : World) (v : Value) (op n : Int) (s : ByteArray) (l : ES) : Prop :=
  ∃ vl, v = .agg #[.int .i64 op, .int .i64 n, .string s, vl] ∧ EV B W vl l ∧ (I64 op ∧ I64 n ∧ s.size ≤ 9223372036854775807)

/-- How long what came in may be: no list takes more bytes than there are addresses. -/
def ES.thin : ES → Prop
  | .nil => True
  | .cons _ _ s l r => (s.size ≤ 140737488355328 ∧ l.len * 56 ≤ 140737488351232) ∧ l.thin ∧ r.thin
def SS.thin : SS → Prop
  | .nil => True
  | .cons _ s _ l b e r => (s.size ≤ 140737488355328 ∧ l.len * 56 ≤ 140737488351232 ∧ b.len * 104 ≤ 140737488351232 ∧ e.len * 104 ≤ 140737488351232) ∧ l.thin ∧ b.thin ∧ e.thin ∧ r.thin
def Fn.thin (f : Fn) : Prop := f.s.size ≤ 140737488355328 ∧ f.ps.length * 16 ≤ 140737488351232 ∧ (∀ s ∈ f.ps, s.size ≤ 140737488355328) ∧ f.b.len * 104 ≤ 140737488351232 ∧ f.b.thin
def Pg.thin (p : Pg) : Prop := (p.fs.length * 64 ≤ 140737488351232 ∧ ∀ f ∈ p.fs, f.thin) ∧ p.m.len * 104 ≤ 140737488351232 ∧ p.m.thin

/-- How long what came in may be: names a letter shorter. -/
def ES.thin0 : ES → Prop
  | .nil => True
  | .cons _ _ s l r => (s.size ≤ 140737488351232 ∧ l.len * 56 ≤ 140737488351232) ∧ l.thin0 ∧ r.thin0
def SS.thin0 : SS → Prop
  | .nil => True
  | .cons _ s _ l b e r => (s.size ≤ 140737488351232 ∧ l.len * 56 ≤ 140737488351232 ∧ b.len * 104 ≤ 140737488351232 ∧ e.len * 104 ≤ 140737488351232) ∧ l.thin0 ∧ b.thin0 ∧ e.thin0 ∧ r.thin0
def Fn.thin0 (f : Fn) : Prop := f.s.size ≤ 140737488351232 ∧ f.ps.length * 16 ≤ 140737488351232 ∧ (∀ s ∈ f.ps, s.size ≤ 140737488351232) ∧ f.b.len * 104 ≤ 140737488351232 ∧ f.b.thin0
def Pg.thin0 (p : Pg) : Prop := (p.fs.length * 64 ≤ 140737488351232 ∧ ∀ f ∈ p.fs, f.thin0) ∧ p.m.len * 104 ≤ 140737488351232 ∧ p.m.thin0

theorem ES.thin_of : ∀ {l : ES}, l.thin0 → l.thin
  | .nil, _ => trivial
  | .cons _ _ _ _ _, ⟨⟨h0, h1⟩, h2, h3⟩ => ⟨⟨by omega, h1⟩, ES.thin_of h2, ES.thin_of h3⟩
/-- Does a name begin with a great letter? -/
def greatB (s : ByteArray) : Bool := match s.data.toList with
  | [] => false
  | c :: _ => decide (65 ≤ c.toNat) && decide (c.toNat ≤ 90)

/-- Is an expression secret, given whether one of its parts is? -/
def secB (op : Int) (s : ByteArray) (part : Bool) : Bool :=
  if op = 5 then greatB s else if op = 2 ∨ op = 4 then part || greatB s else part
/-- Which of these expressions are secret; is one? -/
def ES.secs : ES → List Bool
  | .nil => []
  | .cons op _ s l r => secB op s (l.secs.any id) :: r.secs
def ES.sec (l : ES) : Bool := l.secs.any id
theorem ES.secs_len : ∀ l : ES, l.secs.length = l.len
  | .nil => rfl
  | .cons _ _ _ _ r => by simp [ES.secs, ES.len, ES.secs_len r]

/-- The parameters of the first function of a name. -/
def findP : List Fn → ByteArray → List ByteArray
  | [], _ => []
  | f :: r, s => if f.s = s then f.ps else findP r s

/-- What comes to public names of these, from the k-th on. -/
def intoP (parts : List Bool) : List ByteArray → Nat → Bool
  | [], _ => false
  | p :: r, k => (!greatB p && parts.getD k false) || intoP parts r (k + 1)
/-- What an expression tells by itself. -/
def ownE (fs : List Fn) (op : Int) (s : ByteArray) (parts : List Bool) : Bool :=
  if op = 4 then parts.getD 0 false else if op = 11 ∨ op = 12 then parts.getD 1 false else if op = 5 then intoP parts (findP fs s) 0 else false
def ES.tells (fs : List Fn) : ES → Bool
  | .nil => false
  | .cons op _ s l r => (l.tells fs || ownE fs op s l.secs) || r.tells fs
/-- What a statement tells by itself; pub: is what is returned public? -/
def ownS (pub : Bool) (op : Int) (s : ByteArray) (parts : List Bool) : Bool :=
  if op = 1 then !greatB s && parts.getD 0 false else if op = 2 then parts.getD 0 false || (!greatB s && parts.getD 1 false)
  else if op = 5 ∨ op = 7 ∨ op = 8 then parts.getD 0 false else if op = 9 then pub && parts.getD 0 false else false
def SS.tells (fs : List Fn) (pub : Bool) : SS → Bool
  | .nil => false
  | .cons op s _ l b e r => (((l.tells fs || ownS pub op s l.secs) || b.tells fs pub) || e.tells fs pub) || r.tells fs pub
def fsTell (fs : List Fn) : List Fn → Bool
  | [] => false
  | f :: r => f.b.tells fs (!greatB f.s) || fsTell fs r
def Pg.tells (p : Pg) : Bool := p.m.tells p.fs true || fsTell p.fs p.fs
def errOf (t : Bool) : Int := if t then 5 else 0
end Go.Proofs.Ytacleafbjbhcgaa
