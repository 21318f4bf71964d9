/-
  Plain words for layer 3: expressions, statements, functions, programs; how they lie in memory; what stands right inside of one.
-/
import Derived.WalkKit
namespace Go.Proofs.Ytacleafbjbhcgaa
open Go Go.RowKit

/-- A list of expressions: op, N, name, the parts of the first one, the rest. -/
inductive ES where
  | nil
  | cons (op n : Int) (s : ByteArray) (l r : ES)
/-- A list of statements: op, name, N, the expressions, body and else of the first one, the rest. -/
inductive SS where
  | nil
  | cons (op : Int) (s : ByteArray) (n : Int) (l : ES) (b e r : SS)

def ES.len : ES → Nat
  | .nil => 0
  | .cons _ _ _ _ r => r.len + 1
def SS.len : SS → Nat
  | .nil => 0
  | .cons _ _ _ _ _ _ r => r.len + 1

def I64 (n : Int) : Prop := -9223372036854775808 ≤ n ∧ n ≤ 9223372036854775807

/-- A slice of n things that lie as P says from its address on: the address is asked for only where there is a thing. -/
def RowV (P : Nat → Nat → Prop) (B n : Nat) (v : Value) : Prop :=
  ∃ A cap, v = .slice A n cap ∧ n ≤ cap ∧ cap ≤ 9223372036854775807 ∧ (0 < n → ∃ b o, A = some ⟨b, o, none⟩ ∧ b < B ∧ P b o)

/-- The expressions lie in W, one behind the other, in blocks below B. -/
def ES.In (B : Nat) (W : World) : ES → Nat → Nat → Prop
  | .nil => fun _ _ => True
  | .cons op n s l r => fun b o => W.cell? ⟨b, o, none⟩ = some (.int .i64 op) ∧ W.cell? ⟨b, o + 1, none⟩ = some (.int .i64 n) ∧ W.cell? ⟨b, o + 2, none⟩ = some (.string s) ∧
      (∃ v, W.cell? ⟨b, o + 3, none⟩ = some v ∧ RowV (l.In B W) B l.len v) ∧ (I64 op ∧ I64 n ∧ s.size ≤ 9223372036854775807) ∧ r.In B W b (o + 4)
def SS.In (B : Nat) (W : World) : SS → Nat → Nat → Prop
  | .nil => fun _ _ => True
  | .cons op s n l x y r => fun b o => W.cell? ⟨b, o, none⟩ = some (.int .i64 op) ∧ W.cell? ⟨b, o + 1, none⟩ = some (.string s) ∧ W.cell? ⟨b, o + 2, none⟩ = some (.int .i64 n) ∧
      (∃ v, W.cell? ⟨b, o + 3, none⟩ = some v ∧ RowV (l.In B W) B l.len v) ∧ (∃ v, W.cell? ⟨b, o + 4, none⟩ = some v ∧ RowV (x.In B W) B x.len v) ∧ (∃ v, W.cell? ⟨b, o + 5, none⟩ = some v ∧ RowV (y.In B W) B y.len v) ∧
      (I64 op ∧ I64 n ∧ s.size ≤ 9223372036854775807) ∧ r.In B W b (o + 6)

abbrev EV (B : Nat) (W : World) (v : Value) (l : ES) : Prop := RowV (l.In B W) B l.len v
abbrev SV (B : Nat) (W : World) (v : Value) (l : SS) : Prop := RowV (l.In B W) B l.len v

theorem RowV.imp {P Q : Nat → Nat → Prop} {B B' n : Nat} {v : Value} (h : RowV P B n v) (hB : B ≤ B') (hi : ∀ b o, b < B → P b o → Q b o) : RowV Q B' n v := by
  obtain ⟨A, cap, e, h1, h2, h3⟩ := h
  exact ⟨A, cap, e, h1, h2, fun hn => by obtain ⟨b, o, ea, hb, hp⟩ := h3 hn; exact ⟨b, o, ea, by omega, hi b o hb hp⟩⟩

/-- What lies below B lies on, wherever nothing below B has turned; and below any greater bound. -/
theorem ES.In.below {B B' : Nat} {W W' : World} (h : Below B W W') (hB : B ≤ B') : ∀ {l : ES} {b o : Nat}, b < B → l.In B W b o → l.In B' W' b o
  | .nil, _, _, _, _ => trivial
  | .cons _ _ _ _ _, b, o, hb, ⟨h0, h1, h2, ⟨v, h3, hl⟩, h4, hr⟩ =>
    ⟨(h.cell (p := ⟨b, o, none⟩) hb).trans h0, (h.cell (p := ⟨b, o + 1, none⟩) hb).trans h1, (h.cell (p := ⟨b, o + 2, none⟩) hb).trans h2,
      ⟨v, (h.cell (p := ⟨b, o + 3, none⟩) hb).trans h3, hl.imp hB fun _ _ hb' hp => ES.In.below h hB hb' hp⟩, h4, ES.In.below h hB hb hr⟩
theorem SS.In.below {B B' : Nat} {W W' : World} (h : Below B W W') (hB : B ≤ B') : ∀ {l : SS} {b o : Nat}, b < B → l.In B W b o → l.In B' W' b o
  | .nil, _, _, _, _ => trivial
  | .cons _ _ _ _ _ _ _, b, o, hb, ⟨h0, h1, h2, ⟨v, h3, hl⟩, ⟨v', h3', hx⟩, ⟨v'', h3'', hy⟩, h4, hr⟩ =>
    ⟨(h.cell (p := ⟨b, o, none⟩) hb).trans h0, (h.cell (p := ⟨b, o + 1, none⟩) hb).trans h1, (h.cell (p := ⟨b, o + 2, none⟩) hb).trans h2,
      ⟨v, (h.cell (p := ⟨b, o + 3, none⟩) hb).trans h3, hl.imp hB fun _ _ hb' hp => ES.In.below h hB hb' hp⟩,
      ⟨v', (h.cell (p := ⟨b, o + 4, none⟩) hb).trans h3', hx.imp hB fun _ _ hb' hp => SS.In.below h hB hb' hp⟩,
      ⟨v'', (h.cell (p := ⟨b, o + 5, none⟩) hb).trans h3'', hy.imp hB fun _ _ hb' hp => SS.In.below h hB hb' hp⟩, h4, SS.In.below h hB hb hr⟩
theorem EV.below {B B' : Nat} {W W' : World} {v : Value} {l : ES} (hv : EV B W v l) (h : Below B W W') (hB : B ≤ B') : EV B' W' v l := RowV.imp hv hB fun _ _ hb hp => hp.below h hB hb
theorem SV.below {B B' : Nat} {W W' : World} {v : Value} {l : SS} (hv : SV B W v l) (h : Below B W W') (hB : B ≤ B') : SV B' W' v l := RowV.imp hv hB fun _ _ hb hp => hp.below h hB hb

/-- An expression or a statement, in the one form of a part. -/
structure Pt where
  st : Bool
  op : Int
  s : ByteArray
  n : Int
  l : ES
  b : SS
  e : SS

def ES.pts : ES → List Pt
  | .nil => []
  | .cons op n s l r => ⟨false, op, s, n, l, .nil, .nil⟩ :: r.pts
def SS.pts : SS → List Pt
  | .nil => []
  | .cons op s n l b e r => ⟨true, op, s, n, l, b, e⟩ :: r.pts
theorem ES.pts_len : ∀ l : ES, l.pts.length = l.len
  | .nil => rfl
  | .cons _ _ _ _ r => by simp [ES.pts, ES.len, ES.pts_len r]
theorem SS.pts_len : ∀ l : SS, l.pts.length = l.len
  | .nil => rfl
  | .cons _ _ _ _ _ _ r => by simp [SS.pts, SS.len, SS.pts_len r]

/-- What stands right inside of a part. -/
def Pt.sub (p : Pt) : List Pt := p.l.pts ++ (p.b.pts ++ p.e.pts)

/-- A part's value. -/
def PV (B : Nat) (W : World) (v : Value) (p : Pt) : Prop :=
  ∃ vl vb ve, v = .agg #[.bool p.st, .int .i64 p.op, .string p.s, .int .i64 p.n, vl, vb, ve] ∧ EV B W vl p.l ∧ SV B W vb p.b ∧ SV B W ve p.e ∧ (I64 p.op ∧ I64 p.n ∧ p.s.size ≤ 9223372036854775807)
theorem PV.below {B B' : Nat} {W W' : World} {v : Value} {p : Pt} (hv : PV B W v p) (h : Below B W W') (hB : B ≤ B') : PV B' W' v p := by
  obtain ⟨vl, vb, ve, e, h1, h2, h3, h4⟩ := hv
  exact ⟨vl, vb, ve, e, h1.below h hB, h2.below h hB, h3.below h hB, h4⟩

/-- How many parts there are, all the way down. -/
def ES.cnt : ES → Nat
  | .nil => 0
  | .cons _ _ _ l r => 1 + l.cnt + r.cnt
def SS.cnt : SS → Nat
  | .nil => 0
  | .cons _ _ _ l b e r => 1 + (l.cnt + (b.cnt + e.cnt)) + r.cnt
def Pt.cnt (p : Pt) : Nat := 1 + (p.l.cnt + (p.b.cnt + p.e.cnt))
def cntL : List Pt → Nat
  | [] => 0
  | p :: r => p.cnt + cntL r
theorem cntL_append : ∀ a b : List Pt, cntL (a ++ b) = cntL a + cntL b
  | [], b => by simp [cntL]
  | p :: r, b => by simp [cntL, cntL_append r b]; omega
theorem ES.cntL : ∀ l : ES, cntL l.pts = l.cnt
  | .nil => rfl
  | .cons _ _ _ l r => by simp [ES.pts, Go.Proofs.Ytacleafbjbhcgaa.cntL, ES.cnt, Pt.cnt, ES.cntL r, SS.cnt]
theorem SS.cntL : ∀ l : SS, cntL l.pts = l.cnt
  | .nil => rfl
  | .cons _ _ _ l b e r => by simp [SS.pts, Go.Proofs.Ytacleafbjbhcgaa.cntL, SS.cnt, Pt.cnt, SS.cntL r]
theorem Pt.cnt_sub (p : Pt) : p.cnt = 1 + Go.Proofs.Ytacleafbjbhcgaa.cntL p.sub := by
  simp [Pt.sub, cntL_append, ES.cntL, SS.cntL, Pt.cnt]
theorem cntL_mem {p : Pt} : ∀ {l : List Pt}, p ∈ l → p.cnt ≤ cntL l
  | q :: r, h => by
    rcases List.mem_cons.1 h with rfl | h
    · simp [cntL]
    · have := cntL_mem h; simp [cntL]; omega

end Go.Proofs.Ytacleafbjbhcgaa
