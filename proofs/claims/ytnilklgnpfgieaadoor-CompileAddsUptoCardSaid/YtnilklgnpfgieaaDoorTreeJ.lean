/-
  Texts TreeP TreeI TreeJ: put together.
-/
import Derived.WalkKit
import Derived.Test.YtnilklgnpfgieaaDoorChecked
import Derived.RangeFuncNested
import Derived.RangeFuncBound
import Derived.RangeFuncCalls
import Derived.RangeFuncLeaves
import Derived.Shelf.Abstract
import Derived.Shelf.RegionOpen
import Derived.OwnWalkIn
import Derived.TacticsInMore
import Derived.LoopNIn
import Derived.LoopIn
import Derived.Lib.Hide
/-
  Plain words for layer 3: expressions, statements, functions, programs; how they lie in memory; what stands right inside of one.
-/
namespace Go.Proofs.YtnilklgnpfgieaaDoor
open Go Go.RowKit

/-- A list of expressions: op, N, name, the parts of the first one, the rest. -/
inductive ES where
  | nil
  | cons (op n : Int) (s : ByteArray) (l r : ES)
/-- A list of statements: op, name, N, the expressions, body and else of the first one, the rest. -/
inductive SS where
  | nil
  | cons (op : Int) (s : ByteArray) (n : Int) (l : ES) (b e r : SS)

def ES.len : ES → Nat
  | .nil => 0
  | .cons _ _ _ _ r => r.len + 1
def SS.len : SS → Nat
  | .nil => 0
  | .cons _ _ _ _ _ _ r => r.len + 1

def I64 (n : Int) : Prop := -9223372036854775808 ≤ n ∧ n ≤ 9223372036854775807

/-- A slice of n things that lie as P says from its address on: the address is asked for only where there is a thing. -/
def RowV (P : Nat → Nat → Prop) (B n : Nat) (v : Value) : Prop :=
  ∃ A cap, v = .slice A n cap ∧ n ≤ cap ∧ cap ≤ 9223372036854775807 ∧ (0 < n → ∃ b o, A = some ⟨b, o, none⟩ ∧ b < B ∧ P b o)

/-- The expressions lie in W, one behind the other, in blocks below B. -/
def ES.In (B : Nat) (W : World) : ES → Nat → Nat → Prop
  | .nil => fun _ _ => True
  | .cons op n s l r => fun b o => W.cell? ⟨b, o, none⟩ = some (.int .i64 op) ∧ W.cell? ⟨b, o + 1, none⟩ = some (.int .i64 n) ∧ W.cell? ⟨b, o + 2, none⟩ = some (.string s) ∧
      (∃ v, W.cell? ⟨b, o + 3, none⟩ = some v ∧ RowV (l.In B W) B l.len v) ∧ (I64 op ∧ I64 n ∧ s.size ≤ 9223372036854775807) ∧ r.In B W b (o + 4)
def SS.In (B : Nat) (W : World) : SS → Nat → Nat → Prop
  | .nil => fun _ _ => True
  | .cons op s n l x y r => fun b o => W.cell? ⟨b, o, none⟩ = some (.int .i64 op) ∧ W.cell? ⟨b, o + 1, none⟩ = some (.string s) ∧ W.cell? ⟨b, o + 2, none⟩ = some (.int .i64 n) ∧
      (∃ v, W.cell? ⟨b, o + 3, none⟩ = some v ∧ RowV (l.In B W) B l.len v) ∧ (∃ v, W.cell? ⟨b, o + 4, none⟩ = some v ∧ RowV (x.In B W) B x.len v) ∧ (∃ v, W.cell? ⟨b, o + 5, none⟩ = some v ∧ RowV (y.In B W) B y.len v) ∧
      (I64 op ∧ I64 n ∧ s.size ≤ 9223372036854775807) ∧ r.In B W b (o + 6)

abbrev EV (B : Nat) (W : World) (v : Value) (l : ES) : Prop := RowV (l.In B W) B l.len v
abbrev SV (B : Nat) (W : World) (v : Value) (l : SS) : Prop := RowV (l.In B W) B l.len v

theorem RowV.imp {P Q : Nat → Nat → Prop} {B B' n : Nat} {v : Value} (h : RowV P B n v) (hB : B ≤ B') (hi : ∀ b o, b < B → P b o → Q b o) : RowV Q B' n v := by
  obtain ⟨A, cap, e, h1, h2, h3⟩ := h
  exact ⟨A, cap, e, h1, h2, fun hn => by obtain ⟨b, o, ea, hb, hp⟩ := h3 hn; exact ⟨b, o, ea, by omega, hi b o hb hp⟩⟩

/-- What lies below B lies on, wherever nothing below B has turned; and below any greater bound. -/
theorem ES.In.below {B B' : Nat} {W W' : World} (h : Below B W W') (hB : B ≤ B') : ∀ {l : ES} {b o : Nat}, b < B → l.In B W b o → l.In B' W' b o
  | .nil, _, _, _, _ => trivial
  | .cons _ _ _ _ _, b, o, hb, ⟨h0, h1, h2, ⟨v, h3, hl⟩, h4, hr⟩ =>
    ⟨(h.cell (p := ⟨b, o, none⟩) hb).trans h0, (h.cell (p := ⟨b, o + 1, none⟩) hb).trans h1, (h.cell (p := ⟨b, o + 2, none⟩) hb).trans h2,
      ⟨v, (h.cell (p := ⟨b, o + 3, none⟩) hb).trans h3, hl.imp hB fun _ _ hb' hp => ES.In.below h hB hb' hp⟩, h4, ES.In.below h hB hb hr⟩
theorem SS.In.below {B B' : Nat} {W W' : World} (h : Below B W W') (hB : B ≤ B') : ∀ {l : SS} {b o : Nat}, b < B → l.In B W b o → l.In B' W' b o
  | .nil, _, _, _, _ => trivial
  | .cons _ _ _ _ _ _ _, b, o, hb, ⟨h0, h1, h2, ⟨v, h3, hl⟩, ⟨v', h3', hx⟩, ⟨v'', h3'', hy⟩, h4, hr⟩ =>
    ⟨(h.cell (p := ⟨b, o, none⟩) hb).trans h0, (h.cell (p := ⟨b, o + 1, none⟩) hb).trans h1, (h.cell (p := ⟨b, o + 2, none⟩) hb).trans h2,
      ⟨v, (h.cell (p := ⟨b, o + 3, none⟩) hb).trans h3, hl.imp hB fun _ _ hb' hp => ES.In.below h hB hb' hp⟩,
      ⟨v', (h.cell (p := ⟨b, o + 4, none⟩) hb).trans h3', hx.imp hB fun _ _ hb' hp => SS.In.below h hB hb' hp⟩,
      ⟨v'', (h.cell (p := ⟨b, o + 5, none⟩) hb).trans h3'', hy.imp hB fun _ _ hb' hp => SS.In.below h hB hb' hp⟩, h4, SS.In.below h hB hb hr⟩
theorem EV.below {B B' : Nat} {W W' : World} {v : Value} {l : ES} (hv : EV B W v l) (h : Below B W W') (hB : B ≤ B') : EV B' W' v l := RowV.imp hv hB fun _ _ hb hp => hp.below h hB hb
theorem SV.below {B B' : Nat} {W W' : World} {v : Value} {l : SS} (hv : SV B W v l) (h : Below B W W') (hB : B ≤ B') : SV B' W' v l := RowV.imp hv hB fun _ _ hb hp => hp.below h hB hb

/-- An expression or a statement, in the one form of a part. -/
structure Pt where
  st : Bool
  op : Int
  s : ByteArray
  n : Int
  l : ES
  b : SS
  e : SS

def ES.pts : ES → List Pt
  | .nil => []
  | .cons op n s l r => ⟨false, op, s, n, l, .nil, .nil⟩ :: r.pts
def SS.pts : SS → List Pt
  | .nil => []
  | .cons op s n l b e r => ⟨true, op, s, n, l, b, e⟩ :: r.pts
theorem ES.pts_len : ∀ l : ES, l.pts.length = l.len
  | .nil => rfl
  | .cons _ _ _ _ r => by simp [ES.pts, ES.len, ES.pts_len r]
theorem SS.pts_len : ∀ l : SS, l.pts.length = l.len
  | .nil => rfl
  | .cons _ _ _ _ _ _ r => by simp [SS.pts, SS.len, SS.pts_len r]

/-- What stands right inside of a part. -/
def Pt.sub (p : Pt) : List Pt := p.l.pts ++ (p.b.pts ++ p.e.pts)

/-- A part's value. -/
def PV (B : Nat) (W : World) (v : Value) (p : Pt) : Prop :=
  ∃ vl vb ve, v = .agg #[.bool p.st, .int .i64 p.op, .string p.s, .int .i64 p.n, vl, vb, ve] ∧ EV B W vl p.l ∧ SV B W vb p.b ∧ SV B W ve p.e ∧ (I64 p.op ∧ I64 p.n ∧ p.s.size ≤ 9223372036854775807)
theorem PV.below {B B' : Nat} {W W' : World} {v : Value} {p : Pt} (hv : PV B W v p) (h : Below B W W') (hB : B ≤ B') : PV B' W' v p := by
  obtain ⟨vl, vb, ve, e, h1, h2, h3, h4⟩ := hv
  exact ⟨vl, vb, ve, e, h1.below h hB, h2.below h hB, h3.below h hB, h4⟩

/-- How many parts there are, all the way down. -/
def ES.cnt : ES → Nat
  | .nil => 0
  | .cons _ _ _ l r => 1 + l.cnt + r.cnt
def SS.cnt : SS → Nat
  | .nil => 0
  | .cons _ _ _ l b e r => 1 + (l.cnt + (b.cnt + e.cnt)) + r.cnt
def Pt.cnt (p : Pt) : Nat := 1 + (p.l.cnt + (p.b.cnt + p.e.cnt))
def cntL : List Pt → Nat
  | [] => 0
  | p :: r => p.cnt + cntL r
theorem cntL_append : ∀ a b : List Pt, cntL (a ++ b) = cntL a + cntL b
  | [], b => by simp [cntL]
  | p :: r, b => by simp [cntL, cntL_append r b]; omega
theorem ES.cntL : ∀ l : ES, cntL l.pts = l.cnt
  | .nil => rfl
  | .cons _ _ _ l r => by simp [ES.pts, Go.Proofs.YtnilklgnpfgieaaDoor.cntL, ES.cnt, Pt.cnt, ES.cntL r, SS.cnt]
theorem SS.cntL : ∀ l : SS, cntL l.pts = l.cnt
  | .nil => rfl
  | .cons _ _ _ l b e r => by simp [SS.pts, Go.Proofs.YtnilklgnpfgieaaDoor.cntL, SS.cnt, Pt.cnt, SS.cntL r]
theorem Pt.cnt_sub (p : Pt) : p.cnt = 1 + Go.Proofs.YtnilklgnpfgieaaDoor.cntL p.sub := by
  simp [Pt.sub, cntL_append, ES.cntL, SS.cntL, Pt.cnt]
theorem cntL_mem {p : Pt} : ∀ {l : List Pt}, p ∈ l → p.cnt ≤ cntL l
  | q :: r, h => by
    rcases List.mem_cons.1 h with rfl | h
    · simp [cntL]
    · have := cntL_mem h; simp [cntL]; omega

end Go.Proofs.YtnilklgnpfgieaaDoor

/-
  The iterators of package tree: ofExpr, ofStmt, hand; the closures of parts and outer.
-/
namespace Go.Proofs.YtnilklgnpfgieaaDoor
open Go Go.RowKit Go.Shelf

theorem wide_fn (f : FuncId) : Fence.wide.fn f = True := by simp [Fence.wide]
theorem wide_depth : Fence.wide.depth.isSome = false := rfl
theorem round_fn (l : Nat) (f : FuncId) : (Fence.wide.inRound l).fn f = True := by simp [Fence.wide, Fence.inRound]
theorem round_depth (l : Nat) : (Fence.wide.inRound l).depth.isSome = false := rfl
attribute [local go_sem] Oper.semAt_some wide_fn wide_depth round_fn round_depth

theorem bcell {B : Nat} {W w1 : World} (hb : Below B W w1) : (∀ b o, b < B → w1.cell? ⟨b, o, none⟩ = W.cell? ⟨b, o, none⟩) ∧ (∀ b o, b < B → w1.frozen? ⟨b, o, none⟩ = W.frozen? ⟨b, o, none⟩) :=
  ⟨fun b o h => hb.cell (p := ⟨b, o, none⟩) h, fun b o h => hb.frozen (p := ⟨b, o, none⟩) h⟩

set_option maxHeartbeats 1000000 in
theorem ofExpr_any (op n : Int) (s : ByteArray) (A : Option Addr) (k cap : Nat) (w : World) :
    Calls Tryd.prog 68 #[.agg #[.int .i64 op, .int .i64 n, .string s, .slice A k cap]] w fun e w' =>
      e = .returned (.agg #[.bool false, .int .i64 op, .string s, .int .i64 n, .slice A k cap, .slice none 0 0, .slice none 0 0]) ∧ Below w.heap.size w w' := by
  go_enter Tryd.func68, Tryd.ntmps68
  go_wp2
  refine bodyPost_ret (v := .agg #[.bool false, .int .i64 op, .string s, .int .i64 n, .slice A k cap, .slice none 0 0, .slice none 0 0]) (by simp [results, Tryd.results68, go_sem]) rfl ⟨rfl, ?_⟩
  exact ((Below.refl _ _).alloc (Nat.le_refl _) _).alloc (by simp) _

set_option maxHeartbeats 1000000 in
theorem ofStmt_any (op n : Int) (s : ByteArray) (A A' A'' : Option Addr) (k cap k' cap' k'' cap'' : Nat) (w : World) :
    Calls Tryd.prog 69 #[.agg #[.int .i64 op, .string s, .int .i64 n, .slice A k cap, .slice A' k' cap', .slice A'' k'' cap'']] w fun e w' =>
      e = .returned (.agg #[.bool true, .int .i64 op, .string s, .int .i64 n, .slice A k cap, .slice A' k' cap', .slice A'' k'' cap'']) ∧ Below w.heap.size w w' := by
  go_enter Tryd.func69, Tryd.ntmps69
  go_wp2
  refine bodyPost_ret (v := .agg #[.bool true, .int .i64 op, .string s, .int .i64 n, .slice A k cap, .slice A' k' cap', .slice A'' k'' cap'']) (by simp [results, Tryd.results69, go_sem]) rfl ⟨rfl, ?_⟩
  exact ((Below.refl _ _).alloc (Nat.le_refl _) _).alloc (by simp) _

/-- An element handed on: its value, what it is, and a bound on how much it holds. -/
structure PX (B : Nat) (w : World) (K : Nat) where
  v : Value
  p : Pt
  h : PV B w v p
  hk : p.cnt ≤ K

theorem room_wide (k : Nat) : Fence.wide.room k := fun d h => by cases h
theorem RoundIn.wide {m m' : Nat} {P : Program} {l : Nat} {f : FuncId} {tmps : Array Value} {assign body : Code} {w : World} {R : Ending → World → Prop}
    (h : RoundIn Fence.wide m P l f tmps assign body w R) : RoundIn Fence.wide m' P l f tmps assign body w R := ⟨h.1, fun c cs _ => h.2 c cs (room_wide _)⟩
theorem YieldAt.wide {m : Nat} (m' : Nat) {P : Program} {l : Nat} {args : Array Value} {W : World} {R : Ending → World → Prop} (h : YieldAt Fence.wide m P l args W R) : YieldAt Fence.wide m' P l args W R := by
  obtain ⟨fn, tmps, assign, body, hy, hR⟩ := h
  exact ⟨fn, tmps, assign, body, hy, RoundIn.wide hR⟩

/-- What a round of the caller's may do. -/
def Rounds (B : Nat) (w0 : World) (K l N : Nat) (J Jx : List (PX B w0 K) → World → Prop) : Prop :=
  ∀ m pre x W, J pre W → pre.length < N → YieldAt Fence.wide m Tryd.prog l #[x.v] W fun e W' =>
    (e = .returned (.bool true) ∧ J (pre ++ [x]) W' ∧ Below B W W') ∨ (e = .returned (.bool false) ∧ Jx (pre ++ [x]) W')

theorem abides_below {β : Type} {B : Nat} {J : β → World → Prop} (h : AbidesFrom B J) {s : β} {W W' : World} (hs : J s W) (hb : Below W.heap.size W W') : J s W' :=
  h s W W' none hs ⟨hb.os, hb.tape, hb.output, hb.size, fun k hk _ => hb.block k hk⟩ (fun r e => by cases e)

def HandRel (B : Nat) (w0 W : World) (K N len : Nat) (J : List (PX B w0 K) → World → Prop) (A : Option Addr) (s : SS) (pre : List (PX B w0 K)) (i : Value) (wr : World) : Prop :=
  ∃ (k : Nat) (xs : List (PX B w0 K)) (r : SS), i = .int .i64 k ∧ s.pts = xs.map (·.p) ++ r.pts ∧ k + r.len = len ∧ r.cnt ≤ K ∧ (0 < r.len → ∃ b o, A = some ⟨b, o, none⟩ ∧ b < B ∧ r.In B w0 b (o + k * 6)) ∧ pre.length + xs.length + r.len ≤ N ∧ J (pre ++ xs) wr ∧ Below B w0 wr ∧ Below B W wr
def HandPost (B : Nat) (w0 W : World) (K : Nat) (J Jx : List (PX B w0 K) → World → Prop) (l : List Pt) (pre : List (PX B w0 K)) (e : Ending) (W' : World) : Prop :=
  (e = .returned (.bool true) ∧ ∃ xs : List (PX B w0 K), xs.map (·.p) = l ∧ J (pre ++ xs) W' ∧ Below B W W') ∨ (e = .returned (.bool false) ∧ ∃ q : List (PX B w0 K), q.map (·.p) <+: l ∧ Jx (pre ++ q) W')

theorem hand_step {n B : Nat} {w0 wr w1 : World} {K l N : Nat} {J Jx : List (PX B w0 K) → World → Prop} (hY : Rounds B w0 K l N J Jx) {BJ : Nat} (hJa : AbidesFrom BJ J) {xs : List (PX B w0 K)} (hJ : J xs wr) (hb : Below wr.heap.size wr w1) (hN : xs.length < N) (x : PX B w0 K) :
    YieldAt Fence.wide n Tryd.prog l #[x.v] w1 fun e W' =>
    (e = .returned (.bool true) ∧ J (xs ++ [x]) W' ∧ Below B w1 W') ∨ (e = .returned (.bool false) ∧ Jx (xs ++ [x]) W') :=
  hY n xs x w1 (abides_below hJa hJ hb) hN

set_option maxRecDepth 100000 in
set_option maxHeartbeats 4000000 in
/-- hand: all have come, or a round has said 'no more'. -/
theorem hand_in (n B : Nat) (w0 : World) (K l N BJ : Nat) (J Jx : List (PX B w0 K) → World → Prop) (hJa : AbidesFrom BJ J) (hY : Rounds B w0 K l N J Jx)
    (A : Option Addr) (cap : Nat) (s : SS) (pre : List (PX B w0 K)) (W : World) (hs : SV B w0 (.slice A s.len cap) s) (hB0 : B ≤ w0.heap.size) (hK : s.cnt ≤ K) (hW : Below B w0 W) (hJ : J pre W) (hN : pre.length + s.len ≤ N) :
    CallsIn Fence.wide n Tryd.prog 51 #[.slice A s.len cap, .func (.yield l) #[] #[]] W (HandPost B w0 W K J Jx s.pts pre) := by
  obtain ⟨A', cap', e1, hc1, hc2, hrow⟩ := hs
  injection e1 with e2 e3 e4
  subst e2 e4
  clear e3
  obtain ⟨len, hlen⟩ : ∃ len, s.len = len := ⟨_, rfl⟩
  rw [hlen] at hc1 hrow hN ⊢
  have HL := Lib.hid hlen; clear hlen
  refine callsIn_of_wp Tryd.func51 rfl trivial ?_ rfl
  simp only [Tryd.ntmps51, List.size_toArray, List.length_cons, List.length_nil, Nat.reduceAdd, Nat.reduceSub, Array.replicate_succ, Array.replicate_zero, List.push_toArray, List.append_toArray, List.nil_append, List.cons_append]
  gi_wp2
  gi_loopw [9] (fun i wr => HandRel B w0 W K N len J A s pre i wr) (fun i _ => len - (intOf i).toNat)
  case atStart =>
    exact ⟨0, [], s, rfl, rfl, by have := HL.out; omega, hK, by simpa [HL.out] using hrow, by simp [HL.out]; omega, by simpa using hJ, hW, Below.refl _ _⟩
  case round =>
    obtain ⟨k, xs, r, rfl, hp, hk, hrK, hrow', hN', hJ', hW', hW''⟩ := hrel
    cases r with
    | nil =>
      have hk0 : k = len := by simpa [SS.len] using hk
      subst hk0
      clear hk hrow hrow'
      have HP := Lib.hid hp; clear hp
      gi_wp2
      go_ret
      exact .inl ⟨rfl, xs, by rw [HP.out]; simp [SS.pts], hJ', hW''⟩
    | cons op s1 n1 l1 b1 e1 r =>
      obtain ⟨b, o, rfl, hb, c0, c1, c2, ⟨v3, c3, h3⟩, ⟨v4, c4, h4⟩, ⟨v5, c5, h5⟩, h6, hr⟩ := hrow' (by simp [SS.len])
      clear hrow hrow'
      obtain ⟨A3, cap3, rfl, _⟩ := id h3
      obtain ⟨A4, cap4, rfl, _⟩ := id h4
      obtain ⟨A5, cap5, rfl, _⟩ := id h5
      have hlt : k < len := by simp [SS.len] at hk; omega
      have hN2 : (pre ++ xs).length < N := by simp [SS.len] at hN' ⊢; omega
      have d0 := (hW'.cell (p := ⟨b, o + k * 6, none⟩) hb).trans c0
      have d1 := (hW'.cell (p := ⟨b, o + k * 6 + 1, none⟩) hb).trans c1
      have d2 := (hW'.cell (p := ⟨b, o + k * 6 + 2, none⟩) hb).trans c2
      have d3 := (hW'.cell (p := ⟨b, o + k * 6 + 3, none⟩) hb).trans c3
      have d4 := (hW'.cell (p := ⟨b, o + k * 6 + 4, none⟩) hb).trans c4
      have d5 := (hW'.cell (p := ⟨b, o + k * 6 + 5, none⟩) hb).trans c5
      clear c0 c1 c2 c3 c4 c5
      have hcnt : (Pt.mk true op s1 n1 l1 b1 e1).cnt ≤ K ∧ r.cnt ≤ K := by simp only [SS.cnt, Pt.cnt] at hrK ⊢; omega
      obtain ⟨x, hxv, hxp⟩ : ∃ x : PX B w0 K, x.v = .agg #[.bool true, .int .i64 op, .string s1, .int .i64 n1, .slice A3 l1.len cap3, .slice A4 b1.len cap4, .slice A5 e1.len cap5] ∧ x.p = ⟨true, op, s1, n1, l1, b1, e1⟩ :=
        ⟨⟨_, ⟨true, op, s1, n1, l1, b1, e1⟩, ⟨_, _, _, rfl, h3, h4, h5, h6⟩, hcnt.1⟩, rfl, rfl⟩
      have HY := fun w1 (hb : Below wr.heap.size wr w1) => hand_step (n := n - 1) hY hJa hJ' hb hN2 x
      rw [hxv] at HY
      have HXP := Lib.hid hxp
      clear hxv hxp
      have HP := Lib.hid hp; clear hp
      have HK := Lib.hid hk; clear hk
      gi_wp2_with (first
        | (gi_at_call 69; refine (callsIn_wide.2 (ofStmt_any _ _ _ _ _ _ _ _ _ _ _ _ _)).mono ?_; rintro e w1 ⟨rfl, hb1⟩; have hb2 : Below wr.heap.size wr w1 := ((Below.refl _ _).alloc (Nat.le_refl _) _).trans (hb1.mono (by simp)); obtain ⟨fn, tmps, assign, body, hy, hR⟩ := HY w1 hb2)
        | (refine hR.mono ?_; clear hR; rintro e W3 (⟨rfl, hJ3, hb3⟩ | ⟨rfl, hJx3⟩)))
      · go_roundw
        case rel =>
          have hb4 : Below B wr W3 := (hb2.mono (by have := hW'.size; omega)).trans hb3
          refine ⟨k + 1, xs ++ [x], r, by go_num, ?_, ?_, hcnt.2, fun h => ⟨b, o, rfl, hb, ?_⟩, ?_, ?_, hW'.trans hb4, hW''.trans hb4⟩
          · rw [HP.out]; simp [SS.pts, HXP.out]
          · have := HK.out; simp [SS.len] at this; omega
          · rw [show o + (k + 1) * 6 = o + k * 6 + 6 by omega]; exact hr
          · simp [SS.len] at hN' ⊢; omega
          · simpa [List.append_assoc] using hJ3
        case measure => simp [intOf]; omega
      · go_ret
        refine .inr ⟨rfl, xs ++ [x], ⟨r.pts, by rw [HP.out]; simp [SS.pts, HXP.out]⟩, by simpa [List.append_assoc] using hJx3⟩

end Go.Proofs.YtnilklgnpfgieaaDoor

/-
  The closures of (part).parts and outer: what they hand on; 'SeqStopsK' for each.
-/
namespace Go.Proofs.YtnilklgnpfgieaaDoor
open Go Go.RowKit Go.Shelf

attribute [local go_sem] Oper.semAt_some wide_fn wide_depth round_fn round_depth

theorem cell_new (w : World) (cs : Array Value) (t : TypeId) (i : Nat) : (w.alloc (.cells cs t)).cell? ⟨w.heap.size, i, none⟩ = cs[i]? := by
  have h := World.alloc_heap_new w (.cells cs t)
  simp only [World.cell?, h]
  rfl
theorem sv_nil (B : Nat) (w : World) : SV B w (.slice none 0 0) .nil := ⟨none, 0, rfl, Nat.le_refl _, by decide, fun h => by simp [SS.len] at h⟩
theorem ev_nil (B : Nat) (w : World) : EV B w (.slice none 0 0) .nil := ⟨none, 0, rfl, Nat.le_refl _, by decide, fun h => by simp [ES.len] at h⟩
/-- A part's box: its seven cells. -/
structure BoxP (w : World) (B Bp : Nat) (p : Pt) (A3 : Option Addr) (cap3 : Nat) (A4 : Option Addr) (cap4 : Nat) (A5 : Option Addr) (cap5 : Nat) : Prop where
  lt : Bp < B
  c4 : w.cell? ⟨Bp, 4, none⟩ = some (.slice A3 p.l.len cap3)
  c5 : w.cell? ⟨Bp, 5, none⟩ = some (.slice A4 p.b.len cap4)
  c6 : w.cell? ⟨Bp, 6, none⟩ = some (.slice A5 p.e.len cap5)
  h3 : EV B w (.slice A3 p.l.len cap3) p.l
  h4 : SV B w (.slice A4 p.b.len cap4) p.b
  h5 : SV B w (.slice A5 p.e.len cap5) p.e

def PartsRel (B : Nat) (w0 : World) (K N len : Nat) (J : List (PX B w0 K) → World → Prop) (A : Option Addr) (s : ES) (i : Value) (wr : World) : Prop :=
  ∃ (k : Nat) (xs : List (PX B w0 K)) (r : ES), i = .int .i64 k ∧ s.pts = xs.map (·.p) ++ r.pts ∧ k + r.len = len ∧ r.cnt ≤ K ∧ (0 < r.len → ∃ b o, A = some ⟨b, o, none⟩ ∧ b < B ∧ r.In B w0 b (o + k * 4)) ∧ xs.length + r.len + N ≤ s.len + N ∧ J xs wr ∧ Below B w0 wr

def AllPost (B : Nat) (w0 : World) (K : Nat) (J Jx : List (PX B w0 K) → World → Prop) (l : List Pt) (e : Ending) (W' : World) : Prop :=
  (∃ v, e = .returned v) ∧ ((∃ xs : List (PX B w0 K), xs.map (·.p) = l ∧ J xs W') ∨ (∃ pre : List (PX B w0 K), pre.map (·.p) <+: l ∧ Jx pre W'))

/-- Two lists of statements handed on, one behind the other. -/
theorem hand_two (n B : Nat) (w0 : World) (K l N BJ : Nat) (J Jx : List (PX B w0 K) → World → Prop) (hJa : AbidesFrom BJ J) (hY : Rounds B w0 K l N J Jx)
    (A A' : Option Addr) (cap cap' : Nat) (s s' : SS) (pre : List (PX B w0 K)) (W : World) (hs : SV B w0 (.slice A s.len cap) s) (hs' : SV B w0 (.slice A' s'.len cap') s') (hB0 : B ≤ w0.heap.size) (hK : s.cnt ≤ K) (hK' : s'.cnt ≤ K) (hW : Below B w0 W) (hJ : J pre W) (hN : pre.length + (s.len + s'.len) ≤ N)
    (p : Addr) (v : Value) (hp : p.block < B) (hv : w0.cell? p = some v) :
    CallsIn Fence.wide n Tryd.prog 51 #[.slice A s.len cap, .func (.yield l) #[] #[]] W fun e W' =>
      (e = .returned (.bool true) ∧ W'.cell? p = some v ∧ ∃ xs : List (PX B w0 K), Hid (xs.map (·.p) = s.pts) ∧ CallsIn Fence.wide n Tryd.prog 51 #[.slice A' s'.len cap', .func (.yield l) #[] #[]] W' (HandPost B w0 W' K J Jx s'.pts (pre ++ xs))) ∨
      (e = .returned (.bool false) ∧ ∃ q : List (PX B w0 K), q.map (·.p) <+: s.pts ∧ Jx (pre ++ q) W') :=
  (hand_in n B w0 K l N BJ J Jx hJa hY A cap s pre W hs hB0 hK hW hJ (by omega)).mono fun e W' h => h.elim
    (fun ⟨he, xs, hxs, hJ', hb⟩ => .inl ⟨he, ((hW.trans hb).cell hp).trans hv, xs, Lib.hid hxs, hand_in n B w0 K l N BJ J Jx hJa hY A' cap' s' (pre ++ xs) W' hs' hB0 hK' (hW.trans hb) hJ' (by
      have : xs.length = s.len := by rw [← SS.pts_len, ← hxs, List.length_map]
      simp; omega)⟩) .inr

set_option maxRecDepth 100000 in
set_option maxHeartbeats 4000000 in
theorem parts1_in (n B Bp : Nat) (w0 : World) (K l BJ : Nat) (p : Pt) (A3 A4 A5 : Option Addr) (cap3 cap4 cap5 : Nat) (hbox : BoxP w0 B Bp p A3 cap3 A4 cap4 A5 cap5) (hB0 : B ≤ w0.heap.size)
    (J Jx : List (PX B w0 K) → World → Prop) (hJa : AbidesFrom BJ J) (hY : Rounds B w0 K l p.sub.length J Jx) (W : World) (hW : Below B w0 W) (hJ : J [] W) (hK : cntL p.sub ≤ K) :
    CallsIn Fence.wide n Tryd.prog 67 #[.func (.yield l) #[] #[], .pointer (some ⟨Bp, 0, none⟩)] W (AllPost B w0 K J Jx p.sub) := by
  obtain ⟨N, hN⟩ : ∃ N, p.sub.length = N := ⟨_, rfl⟩
  rw [hN] at hY
  have hN' : p.l.len + (p.b.len + p.e.len) = N := by rw [← hN]; simp [Pt.sub, ES.pts_len, SS.pts_len]
  have hKK : p.l.cnt ≤ K ∧ p.b.cnt ≤ K ∧ p.e.cnt ≤ K := by simp [Pt.sub, cntL_append, ES.cntL, SS.cntL] at hK; omega
  clear hN hK
  obtain ⟨hlt, cc4, cc5, cc6, h3, h4, h5⟩ := hbox
  obtain ⟨A', cap', e1, hc1, hc2, hrow⟩ := id h3
  injection e1 with e2 e3 e4
  subst e2 e4
  clear e3
  obtain ⟨len, hlen⟩ : ∃ len, p.l.len = len := ⟨_, rfl⟩
  rw [hlen] at hc1 hrow hN' cc4
  have e4 := (hW.cell (p := ⟨Bp, 4, none⟩) hlt).trans cc4
  have HL := Lib.hid hlen; clear hlen
  have HN := Lib.hid hN'; clear hN'
  refine callsIn_of_wp Tryd.func67 rfl trivial ?_ rfl
  simp only [Tryd.ntmps67, List.size_toArray, List.length_cons, List.length_nil, Nat.reduceAdd, Nat.reduceSub, Array.replicate_succ, Array.replicate_zero, List.push_toArray, List.append_toArray, List.nil_append, List.cons_append]
  gi_wp2
  gi_loopw [9] (fun i wr => PartsRel B w0 K N len J A3 p.l i wr) (fun i _ => len - (intOf i).toNat)
  case atStart =>
    exact ⟨0, [], p.l, rfl, rfl, by have := HL.out; omega, hKK.1, by simpa [HL.out] using hrow, by simp, hJ, hW⟩
  case round =>
    obtain ⟨k, xs, r, rfl, hp, hk, hrK, hrow', hN', hJ', hW'⟩ := hrel
    have hpl : xs.length + r.len = len := by
      have := congrArg List.length hp
      simp [ES.pts_len] at this
      have := HL.out
      omega
    cases r with
    | nil =>
      have hk0 : k = len := by simpa [ES.len] using hk
      subst hk0
      clear hk hrow hrow'
      have e5 := (hW'.cell (p := ⟨Bp, 5, none⟩) hlt).trans cc5
      have H1 := hand_two (n - 1) B w0 K l N BJ J Jx hJa hY A4 A5 cap4 cap5 p.b p.e xs wr h4 h5 hB0 hKK.2.1 hKK.2.2 hW' hJ' (by have := HN.out; simp [ES.len] at hpl; omega) ⟨Bp, 6, none⟩ _ hlt cc6
      have HP := Lib.hid hp; clear hp
      have HPL := Lib.hid hpl; clear hpl
      clear cc4 cc5 cc6 e4 hN'
      gi_wp2_with (first
        | (gi_at_call 51; refine H1.mono ?_; clear H1; rintro e W2 (⟨rfl, e6, ys, HYS, H2⟩ | ⟨rfl, q, hq, hx⟩))
        | (gi_at_call 51; refine H2.mono ?_; clear H2; rintro e W3 (⟨rfl, zs, hzs, hJ3, hb3⟩ | ⟨rfl, q, hq, hx⟩)))
      · go_end0
        exact ⟨⟨_, rfl⟩, .inl ⟨xs ++ ys ++ zs, by simp [Pt.sub, HP.out, HYS.out, hzs, ES.pts], hJ3⟩⟩
      · go_end0
        obtain ⟨t, ht⟩ := hq
        exact ⟨⟨_, rfl⟩, .inr ⟨xs ++ ys ++ q, ⟨t, by simp [Pt.sub, HP.out, HYS.out, ← ht, ES.pts]⟩, hx⟩⟩
      · go_end0
        obtain ⟨t, ht⟩ := hq
        exact ⟨⟨_, rfl⟩, .inr ⟨xs ++ q, ⟨t ++ p.e.pts, by simp [Pt.sub, HP.out, ← ht, ES.pts]⟩, hx⟩⟩
    | cons op n1 s1 l1 r =>
      obtain ⟨b, o, rfl, hb, c0, c1, c2, ⟨v3, c3, h3'⟩, h6, hr⟩ := hrow' (by simp [ES.len])
      clear hrow hrow'
      obtain ⟨A6, cap6, rfl, _⟩ := id h3'
      have hlt2 : k < len := by simp [ES.len] at hk; omega
      have hN2 : xs.length < N := by have := HN.out; simp [ES.len] at hpl; omega
      have d0 := (hW'.cell (p := ⟨b, o + k * 4, none⟩) hb).trans c0
      have d1 := (hW'.cell (p := ⟨b, o + k * 4 + 1, none⟩) hb).trans c1
      have d2 := (hW'.cell (p := ⟨b, o + k * 4 + 2, none⟩) hb).trans c2
      have d3 := (hW'.cell (p := ⟨b, o + k * 4 + 3, none⟩) hb).trans c3
      clear c0 c1 c2 c3 cc4 cc5 cc6 e4
      have hcnt : (Pt.mk false op s1 n1 l1 .nil .nil).cnt ≤ K ∧ r.cnt ≤ K := by simp only [ES.cnt, SS.cnt, Pt.cnt] at hrK ⊢; omega
      obtain ⟨x, hxv, hxp⟩ : ∃ x : PX B w0 K, x.v = .agg #[.bool false, .int .i64 op, .string s1, .int .i64 n1, .slice A6 l1.len cap6, .slice none 0 0, .slice none 0 0] ∧ x.p = ⟨false, op, s1, n1, l1, .nil, .nil⟩ :=
        ⟨⟨_, ⟨false, op, s1, n1, l1, .nil, .nil⟩, ⟨_, _, _, rfl, h3', sv_nil _ _, sv_nil _ _, h6⟩, hcnt.1⟩, rfl, rfl⟩
      have HY := fun w1 (hb : Below wr.heap.size wr w1) => hand_step (n := n - 1) hY hJa hJ' hb hN2 x
      rw [hxv] at HY
      have HXP := Lib.hid hxp
      clear hxv hxp
      have HP := Lib.hid hp; clear hp
      have HK := Lib.hid hk; clear hk
      have HPL := Lib.hid hpl; clear hpl
      gi_wp2_with (first
        | (gi_at_call 68; refine (callsIn_wide.2 (ofExpr_any _ _ _ _ _ _ _)).mono ?_; rintro e w1 ⟨rfl, hb1⟩; have hb2 : Below wr.heap.size wr w1 := ((Below.refl _ _).alloc (Nat.le_refl _) _).trans (hb1.mono (by simp)); obtain ⟨fn, tmps, assign, body, hy, hR⟩ := HY w1 hb2)
        | (refine hR.mono ?_; clear hR; rintro e W3 (⟨rfl, hJ3, hb3⟩ | ⟨rfl, hJx3⟩)))
      · go_roundw
        case rel =>
          have hb4 : Below B wr W3 := (hb2.mono (by have := hW'.size; omega)).trans hb3
          refine ⟨k + 1, xs ++ [x], r, by go_num, ?_, ?_, hcnt.2, fun h => ⟨b, o, rfl, hb, ?_⟩, ?_, hJ3, hW'.trans hb4⟩
          · rw [HP.out]; simp [ES.pts, HXP.out]
          · have := HK.out; simp [ES.len] at this; omega
          · rw [show o + (k + 1) * 4 = o + k * 4 + 4 by omega]; exact hr
          · simp [ES.len] at hN' ⊢; omega
        case measure => simp [intOf]; omega
      · refine bodyPost_ret (results_none rfl _ _ _) rfl ?_
        refine ⟨⟨_, rfl⟩, .inr ⟨xs ++ [x], ⟨r.pts ++ (p.b.pts ++ p.e.pts), by simp [Pt.sub, HP.out, ES.pts, HXP.out]⟩, hJx3⟩⟩

/-- p.parts(): the part is boxed; the function value captures the box. -/
theorem parts_any (c0 : Bool) (c1 c3 : Int) (c2 : ByteArray) (A3 A4 A5 : Option Addr) (k3 k4 k5 cap3 cap4 cap5 : Nat) (w : World) :
    Calls Tryd.prog 49 #[.agg #[.bool c0, .int .i64 c1, .string c2, .int .i64 c3, .slice A3 k3 cap3, .slice A4 k4 cap4, .slice A5 k5 cap5]] w fun e w' =>
      e = .returned (.func (.func 67) #[] #[.pointer (some ⟨w.heap.size, 0, none⟩)]) ∧ w.alloc (.cells #[.bool c0, .int .i64 c1, .string c2, .int .i64 c3, .slice A3 k3 cap3, .slice A4 k4 cap4, .slice A5 k5 cap5] 111) = w' := by
  go_enter Tryd.func49, Tryd.ntmps49
  go_wp2
  go_ret
  exact ⟨rfl, rfl⟩

/-- An iterator that hands on the parts of l. -/
def SeqP (B : Nat) (w : World) (g : Nat) (lb : Array Value) (K : Nat) (l : List Pt) : Prop :=
  ∀ n, SeqStopsK Fence.wide n Tryd.prog g lb (fun x : PX B w K => #[x.v]) (Below B) (fun xs => xs.map (·.p) = l) (fun pre => pre.map (·.p) <+: l) l.length w

theorem parts_seq (B Bp : Nat) (w : World) (K : Nat) (p : Pt) (A3 A4 A5 : Option Addr) (cap3 cap4 cap5 : Nat) (hbox : BoxP w B Bp p A3 cap3 A4 cap4 A5 cap5) (hB0 : B ≤ w.heap.size) (hK : cntL p.sub ≤ K) :
    SeqP B w 67 #[.pointer (some ⟨Bp, 0, none⟩)] K p.sub := by
  intro n l J Jx W hW hJ _ hY h0
  exact parts1_in n B Bp w K l _ p A3 A4 A5 cap3 cap4 cap5 hbox hB0 J Jx hJ (fun m pre x W1 hj hl => YieldAt.wide m (hY pre x W1 hj hl)) W (hW.mono hB0) h0 hK

/-- What p.parts() hands back, in a world in which p's own slices lie. -/
theorem parts_new (w : World) (B K : Nat) (p : Pt) (A3 A4 A5 : Option Addr) (cap3 cap4 cap5 : Nat) (hB : B ≤ w.heap.size) (h3 : EV B w (.slice A3 p.l.len cap3) p.l) (h4 : SV B w (.slice A4 p.b.len cap4) p.b) (h5 : SV B w (.slice A5 p.e.len cap5) p.e) (hK : cntL p.sub ≤ K) (o : Obj)
    (ho : o = .cells #[.bool p.st, .int .i64 p.op, .string p.s, .int .i64 p.n, .slice A3 p.l.len cap3, .slice A4 p.b.len cap4, .slice A5 p.e.len cap5] 111) :
    SeqP (w.heap.size + 1) (w.alloc o) 67 #[.pointer (some ⟨w.heap.size, 0, none⟩)] K p.sub := by
  subst ho
  have hb : Below B w (w.alloc (.cells #[.bool p.st, .int .i64 p.op, .string p.s, .int .i64 p.n, .slice A3 p.l.len cap3, .slice A4 p.b.len cap4, .slice A5 p.e.len cap5] 111)) := (Below.refl _ _).alloc hB _
  refine parts_seq _ w.heap.size _ K p A3 A4 A5 cap3 cap4 cap5 ⟨by omega, by rw [cell_new]; rfl, by rw [cell_new]; rfl, by rw [cell_new]; rfl, h3.below hb (by omega), h4.below hb (by omega), h5.below hb (by omega)⟩ (by simp) hK

end Go.Proofs.YtnilklgnpfgieaaDoor

