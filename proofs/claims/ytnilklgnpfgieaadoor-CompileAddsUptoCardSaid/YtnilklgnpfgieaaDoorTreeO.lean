/-
  Texts TreeD TreeO: put together.
-/
import Derived.Test.YtnilklgnpfgieaaDoorTreeJ
/-
  deepest, count, allRight: each over whatever iterator hands on the parts of l.
-/
namespace Go.Proofs.YtnilklgnpfgieaaDoor
open Go Go.RowKit Go.Shelf

attribute [local go_sem] Oper.semAt_some wide_fn wide_depth round_fn round_depth

def ES.deep : ES → Int
  | .nil => 0
  | .cons _ _ _ l r => max (wrap64 (1 + l.deep)) r.deep
def SS.deep : SS → Int
  | .nil => 0
  | .cons _ _ _ l b e r => max (wrap64 (1 + max l.deep (max b.deep e.deep))) r.deep
def Pt.deep (p : Pt) : Int := max p.l.deep (max p.b.deep p.e.deep)
def deepL : List Pt → Int
  | [] => 0
  | p :: r => max (wrap64 (1 + p.deep)) (deepL r)
theorem deepL_nn : ∀ l, 0 ≤ deepL l
  | [] => Int.le_refl _
  | p :: r => by have := deepL_nn r; simp only [deepL]; omega
theorem deepL_append : ∀ a b, deepL (a ++ b) = max (deepL a) (deepL b)
  | [], b => by have := deepL_nn b; simp only [List.nil_append, deepL]; omega
  | p :: r, b => by simp only [List.cons_append, deepL, deepL_append r b]; omega
theorem ES.deep_nn : ∀ l : ES, 0 ≤ l.deep
  | .nil => Int.le_refl _
  | .cons _ _ _ l r => by have := ES.deep_nn r; simp only [ES.deep]; omega
theorem SS.deep_nn : ∀ l : SS, 0 ≤ l.deep
  | .nil => Int.le_refl _
  | .cons _ _ _ _ _ _ r => by have := SS.deep_nn r; simp only [SS.deep]; omega
theorem ES.deepL : ∀ l : ES, deepL l.pts = l.deep
  | .nil => rfl
  | .cons _ _ _ l r => by
    have := ES.deep_nn l
    simp only [ES.pts, Go.Proofs.YtnilklgnpfgieaaDoor.deepL, ES.deep, Pt.deep, ES.deepL r, SS.deep]
    rw [show max l.deep (max (0 : Int) 0) = l.deep by omega]
theorem SS.deepL : ∀ l : SS, deepL l.pts = l.deep
  | .nil => rfl
  | .cons _ _ _ l b e r => by simp only [SS.pts, Go.Proofs.YtnilklgnpfgieaaDoor.deepL, SS.deep, Pt.deep, SS.deepL r]
theorem Pt.deepL (p : Pt) : deepL p.sub = p.deep := by
  simp only [Pt.sub, deepL_append, ES.deepL, SS.deepL, Pt.deep]
theorem deepL_snoc (l : List Pt) (p : Pt) : deepL (l ++ [p]) = max (deepL l) (wrap64 (1 + p.deep)) := by
  have := deepL_nn l
  rw [deepL_append]
  simp only [deepL]
  omega

theorem cells_own {β : Type} (B : Nat) (cs : Array Value) (t : TypeId) : Own (fun (_ : β) W => W.heap[B]? = some (.cells cs t (0, 0))) := fun s X Y row hs hg hrow =>
  (hg.block B (Array.getElem?_eq_some_iff.1 hs).1 (fun e' => by obtain ⟨o, ho, hc⟩ := hrow B e'.symm; rw [hs] at ho; cases ho; cases hc)).trans hs

/-- The loop variable's box. -/
def PBox {B : Nat} {w : World} {K : Nat} (W : World) (Bx : Nat) (x : PX B w K) (A3 : Option Addr) (cap3 : Nat) (A4 : Option Addr) (cap4 : Nat) (A5 : Option Addr) (cap5 : Nat) : Prop :=
  x.v = .agg #[.bool x.p.st, .int .i64 x.p.op, .string x.p.s, .int .i64 x.p.n, .slice A3 x.p.l.len cap3, .slice A4 x.p.b.len cap4, .slice A5 x.p.e.len cap5] ∧
  EV B w (.slice A3 x.p.l.len cap3) x.p.l ∧ SV B w (.slice A4 x.p.b.len cap4) x.p.b ∧ SV B w (.slice A5 x.p.e.len cap5) x.p.e ∧
  W.heap[Bx]? = some (.cells #[.bool x.p.st, .int .i64 x.p.op, .string x.p.s, .int .i64 x.p.n, .slice A3 x.p.l.len cap3, .slice A4 x.p.b.len cap4, .slice A5 x.p.e.len cap5] 111 (0, 0))

theorem px_slices {B : Nat} {w : World} {K : Nat} (x : PX B w K) : ∃ A3 cap3 A4 cap4 A5 cap5,
    x.v = .agg #[.bool x.p.st, .int .i64 x.p.op, .string x.p.s, .int .i64 x.p.n, .slice A3 x.p.l.len cap3, .slice A4 x.p.b.len cap4, .slice A5 x.p.e.len cap5] ∧
    EV B w (.slice A3 x.p.l.len cap3) x.p.l ∧ SV B w (.slice A4 x.p.b.len cap4) x.p.b ∧ SV B w (.slice A5 x.p.e.len cap5) x.p.e := by
  obtain ⟨vl, vb, ve, e, h3, h4, h5, _⟩ := x.h
  obtain ⟨A3, cap3, rfl, _⟩ := id h3
  obtain ⟨A4, cap4, rfl, _⟩ := id h4
  obtain ⟨A5, cap5, rfl, _⟩ := id h5
  exact ⟨A3, cap3, A4, cap4, A5, cap5, e, h3, h4, h5⟩

theorem keeps_below {B : Nat} {W W' : World} (hb : Below W.heap.size W W') : KeepsFrom B W W' :=
  KeepsFrom.of_grownBy (row := none) ⟨hb.os, hb.tape, hb.output, hb.size, fun k hk _ => hb.block k hk⟩ (fun j e => by cases e)
theorem round_done {B : Nat} {w W W2 : World} {v v' : Value} {t : TypeId} (hb : Below W.heap.size W W2) (bS : Boxed W w.heap.size t v) (hB1 : Below w.heap.size w W) :
    KeepsFrom B W (W2.setCell ⟨w.heap.size, 0, none⟩ v') ∧ Below w.heap.size W (W2.setCell ⟨w.heap.size, 0, none⟩ v') ∧ Boxed (W2.setCell ⟨w.heap.size, 0, none⟩ v') w.heap.size t v' ∧ Below w.heap.size w (W2.setCell ⟨w.heap.size, 0, none⟩ v') := by
  have hb' := hb.mono hB1.size
  refine ⟨(keeps_below hb).trans ((KeepsOthers.setCell _ _ _).from _), hb'.setCell (Nat.le_refl _) _, ?_, (hB1.trans hb').setCell (Nat.le_refl _) _⟩
  exact (bS.kept (row := none) ⟨hb.os, hb.tape, hb.output, hb.size, fun k hk _ => hb.block k hk⟩ (by simp)).set _
theorem wrapEq (x : Int) : IntKind.i64.wrap x = wrap64 x := by rw [IntKind.wrap_i64]; unfold wrap64; rfl
theorem deep_if {B : Nat} {w : World} {K : Nat} (pre : List (PX B w K)) (x : PX B w K) :
    (if deepL (pre.map fun x => x.p) < IntKind.i64.wrap (1 + deepL x.p.sub) then IntKind.i64.wrap (1 + deepL x.p.sub) else deepL (pre.map fun x => x.p)) = deepL ((pre ++ [x]).map fun x => x.p) := by
  rw [List.map_append, List.map_cons, List.map_nil, deepL_snoc, wrapEq, Pt.deepL]
  split <;> omega
theorem wrap_def (x : Int) : wrap64 x = (x + 9223372036854775808) % 18446744073709551616 - 9223372036854775808 := by unfold wrap64; rfl
theorem cnt_snoc {B : Nat} {w : World} {K : Nat} (pre : List (PX B w K)) (x : PX B w K) :
    IntKind.i64.wrap (wrap64 (cntL (pre.map fun x => x.p)) + IntKind.i64.wrap (1 + wrap64 (cntL x.p.sub))) = wrap64 (cntL ((pre ++ [x]).map fun x => x.p)) := by
  rw [List.map_append, List.map_cons, List.map_nil, cntL_append, wrapEq, wrapEq]
  simp only [cntL, Pt.cnt_sub x.p, wrap_def]
  omega

set_option maxRecDepth 100000 in
set_option maxHeartbeats 4000000 in
theorem deepest_any (K : Nat) : ∀ (g : Nat) (lb : Array Value) (l : List Pt) (w : World), (∀ args w, (callFunc g args).run Tryd.prog w = .ok (.enter g args) w) → SeqP w.heap.size w g lb K l →
    Calls Tryd.prog 52 #[.func (.func g) #[] lb] w fun e w' => e = .returned (.int .i64 (deepL l)) ∧ Below w.heap.size w w' := by
  induction K using Nat.strongRecOn with
  | ind K ih =>
    intro g lb l w eg hseq
    refine (callsIn_wide (n := 9)).1 ?_
    refine callsIn_of_wp_marks Tryd.func52 rfl trivial ?_ rfl
    simp only [Tryd.ntmps52, List.size_toArray, List.length_cons, List.length_nil, Nat.reduceAdd, Nat.reduceSub, Array.replicate_succ, Array.replicate_zero, List.push_toArray, List.append_toArray, List.nil_append, List.cons_append]
    gi_wp2
    have bS := Boxed.new w 3 (.int .i64 0)
    have hB0 : Below w.heap.size w (w.alloc (.cells #[.int .i64 0] 3)) := (Below.refl _ w).alloc (Nat.le_refl _) _
    have hsz : (w.alloc (.cells #[.int .i64 0] 3)).heap.size = w.heap.size + 1 := by simp
    obtain ⟨W0, hW0⟩ : ∃ W0, w.alloc (.cells #[.int .i64 0] 3) = W0 := ⟨_, rfl⟩
    rw [hW0] at bS hB0 hsz ⊢
    clear hW0
    refine wpIn_rangeFunc_ownH rfl (by decide) (gf := g) (lb := lb) rfl trivial eg (hseq _) belowK_t (belowK_b (by omega)) hB0 (fun _ => rfl)
      (fun pre W => Boxed W w.heap.size 3 (.int .i64 (deepL (pre.map (·.p)))) ∧ Below w.heap.size w W)
      (fun _ _ _ => False)
      (OwnFrom.and (Own.from (boxed_own _ _ _) _) (ownFrom_below (Nat.le_refl _) (by omega)))
      (fun _ _ _ _ _ hs _ _ => hs)
      ⟨bS, hB0⟩
      (fun x a' W => ∃ Bx A3 cap3 A4 cap4 A5 cap5, w.heap.size < Bx ∧ PBox W Bx x A3 cap3 A4 cap4 A5 cap5 ∧ a' = { tmps := #[.func (.func g) #[] lb, undef, .int .i64 0, .pointer (some ⟨w.heap.size, 0, none⟩), .pointer (some ⟨Bx, 0, none⟩), .func (.func g) #[] lb, x.v, undef, undef, undef, undef, undef, undef, undef], defers := [] })
      (fun x a' _ X Y row hs hg hr => by
        obtain ⟨Bx, A3, cap3, A4, cap4, A5, cap5, h1, ⟨h2, h3, h4, h5, h6⟩, h7⟩ := hs
        exact ⟨Bx, A3, cap3, A4, cap4, A5, cap5, h1, ⟨h2, h3, h4, h5, cells_own Bx _ _ () X Y row h6 hg (fun r e => (hr r e).2)⟩, h7⟩)
      ?assign ?body ?done ?stop
    case assign =>
      rintro l pre x W K ⟨bS1, hB1⟩ hK
      obtain ⟨A3, cap3, A4, cap4, A5, cap5, hv, h3, h4, h5⟩ := px_slices x
      have HB : PBox (W.alloc (.cells #[.bool x.p.st, .int .i64 x.p.op, .string x.p.s, .int .i64 x.p.n, .slice A3 x.p.l.len cap3, .slice A4 x.p.b.len cap4, .slice A5 x.p.e.len cap5] 111)) W.heap.size x A3 cap3 A4 cap4 A5 cap5 := ⟨hv, h3, h4, h5, World.alloc_heap_new W _⟩
      have hK' := hK _ _ ((KeepsOthers.alloc _ _).from _) ((Below.refl _ W).alloc hB1.size _) ⟨bS1.alloc _, hB1.alloc hB1.size _⟩ ⟨W.heap.size, A3, cap3, A4, cap4, A5, cap5, bS1.lt, HB, rfl⟩
      clear hK HB h3 h4 h5
      rw [hv] at hK' ⊢
      clear hv
      gi_wp2
      exact hK'
    case body =>
      rintro l pre x a' W hl ⟨r, hr⟩ ⟨bS1, hB1⟩ ⟨Bx, A3, cap3, A4, cap4, A5, cap5, hBx, ⟨hv, h3, h4, h5, hbx⟩, rfl⟩ hlt
      have hmx : Tryd.prog.follows .mixedOrders = true := by kernel_rfl
      have hsub : cntL x.p.sub < K := by have := x.hk; rw [Pt.cnt_sub] at this; omega
      have HS := fun (W1 : World) (hb : Below w.heap.size w W1) => parts_new W1 w.heap.size (cntL x.p.sub) x.p A3 A4 A5 cap3 cap4 cap5 hb.size (h3.below hb (Nat.le_refl _)) (h4.below hb (Nat.le_refl _)) (h5.below hb (Nat.le_refl _)) (Nat.le_refl _) _ rfl
      have IH := fun (W1 : World) (hb : Below w.heap.size w W1) => ih _ hsub 67 #[.pointer (some ⟨W1.heap.size, 0, none⟩)] x.p.sub (W1.alloc _) (enters_of Tryd.func67 (by kernel_rfl) rfl) (by rw [World.size_alloc]; exact HS W1 hb)
      clear HS ih h3 h4 h5
      have x0 : W.cell? ⟨Bx, 0, none⟩ = some (.bool x.p.st) := by simp [World.cell?, hbx]
      have x1 : W.cell? ⟨Bx, 1, none⟩ = some (.int .i64 x.p.op) := by simp [World.cell?, hbx]
      have x2 : W.cell? ⟨Bx, 2, none⟩ = some (.string x.p.s) := by simp [World.cell?, hbx]
      have x3 : W.cell? ⟨Bx, 3, none⟩ = some (.int .i64 x.p.n) := by simp [World.cell?, hbx]
      have x4 : W.cell? ⟨Bx, 4, none⟩ = some (.slice A3 x.p.l.len cap3) := by simp [World.cell?, hbx]
      have x5 : W.cell? ⟨Bx, 5, none⟩ = some (.slice A4 x.p.b.len cap4) := by simp [World.cell?, hbx]
      have x6 : W.cell? ⟨Bx, 6, none⟩ = some (.slice A5 x.p.e.len cap5) := by simp [World.cell?, hbx]
      have hBxl : Bx < W.heap.size := (Array.getElem?_eq_some_iff.1 hbx).1
      have HV := Lib.hid hv
      clear hbx hv
      have cS := bS1.cell
      have fS := bS1.frozen
      have hsS := bS1.lt
      have I1 := IH W hB1
      have I2 := IH W.drew hB1.drew
      simp only [World.alloc_drew, World.size_drew] at I2
      clear IH
      gi_wp2
      gi_region_with_o (first
        | (gi_at_call 49; ((with_reducible refine (CallsIn.inRound l (callsIn_wide.2 (parts_any _ _ _ _ _ _ _ _ _ _ _ _ _ _))).mono ?_); rintro e w1 ⟨rfl, rfl⟩))
        | (gi_at_call 52; ((with_reducible refine (CallsIn.inRound l (callsIn_wide.2 I2)).mono ?_); rintro e w2 ⟨rfl, hb2⟩; obtain ⟨hc2, hf2⟩ := bcell hb2; simp only [World.size_alloc] at hc2 hf2))
        | (gi_at_call 52; ((with_reducible refine (CallsIn.inRound l (callsIn_wide.2 I1)).mono ?_); rintro e w2 ⟨rfl, hb2⟩; obtain ⟨hc2, hf2⟩ := bcell hb2; simp only [World.size_alloc] at hc2 hf2)))
      all_goals
        have hbW : Below W.heap.size W w2 := by first | exact ((Below.refl _ W).alloc (Nat.le_refl _) _).trans (hb2.mono (by simp)) | exact (((Below.refl _ W).alloc (Nat.le_refl _) _).drew).trans (hb2.mono (by simp))
        rw [deep_if pre x]
        exact round_done hbW bS1 hB1
    case done =>
      rintro D xs W hD hxs ⟨bS1, hB1⟩ hK
      have cS := bS1.cell
      gi_wp2
      refine ⟨by simp, .inl ⟨_, _, rfl, run_takeDeferred hK, ?_⟩⟩
      exact ⟨_, results_tmp rfl _ _ _, by rw [← hxs]; rfl, hB1.trans (belowK_b (w := w) (Nat.le_refl _) W D _ _ (by omega) hK rfl rfl)⟩
    case stop =>
      rintro D c pre W _ _ h _
      exact h.elim

end Go.Proofs.YtnilklgnpfgieaaDoor

/-
  Programs in memory; outer: what stands in no other part; Depth, Size.
-/
namespace Go.Proofs.YtnilklgnpfgieaaDoor
open Go Go.RowKit Go.Shelf

attribute [local go_sem] Oper.semAt_some wide_fn wide_depth round_fn round_depth

/-- A function; a program. -/
structure Fn where
  s : ByteArray
  ps : List ByteArray
  b : SS
structure Pg where
  fs : List Fn
  m : SS

/-- Texts lie one behind the other. -/
def PsIn (W : World) : List ByteArray → Nat → Nat → Prop
  | [] => fun _ _ => True
  | s :: r => fun b o => W.cell? ⟨b, o, none⟩ = some (.string s) ∧ s.size ≤ 9223372036854775807 ∧ PsIn W r b (o + 1)
/-- Functions lie one behind the other. -/
def FsIn (B : Nat) (W : World) : List Fn → Nat → Nat → Prop
  | [] => fun _ _ => True
  | f :: r => fun b o => W.cell? ⟨b, o, none⟩ = some (.string f.s) ∧ (∃ v, W.cell? ⟨b, o + 1, none⟩ = some v ∧ RowV (PsIn W f.ps) B f.ps.length v) ∧
      (∃ v, W.cell? ⟨b, o + 2, none⟩ = some v ∧ SV B W v f.b) ∧ f.s.size ≤ 9223372036854775807 ∧ FsIn B W r b (o + 3)
abbrev FV (B : Nat) (W : World) (v : Value) (l : List Fn) : Prop := RowV (FsIn B W l) B l.length v

theorem PsIn.below {B : Nat} {W W' : World} (h : Below B W W') : ∀ {l : List ByteArray} {b o : Nat}, b < B → PsIn W l b o → PsIn W' l b o
  | [], _, _, _, _ => trivial
  | _ :: _, b, o, hb, ⟨h0, h1, hr⟩ => ⟨(h.cell (p := ⟨b, o, none⟩) hb).trans h0, h1, PsIn.below h hb hr⟩
theorem FsIn.below {B B' : Nat} {W W' : World} (h : Below B W W') (hB : B ≤ B') : ∀ {l : List Fn} {b o : Nat}, b < B → FsIn B W l b o → FsIn B' W' l b o
  | [], _, _, _, _ => trivial
  | _ :: _, b, o, hb, ⟨h0, ⟨v, h1, hp⟩, ⟨v', h2, hs⟩, h3, hr⟩ =>
    ⟨(h.cell (p := ⟨b, o, none⟩) hb).trans h0, ⟨v, (h.cell (p := ⟨b, o + 1, none⟩) hb).trans h1, hp.imp hB fun _ _ hb' hq => PsIn.below h hb' hq⟩,
      ⟨v', (h.cell (p := ⟨b, o + 2, none⟩) hb).trans h2, hs.below h hB⟩, h3, FsIn.below h hB hb hr⟩
theorem FV.below {B B' : Nat} {W W' : World} {v : Value} {l : List Fn} (hv : FV B W v l) (h : Below B W W') (hB : B ≤ B') : FV B' W' v l := RowV.imp hv hB fun _ _ hb hp => FsIn.below h hB hb hp

def fsPts : List Fn → List Pt
  | [] => []
  | f :: r => f.b.pts ++ fsPts r
def Pg.pts (p : Pg) : List Pt := fsPts p.fs ++ p.m.pts

/-- A program's value. -/
def PgV (B : Nat) (W : World) (v : Value) (p : Pg) : Prop :=
  ∃ A cap A' cap', v = .agg #[.slice A p.fs.length cap, .slice A' p.m.len cap'] ∧ FV B W (.slice A p.fs.length cap) p.fs ∧ SV B W (.slice A' p.m.len cap') p.m
theorem PgV.below {B B' : Nat} {W W' : World} {v : Value} {p : Pg} (hv : PgV B W v p) (h : Below B W W') (hB : B ≤ B') : PgV B' W' v p := by
  obtain ⟨A, cap, A', cap', e, h1, h2⟩ := hv
  exact ⟨A, cap, A', cap', e, h1.below h hB, h2.below h hB⟩

/-- A program's box. -/
structure BoxG (w : World) (B Bp : Nat) (p : Pg) (A : Option Addr) (cap : Nat) (A' : Option Addr) (cap' : Nat) : Prop where
  lt : Bp < B
  c0 : w.cell? ⟨Bp, 0, none⟩ = some (.slice A p.fs.length cap)
  c1 : w.cell? ⟨Bp, 1, none⟩ = some (.slice A' p.m.len cap')
  h0 : FV B w (.slice A p.fs.length cap) p.fs
  h1 : SV B w (.slice A' p.m.len cap') p.m

def OutRel (B : Nat) (w0 : World) (K len : Nat) (J : List (PX B w0 K) → World → Prop) (A : Option Addr) (p : Pg) (i : Value) (wr : World) : Prop :=
  ∃ (k : Nat) (xs : List (PX B w0 K)) (r : List Fn), i = .int .i64 k ∧ fsPts p.fs = xs.map (·.p) ++ fsPts r ∧ k + r.length = len ∧ cntL (fsPts r) ≤ K ∧ (0 < r.length → ∃ b o, A = some ⟨b, o, none⟩ ∧ b < B ∧ FsIn B w0 r b (o + k * 3)) ∧ J xs wr ∧ Below B w0 wr

set_option maxRecDepth 100000 in
set_option maxHeartbeats 4000000 in
theorem outer1_in (n B Bp : Nat) (w0 : World) (K l BJ : Nat) (p : Pg) (A A' : Option Addr) (cap cap' : Nat) (hbox : BoxG w0 B Bp p A cap A' cap') (hB0 : B ≤ w0.heap.size)
    (J Jx : List (PX B w0 K) → World → Prop) (hJa : AbidesFrom BJ J) (hY : Rounds B w0 K l p.pts.length J Jx) (W : World) (hW : Below B w0 W) (hJ : J [] W) (hK : cntL p.pts ≤ K) :
    CallsIn Fence.wide n Tryd.prog 50 #[.func (.yield l) #[] #[], .pointer (some ⟨Bp, 0, none⟩)] W (AllPost B w0 K J Jx p.pts) := by
  obtain ⟨N, hN⟩ : ∃ N, p.pts.length = N := ⟨_, rfl⟩
  rw [hN] at hY
  have hN' : (fsPts p.fs).length + p.m.len = N := by rw [← hN]; simp [Pg.pts, SS.pts_len]
  have hKK : cntL (fsPts p.fs) ≤ K ∧ p.m.cnt ≤ K := by simp [Pg.pts, cntL_append, SS.cntL] at hK; omega
  clear hN hK
  obtain ⟨hlt, cc0, cc1, h0, h1⟩ := hbox
  obtain ⟨A1, cap1, e1, hc1, hc2, hrow⟩ := id h0
  injection e1 with e2 e3 e4
  subst e2 e4
  clear e3
  obtain ⟨len, hlen⟩ : ∃ len, p.fs.length = len := ⟨_, rfl⟩
  rw [hlen] at hc1 hrow cc0
  have e0 := (hW.cell (p := ⟨Bp, 0, none⟩) hlt).trans cc0
  have HL := Lib.hid hlen; clear hlen
  have HN := Lib.hid hN'; clear hN'
  refine callsIn_of_wp Tryd.func50 rfl trivial ?_ rfl
  simp only [Tryd.ntmps50, List.size_toArray, List.length_cons, List.length_nil, Nat.reduceAdd, Nat.reduceSub, Array.replicate_succ, Array.replicate_zero, List.push_toArray, List.append_toArray, List.nil_append, List.cons_append]
  gi_wp2
  gi_loopw [8] (fun i wr => OutRel B w0 K len J A p i wr) (fun i _ => len - (intOf i).toNat)
  case atStart =>
    exact ⟨0, [], p.fs, rfl, rfl, by have := HL.out; omega, hKK.1, by simpa [HL.out] using hrow, hJ, hW⟩
  case round =>
    obtain ⟨k, xs, r, rfl, hp, hk, hrK, hrow', hJ', hW'⟩ := hrel
    have hpl : xs.length + (fsPts r).length + p.m.len = N := by
      have := congrArg List.length hp
      simp at this
      have := HN.out
      omega
    cases r with
    | nil =>
      have hk0 : k = len := by simpa using hk
      subst hk0
      clear hk hrow hrow'
      have e1 := (hW'.cell (p := ⟨Bp, 1, none⟩) hlt).trans cc1
      have H1 := hand_in (n - 1) B w0 K l N BJ J Jx hJa hY A' cap' p.m xs wr h1 hB0 hKK.2 hW' hJ' (by simp [fsPts] at hpl; omega)
      have HP := Lib.hid hp; clear hp
      clear cc0 cc1 e0 hpl
      gi_wp2_with (gi_at_call 51; refine H1.mono ?_; clear H1; rintro e W3 (⟨rfl, zs, hzs, hJ3, hb3⟩ | ⟨rfl, q, hq, hx⟩))
      · go_end0
        exact ⟨⟨_, rfl⟩, .inl ⟨xs ++ zs, by simp [Pg.pts, HP.out, hzs, fsPts], hJ3⟩⟩
      · go_end0
        obtain ⟨t, ht⟩ := hq
        exact ⟨⟨_, rfl⟩, .inr ⟨xs ++ q, ⟨t, by simp [Pg.pts, HP.out, ← ht, fsPts]⟩, hx⟩⟩
    | cons f r =>
      obtain ⟨b, o, rfl, hb, c0, ⟨v1, c1, h1'⟩, ⟨v2, c2, h2'⟩, h6, hr⟩ := hrow' (by simp)
      clear hrow hrow'
      obtain ⟨A6, cap6, rfl, _⟩ := id h1'
      obtain ⟨A7, cap7, rfl, _⟩ := id h2'
      have hlt2 : k < len := by simp at hk; omega
      have d0 := (hW'.cell (p := ⟨b, o + k * 3, none⟩) hb).trans c0
      have d1 := (hW'.cell (p := ⟨b, o + k * 3 + 1, none⟩) hb).trans c1
      have d2 := (hW'.cell (p := ⟨b, o + k * 3 + 2, none⟩) hb).trans c2
      clear c0 c1 c2 cc0 cc1 e0
      have hcnt : f.b.cnt ≤ K ∧ cntL (fsPts r) ≤ K := by simp only [fsPts, cntL_append, SS.cntL] at hrK; omega
      have hsz := hW'.size
      have HH := fun o => hand_in (n - 1) B w0 K l N BJ J Jx hJa hY A7 cap7 f.b xs (wr.alloc o) h2' hB0 hcnt.1 (hW'.trans ((Below.refl _ _).alloc (by omega) _)) (abides_below hJa hJ' ((Below.refl _ _).alloc (Nat.le_refl _) _)) (by simp [fsPts, SS.pts_len] at hpl; omega)
      have HP := Lib.hid hp; clear hp
      have HK := Lib.hid hk; clear hk
      have HPL := Lib.hid hpl; clear hpl
      gi_wp2_with (gi_at_call 51; refine (HH _).mono ?_; clear HH; rintro e W3 (⟨rfl, zs, hzs, hJ3, hb3⟩ | ⟨rfl, q, hq, hx⟩))
      · go_roundw
        case rel =>
          have hb4 : Below B wr W3 := ((Below.refl _ _).alloc (by omega) _).trans hb3
          refine ⟨k + 1, xs ++ zs, r, by go_num, ?_, ?_, hcnt.2, fun h => ⟨b, o, rfl, hb, ?_⟩, hJ3, hW'.trans hb4⟩
          · rw [HP.out]; simp [fsPts, hzs]
          · have := HK.out; simp at this; omega
          · rw [show o + (k + 1) * 3 = o + k * 3 + 3 by omega]; exact hr
        case measure => simp [intOf]; omega
      · refine bodyPost_ret (results_none rfl _ _ _) rfl ?_
        obtain ⟨t, ht⟩ := hq
        exact ⟨⟨_, rfl⟩, .inr ⟨xs ++ q, ⟨t ++ (fsPts r ++ p.m.pts), by simp [Pg.pts, HP.out, fsPts, ← ht]⟩, hx⟩⟩

theorem outer_any (A A' : Option Addr) (k cap k' cap' : Nat) (w : World) :
    Calls Tryd.prog 30 #[.agg #[.slice A k cap, .slice A' k' cap']] w fun e w' =>
      e = .returned (.func (.func 50) #[] #[.pointer (some ⟨w.heap.size, 0, none⟩)]) ∧ w.alloc (.cells #[.slice A k cap, .slice A' k' cap'] 25) = w' := by
  go_enter Tryd.func30, Tryd.ntmps30
  go_wp2
  go_ret
  exact ⟨rfl, rfl⟩

/-- What outer(p) hands back. -/
theorem outer_new (w : World) (B : Nat) (p : Pg) (A A' : Option Addr) (cap cap' : Nat) (hB : B ≤ w.heap.size) (h0 : FV B w (.slice A p.fs.length cap) p.fs) (h1 : SV B w (.slice A' p.m.len cap') p.m) (o : Obj)
    (ho : o = .cells #[.slice A p.fs.length cap, .slice A' p.m.len cap'] 25) :
    SeqP (w.alloc o).heap.size (w.alloc o) 50 #[.pointer (some ⟨w.heap.size, 0, none⟩)] (cntL p.pts) p.pts := by
  subst ho
  rw [World.size_alloc]
  have hb : Below B w (w.alloc (.cells #[.slice A p.fs.length cap, .slice A' p.m.len cap'] 25)) := (Below.refl _ _).alloc hB _
  intro n l J Jx W hW hJ _ hY h
  exact outer1_in n _ w.heap.size _ _ l _ p A A' cap cap' ⟨by omega, by rw [cell_new]; rfl, by rw [cell_new]; rfl, h0.below hb (by omega), h1.below hb (by omega)⟩ (by simp) J Jx hJ (fun m pre x W1 hj hl => YieldAt.wide m (hY pre x W1 hj hl)) W (hW.mono (by simp)) h (Nat.le_refl _)

theorem enters_outer : ∀ args w, (callFunc 50 args).run Tryd.prog w = .ok (.enter 50 args) w := enters_of Tryd.func50 (by kernel_rfl) rfl

set_option maxHeartbeats 1000000 in
theorem depth_any (v : Value) (p : Pg) (w : World) (B : Nat) (hB : B ≤ w.heap.size) (hv : PgV B w v p) :
    Calls Tryd.prog 31 #[v] w fun e w' => e = .returned (.int .i64 (deepL p.pts)) ∧ Below w.heap.size w w' := by
  obtain ⟨A, cap, A', cap', rfl, h0, h1⟩ := hv
  have HD := deepest_any _ _ _ _ _ enters_outer (outer_new (w.alloc (.cells #[.slice A p.fs.length cap, .slice A' p.m.len cap'] 25)) B p A A' cap cap' (by simp; omega) (h0.below ((Below.refl _ _).alloc hB _) (Nat.le_refl _)) (h1.below ((Below.refl _ _).alloc hB _) (Nat.le_refl _)) _ rfl)
  simp only [World.size_alloc] at HD
  clear h0 h1
  go_enter Tryd.func31, Tryd.ntmps31
  go_wp2_with (first
    | (go_at_call 30; ((with_reducible refine (outer_any _ _ _ _ _ _ _).mono ?_); rintro e w1 ⟨rfl, rfl⟩))
    | (go_at_call 52; ((with_reducible refine HD.mono ?_); rintro e w2 ⟨rfl, hb2⟩)))
  go_ret
  exact ⟨rfl, (((Below.refl _ _).alloc (Nat.le_refl _) _).alloc (by simp) _).trans (hb2.mono (by omega))⟩

end Go.Proofs.YtnilklgnpfgieaaDoor

