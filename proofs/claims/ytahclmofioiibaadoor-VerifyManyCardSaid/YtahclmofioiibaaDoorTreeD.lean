/-
  deepest, count, allRight: each over whatever iterator hands on the parts of l.
-/
import Derived.Test.YtahclmofioiibaaDoorTreeJ
namespace Go.Proofs.YtahclmofioiibaaDoor
open Go Go.RowKit Go.Shelf

attribute [local go_sem] Oper.semAt_some wide_fn wide_depth round_fn round_depth

def ES.deep : ES → Int
  | .nil => 0
  | .cons _ _ _ l r => max (wrap64 (1 + l.deep)) r.deep
def SS.deep : SS → Int
  | .nil => 0
  | .cons _ _ _ l b e r => max (wrap64 (1 + max l.deep (max b.deep e.deep))) r.deep
def Pt.deep (p : Pt) : Int := max p.l.deep (max p.b.deep p.e.deep)
def deepL : List Pt → Int
  | [] => 0
  | p :: r => max (wrap64 (1 + p.deep)) (deepL r)
theorem deepL_nn : ∀ l, 0 ≤ deepL l
  | [] => Int.le_refl _
  | p :: r => by have := deepL_nn r; simp only [deepL]; omega
theorem deepL_append : ∀ a b, deepL (a ++ b) = max (deepL a) (deepL b)
  | [], b => by have := deepL_nn b; simp only [List.nil_append, deepL]; omega
  | p :: r, b => by simp only [List.cons_append, deepL, deepL_append r b]; omega
theorem ES.deep_nn : ∀ l : ES, 0 ≤ l.deep
  | .nil => Int.le_refl _
  | .cons _ _ _ l r => by have := ES.deep_nn r; simp only [ES.deep]; omega
theorem SS.deep_nn : ∀ l : SS, 0 ≤ l.deep
  | .nil => Int.le_refl _
  | .cons _ _ _ _ _ _ r => by have := SS.deep_nn r; simp only [SS.deep]; omega
theorem ES.deepL : ∀ l : ES, deepL l.pts = l.deep
  | .nil => rfl
  | .cons _ _ _ l r => by
    have := ES.deep_nn l
    simp only [ES.pts, Go.Proofs.YtahclmofioiibaaDoor.deepL, ES.deep, Pt.deep, ES.deepL r, SS.deep]
    rw [show max l.deep (max (0 : Int) 0) = l.deep by omega]
theorem SS.deepL : ∀ l : SS, deepL l.pts = l.deep
  | .nil => rfl
  | .cons _ _ _ l b e r => by simp only [SS.pts, Go.Proofs.YtahclmofioiibaaDoor.deepL, SS.deep, Pt.deep, SS.deepL r]
theorem Pt.deepL (p : Pt) : deepL p.sub = p.deep := by
  simp only [Pt.sub, deepL_append, ES.deepL, SS.deepL, Pt.deep]
theorem deepL_snoc (l : List Pt) (p : Pt) : deepL (l ++ [p]) = max (deepL l) (wrap64 (1 + p.deep)) := by
  have := deepL_nn l
  rw [deepL_append]
  simp only [deepL]
  omega

theorem cells_own {β : Type} (B : Nat) (cs : Array Value) (t : TypeId) : Own (fun (_ : β) W => W.heap[B]? = some (.cells cs t (0, 0))) := fun s X Y row hs hg hrow =>
  (hg.block B (Array.getElem?_eq_some_iff.1 hs).1 (fun e' => by obtain ⟨o, ho, hc⟩ := hrow B e'.symm; rw [hs] at ho; cases ho; cases hc)).trans hs

/-- The loop variable's box. -/
def PBox {B : Nat} {w : World} {K : Nat} (W : World) (Bx : Nat) (x : PX B w K) (A3 : Option Addr) (cap3 : Nat) (A4 : Option Addr) (cap4 : Nat) (A5 : Option Addr) (cap5 : Nat) : Prop :=
  x.v = .agg #[.bool x.p.st, .int .i64 x.p.op, .string x.p.s, .int .i64 x.p.n, .slice A3 x.p.l.len cap3, .slice A4 x.p.b.len cap4, .slice A5 x.p.e.len cap5] ∧
  EV B w (.slice A3 x.p.l.len cap3) x.p.l ∧ SV B w (.slice A4 x.p.b.len cap4) x.p.b ∧ SV B w (.slice A5 x.p.e.len cap5) x.p.e ∧
  W.heap[Bx]? = some (.cells #[.bool x.p.st, .int .i64 x.p.op, .string x.p.s, .int .i64 x.p.n, .slice A3 x.p.l.len cap3, .slice A4 x.p.b.len cap4, .slice A5 x.p.e.len cap5] 109 (0, 0))

theorem px_slices {B : Nat} {w : World} {K : Nat} (x : PX B w K) : ∃ A3 cap3 A4 cap4 A5 cap5,
    x.v = .agg #[.bool x.p.st, .int .i64 x.p.op, .string x.p.s, .int .i64 x.p.n, .slice A3 x.p.l.len cap3, .slice A4 x.p.b.len cap4, .slice A5 x.p.e.len cap5] ∧
    EV B w (.slice A3 x.p.l.len cap3) x.p.l ∧ SV B w (.slice A4 x.p.b.len cap4) x.p.b ∧ SV B w (.slice A5 x.p.e.len cap5) x.p.e := by
  obtain ⟨vl, vb, ve, e, h3, h4, h5, _⟩ := x.h
  obtain ⟨A3, cap3, rfl, _⟩ := id h3
  obtain ⟨A4, cap4, rfl, _⟩ := id h4
  obtain ⟨A5, cap5, rfl, _⟩ := id h5
  exact ⟨A3, cap3, A4, cap4, A5, cap5, e, h3, h4, h5⟩

theorem keeps_below {B : Nat} {W W' : World} (hb : Below W.heap.size W W') : KeepsFrom B W W' :=
  KeepsFrom.of_grownBy (row := none) ⟨hb.os, hb.tape, hb.output, hb.size, fun k hk _ => hb.block k hk⟩ (fun j e => by cases e)
theorem round_done {B : Nat} {w W W2 : World} {v v' : Value} {t : TypeId} (hb : Below W.heap.size W W2) (bS : Boxed W w.heap.size t v) (hB1 : Below w.heap.size w W) :
    KeepsFrom B W (W2.setCell ⟨w.heap.size, 0, none⟩ v') ∧ Below w.heap.size W (W2.setCell ⟨w.heap.size, 0, none⟩ v') ∧ Boxed (W2.setCell ⟨w.heap.size, 0, none⟩ v') w.heap.size t v' ∧ Below w.heap.size w (W2.setCell ⟨w.heap.size, 0, none⟩ v') := by
  have hb' := hb.mono hB1.size
  refine ⟨(keeps_below hb).trans ((KeepsOthers.setCell _ _ _).from _), hb'.setCell (Nat.le_refl _) _, ?_, (hB1.trans hb').setCell (Nat.le_refl _) _⟩
  exact (bS.kept (row := none) ⟨hb.os, hb.tape, hb.output, hb.size, fun k hk _ => hb.block k hk⟩ (by simp)).set _
theorem wrapEq (x : Int) : IntKind.i64.wrap x = wrap64 x := by rw [IntKind.wrap_i64]; unfold wrap64; rfl
theorem deep_if {B : Nat} {w : World} {K : Nat} (pre : List (PX B w K)) (x : PX B w K) :
    (if deepL (pre.map fun x => x.p) < IntKind.i64.wrap (1 + deepL x.p.sub) then IntKind.i64.wrap (1 + deepL x.p.sub) else deepL (pre.map fun x => x.p)) = deepL ((pre ++ [x]).map fun x => x.p) := by
  rw [List.map_append, List.map_cons, List.map_nil, deepL_snoc, wrapEq, Pt.deepL]
  split <;> omega
theorem wrap_def (x : Int) : wrap64 x = (x + 9223372036854775808) % 18446744073709551616 - 9223372036854775808 := by unfold wrap64; rfl
theorem cnt_snoc {B : Nat} {w : World} {K : Nat} (pre : List (PX B w K)) (x : PX B w K) :
    IntKind.i64.wrap (wrap64 (cntL (pre.map fun x => x.p)) + IntKind.i64.wrap (1 + wrap64 (cntL x.p.sub))) = wrap64 (cntL ((pre ++ [x]).map fun x => x.p)) := by
  rw [List.map_append, List.map_cons, List.map_nil, cntL_append, wrapEq, wrapEq]
  simp only [cntL, Pt.cnt_sub x.p, wrap_def]
  omega

set_option maxRecDepth 100000 in
set_option maxHeartbeats 4000000 in
theorem deepest_any (K : Nat) : ∀ (g : Nat) (lb : Array Value) (l : List Pt) (w : World), (∀ args w, (callFunc g args).run Tryd.prog w = .ok (.enter g args) w) → SeqP w.heap.size w g lb K l →
    Calls Tryd.prog 56 #[.func (.func g) #[] lb] w fun e w' => e = .returned (.int .i64 (deepL l)) ∧ Below w.heap.size w w' := by
  induction K using Nat.strongRecOn with
  | ind K ih =>
    intro g lb l w eg hseq
    refine (callsIn_wide (n := 9)).1 ?_
    refine callsIn_of_wp_marks Tryd.func56 rfl trivial ?_ rfl
    simp only [Tryd.ntmps56, List.size_toArray, List.length_cons, List.length_nil, Nat.reduceAdd, Nat.reduceSub, Array.replicate_succ, Array.replicate_zero, List.push_toArray, List.append_toArray, List.nil_append, List.cons_append]
    gi_wp2
    have bS := Boxed.new w 3 (.int .i64 0)
    have hB0 : Below w.heap.size w (w.alloc (.cells #[.int .i64 0] 3)) := (Below.refl _ w).alloc (Nat.le_refl _) _
    have hsz : (w.alloc (.cells #[.int .i64 0] 3)).heap.size = w.heap.size + 1 := by simp
    obtain ⟨W0, hW0⟩ : ∃ W0, w.alloc (.cells #[.int .i64 0] 3) = W0 := ⟨_, rfl⟩
    rw [hW0] at bS hB0 hsz ⊢
    clear hW0
    refine wpIn_rangeFunc_ownH rfl (by decide) (gf := g) (lb := lb) rfl trivial eg (hseq _) belowK_t (belowK_b (by omega)) hB0 (fun _ => rfl)
      (fun pre W => Boxed W w.heap.size 3 (.int .i64 (deepL (pre.map (·.p)))) ∧ Below w.heap.size w W)
      (fun _ _ _ => False)
      (OwnFrom.and (Own.from (boxed_own _ _ _) _) (ownFrom_below (Nat.le_refl _) (by omega)))
      (fun _ _ _ _ _ hs _ _ => hs)
      ⟨bS, hB0⟩
      (fun x a' W => ∃ Bx A3 cap3 A4 cap4 A5 cap5, w.heap.size < Bx ∧ PBox W Bx x A3 cap3 A4 cap4 A5 cap5 ∧ a' = { tmps := #[.func (.func g) #[] lb, undef, .int .i64 0, .pointer (some ⟨w.heap.size, 0, none⟩), .pointer (some ⟨Bx, 0, none⟩), .func (.func g) #[] lb, x.v, undef, undef, undef, undef, undef, undef, undef], defers := [] })
      (fun x a' _ X Y row hs hg hr => by
        obtain ⟨Bx, A3, cap3, A4, cap4, A5, cap5, h1, ⟨h2, h3, h4, h5, h6⟩, h7⟩ := hs
        exact ⟨Bx, A3, cap3, A4, cap4, A5, cap5, h1, ⟨h2, h3, h4, h5, cells_own Bx _ _ () X Y row h6 hg (fun r e => (hr r e).2)⟩, h7⟩)
      ?assign ?body ?done ?stop
    case assign =>
      rintro l pre x W K ⟨bS1, hB1⟩ hK
      obtain ⟨A3, cap3, A4, cap4, A5, cap5, hv, h3, h4, h5⟩ := px_slices x
      have HB : PBox (W.alloc (.cells #[.bool x.p.st, .int .i64 x.p.op, .string x.p.s, .int .i64 x.p.n, .slice A3 x.p.l.len cap3, .slice A4 x.p.b.len cap4, .slice A5 x.p.e.len cap5] 109)) W.heap.size x A3 cap3 A4 cap4 A5 cap5 := ⟨hv, h3, h4, h5, World.alloc_heap_new W _⟩
      have hK' := hK _ _ ((KeepsOthers.alloc _ _).from _) ((Below.refl _ W).alloc hB1.size _) ⟨bS1.alloc _, hB1.alloc hB1.size _⟩ ⟨W.heap.size, A3, cap3, A4, cap4, A5, cap5, bS1.lt, HB, rfl⟩
      clear hK HB h3 h4 h5
      rw [hv] at hK' ⊢
      clear hv
      gi_wp2
      exact hK'
    case body =>
      rintro l pre x a' W hl ⟨r, hr⟩ ⟨bS1, hB1⟩ ⟨Bx, A3, cap3, A4, cap4, A5, cap5, hBx, ⟨hv, h3, h4, h5, hbx⟩, rfl⟩ hlt
      have hmx : Tryd.prog.follows .mixedOrders = true := by kernel_rfl
      have hsub : cntL x.p.sub < K := by have := x.hk; rw [Pt.cnt_sub] at this; omega
      have HS := fun (W1 : World) (hb : Below w.heap.size w W1) => parts_new W1 w.heap.size (cntL x.p.sub) x.p A3 A4 A5 cap3 cap4 cap5 hb.size (h3.below hb (Nat.le_refl _)) (h4.below hb (Nat.le_refl _)) (h5.below hb (Nat.le_refl _)) (Nat.le_refl _) _ rfl
      have IH := fun (W1 : World) (hb : Below w.heap.size w W1) => ih _ hsub 68 #[.pointer (some ⟨W1.heap.size, 0, none⟩)] x.p.sub (W1.alloc _) (enters_of Tryd.func68 (by kernel_rfl) rfl) (by rw [World.size_alloc]; exact HS W1 hb)
      clear HS ih h3 h4 h5
      have x0 : W.cell? ⟨Bx, 0, none⟩ = some (.bool x.p.st) := by simp [World.cell?, hbx]
      have x1 : W.cell? ⟨Bx, 1, none⟩ = some (.int .i64 x.p.op) := by simp [World.cell?, hbx]
      have x2 : W.cell? ⟨Bx, 2, none⟩ = some (.string x.p.s) := by simp [World.cell?, hbx]
      have x3 : W.cell? ⟨Bx, 3, none⟩ = some (.int .i64 x.p.n) := by simp [World.cell?, hbx]
      have x4 : W.cell? ⟨Bx, 4, none⟩ = some (.slice A3 x.p.l.len cap3) := by simp [World.cell?, hbx]
      have x5 : W.cell? ⟨Bx, 5, none⟩ = some (.slice A4 x.p.b.len cap4) := by simp [World.cell?, hbx]
      have x6 : W.cell? ⟨Bx, 6, none⟩ = some (.slice A5 x.p.e.len cap5) := by simp [World.cell?, hbx]
      have hBxl : Bx < W.heap.size := (Array.getElem?_eq_some_iff.1 hbx).1
      have HV := Lib.hid hv
      clear hbx hv
      have cS := bS1.cell
      have fS := bS1.frozen
      have hsS := bS1.lt
      have I1 := IH W hB1
      have I2 := IH W.drew hB1.drew
      simp only [World.alloc_drew, World.size_drew] at I2
      clear IH
      gi_wp2
      gi_region_with_o (first
        | (gi_at_call 53; ((with_reducible refine (CallsIn.inRound l (callsIn_wide.2 (parts_any _ _ _ _ _ _ _ _ _ _ _ _ _ _))).mono ?_); rintro e w1 ⟨rfl, rfl⟩))
        | (gi_at_call 56; ((with_reducible refine (CallsIn.inRound l (callsIn_wide.2 I2)).mono ?_); rintro e w2 ⟨rfl, hb2⟩; obtain ⟨hc2, hf2⟩ := bcell hb2; simp only [World.size_alloc] at hc2 hf2))
        | (gi_at_call 56; ((with_reducible refine (CallsIn.inRound l (callsIn_wide.2 I1)).mono ?_); rintro e w2 ⟨rfl, hb2⟩; obtain ⟨hc2, hf2⟩ := bcell hb2; simp only [World.size_alloc] at hc2 hf2)))
      all_goals
        have hbW : Below W.heap.size W w2 := by first | exact ((Below.refl _ W).alloc (Nat.le_refl _) _).trans (hb2.mono (by simp)) | exact (((Below.refl _ W).alloc (Nat.le_refl _) _).drew).trans (hb2.mono (by simp))
        rw [deep_if pre x]
        exact round_done hbW bS1 hB1
    case done =>
      rintro D xs W hD hxs ⟨bS1, hB1⟩ hK
      have cS := bS1.cell
      gi_wp2
      refine ⟨by simp, .inl ⟨_, _, rfl, run_takeDeferred hK, ?_⟩⟩
      exact ⟨_, results_tmp rfl _ _ _, by rw [← hxs]; rfl, hB1.trans (belowK_b (w := w) (Nat.le_refl _) W D _ _ (by omega) hK rfl rfl)⟩
    case stop =>
      rintro D c pre W _ _ h _
      exact h.elim

end Go.Proofs.YtahclmofioiibaaDoor
