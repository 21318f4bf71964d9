/-
  (part).fits, whole; allRight over whatever iterator hands on the parts of l.
-/
import Derived.Test.YtnilklgnpfgieaaDoorTreeO
import Derived.Test.YtnilklgnpfgieaaDoorTreeF1
import Derived.Test.YtnilklgnpfgieaaDoorTreeF2
import Derived.Test.YtnilklgnpfgieaaDoorTreeF3
import Derived.Test.YtnilklgnpfgieaaDoorTreeF4
import Derived.Test.YtnilklgnpfgieaaDoorTreeF5
import Derived.Test.YtnilklgnpfgieaaDoorTreeF6
namespace Go.Proofs.YtnilklgnpfgieaaDoor
open Go Go.RowKit Go.Shelf

attribute [local go_sem] Oper.semAt_some wide_fn wide_depth round_fn round_depth

/-- Has a part what its op has, and nothing else? -/
def fitQ (ok : Bool) (sh : Sh) (s : ByteArray) (n : Int) (k3 k4 k5 : Nat) : Bool :=
  ok && (namedB sh.name s && (decide (sh.low ≤ n) && (decide (n ≤ sh.high) && (decide (sh.least ≤ (k3 : Int)) && (decide ((k3 : Int) ≤ sh.most) && ((sh.body || decide (k4 = 0)) && (sh.other || decide (k5 = 0))))))))

theorem fits_any (st : Bool) (op : Int) (s : ByteArray) (n : Int) (A3 A4 A5 : Option Addr) (k3 k4 k5 cap3 cap4 cap5 : Nat) (w : World) (ht : Tab w) (hs : s.size ≤ 9223372036854775807) (h3 : k3 ≤ 9223372036854775807) (h4 : k4 ≤ 9223372036854775807) (h5 : k5 ≤ 9223372036854775807) :
    Calls Tryd.prog 48 #[.agg #[.bool st, .int .i64 op, .string s, .int .i64 n, .slice A3 k3 cap3, .slice A4 k4 cap4, .slice A5 k5 cap5]] w fun e w' =>
      e = .returned (.bool (fitQ (shOf st op).isSome ((shOf st op).getD sh0) s n k3 k4 k5)) ∧ Below w.heap.size w w' := by
  obtain ⟨ok, hok⟩ : ∃ ok, (shOf st op).isSome = ok := ⟨_, rfl⟩
  obtain ⟨sh, hsh⟩ : ∃ sh, (shOf st op).getD sh0 = sh := ⟨_, rfl⟩
  rw [hok, hsh]
  unfold fitQ
  cases g0 : ok with
  | false => exact fits_w0 st op s n A3 A4 A5 k3 k4 k5 cap3 cap4 cap5 w ht hs h3 h4 h5 ok sh hok hsh g0
  | true =>
  cases g1 : namedB sh.name s with
  | false => exact fits_w1 st op s n A3 A4 A5 k3 k4 k5 cap3 cap4 cap5 w ht hs h3 h4 h5 ok sh hok hsh g0 g1
  | true =>
  cases g2 : decide (sh.low ≤ n) with
  | false => exact fits_w2 st op s n A3 A4 A5 k3 k4 k5 cap3 cap4 cap5 w ht hs h3 h4 h5 ok sh hok hsh g0 g1 g2
  | true =>
  cases g3 : decide (n ≤ sh.high) with
  | false => exact fits_w3 st op s n A3 A4 A5 k3 k4 k5 cap3 cap4 cap5 w ht hs h3 h4 h5 ok sh hok hsh g0 g1 g2 g3
  | true =>
  cases g4 : decide (sh.least ≤ (k3 : Int)) with
  | false => exact fits_w4 st op s n A3 A4 A5 k3 k4 k5 cap3 cap4 cap5 w ht hs h3 h4 h5 ok sh hok hsh g0 g1 g2 g3 g4
  | true =>
  cases g5 : decide ((k3 : Int) ≤ sh.most) with
  | false => exact fits_w5 st op s n A3 A4 A5 k3 k4 k5 cap3 cap4 cap5 w ht hs h3 h4 h5 ok sh hok hsh g0 g1 g2 g3 g4 g5
  | true =>
  cases g6 : sh.body with
  | true =>
    cases g7 : sh.other with
    | true => exact fits_w7 st op s n A3 A4 A5 k3 k4 k5 cap3 cap4 cap5 w ht hs h3 h4 h5 ok sh hok hsh g0 g1 g2 g3 g4 g5 g6 g7
    | false => exact fits_w8 st op s n A3 A4 A5 k3 k4 k5 cap3 cap4 cap5 w ht hs h3 h4 h5 ok sh hok hsh g0 g1 g2 g3 g4 g5 g6 g7
  | false =>
    by_cases g7 : k4 = 0
    · cases g8 : sh.other with
      | true =>
        rw [decide_eq_true g7]
        exact fits_w9 st op s n A3 A4 A5 k3 k4 k5 cap3 cap4 cap5 w ht hs h3 h4 h5 ok sh hok hsh g0 g1 g2 g3 g4 g5 g6 g7 g8
      | false =>
        rw [decide_eq_true g7]
        exact fits_wx st op s n A3 A4 A5 k3 k4 k5 cap3 cap4 cap5 w ht hs h3 h4 h5 ok sh hok hsh g0 g1 g2 g3 g4 g5 g6 g7 g8
    · rw [decide_eq_false g7]
      exact fits_w6 st op s n A3 A4 A5 k3 k4 k5 cap3 cap4 cap5 w ht hs h3 h4 h5 ok sh hok hsh g0 g1 g2 g3 g4 g5 g6 g7

def fitP (p : Pt) : Bool := fitQ (shOf p.st p.op).isSome ((shOf p.st p.op).getD sh0) p.s p.n p.l.len p.b.len p.e.len
def ES.ok : ES → Bool
  | .nil => true
  | .cons op n s l r => fitP ⟨false, op, s, n, l, .nil, .nil⟩ && l.ok && r.ok
def SS.ok : SS → Bool
  | .nil => true
  | .cons op s n l b e r => fitP ⟨true, op, s, n, l, b, e⟩ && (l.ok && (b.ok && e.ok)) && r.ok
def Pt.ok (p : Pt) : Bool := p.l.ok && (p.b.ok && p.e.ok)
def okL : List Pt → Bool
  | [] => true
  | p :: r => fitP p && p.ok && okL r
theorem okL_append : ∀ a b, okL (a ++ b) = (okL a && okL b)
  | [], b => rfl
  | p :: r, b => by simp only [List.cons_append, okL, okL_append r b, Bool.and_assoc]
theorem ES.okL : ∀ l : ES, okL l.pts = l.ok
  | .nil => rfl
  | .cons _ _ _ l r => by simp [ES.pts, Go.Proofs.YtnilklgnpfgieaaDoor.okL, ES.ok, Pt.ok, ES.okL r, SS.ok]
theorem SS.okL : ∀ l : SS, okL l.pts = l.ok
  | .nil => rfl
  | .cons _ _ _ l b e r => by simp only [SS.pts, Go.Proofs.YtnilklgnpfgieaaDoor.okL, SS.ok, Pt.ok, SS.okL r]
theorem Pt.okL (p : Pt) : okL p.sub = p.ok := by simp only [Pt.sub, okL_append, ES.okL, SS.okL, Pt.ok]
theorem okL_snoc (l : List Pt) (p : Pt) : okL (l ++ [p]) = (okL l && (fitP p && p.ok)) := by
  rw [okL_append]; simp [okL]
theorem okL_cut {l : List Pt} {a : List Pt} (h : a <+: l) (ha : okL a = false) : okL l = false := by
  obtain ⟨t, rfl⟩ := h
  rw [okL_append, ha]; rfl

theorem px_bounds {B : Nat} {w : World} {K : Nat} (x : PX B w K) : x.p.s.size ≤ 9223372036854775807 ∧ x.p.l.len ≤ 9223372036854775807 ∧ x.p.b.len ≤ 9223372036854775807 ∧ x.p.e.len ≤ 9223372036854775807 := by
  obtain ⟨vl, vb, ve, _, ⟨_, _, _, a1, a2, _⟩, ⟨_, _, _, b1, b2, _⟩, ⟨_, _, _, c1, c2, _⟩, _, _, h⟩ := x.h
  exact ⟨h, by omega, by omega, by omega⟩

set_option maxRecDepth 100000 in
set_option maxHeartbeats 8000000 in
theorem allRight_any (K : Nat) : ∀ (g : Nat) (lb : Array Value) (l : List Pt) (w : World), Tab w → (∀ args w, (callFunc g args).run Tryd.prog w = .ok (.enter g args) w) → SeqP w.heap.size w g lb K l →
    Calls Tryd.prog 29 #[.func (.func g) #[] lb] w fun e w' => e = .returned (.bool (okL l)) ∧ Below w.heap.size w w' := by
  induction K using Nat.strongRecOn with
  | ind K ih =>
    intro g lb l w ht eg hseq
    refine (callsIn_wide (n := 9)).1 ?_
    refine callsIn_of_wp_marks Tryd.func29 rfl trivial ?_ rfl
    simp only [Tryd.ntmps29, List.size_toArray, List.length_cons, List.length_nil, Nat.reduceAdd, Nat.reduceSub, Array.replicate_succ, Array.replicate_zero, List.push_toArray, List.append_toArray, List.nil_append, List.cons_append]
    gi_wp2
    have bS := Boxed.new w 4 (.bool false)
    have hB0 : Below w.heap.size w (w.alloc (.cells #[.bool false] 4)) := (Below.refl _ w).alloc (Nat.le_refl _) _
    have hsz : (w.alloc (.cells #[.bool false] 4)).heap.size = w.heap.size + 1 := by simp
    obtain ⟨W0, hW0⟩ : ∃ W0, w.alloc (.cells #[.bool false] 4) = W0 := ⟨_, rfl⟩
    rw [hW0] at bS hB0 hsz ⊢
    clear hW0
    refine wpIn_rangeFunc_ownH rfl (by decide) (gf := g) (lb := lb) rfl trivial eg (hseq _) belowK_t (belowK_b (by omega)) hB0 (fun _ => rfl)
      (fun pre W => (Boxed W w.heap.size 4 (.bool false) ∧ okL (pre.map (·.p)) = true) ∧ Below w.heap.size w W)
      (fun c pre W => (Boxed W w.heap.size 4 (.bool false) ∧ (c = .ret ∧ okL (pre.map (·.p)) = false)) ∧ Below w.heap.size w W)
      (OwnFrom.and (OwnFrom.and (Own.from (boxed_own _ _ _) _) (ownFrom_pure _ _)) (ownFrom_below (Nat.le_refl _) (by omega)))
      (fun c => OwnFrom.and (OwnFrom.and (Own.from (boxed_own _ _ _) _) (ownFrom_pure _ _)) (ownFrom_below (Nat.le_refl _) (by omega)))
      ⟨⟨bS, rfl⟩, hB0⟩
      (fun x a' W => ∃ Bx A3 cap3 A4 cap4 A5 cap5, w.heap.size < Bx ∧ PBox W Bx x A3 cap3 A4 cap4 A5 cap5 ∧ a' = { tmps := #[.func (.func g) #[] lb, undef, .pointer (some ⟨w.heap.size, 0, none⟩), .pointer (some ⟨Bx, 0, none⟩), .func (.func g) #[] lb, x.v, undef, undef, undef, undef, undef, undef, undef, undef, undef], defers := [] })
      (fun x a' _ X Y row hs hg hr => by
        obtain ⟨Bx, A3, cap3, A4, cap4, A5, cap5, h1, ⟨h2, h3, h4, h5, h6⟩, h7⟩ := hs
        exact ⟨Bx, A3, cap3, A4, cap4, A5, cap5, h1, ⟨h2, h3, h4, h5, cells_own Bx _ _ () X Y row h6 hg (fun r e => (hr r e).2)⟩, h7⟩)
      ?assign ?body ?done ?stop
    case assign =>
      rintro l pre x W K ⟨⟨bS1, ok1⟩, hB1⟩ hK
      obtain ⟨A3, cap3, A4, cap4, A5, cap5, hv, h3, h4, h5⟩ := px_slices x
      have HB : PBox (W.alloc (.cells #[.bool x.p.st, .int .i64 x.p.op, .string x.p.s, .int .i64 x.p.n, .slice A3 x.p.l.len cap3, .slice A4 x.p.b.len cap4, .slice A5 x.p.e.len cap5] 111)) W.heap.size x A3 cap3 A4 cap4 A5 cap5 := ⟨hv, h3, h4, h5, World.alloc_heap_new W _⟩
      have hK' := hK _ _ ((KeepsOthers.alloc _ _).from _) ((Below.refl _ W).alloc hB1.size _) ⟨⟨bS1.alloc _, ok1⟩, hB1.alloc hB1.size _⟩ ⟨W.heap.size, A3, cap3, A4, cap4, A5, cap5, bS1.lt, HB, rfl⟩
      clear hK HB h3 h4 h5
      rw [hv] at hK' ⊢
      clear hv ok1
      gi_wp2
      exact hK'
    case body =>
      rintro l pre x a' W hl ⟨r, hr⟩ ⟨⟨bS1, ok1⟩, hB1⟩ ⟨Bx, A3, cap3, A4, cap4, A5, cap5, hBx, ⟨hv, h3, h4, h5, hbx⟩, rfl⟩ hlt
      have hsub : cntL x.p.sub < K := by have := x.hk; rw [Pt.cnt_sub] at this; omega
      have HS := fun (W1 : World) (hb : Below w.heap.size w W1) => parts_new W1 w.heap.size (cntL x.p.sub) x.p A3 A4 A5 cap3 cap4 cap5 hb.size (h3.below hb (Nat.le_refl _)) (h4.below hb (Nat.le_refl _)) (h5.below hb (Nat.le_refl _)) (Nat.le_refl _) _ rfl
      have IH := fun (W1 : World) (hb : Below w.heap.size w W1) => ih _ hsub 67 #[.pointer (some ⟨W1.heap.size, 0, none⟩)] x.p.sub (W1.alloc _) (ht.below (hb.alloc hb.size _) ht.1) (enters_of Tryd.func67 (by kernel_rfl) rfl) (by rw [World.size_alloc]; exact HS W1 hb)
      obtain ⟨q0, q3, q4, q5⟩ := px_bounds x
      have FT : Calls Tryd.prog 48 #[.agg #[.bool x.p.st, .int .i64 x.p.op, .string x.p.s, .int .i64 x.p.n, .slice A3 x.p.l.len cap3, .slice A4 x.p.b.len cap4, .slice A5 x.p.e.len cap5]] W fun e w' =>
        e = .returned (.bool (fitP x.p)) ∧ Below W.heap.size W w' := fits_any x.p.st x.p.op x.p.s x.p.n A3 A4 A5 x.p.l.len x.p.b.len x.p.e.len cap3 cap4 cap5 W (ht.below hB1 ht.1) q0 q3 q4 q5
      have snoc := okL_snoc (pre.map (·.p)) x.p
      rw [ok1, Bool.true_and] at snoc
      clear HS ih h3 h4 h5 q0 q3 q4 q5 ok1 ht
      have x0 : W.cell? ⟨Bx, 0, none⟩ = some (.bool x.p.st) := by simp [World.cell?, hbx]
      have x1 : W.cell? ⟨Bx, 1, none⟩ = some (.int .i64 x.p.op) := by simp [World.cell?, hbx]
      have x2 : W.cell? ⟨Bx, 2, none⟩ = some (.string x.p.s) := by simp [World.cell?, hbx]
      have x3 : W.cell? ⟨Bx, 3, none⟩ = some (.int .i64 x.p.n) := by simp [World.cell?, hbx]
      have x4 : W.cell? ⟨Bx, 4, none⟩ = some (.slice A3 x.p.l.len cap3) := by simp [World.cell?, hbx]
      have x5 : W.cell? ⟨Bx, 5, none⟩ = some (.slice A4 x.p.b.len cap4) := by simp [World.cell?, hbx]
      have x6 : W.cell? ⟨Bx, 6, none⟩ = some (.slice A5 x.p.e.len cap5) := by simp [World.cell?, hbx]
      have hBxl : Bx < W.heap.size := (Array.getElem?_eq_some_iff.1 hbx).1
      have HV := Lib.hid hv
      have SN := Lib.hid snoc
      have HL := Lib.hid hl
      clear hbx hv snoc hr hl hlt
      have cS := bS1.cell
      have fS := bS1.frozen
      have hsS := bS1.lt
      have hB1' := hB1
      cases hf : fitP x.p with
      | false =>
        gi_wp2_with (gi_at_call 48; ((with_reducible refine (CallsIn.inRound l (callsIn_wide.2 FT)).mono ?_); rintro e w1 ⟨rfl, hb1⟩; obtain ⟨hc1, hf1⟩ := bcell hb1))
        obtain ⟨k1, k2, k3, k4⟩ := round_done (B := W0.heap.size) (v' := .bool false) hb1 bS1 hB1
        exact ⟨k1, ⟨k3, rfl, by rw [List.map_append, List.map_cons, List.map_nil, SN.out, hf]; rfl⟩, k4⟩
      | true =>
        cases ho : okL x.p.sub with
        | false =>
          gi_wp2_with (first
            | (gi_at_call 48; ((with_reducible refine (CallsIn.inRound l (callsIn_wide.2 FT)).mono ?_); rintro e w1 ⟨rfl, hb1⟩; obtain ⟨hc1, hf1⟩ := bcell hb1; have hz1 : w.heap.size < w1.heap.size := Nat.lt_of_lt_of_le hsS hb1.size; have hz2 : w.heap.size < w1.heap.size + 1 := Nat.lt_succ_of_lt hz1; have hzB : Bx < w1.heap.size := Nat.lt_of_lt_of_le hBxl hb1.size; have IH1 := IH w1 (hB1.trans (hb1.mono hB1.size))))
            | (gi_at_call 49; ((with_reducible refine (CallsIn.inRound l (callsIn_wide.2 (parts_any _ _ _ _ _ _ _ _ _ _ _ _ _ _))).mono ?_); rintro e w2 ⟨rfl, rfl⟩))
            | (gi_at_call 29; ((with_reducible refine (CallsIn.inRound l (callsIn_wide.2 IH1)).mono ?_); rintro e w3 ⟨rfl, hb3⟩; obtain ⟨hc3, hf3⟩ := bcell hb3; simp only [World.size_alloc] at hc3 hf3)))
          have hb5 : Below W.heap.size W w3 := hb1.trans (((Below.refl _ w1).alloc hb1.size _).trans (hb3.mono (by have := hb1.size; simp; omega)))
          obtain ⟨k1, k2, k3, k4⟩ := round_done (B := W0.heap.size) (v' := .bool false) hb5 bS1 hB1
          exact ⟨k1, ⟨k3, rfl, by rw [List.map_append, List.map_cons, List.map_nil, SN.out, hf, ← Pt.okL, ho]; rfl⟩, k4⟩
        | true =>
          gi_wp2_with (first
            | (gi_at_call 48; ((with_reducible refine (CallsIn.inRound l (callsIn_wide.2 FT)).mono ?_); rintro e w1 ⟨rfl, hb1⟩; obtain ⟨hc1, hf1⟩ := bcell hb1; have hz1 : w.heap.size < w1.heap.size := Nat.lt_of_lt_of_le hsS hb1.size; have hz2 : w.heap.size < w1.heap.size + 1 := Nat.lt_succ_of_lt hz1; have hzB : Bx < w1.heap.size := Nat.lt_of_lt_of_le hBxl hb1.size; have IH1 := IH w1 (hB1.trans (hb1.mono hB1.size))))
            | (gi_at_call 49; ((with_reducible refine (CallsIn.inRound l (callsIn_wide.2 (parts_any _ _ _ _ _ _ _ _ _ _ _ _ _ _))).mono ?_); rintro e w2 ⟨rfl, rfl⟩))
            | (gi_at_call 29; ((with_reducible refine (CallsIn.inRound l (callsIn_wide.2 IH1)).mono ?_); rintro e w3 ⟨rfl, hb3⟩; obtain ⟨hc3, hf3⟩ := bcell hb3; simp only [World.size_alloc] at hc3 hf3)))
          have hb5 : Below W.heap.size W w3 := hb1.trans (((Below.refl _ w1).alloc hb1.size _).trans (hb3.mono (by have := hb1.size; simp; omega)))
          have hb6 := hb5.mono hB1.size
          exact ⟨keeps_below hb5, hb6, ⟨bS1.kept (row := none) ⟨hb5.os, hb5.tape, hb5.output, hb5.size, fun k hk _ => hb5.block k hk⟩ (by simp), by rw [List.map_append, List.map_cons, List.map_nil, SN.out, hf, ← Pt.okL, ho]; rfl⟩, hB1.trans hb6⟩
    case done =>
      rintro D xs W hD hxs ⟨⟨bS1, ok1⟩, hB1⟩ hK
      have cS := bS1.cell
      have fS := bS1.frozen
      gi_wp2
      have hK' := (KeepsOthers.setCell W ⟨w.heap.size, 0, none⟩ (.bool true)).same D _ hK rfl
      have bS2 := bS1.set (.bool true)
      refine ⟨by simp, .inl ⟨_, _, rfl, run_takeDeferred hK', ?_⟩⟩
      have hc5 := cell_kept bS2.cell (grownBy_putObj' _ D (.deferred none)) (fun r e => by cases e; exact ⟨_, hK', rfl⟩)
      refine ⟨.bool true, ?_, by rw [← hxs, ok1], (hB1.setCell (Nat.le_refl _) _).trans (belowK_b (w := w) (Nat.le_refl _) _ D _ _ (by omega) hK' rfl rfl)⟩
      simp [results, Tryd.f29, go_sem, hc5]
    case stop =>
      rintro D c pre W hD hpre ⟨⟨bS1, rfl, ok1⟩, hB1⟩ hK
      have cS := bS1.cell
      gi_wp2
      refine ⟨by simp, .inl ⟨_, _, rfl, run_takeDeferred hK, ?_⟩⟩
      have hc5 := cell_kept cS (grownBy_putObj' _ D (.deferred none)) (fun r e => by cases e; exact ⟨_, hK, rfl⟩)
      refine ⟨.bool false, ?_, by rw [okL_cut hpre ok1], hB1.trans (belowK_b (w := w) (Nat.le_refl _) W D _ _ (by omega) hK rfl rfl)⟩
      simp [results, Tryd.f29, go_sem, hc5]

end Go.Proofs.YtnilklgnpfgieaaDoor
