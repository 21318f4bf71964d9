/-
  A meter, plainly and in memory; the document's own.
-/
import Derived.Test.YtpeblpaadpmceaaChecked
import Derived.WalkKit
import Derived.Lib.Hide
import Derived.Lib.MinMax
import Derived.Shelf.RegionOpen
import Derived.StillTailTactics
import Derived.OneCell
import Derived.Deep.CutBlock
import Derived.BigQuiet
import Derived.Deep.QuietTactic
import Derived.Deep.DeepCutAuto
import Derived.Sort.EveryDepth
namespace Go.Proofs.Ytpeblpaadpmceaa
open Go Go.RowKit Go.Lib

/- The calls, plainly: a clock, a fuel. -/
def badN (n : Int) : Bool := decide (n < 0 ∨ 1099511627776 < n)
def chE (a f n : Int) : Int := if n < 0 ∨ 1099511627776 < n then 1 else if f < a + n then 8 else 0
def chA (a f n : Int) : Int := if n < 0 ∨ 1099511627776 < n ∨ f < a then a else a + n
def fuelOf (x : Int) : Int := min (max x 0) 1099511627776
structure Fit (a f : Int) : Prop where
  a0 : 0 ≤ a
  f0 : 0 ≤ f
  f1 : f ≤ 1099511627776
  a1 : a ≤ f + 1099511627776
theorem fit_new (x : Int) : Fit 0 (fuelOf x) := by
  unfold fuelOf
  constructor <;> omega
theorem fit_ch {a f : Int} (h : Fit a f) (n : Int) : Fit (chA a f n) f := by
  obtain ⟨h1, h2, h3, h4⟩ := h
  unfold chA
  split <;> constructor <;> omega

/- In memory. -/
abbrev mtO (a f : Int) : Obj := .cells #[.int .i64 a, .int .i64 f] 34
abbrev rfO (f l : Int) : Obj := .cells #[.int .i64 f, .int .i64 l] 36
theorem blk_lt {W : World} {k : Nat} {o : Obj} (h : W.heap[k]? = some o) : k < W.heap.size := by
  rcases Nat.lt_or_ge k W.heap.size with h' | h'
  · exact h'
  · rw [Array.getElem?_eq_none h'] at h; cases h
theorem blk_cell {W : World} {k : Nat} {cs : Array Value} {t : TypeId} (h : W.heap[k]? = some (.cells cs t)) (i : Nat) : W.cell? ⟨k, i, none⟩ = cs[i]? := by
  simp [World.cell?, h]
theorem blk_frozen {W : World} {k : Nat} {cs : Array Value} {t : TypeId} (h : W.heap[k]? = some (.cells cs t)) (i : Nat) : W.frozen? ⟨k, i, none⟩ = false := by
  simp [World.frozen?, h]
theorem blk_set {w : World} {b : Nat} {cs : Array Value} {T : TypeId} {fr : Nat × Nat} (hb : w.heap[b]? = some (.cells cs T fr)) (o : Nat) (x : Value) : (w.setCell ⟨b, o, none⟩ x).heap[b]? = some (.cells (cs.setIfInBounds o x) T fr) := by
  simp [World.setCell, Array.getElem?_modify, hb]
/-- What stands but in the block g. -/
structure Kg (g : Nat) (W W' : World) : Prop where
  os : W'.os = W.os
  tape : W'.tape = W.tape
  output : W'.output = W.output
  size : W'.heap.size = W.heap.size
  block : ∀ k, k ≠ g → W'.heap[k]? = W.heap[k]?
theorem Kg.refl (g : Nat) (W : World) : Kg g W W := ⟨rfl, rfl, rfl, rfl, fun _ _ => rfl⟩
theorem Kg.drewN (g : Nat) (W : World) (m : Nat) : Kg g W (W.drewN m) := ⟨rfl, rfl, rfl, rfl, fun _ _ => rfl⟩
theorem Kg.trans {g : Nat} {W W' W'' : World} (h : Kg g W W') (h' : Kg g W' W'') : Kg g W W'' :=
  ⟨h'.os.trans h.os, h'.tape.trans h.tape, h'.output.trans h.output, h'.size.trans h.size, fun k hk => (h'.block k hk).trans (h.block k hk)⟩
theorem Kg.set (g i : Nat) (W : World) (v : Value) : Kg g W (W.setCell ⟨g, i, none⟩ v) :=
  ⟨rfl, rfl, rfl, by simp [World.setCell], fun k hk => Below.heap_setCell W ⟨g, i, none⟩ v k hk⟩
theorem Kg.below {g n : Nat} {W W' : World} (h : Kg g W W') (hn : n ≤ g) : Below n W W' :=
  ⟨h.os, h.tape, h.output, Nat.le_of_eq h.size.symm, fun k hk => h.block k (by omega)⟩

set_option maxRecDepth 100000 in
set_option maxHeartbeats 1000000 in
theorem new_w (x : Int) (W : World) : Calls Try.prog 10 #[.int .i64 x] W fun e W' => e = .returned (.pointer (some ⟨W.heap.size, 0, none⟩)) ∧ W'.heap[W.heap.size]? = some (mtO 0 (fuelOf x)) ∧ Below W.heap.size W W' := by
  go_enter Try.func10, Try.ntmps10
  go_wp2
  go_ret
  exact ⟨rfl, heap_alloc_new W _, (Below.refl _ _).alloc (Nat.le_refl _) _⟩
set_option maxRecDepth 100000 in
set_option maxHeartbeats 1000000 in
theorem rnew_w (x : Int) (W : World) : Calls Try.prog 11 #[.int .i64 x] W fun e W' => e = .returned (.pointer (some ⟨W.heap.size, 0, none⟩)) ∧ W'.heap[W.heap.size]? = some (rfO (fuelOf x) (fuelOf x)) ∧ Below W.heap.size W W' := by
  go_enter Try.func11, Try.ntmps11
  go_wp2
  go_ret
  have hx : max 0 (min x 1099511627776) = fuelOf x := by unfold fuelOf; omega
  refine ⟨rfl, ?_, (Below.refl _ _).alloc (Nat.le_refl _) _⟩
  rw [← hx]
  exact heap_alloc_new W _
set_option maxRecDepth 100000 in
set_option maxHeartbeats 1000000 in
theorem now_w {W : World} {g : Nat} {a f : Int} (h : W.heap[g]? = some (mtO a f)) : Calls Try.prog 14 #[.pointer (some ⟨g, 0, none⟩)] W fun e W' => e = .returned (.int .i64 a) ∧ W' = W := by
  have c0 : W.cell? ⟨g, 0, none⟩ = some (.int .i64 a) := (blk_cell h 0).trans rfl
  clear h
  go_enter Try.func14, Try.ntmps14
  go_wp2
  go_ret
  exact ⟨rfl, rfl⟩
set_option maxRecDepth 100000 in
set_option maxHeartbeats 1000000 in
theorem go_on_w {W : World} {g : Nat} {a f n : Int} (h : W.heap[g]? = some (mtO a f)) (h1 : -9223372036854775808 ≤ a + n) (h2 : a + n ≤ 9223372036854775807) : Calls Try.prog 16 #[.pointer (some ⟨g, 0, none⟩), .int .i64 n] W fun e W' => e = .returned (.tuple #[]) ∧ W' = W.setCell ⟨g, 0, none⟩ (.int .i64 (a + n)) := by
  have c0 : W.cell? ⟨g, 0, none⟩ = some (.int .i64 a) := (blk_cell h 0).trans rfl
  have k0 := blk_frozen h 0
  have w0 : IntKind.i64.wrap (a + n) = a + n := IntWalk.i64_in _ (by omega)
  clear h h1 h2
  go_enter Try.func16, Try.ntmps16
  go_wp2
  go_end0
  exact ⟨rfl, rfl⟩
set_option maxRecDepth 100000 in
set_option maxHeartbeats 1000000 in
theorem over_w {W : World} {g : Nat} {a f : Int} (h : W.heap[g]? = some (mtO a f)) : Calls Try.prog 15 #[.pointer (some ⟨g, 0, none⟩)] W fun e W' => e = .returned (.bool (decide (f < a))) ∧ ∃ m, W' = W.drewN m := by
  have c1 : W.cell? ⟨g, 1, none⟩ = some (.int .i64 f) := (blk_cell h 1).trans rfl
  have hn : ∀ n, Calls Try.prog 14 #[.pointer (some ⟨g, 0, none⟩)] (W.drewN n) fun e W' => e = .returned (.int .i64 a) ∧ W' = W.drewN n := fun n => now_w (W := W.drewN n) h
  have HN := Lib.hid hn
  clear h hn
  go_enter Try.func15, Try.ntmps15
  go_wp2
  go_quiet ((go_at_call 14; with_reducible exact Calls.quiet_of_same (HN.out _)))
  go_wp2
  go_ret
  exact ⟨rfl, _, rfl⟩

/- Charge. -/
theorem chE_bad {a f n : Int} (h : n < 0 ∨ 1099511627776 < n) : chE a f n = 1 ∧ chA a f n = a := by
  unfold chE chA
  rw [if_pos h, if_pos (by omega)]
  exact ⟨rfl, rfl⟩
theorem chE_over {a f n : Int} (h : ¬ (n < 0 ∨ 1099511627776 < n)) (ho : f < a) : chE a f n = 8 ∧ chA a f n = a := by
  unfold chE chA
  rw [if_neg h, if_pos (by omega), if_pos (by omega)]
  exact ⟨rfl, rfl⟩
theorem chE_ends {a f n : Int} (h : ¬ (n < 0 ∨ 1099511627776 < n)) (ho : ¬ f < a) (he : f < a + n) : chE a f n = 8 ∧ chA a f n = a + n := by
  unfold chE chA
  rw [if_neg h, if_pos he, if_neg (by omega)]
  exact ⟨rfl, rfl⟩
theorem chE_ok {a f n : Int} (h : ¬ (n < 0 ∨ 1099511627776 < n)) (he : ¬ f < a + n) : chE a f n = 0 ∧ chA a f n = a + n := by
  unfold chE chA
  rw [if_neg h, if_neg he, if_neg (by omega)]
  exact ⟨rfl, rfl⟩
set_option maxRecDepth 100000 in
set_option maxHeartbeats 4000000 in
theorem charge_w {W : World} {g : Nat} {a f : Int} (h : W.heap[g]? = some (mtO a f)) (hf : Fit a f) (n : Int) : Calls Try.prog 12 #[.pointer (some ⟨g, 0, none⟩), .int .i64 n] W fun e W' => e = .returned (.int .i64 (chE a f n)) ∧ W'.heap[g]? = some (mtO (chA a f n) f) ∧ Kg g W W' := by
  obtain ⟨h1, h2, h3, h4⟩ := hf
  have H := Lib.hid h
  by_cases hn0 : n < 0
  · obtain ⟨e1, e2⟩ := chE_bad (a := a) (f := f) (.inl hn0)
    rw [e1, e2]
    have d0 : decide (n < 0) = true := decide_eq_true hn0
    clear h e1 e2
    go_enter Try.func12, Try.ntmps12
    go_wp2
    go_ret
    exact ⟨rfl, H.out, Kg.refl _ _⟩
  have d0 : decide (n < 0) = false := decide_eq_false hn0
  by_cases hn1 : 1099511627776 < n
  · obtain ⟨e1, e2⟩ := chE_bad (a := a) (f := f) (.inr hn1)
    rw [e1, e2]
    have d1 : decide (1099511627776 < n) = true := decide_eq_true hn1
    clear h e1 e2
    go_enter Try.func12, Try.ntmps12
    go_wp2
    go_ret
    exact ⟨rfl, H.out, Kg.refl _ _⟩
  have d1 : decide (1099511627776 < n) = false := decide_eq_false hn1
  have HO := Lib.hid (over_w h)
  by_cases ho : f < a
  · obtain ⟨e1, e2⟩ := chE_over (a := a) (f := f) (n := n) (by omega) ho
    rw [e1, e2]
    rw [decide_eq_true ho] at HO
    clear h e1 e2
    go_enter Try.func12, Try.ntmps12
    go_wp2_with (go_at_call 15; ((with_reducible refine HO.out.mono ?_); rintro e w1 ⟨rfl, m, hq⟩; rw [hq]; clear hq w1))
    go_ret
    exact ⟨rfl, H.out, Kg.drewN _ _ _⟩
  rw [decide_eq_false ho] at HO
  have HG := Lib.hid (fun m => go_on_w (W := W.drewN m) (n := n) h (by omega) (by omega))
  have HS : Hid (∀ m, ((W.drewN m).setCell ⟨g, 0, none⟩ (.int .i64 (a + n))).heap[g]? = some (mtO (a + n) f)) := Lib.hid fun m => by
    have := blk_set (w := W.drewN m) h 0 (.int .i64 (a + n))
    rw [this]; rfl
  have HO2 := Lib.hid (fun m => over_w (HS.out m))
  by_cases he : f < a + n
  · obtain ⟨e1, e2⟩ := chE_ends (a := a) (f := f) (n := n) (by omega) ho he
    rw [e1, e2]
    rw [decide_eq_true he] at HO2
    clear h e1 e2 h1 h2 h3 h4
    go_enter Try.func12, Try.ntmps12
    go_upto_region 5 with (go_at_call 15; ((with_reducible refine HO.out.mono ?_); rintro e w1 ⟨rfl, m, hq⟩; rw [hq]; clear hq w1))
    go_wp2_with (first
      | (go_at_call 16; ((with_reducible refine (HG.out _).mono ?_); rintro e w1 ⟨rfl, hq⟩; rw [hq]; clear hq w1))
      | (go_at_call 15; ((with_reducible refine (HO2.out _).mono ?_); rintro e w1 ⟨rfl, m2, hq⟩; rw [hq]; clear hq w1)))
    go_ret
    exact ⟨rfl, HS.out _, ((Kg.drewN _ _ _).trans (Kg.set _ _ _ _)).trans (Kg.drewN _ _ _)⟩
  · obtain ⟨e1, e2⟩ := chE_ok (a := a) (f := f) (n := n) (by omega) he
    rw [e1, e2]
    rw [decide_eq_false he] at HO2
    clear h e1 e2 h1 h2 h3 h4
    go_enter Try.func12, Try.ntmps12
    go_upto_region 5 with (go_at_call 15; ((with_reducible refine HO.out.mono ?_); rintro e w1 ⟨rfl, m, hq⟩; rw [hq]; clear hq w1))
    go_wp2_with (first
      | (go_at_call 16; ((with_reducible refine (HG.out _).mono ?_); rintro e w1 ⟨rfl, hq⟩; rw [hq]; clear hq w1))
      | (go_at_call 15; ((with_reducible refine (HO2.out _).mono ?_); rintro e w1 ⟨rfl, m2, hq⟩; rw [hq]; clear hq w1)))
    go_ret
    exact ⟨rfl, HS.out _, ((Kg.drewN _ _ _).trans (Kg.set _ _ _ _)).trans (Kg.drewN _ _ _)⟩
end Go.Proofs.Ytpeblpaadpmceaa
