/-
  (part).fits, way by way (part 1 of 6).
-/
import Derived.Test.YtnilklgnpfgieaaDoorTreeF
namespace Go.Proofs.YtnilklgnpfgieaaDoor
open Go Go.RowKit Go.Lib

set_option maxRecDepth 100000 in
set_option maxHeartbeats 4000000 in
theorem fits_w5 (st : Bool) (op : Int) (s : ByteArray) (n : Int) (A3 A4 A5 : Option Addr) (k3 k4 k5 cap3 cap4 cap5 : Nat) (w : World) (ht : Tab w) (hs : s.size ≤ 9223372036854775807) (_h3 : k3 ≤ 9223372036854775807) (_h4 : k4 ≤ 9223372036854775807) (_h5 : k5 ≤ 9223372036854775807)
    (ok : Bool) (sh : Sh) (hok : (shOf st op).isSome = ok) (hsh : (shOf st op).getD sh0 = sh) (g0 : ok = true) (g1 : namedB sh.name s = true) (g2 : decide (sh.low ≤ n) = true) (g3 : decide (n ≤ sh.high) = true) (g4 : decide (sh.least ≤ (k3 : Int)) = true) (g5 : decide ((k3 : Int) ≤ sh.most) = false) :
    Calls Tryd.prog 48 #[.agg #[.bool st, .int .i64 op, .string s, .int .i64 n, .slice A3 k3 cap3, .slice A4 k4 cap4, .slice A5 k5 cap5]] w fun e w' =>
      e = .returned (.bool (false)) ∧ Below w.heap.size w w' := by
  obtain ⟨nm, lo, hg, le, mo, bo, ot⟩ := sh
  try simp only at *
  subst g0
  have H := fun W (h : Tab W) => has_any st op s n A3 A4 A5 k3 k4 k5 cap3 cap4 cap5 W h
  rw [hok, hsh] at H
  simp only [Sh.val] at H
  clear hok hsh
  have ht2 : ∀ o, Tab (w.alloc o) := fun o => ht.below ((Below.refl _ w).alloc (Nat.le_refl _) o) ht.1
  have HN := fun W => named_any ⟨nm, lo, hg, le, mo, bo, ot⟩ s W hs
  simp only at HN
  clear ht hs
  have HT := Lib.hid ht2
  clear ht2
  go_enter Tryd.func48, Tryd.ntmps48
  go_wp2_with (first
    | (go_at_call 65; ((with_reducible refine (H _ (HT.out _)).mono ?_); rintro e w1 ⟨rfl, hb1⟩; obtain ⟨hc1, hf1⟩ := bcell hb1; simp only [World.size_alloc] at hc1 hf1; have hz1 : w.heap.size < w1.heap.size := (by have := hb1.size; simp at this; omega); have hz2 : w.heap.size < w1.heap.size + 1 := (by omega)))
    | (go_at_call 66; ((with_reducible refine (HN _).mono ?_); rintro e w2 ⟨rfl, hb2⟩; obtain ⟨hc2, hf2⟩ := bcell hb2; simp only [World.size_alloc] at hc2 hf2)))
  all_goals
    go_ret
    refine ⟨ret_bool (by first | rfl | exact int_zero _), ?_⟩
    have hq := ((Below.refl w.heap.size w).alloc (Nat.le_refl _) _).trans (hb1.mono (by simp))
    first | exact hq.alloc (Nat.le_of_lt hz1) _ | exact (hq.alloc (Nat.le_of_lt hz1) _).trans (hb2.mono (by simp; omega))

set_option maxRecDepth 100000 in
set_option maxHeartbeats 4000000 in
theorem fits_w6 (st : Bool) (op : Int) (s : ByteArray) (n : Int) (A3 A4 A5 : Option Addr) (k3 k4 k5 cap3 cap4 cap5 : Nat) (w : World) (ht : Tab w) (hs : s.size ≤ 9223372036854775807) (_h3 : k3 ≤ 9223372036854775807) (_h4 : k4 ≤ 9223372036854775807) (_h5 : k5 ≤ 9223372036854775807)
    (ok : Bool) (sh : Sh) (hok : (shOf st op).isSome = ok) (hsh : (shOf st op).getD sh0 = sh) (g0 : ok = true) (g1 : namedB sh.name s = true) (g2 : decide (sh.low ≤ n) = true) (g3 : decide (n ≤ sh.high) = true) (g4 : decide (sh.least ≤ (k3 : Int)) = true) (g5 : decide ((k3 : Int) ≤ sh.most) = true) (g6 : sh.body = false) (g7 : ¬ k4 = 0) :
    Calls Tryd.prog 48 #[.agg #[.bool st, .int .i64 op, .string s, .int .i64 n, .slice A3 k3 cap3, .slice A4 k4 cap4, .slice A5 k5 cap5]] w fun e w' =>
      e = .returned (.bool (false)) ∧ Below w.heap.size w w' := by
  obtain ⟨nm, lo, hg, le, mo, bo, ot⟩ := sh
  try simp only at *
  subst g0
  subst g6
  have H := fun W (h : Tab W) => has_any st op s n A3 A4 A5 k3 k4 k5 cap3 cap4 cap5 W h
  rw [hok, hsh] at H
  simp only [Sh.val] at H
  clear hok hsh
  have ht2 : ∀ o, Tab (w.alloc o) := fun o => ht.below ((Below.refl _ w).alloc (Nat.le_refl _) o) ht.1
  have HN := fun W => named_any ⟨nm, lo, hg, le, mo, false, ot⟩ s W hs
  simp only at HN
  clear ht hs
  have HT := Lib.hid ht2
  clear ht2
  go_enter Tryd.func48, Tryd.ntmps48
  go_wp2_with (first
    | (go_at_call 65; ((with_reducible refine (H _ (HT.out _)).mono ?_); rintro e w1 ⟨rfl, hb1⟩; obtain ⟨hc1, hf1⟩ := bcell hb1; simp only [World.size_alloc] at hc1 hf1; have hz1 : w.heap.size < w1.heap.size := (by have := hb1.size; simp at this; omega); have hz2 : w.heap.size < w1.heap.size + 1 := (by omega)))
    | (go_at_call 66; ((with_reducible refine (HN _).mono ?_); rintro e w2 ⟨rfl, hb2⟩; obtain ⟨hc2, hf2⟩ := bcell hb2; simp only [World.size_alloc] at hc2 hf2)))
  all_goals
    go_ret
    refine ⟨ret_bool (by first | rfl | exact int_zero _), ?_⟩
    have hq := ((Below.refl w.heap.size w).alloc (Nat.le_refl _) _).trans (hb1.mono (by simp))
    first | exact hq.alloc (Nat.le_of_lt hz1) _ | exact (hq.alloc (Nat.le_of_lt hz1) _).trans (hb2.mono (by simp; omega))

end Go.Proofs.YtnilklgnpfgieaaDoor
