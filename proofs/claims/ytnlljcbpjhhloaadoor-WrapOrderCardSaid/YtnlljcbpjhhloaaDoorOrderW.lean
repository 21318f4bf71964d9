/-
  WrapOrder: for every three numbers the statement's function tells true. The walk.
-/
import Derived.Test.YtnlljcbpjhhloaaDoorShown
import Derived.Test.YtnlljcbpjhhloaaDoorNums
namespace Go.Proofs.YtnlljcbpjhhloaaDoor
open Go Go.RowKit Go.Lib

set_option maxHeartbeats 2000000 in
set_option maxRecDepth 100000 in
theorem order_00 (a b c : Int) (w : World) (ha : I64 a) (hb : I64 b) (hc : I64 c) (h : b < a) (k : decide (gAdd a c < a) ≠ decide (c < 0)) (ht : Tab w) :
    Calls Tryd.prog 8 #[.int .i64 a, .int .i64 b, .int .i64 c] w fun e w' => e = .returned (.bool true) ∧ Fr w w' := by
  have hfr := Fr.refl w
  have s1 : gLess a a = 0 := less_0 (Int.le_refl a)
  have s2 : gSame a a = 1 := same_1 rfl
  have d1 : gLess a b = 0 := less_0 (by omega)
  have d2 : gSame a b = 0 := same_0 (by omega)
  have k1 : (decide (gAdd a c < a) == decide (c < 0)) = false := beq_eq_false_iff_ne.2 k
  have k4 : gSame (gAdd a c) (gAdd b c) = 0 := (add_same ha hb).trans d2
  clear h k
  go_enter Tryd.func8, Tryd.ntmps8
  go_wp2_with (first
    | (go_at_call 12; ((with_reducible refine (shown_fr w _ ht (by assumption)).mono ?_); rintro e w1 ⟨rfl, h1⟩))
    | (go_at_call 22; ((with_reducible refine (less_any _ _ _).mono ?_); rintro e w1 ⟨rfl, rfl⟩))
    | (go_at_call 23; ((with_reducible refine (same_any _ _ _).mono ?_); rintro e w1 ⟨rfl, rfl⟩))
    | (go_at_call 17; ((with_reducible refine (add_any _ _ _ (by first | assumption | exact i64_add _ _ | exact i64_mul _ _ | exact i64_neg _ | exact i64_sub _ _ | exact i64_01 _ | exact i64_and _ _ | exact i64_or _ _ | exact i64_div _ _ | decide) (by first | assumption | exact i64_add _ _ | exact i64_mul _ _ | exact i64_neg _ | exact i64_sub _ _ | exact i64_01 _ | exact i64_and _ _ | exact i64_or _ _ | exact i64_div _ _ | decide)).mono ?_); rintro e w1 ⟨rfl, rfl⟩)))
  go_ret
  exact ⟨rfl, by assumption⟩

set_option maxHeartbeats 2000000 in
set_option maxRecDepth 100000 in
theorem order_01 (a b c : Int) (w : World) (ha : I64 a) (hb : I64 b) (hc : I64 c) (h : b < a) (k : decide (gAdd a c < a) = decide (c < 0)) (k' : decide (gAdd b c < b) ≠ decide (c < 0)) (ht : Tab w) :
    Calls Tryd.prog 8 #[.int .i64 a, .int .i64 b, .int .i64 c] w fun e w' => e = .returned (.bool true) ∧ Fr w w' := by
  have hfr := Fr.refl w
  have s1 : gLess a a = 0 := less_0 (Int.le_refl a)
  have s2 : gSame a a = 1 := same_1 rfl
  have d1 : gLess a b = 0 := less_0 (by omega)
  have d2 : gSame a b = 0 := same_0 (by omega)
  have k1 : (decide (gAdd a c < a) == decide (c < 0)) = true := beq_iff_eq.2 k
  have k2 : (decide (gAdd b c < b) == decide (c < 0)) = false := beq_eq_false_iff_ne.2 k'
  have k4 : gSame (gAdd a c) (gAdd b c) = 0 := (add_same ha hb).trans d2
  clear h k k'
  go_enter Tryd.func8, Tryd.ntmps8
  go_wp2_with (first
    | (go_at_call 12; ((with_reducible refine (shown_fr w _ ht (by assumption)).mono ?_); rintro e w1 ⟨rfl, h1⟩))
    | (go_at_call 22; ((with_reducible refine (less_any _ _ _).mono ?_); rintro e w1 ⟨rfl, rfl⟩))
    | (go_at_call 23; ((with_reducible refine (same_any _ _ _).mono ?_); rintro e w1 ⟨rfl, rfl⟩))
    | (go_at_call 17; ((with_reducible refine (add_any _ _ _ (by first | assumption | exact i64_add _ _ | exact i64_mul _ _ | exact i64_neg _ | exact i64_sub _ _ | exact i64_01 _ | exact i64_and _ _ | exact i64_or _ _ | exact i64_div _ _ | decide) (by first | assumption | exact i64_add _ _ | exact i64_mul _ _ | exact i64_neg _ | exact i64_sub _ _ | exact i64_01 _ | exact i64_and _ _ | exact i64_or _ _ | exact i64_div _ _ | decide)).mono ?_); rintro e w1 ⟨rfl, rfl⟩)))
  go_ret
  exact ⟨rfl, by assumption⟩

set_option maxHeartbeats 2000000 in
set_option maxRecDepth 100000 in
theorem order_02 (a b c : Int) (w : World) (ha : I64 a) (hb : I64 b) (hc : I64 c) (h : b < a) (k : decide (gAdd a c < a) = decide (c < 0)) (k' : decide (gAdd b c < b) = decide (c < 0)) (ht : Tab w) :
    Calls Tryd.prog 8 #[.int .i64 a, .int .i64 b, .int .i64 c] w fun e w' => e = .returned (.bool true) ∧ Fr w w' := by
  have hfr := Fr.refl w
  have s1 : gLess a a = 0 := less_0 (Int.le_refl a)
  have s2 : gSame a a = 1 := same_1 rfl
  have d1 : gLess a b = 0 := less_0 (by omega)
  have d2 : gSame a b = 0 := same_0 (by omega)
  have k1 : (decide (gAdd a c < a) == decide (c < 0)) = true := beq_iff_eq.2 k
  have k2 : (decide (gAdd b c < b) == decide (c < 0)) = true := beq_iff_eq.2 k'
  have k3 : gLess (gAdd a c) (gAdd b c) = 0 := (add_less ha hb hc k k').trans d1
  have k4 : gSame (gAdd a c) (gAdd b c) = 0 := (add_same ha hb).trans d2
  clear h k k'
  go_enter Tryd.func8, Tryd.ntmps8
  go_wp2_with (first
    | (go_at_call 12; ((with_reducible refine (shown_fr w _ ht (by assumption)).mono ?_); rintro e w1 ⟨rfl, h1⟩))
    | (go_at_call 22; ((with_reducible refine (less_any _ _ _).mono ?_); rintro e w1 ⟨rfl, rfl⟩))
    | (go_at_call 23; ((with_reducible refine (same_any _ _ _).mono ?_); rintro e w1 ⟨rfl, rfl⟩))
    | (go_at_call 17; ((with_reducible refine (add_any _ _ _ (by first | assumption | exact i64_add _ _ | exact i64_mul _ _ | exact i64_neg _ | exact i64_sub _ _ | exact i64_01 _ | exact i64_and _ _ | exact i64_or _ _ | exact i64_div _ _ | decide) (by first | assumption | exact i64_add _ _ | exact i64_mul _ _ | exact i64_neg _ | exact i64_sub _ _ | exact i64_01 _ | exact i64_and _ _ | exact i64_or _ _ | exact i64_div _ _ | decide)).mono ?_); rintro e w1 ⟨rfl, rfl⟩)))
  go_ret
  exact ⟨rfl, by assumption⟩

set_option maxHeartbeats 2000000 in
set_option maxRecDepth 100000 in
theorem order_10 (a b c : Int) (w : World) (ha : I64 a) (hb : I64 b) (hc : I64 c) (h : a ≤ b) (h' : b ≤ a) (k : decide (gAdd a c < a) ≠ decide (c < 0)) (ht : Tab w) :
    Calls Tryd.prog 8 #[.int .i64 a, .int .i64 b, .int .i64 c] w fun e w' => e = .returned (.bool true) ∧ Fr w w' := by
  have hfr := Fr.refl w
  have s1 : gLess a a = 0 := less_0 (Int.le_refl a)
  have s2 : gSame a a = 1 := same_1 rfl
  have d1 : gLess a b = 0 := less_0 (by omega)
  have d2 : gSame a b = 1 := same_1 (by omega)
  have d3 : (gLess a c != gLess b c) = false := by rw [show a = b by omega]; simp
  have k1 : (decide (gAdd a c < a) == decide (c < 0)) = false := beq_eq_false_iff_ne.2 k
  have k4 : gSame (gAdd a c) (gAdd b c) = 1 := (add_same ha hb).trans d2
  clear h k h'
  go_enter Tryd.func8, Tryd.ntmps8
  go_wp2_with (first
    | (go_at_call 12; ((with_reducible refine (shown_fr w _ ht (by assumption)).mono ?_); rintro e w1 ⟨rfl, h1⟩))
    | (go_at_call 22; ((with_reducible refine (less_any _ _ _).mono ?_); rintro e w1 ⟨rfl, rfl⟩))
    | (go_at_call 23; ((with_reducible refine (same_any _ _ _).mono ?_); rintro e w1 ⟨rfl, rfl⟩))
    | (go_at_call 17; ((with_reducible refine (add_any _ _ _ (by first | assumption | exact i64_add _ _ | exact i64_mul _ _ | exact i64_neg _ | exact i64_sub _ _ | exact i64_01 _ | exact i64_and _ _ | exact i64_or _ _ | exact i64_div _ _ | decide) (by first | assumption | exact i64_add _ _ | exact i64_mul _ _ | exact i64_neg _ | exact i64_sub _ _ | exact i64_01 _ | exact i64_and _ _ | exact i64_or _ _ | exact i64_div _ _ | decide)).mono ?_); rintro e w1 ⟨rfl, rfl⟩)))
  go_ret
  exact ⟨rfl, by assumption⟩

set_option maxHeartbeats 2000000 in
set_option maxRecDepth 100000 in
theorem order_11 (a b c : Int) (w : World) (ha : I64 a) (hb : I64 b) (hc : I64 c) (h : a ≤ b) (h' : b ≤ a) (k : decide (gAdd a c < a) = decide (c < 0)) (k' : decide (gAdd b c < b) ≠ decide (c < 0)) (ht : Tab w) :
    Calls Tryd.prog 8 #[.int .i64 a, .int .i64 b, .int .i64 c] w fun e w' => e = .returned (.bool true) ∧ Fr w w' := by
  have hfr := Fr.refl w
  have s1 : gLess a a = 0 := less_0 (Int.le_refl a)
  have s2 : gSame a a = 1 := same_1 rfl
  have d1 : gLess a b = 0 := less_0 (by omega)
  have d2 : gSame a b = 1 := same_1 (by omega)
  have d3 : (gLess a c != gLess b c) = false := by rw [show a = b by omega]; simp
  have k1 : (decide (gAdd a c < a) == decide (c < 0)) = true := beq_iff_eq.2 k
  have k2 : (decide (gAdd b c < b) == decide (c < 0)) = false := beq_eq_false_iff_ne.2 k'
  have k4 : gSame (gAdd a c) (gAdd b c) = 1 := (add_same ha hb).trans d2
  clear h k h' k'
  go_enter Tryd.func8, Tryd.ntmps8
  go_wp2_with (first
    | (go_at_call 12; ((with_reducible refine (shown_fr w _ ht (by assumption)).mono ?_); rintro e w1 ⟨rfl, h1⟩))
    | (go_at_call 22; ((with_reducible refine (less_any _ _ _).mono ?_); rintro e w1 ⟨rfl, rfl⟩))
    | (go_at_call 23; ((with_reducible refine (same_any _ _ _).mono ?_); rintro e w1 ⟨rfl, rfl⟩))
    | (go_at_call 17; ((with_reducible refine (add_any _ _ _ (by first | assumption | exact i64_add _ _ | exact i64_mul _ _ | exact i64_neg _ | exact i64_sub _ _ | exact i64_01 _ | exact i64_and _ _ | exact i64_or _ _ | exact i64_div _ _ | decide) (by first | assumption | exact i64_add _ _ | exact i64_mul _ _ | exact i64_neg _ | exact i64_sub _ _ | exact i64_01 _ | exact i64_and _ _ | exact i64_or _ _ | exact i64_div _ _ | decide)).mono ?_); rintro e w1 ⟨rfl, rfl⟩)))
  go_ret
  exact ⟨rfl, by assumption⟩

set_option maxHeartbeats 2000000 in
set_option maxRecDepth 100000 in
theorem order_12 (a b c : Int) (w : World) (ha : I64 a) (hb : I64 b) (hc : I64 c) (h : a ≤ b) (h' : b ≤ a) (k : decide (gAdd a c < a) = decide (c < 0)) (k' : decide (gAdd b c < b) = decide (c < 0)) (ht : Tab w) :
    Calls Tryd.prog 8 #[.int .i64 a, .int .i64 b, .int .i64 c] w fun e w' => e = .returned (.bool true) ∧ Fr w w' := by
  have hfr := Fr.refl w
  have s1 : gLess a a = 0 := less_0 (Int.le_refl a)
  have s2 : gSame a a = 1 := same_1 rfl
  have d1 : gLess a b = 0 := less_0 (by omega)
  have d2 : gSame a b = 1 := same_1 (by omega)
  have d3 : (gLess a c != gLess b c) = false := by rw [show a = b by omega]; simp
  have k1 : (decide (gAdd a c < a) == decide (c < 0)) = true := beq_iff_eq.2 k
  have k2 : (decide (gAdd b c < b) == decide (c < 0)) = true := beq_iff_eq.2 k'
  have k3 : gLess (gAdd a c) (gAdd b c) = 0 := (add_less ha hb hc k k').trans d1
  have k4 : gSame (gAdd a c) (gAdd b c) = 1 := (add_same ha hb).trans d2
  clear h k h' k'
  go_enter Tryd.func8, Tryd.ntmps8
  go_wp2_with (first
    | (go_at_call 12; ((with_reducible refine (shown_fr w _ ht (by assumption)).mono ?_); rintro e w1 ⟨rfl, h1⟩))
    | (go_at_call 22; ((with_reducible refine (less_any _ _ _).mono ?_); rintro e w1 ⟨rfl, rfl⟩))
    | (go_at_call 23; ((with_reducible refine (same_any _ _ _).mono ?_); rintro e w1 ⟨rfl, rfl⟩))
    | (go_at_call 17; ((with_reducible refine (add_any _ _ _ (by first | assumption | exact i64_add _ _ | exact i64_mul _ _ | exact i64_neg _ | exact i64_sub _ _ | exact i64_01 _ | exact i64_and _ _ | exact i64_or _ _ | exact i64_div _ _ | decide) (by first | assumption | exact i64_add _ _ | exact i64_mul _ _ | exact i64_neg _ | exact i64_sub _ _ | exact i64_01 _ | exact i64_and _ _ | exact i64_or _ _ | exact i64_div _ _ | decide)).mono ?_); rintro e w1 ⟨rfl, rfl⟩)))
  go_ret
  exact ⟨rfl, by assumption⟩

set_option maxHeartbeats 2000000 in
set_option maxRecDepth 100000 in
theorem order_20 (a b c : Int) (w : World) (ha : I64 a) (hb : I64 b) (hc : I64 c) (h : a < b) (h' : c ≤ b) (k : decide (gAdd a c < a) ≠ decide (c < 0)) (ht : Tab w) :
    Calls Tryd.prog 8 #[.int .i64 a, .int .i64 b, .int .i64 c] w fun e w' => e = .returned (.bool true) ∧ Fr w w' := by
  have hfr := Fr.refl w
  have s1 : gLess a a = 0 := less_0 (Int.le_refl a)
  have s2 : gSame a a = 1 := same_1 rfl
  have d1 : gLess a b = 1 := less_1 (by omega)
  have d2 : gSame a b = 0 := same_0 (by omega)
  have d3 : gLess b c = 0 := less_0 (by omega)
  have k1 : (decide (gAdd a c < a) == decide (c < 0)) = false := beq_eq_false_iff_ne.2 k
  have k4 : gSame (gAdd a c) (gAdd b c) = 0 := (add_same ha hb).trans d2
  clear h k h'
  go_enter Tryd.func8, Tryd.ntmps8
  go_wp2_with (first
    | (go_at_call 12; ((with_reducible refine (shown_fr w _ ht (by assumption)).mono ?_); rintro e w1 ⟨rfl, h1⟩))
    | (go_at_call 22; ((with_reducible refine (less_any _ _ _).mono ?_); rintro e w1 ⟨rfl, rfl⟩))
    | (go_at_call 23; ((with_reducible refine (same_any _ _ _).mono ?_); rintro e w1 ⟨rfl, rfl⟩))
    | (go_at_call 17; ((with_reducible refine (add_any _ _ _ (by first | assumption | exact i64_add _ _ | exact i64_mul _ _ | exact i64_neg _ | exact i64_sub _ _ | exact i64_01 _ | exact i64_and _ _ | exact i64_or _ _ | exact i64_div _ _ | decide) (by first | assumption | exact i64_add _ _ | exact i64_mul _ _ | exact i64_neg _ | exact i64_sub _ _ | exact i64_01 _ | exact i64_and _ _ | exact i64_or _ _ | exact i64_div _ _ | decide)).mono ?_); rintro e w1 ⟨rfl, rfl⟩)))
  go_ret
  exact ⟨rfl, by assumption⟩

set_option maxHeartbeats 2000000 in
set_option maxRecDepth 100000 in
theorem order_21 (a b c : Int) (w : World) (ha : I64 a) (hb : I64 b) (hc : I64 c) (h : a < b) (h' : c ≤ b) (k : decide (gAdd a c < a) = decide (c < 0)) (k' : decide (gAdd b c < b) ≠ decide (c < 0)) (ht : Tab w) :
    Calls Tryd.prog 8 #[.int .i64 a, .int .i64 b, .int .i64 c] w fun e w' => e = .returned (.bool true) ∧ Fr w w' := by
  have hfr := Fr.refl w
  have s1 : gLess a a = 0 := less_0 (Int.le_refl a)
  have s2 : gSame a a = 1 := same_1 rfl
  have d1 : gLess a b = 1 := less_1 (by omega)
  have d2 : gSame a b = 0 := same_0 (by omega)
  have d3 : gLess b c = 0 := less_0 (by omega)
  have k1 : (decide (gAdd a c < a) == decide (c < 0)) = true := beq_iff_eq.2 k
  have k2 : (decide (gAdd b c < b) == decide (c < 0)) = false := beq_eq_false_iff_ne.2 k'
  have k4 : gSame (gAdd a c) (gAdd b c) = 0 := (add_same ha hb).trans d2
  clear h k h' k'
  go_enter Tryd.func8, Tryd.ntmps8
  go_wp2_with (first
    | (go_at_call 12; ((with_reducible refine (shown_fr w _ ht (by assumption)).mono ?_); rintro e w1 ⟨rfl, h1⟩))
    | (go_at_call 22; ((with_reducible refine (less_any _ _ _).mono ?_); rintro e w1 ⟨rfl, rfl⟩))
    | (go_at_call 23; ((with_reducible refine (same_any _ _ _).mono ?_); rintro e w1 ⟨rfl, rfl⟩))
    | (go_at_call 17; ((with_reducible refine (add_any _ _ _ (by first | assumption | exact i64_add _ _ | exact i64_mul _ _ | exact i64_neg _ | exact i64_sub _ _ | exact i64_01 _ | exact i64_and _ _ | exact i64_or _ _ | exact i64_div _ _ | decide) (by first | assumption | exact i64_add _ _ | exact i64_mul _ _ | exact i64_neg _ | exact i64_sub _ _ | exact i64_01 _ | exact i64_and _ _ | exact i64_or _ _ | exact i64_div _ _ | decide)).mono ?_); rintro e w1 ⟨rfl, rfl⟩)))
  go_ret
  exact ⟨rfl, by assumption⟩

set_option maxHeartbeats 2000000 in
set_option maxRecDepth 100000 in
theorem order_22 (a b c : Int) (w : World) (ha : I64 a) (hb : I64 b) (hc : I64 c) (h : a < b) (h' : c ≤ b) (k : decide (gAdd a c < a) = decide (c < 0)) (k' : decide (gAdd b c < b) = decide (c < 0)) (ht : Tab w) :
    Calls Tryd.prog 8 #[.int .i64 a, .int .i64 b, .int .i64 c] w fun e w' => e = .returned (.bool true) ∧ Fr w w' := by
  have hfr := Fr.refl w
  have s1 : gLess a a = 0 := less_0 (Int.le_refl a)
  have s2 : gSame a a = 1 := same_1 rfl
  have d1 : gLess a b = 1 := less_1 (by omega)
  have d2 : gSame a b = 0 := same_0 (by omega)
  have d3 : gLess b c = 0 := less_0 (by omega)
  have k1 : (decide (gAdd a c < a) == decide (c < 0)) = true := beq_iff_eq.2 k
  have k2 : (decide (gAdd b c < b) == decide (c < 0)) = true := beq_iff_eq.2 k'
  have k3 : gLess (gAdd a c) (gAdd b c) = 1 := (add_less ha hb hc k k').trans d1
  have k4 : gSame (gAdd a c) (gAdd b c) = 0 := (add_same ha hb).trans d2
  clear h k h' k'
  go_enter Tryd.func8, Tryd.ntmps8
  go_wp2_with (first
    | (go_at_call 12; ((with_reducible refine (shown_fr w _ ht (by assumption)).mono ?_); rintro e w1 ⟨rfl, h1⟩))
    | (go_at_call 22; ((with_reducible refine (less_any _ _ _).mono ?_); rintro e w1 ⟨rfl, rfl⟩))
    | (go_at_call 23; ((with_reducible refine (same_any _ _ _).mono ?_); rintro e w1 ⟨rfl, rfl⟩))
    | (go_at_call 17; ((with_reducible refine (add_any _ _ _ (by first | assumption | exact i64_add _ _ | exact i64_mul _ _ | exact i64_neg _ | exact i64_sub _ _ | exact i64_01 _ | exact i64_and _ _ | exact i64_or _ _ | exact i64_div _ _ | decide) (by first | assumption | exact i64_add _ _ | exact i64_mul _ _ | exact i64_neg _ | exact i64_sub _ _ | exact i64_01 _ | exact i64_and _ _ | exact i64_or _ _ | exact i64_div _ _ | decide)).mono ?_); rintro e w1 ⟨rfl, rfl⟩)))
  go_ret
  exact ⟨rfl, by assumption⟩

set_option maxHeartbeats 2000000 in
set_option maxRecDepth 100000 in
theorem order_30 (a b c : Int) (w : World) (ha : I64 a) (hb : I64 b) (hc : I64 c) (h : a < b) (h' : b < c) (k : decide (gAdd a c < a) ≠ decide (c < 0)) (ht : Tab w) :
    Calls Tryd.prog 8 #[.int .i64 a, .int .i64 b, .int .i64 c] w fun e w' => e = .returned (.bool true) ∧ Fr w w' := by
  have hfr := Fr.refl w
  have s1 : gLess a a = 0 := less_0 (Int.le_refl a)
  have s2 : gSame a a = 1 := same_1 rfl
  have d1 : gLess a b = 1 := less_1 (by omega)
  have d2 : gSame a b = 0 := same_0 (by omega)
  have d3 : gLess b c = 1 := less_1 (by omega)
  have d4 : gLess a c = 1 := less_1 (by omega)
  have k1 : (decide (gAdd a c < a) == decide (c < 0)) = false := beq_eq_false_iff_ne.2 k
  have k4 : gSame (gAdd a c) (gAdd b c) = 0 := (add_same ha hb).trans d2
  clear h k h'
  go_enter Tryd.func8, Tryd.ntmps8
  go_wp2_with (first
    | (go_at_call 12; ((with_reducible refine (shown_fr w _ ht (by assumption)).mono ?_); rintro e w1 ⟨rfl, h1⟩))
    | (go_at_call 22; ((with_reducible refine (less_any _ _ _).mono ?_); rintro e w1 ⟨rfl, rfl⟩))
    | (go_at_call 23; ((with_reducible refine (same_any _ _ _).mono ?_); rintro e w1 ⟨rfl, rfl⟩))
    | (go_at_call 17; ((with_reducible refine (add_any _ _ _ (by first | assumption | exact i64_add _ _ | exact i64_mul _ _ | exact i64_neg _ | exact i64_sub _ _ | exact i64_01 _ | exact i64_and _ _ | exact i64_or _ _ | exact i64_div _ _ | decide) (by first | assumption | exact i64_add _ _ | exact i64_mul _ _ | exact i64_neg _ | exact i64_sub _ _ | exact i64_01 _ | exact i64_and _ _ | exact i64_or _ _ | exact i64_div _ _ | decide)).mono ?_); rintro e w1 ⟨rfl, rfl⟩)))
  go_ret
  exact ⟨rfl, by assumption⟩

set_option maxHeartbeats 2000000 in
set_option maxRecDepth 100000 in
theorem order_31 (a b c : Int) (w : World) (ha : I64 a) (hb : I64 b) (hc : I64 c) (h : a < b) (h' : b < c) (k : decide (gAdd a c < a) = decide (c < 0)) (k' : decide (gAdd b c < b) ≠ decide (c < 0)) (ht : Tab w) :
    Calls Tryd.prog 8 #[.int .i64 a, .int .i64 b, .int .i64 c] w fun e w' => e = .returned (.bool true) ∧ Fr w w' := by
  have hfr := Fr.refl w
  have s1 : gLess a a = 0 := less_0 (Int.le_refl a)
  have s2 : gSame a a = 1 := same_1 rfl
  have d1 : gLess a b = 1 := less_1 (by omega)
  have d2 : gSame a b = 0 := same_0 (by omega)
  have d3 : gLess b c = 1 := less_1 (by omega)
  have d4 : gLess a c = 1 := less_1 (by omega)
  have k1 : (decide (gAdd a c < a) == decide (c < 0)) = true := beq_iff_eq.2 k
  have k2 : (decide (gAdd b c < b) == decide (c < 0)) = false := beq_eq_false_iff_ne.2 k'
  have k4 : gSame (gAdd a c) (gAdd b c) = 0 := (add_same ha hb).trans d2
  clear h k h' k'
  go_enter Tryd.func8, Tryd.ntmps8
  go_wp2_with (first
    | (go_at_call 12; ((with_reducible refine (shown_fr w _ ht (by assumption)).mono ?_); rintro e w1 ⟨rfl, h1⟩))
    | (go_at_call 22; ((with_reducible refine (less_any _ _ _).mono ?_); rintro e w1 ⟨rfl, rfl⟩))
    | (go_at_call 23; ((with_reducible refine (same_any _ _ _).mono ?_); rintro e w1 ⟨rfl, rfl⟩))
    | (go_at_call 17; ((with_reducible refine (add_any _ _ _ (by first | assumption | exact i64_add _ _ | exact i64_mul _ _ | exact i64_neg _ | exact i64_sub _ _ | exact i64_01 _ | exact i64_and _ _ | exact i64_or _ _ | exact i64_div _ _ | decide) (by first | assumption | exact i64_add _ _ | exact i64_mul _ _ | exact i64_neg _ | exact i64_sub _ _ | exact i64_01 _ | exact i64_and _ _ | exact i64_or _ _ | exact i64_div _ _ | decide)).mono ?_); rintro e w1 ⟨rfl, rfl⟩)))
  go_ret
  exact ⟨rfl, by assumption⟩

set_option maxHeartbeats 2000000 in
set_option maxRecDepth 100000 in
theorem order_32 (a b c : Int) (w : World) (ha : I64 a) (hb : I64 b) (hc : I64 c) (h : a < b) (h' : b < c) (k : decide (gAdd a c < a) = decide (c < 0)) (k' : decide (gAdd b c < b) = decide (c < 0)) (ht : Tab w) :
    Calls Tryd.prog 8 #[.int .i64 a, .int .i64 b, .int .i64 c] w fun e w' => e = .returned (.bool true) ∧ Fr w w' := by
  have hfr := Fr.refl w
  have s1 : gLess a a = 0 := less_0 (Int.le_refl a)
  have s2 : gSame a a = 1 := same_1 rfl
  have d1 : gLess a b = 1 := less_1 (by omega)
  have d2 : gSame a b = 0 := same_0 (by omega)
  have d3 : gLess b c = 1 := less_1 (by omega)
  have d4 : gLess a c = 1 := less_1 (by omega)
  have k1 : (decide (gAdd a c < a) == decide (c < 0)) = true := beq_iff_eq.2 k
  have k2 : (decide (gAdd b c < b) == decide (c < 0)) = true := beq_iff_eq.2 k'
  have k3 : gLess (gAdd a c) (gAdd b c) = 1 := (add_less ha hb hc k k').trans d1
  have k4 : gSame (gAdd a c) (gAdd b c) = 0 := (add_same ha hb).trans d2
  clear h k h' k'
  go_enter Tryd.func8, Tryd.ntmps8
  go_wp2_with (first
    | (go_at_call 12; ((with_reducible refine (shown_fr w _ ht (by assumption)).mono ?_); rintro e w1 ⟨rfl, h1⟩))
    | (go_at_call 22; ((with_reducible refine (less_any _ _ _).mono ?_); rintro e w1 ⟨rfl, rfl⟩))
    | (go_at_call 23; ((with_reducible refine (same_any _ _ _).mono ?_); rintro e w1 ⟨rfl, rfl⟩))
    | (go_at_call 17; ((with_reducible refine (add_any _ _ _ (by first | assumption | exact i64_add _ _ | exact i64_mul _ _ | exact i64_neg _ | exact i64_sub _ _ | exact i64_01 _ | exact i64_and _ _ | exact i64_or _ _ | exact i64_div _ _ | decide) (by first | assumption | exact i64_add _ _ | exact i64_mul _ _ | exact i64_neg _ | exact i64_sub _ _ | exact i64_01 _ | exact i64_and _ _ | exact i64_or _ _ | exact i64_div _ _ | decide)).mono ?_); rintro e w1 ⟨rfl, rfl⟩)))
  go_ret
  exact ⟨rfl, by assumption⟩

theorem order_walk (a b c : Int) (w : World) (ha : I64 a) (hb : I64 b) (hc : I64 c) (ht : Tab w) :
    Calls Tryd.prog 8 #[.int .i64 a, .int .i64 b, .int .i64 c] w fun e w' => e = .returned (.bool true) ∧ Fr w w' := by
  by_cases k : decide (gAdd a c < a) = decide (c < 0)
  · by_cases k' : decide (gAdd b c < b) = decide (c < 0)
    · rcases Int.lt_trichotomy a b with h | h | h
      · by_cases h' : b < c
        · exact order_32 a b c w ha hb hc h h' k k' ht
        · exact order_22 a b c w ha hb hc h (by omega) k k' ht
      · exact order_12 a b c w ha hb hc (by omega) (by omega) k k' ht
      · exact order_02 a b c w ha hb hc h k k' ht
    · rcases Int.lt_trichotomy a b with h | h | h
      · by_cases h' : b < c
        · exact order_31 a b c w ha hb hc h h' k k' ht
        · exact order_21 a b c w ha hb hc h (by omega) k k' ht
      · exact order_11 a b c w ha hb hc (by omega) (by omega) k k' ht
      · exact order_01 a b c w ha hb hc h k k' ht
  · rcases Int.lt_trichotomy a b with h | h | h
    · by_cases h' : b < c
      · exact order_30 a b c w ha hb hc h h' k ht
      · exact order_20 a b c w ha hb hc h (by omega) k ht
    · exact order_10 a b c w ha hb hc (by omega) (by omega) k ht
    · exact order_00 a b c w ha hb hc h k ht

end Go.Proofs.YtnlljcbpjhhloaaDoor
