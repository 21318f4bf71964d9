/-
  WrapBits: for every two numbers the statement's function tells true. The walk.
-/
import Derived.Test.YtnlljcbpjhhloaaDoorShown
import Derived.Test.YtnlljcbpjhhloaaDoorNums
namespace Go.Proofs.YtnlljcbpjhhloaaDoor
open Go Go.RowKit Go.Lib

set_option maxHeartbeats 2000000 in
set_option maxRecDepth 100000 in
theorem bits_00 (a b : Int) (w : World) (ha : I64 a) (hb : I64 b) (h : a < b) (hz : 0 ≤ a) (hz' : a ≤ 0) (ht : Tab w) :
    Calls Tryd.prog 7 #[.int .i64 a, .int .i64 b] w fun e w' => e = .returned (.bool true) ∧ Fr w w' := by
  have hfr := Fr.refl w
  have q1 : (gAdd (gAnd a b) (gOr a b) == gAdd a b) = true := beq_iff_eq.2 (and_or a b)
  have q2 : (gAnd a a == a) = true := beq_iff_eq.2 (and_self a ha)
  have q3 : (gOr a 0 == a) = true := beq_iff_eq.2 (or_zero a ha)
  have q4 : (gAnd a (-1) == a) = true := beq_iff_eq.2 (and_m1 a ha)
  have q5 : gNot 0 = 1 := rfl
  have q6 : gNot 1 = 0 := rfl
  have d1 : gLess a b = 1 := less_1 h
  have d2 : gSame a b = 0 := same_0 (by omega)
  have d3 : gLess b a = 0 := less_0 (by omega)
  have d4 : decide (a < b) = true := decide_eq_true h
  have d5 : (a == b) = false := beq_eq_false_iff_ne.2 (by omega)
  have n1 : gNot a = 1 := not_1 (by omega)
  have n2 : gSame a 0 = 1 := same_1 (by omega)
  clear hz hz' h
  go_enter Tryd.func7, Tryd.ntmps7
  go_wp2_with (first
    | (go_at_call 12; ((with_reducible refine (shown_fr w _ ht (by assumption)).mono ?_); rintro e w1 ⟨rfl, h1⟩))
    | (go_at_call 22; ((with_reducible refine (less_any _ _ _).mono ?_); rintro e w1 ⟨rfl, rfl⟩))
    | (go_at_call 23; ((with_reducible refine (same_any _ _ _).mono ?_); rintro e w1 ⟨rfl, rfl⟩))
    | (go_at_call 16; ((with_reducible refine (not_any _ _).mono ?_); rintro e w1 ⟨rfl, rfl⟩))
    | (go_at_call 17; ((with_reducible refine (add_any _ _ _ (by first | assumption | exact i64_add _ _ | exact i64_mul _ _ | exact i64_neg _ | exact i64_sub _ _ | exact i64_01 _ | exact i64_and _ _ | exact i64_or _ _ | exact i64_div _ _ | decide) (by first | assumption | exact i64_add _ _ | exact i64_mul _ _ | exact i64_neg _ | exact i64_sub _ _ | exact i64_01 _ | exact i64_and _ _ | exact i64_or _ _ | exact i64_div _ _ | decide)).mono ?_); rintro e w1 ⟨rfl, rfl⟩))
    | (go_at_call 24; ((with_reducible refine (and_any _ _ _ (by first | assumption | exact i64_add _ _ | exact i64_mul _ _ | exact i64_neg _ | exact i64_sub _ _ | exact i64_01 _ | exact i64_and _ _ | exact i64_or _ _ | exact i64_div _ _ | decide) (by first | assumption | exact i64_add _ _ | exact i64_mul _ _ | exact i64_neg _ | exact i64_sub _ _ | exact i64_01 _ | exact i64_and _ _ | exact i64_or _ _ | exact i64_div _ _ | decide)).mono ?_); rintro e w1 ⟨rfl, rfl⟩))
    | (go_at_call 25; ((with_reducible refine (or_any _ _ _ (by first | assumption | exact i64_add _ _ | exact i64_mul _ _ | exact i64_neg _ | exact i64_sub _ _ | exact i64_01 _ | exact i64_and _ _ | exact i64_or _ _ | exact i64_div _ _ | decide) (by first | assumption | exact i64_add _ _ | exact i64_mul _ _ | exact i64_neg _ | exact i64_sub _ _ | exact i64_01 _ | exact i64_and _ _ | exact i64_or _ _ | exact i64_div _ _ | decide)).mono ?_); rintro e w1 ⟨rfl, rfl⟩)))
  go_ret
  exact ⟨rfl, by assumption⟩

set_option maxHeartbeats 2000000 in
set_option maxRecDepth 100000 in
theorem bits_01 (a b : Int) (w : World) (ha : I64 a) (hb : I64 b) (h : a < b) (hz : a < 0 ∨ 0 < a) (ht : Tab w) :
    Calls Tryd.prog 7 #[.int .i64 a, .int .i64 b] w fun e w' => e = .returned (.bool true) ∧ Fr w w' := by
  have hfr := Fr.refl w
  have q1 : (gAdd (gAnd a b) (gOr a b) == gAdd a b) = true := beq_iff_eq.2 (and_or a b)
  have q2 : (gAnd a a == a) = true := beq_iff_eq.2 (and_self a ha)
  have q3 : (gOr a 0 == a) = true := beq_iff_eq.2 (or_zero a ha)
  have q4 : (gAnd a (-1) == a) = true := beq_iff_eq.2 (and_m1 a ha)
  have q5 : gNot 0 = 1 := rfl
  have q6 : gNot 1 = 0 := rfl
  have d1 : gLess a b = 1 := less_1 h
  have d2 : gSame a b = 0 := same_0 (by omega)
  have d3 : gLess b a = 0 := less_0 (by omega)
  have d4 : decide (a < b) = true := decide_eq_true h
  have d5 : (a == b) = false := beq_eq_false_iff_ne.2 (by omega)
  have n1 : gNot a = 0 := not_0' (by omega)
  have n2 : gSame a 0 = 0 := same_0 (by omega)
  clear hz h
  go_enter Tryd.func7, Tryd.ntmps7
  go_wp2_with (first
    | (go_at_call 12; ((with_reducible refine (shown_fr w _ ht (by assumption)).mono ?_); rintro e w1 ⟨rfl, h1⟩))
    | (go_at_call 22; ((with_reducible refine (less_any _ _ _).mono ?_); rintro e w1 ⟨rfl, rfl⟩))
    | (go_at_call 23; ((with_reducible refine (same_any _ _ _).mono ?_); rintro e w1 ⟨rfl, rfl⟩))
    | (go_at_call 16; ((with_reducible refine (not_any _ _).mono ?_); rintro e w1 ⟨rfl, rfl⟩))
    | (go_at_call 17; ((with_reducible refine (add_any _ _ _ (by first | assumption | exact i64_add _ _ | exact i64_mul _ _ | exact i64_neg _ | exact i64_sub _ _ | exact i64_01 _ | exact i64_and _ _ | exact i64_or _ _ | exact i64_div _ _ | decide) (by first | assumption | exact i64_add _ _ | exact i64_mul _ _ | exact i64_neg _ | exact i64_sub _ _ | exact i64_01 _ | exact i64_and _ _ | exact i64_or _ _ | exact i64_div _ _ | decide)).mono ?_); rintro e w1 ⟨rfl, rfl⟩))
    | (go_at_call 24; ((with_reducible refine (and_any _ _ _ (by first | assumption | exact i64_add _ _ | exact i64_mul _ _ | exact i64_neg _ | exact i64_sub _ _ | exact i64_01 _ | exact i64_and _ _ | exact i64_or _ _ | exact i64_div _ _ | decide) (by first | assumption | exact i64_add _ _ | exact i64_mul _ _ | exact i64_neg _ | exact i64_sub _ _ | exact i64_01 _ | exact i64_and _ _ | exact i64_or _ _ | exact i64_div _ _ | decide)).mono ?_); rintro e w1 ⟨rfl, rfl⟩))
    | (go_at_call 25; ((with_reducible refine (or_any _ _ _ (by first | assumption | exact i64_add _ _ | exact i64_mul _ _ | exact i64_neg _ | exact i64_sub _ _ | exact i64_01 _ | exact i64_and _ _ | exact i64_or _ _ | exact i64_div _ _ | decide) (by first | assumption | exact i64_add _ _ | exact i64_mul _ _ | exact i64_neg _ | exact i64_sub _ _ | exact i64_01 _ | exact i64_and _ _ | exact i64_or _ _ | exact i64_div _ _ | decide)).mono ?_); rintro e w1 ⟨rfl, rfl⟩)))
  go_ret
  exact ⟨rfl, by assumption⟩

set_option maxHeartbeats 2000000 in
set_option maxRecDepth 100000 in
theorem bits_10 (a b : Int) (w : World) (ha : I64 a) (hb : I64 b) (h : b < a) (hz : 0 ≤ a) (hz' : a ≤ 0) (ht : Tab w) :
    Calls Tryd.prog 7 #[.int .i64 a, .int .i64 b] w fun e w' => e = .returned (.bool true) ∧ Fr w w' := by
  have hfr := Fr.refl w
  have q1 : (gAdd (gAnd a b) (gOr a b) == gAdd a b) = true := beq_iff_eq.2 (and_or a b)
  have q2 : (gAnd a a == a) = true := beq_iff_eq.2 (and_self a ha)
  have q3 : (gOr a 0 == a) = true := beq_iff_eq.2 (or_zero a ha)
  have q4 : (gAnd a (-1) == a) = true := beq_iff_eq.2 (and_m1 a ha)
  have q5 : gNot 0 = 1 := rfl
  have q6 : gNot 1 = 0 := rfl
  have d1 : gLess a b = 0 := less_0 (by omega)
  have d2 : gSame a b = 0 := same_0 (by omega)
  have d3 : gLess b a = 1 := less_1 h
  have d4 : decide (a < b) = false := decide_eq_false (by omega)
  have d5 : (a == b) = false := beq_eq_false_iff_ne.2 (by omega)
  have n1 : gNot a = 1 := not_1 (by omega)
  have n2 : gSame a 0 = 1 := same_1 (by omega)
  clear hz hz' h
  go_enter Tryd.func7, Tryd.ntmps7
  go_wp2_with (first
    | (go_at_call 12; ((with_reducible refine (shown_fr w _ ht (by assumption)).mono ?_); rintro e w1 ⟨rfl, h1⟩))
    | (go_at_call 22; ((with_reducible refine (less_any _ _ _).mono ?_); rintro e w1 ⟨rfl, rfl⟩))
    | (go_at_call 23; ((with_reducible refine (same_any _ _ _).mono ?_); rintro e w1 ⟨rfl, rfl⟩))
    | (go_at_call 16; ((with_reducible refine (not_any _ _).mono ?_); rintro e w1 ⟨rfl, rfl⟩))
    | (go_at_call 17; ((with_reducible refine (add_any _ _ _ (by first | assumption | exact i64_add _ _ | exact i64_mul _ _ | exact i64_neg _ | exact i64_sub _ _ | exact i64_01 _ | exact i64_and _ _ | exact i64_or _ _ | exact i64_div _ _ | decide) (by first | assumption | exact i64_add _ _ | exact i64_mul _ _ | exact i64_neg _ | exact i64_sub _ _ | exact i64_01 _ | exact i64_and _ _ | exact i64_or _ _ | exact i64_div _ _ | decide)).mono ?_); rintro e w1 ⟨rfl, rfl⟩))
    | (go_at_call 24; ((with_reducible refine (and_any _ _ _ (by first | assumption | exact i64_add _ _ | exact i64_mul _ _ | exact i64_neg _ | exact i64_sub _ _ | exact i64_01 _ | exact i64_and _ _ | exact i64_or _ _ | exact i64_div _ _ | decide) (by first | assumption | exact i64_add _ _ | exact i64_mul _ _ | exact i64_neg _ | exact i64_sub _ _ | exact i64_01 _ | exact i64_and _ _ | exact i64_or _ _ | exact i64_div _ _ | decide)).mono ?_); rintro e w1 ⟨rfl, rfl⟩))
    | (go_at_call 25; ((with_reducible refine (or_any _ _ _ (by first | assumption | exact i64_add _ _ | exact i64_mul _ _ | exact i64_neg _ | exact i64_sub _ _ | exact i64_01 _ | exact i64_and _ _ | exact i64_or _ _ | exact i64_div _ _ | decide) (by first | assumption | exact i64_add _ _ | exact i64_mul _ _ | exact i64_neg _ | exact i64_sub _ _ | exact i64_01 _ | exact i64_and _ _ | exact i64_or _ _ | exact i64_div _ _ | decide)).mono ?_); rintro e w1 ⟨rfl, rfl⟩)))
  go_ret
  exact ⟨rfl, by assumption⟩

set_option maxHeartbeats 2000000 in
set_option maxRecDepth 100000 in
theorem bits_11 (a b : Int) (w : World) (ha : I64 a) (hb : I64 b) (h : b < a) (hz : a < 0 ∨ 0 < a) (ht : Tab w) :
    Calls Tryd.prog 7 #[.int .i64 a, .int .i64 b] w fun e w' => e = .returned (.bool true) ∧ Fr w w' := by
  have hfr := Fr.refl w
  have q1 : (gAdd (gAnd a b) (gOr a b) == gAdd a b) = true := beq_iff_eq.2 (and_or a b)
  have q2 : (gAnd a a == a) = true := beq_iff_eq.2 (and_self a ha)
  have q3 : (gOr a 0 == a) = true := beq_iff_eq.2 (or_zero a ha)
  have q4 : (gAnd a (-1) == a) = true := beq_iff_eq.2 (and_m1 a ha)
  have q5 : gNot 0 = 1 := rfl
  have q6 : gNot 1 = 0 := rfl
  have d1 : gLess a b = 0 := less_0 (by omega)
  have d2 : gSame a b = 0 := same_0 (by omega)
  have d3 : gLess b a = 1 := less_1 h
  have d4 : decide (a < b) = false := decide_eq_false (by omega)
  have d5 : (a == b) = false := beq_eq_false_iff_ne.2 (by omega)
  have n1 : gNot a = 0 := not_0' (by omega)
  have n2 : gSame a 0 = 0 := same_0 (by omega)
  clear hz h
  go_enter Tryd.func7, Tryd.ntmps7
  go_wp2_with (first
    | (go_at_call 12; ((with_reducible refine (shown_fr w _ ht (by assumption)).mono ?_); rintro e w1 ⟨rfl, h1⟩))
    | (go_at_call 22; ((with_reducible refine (less_any _ _ _).mono ?_); rintro e w1 ⟨rfl, rfl⟩))
    | (go_at_call 23; ((with_reducible refine (same_any _ _ _).mono ?_); rintro e w1 ⟨rfl, rfl⟩))
    | (go_at_call 16; ((with_reducible refine (not_any _ _).mono ?_); rintro e w1 ⟨rfl, rfl⟩))
    | (go_at_call 17; ((with_reducible refine (add_any _ _ _ (by first | assumption | exact i64_add _ _ | exact i64_mul _ _ | exact i64_neg _ | exact i64_sub _ _ | exact i64_01 _ | exact i64_and _ _ | exact i64_or _ _ | exact i64_div _ _ | decide) (by first | assumption | exact i64_add _ _ | exact i64_mul _ _ | exact i64_neg _ | exact i64_sub _ _ | exact i64_01 _ | exact i64_and _ _ | exact i64_or _ _ | exact i64_div _ _ | decide)).mono ?_); rintro e w1 ⟨rfl, rfl⟩))
    | (go_at_call 24; ((with_reducible refine (and_any _ _ _ (by first | assumption | exact i64_add _ _ | exact i64_mul _ _ | exact i64_neg _ | exact i64_sub _ _ | exact i64_01 _ | exact i64_and _ _ | exact i64_or _ _ | exact i64_div _ _ | decide) (by first | assumption | exact i64_add _ _ | exact i64_mul _ _ | exact i64_neg _ | exact i64_sub _ _ | exact i64_01 _ | exact i64_and _ _ | exact i64_or _ _ | exact i64_div _ _ | decide)).mono ?_); rintro e w1 ⟨rfl, rfl⟩))
    | (go_at_call 25; ((with_reducible refine (or_any _ _ _ (by first | assumption | exact i64_add _ _ | exact i64_mul _ _ | exact i64_neg _ | exact i64_sub _ _ | exact i64_01 _ | exact i64_and _ _ | exact i64_or _ _ | exact i64_div _ _ | decide) (by first | assumption | exact i64_add _ _ | exact i64_mul _ _ | exact i64_neg _ | exact i64_sub _ _ | exact i64_01 _ | exact i64_and _ _ | exact i64_or _ _ | exact i64_div _ _ | decide)).mono ?_); rintro e w1 ⟨rfl, rfl⟩)))
  go_ret
  exact ⟨rfl, by assumption⟩

set_option maxHeartbeats 2000000 in
set_option maxRecDepth 100000 in
theorem bits_20 (a b : Int) (w : World) (ha : I64 a) (hb : I64 b) (h : a ≤ b) (h' : b ≤ a) (hz : 0 ≤ a) (hz' : a ≤ 0) (ht : Tab w) :
    Calls Tryd.prog 7 #[.int .i64 a, .int .i64 b] w fun e w' => e = .returned (.bool true) ∧ Fr w w' := by
  have hfr := Fr.refl w
  have q1 : (gAdd (gAnd a b) (gOr a b) == gAdd a b) = true := beq_iff_eq.2 (and_or a b)
  have q2 : (gAnd a a == a) = true := beq_iff_eq.2 (and_self a ha)
  have q3 : (gOr a 0 == a) = true := beq_iff_eq.2 (or_zero a ha)
  have q4 : (gAnd a (-1) == a) = true := beq_iff_eq.2 (and_m1 a ha)
  have q5 : gNot 0 = 1 := rfl
  have q6 : gNot 1 = 0 := rfl
  have d1 : gLess a b = 0 := less_0 (by omega)
  have d2 : gSame a b = 1 := same_1 (by omega)
  have d3 : gLess b a = 0 := less_0 (by omega)
  have d4 : decide (a < b) = false := decide_eq_false (by omega)
  have d5 : (a == b) = true := beq_iff_eq.2 (by omega)
  have n1 : gNot a = 1 := not_1 (by omega)
  have n2 : gSame a 0 = 1 := same_1 (by omega)
  clear hz hz' h h'
  go_enter Tryd.func7, Tryd.ntmps7
  go_wp2_with (first
    | (go_at_call 12; ((with_reducible refine (shown_fr w _ ht (by assumption)).mono ?_); rintro e w1 ⟨rfl, h1⟩))
    | (go_at_call 22; ((with_reducible refine (less_any _ _ _).mono ?_); rintro e w1 ⟨rfl, rfl⟩))
    | (go_at_call 23; ((with_reducible refine (same_any _ _ _).mono ?_); rintro e w1 ⟨rfl, rfl⟩))
    | (go_at_call 16; ((with_reducible refine (not_any _ _).mono ?_); rintro e w1 ⟨rfl, rfl⟩))
    | (go_at_call 17; ((with_reducible refine (add_any _ _ _ (by first | assumption | exact i64_add _ _ | exact i64_mul _ _ | exact i64_neg _ | exact i64_sub _ _ | exact i64_01 _ | exact i64_and _ _ | exact i64_or _ _ | exact i64_div _ _ | decide) (by first | assumption | exact i64_add _ _ | exact i64_mul _ _ | exact i64_neg _ | exact i64_sub _ _ | exact i64_01 _ | exact i64_and _ _ | exact i64_or _ _ | exact i64_div _ _ | decide)).mono ?_); rintro e w1 ⟨rfl, rfl⟩))
    | (go_at_call 24; ((with_reducible refine (and_any _ _ _ (by first | assumption | exact i64_add _ _ | exact i64_mul _ _ | exact i64_neg _ | exact i64_sub _ _ | exact i64_01 _ | exact i64_and _ _ | exact i64_or _ _ | exact i64_div _ _ | decide) (by first | assumption | exact i64_add _ _ | exact i64_mul _ _ | exact i64_neg _ | exact i64_sub _ _ | exact i64_01 _ | exact i64_and _ _ | exact i64_or _ _ | exact i64_div _ _ | decide)).mono ?_); rintro e w1 ⟨rfl, rfl⟩))
    | (go_at_call 25; ((with_reducible refine (or_any _ _ _ (by first | assumption | exact i64_add _ _ | exact i64_mul _ _ | exact i64_neg _ | exact i64_sub _ _ | exact i64_01 _ | exact i64_and _ _ | exact i64_or _ _ | exact i64_div _ _ | decide) (by first | assumption | exact i64_add _ _ | exact i64_mul _ _ | exact i64_neg _ | exact i64_sub _ _ | exact i64_01 _ | exact i64_and _ _ | exact i64_or _ _ | exact i64_div _ _ | decide)).mono ?_); rintro e w1 ⟨rfl, rfl⟩)))
  go_ret
  exact ⟨rfl, by assumption⟩

set_option maxHeartbeats 2000000 in
set_option maxRecDepth 100000 in
theorem bits_21 (a b : Int) (w : World) (ha : I64 a) (hb : I64 b) (h : a ≤ b) (h' : b ≤ a) (hz : a < 0 ∨ 0 < a) (ht : Tab w) :
    Calls Tryd.prog 7 #[.int .i64 a, .int .i64 b] w fun e w' => e = .returned (.bool true) ∧ Fr w w' := by
  have hfr := Fr.refl w
  have q1 : (gAdd (gAnd a b) (gOr a b) == gAdd a b) = true := beq_iff_eq.2 (and_or a b)
  have q2 : (gAnd a a == a) = true := beq_iff_eq.2 (and_self a ha)
  have q3 : (gOr a 0 == a) = true := beq_iff_eq.2 (or_zero a ha)
  have q4 : (gAnd a (-1) == a) = true := beq_iff_eq.2 (and_m1 a ha)
  have q5 : gNot 0 = 1 := rfl
  have q6 : gNot 1 = 0 := rfl
  have d1 : gLess a b = 0 := less_0 (by omega)
  have d2 : gSame a b = 1 := same_1 (by omega)
  have d3 : gLess b a = 0 := less_0 (by omega)
  have d4 : decide (a < b) = false := decide_eq_false (by omega)
  have d5 : (a == b) = true := beq_iff_eq.2 (by omega)
  have n1 : gNot a = 0 := not_0' (by omega)
  have n2 : gSame a 0 = 0 := same_0 (by omega)
  clear hz h h'
  go_enter Tryd.func7, Tryd.ntmps7
  go_wp2_with (first
    | (go_at_call 12; ((with_reducible refine (shown_fr w _ ht (by assumption)).mono ?_); rintro e w1 ⟨rfl, h1⟩))
    | (go_at_call 22; ((with_reducible refine (less_any _ _ _).mono ?_); rintro e w1 ⟨rfl, rfl⟩))
    | (go_at_call 23; ((with_reducible refine (same_any _ _ _).mono ?_); rintro e w1 ⟨rfl, rfl⟩))
    | (go_at_call 16; ((with_reducible refine (not_any _ _).mono ?_); rintro e w1 ⟨rfl, rfl⟩))
    | (go_at_call 17; ((with_reducible refine (add_any _ _ _ (by first | assumption | exact i64_add _ _ | exact i64_mul _ _ | exact i64_neg _ | exact i64_sub _ _ | exact i64_01 _ | exact i64_and _ _ | exact i64_or _ _ | exact i64_div _ _ | decide) (by first | assumption | exact i64_add _ _ | exact i64_mul _ _ | exact i64_neg _ | exact i64_sub _ _ | exact i64_01 _ | exact i64_and _ _ | exact i64_or _ _ | exact i64_div _ _ | decide)).mono ?_); rintro e w1 ⟨rfl, rfl⟩))
    | (go_at_call 24; ((with_reducible refine (and_any _ _ _ (by first | assumption | exact i64_add _ _ | exact i64_mul _ _ | exact i64_neg _ | exact i64_sub _ _ | exact i64_01 _ | exact i64_and _ _ | exact i64_or _ _ | exact i64_div _ _ | decide) (by first | assumption | exact i64_add _ _ | exact i64_mul _ _ | exact i64_neg _ | exact i64_sub _ _ | exact i64_01 _ | exact i64_and _ _ | exact i64_or _ _ | exact i64_div _ _ | decide)).mono ?_); rintro e w1 ⟨rfl, rfl⟩))
    | (go_at_call 25; ((with_reducible refine (or_any _ _ _ (by first | assumption | exact i64_add _ _ | exact i64_mul _ _ | exact i64_neg _ | exact i64_sub _ _ | exact i64_01 _ | exact i64_and _ _ | exact i64_or _ _ | exact i64_div _ _ | decide) (by first | assumption | exact i64_add _ _ | exact i64_mul _ _ | exact i64_neg _ | exact i64_sub _ _ | exact i64_01 _ | exact i64_and _ _ | exact i64_or _ _ | exact i64_div _ _ | decide)).mono ?_); rintro e w1 ⟨rfl, rfl⟩)))
  go_ret
  exact ⟨rfl, by assumption⟩

theorem bits_walk (a b : Int) (w : World) (ha : I64 a) (hb : I64 b) (ht : Tab w) :
    Calls Tryd.prog 7 #[.int .i64 a, .int .i64 b] w fun e w' => e = .returned (.bool true) ∧ Fr w w' := by
  by_cases hz : a = 0
  · rcases Int.lt_trichotomy a b with h | h | h
    · exact bits_00 a b w ha hb h (by omega) (by omega) ht
    · exact bits_20 a b w ha hb (by omega) (by omega) (by omega) (by omega) ht
    · exact bits_10 a b w ha hb h (by omega) (by omega) ht
  · rcases Int.lt_trichotomy a b with h | h | h
    · exact bits_01 a b w ha hb h (by omega) ht
    · exact bits_21 a b w ha hb (by omega) (by omega) (by omega) ht
    · exact bits_11 a b w ha hb h (by omega) ht

end Go.Proofs.YtnlljcbpjhhloaaDoor
