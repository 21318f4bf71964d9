/-
  WrapDoes: for every op and two numbers the statement's function tells true. The walk.
-/
import Derived.Test.YtnlljcbpjhhloaaDoorShown
import Derived.Test.YtnlljcbpjhhloaaDoorNums
import Derived.Test.YtnlljcbpjhhloaaDoorRefDo
namespace Go.Proofs.YtnlljcbpjhhloaaDoor
open Go Go.RowKit Go.Lib

theorem dv_6 (a b : Int) : doV 6 a b = gNeg a := by unfold doV; rw [if_pos rfl]
theorem dv_7 (a b : Int) : doV 7 a b = gNot a := by unfold doV; rw [if_neg (by decide), if_pos rfl]
theorem dv_8 (a b : Int) : doV 8 a b = gAdd a b := by unfold doV; rw [if_neg (by decide), if_neg (by decide), if_pos rfl]
theorem dv_9 (a b : Int) : doV 9 a b = gSub a b := by unfold doV; rw [if_neg (by decide), if_neg (by decide), if_neg (by decide), if_pos rfl]
theorem dv_10 (a b : Int) : doV 10 a b = gMul a b := by unfold doV; rw [if_neg (by decide), if_neg (by decide), if_neg (by decide), if_neg (by decide), if_pos rfl]
theorem dv_11 (a b : Int) : doV 11 a b = gDiv a b := by unfold doV; rw [if_neg (by decide), if_neg (by decide), if_neg (by decide), if_neg (by decide), if_neg (by decide), if_pos rfl]
theorem dv_12 (a b : Int) : doV 12 a b = gMod a b := by unfold doV; rw [if_neg (by decide), if_neg (by decide), if_neg (by decide), if_neg (by decide), if_neg (by decide), if_neg (by decide), if_pos rfl]
theorem dv_13 (a b : Int) : doV 13 a b = gLess a b := by unfold doV; rw [if_neg (by decide), if_neg (by decide), if_neg (by decide), if_neg (by decide), if_neg (by decide), if_neg (by decide), if_neg (by decide), if_pos rfl]
theorem dv_14 (a b : Int) : doV 14 a b = gSame a b := by unfold doV; rw [if_neg (by decide), if_neg (by decide), if_neg (by decide), if_neg (by decide), if_neg (by decide), if_neg (by decide), if_neg (by decide), if_neg (by decide), if_pos rfl]
theorem dv_15 (a b : Int) : doV 15 a b = gAnd a b := by unfold doV; rw [if_neg (by decide), if_neg (by decide), if_neg (by decide), if_neg (by decide), if_neg (by decide), if_neg (by decide), if_neg (by decide), if_neg (by decide), if_neg (by decide), if_pos rfl]
theorem dv_16 (a b : Int) : doV 16 a b = gOr a b := by unfold doV; rw [if_neg (by decide), if_neg (by decide), if_neg (by decide), if_neg (by decide), if_neg (by decide), if_neg (by decide), if_neg (by decide), if_neg (by decide), if_neg (by decide), if_neg (by decide), if_pos rfl]

set_option maxHeartbeats 2000000 in
set_option maxRecDepth 100000 in
theorem does_no (op a b : Int) (w : World) (ha : I64 a) (hb : I64 b) (ho : op < 6 ∨ 16 < op) (ht : Tab w) :
    Calls Tryd.prog 3 #[.int .i64 op, .int .i64 a, .int .i64 b] w fun e w' => e = .returned (.bool true) ∧ Fr w w' := by
  have h := Fr.refl w
  have d1 : doV op a b = 0 := (do_none a b ho).1
  have d2 : doOk op b = false := (do_none a b ho).2
  have n6 : (op == 6) = false := by simp; omega
  have n7 : (op == 7) = false := by simp; omega
  have n8 : (op == 8) = false := by simp; omega
  have n9 : (op == 9) = false := by simp; omega
  have n10 : (op == 10) = false := by simp; omega
  have n11 : (op == 11) = false := by simp; omega
  have n12 : (op == 12) = false := by simp; omega
  have n13 : (op == 13) = false := by simp; omega
  have n14 : (op == 14) = false := by simp; omega
  have n15 : (op == 15) = false := by simp; omega
  have n16 : (op == 16) = false := by simp; omega
  clear ho
  go_enter Tryd.func3, Tryd.ntmps3
  go_wp2_with (first
    | (go_at_call 12; ((with_reducible refine (shown_fr w _ ht (by assumption)).mono ?_); rintro e w1 ⟨rfl, h1⟩))
    | (go_at_call 13; ((with_reducible refine (do_any _ _ _ _ (by first | assumption | exact i64_add _ _ | exact i64_mul _ _ | exact i64_neg _ | exact i64_sub _ _ | exact i64_01 _ | exact i64_and _ _ | exact i64_or _ _ | exact i64_div _ _ | decide) (by first | assumption | exact i64_add _ _ | exact i64_mul _ _ | exact i64_neg _ | exact i64_sub _ _ | exact i64_01 _ | exact i64_and _ _ | exact i64_or _ _ | exact i64_div _ _ | decide)).mono ?_); rintro e w1 ⟨rfl, rfl⟩))
    | (go_at_call 14; ((with_reducible refine (rdo_any _ _ _ _ (by assumption) (by assumption)).mono ?_); rintro e w1 ⟨rfl, rfl⟩)))
  go_ret
  exact ⟨rfl, by assumption⟩

set_option maxHeartbeats 2000000 in
set_option maxRecDepth 100000 in
theorem does_6 (a b : Int) (w : World) (ha : I64 a) (hb : I64 b) (ht : Tab w) :
    Calls Tryd.prog 3 #[.int .i64 6, .int .i64 a, .int .i64 b] w fun e w' => e = .returned (.bool true) ∧ Fr w w' := by
  have h := Fr.refl w
  have d1 : (gNeg a == doV 6 a b) = true := beq_iff_eq.2 (dv_6 a b).symm
  have d2 : doOk 6 b = true := rfl
  go_enter Tryd.func3, Tryd.ntmps3
  go_wp2_with (first
    | (go_at_call 12; ((with_reducible refine (shown_fr w _ ht (by assumption)).mono ?_); rintro e w1 ⟨rfl, h1⟩))
    | (go_at_call 13; ((with_reducible refine (do_any _ _ _ _ (by first | assumption | exact i64_add _ _ | exact i64_mul _ _ | exact i64_neg _ | exact i64_sub _ _ | exact i64_01 _ | exact i64_and _ _ | exact i64_or _ _ | exact i64_div _ _ | decide) (by first | assumption | exact i64_add _ _ | exact i64_mul _ _ | exact i64_neg _ | exact i64_sub _ _ | exact i64_01 _ | exact i64_and _ _ | exact i64_or _ _ | exact i64_div _ _ | decide)).mono ?_); rintro e w1 ⟨rfl, rfl⟩))
    | (go_at_call 14; ((with_reducible refine (rdo_any _ _ _ _ (by assumption) (by assumption)).mono ?_); rintro e w1 ⟨rfl, rfl⟩))
    | (go_at_call 15; ((with_reducible refine (neg_any _ _ (by first | assumption | exact i64_add _ _ | exact i64_mul _ _ | exact i64_neg _ | exact i64_sub _ _ | exact i64_01 _ | exact i64_and _ _ | exact i64_or _ _ | exact i64_div _ _ | decide)).mono ?_); rintro e w1 ⟨rfl, rfl⟩)))
  go_ret
  exact ⟨rfl, by assumption⟩

set_option maxHeartbeats 2000000 in
set_option maxRecDepth 100000 in
theorem does_7 (a b : Int) (w : World) (ha : I64 a) (hb : I64 b) (ht : Tab w) :
    Calls Tryd.prog 3 #[.int .i64 7, .int .i64 a, .int .i64 b] w fun e w' => e = .returned (.bool true) ∧ Fr w w' := by
  have h := Fr.refl w
  have d1 : (gNot a == doV 7 a b) = true := beq_iff_eq.2 (dv_7 a b).symm
  have d2 : doOk 7 b = true := rfl
  go_enter Tryd.func3, Tryd.ntmps3
  go_wp2_with (first
    | (go_at_call 12; ((with_reducible refine (shown_fr w _ ht (by assumption)).mono ?_); rintro e w1 ⟨rfl, h1⟩))
    | (go_at_call 13; ((with_reducible refine (do_any _ _ _ _ (by first | assumption | exact i64_add _ _ | exact i64_mul _ _ | exact i64_neg _ | exact i64_sub _ _ | exact i64_01 _ | exact i64_and _ _ | exact i64_or _ _ | exact i64_div _ _ | decide) (by first | assumption | exact i64_add _ _ | exact i64_mul _ _ | exact i64_neg _ | exact i64_sub _ _ | exact i64_01 _ | exact i64_and _ _ | exact i64_or _ _ | exact i64_div _ _ | decide)).mono ?_); rintro e w1 ⟨rfl, rfl⟩))
    | (go_at_call 14; ((with_reducible refine (rdo_any _ _ _ _ (by assumption) (by assumption)).mono ?_); rintro e w1 ⟨rfl, rfl⟩))
    | (go_at_call 16; ((with_reducible refine (not_any _ _).mono ?_); rintro e w1 ⟨rfl, rfl⟩)))
  go_ret
  exact ⟨rfl, by assumption⟩

set_option maxHeartbeats 2000000 in
set_option maxRecDepth 100000 in
theorem does_8 (a b : Int) (w : World) (ha : I64 a) (hb : I64 b) (ht : Tab w) :
    Calls Tryd.prog 3 #[.int .i64 8, .int .i64 a, .int .i64 b] w fun e w' => e = .returned (.bool true) ∧ Fr w w' := by
  have h := Fr.refl w
  have d1 : (gAdd a b == doV 8 a b) = true := beq_iff_eq.2 (dv_8 a b).symm
  have d2 : doOk 8 b = true := rfl
  go_enter Tryd.func3, Tryd.ntmps3
  go_wp2_with (first
    | (go_at_call 12; ((with_reducible refine (shown_fr w _ ht (by assumption)).mono ?_); rintro e w1 ⟨rfl, h1⟩))
    | (go_at_call 13; ((with_reducible refine (do_any _ _ _ _ (by first | assumption | exact i64_add _ _ | exact i64_mul _ _ | exact i64_neg _ | exact i64_sub _ _ | exact i64_01 _ | exact i64_and _ _ | exact i64_or _ _ | exact i64_div _ _ | decide) (by first | assumption | exact i64_add _ _ | exact i64_mul _ _ | exact i64_neg _ | exact i64_sub _ _ | exact i64_01 _ | exact i64_and _ _ | exact i64_or _ _ | exact i64_div _ _ | decide)).mono ?_); rintro e w1 ⟨rfl, rfl⟩))
    | (go_at_call 14; ((with_reducible refine (rdo_any _ _ _ _ (by assumption) (by assumption)).mono ?_); rintro e w1 ⟨rfl, rfl⟩))
    | (go_at_call 17; ((with_reducible refine (add_any _ _ _ (by first | assumption | exact i64_add _ _ | exact i64_mul _ _ | exact i64_neg _ | exact i64_sub _ _ | exact i64_01 _ | exact i64_and _ _ | exact i64_or _ _ | exact i64_div _ _ | decide) (by first | assumption | exact i64_add _ _ | exact i64_mul _ _ | exact i64_neg _ | exact i64_sub _ _ | exact i64_01 _ | exact i64_and _ _ | exact i64_or _ _ | exact i64_div _ _ | decide)).mono ?_); rintro e w1 ⟨rfl, rfl⟩)))
  go_ret
  exact ⟨rfl, by assumption⟩

set_option maxHeartbeats 2000000 in
set_option maxRecDepth 100000 in
theorem does_9 (a b : Int) (w : World) (ha : I64 a) (hb : I64 b) (ht : Tab w) :
    Calls Tryd.prog 3 #[.int .i64 9, .int .i64 a, .int .i64 b] w fun e w' => e = .returned (.bool true) ∧ Fr w w' := by
  have h := Fr.refl w
  have d1 : (gSub a b == doV 9 a b) = true := beq_iff_eq.2 (dv_9 a b).symm
  have d2 : doOk 9 b = true := rfl
  go_enter Tryd.func3, Tryd.ntmps3
  go_wp2_with (first
    | (go_at_call 12; ((with_reducible refine (shown_fr w _ ht (by assumption)).mono ?_); rintro e w1 ⟨rfl, h1⟩))
    | (go_at_call 13; ((with_reducible refine (do_any _ _ _ _ (by first | assumption | exact i64_add _ _ | exact i64_mul _ _ | exact i64_neg _ | exact i64_sub _ _ | exact i64_01 _ | exact i64_and _ _ | exact i64_or _ _ | exact i64_div _ _ | decide) (by first | assumption | exact i64_add _ _ | exact i64_mul _ _ | exact i64_neg _ | exact i64_sub _ _ | exact i64_01 _ | exact i64_and _ _ | exact i64_or _ _ | exact i64_div _ _ | decide)).mono ?_); rintro e w1 ⟨rfl, rfl⟩))
    | (go_at_call 14; ((with_reducible refine (rdo_any _ _ _ _ (by assumption) (by assumption)).mono ?_); rintro e w1 ⟨rfl, rfl⟩))
    | (go_at_call 18; ((with_reducible refine (sub_any _ _ _ (by first | assumption | exact i64_add _ _ | exact i64_mul _ _ | exact i64_neg _ | exact i64_sub _ _ | exact i64_01 _ | exact i64_and _ _ | exact i64_or _ _ | exact i64_div _ _ | decide) (by first | assumption | exact i64_add _ _ | exact i64_mul _ _ | exact i64_neg _ | exact i64_sub _ _ | exact i64_01 _ | exact i64_and _ _ | exact i64_or _ _ | exact i64_div _ _ | decide)).mono ?_); rintro e w1 ⟨rfl, rfl⟩)))
  go_ret
  exact ⟨rfl, by assumption⟩

set_option maxHeartbeats 2000000 in
set_option maxRecDepth 100000 in
theorem does_10 (a b : Int) (w : World) (ha : I64 a) (hb : I64 b) (ht : Tab w) :
    Calls Tryd.prog 3 #[.int .i64 10, .int .i64 a, .int .i64 b] w fun e w' => e = .returned (.bool true) ∧ Fr w w' := by
  have h := Fr.refl w
  have d1 : (gMul a b == doV 10 a b) = true := beq_iff_eq.2 (dv_10 a b).symm
  have d2 : doOk 10 b = true := rfl
  go_enter Tryd.func3, Tryd.ntmps3
  go_wp2_with (first
    | (go_at_call 12; ((with_reducible refine (shown_fr w _ ht (by assumption)).mono ?_); rintro e w1 ⟨rfl, h1⟩))
    | (go_at_call 13; ((with_reducible refine (do_any _ _ _ _ (by first | assumption | exact i64_add _ _ | exact i64_mul _ _ | exact i64_neg _ | exact i64_sub _ _ | exact i64_01 _ | exact i64_and _ _ | exact i64_or _ _ | exact i64_div _ _ | decide) (by first | assumption | exact i64_add _ _ | exact i64_mul _ _ | exact i64_neg _ | exact i64_sub _ _ | exact i64_01 _ | exact i64_and _ _ | exact i64_or _ _ | exact i64_div _ _ | decide)).mono ?_); rintro e w1 ⟨rfl, rfl⟩))
    | (go_at_call 14; ((with_reducible refine (rdo_any _ _ _ _ (by assumption) (by assumption)).mono ?_); rintro e w1 ⟨rfl, rfl⟩))
    | (go_at_call 19; ((with_reducible refine (mul_any _ _ _ (by first | assumption | exact i64_add _ _ | exact i64_mul _ _ | exact i64_neg _ | exact i64_sub _ _ | exact i64_01 _ | exact i64_and _ _ | exact i64_or _ _ | exact i64_div _ _ | decide) (by first | assumption | exact i64_add _ _ | exact i64_mul _ _ | exact i64_neg _ | exact i64_sub _ _ | exact i64_01 _ | exact i64_and _ _ | exact i64_or _ _ | exact i64_div _ _ | decide)).mono ?_); rintro e w1 ⟨rfl, rfl⟩)))
  go_ret
  exact ⟨rfl, by assumption⟩

set_option maxHeartbeats 2000000 in
set_option maxRecDepth 100000 in
theorem does_11 (a b : Int) (w : World) (ha : I64 a) (hb : I64 b) (ht : Tab w) :
    Calls Tryd.prog 3 #[.int .i64 11, .int .i64 a, .int .i64 b] w fun e w' => e = .returned (.bool true) ∧ Fr w w' := by
  have h := Fr.refl w
  have d1 : (gDiv a b == doV 11 a b) = true := beq_iff_eq.2 (dv_11 a b).symm
  have d2 : doOk 11 b = nz b := rfl
  go_enter Tryd.func3, Tryd.ntmps3
  go_wp2_with (first
    | (go_at_call 12; ((with_reducible refine (shown_fr w _ ht (by assumption)).mono ?_); rintro e w1 ⟨rfl, h1⟩))
    | (go_at_call 13; ((with_reducible refine (do_any _ _ _ _ (by first | assumption | exact i64_add _ _ | exact i64_mul _ _ | exact i64_neg _ | exact i64_sub _ _ | exact i64_01 _ | exact i64_and _ _ | exact i64_or _ _ | exact i64_div _ _ | decide) (by first | assumption | exact i64_add _ _ | exact i64_mul _ _ | exact i64_neg _ | exact i64_sub _ _ | exact i64_01 _ | exact i64_and _ _ | exact i64_or _ _ | exact i64_div _ _ | decide)).mono ?_); rintro e w1 ⟨rfl, rfl⟩))
    | (go_at_call 14; ((with_reducible refine (rdo_any _ _ _ _ (by assumption) (by assumption)).mono ?_); rintro e w1 ⟨rfl, rfl⟩))
    | (go_at_call 20; ((with_reducible refine (div_any _ _ _ (by first | assumption | exact i64_add _ _ | exact i64_mul _ _ | exact i64_neg _ | exact i64_sub _ _ | exact i64_01 _ | exact i64_and _ _ | exact i64_or _ _ | exact i64_div _ _ | decide) (by first | assumption | exact i64_add _ _ | exact i64_mul _ _ | exact i64_neg _ | exact i64_sub _ _ | exact i64_01 _ | exact i64_and _ _ | exact i64_or _ _ | exact i64_div _ _ | decide)).mono ?_); rintro e w1 ⟨rfl, rfl⟩)))
  go_ret
  exact ⟨rfl, by assumption⟩

set_option maxHeartbeats 2000000 in
set_option maxRecDepth 100000 in
theorem does_12 (a b : Int) (w : World) (ha : I64 a) (hb : I64 b) (ht : Tab w) :
    Calls Tryd.prog 3 #[.int .i64 12, .int .i64 a, .int .i64 b] w fun e w' => e = .returned (.bool true) ∧ Fr w w' := by
  have h := Fr.refl w
  have d1 : (gMod a b == doV 12 a b) = true := beq_iff_eq.2 (dv_12 a b).symm
  have d2 : doOk 12 b = nz b := rfl
  go_enter Tryd.func3, Tryd.ntmps3
  go_wp2_with (first
    | (go_at_call 12; ((with_reducible refine (shown_fr w _ ht (by assumption)).mono ?_); rintro e w1 ⟨rfl, h1⟩))
    | (go_at_call 13; ((with_reducible refine (do_any _ _ _ _ (by first | assumption | exact i64_add _ _ | exact i64_mul _ _ | exact i64_neg _ | exact i64_sub _ _ | exact i64_01 _ | exact i64_and _ _ | exact i64_or _ _ | exact i64_div _ _ | decide) (by first | assumption | exact i64_add _ _ | exact i64_mul _ _ | exact i64_neg _ | exact i64_sub _ _ | exact i64_01 _ | exact i64_and _ _ | exact i64_or _ _ | exact i64_div _ _ | decide)).mono ?_); rintro e w1 ⟨rfl, rfl⟩))
    | (go_at_call 14; ((with_reducible refine (rdo_any _ _ _ _ (by assumption) (by assumption)).mono ?_); rintro e w1 ⟨rfl, rfl⟩))
    | (go_at_call 21; ((with_reducible refine (mod_any _ _ _ (by first | assumption | exact i64_add _ _ | exact i64_mul _ _ | exact i64_neg _ | exact i64_sub _ _ | exact i64_01 _ | exact i64_and _ _ | exact i64_or _ _ | exact i64_div _ _ | decide) (by first | assumption | exact i64_add _ _ | exact i64_mul _ _ | exact i64_neg _ | exact i64_sub _ _ | exact i64_01 _ | exact i64_and _ _ | exact i64_or _ _ | exact i64_div _ _ | decide)).mono ?_); rintro e w1 ⟨rfl, rfl⟩)))
  go_ret
  exact ⟨rfl, by assumption⟩

set_option maxHeartbeats 2000000 in
set_option maxRecDepth 100000 in
theorem does_13 (a b : Int) (w : World) (ha : I64 a) (hb : I64 b) (ht : Tab w) :
    Calls Tryd.prog 3 #[.int .i64 13, .int .i64 a, .int .i64 b] w fun e w' => e = .returned (.bool true) ∧ Fr w w' := by
  have h := Fr.refl w
  have d1 : (gLess a b == doV 13 a b) = true := beq_iff_eq.2 (dv_13 a b).symm
  have d2 : doOk 13 b = true := rfl
  go_enter Tryd.func3, Tryd.ntmps3
  go_wp2_with (first
    | (go_at_call 12; ((with_reducible refine (shown_fr w _ ht (by assumption)).mono ?_); rintro e w1 ⟨rfl, h1⟩))
    | (go_at_call 13; ((with_reducible refine (do_any _ _ _ _ (by first | assumption | exact i64_add _ _ | exact i64_mul _ _ | exact i64_neg _ | exact i64_sub _ _ | exact i64_01 _ | exact i64_and _ _ | exact i64_or _ _ | exact i64_div _ _ | decide) (by first | assumption | exact i64_add _ _ | exact i64_mul _ _ | exact i64_neg _ | exact i64_sub _ _ | exact i64_01 _ | exact i64_and _ _ | exact i64_or _ _ | exact i64_div _ _ | decide)).mono ?_); rintro e w1 ⟨rfl, rfl⟩))
    | (go_at_call 14; ((with_reducible refine (rdo_any _ _ _ _ (by assumption) (by assumption)).mono ?_); rintro e w1 ⟨rfl, rfl⟩))
    | (go_at_call 22; ((with_reducible refine (less_any _ _ _).mono ?_); rintro e w1 ⟨rfl, rfl⟩)))
  go_ret
  exact ⟨rfl, by assumption⟩

set_option maxHeartbeats 2000000 in
set_option maxRecDepth 100000 in
theorem does_14 (a b : Int) (w : World) (ha : I64 a) (hb : I64 b) (ht : Tab w) :
    Calls Tryd.prog 3 #[.int .i64 14, .int .i64 a, .int .i64 b] w fun e w' => e = .returned (.bool true) ∧ Fr w w' := by
  have h := Fr.refl w
  have d1 : (gSame a b == doV 14 a b) = true := beq_iff_eq.2 (dv_14 a b).symm
  have d2 : doOk 14 b = true := rfl
  go_enter Tryd.func3, Tryd.ntmps3
  go_wp2_with (first
    | (go_at_call 12; ((with_reducible refine (shown_fr w _ ht (by assumption)).mono ?_); rintro e w1 ⟨rfl, h1⟩))
    | (go_at_call 13; ((with_reducible refine (do_any _ _ _ _ (by first | assumption | exact i64_add _ _ | exact i64_mul _ _ | exact i64_neg _ | exact i64_sub _ _ | exact i64_01 _ | exact i64_and _ _ | exact i64_or _ _ | exact i64_div _ _ | decide) (by first | assumption | exact i64_add _ _ | exact i64_mul _ _ | exact i64_neg _ | exact i64_sub _ _ | exact i64_01 _ | exact i64_and _ _ | exact i64_or _ _ | exact i64_div _ _ | decide)).mono ?_); rintro e w1 ⟨rfl, rfl⟩))
    | (go_at_call 14; ((with_reducible refine (rdo_any _ _ _ _ (by assumption) (by assumption)).mono ?_); rintro e w1 ⟨rfl, rfl⟩))
    | (go_at_call 23; ((with_reducible refine (same_any _ _ _).mono ?_); rintro e w1 ⟨rfl, rfl⟩)))
  go_ret
  exact ⟨rfl, by assumption⟩

set_option maxHeartbeats 2000000 in
set_option maxRecDepth 100000 in
theorem does_15 (a b : Int) (w : World) (ha : I64 a) (hb : I64 b) (ht : Tab w) :
    Calls Tryd.prog 3 #[.int .i64 15, .int .i64 a, .int .i64 b] w fun e w' => e = .returned (.bool true) ∧ Fr w w' := by
  have h := Fr.refl w
  have d1 : (gAnd a b == doV 15 a b) = true := beq_iff_eq.2 (dv_15 a b).symm
  have d2 : doOk 15 b = true := rfl
  go_enter Tryd.func3, Tryd.ntmps3
  go_wp2_with (first
    | (go_at_call 12; ((with_reducible refine (shown_fr w _ ht (by assumption)).mono ?_); rintro e w1 ⟨rfl, h1⟩))
    | (go_at_call 13; ((with_reducible refine (do_any _ _ _ _ (by first | assumption | exact i64_add _ _ | exact i64_mul _ _ | exact i64_neg _ | exact i64_sub _ _ | exact i64_01 _ | exact i64_and _ _ | exact i64_or _ _ | exact i64_div _ _ | decide) (by first | assumption | exact i64_add _ _ | exact i64_mul _ _ | exact i64_neg _ | exact i64_sub _ _ | exact i64_01 _ | exact i64_and _ _ | exact i64_or _ _ | exact i64_div _ _ | decide)).mono ?_); rintro e w1 ⟨rfl, rfl⟩))
    | (go_at_call 14; ((with_reducible refine (rdo_any _ _ _ _ (by assumption) (by assumption)).mono ?_); rintro e w1 ⟨rfl, rfl⟩))
    | (go_at_call 24; ((with_reducible refine (and_any _ _ _ (by first | assumption | exact i64_add _ _ | exact i64_mul _ _ | exact i64_neg _ | exact i64_sub _ _ | exact i64_01 _ | exact i64_and _ _ | exact i64_or _ _ | exact i64_div _ _ | decide) (by first | assumption | exact i64_add _ _ | exact i64_mul _ _ | exact i64_neg _ | exact i64_sub _ _ | exact i64_01 _ | exact i64_and _ _ | exact i64_or _ _ | exact i64_div _ _ | decide)).mono ?_); rintro e w1 ⟨rfl, rfl⟩)))
  go_ret
  exact ⟨rfl, by assumption⟩

set_option maxHeartbeats 2000000 in
set_option maxRecDepth 100000 in
theorem does_16 (a b : Int) (w : World) (ha : I64 a) (hb : I64 b) (ht : Tab w) :
    Calls Tryd.prog 3 #[.int .i64 16, .int .i64 a, .int .i64 b] w fun e w' => e = .returned (.bool true) ∧ Fr w w' := by
  have h := Fr.refl w
  have d1 : (gOr a b == doV 16 a b) = true := beq_iff_eq.2 (dv_16 a b).symm
  have d2 : doOk 16 b = true := rfl
  go_enter Tryd.func3, Tryd.ntmps3
  go_wp2_with (first
    | (go_at_call 12; ((with_reducible refine (shown_fr w _ ht (by assumption)).mono ?_); rintro e w1 ⟨rfl, h1⟩))
    | (go_at_call 13; ((with_reducible refine (do_any _ _ _ _ (by first | assumption | exact i64_add _ _ | exact i64_mul _ _ | exact i64_neg _ | exact i64_sub _ _ | exact i64_01 _ | exact i64_and _ _ | exact i64_or _ _ | exact i64_div _ _ | decide) (by first | assumption | exact i64_add _ _ | exact i64_mul _ _ | exact i64_neg _ | exact i64_sub _ _ | exact i64_01 _ | exact i64_and _ _ | exact i64_or _ _ | exact i64_div _ _ | decide)).mono ?_); rintro e w1 ⟨rfl, rfl⟩))
    | (go_at_call 14; ((with_reducible refine (rdo_any _ _ _ _ (by assumption) (by assumption)).mono ?_); rintro e w1 ⟨rfl, rfl⟩))
    | (go_at_call 25; ((with_reducible refine (or_any _ _ _ (by first | assumption | exact i64_add _ _ | exact i64_mul _ _ | exact i64_neg _ | exact i64_sub _ _ | exact i64_01 _ | exact i64_and _ _ | exact i64_or _ _ | exact i64_div _ _ | decide) (by first | assumption | exact i64_add _ _ | exact i64_mul _ _ | exact i64_neg _ | exact i64_sub _ _ | exact i64_01 _ | exact i64_and _ _ | exact i64_or _ _ | exact i64_div _ _ | decide)).mono ?_); rintro e w1 ⟨rfl, rfl⟩)))
  go_ret
  exact ⟨rfl, by assumption⟩

theorem does_walk (op a b : Int) (w : World) (ha : I64 a) (hb : I64 b) (ht : Tab w) :
    Calls Tryd.prog 3 #[.int .i64 op, .int .i64 a, .int .i64 b] w fun e w' => e = .returned (.bool true) ∧ Fr w w' := by
  by_cases ho : op < 6 ∨ 16 < op
  · exact does_no op a b w ha hb ho ht
  have h' : op = 6 ∨ op = 7 ∨ op = 8 ∨ op = 9 ∨ op = 10 ∨ op = 11 ∨ op = 12 ∨ op = 13 ∨ op = 14 ∨ op = 15 ∨ op = 16 := by omega
  clear ho
  rcases h' with rfl | rfl | rfl | rfl | rfl | rfl | rfl | rfl | rfl | rfl | rfl
  · exact does_6 a b w ha hb ht
  · exact does_7 a b w ha hb ht
  · exact does_8 a b w ha hb ht
  · exact does_9 a b w ha hb ht
  · exact does_10 a b w ha hb ht
  · exact does_11 a b w ha hb ht
  · exact does_12 a b w ha hb ht
  · exact does_13 a b w ha hb ht
  · exact does_14 a b w ha hb ht
  · exact does_15 a b w ha hb ht
  · exact does_16 a b w ha hb ht

end Go.Proofs.YtnlljcbpjhhloaaDoor
