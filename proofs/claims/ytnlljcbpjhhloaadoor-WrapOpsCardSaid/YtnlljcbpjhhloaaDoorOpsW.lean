/-
  WrapOps: for every op and three numbers the statement's function tells true. The walk.
-/
import Derived.Test.YtnlljcbpjhhloaaDoorShown
import Derived.Test.YtnlljcbpjhhloaaDoorNums
namespace Go.Proofs.YtnlljcbpjhhloaaDoor
open Go Go.RowKit Go.Lib

theorem doV_6 (a b : Int) : doV 6 a b = gNeg a := by unfold doV; rw [if_pos rfl]
theorem doV_7 (a b : Int) : doV 7 a b = gNot a := by unfold doV; rw [if_neg (by decide), if_pos rfl]

set_option maxHeartbeats 2000000 in
set_option maxRecDepth 100000 in
theorem ops_no (op a b c : Int) (w : World) (ha : I64 a) (hb : I64 b) (hc : I64 c) (ho : op < 6 ∨ 16 < op) (ht : Tab w) :
    Calls Tryd.prog 11 #[.int .i64 op, .int .i64 a, .int .i64 b, .int .i64 c] w fun e w' => e = .returned (.bool true) ∧ Fr w w' := by
  have h := Fr.refl w
  have d1 : doV op a b = 0 := (do_none a b ho).1
  have d2 : doV op a c = 0 := (do_none a c ho).1
  have d3 : doOk op b = false := (do_none a b ho).2
  have d4 : doOk op c = false := (do_none a c ho).2
  go_enter Tryd.func11, Tryd.ntmps11
  go_wp2_with (first
    | (go_at_call 12; ((with_reducible refine (shown_fr w _ ht (by assumption)).mono ?_); rintro e w1 ⟨rfl, h1⟩))
    | (go_at_call 13; ((with_reducible refine (do_any _ _ _ _ (by first | assumption | exact i64_add _ _ | exact i64_mul _ _ | exact i64_neg _ | exact i64_sub _ _ | exact i64_01 _ | exact i64_and _ _ | exact i64_or _ _ | exact i64_div _ _ | decide) (by first | assumption | exact i64_add _ _ | exact i64_mul _ _ | exact i64_neg _ | exact i64_sub _ _ | exact i64_01 _ | exact i64_and _ _ | exact i64_or _ _ | exact i64_div _ _ | decide)).mono ?_); rintro e w1 ⟨rfl, rfl⟩)))
  all_goals first
    | (exfalso; omega)
    | (go_ret; exact ⟨rfl, by assumption⟩)

set_option maxHeartbeats 2000000 in
set_option maxRecDepth 100000 in
theorem ops_6 (a b c : Int) (w : World) (ha : I64 a) (hb : I64 b) (hc : I64 c)  (ht : Tab w) :
    Calls Tryd.prog 11 #[.int .i64 6, .int .i64 a, .int .i64 b, .int .i64 c] w fun e w' => e = .returned (.bool true) ∧ Fr w w' := by
  have h := Fr.refl w
  have d1 : doOk 6 b = true := rfl
  have d2 : doOk 6 c = true := rfl
  have d3 : (doV 6 a b == doV 6 a c) = true := beq_iff_eq.2 ((doV_6 a b).trans (doV_6 a c).symm)
  go_enter Tryd.func11, Tryd.ntmps11
  go_wp2_with (first
    | (go_at_call 12; ((with_reducible refine (shown_fr w _ ht (by assumption)).mono ?_); rintro e w1 ⟨rfl, h1⟩))
    | (go_at_call 13; ((with_reducible refine (do_any _ _ _ _ (by first | assumption | exact i64_add _ _ | exact i64_mul _ _ | exact i64_neg _ | exact i64_sub _ _ | exact i64_01 _ | exact i64_and _ _ | exact i64_or _ _ | exact i64_div _ _ | decide) (by first | assumption | exact i64_add _ _ | exact i64_mul _ _ | exact i64_neg _ | exact i64_sub _ _ | exact i64_01 _ | exact i64_and _ _ | exact i64_or _ _ | exact i64_div _ _ | decide)).mono ?_); rintro e w1 ⟨rfl, rfl⟩)))
  go_ret
  exact ⟨rfl, by assumption⟩

set_option maxHeartbeats 2000000 in
set_option maxRecDepth 100000 in
theorem ops_7 (a b c : Int) (w : World) (ha : I64 a) (hb : I64 b) (hc : I64 c)  (ht : Tab w) :
    Calls Tryd.prog 11 #[.int .i64 7, .int .i64 a, .int .i64 b, .int .i64 c] w fun e w' => e = .returned (.bool true) ∧ Fr w w' := by
  have h := Fr.refl w
  have d1 : doOk 7 b = true := rfl
  have d2 : doOk 7 c = true := rfl
  have d3 : (doV 7 a b == doV 7 a c) = true := beq_iff_eq.2 ((doV_7 a b).trans (doV_7 a c).symm)
  go_enter Tryd.func11, Tryd.ntmps11
  go_wp2_with (first
    | (go_at_call 12; ((with_reducible refine (shown_fr w _ ht (by assumption)).mono ?_); rintro e w1 ⟨rfl, h1⟩))
    | (go_at_call 13; ((with_reducible refine (do_any _ _ _ _ (by first | assumption | exact i64_add _ _ | exact i64_mul _ _ | exact i64_neg _ | exact i64_sub _ _ | exact i64_01 _ | exact i64_and _ _ | exact i64_or _ _ | exact i64_div _ _ | decide) (by first | assumption | exact i64_add _ _ | exact i64_mul _ _ | exact i64_neg _ | exact i64_sub _ _ | exact i64_01 _ | exact i64_and _ _ | exact i64_or _ _ | exact i64_div _ _ | decide)).mono ?_); rintro e w1 ⟨rfl, rfl⟩)))
  go_ret
  exact ⟨rfl, by assumption⟩

set_option maxHeartbeats 2000000 in
set_option maxRecDepth 100000 in
theorem ops_11_00 (a b c : Int) (w : World) (ha : I64 a) (hb : I64 b) (hc : I64 c) (hb0 : b = 0) (hc0 : c = 0) (ht : Tab w) :
    Calls Tryd.prog 11 #[.int .i64 11, .int .i64 a, .int .i64 b, .int .i64 c] w fun e w' => e = .returned (.bool true) ∧ Fr w w' := by
  have h := Fr.refl w
  have y1 : doOk 11 b = nz b := rfl
  have y2 : doOk 11 c = nz c := rfl
  have y5 : doV 11 a b = 0 := by rw [hb0]; rfl
  have y3 : nz b = false := by rw [hb0]; rfl
  have y4 : nz c = false := by rw [hc0]; rfl
  have y6 : (b != 0) = false := bne_eq_false_iff_eq.2 hb0
  have y7 : (c != 0) = false := bne_eq_false_iff_eq.2 hc0
  rw [y3] at y1
  rw [y4] at y2
  clear y3 y4 hb0 hc0
  go_enter Tryd.func11, Tryd.ntmps11
  go_wp2_with (first
    | (go_at_call 12; ((with_reducible refine (shown_fr w _ ht (by assumption)).mono ?_); rintro e w1 ⟨rfl, h1⟩))
    | (go_at_call 13; ((with_reducible refine (do_any _ _ _ _ (by first | assumption | exact i64_add _ _ | exact i64_mul _ _ | exact i64_neg _ | exact i64_sub _ _ | exact i64_01 _ | exact i64_and _ _ | exact i64_or _ _ | exact i64_div _ _ | decide) (by first | assumption | exact i64_add _ _ | exact i64_mul _ _ | exact i64_neg _ | exact i64_sub _ _ | exact i64_01 _ | exact i64_and _ _ | exact i64_or _ _ | exact i64_div _ _ | decide)).mono ?_); rintro e w1 ⟨rfl, rfl⟩)))
  go_ret
  exact ⟨rfl, by assumption⟩

set_option maxHeartbeats 2000000 in
set_option maxRecDepth 100000 in
theorem ops_11_01 (a b c : Int) (w : World) (ha : I64 a) (hb : I64 b) (hc : I64 c) (hb0 : b = 0) (hc0 : c ≠ 0) (ht : Tab w) :
    Calls Tryd.prog 11 #[.int .i64 11, .int .i64 a, .int .i64 b, .int .i64 c] w fun e w' => e = .returned (.bool true) ∧ Fr w w' := by
  have h := Fr.refl w
  have y1 : doOk 11 b = nz b := rfl
  have y2 : doOk 11 c = nz c := rfl
  have y5 : doV 11 a b = 0 := by rw [hb0]; rfl
  have y3 : nz b = false := by rw [hb0]; rfl
  have y4 : nz c = true := nz_1 hc0
  have y6 : (b != 0) = false := bne_eq_false_iff_eq.2 hb0
  have y7 : (c != 0) = true := bne_iff_ne.2 hc0
  rw [y3] at y1
  rw [y4] at y2
  clear y3 y4 hb0 hc0
  go_enter Tryd.func11, Tryd.ntmps11
  go_wp2_with (first
    | (go_at_call 12; ((with_reducible refine (shown_fr w _ ht (by assumption)).mono ?_); rintro e w1 ⟨rfl, h1⟩))
    | (go_at_call 13; ((with_reducible refine (do_any _ _ _ _ (by first | assumption | exact i64_add _ _ | exact i64_mul _ _ | exact i64_neg _ | exact i64_sub _ _ | exact i64_01 _ | exact i64_and _ _ | exact i64_or _ _ | exact i64_div _ _ | decide) (by first | assumption | exact i64_add _ _ | exact i64_mul _ _ | exact i64_neg _ | exact i64_sub _ _ | exact i64_01 _ | exact i64_and _ _ | exact i64_or _ _ | exact i64_div _ _ | decide)).mono ?_); rintro e w1 ⟨rfl, rfl⟩)))
  go_ret
  exact ⟨rfl, by assumption⟩

set_option maxHeartbeats 2000000 in
set_option maxRecDepth 100000 in
theorem ops_11_10 (a b c : Int) (w : World) (ha : I64 a) (hb : I64 b) (hc : I64 c) (hb0 : b ≠ 0) (hc0 : c = 0) (ht : Tab w) :
    Calls Tryd.prog 11 #[.int .i64 11, .int .i64 a, .int .i64 b, .int .i64 c] w fun e w' => e = .returned (.bool true) ∧ Fr w w' := by
  have h := Fr.refl w
  have y1 : doOk 11 b = nz b := rfl
  have y2 : doOk 11 c = nz c := rfl
  have y3 : nz b = true := nz_1 hb0
  have y4 : nz c = false := by rw [hc0]; rfl
  have y6 : (b != 0) = true := bne_iff_ne.2 hb0
  have y7 : (c != 0) = false := bne_eq_false_iff_eq.2 hc0
  rw [y3] at y1
  rw [y4] at y2
  clear y3 y4 hb0 hc0
  go_enter Tryd.func11, Tryd.ntmps11
  go_wp2_with (first
    | (go_at_call 12; ((with_reducible refine (shown_fr w _ ht (by assumption)).mono ?_); rintro e w1 ⟨rfl, h1⟩))
    | (go_at_call 13; ((with_reducible refine (do_any _ _ _ _ (by first | assumption | exact i64_add _ _ | exact i64_mul _ _ | exact i64_neg _ | exact i64_sub _ _ | exact i64_01 _ | exact i64_and _ _ | exact i64_or _ _ | exact i64_div _ _ | decide) (by first | assumption | exact i64_add _ _ | exact i64_mul _ _ | exact i64_neg _ | exact i64_sub _ _ | exact i64_01 _ | exact i64_and _ _ | exact i64_or _ _ | exact i64_div _ _ | decide)).mono ?_); rintro e w1 ⟨rfl, rfl⟩)))
  go_ret
  exact ⟨rfl, by assumption⟩

set_option maxHeartbeats 2000000 in
set_option maxRecDepth 100000 in
theorem ops_11_11 (a b c : Int) (w : World) (ha : I64 a) (hb : I64 b) (hc : I64 c) (hb0 : b ≠ 0) (hc0 : c ≠ 0) (ht : Tab w) :
    Calls Tryd.prog 11 #[.int .i64 11, .int .i64 a, .int .i64 b, .int .i64 c] w fun e w' => e = .returned (.bool true) ∧ Fr w w' := by
  have h := Fr.refl w
  have y1 : doOk 11 b = nz b := rfl
  have y2 : doOk 11 c = nz c := rfl
  have y3 : nz b = true := nz_1 hb0
  have y4 : nz c = true := nz_1 hc0
  have y6 : (b != 0) = true := bne_iff_ne.2 hb0
  have y7 : (c != 0) = true := bne_iff_ne.2 hc0
  rw [y3] at y1
  rw [y4] at y2
  clear y3 y4 hb0 hc0
  go_enter Tryd.func11, Tryd.ntmps11
  go_wp2_with (first
    | (go_at_call 12; ((with_reducible refine (shown_fr w _ ht (by assumption)).mono ?_); rintro e w1 ⟨rfl, h1⟩))
    | (go_at_call 13; ((with_reducible refine (do_any _ _ _ _ (by first | assumption | exact i64_add _ _ | exact i64_mul _ _ | exact i64_neg _ | exact i64_sub _ _ | exact i64_01 _ | exact i64_and _ _ | exact i64_or _ _ | exact i64_div _ _ | decide) (by first | assumption | exact i64_add _ _ | exact i64_mul _ _ | exact i64_neg _ | exact i64_sub _ _ | exact i64_01 _ | exact i64_and _ _ | exact i64_or _ _ | exact i64_div _ _ | decide)).mono ?_); rintro e w1 ⟨rfl, rfl⟩)))
  go_ret
  exact ⟨rfl, by assumption⟩

set_option maxHeartbeats 2000000 in
set_option maxRecDepth 100000 in
theorem ops_12_00 (a b c : Int) (w : World) (ha : I64 a) (hb : I64 b) (hc : I64 c) (hb0 : b = 0) (hc0 : c = 0) (ht : Tab w) :
    Calls Tryd.prog 11 #[.int .i64 12, .int .i64 a, .int .i64 b, .int .i64 c] w fun e w' => e = .returned (.bool true) ∧ Fr w w' := by
  have h := Fr.refl w
  have y1 : doOk 12 b = nz b := rfl
  have y2 : doOk 12 c = nz c := rfl
  have y5 : doV 12 a b = 0 := by rw [hb0]; rfl
  have y3 : nz b = false := by rw [hb0]; rfl
  have y4 : nz c = false := by rw [hc0]; rfl
  have y6 : (b != 0) = false := bne_eq_false_iff_eq.2 hb0
  have y7 : (c != 0) = false := bne_eq_false_iff_eq.2 hc0
  rw [y3] at y1
  rw [y4] at y2
  clear y3 y4 hb0 hc0
  go_enter Tryd.func11, Tryd.ntmps11
  go_wp2_with (first
    | (go_at_call 12; ((with_reducible refine (shown_fr w _ ht (by assumption)).mono ?_); rintro e w1 ⟨rfl, h1⟩))
    | (go_at_call 13; ((with_reducible refine (do_any _ _ _ _ (by first | assumption | exact i64_add _ _ | exact i64_mul _ _ | exact i64_neg _ | exact i64_sub _ _ | exact i64_01 _ | exact i64_and _ _ | exact i64_or _ _ | exact i64_div _ _ | decide) (by first | assumption | exact i64_add _ _ | exact i64_mul _ _ | exact i64_neg _ | exact i64_sub _ _ | exact i64_01 _ | exact i64_and _ _ | exact i64_or _ _ | exact i64_div _ _ | decide)).mono ?_); rintro e w1 ⟨rfl, rfl⟩)))
  go_ret
  exact ⟨rfl, by assumption⟩

set_option maxHeartbeats 2000000 in
set_option maxRecDepth 100000 in
theorem ops_12_01 (a b c : Int) (w : World) (ha : I64 a) (hb : I64 b) (hc : I64 c) (hb0 : b = 0) (hc0 : c ≠ 0) (ht : Tab w) :
    Calls Tryd.prog 11 #[.int .i64 12, .int .i64 a, .int .i64 b, .int .i64 c] w fun e w' => e = .returned (.bool true) ∧ Fr w w' := by
  have h := Fr.refl w
  have y1 : doOk 12 b = nz b := rfl
  have y2 : doOk 12 c = nz c := rfl
  have y5 : doV 12 a b = 0 := by rw [hb0]; rfl
  have y3 : nz b = false := by rw [hb0]; rfl
  have y4 : nz c = true := nz_1 hc0
  have y6 : (b != 0) = false := bne_eq_false_iff_eq.2 hb0
  have y7 : (c != 0) = true := bne_iff_ne.2 hc0
  rw [y3] at y1
  rw [y4] at y2
  clear y3 y4 hb0 hc0
  go_enter Tryd.func11, Tryd.ntmps11
  go_wp2_with (first
    | (go_at_call 12; ((with_reducible refine (shown_fr w _ ht (by assumption)).mono ?_); rintro e w1 ⟨rfl, h1⟩))
    | (go_at_call 13; ((with_reducible refine (do_any _ _ _ _ (by first | assumption | exact i64_add _ _ | exact i64_mul _ _ | exact i64_neg _ | exact i64_sub _ _ | exact i64_01 _ | exact i64_and _ _ | exact i64_or _ _ | exact i64_div _ _ | decide) (by first | assumption | exact i64_add _ _ | exact i64_mul _ _ | exact i64_neg _ | exact i64_sub _ _ | exact i64_01 _ | exact i64_and _ _ | exact i64_or _ _ | exact i64_div _ _ | decide)).mono ?_); rintro e w1 ⟨rfl, rfl⟩)))
  go_ret
  exact ⟨rfl, by assumption⟩

set_option maxHeartbeats 2000000 in
set_option maxRecDepth 100000 in
theorem ops_12_10 (a b c : Int) (w : World) (ha : I64 a) (hb : I64 b) (hc : I64 c) (hb0 : b ≠ 0) (hc0 : c = 0) (ht : Tab w) :
    Calls Tryd.prog 11 #[.int .i64 12, .int .i64 a, .int .i64 b, .int .i64 c] w fun e w' => e = .returned (.bool true) ∧ Fr w w' := by
  have h := Fr.refl w
  have y1 : doOk 12 b = nz b := rfl
  have y2 : doOk 12 c = nz c := rfl
  have y3 : nz b = true := nz_1 hb0
  have y4 : nz c = false := by rw [hc0]; rfl
  have y6 : (b != 0) = true := bne_iff_ne.2 hb0
  have y7 : (c != 0) = false := bne_eq_false_iff_eq.2 hc0
  rw [y3] at y1
  rw [y4] at y2
  clear y3 y4 hb0 hc0
  go_enter Tryd.func11, Tryd.ntmps11
  go_wp2_with (first
    | (go_at_call 12; ((with_reducible refine (shown_fr w _ ht (by assumption)).mono ?_); rintro e w1 ⟨rfl, h1⟩))
    | (go_at_call 13; ((with_reducible refine (do_any _ _ _ _ (by first | assumption | exact i64_add _ _ | exact i64_mul _ _ | exact i64_neg _ | exact i64_sub _ _ | exact i64_01 _ | exact i64_and _ _ | exact i64_or _ _ | exact i64_div _ _ | decide) (by first | assumption | exact i64_add _ _ | exact i64_mul _ _ | exact i64_neg _ | exact i64_sub _ _ | exact i64_01 _ | exact i64_and _ _ | exact i64_or _ _ | exact i64_div _ _ | decide)).mono ?_); rintro e w1 ⟨rfl, rfl⟩)))
  go_ret
  exact ⟨rfl, by assumption⟩

set_option maxHeartbeats 2000000 in
set_option maxRecDepth 100000 in
theorem ops_12_11 (a b c : Int) (w : World) (ha : I64 a) (hb : I64 b) (hc : I64 c) (hb0 : b ≠ 0) (hc0 : c ≠ 0) (ht : Tab w) :
    Calls Tryd.prog 11 #[.int .i64 12, .int .i64 a, .int .i64 b, .int .i64 c] w fun e w' => e = .returned (.bool true) ∧ Fr w w' := by
  have h := Fr.refl w
  have y1 : doOk 12 b = nz b := rfl
  have y2 : doOk 12 c = nz c := rfl
  have y3 : nz b = true := nz_1 hb0
  have y4 : nz c = true := nz_1 hc0
  have y6 : (b != 0) = true := bne_iff_ne.2 hb0
  have y7 : (c != 0) = true := bne_iff_ne.2 hc0
  rw [y3] at y1
  rw [y4] at y2
  clear y3 y4 hb0 hc0
  go_enter Tryd.func11, Tryd.ntmps11
  go_wp2_with (first
    | (go_at_call 12; ((with_reducible refine (shown_fr w _ ht (by assumption)).mono ?_); rintro e w1 ⟨rfl, h1⟩))
    | (go_at_call 13; ((with_reducible refine (do_any _ _ _ _ (by first | assumption | exact i64_add _ _ | exact i64_mul _ _ | exact i64_neg _ | exact i64_sub _ _ | exact i64_01 _ | exact i64_and _ _ | exact i64_or _ _ | exact i64_div _ _ | decide) (by first | assumption | exact i64_add _ _ | exact i64_mul _ _ | exact i64_neg _ | exact i64_sub _ _ | exact i64_01 _ | exact i64_and _ _ | exact i64_or _ _ | exact i64_div _ _ | decide)).mono ?_); rintro e w1 ⟨rfl, rfl⟩)))
  go_ret
  exact ⟨rfl, by assumption⟩

set_option maxHeartbeats 2000000 in
set_option maxRecDepth 100000 in
theorem ops_8_0 (a b c : Int) (w : World) (ha : I64 a) (_ : I64 b) (hc : I64 c) (he : b = c) (ht : Tab w) :
    Calls Tryd.prog 11 #[.int .i64 8, .int .i64 a, .int .i64 b, .int .i64 c] w fun e w' => e = .returned (.bool true) ∧ Fr w w' := by
  have h := Fr.refl w
  subst he
  have d1 : doOk 8 b = true := rfl
  have d3 : (doV 8 a b == doV 8 a b) = true := beq_iff_eq.2 rfl
  have d4 : (b != b) = false := bne_eq_false_iff_eq.2 rfl
  go_enter Tryd.func11, Tryd.ntmps11
  go_wp2_with (first
    | (go_at_call 12; ((with_reducible refine (shown_fr w _ ht (by assumption)).mono ?_); rintro e w1 ⟨rfl, h1⟩))
    | (go_at_call 13; ((with_reducible refine (do_any _ _ _ _ (by first | assumption | exact i64_add _ _ | exact i64_mul _ _ | exact i64_neg _ | exact i64_sub _ _ | exact i64_01 _ | exact i64_and _ _ | exact i64_or _ _ | exact i64_div _ _ | decide) (by first | assumption | exact i64_add _ _ | exact i64_mul _ _ | exact i64_neg _ | exact i64_sub _ _ | exact i64_01 _ | exact i64_and _ _ | exact i64_or _ _ | exact i64_div _ _ | decide)).mono ?_); rintro e w1 ⟨rfl, rfl⟩)))
  go_ret
  exact ⟨rfl, by assumption⟩

set_option maxHeartbeats 2000000 in
set_option maxRecDepth 100000 in
theorem ops_8_1 (a b c : Int) (w : World) (ha : I64 a) (hb : I64 b) (hc : I64 c) (he : b ≠ c) (ht : Tab w) :
    Calls Tryd.prog 11 #[.int .i64 8, .int .i64 a, .int .i64 b, .int .i64 c] w fun e w' => e = .returned (.bool true) ∧ Fr w w' := by
  have h := Fr.refl w
  have d1 : doOk 8 b = true := rfl
  have d2 : doOk 8 c = true := rfl
  have d4 : (b != c) = true := bne_iff_ne.2 he
  clear he
  go_enter Tryd.func11, Tryd.ntmps11
  go_wp2_with (first
    | (go_at_call 12; ((with_reducible refine (shown_fr w _ ht (by assumption)).mono ?_); rintro e w1 ⟨rfl, h1⟩))
    | (go_at_call 13; ((with_reducible refine (do_any _ _ _ _ (by first | assumption | exact i64_add _ _ | exact i64_mul _ _ | exact i64_neg _ | exact i64_sub _ _ | exact i64_01 _ | exact i64_and _ _ | exact i64_or _ _ | exact i64_div _ _ | decide) (by first | assumption | exact i64_add _ _ | exact i64_mul _ _ | exact i64_neg _ | exact i64_sub _ _ | exact i64_01 _ | exact i64_and _ _ | exact i64_or _ _ | exact i64_div _ _ | decide)).mono ?_); rintro e w1 ⟨rfl, rfl⟩)))
  go_ret
  exact ⟨rfl, by assumption⟩

set_option maxHeartbeats 2000000 in
set_option maxRecDepth 100000 in
theorem ops_9_0 (a b c : Int) (w : World) (ha : I64 a) (_ : I64 b) (hc : I64 c) (he : b = c) (ht : Tab w) :
    Calls Tryd.prog 11 #[.int .i64 9, .int .i64 a, .int .i64 b, .int .i64 c] w fun e w' => e = .returned (.bool true) ∧ Fr w w' := by
  have h := Fr.refl w
  subst he
  have d1 : doOk 9 b = true := rfl
  have d3 : (doV 9 a b == doV 9 a b) = true := beq_iff_eq.2 rfl
  have d4 : (b != b) = false := bne_eq_false_iff_eq.2 rfl
  go_enter Tryd.func11, Tryd.ntmps11
  go_wp2_with (first
    | (go_at_call 12; ((with_reducible refine (shown_fr w _ ht (by assumption)).mono ?_); rintro e w1 ⟨rfl, h1⟩))
    | (go_at_call 13; ((with_reducible refine (do_any _ _ _ _ (by first | assumption | exact i64_add _ _ | exact i64_mul _ _ | exact i64_neg _ | exact i64_sub _ _ | exact i64_01 _ | exact i64_and _ _ | exact i64_or _ _ | exact i64_div _ _ | decide) (by first | assumption | exact i64_add _ _ | exact i64_mul _ _ | exact i64_neg _ | exact i64_sub _ _ | exact i64_01 _ | exact i64_and _ _ | exact i64_or _ _ | exact i64_div _ _ | decide)).mono ?_); rintro e w1 ⟨rfl, rfl⟩)))
  go_ret
  exact ⟨rfl, by assumption⟩

set_option maxHeartbeats 2000000 in
set_option maxRecDepth 100000 in
theorem ops_9_1 (a b c : Int) (w : World) (ha : I64 a) (hb : I64 b) (hc : I64 c) (he : b ≠ c) (ht : Tab w) :
    Calls Tryd.prog 11 #[.int .i64 9, .int .i64 a, .int .i64 b, .int .i64 c] w fun e w' => e = .returned (.bool true) ∧ Fr w w' := by
  have h := Fr.refl w
  have d1 : doOk 9 b = true := rfl
  have d2 : doOk 9 c = true := rfl
  have d4 : (b != c) = true := bne_iff_ne.2 he
  clear he
  go_enter Tryd.func11, Tryd.ntmps11
  go_wp2_with (first
    | (go_at_call 12; ((with_reducible refine (shown_fr w _ ht (by assumption)).mono ?_); rintro e w1 ⟨rfl, h1⟩))
    | (go_at_call 13; ((with_reducible refine (do_any _ _ _ _ (by first | assumption | exact i64_add _ _ | exact i64_mul _ _ | exact i64_neg _ | exact i64_sub _ _ | exact i64_01 _ | exact i64_and _ _ | exact i64_or _ _ | exact i64_div _ _ | decide) (by first | assumption | exact i64_add _ _ | exact i64_mul _ _ | exact i64_neg _ | exact i64_sub _ _ | exact i64_01 _ | exact i64_and _ _ | exact i64_or _ _ | exact i64_div _ _ | decide)).mono ?_); rintro e w1 ⟨rfl, rfl⟩)))
  go_ret
  exact ⟨rfl, by assumption⟩

set_option maxHeartbeats 2000000 in
set_option maxRecDepth 100000 in
theorem ops_10_0 (a b c : Int) (w : World) (ha : I64 a) (_ : I64 b) (hc : I64 c) (he : b = c) (ht : Tab w) :
    Calls Tryd.prog 11 #[.int .i64 10, .int .i64 a, .int .i64 b, .int .i64 c] w fun e w' => e = .returned (.bool true) ∧ Fr w w' := by
  have h := Fr.refl w
  subst he
  have d1 : doOk 10 b = true := rfl
  have d3 : (doV 10 a b == doV 10 a b) = true := beq_iff_eq.2 rfl
  have d4 : (b != b) = false := bne_eq_false_iff_eq.2 rfl
  go_enter Tryd.func11, Tryd.ntmps11
  go_wp2_with (first
    | (go_at_call 12; ((with_reducible refine (shown_fr w _ ht (by assumption)).mono ?_); rintro e w1 ⟨rfl, h1⟩))
    | (go_at_call 13; ((with_reducible refine (do_any _ _ _ _ (by first | assumption | exact i64_add _ _ | exact i64_mul _ _ | exact i64_neg _ | exact i64_sub _ _ | exact i64_01 _ | exact i64_and _ _ | exact i64_or _ _ | exact i64_div _ _ | decide) (by first | assumption | exact i64_add _ _ | exact i64_mul _ _ | exact i64_neg _ | exact i64_sub _ _ | exact i64_01 _ | exact i64_and _ _ | exact i64_or _ _ | exact i64_div _ _ | decide)).mono ?_); rintro e w1 ⟨rfl, rfl⟩)))
  go_ret
  exact ⟨rfl, by assumption⟩

set_option maxHeartbeats 2000000 in
set_option maxRecDepth 100000 in
theorem ops_10_1 (a b c : Int) (w : World) (ha : I64 a) (hb : I64 b) (hc : I64 c) (he : b ≠ c) (ht : Tab w) :
    Calls Tryd.prog 11 #[.int .i64 10, .int .i64 a, .int .i64 b, .int .i64 c] w fun e w' => e = .returned (.bool true) ∧ Fr w w' := by
  have h := Fr.refl w
  have d1 : doOk 10 b = true := rfl
  have d2 : doOk 10 c = true := rfl
  have d4 : (b != c) = true := bne_iff_ne.2 he
  clear he
  go_enter Tryd.func11, Tryd.ntmps11
  go_wp2_with (first
    | (go_at_call 12; ((with_reducible refine (shown_fr w _ ht (by assumption)).mono ?_); rintro e w1 ⟨rfl, h1⟩))
    | (go_at_call 13; ((with_reducible refine (do_any _ _ _ _ (by first | assumption | exact i64_add _ _ | exact i64_mul _ _ | exact i64_neg _ | exact i64_sub _ _ | exact i64_01 _ | exact i64_and _ _ | exact i64_or _ _ | exact i64_div _ _ | decide) (by first | assumption | exact i64_add _ _ | exact i64_mul _ _ | exact i64_neg _ | exact i64_sub _ _ | exact i64_01 _ | exact i64_and _ _ | exact i64_or _ _ | exact i64_div _ _ | decide)).mono ?_); rintro e w1 ⟨rfl, rfl⟩)))
  go_ret
  exact ⟨rfl, by assumption⟩

set_option maxHeartbeats 2000000 in
set_option maxRecDepth 100000 in
theorem ops_13_0 (a b c : Int) (w : World) (ha : I64 a) (_ : I64 b) (hc : I64 c) (he : b = c) (ht : Tab w) :
    Calls Tryd.prog 11 #[.int .i64 13, .int .i64 a, .int .i64 b, .int .i64 c] w fun e w' => e = .returned (.bool true) ∧ Fr w w' := by
  have h := Fr.refl w
  subst he
  have d1 : doOk 13 b = true := rfl
  have d3 : (doV 13 a b == doV 13 a b) = true := beq_iff_eq.2 rfl
  have d4 : (b != b) = false := bne_eq_false_iff_eq.2 rfl
  go_enter Tryd.func11, Tryd.ntmps11
  go_wp2_with (first
    | (go_at_call 12; ((with_reducible refine (shown_fr w _ ht (by assumption)).mono ?_); rintro e w1 ⟨rfl, h1⟩))
    | (go_at_call 13; ((with_reducible refine (do_any _ _ _ _ (by first | assumption | exact i64_add _ _ | exact i64_mul _ _ | exact i64_neg _ | exact i64_sub _ _ | exact i64_01 _ | exact i64_and _ _ | exact i64_or _ _ | exact i64_div _ _ | decide) (by first | assumption | exact i64_add _ _ | exact i64_mul _ _ | exact i64_neg _ | exact i64_sub _ _ | exact i64_01 _ | exact i64_and _ _ | exact i64_or _ _ | exact i64_div _ _ | decide)).mono ?_); rintro e w1 ⟨rfl, rfl⟩)))
  go_ret
  exact ⟨rfl, by assumption⟩

set_option maxHeartbeats 2000000 in
set_option maxRecDepth 100000 in
theorem ops_13_1 (a b c : Int) (w : World) (ha : I64 a) (hb : I64 b) (hc : I64 c) (he : b ≠ c) (ht : Tab w) :
    Calls Tryd.prog 11 #[.int .i64 13, .int .i64 a, .int .i64 b, .int .i64 c] w fun e w' => e = .returned (.bool true) ∧ Fr w w' := by
  have h := Fr.refl w
  have d1 : doOk 13 b = true := rfl
  have d2 : doOk 13 c = true := rfl
  have d4 : (b != c) = true := bne_iff_ne.2 he
  clear he
  go_enter Tryd.func11, Tryd.ntmps11
  go_wp2_with (first
    | (go_at_call 12; ((with_reducible refine (shown_fr w _ ht (by assumption)).mono ?_); rintro e w1 ⟨rfl, h1⟩))
    | (go_at_call 13; ((with_reducible refine (do_any _ _ _ _ (by first | assumption | exact i64_add _ _ | exact i64_mul _ _ | exact i64_neg _ | exact i64_sub _ _ | exact i64_01 _ | exact i64_and _ _ | exact i64_or _ _ | exact i64_div _ _ | decide) (by first | assumption | exact i64_add _ _ | exact i64_mul _ _ | exact i64_neg _ | exact i64_sub _ _ | exact i64_01 _ | exact i64_and _ _ | exact i64_or _ _ | exact i64_div _ _ | decide)).mono ?_); rintro e w1 ⟨rfl, rfl⟩)))
  go_ret
  exact ⟨rfl, by assumption⟩

set_option maxHeartbeats 2000000 in
set_option maxRecDepth 100000 in
theorem ops_14_0 (a b c : Int) (w : World) (ha : I64 a) (_ : I64 b) (hc : I64 c) (he : b = c) (ht : Tab w) :
    Calls Tryd.prog 11 #[.int .i64 14, .int .i64 a, .int .i64 b, .int .i64 c] w fun e w' => e = .returned (.bool true) ∧ Fr w w' := by
  have h := Fr.refl w
  subst he
  have d1 : doOk 14 b = true := rfl
  have d3 : (doV 14 a b == doV 14 a b) = true := beq_iff_eq.2 rfl
  have d4 : (b != b) = false := bne_eq_false_iff_eq.2 rfl
  go_enter Tryd.func11, Tryd.ntmps11
  go_wp2_with (first
    | (go_at_call 12; ((with_reducible refine (shown_fr w _ ht (by assumption)).mono ?_); rintro e w1 ⟨rfl, h1⟩))
    | (go_at_call 13; ((with_reducible refine (do_any _ _ _ _ (by first | assumption | exact i64_add _ _ | exact i64_mul _ _ | exact i64_neg _ | exact i64_sub _ _ | exact i64_01 _ | exact i64_and _ _ | exact i64_or _ _ | exact i64_div _ _ | decide) (by first | assumption | exact i64_add _ _ | exact i64_mul _ _ | exact i64_neg _ | exact i64_sub _ _ | exact i64_01 _ | exact i64_and _ _ | exact i64_or _ _ | exact i64_div _ _ | decide)).mono ?_); rintro e w1 ⟨rfl, rfl⟩)))
  go_ret
  exact ⟨rfl, by assumption⟩

set_option maxHeartbeats 2000000 in
set_option maxRecDepth 100000 in
theorem ops_14_1 (a b c : Int) (w : World) (ha : I64 a) (hb : I64 b) (hc : I64 c) (he : b ≠ c) (ht : Tab w) :
    Calls Tryd.prog 11 #[.int .i64 14, .int .i64 a, .int .i64 b, .int .i64 c] w fun e w' => e = .returned (.bool true) ∧ Fr w w' := by
  have h := Fr.refl w
  have d1 : doOk 14 b = true := rfl
  have d2 : doOk 14 c = true := rfl
  have d4 : (b != c) = true := bne_iff_ne.2 he
  clear he
  go_enter Tryd.func11, Tryd.ntmps11
  go_wp2_with (first
    | (go_at_call 12; ((with_reducible refine (shown_fr w _ ht (by assumption)).mono ?_); rintro e w1 ⟨rfl, h1⟩))
    | (go_at_call 13; ((with_reducible refine (do_any _ _ _ _ (by first | assumption | exact i64_add _ _ | exact i64_mul _ _ | exact i64_neg _ | exact i64_sub _ _ | exact i64_01 _ | exact i64_and _ _ | exact i64_or _ _ | exact i64_div _ _ | decide) (by first | assumption | exact i64_add _ _ | exact i64_mul _ _ | exact i64_neg _ | exact i64_sub _ _ | exact i64_01 _ | exact i64_and _ _ | exact i64_or _ _ | exact i64_div _ _ | decide)).mono ?_); rintro e w1 ⟨rfl, rfl⟩)))
  go_ret
  exact ⟨rfl, by assumption⟩

set_option maxHeartbeats 2000000 in
set_option maxRecDepth 100000 in
theorem ops_15_0 (a b c : Int) (w : World) (ha : I64 a) (_ : I64 b) (hc : I64 c) (he : b = c) (ht : Tab w) :
    Calls Tryd.prog 11 #[.int .i64 15, .int .i64 a, .int .i64 b, .int .i64 c] w fun e w' => e = .returned (.bool true) ∧ Fr w w' := by
  have h := Fr.refl w
  subst he
  have d1 : doOk 15 b = true := rfl
  have d3 : (doV 15 a b == doV 15 a b) = true := beq_iff_eq.2 rfl
  have d4 : (b != b) = false := bne_eq_false_iff_eq.2 rfl
  go_enter Tryd.func11, Tryd.ntmps11
  go_wp2_with (first
    | (go_at_call 12; ((with_reducible refine (shown_fr w _ ht (by assumption)).mono ?_); rintro e w1 ⟨rfl, h1⟩))
    | (go_at_call 13; ((with_reducible refine (do_any _ _ _ _ (by first | assumption | exact i64_add _ _ | exact i64_mul _ _ | exact i64_neg _ | exact i64_sub _ _ | exact i64_01 _ | exact i64_and _ _ | exact i64_or _ _ | exact i64_div _ _ | decide) (by first | assumption | exact i64_add _ _ | exact i64_mul _ _ | exact i64_neg _ | exact i64_sub _ _ | exact i64_01 _ | exact i64_and _ _ | exact i64_or _ _ | exact i64_div _ _ | decide)).mono ?_); rintro e w1 ⟨rfl, rfl⟩)))
  go_ret
  exact ⟨rfl, by assumption⟩

set_option maxHeartbeats 2000000 in
set_option maxRecDepth 100000 in
theorem ops_15_1 (a b c : Int) (w : World) (ha : I64 a) (hb : I64 b) (hc : I64 c) (he : b ≠ c) (ht : Tab w) :
    Calls Tryd.prog 11 #[.int .i64 15, .int .i64 a, .int .i64 b, .int .i64 c] w fun e w' => e = .returned (.bool true) ∧ Fr w w' := by
  have h := Fr.refl w
  have d1 : doOk 15 b = true := rfl
  have d2 : doOk 15 c = true := rfl
  have d4 : (b != c) = true := bne_iff_ne.2 he
  clear he
  go_enter Tryd.func11, Tryd.ntmps11
  go_wp2_with (first
    | (go_at_call 12; ((with_reducible refine (shown_fr w _ ht (by assumption)).mono ?_); rintro e w1 ⟨rfl, h1⟩))
    | (go_at_call 13; ((with_reducible refine (do_any _ _ _ _ (by first | assumption | exact i64_add _ _ | exact i64_mul _ _ | exact i64_neg _ | exact i64_sub _ _ | exact i64_01 _ | exact i64_and _ _ | exact i64_or _ _ | exact i64_div _ _ | decide) (by first | assumption | exact i64_add _ _ | exact i64_mul _ _ | exact i64_neg _ | exact i64_sub _ _ | exact i64_01 _ | exact i64_and _ _ | exact i64_or _ _ | exact i64_div _ _ | decide)).mono ?_); rintro e w1 ⟨rfl, rfl⟩)))
  go_ret
  exact ⟨rfl, by assumption⟩

set_option maxHeartbeats 2000000 in
set_option maxRecDepth 100000 in
theorem ops_16_0 (a b c : Int) (w : World) (ha : I64 a) (_ : I64 b) (hc : I64 c) (he : b = c) (ht : Tab w) :
    Calls Tryd.prog 11 #[.int .i64 16, .int .i64 a, .int .i64 b, .int .i64 c] w fun e w' => e = .returned (.bool true) ∧ Fr w w' := by
  have h := Fr.refl w
  subst he
  have d1 : doOk 16 b = true := rfl
  have d3 : (doV 16 a b == doV 16 a b) = true := beq_iff_eq.2 rfl
  have d4 : (b != b) = false := bne_eq_false_iff_eq.2 rfl
  go_enter Tryd.func11, Tryd.ntmps11
  go_wp2_with (first
    | (go_at_call 12; ((with_reducible refine (shown_fr w _ ht (by assumption)).mono ?_); rintro e w1 ⟨rfl, h1⟩))
    | (go_at_call 13; ((with_reducible refine (do_any _ _ _ _ (by first | assumption | exact i64_add _ _ | exact i64_mul _ _ | exact i64_neg _ | exact i64_sub _ _ | exact i64_01 _ | exact i64_and _ _ | exact i64_or _ _ | exact i64_div _ _ | decide) (by first | assumption | exact i64_add _ _ | exact i64_mul _ _ | exact i64_neg _ | exact i64_sub _ _ | exact i64_01 _ | exact i64_and _ _ | exact i64_or _ _ | exact i64_div _ _ | decide)).mono ?_); rintro e w1 ⟨rfl, rfl⟩)))
  go_ret
  exact ⟨rfl, by assumption⟩

set_option maxHeartbeats 2000000 in
set_option maxRecDepth 100000 in
theorem ops_16_1 (a b c : Int) (w : World) (ha : I64 a) (hb : I64 b) (hc : I64 c) (he : b ≠ c) (ht : Tab w) :
    Calls Tryd.prog 11 #[.int .i64 16, .int .i64 a, .int .i64 b, .int .i64 c] w fun e w' => e = .returned (.bool true) ∧ Fr w w' := by
  have h := Fr.refl w
  have d1 : doOk 16 b = true := rfl
  have d2 : doOk 16 c = true := rfl
  have d4 : (b != c) = true := bne_iff_ne.2 he
  clear he
  go_enter Tryd.func11, Tryd.ntmps11
  go_wp2_with (first
    | (go_at_call 12; ((with_reducible refine (shown_fr w _ ht (by assumption)).mono ?_); rintro e w1 ⟨rfl, h1⟩))
    | (go_at_call 13; ((with_reducible refine (do_any _ _ _ _ (by first | assumption | exact i64_add _ _ | exact i64_mul _ _ | exact i64_neg _ | exact i64_sub _ _ | exact i64_01 _ | exact i64_and _ _ | exact i64_or _ _ | exact i64_div _ _ | decide) (by first | assumption | exact i64_add _ _ | exact i64_mul _ _ | exact i64_neg _ | exact i64_sub _ _ | exact i64_01 _ | exact i64_and _ _ | exact i64_or _ _ | exact i64_div _ _ | decide)).mono ?_); rintro e w1 ⟨rfl, rfl⟩)))
  go_ret
  exact ⟨rfl, by assumption⟩

theorem ops_walk (op a b c : Int) (w : World) (ha : I64 a) (hb : I64 b) (hc : I64 c) (ht : Tab w) :
    Calls Tryd.prog 11 #[.int .i64 op, .int .i64 a, .int .i64 b, .int .i64 c] w fun e w' => e = .returned (.bool true) ∧ Fr w w' := by
  by_cases ho : op < 6 ∨ 16 < op
  · exact ops_no op a b c w ha hb hc ho ht
  have h' : op = 6 ∨ op = 7 ∨ op = 8 ∨ op = 9 ∨ op = 10 ∨ op = 11 ∨ op = 12 ∨ op = 13 ∨ op = 14 ∨ op = 15 ∨ op = 16 := by omega
  clear ho
  rcases h' with rfl | rfl | rfl | rfl | rfl | rfl | rfl | rfl | rfl | rfl | rfl
  · exact ops_6 a b c w ha hb hc ht
  · exact ops_7 a b c w ha hb hc ht
  · by_cases he : b = c
    · exact ops_8_0 a b c w ha hb hc he ht
    · exact ops_8_1 a b c w ha hb hc he ht
  · by_cases he : b = c
    · exact ops_9_0 a b c w ha hb hc he ht
    · exact ops_9_1 a b c w ha hb hc he ht
  · by_cases he : b = c
    · exact ops_10_0 a b c w ha hb hc he ht
    · exact ops_10_1 a b c w ha hb hc he ht
  · by_cases hb0 : b = 0
    · by_cases hc0 : c = 0
      · exact ops_11_00 a b c w ha hb hc hb0 hc0 ht
      · exact ops_11_01 a b c w ha hb hc hb0 hc0 ht
    · by_cases hc0 : c = 0
      · exact ops_11_10 a b c w ha hb hc hb0 hc0 ht
      · exact ops_11_11 a b c w ha hb hc hb0 hc0 ht
  · by_cases hb0 : b = 0
    · by_cases hc0 : c = 0
      · exact ops_12_00 a b c w ha hb hc hb0 hc0 ht
      · exact ops_12_01 a b c w ha hb hc hb0 hc0 ht
    · by_cases hc0 : c = 0
      · exact ops_12_10 a b c w ha hb hc hb0 hc0 ht
      · exact ops_12_11 a b c w ha hb hc hb0 hc0 ht
  · by_cases he : b = c
    · exact ops_13_0 a b c w ha hb hc he ht
    · exact ops_13_1 a b c w ha hb hc he ht
  · by_cases he : b = c
    · exact ops_14_0 a b c w ha hb hc he ht
    · exact ops_14_1 a b c w ha hb hc he ht
  · by_cases he : b = c
    · exact ops_15_0 a b c w ha hb hc he ht
    · exact ops_15_1 a b c w ha hb hc he ht
  · by_cases he : b = c
    · exact ops_16_0 a b c w ha hb hc he ht
    · exact ops_16_1 a b c w ha hb hc he ht

end Go.Proofs.YtnlljcbpjhhloaaDoor
