/-
  WrapRing: for every three numbers the statement's function tells true. The walk.
-/
import Derived.Test.YtnlljcbpjhhloaaDoorShown
import Derived.Test.YtnlljcbpjhhloaaDoorNums
namespace Go.Proofs.YtnlljcbpjhhloaaDoor
open Go Go.RowKit Go.Lib

set_option maxHeartbeats 2000000 in
set_option maxRecDepth 100000 in
theorem ring_walk (a b c : Int) (w : World) (ha : I64 a) (hb : I64 b) (hc : I64 c) (ht : Tab w) :
    Calls Tryd.prog 5 #[.int .i64 a, .int .i64 b, .int .i64 c] w fun e w' => e = .returned (.bool true) ∧ Fr w w' := by
  have h := Fr.refl w
  have r1 : (gAdd a b == gAdd b a) = true := beq_iff_eq.2 (add_comm a b)
  have r1' : (gAdd a b != gAdd b a) = false := bne_eq_false_iff_eq.2 (add_comm a b)
  have r2 : (gMul a b == gMul b a) = true := beq_iff_eq.2 (mul_comm a b)
  have r2' : (gMul a b != gMul b a) = false := bne_eq_false_iff_eq.2 (mul_comm a b)
  have r3 : (gAdd (gAdd a b) c == gAdd a (gAdd b c)) = true := beq_iff_eq.2 (add_assoc a b c)
  have r3' : (gAdd (gAdd a b) c != gAdd a (gAdd b c)) = false := bne_eq_false_iff_eq.2 (add_assoc a b c)
  have r4 : (gMul (gMul a b) c == gMul a (gMul b c)) = true := beq_iff_eq.2 (mul_assoc a b c)
  have r4' : (gMul (gMul a b) c != gMul a (gMul b c)) = false := bne_eq_false_iff_eq.2 (mul_assoc a b c)
  have r5 : (gSub (gAdd a b) b == a) = true := beq_iff_eq.2 (sub_add a b ha)
  have r5' : (gSub (gAdd a b) b != a) = false := bne_eq_false_iff_eq.2 (sub_add a b ha)
  have r6 : (gAdd a (gNeg a) == 0) = true := beq_iff_eq.2 (add_neg a)
  have r6' : (gAdd a (gNeg a) != 0) = false := bne_eq_false_iff_eq.2 (add_neg a)
  have r7 : (gSub a b == gAdd a (gNeg b)) = true := beq_iff_eq.2 (sub_eq a b)
  have r7' : (gSub a b != gAdd a (gNeg b)) = false := bne_eq_false_iff_eq.2 (sub_eq a b)
  have r8 : (gNeg (gNeg a) == a) = true := beq_iff_eq.2 (neg_neg a ha)
  have r8' : (gNeg (gNeg a) != a) = false := bne_eq_false_iff_eq.2 (neg_neg a ha)
  have r9 : (gMul a (gAdd b c) == gAdd (gMul a b) (gMul a c)) = true := beq_iff_eq.2 (mul_add a b c)
  have r9' : (gMul a (gAdd b c) != gAdd (gMul a b) (gMul a c)) = false := bne_eq_false_iff_eq.2 (mul_add a b c)
  have r10 : (gMul a 1 == a) = true := beq_iff_eq.2 (mul_one a ha)
  have r10' : (gMul a 1 != a) = false := bne_eq_false_iff_eq.2 (mul_one a ha)
  have r11 : (gMul a 0 == 0) = true := beq_iff_eq.2 (mul_zero a)
  have r11' : (gMul a 0 != 0) = false := bne_eq_false_iff_eq.2 (mul_zero a)
  have r12 : (gMul a (-1) == gNeg a) = true := beq_iff_eq.2 (mul_m1 a)
  have r12' : (gMul a (-1) != gNeg a) = false := bne_eq_false_iff_eq.2 (mul_m1 a)
  go_enter Tryd.func5, Tryd.ntmps5
  go_wp2_with (first
    | (go_at_call 12; ((with_reducible refine (shown_fr w _ ht (by assumption)).mono ?_); rintro e w1 ⟨rfl, h1⟩))
    | (go_at_call 17; ((with_reducible refine (add_any _ _ _ (by first | assumption | exact i64_add _ _ | exact i64_mul _ _ | exact i64_neg _ | exact i64_sub _ _ | exact i64_01 _ | exact i64_and _ _ | exact i64_or _ _ | exact i64_div _ _ | decide) (by first | assumption | exact i64_add _ _ | exact i64_mul _ _ | exact i64_neg _ | exact i64_sub _ _ | exact i64_01 _ | exact i64_and _ _ | exact i64_or _ _ | exact i64_div _ _ | decide)).mono ?_); rintro e w1 ⟨rfl, rfl⟩))
    | (go_at_call 19; ((with_reducible refine (mul_any _ _ _ (by first | assumption | exact i64_add _ _ | exact i64_mul _ _ | exact i64_neg _ | exact i64_sub _ _ | exact i64_01 _ | exact i64_and _ _ | exact i64_or _ _ | exact i64_div _ _ | decide) (by first | assumption | exact i64_add _ _ | exact i64_mul _ _ | exact i64_neg _ | exact i64_sub _ _ | exact i64_01 _ | exact i64_and _ _ | exact i64_or _ _ | exact i64_div _ _ | decide)).mono ?_); rintro e w1 ⟨rfl, rfl⟩))
    | (go_at_call 18; ((with_reducible refine (sub_any _ _ _ (by first | assumption | exact i64_add _ _ | exact i64_mul _ _ | exact i64_neg _ | exact i64_sub _ _ | exact i64_01 _ | exact i64_and _ _ | exact i64_or _ _ | exact i64_div _ _ | decide) (by first | assumption | exact i64_add _ _ | exact i64_mul _ _ | exact i64_neg _ | exact i64_sub _ _ | exact i64_01 _ | exact i64_and _ _ | exact i64_or _ _ | exact i64_div _ _ | decide)).mono ?_); rintro e w1 ⟨rfl, rfl⟩))
    | (go_at_call 15; ((with_reducible refine (neg_any _ _ (by first | assumption | exact i64_add _ _ | exact i64_mul _ _ | exact i64_neg _ | exact i64_sub _ _ | exact i64_01 _ | exact i64_and _ _ | exact i64_or _ _ | exact i64_div _ _ | decide)).mono ?_); rintro e w1 ⟨rfl, rfl⟩)))
  go_ret
  exact ⟨rfl, by assumption⟩

end Go.Proofs.YtnlljcbpjhhloaaDoor
