/-
  WrapSigns: for every two numbers the statement's function tells true. The walk.
-/
import Derived.Test.YtnlljcbpjhhloaaDoorShown
import Derived.Test.YtnlljcbpjhhloaaDoorNums
namespace Go.Proofs.YtnlljcbpjhhloaaDoor
open Go Go.RowKit Go.Lib

set_option maxHeartbeats 2000000 in
set_option maxRecDepth 100000 in
theorem signs_0 (a b : Int) (w : World) (ha : I64 a) (hb : I64 b) (hz : b = 0) (ht : Tab w) :
    Calls Tryd.prog 10 #[.int .i64 a, .int .i64 b] w fun e w' => e = .returned (.bool true) ∧ Fr w w' := by
  have h := Fr.refl w
  have g1 : (gNeg (gMul a b) != gMul (gNeg a) b) = false := bne_eq_false_iff_eq.2 (neg_mul a b)
  have g2 : (gNeg (gAdd a b) != gSub (gNeg a) b) = false := bne_eq_false_iff_eq.2 (neg_add a b)
  subst hz
  go_enter Tryd.func10, Tryd.ntmps10
  go_wp2_with (first
    | (go_at_call 12; ((with_reducible refine (shown_fr w _ ht (by assumption)).mono ?_); rintro e w1 ⟨rfl, h1⟩))
    | (go_at_call 15; ((with_reducible refine (neg_any _ _ (by first | assumption | exact i64_add _ _ | exact i64_mul _ _ | exact i64_neg _ | exact i64_sub _ _ | exact i64_01 _ | exact i64_and _ _ | exact i64_or _ _ | exact i64_div _ _ | decide)).mono ?_); rintro e w1 ⟨rfl, rfl⟩))
    | (go_at_call 19; ((with_reducible refine (mul_any _ _ _ (by first | assumption | exact i64_add _ _ | exact i64_mul _ _ | exact i64_neg _ | exact i64_sub _ _ | exact i64_01 _ | exact i64_and _ _ | exact i64_or _ _ | exact i64_div _ _ | decide) (by first | assumption | exact i64_add _ _ | exact i64_mul _ _ | exact i64_neg _ | exact i64_sub _ _ | exact i64_01 _ | exact i64_and _ _ | exact i64_or _ _ | exact i64_div _ _ | decide)).mono ?_); rintro e w1 ⟨rfl, rfl⟩))
    | (go_at_call 17; ((with_reducible refine (add_any _ _ _ (by first | assumption | exact i64_add _ _ | exact i64_mul _ _ | exact i64_neg _ | exact i64_sub _ _ | exact i64_01 _ | exact i64_and _ _ | exact i64_or _ _ | exact i64_div _ _ | decide) (by first | assumption | exact i64_add _ _ | exact i64_mul _ _ | exact i64_neg _ | exact i64_sub _ _ | exact i64_01 _ | exact i64_and _ _ | exact i64_or _ _ | exact i64_div _ _ | decide)).mono ?_); rintro e w1 ⟨rfl, rfl⟩))
    | (go_at_call 18; ((with_reducible refine (sub_any _ _ _ (by first | assumption | exact i64_add _ _ | exact i64_mul _ _ | exact i64_neg _ | exact i64_sub _ _ | exact i64_01 _ | exact i64_and _ _ | exact i64_or _ _ | exact i64_div _ _ | decide) (by first | assumption | exact i64_add _ _ | exact i64_mul _ _ | exact i64_neg _ | exact i64_sub _ _ | exact i64_01 _ | exact i64_and _ _ | exact i64_or _ _ | exact i64_div _ _ | decide)).mono ?_); rintro e w1 ⟨rfl, rfl⟩))
    | (go_at_call 20; ((with_reducible refine (div_any _ _ _ (by first | assumption | exact i64_add _ _ | exact i64_mul _ _ | exact i64_neg _ | exact i64_sub _ _ | exact i64_01 _ | exact i64_and _ _ | exact i64_or _ _ | exact i64_div _ _ | decide) (by first | assumption | exact i64_add _ _ | exact i64_mul _ _ | exact i64_neg _ | exact i64_sub _ _ | exact i64_01 _ | exact i64_and _ _ | exact i64_or _ _ | exact i64_div _ _ | decide)).mono ?_); rintro e w1 ⟨rfl, rfl⟩))
    | (go_at_call 21; ((with_reducible refine (mod_any _ _ _ (by first | assumption | exact i64_add _ _ | exact i64_mul _ _ | exact i64_neg _ | exact i64_sub _ _ | exact i64_01 _ | exact i64_and _ _ | exact i64_or _ _ | exact i64_div _ _ | decide) (by first | assumption | exact i64_add _ _ | exact i64_mul _ _ | exact i64_neg _ | exact i64_sub _ _ | exact i64_01 _ | exact i64_and _ _ | exact i64_or _ _ | exact i64_div _ _ | decide)).mono ?_); rintro e w1 ⟨rfl, rfl⟩)))
  go_ret
  exact ⟨rfl, by assumption⟩

set_option maxHeartbeats 2000000 in
set_option maxRecDepth 100000 in
theorem signs_1 (a b : Int) (w : World) (ha : I64 a) (hb : I64 b) (hz : b < 0 ∨ 0 < b) (hl : a = -9223372036854775808) (ht : Tab w) :
    Calls Tryd.prog 10 #[.int .i64 a, .int .i64 b] w fun e w' => e = .returned (.bool true) ∧ Fr w w' := by
  have h := Fr.refl w
  have g1 : (gNeg (gMul a b) != gMul (gNeg a) b) = false := bne_eq_false_iff_eq.2 (neg_mul a b)
  have g2 : (gNeg (gAdd a b) != gSub (gNeg a) b) = false := bne_eq_false_iff_eq.2 (neg_add a b)
  have g3 : (b == 0) = false := beq_eq_false_iff_ne.2 (by omega)
  have g4 : (a == -9223372036854775808) = true := beq_iff_eq.2 hl
  clear hz hl
  go_enter Tryd.func10, Tryd.ntmps10
  go_wp2_with (first
    | (go_at_call 12; ((with_reducible refine (shown_fr w _ ht (by assumption)).mono ?_); rintro e w1 ⟨rfl, h1⟩))
    | (go_at_call 15; ((with_reducible refine (neg_any _ _ (by first | assumption | exact i64_add _ _ | exact i64_mul _ _ | exact i64_neg _ | exact i64_sub _ _ | exact i64_01 _ | exact i64_and _ _ | exact i64_or _ _ | exact i64_div _ _ | decide)).mono ?_); rintro e w1 ⟨rfl, rfl⟩))
    | (go_at_call 19; ((with_reducible refine (mul_any _ _ _ (by first | assumption | exact i64_add _ _ | exact i64_mul _ _ | exact i64_neg _ | exact i64_sub _ _ | exact i64_01 _ | exact i64_and _ _ | exact i64_or _ _ | exact i64_div _ _ | decide) (by first | assumption | exact i64_add _ _ | exact i64_mul _ _ | exact i64_neg _ | exact i64_sub _ _ | exact i64_01 _ | exact i64_and _ _ | exact i64_or _ _ | exact i64_div _ _ | decide)).mono ?_); rintro e w1 ⟨rfl, rfl⟩))
    | (go_at_call 17; ((with_reducible refine (add_any _ _ _ (by first | assumption | exact i64_add _ _ | exact i64_mul _ _ | exact i64_neg _ | exact i64_sub _ _ | exact i64_01 _ | exact i64_and _ _ | exact i64_or _ _ | exact i64_div _ _ | decide) (by first | assumption | exact i64_add _ _ | exact i64_mul _ _ | exact i64_neg _ | exact i64_sub _ _ | exact i64_01 _ | exact i64_and _ _ | exact i64_or _ _ | exact i64_div _ _ | decide)).mono ?_); rintro e w1 ⟨rfl, rfl⟩))
    | (go_at_call 18; ((with_reducible refine (sub_any _ _ _ (by first | assumption | exact i64_add _ _ | exact i64_mul _ _ | exact i64_neg _ | exact i64_sub _ _ | exact i64_01 _ | exact i64_and _ _ | exact i64_or _ _ | exact i64_div _ _ | decide) (by first | assumption | exact i64_add _ _ | exact i64_mul _ _ | exact i64_neg _ | exact i64_sub _ _ | exact i64_01 _ | exact i64_and _ _ | exact i64_or _ _ | exact i64_div _ _ | decide)).mono ?_); rintro e w1 ⟨rfl, rfl⟩))
    | (go_at_call 20; ((with_reducible refine (div_any _ _ _ (by first | assumption | exact i64_add _ _ | exact i64_mul _ _ | exact i64_neg _ | exact i64_sub _ _ | exact i64_01 _ | exact i64_and _ _ | exact i64_or _ _ | exact i64_div _ _ | decide) (by first | assumption | exact i64_add _ _ | exact i64_mul _ _ | exact i64_neg _ | exact i64_sub _ _ | exact i64_01 _ | exact i64_and _ _ | exact i64_or _ _ | exact i64_div _ _ | decide)).mono ?_); rintro e w1 ⟨rfl, rfl⟩))
    | (go_at_call 21; ((with_reducible refine (mod_any _ _ _ (by first | assumption | exact i64_add _ _ | exact i64_mul _ _ | exact i64_neg _ | exact i64_sub _ _ | exact i64_01 _ | exact i64_and _ _ | exact i64_or _ _ | exact i64_div _ _ | decide) (by first | assumption | exact i64_add _ _ | exact i64_mul _ _ | exact i64_neg _ | exact i64_sub _ _ | exact i64_01 _ | exact i64_and _ _ | exact i64_or _ _ | exact i64_div _ _ | decide)).mono ?_); rintro e w1 ⟨rfl, rfl⟩)))
  go_ret
  exact ⟨rfl, by assumption⟩

set_option maxHeartbeats 2000000 in
set_option maxRecDepth 100000 in
theorem signs_2 (a b : Int) (w : World) (ha : I64 a) (hb : I64 b) (hl : -9223372036854775807 ≤ a) (hm : b = -9223372036854775808) (ht : Tab w) :
    Calls Tryd.prog 10 #[.int .i64 a, .int .i64 b] w fun e w' => e = .returned (.bool true) ∧ Fr w w' := by
  have h := Fr.refl w
  have g1 : (gNeg (gMul a b) != gMul (gNeg a) b) = false := bne_eq_false_iff_eq.2 (neg_mul a b)
  have g2 : (gNeg (gAdd a b) != gSub (gNeg a) b) = false := bne_eq_false_iff_eq.2 (neg_add a b)
  have g3 : (b == 0) = false := beq_eq_false_iff_ne.2 (by omega)
  have g4 : (a == -9223372036854775808) = false := beq_eq_false_iff_ne.2 (by omega)
  have g5 : (b == -9223372036854775808) = true := beq_iff_eq.2 hm
  clear hl hm
  go_enter Tryd.func10, Tryd.ntmps10
  go_wp2_with (first
    | (go_at_call 12; ((with_reducible refine (shown_fr w _ ht (by assumption)).mono ?_); rintro e w1 ⟨rfl, h1⟩))
    | (go_at_call 15; ((with_reducible refine (neg_any _ _ (by first | assumption | exact i64_add _ _ | exact i64_mul _ _ | exact i64_neg _ | exact i64_sub _ _ | exact i64_01 _ | exact i64_and _ _ | exact i64_or _ _ | exact i64_div _ _ | decide)).mono ?_); rintro e w1 ⟨rfl, rfl⟩))
    | (go_at_call 19; ((with_reducible refine (mul_any _ _ _ (by first | assumption | exact i64_add _ _ | exact i64_mul _ _ | exact i64_neg _ | exact i64_sub _ _ | exact i64_01 _ | exact i64_and _ _ | exact i64_or _ _ | exact i64_div _ _ | decide) (by first | assumption | exact i64_add _ _ | exact i64_mul _ _ | exact i64_neg _ | exact i64_sub _ _ | exact i64_01 _ | exact i64_and _ _ | exact i64_or _ _ | exact i64_div _ _ | decide)).mono ?_); rintro e w1 ⟨rfl, rfl⟩))
    | (go_at_call 17; ((with_reducible refine (add_any _ _ _ (by first | assumption | exact i64_add _ _ | exact i64_mul _ _ | exact i64_neg _ | exact i64_sub _ _ | exact i64_01 _ | exact i64_and _ _ | exact i64_or _ _ | exact i64_div _ _ | decide) (by first | assumption | exact i64_add _ _ | exact i64_mul _ _ | exact i64_neg _ | exact i64_sub _ _ | exact i64_01 _ | exact i64_and _ _ | exact i64_or _ _ | exact i64_div _ _ | decide)).mono ?_); rintro e w1 ⟨rfl, rfl⟩))
    | (go_at_call 18; ((with_reducible refine (sub_any _ _ _ (by first | assumption | exact i64_add _ _ | exact i64_mul _ _ | exact i64_neg _ | exact i64_sub _ _ | exact i64_01 _ | exact i64_and _ _ | exact i64_or _ _ | exact i64_div _ _ | decide) (by first | assumption | exact i64_add _ _ | exact i64_mul _ _ | exact i64_neg _ | exact i64_sub _ _ | exact i64_01 _ | exact i64_and _ _ | exact i64_or _ _ | exact i64_div _ _ | decide)).mono ?_); rintro e w1 ⟨rfl, rfl⟩))
    | (go_at_call 20; ((with_reducible refine (div_any _ _ _ (by first | assumption | exact i64_add _ _ | exact i64_mul _ _ | exact i64_neg _ | exact i64_sub _ _ | exact i64_01 _ | exact i64_and _ _ | exact i64_or _ _ | exact i64_div _ _ | decide) (by first | assumption | exact i64_add _ _ | exact i64_mul _ _ | exact i64_neg _ | exact i64_sub _ _ | exact i64_01 _ | exact i64_and _ _ | exact i64_or _ _ | exact i64_div _ _ | decide)).mono ?_); rintro e w1 ⟨rfl, rfl⟩))
    | (go_at_call 21; ((with_reducible refine (mod_any _ _ _ (by first | assumption | exact i64_add _ _ | exact i64_mul _ _ | exact i64_neg _ | exact i64_sub _ _ | exact i64_01 _ | exact i64_and _ _ | exact i64_or _ _ | exact i64_div _ _ | decide) (by first | assumption | exact i64_add _ _ | exact i64_mul _ _ | exact i64_neg _ | exact i64_sub _ _ | exact i64_01 _ | exact i64_and _ _ | exact i64_or _ _ | exact i64_div _ _ | decide)).mono ?_); rintro e w1 ⟨rfl, rfl⟩)))
  go_ret
  exact ⟨rfl, by assumption⟩

set_option maxHeartbeats 2000000 in
set_option maxRecDepth 100000 in
theorem signs_3 (a b : Int) (w : World) (ha : I64 a) (hb : I64 b) (hz : b < 0 ∨ 0 < b) (hl : -9223372036854775807 ≤ a) (hm : -9223372036854775807 ≤ b) (ht : Tab w) :
    Calls Tryd.prog 10 #[.int .i64 a, .int .i64 b] w fun e w' => e = .returned (.bool true) ∧ Fr w w' := by
  have h := Fr.refl w
  have g1 : (gNeg (gMul a b) != gMul (gNeg a) b) = false := bne_eq_false_iff_eq.2 (neg_mul a b)
  have g2 : (gNeg (gAdd a b) != gSub (gNeg a) b) = false := bne_eq_false_iff_eq.2 (neg_add a b)
  have g3 : (b == 0) = false := beq_eq_false_iff_ne.2 (by omega)
  have g4 : (a == -9223372036854775808) = false := beq_eq_false_iff_ne.2 (by omega)
  have g5 : (b == -9223372036854775808) = false := beq_eq_false_iff_ne.2 (by omega)
  have hs := signs_of ha hb (by omega) hl hm
  obtain ⟨s1, s2, s3, s4, s5, s6, s7, s8⟩ := hs
  have z1 : nz b = true := nz_1 (by omega)
  have z2 : nz (gNeg b) = true := nz_1 (by rw [s8]; omega)
  have t1 : (gDiv (gNeg a) b == -gDiv a b) = true := beq_iff_eq.2 s3
  have t2 : (gMod (gNeg a) b == -gMod a b) = true := beq_iff_eq.2 s4
  have t3 : (gDiv a (gNeg b) == -gDiv a b) = true := beq_iff_eq.2 s5
  have t4 : (gMod a (gNeg b) == gMod a b) = true := beq_iff_eq.2 s6
  clear hz s3 s4 s5 s6 s7 s8
  obtain ⟨s1, s1'⟩ := s1
  obtain ⟨s2, s2'⟩ := s2
  go_enter Tryd.func10, Tryd.ntmps10
  go_wp2_with (first
    | (go_at_call 12; ((with_reducible refine (shown_fr w _ ht (by assumption)).mono ?_); rintro e w1 ⟨rfl, h1⟩))
    | (go_at_call 15; ((with_reducible refine (neg_any _ _ (by first | assumption | exact i64_add _ _ | exact i64_mul _ _ | exact i64_neg _ | exact i64_sub _ _ | exact i64_01 _ | exact i64_and _ _ | exact i64_or _ _ | exact i64_div _ _ | decide)).mono ?_); rintro e w1 ⟨rfl, rfl⟩))
    | (go_at_call 19; ((with_reducible refine (mul_any _ _ _ (by first | assumption | exact i64_add _ _ | exact i64_mul _ _ | exact i64_neg _ | exact i64_sub _ _ | exact i64_01 _ | exact i64_and _ _ | exact i64_or _ _ | exact i64_div _ _ | decide) (by first | assumption | exact i64_add _ _ | exact i64_mul _ _ | exact i64_neg _ | exact i64_sub _ _ | exact i64_01 _ | exact i64_and _ _ | exact i64_or _ _ | exact i64_div _ _ | decide)).mono ?_); rintro e w1 ⟨rfl, rfl⟩))
    | (go_at_call 17; ((with_reducible refine (add_any _ _ _ (by first | assumption | exact i64_add _ _ | exact i64_mul _ _ | exact i64_neg _ | exact i64_sub _ _ | exact i64_01 _ | exact i64_and _ _ | exact i64_or _ _ | exact i64_div _ _ | decide) (by first | assumption | exact i64_add _ _ | exact i64_mul _ _ | exact i64_neg _ | exact i64_sub _ _ | exact i64_01 _ | exact i64_and _ _ | exact i64_or _ _ | exact i64_div _ _ | decide)).mono ?_); rintro e w1 ⟨rfl, rfl⟩))
    | (go_at_call 18; ((with_reducible refine (sub_any _ _ _ (by first | assumption | exact i64_add _ _ | exact i64_mul _ _ | exact i64_neg _ | exact i64_sub _ _ | exact i64_01 _ | exact i64_and _ _ | exact i64_or _ _ | exact i64_div _ _ | decide) (by first | assumption | exact i64_add _ _ | exact i64_mul _ _ | exact i64_neg _ | exact i64_sub _ _ | exact i64_01 _ | exact i64_and _ _ | exact i64_or _ _ | exact i64_div _ _ | decide)).mono ?_); rintro e w1 ⟨rfl, rfl⟩))
    | (go_at_call 20; ((with_reducible refine (div_any _ _ _ (by first | assumption | exact i64_add _ _ | exact i64_mul _ _ | exact i64_neg _ | exact i64_sub _ _ | exact i64_01 _ | exact i64_and _ _ | exact i64_or _ _ | exact i64_div _ _ | decide) (by first | assumption | exact i64_add _ _ | exact i64_mul _ _ | exact i64_neg _ | exact i64_sub _ _ | exact i64_01 _ | exact i64_and _ _ | exact i64_or _ _ | exact i64_div _ _ | decide)).mono ?_); rintro e w1 ⟨rfl, rfl⟩))
    | (go_at_call 21; ((with_reducible refine (mod_any _ _ _ (by first | assumption | exact i64_add _ _ | exact i64_mul _ _ | exact i64_neg _ | exact i64_sub _ _ | exact i64_01 _ | exact i64_and _ _ | exact i64_or _ _ | exact i64_div _ _ | decide) (by first | assumption | exact i64_add _ _ | exact i64_mul _ _ | exact i64_neg _ | exact i64_sub _ _ | exact i64_01 _ | exact i64_and _ _ | exact i64_or _ _ | exact i64_div _ _ | decide)).mono ?_); rintro e w1 ⟨rfl, rfl⟩)))
  go_ret
  exact ⟨rfl, by assumption⟩

theorem signs_walk (a b : Int) (w : World) (ha : I64 a) (hb : I64 b) (ht : Tab w) :
    Calls Tryd.prog 10 #[.int .i64 a, .int .i64 b] w fun e w' => e = .returned (.bool true) ∧ Fr w w' := by
  have ha' := ha
  have hb' := hb
  unfold I64 at ha' hb'
  by_cases hz : b = 0
  · exact signs_0 a b w ha hb hz ht
  · by_cases hl : a = -9223372036854775808
    · exact signs_1 a b w ha hb (by omega) hl ht
    · by_cases hm : b = -9223372036854775808
      · exact signs_2 a b w ha hb (by omega) hm ht
      · exact signs_3 a b w ha hb (by omega) (by omega) (by omega) ht

end Go.Proofs.YtnlljcbpjhhloaaDoor
