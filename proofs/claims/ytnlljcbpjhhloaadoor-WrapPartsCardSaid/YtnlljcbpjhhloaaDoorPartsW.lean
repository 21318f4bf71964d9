/-
  WrapParts: for every two numbers the statement's function tells true. The walk.
-/
import Derived.Test.YtnlljcbpjhhloaaDoorShown
import Derived.Test.YtnlljcbpjhhloaaDoorNums
namespace Go.Proofs.YtnlljcbpjhhloaaDoor
open Go Go.RowKit Go.Lib

set_option maxHeartbeats 2000000 in
set_option maxRecDepth 100000 in
theorem parts_0 (a b : Int) (w : World) (ha : I64 a) (hb : I64 b) (hz : b = 0) (ht : Tab w) :
    Calls Tryd.prog 6 #[.int .i64 a, .int .i64 b] w fun e w' => e = .returned (.bool true) ∧ Fr w w' := by
  have h := Fr.refl w
  subst hz
  have q1 : gDiv a 0 = 0 := rfl
  have q2 : gMod a 0 = 0 := rfl
  have q3 : nz 0 = false := rfl
  go_enter Tryd.func6, Tryd.ntmps6
  go_wp2_with (first
    | (go_at_call 12; ((with_reducible refine (shown_fr w _ ht (by assumption)).mono ?_); rintro e w1 ⟨rfl, h1⟩))
    | (go_at_call 20; ((with_reducible refine (div_any _ _ _ (by first | assumption | exact i64_add _ _ | exact i64_mul _ _ | exact i64_neg _ | exact i64_sub _ _ | exact i64_01 _ | exact i64_and _ _ | exact i64_or _ _ | exact i64_div _ _ | decide) (by first | assumption | exact i64_add _ _ | exact i64_mul _ _ | exact i64_neg _ | exact i64_sub _ _ | exact i64_01 _ | exact i64_and _ _ | exact i64_or _ _ | exact i64_div _ _ | decide)).mono ?_); rintro e w1 ⟨rfl, rfl⟩))
    | (go_at_call 21; ((with_reducible refine (mod_any _ _ _ (by first | assumption | exact i64_add _ _ | exact i64_mul _ _ | exact i64_neg _ | exact i64_sub _ _ | exact i64_01 _ | exact i64_and _ _ | exact i64_or _ _ | exact i64_div _ _ | decide) (by first | assumption | exact i64_add _ _ | exact i64_mul _ _ | exact i64_neg _ | exact i64_sub _ _ | exact i64_01 _ | exact i64_and _ _ | exact i64_or _ _ | exact i64_div _ _ | decide)).mono ?_); rintro e w1 ⟨rfl, rfl⟩)))
  go_ret
  exact ⟨rfl, by assumption⟩

set_option maxHeartbeats 4000000 in
set_option maxRecDepth 100000 in
theorem parts_1 (a b q r : Int) (w : World) (ha : I64 a) (hb : I64 b) (h0 : b < 0 ∨ 0 < b) (hq : Hid (gDiv a b = q)) (hr : Hid (gMod a b = r)) (ht : Tab w) :
    Calls Tryd.prog 6 #[.int .i64 a, .int .i64 b] w fun e w' => e = .returned (.bool true) ∧ Fr w w' := by
  have hfr := Fr.refl w
  have q1 : nz b = true := nz_1 (by omega)
  have q2 : (b == 0) = false := beq_eq_false_iff_ne.2 (by omega)
  have q3 : (gAdd (gMul q b) r != a) = false := bne_eq_false_iff_eq.2 (by rw [← hq.out, ← hr.out]; exact div_mod a b ha (by omega))
  have q4 : a = 0 → q = 0 := by rw [← hq.out]; exact div_zero' a b
  have hn : (0 < b → -b < r ∧ r < b) ∧ (b < 0 → b < r ∧ r < -b) ∧ (0 < r → 0 < a) ∧ (r < 0 → a < 0) := by
    rw [← hr.out, mod_of (show b ≠ 0 by omega)]; exact tmod_near a b (by omega)
  have hb' := hb
  have ha' := ha
  have hq' : I64 q := by rw [← hq.out]; exact i64_div _ _
  have hr' : I64 r := by rw [← hr.out]; exact i64_mod _ _ hb
  unfold I64 at hb' ha'
  obtain ⟨b1, b2⟩ := hb'
  obtain ⟨a1, a2⟩ := ha'
  obtain ⟨n1, n2, n3, n4⟩ := hn
  have r1 : -9223372036854775808 < r := by omega
  have r2 : r ≤ 9223372036854775807 := by omega
  have N1 := Lib.hid n1; have N2 := Lib.hid n2; have N3 := Lib.hid n3; have N4 := Lib.hid n4
  have hqa : (q == 0 || a != 0) = true := by
    by_cases e : a = 0
    · rw [q4 e]; rfl
    · rw [bne_iff_ne.2 e, Bool.or_true]
  have HQ := Lib.hid hqa
  clear hqa
  have H0 := Lib.hid h0
  clear n1 n2 n3 n4 q4 h0
  go_enter Tryd.func6, Tryd.ntmps6
  go_wp2_with (first
    | (go_at_call 12; ((with_reducible refine (shown_fr w _ ht (by assumption)).mono ?_); rintro e w1 ⟨rfl, h1⟩))
    | (go_at_call 20; ((with_reducible refine (div_any _ _ _ (by assumption) (by assumption)).mono ?_); rw [hq.out]; rintro e w1 ⟨rfl, rfl⟩))
    | (go_at_call 21; ((with_reducible refine (mod_any _ _ _ (by assumption) (by assumption)).mono ?_); rw [hr.out]; rintro e w1 ⟨rfl, rfl⟩))
    | (go_at_call 17; ((with_reducible refine (add_any _ _ _ (by first | assumption | exact i64_add _ _ | exact i64_mul _ _ | exact i64_neg _ | exact i64_sub _ _ | exact i64_01 _ | exact i64_and _ _ | exact i64_or _ _ | exact i64_div _ _ | decide) (by first | assumption | exact i64_add _ _ | exact i64_mul _ _ | exact i64_neg _ | exact i64_sub _ _ | exact i64_01 _ | exact i64_and _ _ | exact i64_or _ _ | exact i64_div _ _ | decide)).mono ?_); rintro e w1 ⟨rfl, rfl⟩))
    | (go_at_call 19; ((with_reducible refine (mul_any _ _ _ (by first | assumption | exact i64_add _ _ | exact i64_mul _ _ | exact i64_neg _ | exact i64_sub _ _ | exact i64_01 _ | exact i64_and _ _ | exact i64_or _ _ | exact i64_div _ _ | decide) (by first | assumption | exact i64_add _ _ | exact i64_mul _ _ | exact i64_neg _ | exact i64_sub _ _ | exact i64_01 _ | exact i64_and _ _ | exact i64_or _ _ | exact i64_div _ _ | decide)).mono ?_); rintro e w1 ⟨rfl, rfl⟩)))
  all_goals first
    | (exfalso; have n1 := N1.out; have n2 := N2.out; have n3 := N3.out; have n4 := N4.out; have h0 := H0.out; omega)
    | (go_ret; exact ⟨rfl, by assumption⟩)
    | (go_ret; exact ⟨congrArg (fun x => Ending.returned (Value.bool x)) HQ.out, by assumption⟩)

theorem parts_walk (a b : Int) (w : World) (ha : I64 a) (hb : I64 b) (ht : Tab w) :
    Calls Tryd.prog 6 #[.int .i64 a, .int .i64 b] w fun e w' => e = .returned (.bool true) ∧ Fr w w' := by
  by_cases hz : b = 0
  · exact parts_0 a b w ha hb hz ht
  · exact parts_1 a b _ _ w ha hb (by omega) (Lib.hid rfl) (Lib.hid rfl) ht

end Go.Proofs.YtnlljcbpjhhloaaDoor
