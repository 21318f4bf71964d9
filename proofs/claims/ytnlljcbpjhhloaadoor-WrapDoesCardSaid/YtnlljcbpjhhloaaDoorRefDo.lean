/-
  The contract of the document's own Do (package evenhandref01): it tells what the plain functions say.
-/
import Derived.Test.YtnlljcbpjhhloaaDoorRef
import Derived.Test.YtnlljcbpjhhloaaDoorDo
namespace Go.Proofs.YtnlljcbpjhhloaaDoor
open Go Go.RowKit Go.Lib

set_option maxRecDepth 100000 in
theorem rdo_other (op a b : Int) (w : World) (h : op < 6 ∨ 16 < op) :
    Calls Tryd.prog 14 #[.int .i64 op, .int .i64 a, .int .i64 b] w fun e w' => e = .returned (.tuple #[.int .i64 (doV op a b), .bool (doOk op b)]) ∧ w = w' := by
  obtain ⟨e1, e2⟩ := do_none a b h
  rw [e1, e2]
  clear e1 e2
  have n6 : (op == 6) = false := by simp; omega
  have n7 : (op == 7) = false := by simp; omega
  have n8 : (op == 8) = false := by simp; omega
  have n9 : (op == 9) = false := by simp; omega
  have n10 : (op == 10) = false := by simp; omega
  have n11 : (op == 11) = false := by simp; omega
  have n12 : (op == 12) = false := by simp; omega
  have n13 : (op == 13) = false := by simp; omega
  have n14 : (op == 14) = false := by simp; omega
  have n15 : (op == 15) = false := by simp; omega
  have n16 : (op == 16) = false := by simp; omega
  clear h
  go_enter Tryd.func14, Tryd.ntmps14
  go_wp2
  go_ret2
  exact ⟨rfl, rfl⟩

theorem ret_num {a a' : Int} (h : a = a') (p : Bool) : Ending.returned (.tuple #[.int .i64 a, .bool p]) = Ending.returned (.tuple #[.int .i64 a', .bool p]) := by rw [h]

set_option maxHeartbeats 1000000 in
set_option maxRecDepth 100000 in
theorem rdo_6 (a b : Int) (w : World) (ha : I64 a) (hb : I64 b) :
    Calls Tryd.prog 14 #[.int .i64 6, .int .i64 a, .int .i64 b] w fun e w' => e = .returned (.tuple #[.int .i64 (gNeg a), .bool true]) ∧ w = w' := by
  have ha' := ha
  have hb' := hb
  unfold I64 at ha' hb'
  obtain ⟨a0, a1⟩ := ha'
  obtain ⟨b0, b1⟩ := hb'
  go_enter Tryd.func14, Tryd.ntmps14
  go_wp2_with (first
    | (go_at_call 32; ((with_reducible refine (plus_any _ _ _ (by exact u64_uw _) (by exact u64_uw _)).mono ?_); rintro e w1 ⟨rfl, rfl⟩))
    | (go_at_call 30; ((with_reducible refine (minus_any _ _ _ (by first | exact u64_uw _ | exact u64_add _ _ | decide) (by first | exact u64_uw _ | exact u64_bits _ _ _)).mono ?_); rintro e w1 ⟨rfl, rfl⟩))
    | (go_at_call 33; ((with_reducible refine (times_any _ _ _ (by exact u64_uw _) (by exact u64_uw _)).mono ?_); rintro e w1 ⟨rfl, rfl⟩))
    | (go_at_call 31; ((with_reducible refine (one_any _ _).mono ?_); rintro e w1 ⟨rfl, rfl⟩))
    | (go_at_call 34; ((with_reducible refine (size_any _ _ (by assumption)).mono ?_); rintro e w1 ⟨rfl, rfl⟩)))
  go_ret2
  exact ⟨ret_num (r6 a) _, rfl⟩

set_option maxHeartbeats 1000000 in
set_option maxRecDepth 100000 in
theorem rdo_7 (a b : Int) (w : World) (ha : I64 a) (hb : I64 b) :
    Calls Tryd.prog 14 #[.int .i64 7, .int .i64 a, .int .i64 b] w fun e w' => e = .returned (.tuple #[.int .i64 (gNot a), .bool true]) ∧ w = w' := by
  have ha' := ha
  have hb' := hb
  unfold I64 at ha' hb'
  obtain ⟨a0, a1⟩ := ha'
  obtain ⟨b0, b1⟩ := hb'
  go_enter Tryd.func14, Tryd.ntmps14
  go_wp2_with (first
    | (go_at_call 32; ((with_reducible refine (plus_any _ _ _ (by exact u64_uw _) (by exact u64_uw _)).mono ?_); rintro e w1 ⟨rfl, rfl⟩))
    | (go_at_call 30; ((with_reducible refine (minus_any _ _ _ (by first | exact u64_uw _ | exact u64_add _ _ | decide) (by first | exact u64_uw _ | exact u64_bits _ _ _)).mono ?_); rintro e w1 ⟨rfl, rfl⟩))
    | (go_at_call 33; ((with_reducible refine (times_any _ _ _ (by exact u64_uw _) (by exact u64_uw _)).mono ?_); rintro e w1 ⟨rfl, rfl⟩))
    | (go_at_call 31; ((with_reducible refine (one_any _ _).mono ?_); rintro e w1 ⟨rfl, rfl⟩))
    | (go_at_call 34; ((with_reducible refine (size_any _ _ (by assumption)).mono ?_); rintro e w1 ⟨rfl, rfl⟩)))
  go_ret2
  exact ⟨ret_num (r7 ha) _, rfl⟩

set_option maxHeartbeats 1000000 in
set_option maxRecDepth 100000 in
theorem rdo_8 (a b : Int) (w : World) (ha : I64 a) (hb : I64 b) :
    Calls Tryd.prog 14 #[.int .i64 8, .int .i64 a, .int .i64 b] w fun e w' => e = .returned (.tuple #[.int .i64 (gAdd a b), .bool true]) ∧ w = w' := by
  have ha' := ha
  have hb' := hb
  unfold I64 at ha' hb'
  obtain ⟨a0, a1⟩ := ha'
  obtain ⟨b0, b1⟩ := hb'
  go_enter Tryd.func14, Tryd.ntmps14
  go_wp2_with (first
    | (go_at_call 32; ((with_reducible refine (plus_any _ _ _ (by exact u64_uw _) (by exact u64_uw _)).mono ?_); rintro e w1 ⟨rfl, rfl⟩))
    | (go_at_call 30; ((with_reducible refine (minus_any _ _ _ (by first | exact u64_uw _ | exact u64_add _ _ | decide) (by first | exact u64_uw _ | exact u64_bits _ _ _)).mono ?_); rintro e w1 ⟨rfl, rfl⟩))
    | (go_at_call 33; ((with_reducible refine (times_any _ _ _ (by exact u64_uw _) (by exact u64_uw _)).mono ?_); rintro e w1 ⟨rfl, rfl⟩))
    | (go_at_call 31; ((with_reducible refine (one_any _ _).mono ?_); rintro e w1 ⟨rfl, rfl⟩))
    | (go_at_call 34; ((with_reducible refine (size_any _ _ (by assumption)).mono ?_); rintro e w1 ⟨rfl, rfl⟩)))
  go_ret2
  exact ⟨ret_num (r8 a b) _, rfl⟩

set_option maxHeartbeats 1000000 in
set_option maxRecDepth 100000 in
theorem rdo_9 (a b : Int) (w : World) (ha : I64 a) (hb : I64 b) :
    Calls Tryd.prog 14 #[.int .i64 9, .int .i64 a, .int .i64 b] w fun e w' => e = .returned (.tuple #[.int .i64 (gSub a b), .bool true]) ∧ w = w' := by
  have ha' := ha
  have hb' := hb
  unfold I64 at ha' hb'
  obtain ⟨a0, a1⟩ := ha'
  obtain ⟨b0, b1⟩ := hb'
  go_enter Tryd.func14, Tryd.ntmps14
  go_wp2_with (first
    | (go_at_call 32; ((with_reducible refine (plus_any _ _ _ (by exact u64_uw _) (by exact u64_uw _)).mono ?_); rintro e w1 ⟨rfl, rfl⟩))
    | (go_at_call 30; ((with_reducible refine (minus_any _ _ _ (by first | exact u64_uw _ | exact u64_add _ _ | decide) (by first | exact u64_uw _ | exact u64_bits _ _ _)).mono ?_); rintro e w1 ⟨rfl, rfl⟩))
    | (go_at_call 33; ((with_reducible refine (times_any _ _ _ (by exact u64_uw _) (by exact u64_uw _)).mono ?_); rintro e w1 ⟨rfl, rfl⟩))
    | (go_at_call 31; ((with_reducible refine (one_any _ _).mono ?_); rintro e w1 ⟨rfl, rfl⟩))
    | (go_at_call 34; ((with_reducible refine (size_any _ _ (by assumption)).mono ?_); rintro e w1 ⟨rfl, rfl⟩)))
  go_ret2
  exact ⟨ret_num (r9 a b) _, rfl⟩

set_option maxHeartbeats 1000000 in
set_option maxRecDepth 100000 in
theorem rdo_10 (a b : Int) (w : World) (ha : I64 a) (hb : I64 b) :
    Calls Tryd.prog 14 #[.int .i64 10, .int .i64 a, .int .i64 b] w fun e w' => e = .returned (.tuple #[.int .i64 (gMul a b), .bool true]) ∧ w = w' := by
  have ha' := ha
  have hb' := hb
  unfold I64 at ha' hb'
  obtain ⟨a0, a1⟩ := ha'
  obtain ⟨b0, b1⟩ := hb'
  go_enter Tryd.func14, Tryd.ntmps14
  go_wp2_with (first
    | (go_at_call 32; ((with_reducible refine (plus_any _ _ _ (by exact u64_uw _) (by exact u64_uw _)).mono ?_); rintro e w1 ⟨rfl, rfl⟩))
    | (go_at_call 30; ((with_reducible refine (minus_any _ _ _ (by first | exact u64_uw _ | exact u64_add _ _ | decide) (by first | exact u64_uw _ | exact u64_bits _ _ _)).mono ?_); rintro e w1 ⟨rfl, rfl⟩))
    | (go_at_call 33; ((with_reducible refine (times_any _ _ _ (by exact u64_uw _) (by exact u64_uw _)).mono ?_); rintro e w1 ⟨rfl, rfl⟩))
    | (go_at_call 31; ((with_reducible refine (one_any _ _).mono ?_); rintro e w1 ⟨rfl, rfl⟩))
    | (go_at_call 34; ((with_reducible refine (size_any _ _ (by assumption)).mono ?_); rintro e w1 ⟨rfl, rfl⟩)))
  go_ret2
  exact ⟨ret_num (r10 a b) _, rfl⟩

set_option maxHeartbeats 1000000 in
set_option maxRecDepth 100000 in
theorem rdo_13 (a b : Int) (w : World) (ha : I64 a) (hb : I64 b) :
    Calls Tryd.prog 14 #[.int .i64 13, .int .i64 a, .int .i64 b] w fun e w' => e = .returned (.tuple #[.int .i64 (gLess a b), .bool true]) ∧ w = w' := by
  have ha' := ha
  have hb' := hb
  unfold I64 at ha' hb'
  obtain ⟨a0, a1⟩ := ha'
  obtain ⟨b0, b1⟩ := hb'
  go_enter Tryd.func14, Tryd.ntmps14
  go_wp2_with (first
    | (go_at_call 32; ((with_reducible refine (plus_any _ _ _ (by exact u64_uw _) (by exact u64_uw _)).mono ?_); rintro e w1 ⟨rfl, rfl⟩))
    | (go_at_call 30; ((with_reducible refine (minus_any _ _ _ (by first | exact u64_uw _ | exact u64_add _ _ | decide) (by first | exact u64_uw _ | exact u64_bits _ _ _)).mono ?_); rintro e w1 ⟨rfl, rfl⟩))
    | (go_at_call 33; ((with_reducible refine (times_any _ _ _ (by exact u64_uw _) (by exact u64_uw _)).mono ?_); rintro e w1 ⟨rfl, rfl⟩))
    | (go_at_call 31; ((with_reducible refine (one_any _ _).mono ?_); rintro e w1 ⟨rfl, rfl⟩))
    | (go_at_call 34; ((with_reducible refine (size_any _ _ (by assumption)).mono ?_); rintro e w1 ⟨rfl, rfl⟩)))
  go_ret2
  exact ⟨ret_num (r13 ha hb) _, rfl⟩

set_option maxHeartbeats 1000000 in
set_option maxRecDepth 100000 in
theorem rdo_14 (a b : Int) (w : World) (ha : I64 a) (hb : I64 b) :
    Calls Tryd.prog 14 #[.int .i64 14, .int .i64 a, .int .i64 b] w fun e w' => e = .returned (.tuple #[.int .i64 (gSame a b), .bool true]) ∧ w = w' := by
  have ha' := ha
  have hb' := hb
  unfold I64 at ha' hb'
  obtain ⟨a0, a1⟩ := ha'
  obtain ⟨b0, b1⟩ := hb'
  go_enter Tryd.func14, Tryd.ntmps14
  go_wp2_with (first
    | (go_at_call 32; ((with_reducible refine (plus_any _ _ _ (by exact u64_uw _) (by exact u64_uw _)).mono ?_); rintro e w1 ⟨rfl, rfl⟩))
    | (go_at_call 30; ((with_reducible refine (minus_any _ _ _ (by first | exact u64_uw _ | exact u64_add _ _ | decide) (by first | exact u64_uw _ | exact u64_bits _ _ _)).mono ?_); rintro e w1 ⟨rfl, rfl⟩))
    | (go_at_call 33; ((with_reducible refine (times_any _ _ _ (by exact u64_uw _) (by exact u64_uw _)).mono ?_); rintro e w1 ⟨rfl, rfl⟩))
    | (go_at_call 31; ((with_reducible refine (one_any _ _).mono ?_); rintro e w1 ⟨rfl, rfl⟩))
    | (go_at_call 34; ((with_reducible refine (size_any _ _ (by assumption)).mono ?_); rintro e w1 ⟨rfl, rfl⟩)))
  go_ret2
  exact ⟨ret_num (r14 ha hb) _, rfl⟩

set_option maxHeartbeats 1000000 in
set_option maxRecDepth 100000 in
theorem rdo_15 (a b : Int) (w : World) (ha : I64 a) (hb : I64 b) :
    Calls Tryd.prog 14 #[.int .i64 15, .int .i64 a, .int .i64 b] w fun e w' => e = .returned (.tuple #[.int .i64 (gAnd a b), .bool true]) ∧ w = w' := by
  have ha' := ha
  have hb' := hb
  unfold I64 at ha' hb'
  obtain ⟨a0, a1⟩ := ha'
  obtain ⟨b0, b1⟩ := hb'
  go_enter Tryd.func14, Tryd.ntmps14
  go_wp2_with (first
    | (go_at_call 32; ((with_reducible refine (plus_any _ _ _ (by exact u64_uw _) (by exact u64_uw _)).mono ?_); rintro e w1 ⟨rfl, rfl⟩))
    | (go_at_call 30; ((with_reducible refine (minus_any _ _ _ (by first | exact u64_uw _ | exact u64_add _ _ | decide) (by first | exact u64_uw _ | exact u64_bits _ _ _)).mono ?_); rintro e w1 ⟨rfl, rfl⟩))
    | (go_at_call 33; ((with_reducible refine (times_any _ _ _ (by exact u64_uw _) (by exact u64_uw _)).mono ?_); rintro e w1 ⟨rfl, rfl⟩))
    | (go_at_call 31; ((with_reducible refine (one_any _ _).mono ?_); rintro e w1 ⟨rfl, rfl⟩))
    | (go_at_call 34; ((with_reducible refine (size_any _ _ (by assumption)).mono ?_); rintro e w1 ⟨rfl, rfl⟩)))
  go_ret2
  exact ⟨ret_num (r15 a b) _, rfl⟩

set_option maxHeartbeats 1000000 in
set_option maxRecDepth 100000 in
theorem rdo_16 (a b : Int) (w : World) (ha : I64 a) (hb : I64 b) :
    Calls Tryd.prog 14 #[.int .i64 16, .int .i64 a, .int .i64 b] w fun e w' => e = .returned (.tuple #[.int .i64 (gOr a b), .bool true]) ∧ w = w' := by
  have ha' := ha
  have hb' := hb
  unfold I64 at ha' hb'
  obtain ⟨a0, a1⟩ := ha'
  obtain ⟨b0, b1⟩ := hb'
  go_enter Tryd.func14, Tryd.ntmps14
  go_wp2_with (first
    | (go_at_call 32; ((with_reducible refine (plus_any _ _ _ (by exact u64_uw _) (by exact u64_uw _)).mono ?_); rintro e w1 ⟨rfl, rfl⟩))
    | (go_at_call 30; ((with_reducible refine (minus_any _ _ _ (by first | exact u64_uw _ | exact u64_add _ _ | decide) (by first | exact u64_uw _ | exact u64_bits _ _ _)).mono ?_); rintro e w1 ⟨rfl, rfl⟩))
    | (go_at_call 33; ((with_reducible refine (times_any _ _ _ (by exact u64_uw _) (by exact u64_uw _)).mono ?_); rintro e w1 ⟨rfl, rfl⟩))
    | (go_at_call 31; ((with_reducible refine (one_any _ _).mono ?_); rintro e w1 ⟨rfl, rfl⟩))
    | (go_at_call 34; ((with_reducible refine (size_any _ _ (by assumption)).mono ?_); rintro e w1 ⟨rfl, rfl⟩)))
  go_ret2
  exact ⟨ret_num (r16 a b) _, rfl⟩

set_option maxRecDepth 100000 in
theorem rdo_11_0 (a : Int) (w : World) :
    Calls Tryd.prog 14 #[.int .i64 11, .int .i64 a, .int .i64 0] w fun e w' => e = .returned (.tuple #[.int .i64 0, .bool false]) ∧ w = w' := by
  go_enter Tryd.func14, Tryd.ntmps14
  go_wp2
  go_ret2
  exact ⟨rfl, rfl⟩

set_option maxHeartbeats 1000000 in
set_option maxRecDepth 100000 in
theorem rdo_11_1 (a b : Int) (w : World) (ha : I64 a) (hb : I64 b) (hz : b ≠ 0) (hsa : decide (a < 0) = true) (hsb : decide (b < 0) = true) :
    Calls Tryd.prog 14 #[.int .i64 11, .int .i64 a, .int .i64 b] w fun e w' => e = .returned (.tuple #[.int .i64 (gDiv a b), .bool true]) ∧ w = w' := by
  have hz1 : (b == 0) = false := beq_eq_false_iff_ne.2 hz
  have HZ := Lib.hid hz; clear hz
  have HA := Lib.hid hsa
  have HB := Lib.hid hsb
  go_enter Tryd.func14, Tryd.ntmps14
  go_wp2_with (first
    | (go_at_call 32; ((with_reducible refine (plus_any _ _ _ (by exact u64_uw _) (by exact u64_uw _)).mono ?_); rintro e w1 ⟨rfl, rfl⟩))
    | (go_at_call 30; ((with_reducible refine (minus_any _ _ _ (by first | exact u64_uw _ | exact u64_add _ _ | decide) (by first | exact u64_uw _ | exact u64_bits _ _ _)).mono ?_); rintro e w1 ⟨rfl, rfl⟩))
    | (go_at_call 33; ((with_reducible refine (times_any _ _ _ (by exact u64_uw _) (by exact u64_uw _)).mono ?_); rintro e w1 ⟨rfl, rfl⟩))
    | (go_at_call 31; ((with_reducible refine (one_any _ _).mono ?_); rintro e w1 ⟨rfl, rfl⟩))
    | (go_at_call 34; ((with_reducible refine (size_any _ _ (by assumption)).mono ?_); rintro e w1 ⟨rfl, rfl⟩))
    | (go_at_call 35; ((with_reducible refine (parted_any a b _ ha hb HZ.out).mono ?_); rintro e w1 ⟨rfl, rfl⟩))
    | (go_at_call 36; ((with_reducible refine (signed_any _ _ _ (by first | exact u64_div ha | exact u64_mod ha)).mono ?_); rintro e w1 ⟨rfl, rfl⟩)))
  go_ret2
  exact ⟨ret_num (div_sgn HZ.out _ (by rw [HA.out, HB.out]; rfl)) _, rfl⟩

set_option maxHeartbeats 1000000 in
set_option maxRecDepth 100000 in
theorem rdo_11_2 (a b : Int) (w : World) (ha : I64 a) (hb : I64 b) (hz : b ≠ 0) (hsa : decide (a < 0) = true) (hsb : decide (b < 0) = false) :
    Calls Tryd.prog 14 #[.int .i64 11, .int .i64 a, .int .i64 b] w fun e w' => e = .returned (.tuple #[.int .i64 (gDiv a b), .bool true]) ∧ w = w' := by
  have hz1 : (b == 0) = false := beq_eq_false_iff_ne.2 hz
  have HZ := Lib.hid hz; clear hz
  have HA := Lib.hid hsa
  have HB := Lib.hid hsb
  go_enter Tryd.func14, Tryd.ntmps14
  go_wp2_with (first
    | (go_at_call 32; ((with_reducible refine (plus_any _ _ _ (by exact u64_uw _) (by exact u64_uw _)).mono ?_); rintro e w1 ⟨rfl, rfl⟩))
    | (go_at_call 30; ((with_reducible refine (minus_any _ _ _ (by first | exact u64_uw _ | exact u64_add _ _ | decide) (by first | exact u64_uw _ | exact u64_bits _ _ _)).mono ?_); rintro e w1 ⟨rfl, rfl⟩))
    | (go_at_call 33; ((with_reducible refine (times_any _ _ _ (by exact u64_uw _) (by exact u64_uw _)).mono ?_); rintro e w1 ⟨rfl, rfl⟩))
    | (go_at_call 31; ((with_reducible refine (one_any _ _).mono ?_); rintro e w1 ⟨rfl, rfl⟩))
    | (go_at_call 34; ((with_reducible refine (size_any _ _ (by assumption)).mono ?_); rintro e w1 ⟨rfl, rfl⟩))
    | (go_at_call 35; ((with_reducible refine (parted_any a b _ ha hb HZ.out).mono ?_); rintro e w1 ⟨rfl, rfl⟩))
    | (go_at_call 36; ((with_reducible refine (signed_any _ _ _ (by first | exact u64_div ha | exact u64_mod ha)).mono ?_); rintro e w1 ⟨rfl, rfl⟩)))
  go_ret2
  exact ⟨ret_num (div_sgn HZ.out _ (by rw [HA.out, HB.out]; rfl)) _, rfl⟩

set_option maxHeartbeats 1000000 in
set_option maxRecDepth 100000 in
theorem rdo_11_3 (a b : Int) (w : World) (ha : I64 a) (hb : I64 b) (hz : b ≠ 0) (hsa : decide (a < 0) = false) (hsb : decide (b < 0) = true) :
    Calls Tryd.prog 14 #[.int .i64 11, .int .i64 a, .int .i64 b] w fun e w' => e = .returned (.tuple #[.int .i64 (gDiv a b), .bool true]) ∧ w = w' := by
  have hz1 : (b == 0) = false := beq_eq_false_iff_ne.2 hz
  have HZ := Lib.hid hz; clear hz
  have HA := Lib.hid hsa
  have HB := Lib.hid hsb
  go_enter Tryd.func14, Tryd.ntmps14
  go_wp2_with (first
    | (go_at_call 32; ((with_reducible refine (plus_any _ _ _ (by exact u64_uw _) (by exact u64_uw _)).mono ?_); rintro e w1 ⟨rfl, rfl⟩))
    | (go_at_call 30; ((with_reducible refine (minus_any _ _ _ (by first | exact u64_uw _ | exact u64_add _ _ | decide) (by first | exact u64_uw _ | exact u64_bits _ _ _)).mono ?_); rintro e w1 ⟨rfl, rfl⟩))
    | (go_at_call 33; ((with_reducible refine (times_any _ _ _ (by exact u64_uw _) (by exact u64_uw _)).mono ?_); rintro e w1 ⟨rfl, rfl⟩))
    | (go_at_call 31; ((with_reducible refine (one_any _ _).mono ?_); rintro e w1 ⟨rfl, rfl⟩))
    | (go_at_call 34; ((with_reducible refine (size_any _ _ (by assumption)).mono ?_); rintro e w1 ⟨rfl, rfl⟩))
    | (go_at_call 35; ((with_reducible refine (parted_any a b _ ha hb HZ.out).mono ?_); rintro e w1 ⟨rfl, rfl⟩))
    | (go_at_call 36; ((with_reducible refine (signed_any _ _ _ (by first | exact u64_div ha | exact u64_mod ha)).mono ?_); rintro e w1 ⟨rfl, rfl⟩)))
  go_ret2
  exact ⟨ret_num (div_sgn HZ.out _ (by rw [HA.out, HB.out]; rfl)) _, rfl⟩

set_option maxHeartbeats 1000000 in
set_option maxRecDepth 100000 in
theorem rdo_11_4 (a b : Int) (w : World) (ha : I64 a) (hb : I64 b) (hz : b ≠ 0) (hsa : decide (a < 0) = false) (hsb : decide (b < 0) = false) :
    Calls Tryd.prog 14 #[.int .i64 11, .int .i64 a, .int .i64 b] w fun e w' => e = .returned (.tuple #[.int .i64 (gDiv a b), .bool true]) ∧ w = w' := by
  have hz1 : (b == 0) = false := beq_eq_false_iff_ne.2 hz
  have HZ := Lib.hid hz; clear hz
  have HA := Lib.hid hsa
  have HB := Lib.hid hsb
  go_enter Tryd.func14, Tryd.ntmps14
  go_wp2_with (first
    | (go_at_call 32; ((with_reducible refine (plus_any _ _ _ (by exact u64_uw _) (by exact u64_uw _)).mono ?_); rintro e w1 ⟨rfl, rfl⟩))
    | (go_at_call 30; ((with_reducible refine (minus_any _ _ _ (by first | exact u64_uw _ | exact u64_add _ _ | decide) (by first | exact u64_uw _ | exact u64_bits _ _ _)).mono ?_); rintro e w1 ⟨rfl, rfl⟩))
    | (go_at_call 33; ((with_reducible refine (times_any _ _ _ (by exact u64_uw _) (by exact u64_uw _)).mono ?_); rintro e w1 ⟨rfl, rfl⟩))
    | (go_at_call 31; ((with_reducible refine (one_any _ _).mono ?_); rintro e w1 ⟨rfl, rfl⟩))
    | (go_at_call 34; ((with_reducible refine (size_any _ _ (by assumption)).mono ?_); rintro e w1 ⟨rfl, rfl⟩))
    | (go_at_call 35; ((with_reducible refine (parted_any a b _ ha hb HZ.out).mono ?_); rintro e w1 ⟨rfl, rfl⟩))
    | (go_at_call 36; ((with_reducible refine (signed_any _ _ _ (by first | exact u64_div ha | exact u64_mod ha)).mono ?_); rintro e w1 ⟨rfl, rfl⟩)))
  go_ret2
  exact ⟨ret_num (div_sgn HZ.out _ (by rw [HA.out, HB.out]; rfl)) _, rfl⟩

set_option maxRecDepth 100000 in
theorem rdo_12_0 (a : Int) (w : World) :
    Calls Tryd.prog 14 #[.int .i64 12, .int .i64 a, .int .i64 0] w fun e w' => e = .returned (.tuple #[.int .i64 0, .bool false]) ∧ w = w' := by
  go_enter Tryd.func14, Tryd.ntmps14
  go_wp2
  go_ret2
  exact ⟨rfl, rfl⟩

set_option maxHeartbeats 1000000 in
set_option maxRecDepth 100000 in
theorem rdo_12_1 (a b : Int) (w : World) (ha : I64 a) (hb : I64 b) (hz : b ≠ 0) (hsa : decide (a < 0) = true) (hsb : decide (b < 0) = true) :
    Calls Tryd.prog 14 #[.int .i64 12, .int .i64 a, .int .i64 b] w fun e w' => e = .returned (.tuple #[.int .i64 (gMod a b), .bool true]) ∧ w = w' := by
  have hz1 : (b == 0) = false := beq_eq_false_iff_ne.2 hz
  have HZ := Lib.hid hz; clear hz
  have HA := Lib.hid hsa
  have HB := Lib.hid hsb
  go_enter Tryd.func14, Tryd.ntmps14
  go_wp2_with (first
    | (go_at_call 32; ((with_reducible refine (plus_any _ _ _ (by exact u64_uw _) (by exact u64_uw _)).mono ?_); rintro e w1 ⟨rfl, rfl⟩))
    | (go_at_call 30; ((with_reducible refine (minus_any _ _ _ (by first | exact u64_uw _ | exact u64_add _ _ | decide) (by first | exact u64_uw _ | exact u64_bits _ _ _)).mono ?_); rintro e w1 ⟨rfl, rfl⟩))
    | (go_at_call 33; ((with_reducible refine (times_any _ _ _ (by exact u64_uw _) (by exact u64_uw _)).mono ?_); rintro e w1 ⟨rfl, rfl⟩))
    | (go_at_call 31; ((with_reducible refine (one_any _ _).mono ?_); rintro e w1 ⟨rfl, rfl⟩))
    | (go_at_call 34; ((with_reducible refine (size_any _ _ (by assumption)).mono ?_); rintro e w1 ⟨rfl, rfl⟩))
    | (go_at_call 35; ((with_reducible refine (parted_any a b _ ha hb HZ.out).mono ?_); rintro e w1 ⟨rfl, rfl⟩))
    | (go_at_call 36; ((with_reducible refine (signed_any _ _ _ (by first | exact u64_div ha | exact u64_mod ha)).mono ?_); rintro e w1 ⟨rfl, rfl⟩)))
  go_ret2
  exact ⟨ret_num (mod_sgn hb HZ.out _ HA.out) _, rfl⟩

set_option maxHeartbeats 1000000 in
set_option maxRecDepth 100000 in
theorem rdo_12_2 (a b : Int) (w : World) (ha : I64 a) (hb : I64 b) (hz : b ≠ 0) (hsa : decide (a < 0) = true) (hsb : decide (b < 0) = false) :
    Calls Tryd.prog 14 #[.int .i64 12, .int .i64 a, .int .i64 b] w fun e w' => e = .returned (.tuple #[.int .i64 (gMod a b), .bool true]) ∧ w = w' := by
  have hz1 : (b == 0) = false := beq_eq_false_iff_ne.2 hz
  have HZ := Lib.hid hz; clear hz
  have HA := Lib.hid hsa
  have HB := Lib.hid hsb
  go_enter Tryd.func14, Tryd.ntmps14
  go_wp2_with (first
    | (go_at_call 32; ((with_reducible refine (plus_any _ _ _ (by exact u64_uw _) (by exact u64_uw _)).mono ?_); rintro e w1 ⟨rfl, rfl⟩))
    | (go_at_call 30; ((with_reducible refine (minus_any _ _ _ (by first | exact u64_uw _ | exact u64_add _ _ | decide) (by first | exact u64_uw _ | exact u64_bits _ _ _)).mono ?_); rintro e w1 ⟨rfl, rfl⟩))
    | (go_at_call 33; ((with_reducible refine (times_any _ _ _ (by exact u64_uw _) (by exact u64_uw _)).mono ?_); rintro e w1 ⟨rfl, rfl⟩))
    | (go_at_call 31; ((with_reducible refine (one_any _ _).mono ?_); rintro e w1 ⟨rfl, rfl⟩))
    | (go_at_call 34; ((with_reducible refine (size_any _ _ (by assumption)).mono ?_); rintro e w1 ⟨rfl, rfl⟩))
    | (go_at_call 35; ((with_reducible refine (parted_any a b _ ha hb HZ.out).mono ?_); rintro e w1 ⟨rfl, rfl⟩))
    | (go_at_call 36; ((with_reducible refine (signed_any _ _ _ (by first | exact u64_div ha | exact u64_mod ha)).mono ?_); rintro e w1 ⟨rfl, rfl⟩)))
  go_ret2
  exact ⟨ret_num (mod_sgn hb HZ.out _ HA.out) _, rfl⟩

set_option maxHeartbeats 1000000 in
set_option maxRecDepth 100000 in
theorem rdo_12_3 (a b : Int) (w : World) (ha : I64 a) (hb : I64 b) (hz : b ≠ 0) (hsa : decide (a < 0) = false) (hsb : decide (b < 0) = true) :
    Calls Tryd.prog 14 #[.int .i64 12, .int .i64 a, .int .i64 b] w fun e w' => e = .returned (.tuple #[.int .i64 (gMod a b), .bool true]) ∧ w = w' := by
  have hz1 : (b == 0) = false := beq_eq_false_iff_ne.2 hz
  have HZ := Lib.hid hz; clear hz
  have HA := Lib.hid hsa
  have HB := Lib.hid hsb
  go_enter Tryd.func14, Tryd.ntmps14
  go_wp2_with (first
    | (go_at_call 32; ((with_reducible refine (plus_any _ _ _ (by exact u64_uw _) (by exact u64_uw _)).mono ?_); rintro e w1 ⟨rfl, rfl⟩))
    | (go_at_call 30; ((with_reducible refine (minus_any _ _ _ (by first | exact u64_uw _ | exact u64_add _ _ | decide) (by first | exact u64_uw _ | exact u64_bits _ _ _)).mono ?_); rintro e w1 ⟨rfl, rfl⟩))
    | (go_at_call 33; ((with_reducible refine (times_any _ _ _ (by exact u64_uw _) (by exact u64_uw _)).mono ?_); rintro e w1 ⟨rfl, rfl⟩))
    | (go_at_call 31; ((with_reducible refine (one_any _ _).mono ?_); rintro e w1 ⟨rfl, rfl⟩))
    | (go_at_call 34; ((with_reducible refine (size_any _ _ (by assumption)).mono ?_); rintro e w1 ⟨rfl, rfl⟩))
    | (go_at_call 35; ((with_reducible refine (parted_any a b _ ha hb HZ.out).mono ?_); rintro e w1 ⟨rfl, rfl⟩))
    | (go_at_call 36; ((with_reducible refine (signed_any _ _ _ (by first | exact u64_div ha | exact u64_mod ha)).mono ?_); rintro e w1 ⟨rfl, rfl⟩)))
  go_ret2
  exact ⟨ret_num (mod_sgn hb HZ.out _ HA.out) _, rfl⟩

set_option maxHeartbeats 1000000 in
set_option maxRecDepth 100000 in
theorem rdo_12_4 (a b : Int) (w : World) (ha : I64 a) (hb : I64 b) (hz : b ≠ 0) (hsa : decide (a < 0) = false) (hsb : decide (b < 0) = false) :
    Calls Tryd.prog 14 #[.int .i64 12, .int .i64 a, .int .i64 b] w fun e w' => e = .returned (.tuple #[.int .i64 (gMod a b), .bool true]) ∧ w = w' := by
  have hz1 : (b == 0) = false := beq_eq_false_iff_ne.2 hz
  have HZ := Lib.hid hz; clear hz
  have HA := Lib.hid hsa
  have HB := Lib.hid hsb
  go_enter Tryd.func14, Tryd.ntmps14
  go_wp2_with (first
    | (go_at_call 32; ((with_reducible refine (plus_any _ _ _ (by exact u64_uw _) (by exact u64_uw _)).mono ?_); rintro e w1 ⟨rfl, rfl⟩))
    | (go_at_call 30; ((with_reducible refine (minus_any _ _ _ (by first | exact u64_uw _ | exact u64_add _ _ | decide) (by first | exact u64_uw _ | exact u64_bits _ _ _)).mono ?_); rintro e w1 ⟨rfl, rfl⟩))
    | (go_at_call 33; ((with_reducible refine (times_any _ _ _ (by exact u64_uw _) (by exact u64_uw _)).mono ?_); rintro e w1 ⟨rfl, rfl⟩))
    | (go_at_call 31; ((with_reducible refine (one_any _ _).mono ?_); rintro e w1 ⟨rfl, rfl⟩))
    | (go_at_call 34; ((with_reducible refine (size_any _ _ (by assumption)).mono ?_); rintro e w1 ⟨rfl, rfl⟩))
    | (go_at_call 35; ((with_reducible refine (parted_any a b _ ha hb HZ.out).mono ?_); rintro e w1 ⟨rfl, rfl⟩))
    | (go_at_call 36; ((with_reducible refine (signed_any _ _ _ (by first | exact u64_div ha | exact u64_mod ha)).mono ?_); rintro e w1 ⟨rfl, rfl⟩)))
  go_ret2
  exact ⟨ret_num (mod_sgn hb HZ.out _ HA.out) _, rfl⟩

theorem rdo_any (op a b : Int) (w : World) (ha : I64 a) (hb : I64 b) :
    Calls Tryd.prog 14 #[.int .i64 op, .int .i64 a, .int .i64 b] w fun e w' => e = .returned (.tuple #[.int .i64 (doV op a b), .bool (doOk op b)]) ∧ w = w' := by
  by_cases h : op < 6 ∨ 16 < op
  · exact rdo_other op a b w h
  have h' : op = 6 ∨ op = 7 ∨ op = 8 ∨ op = 9 ∨ op = 10 ∨ op = 11 ∨ op = 12 ∨ op = 13 ∨ op = 14 ∨ op = 15 ∨ op = 16 := by omega
  clear h
  rcases h' with rfl | rfl | rfl | rfl | rfl | rfl | rfl | rfl | rfl | rfl | rfl
  · exact rdo_6 a b w ha hb
  · exact rdo_7 a b w ha hb
  · exact rdo_8 a b w ha hb
  · exact rdo_9 a b w ha hb
  · exact rdo_10 a b w ha hb
  · have e1 : doV 11 a b = gDiv a b := rfl
    have e2 : doOk 11 b = nz b := rfl
    rw [e1, e2]
    by_cases hz : b = 0
    · subst hz
      exact rdo_11_0 a w
    · rw [nz_1 hz]
      cases hsa : decide (a < 0) <;> cases hsb : decide (b < 0)
      · exact rdo_11_4 a b w ha hb hz hsa hsb
      · exact rdo_11_3 a b w ha hb hz hsa hsb
      · exact rdo_11_2 a b w ha hb hz hsa hsb
      · exact rdo_11_1 a b w ha hb hz hsa hsb
  · have e1 : doV 12 a b = gMod a b := rfl
    have e2 : doOk 12 b = nz b := rfl
    rw [e1, e2]
    by_cases hz : b = 0
    · subst hz
      exact rdo_12_0 a w
    · rw [nz_1 hz]
      cases hsa : decide (a < 0) <;> cases hsb : decide (b < 0)
      · exact rdo_12_4 a b w ha hb hz hsa hsb
      · exact rdo_12_3 a b w ha hb hz hsa hsb
      · exact rdo_12_2 a b w ha hb hz hsa hsb
      · exact rdo_12_1 a b w ha hb hz hsa hsb
  · exact rdo_13 a b w ha hb
  · exact rdo_14 a b w ha hb
  · exact rdo_15 a b w ha hb
  · exact rdo_16 a b w ha hb

end Go.Proofs.YtnlljcbpjhhloaaDoor
