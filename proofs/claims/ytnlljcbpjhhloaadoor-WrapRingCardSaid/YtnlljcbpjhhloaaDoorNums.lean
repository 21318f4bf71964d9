/-
  Plain facts on the numbers of 64 bits that go round. No program is named here.
-/
import Derived.Test.YtnlljcbpjhhloaaDoorPlain
namespace Go.Proofs.YtnlljcbpjhhloaaDoor
open Go Go.RowKit

theorem i64_wrap (x : Int) : I64 (wrap64 x) := by unfold I64 wrap64; omega
theorem i64_add (a b : Int) : I64 (gAdd a b) := i64_wrap _
theorem i64_sub (a b : Int) : I64 (gSub a b) := i64_wrap _
theorem i64_mul (a b : Int) : I64 (gMul a b) := i64_wrap _
theorem i64_neg (a : Int) : I64 (gNeg a) := i64_wrap _
theorem i64_01 (p : Bool) : I64 (g01 p) := by cases p <;> (unfold I64 g01; simp)

/-- Two numbers go round to the same just if they differ by a multiple. -/
theorem wrap_eq {x y : Int} (h : ∃ k : Int, x - y = 18446744073709551616 * k) : wrap64 x = wrap64 y := by
  obtain ⟨k, h⟩ := h; unfold wrap64; omega
theorem wrap_off (x : Int) : ∃ k : Int, wrap64 x = x + 18446744073709551616 * k := ⟨-((x + 9223372036854775808) / 18446744073709551616), by unfold wrap64; omega⟩
theorem wrap_in {x : Int} (h : I64 x) : wrap64 x = x := by unfold I64 at h; unfold wrap64; omega

theorem add_comm (a b : Int) : gAdd a b = gAdd b a := by unfold gAdd; rw [Int.add_comm]
theorem mul_comm (a b : Int) : gMul a b = gMul b a := by unfold gMul; rw [Int.mul_comm]
theorem add_assoc (a b c : Int) : gAdd (gAdd a b) c = gAdd a (gAdd b c) := by unfold gAdd wrap64; omega
theorem mul_assoc (a b c : Int) : gMul (gMul a b) c = gMul a (gMul b c) := by
  unfold gMul
  obtain ⟨k, hk⟩ := wrap_off (a * b)
  obtain ⟨l, hl⟩ := wrap_off (b * c)
  refine wrap_eq ⟨k * c - a * l, ?_⟩
  rw [hk, hl, Int.add_mul, Int.mul_add, Int.mul_assoc a b c, Int.mul_assoc 18446744073709551616 k c, Int.mul_left_comm a 18446744073709551616 l, Int.mul_sub]
  omega
theorem sub_add (a b : Int) (ha : I64 a) : gSub (gAdd a b) b = a := by unfold I64 at ha; unfold gSub gAdd wrap64; omega
theorem add_neg (a : Int) : gAdd a (gNeg a) = 0 := by unfold gAdd gNeg wrap64; omega
theorem sub_eq (a b : Int) : gSub a b = gAdd a (gNeg b) := by unfold gSub gAdd gNeg wrap64; omega
theorem neg_neg (a : Int) (ha : I64 a) : gNeg (gNeg a) = a := by unfold I64 at ha; unfold gNeg wrap64; omega
theorem mul_add (a b c : Int) : gMul a (gAdd b c) = gAdd (gMul a b) (gMul a c) := by
  unfold gMul gAdd
  obtain ⟨k, hk⟩ := wrap_off (b + c)
  obtain ⟨l, hl⟩ := wrap_off (a * b)
  obtain ⟨m, hm⟩ := wrap_off (a * c)
  refine wrap_eq ⟨a * k - l - m, ?_⟩
  rw [hk, hl, hm, Int.mul_add, Int.mul_add, Int.mul_left_comm a, Int.mul_sub, Int.mul_sub]
  omega
theorem mul_one (a : Int) (ha : I64 a) : gMul a 1 = a := by unfold gMul; rw [Int.mul_one, wrap_in ha]
theorem mul_zero (a : Int) : gMul a 0 = 0 := by unfold gMul; rw [Int.mul_zero]; unfold wrap64; omega
theorem mul_m1 (a : Int) : gMul a (-1) = gNeg a := by unfold gMul gNeg; rw [Int.mul_neg, Int.mul_one]

end Go.Proofs.YtnlljcbpjhhloaaDoor
