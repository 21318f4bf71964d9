/-
  Plain facts on the numbers of 64 bits that go round. No program is named here.
-/
import Derived.Test.YtnlljcbpjhhloaaDoorPlain
namespace Go.Proofs.YtnlljcbpjhhloaaDoor
open Go Go.RowKit

theorem i64_wrap (x : Int) : I64 (wrap64 x) := by unfold I64 wrap64; omega
theorem i64_add (a b : Int) : I64 (gAdd a b) := i64_wrap _
theorem i64_sub (a b : Int) : I64 (gSub a b) := i64_wrap _
theorem i64_mul (a b : Int) : I64 (gMul a b) := i64_wrap _
theorem i64_neg (a : Int) : I64 (gNeg a) := i64_wrap _
theorem i64_01 (p : Bool) : I64 (g01 p) := by cases p <;> (unfold I64 g01; simp)

/-- Two numbers go round to the same just if they differ by a multiple. -/
theorem wrap_eq {x y : Int} (h : ∃ k : Int, x - y = 18446744073709551616 * k) : wrap64 x = wrap64 y := by
  obtain ⟨k, h⟩ := h; unfold wrap64; omega
theorem wrap_off (x : Int) : ∃ k : Int, wrap64 x = x + 18446744073709551616 * k := ⟨-((x + 9223372036854775808) / 18446744073709551616), by unfold wrap64; omega⟩
theorem wrap_in {x : Int} (h : I64 x) : wrap64 x = x := by unfold I64 at h; unfold wrap64; omega

theorem add_comm (a b : Int) : gAdd a b = gAdd b a := by unfold gAdd; rw [Int.add_comm]
theorem mul_comm (a b : Int) : gMul a b = gMul b a := by unfold gMul; rw [Int.mul_comm]
theorem add_assoc (a b c : Int) : gAdd (gAdd a b) c = gAdd a (gAdd b c) := by unfold gAdd wrap64; omega
theorem mul_assoc (a b c : Int) : gMul (gMul a b) c = gMul a (gMul b c) := by
  unfold gMul
  obtain ⟨k, hk⟩ := wrap_off (a * b)
  obtain ⟨l, hl⟩ := wrap_off (b * c)
  refine wrap_eq ⟨k * c - a * l, ?_⟩
  rw [hk, hl, Int.add_mul, Int.mul_add, Int.mul_assoc a b c, Int.mul_assoc 18446744073709551616 k c, Int.mul_left_comm a 18446744073709551616 l, Int.mul_sub]
  omega
theorem sub_add (a b : Int) (ha : I64 a) : gSub (gAdd a b) b = a := by unfold I64 at ha; unfold gSub gAdd wrap64; omega
theorem add_neg (a : Int) : gAdd a (gNeg a) = 0 := by unfold gAdd gNeg wrap64; omega
theorem sub_eq (a b : Int) : gSub a b = gAdd a (gNeg b) := by unfold gSub gAdd gNeg wrap64; omega
theorem neg_neg (a : Int) (ha : I64 a) : gNeg (gNeg a) = a := by unfold I64 at ha; unfold gNeg wrap64; omega
theorem mul_add (a b c : Int) : gMul a (gAdd b c) = gAdd (gMul a b) (gMul a c) := by
  unfold gMul gAdd
  obtain ⟨k, hk⟩ := wrap_off (b + c)
  obtain ⟨l, hl⟩ := wrap_off (a * b)
  obtain ⟨m, hm⟩ := wrap_off (a * c)
  refine wrap_eq ⟨a * k - l - m, ?_⟩
  rw [hk, hl, hm, Int.mul_add, Int.mul_add, Int.mul_left_comm a, Int.mul_sub, Int.mul_sub]
  omega
theorem mul_one (a : Int) (ha : I64 a) : gMul a 1 = a := by unfold gMul; rw [Int.mul_one, wrap_in ha]
theorem mul_zero (a : Int) : gMul a 0 = 0 := by unfold gMul; rw [Int.mul_zero]; unfold wrap64; omega
theorem mul_m1 (a : Int) : gMul a (-1) = gNeg a := by unfold gMul gNeg; rw [Int.mul_neg, Int.mul_one]

/- Bit by bit. -/
theorem and_div2 (x y : Nat) : (x &&& y) / 2 = (x / 2) &&& (y / 2) := Nat.and_div_two
theorem or_div2 (x y : Nat) : (x ||| y) / 2 = (x / 2) ||| (y / 2) := Nat.or_div_two
theorem nat_and_or : ∀ (n x y : Nat), x < 2 ^ n → (x &&& y) + (x ||| y) = x + y
  | 0, x, y, h => by
    have : x = 0 := by simpa using h
    subst this
    simp
  | n + 1, x, y, h => by
    have ih := nat_and_or n (x / 2) (y / 2) (by rw [Nat.pow_succ] at h; omega)
    rw [← and_div2, ← or_div2] at ih
    have h1 : (x &&& y) % 2 = 1 ↔ x % 2 = 1 ∧ y % 2 = 1 := Nat.and_mod_two_eq_one
    have h2 : (x ||| y) % 2 = 1 ↔ x % 2 = 1 ∨ y % 2 = 1 := Nat.or_mod_two_eq_one
    omega

/-- A number's pattern of 64 bits. -/
def pat (a : Int) : Nat := (a % 18446744073709551616).toNat
theorem pat_lt (a : Int) : pat a < 2 ^ 64 := by unfold pat; omega
theorem pat_toNat (a : Int) : (BitVec.ofInt 64 a).toNat = pat a := by rw [BitVec.toNat_ofInt]; rfl
theorem pat_wrap {a : Int} (h : I64 a) : wrap64 (pat a : Int) = a := by unfold I64 at h; unfold pat wrap64; omega
theorem and_eq (a b : Int) : gAnd a b = wrap64 ((pat a &&& pat b : Nat) : Int) := by
  show IntKind.i64.wrap ((BitVec.ofInt 64 a &&& BitVec.ofInt 64 b).toNat : Int) = _
  rw [BitVec.toNat_and, pat_toNat, pat_toNat, IntWalk.i64_left]
theorem or_eq (a b : Int) : gOr a b = wrap64 ((pat a ||| pat b : Nat) : Int) := by
  show IntKind.i64.wrap ((BitVec.ofInt 64 a ||| BitVec.ofInt 64 b).toNat : Int) = _
  rw [BitVec.toNat_or, pat_toNat, pat_toNat, IntWalk.i64_left]
theorem i64_and (a b : Int) : I64 (gAnd a b) := by rw [and_eq]; exact i64_wrap _
theorem i64_or (a b : Int) : I64 (gOr a b) := by rw [or_eq]; exact i64_wrap _
theorem and_or (a b : Int) : gAdd (gAnd a b) (gOr a b) = gAdd a b := by
  rw [and_eq, or_eq]
  have h := nat_and_or 64 (pat a) (pat b) (pat_lt a)
  have h' : ((pat a &&& pat b : Nat) : Int) + ((pat a ||| pat b : Nat) : Int) = (pat a : Int) + (pat b : Int) := by exact_mod_cast h
  generalize ((pat a &&& pat b : Nat) : Int) = x at h' ⊢
  generalize ((pat a ||| pat b : Nat) : Int) = y at h' ⊢
  unfold pat at h'
  unfold gAdd wrap64
  omega
theorem and_self (a : Int) (ha : I64 a) : gAnd a a = a := by rw [and_eq, Nat.and_self, pat_wrap ha]
theorem or_zero (a : Int) (ha : I64 a) : gOr a 0 = a := by
  rw [or_eq, show pat 0 = 0 from rfl, Nat.or_zero, pat_wrap ha]
theorem and_m1 (a : Int) (ha : I64 a) : gAnd a (-1) = a := by
  rw [and_eq, show pat (-1) = 2 ^ 64 - 1 from rfl, Nat.and_two_pow_sub_one_eq_mod, Nat.mod_eq_of_lt (pat_lt a), pat_wrap ha]

/- What is asked is 0 or 1. -/
theorem less_1 {a b : Int} (h : a < b) : gLess a b = 1 := by unfold gLess; rw [decide_eq_true h]; rfl
theorem less_0 {a b : Int} (h : b ≤ a) : gLess a b = 0 := by unfold gLess; rw [decide_eq_false (by omega)]; rfl
theorem same_1 {a b : Int} (h : a = b) : gSame a b = 1 := by unfold gSame; rw [beq_iff_eq.2 h]; rfl
theorem same_0 {a b : Int} (h : a ≠ b) : gSame a b = 0 := by unfold gSame; rw [beq_eq_false_iff_ne.2 h]; rfl
theorem not_1 {a : Int} (h : a = 0) : gNot a = 1 := by unfold gNot; rw [beq_iff_eq.2 h]; rfl
theorem not_0' {a : Int} (h : a ≠ 0) : gNot a = 0 := by unfold gNot; rw [beq_eq_false_iff_ne.2 h]; rfl
theorem cmp3 (a b : Int) : (a < b ∧ gLess a b = 1 ∧ gSame a b = 0 ∧ gLess b a = 0) ∨ (a = b ∧ gLess a b = 0 ∧ gSame a b = 1 ∧ gLess b a = 0) ∨ (b < a ∧ gLess a b = 0 ∧ gSame a b = 0 ∧ gLess b a = 1) := by
  rcases Int.lt_trichotomy a b with h | h | h
  · exact Or.inl ⟨h, less_1 h, same_0 (by omega), less_0 (by omega)⟩
  · exact Or.inr (Or.inl ⟨h, less_0 (by omega), same_1 h, less_0 (by omega)⟩)
  · exact Or.inr (Or.inr ⟨h, less_0 (by omega), same_0 (by omega), less_1 h⟩)

/- How often, and what is left. -/
theorem nz_1 {b : Int} (h : b ≠ 0) : nz b = true := by unfold nz; rw [beq_eq_false_iff_ne.2 h]; rfl
theorem div_of {a b : Int} (h : b ≠ 0) : gDiv a b = wrap64 (a.tdiv b) := by unfold gDiv; rw [if_neg h]
theorem mod_of {a b : Int} (h : b ≠ 0) : gMod a b = a.tmod b := by unfold gMod; rw [if_neg h]
theorem i64_div (a b : Int) : I64 (gDiv a b) := by
  unfold gDiv; split
  · decide
  · exact i64_wrap _
theorem tmod_near (a b : Int) (h : b ≠ 0) : (0 < b → -b < a.tmod b ∧ a.tmod b < b) ∧ (b < 0 → b < a.tmod b ∧ a.tmod b < -b) ∧ (0 < a.tmod b → 0 < a) ∧ (a.tmod b < 0 → a < 0) := by
  have h1 : 0 ≤ a → 0 ≤ a.tmod b := fun h0 => Int.tmod_nonneg b h0
  have h3 : a ≤ 0 → a.tmod b ≤ 0 := fun h0 => by
    have := Int.tmod_nonneg b (a := -a) (by omega)
    rw [Int.neg_tmod] at this; omega
  have h2 : (a.tmod b).natAbs < b.natAbs := by rw [Int.natAbs_tmod]; exact Nat.mod_lt _ (by omega)
  omega
theorem i64_mod (a b : Int) (hb : I64 b) : I64 (gMod a b) := by
  unfold gMod; split
  · decide
  · rename_i h
    have := tmod_near a b h
    unfold I64 at *
    omega

theorem add_same {a b c : Int} (ha : I64 a) (hb : I64 b) : gSame (gAdd a c) (gAdd b c) = gSame a b := by
  by_cases h : a = b
  · rw [same_1 h, same_1 (by rw [h])]
  · rw [same_0 h, same_0]
    unfold I64 at *; unfold gAdd wrap64; omega
theorem add_less {a b c : Int} (ha : I64 a) (hb : I64 b) (hc : I64 c) (k : decide (gAdd a c < a) = decide (c < 0)) (k' : decide (gAdd b c < b) = decide (c < 0)) : gLess (gAdd a c) (gAdd b c) = gLess a b := by
  have k1 : gAdd a c < a ↔ c < 0 := by simpa using k
  have k2 : gAdd b c < b ↔ c < 0 := by simpa using k'
  have e1 : gAdd a c = a + c := by unfold I64 at *; unfold gAdd wrap64 at *; omega
  have e2 : gAdd b c = b + c := by unfold I64 at *; unfold gAdd wrap64 at *; omega
  rw [e1, e2]
  unfold gLess
  congr 1
  simp
theorem div_zero' (a b : Int) (h : a = 0) : gDiv a b = 0 := by
  subst h
  unfold gDiv
  split
  · rfl
  · rw [Int.zero_tdiv]; unfold wrap64; omega
theorem div_mod (a b : Int) (ha : I64 a) (h : b ≠ 0) : gAdd (gMul (gDiv a b) b) (gMod a b) = a := by
  rw [div_of h, mod_of h]
  unfold gAdd gMul
  obtain ⟨k, hk⟩ := wrap_off (a.tdiv b)
  obtain ⟨l, hl⟩ := wrap_off ((wrap64 (a.tdiv b)) * b)
  have e : wrap64 a = a := wrap_in ha
  rw [← e]
  conv => rhs; rw [e]
  refine (wrap_eq (y := a) ⟨k * b + l, ?_⟩).trans (wrap_in ha)
  have := Int.tdiv_mul_add_tmod a b
  rw [e, hl, hk, Int.add_mul, Int.mul_add, Int.mul_assoc]
  omega

theorem neg_mul (a b : Int) : gNeg (gMul a b) = gMul (gNeg a) b := by
  unfold gNeg gMul
  obtain ⟨k, hk⟩ := wrap_off (a * b)
  obtain ⟨l, hl⟩ := wrap_off (-a)
  refine wrap_eq ⟨-k - l * b, ?_⟩
  rw [hk, hl, Int.add_mul, Int.neg_mul, Int.mul_assoc, Int.mul_sub, Int.mul_neg]
  omega
theorem neg_add (a b : Int) : gNeg (gAdd a b) = gSub (gNeg a) b := by unfold gNeg gAdd gSub wrap64; omega
theorem tdiv_in {a b : Int} (ha : I64 a) (hl : -9223372036854775807 ≤ a) : -9223372036854775807 ≤ a.tdiv b ∧ a.tdiv b ≤ 9223372036854775807 := by
  unfold I64 at ha
  have h1 : (a.tdiv b).natAbs = a.natAbs / b.natAbs := Int.natAbs_tdiv a b
  have h2 : a.natAbs / b.natAbs ≤ a.natAbs := Nat.div_le_self _ _
  omega
/-- By numbers of the other sign. -/
theorem signs_of {a b : Int} (ha : I64 a) (hb : I64 b) (h : b ≠ 0) (hl : -9223372036854775807 ≤ a) (hm : -9223372036854775807 ≤ b) :
    (-9223372036854775807 ≤ gDiv a b ∧ gDiv a b ≤ 9223372036854775807) ∧ (-9223372036854775807 ≤ gMod a b ∧ gMod a b ≤ 9223372036854775807) ∧
    gDiv (gNeg a) b = -gDiv a b ∧ gMod (gNeg a) b = -gMod a b ∧ gDiv a (gNeg b) = -gDiv a b ∧ gMod a (gNeg b) = gMod a b ∧ gNeg a = -a ∧ gNeg b = -b := by
  have e1 : gNeg a = -a := by unfold I64 at ha; unfold gNeg wrap64; omega
  have e2 : gNeg b = -b := by unfold I64 at hb; unfold gNeg wrap64; omega
  have h' : -b ≠ 0 := by omega
  have i1 := tdiv_in (b := b) ha hl
  have n1 := tmod_near a b h
  have d1 : gDiv a b = a.tdiv b := by rw [div_of h, wrap_in]; unfold I64; omega
  have hb' := hb
  unfold I64 at hb'
  rw [e1, e2, d1, mod_of h, div_of h, mod_of h, div_of h', mod_of h', Int.neg_tdiv, Int.neg_tmod, Int.tdiv_neg, Int.tmod_neg, wrap_in (x := -a.tdiv b) (by unfold I64; omega)]
  exact ⟨i1, by omega, rfl, rfl, rfl, rfl, rfl, rfl⟩

end Go.Proofs.YtnlljcbpjhhloaaDoor
