/-
  Plain facts for the document's own arithmetic, bit by bit, on numbers of 64 bits without a sign. No program is named here.
-/
import Derived.Test.YtnlljcbpjhhloaaDoorNums
namespace Go.Proofs.YtnlljcbpjhhloaaDoor
open Go Go.RowKit

def U64 (a : Int) : Prop := 0 ≤ a ∧ a < 18446744073709551616
instance (a : Int) : Decidable (U64 a) := by unfold U64; infer_instance
def uAdd (a b : Int) : Int := (a + b) % 18446744073709551616
def uSub (a b : Int) : Int := (a - b) % 18446744073709551616
def uMul (a b : Int) : Int := (a * b) % 18446744073709551616
theorem u64_add (a b : Int) : U64 (uAdd a b) := by unfold U64 uAdd; omega
theorem u64_sub (a b : Int) : U64 (uSub a b) := by unfold U64 uSub; omega
theorem u64_mul (a b : Int) : U64 (uMul a b) := by unfold U64 uMul; omega
theorem u64_nat {a : Int} (h : U64 a) : ∃ n : Nat, a = n ∧ n < 18446744073709551616 := ⟨a.toNat, by unfold U64 at h; omega, by unfold U64 at h; omega⟩

theorem nat_xor_and : ∀ (n x y : Nat), x < 2 ^ n → (x ^^^ y) + 2 * (x &&& y) = x + y
  | 0, x, y, h => by
    have : x = 0 := by simpa using h
    subst this
    simp
  | n + 1, x, y, h => by
    have ih := nat_xor_and n (x / 2) (y / 2) (by rw [Nat.pow_succ] at h; omega)
    rw [← and_div2, ← Nat.xor_div_two] at ih
    have h1 : (x &&& y) % 2 = 1 ↔ x % 2 = 1 ∧ y % 2 = 1 := Nat.and_mod_two_eq_one
    have h2 : (x ^^^ y) % 2 = 1 ↔ ¬(x % 2 = 1 ↔ y % 2 = 1) := Nat.xor_mod_two_eq_one
    omega

/-- What holds at the head of round k of Plus: the sum stands, and the carries' low k bits are 0. -/
def PlusAt (x y u v k : Nat) : Prop := u < 18446744073709551616 ∧ v < 18446744073709551616 ∧ (u + v) % 18446744073709551616 = (x + y) % 18446744073709551616 ∧ v % 2 ^ k = 0

theorem plus_start {x y : Nat} (hx : x < 18446744073709551616) (hy : y < 18446744073709551616) : PlusAt x y x y 0 := ⟨hx, hy, rfl, by rw [Nat.pow_zero, Nat.mod_one]⟩

theorem plus_step {x y u v k : Nat} (hk : k < 64) (h : PlusAt x y u v k) : PlusAt x y (u ^^^ v) ((u &&& v) * 2 % 18446744073709551616) (k + 1) := by
  obtain ⟨hu, hv, hs, hd⟩ := h
  have hx := nat_xor_and 64 u v hu
  have hxb : u ^^^ v < 2 ^ 64 := Nat.xor_lt_two_pow hu hv
  have ha : (u &&& v) % 2 ^ k = 0 := by rw [Nat.and_mod_two_pow, hd, Nat.and_zero]
  refine ⟨hxb, by omega, by omega, ?_⟩
  have e : (18446744073709551616 : Nat) = 2 ^ (k + 1) * 2 ^ (63 - k) := by
    rw [← Nat.pow_add, show k + 1 + (63 - k) = 64 by omega]
  rw [e, Nat.mod_mul_right_mod, Nat.pow_succ, Nat.mul_mod_mul_right, ha, Nat.zero_mul]

theorem plus_end {x y u v k : Nat} (hk : 64 ≤ k) (hk' : k ≤ 64) (h : PlusAt x y u v k) : (u : Int) = uAdd x y := by
  obtain ⟨hu, hv, hs, hd⟩ := h
  obtain rfl : k = 64 := by omega
  have hv0 : v = 0 := by
    have : v % 18446744073709551616 = 0 := hd
    omega
  unfold uAdd
  omega

theorem uw (a : Int) : IntKind.u64.wrap a = a % 18446744073709551616 := IntKind.wrap_u64 a
theorem u64_uw (a : Int) : U64 (IntKind.u64.wrap a) := by rw [uw]; unfold U64; omega
theorem u64_bits (op : BinOp) (a b : Int) : U64 (bits op .u64 a b) := by
  have h1 := bits_lo_u64 op a b
  have h2 := bits_hi_u64 op a b
  unfold U64; omega

theorem xor_max {b : Int} (h : U64 b) : bits .xor .u64 IntKind.u64.max b = 18446744073709551615 - b := by
  obtain ⟨n, rfl, hn⟩ := u64_nat h
  have e : IntKind.u64.max = ((18446744073709551615 : Nat) : Int) := rfl
  rw [e, bits_xor_u64_nat _ n (by omega) hn]
  have h1 := nat_xor_and 64 18446744073709551615 n (by omega)
  have h2 : 18446744073709551615 &&& n = n := by
    rw [Nat.and_comm, show (18446744073709551615 : Nat) = 2 ^ 64 - 1 from rfl, Nat.and_two_pow_sub_one_eq_mod]
    exact Nat.mod_eq_of_lt hn
  omega
theorem minus_eq (a : Int) {b : Int} (h : U64 b) : uAdd a (uAdd (bits .xor .u64 IntKind.u64.max b) 1) = uSub a b := by
  rw [xor_max h]; unfold uAdd uSub; omega

theorem xor_top {p : Int} (h : U64 p) : bits .xor .u64 p 9223372036854775808 = (p + 9223372036854775808) % 18446744073709551616 := by
  obtain ⟨n, rfl, hn⟩ := u64_nat h
  have e : (9223372036854775808 : Int) = ((9223372036854775808 : Nat) : Int) := rfl
  rw [e, bits_xor_u64_nat n _ hn (by omega)]
  have h1 := nat_xor_and 64 n 9223372036854775808 hn
  have h2 : (n &&& 2 ^ 63) % 2 ^ 63 = 0 := by rw [Nat.and_mod_two_pow, Nat.mod_self, Nat.and_zero]
  have h3 : (n &&& 2 ^ 63) / 2 ^ 63 = n / 2 ^ 63 % 2 := by
    rw [← Nat.shiftRight_eq_div_pow, Nat.shiftRight_and_distrib, Nat.shiftRight_eq_div_pow, Nat.shiftRight_eq_div_pow, Nat.div_self (by omega), Nat.and_one_is_mod]
  have e2 : (2 : Nat) ^ 63 = 9223372036854775808 := rfl
  rw [e2] at h2 h3
  omega
theorem xor_zero {p q : Int} (hp : U64 p) (hq : U64 q) : (bits .xor .u64 p q == 0) = (p == q) := by
  obtain ⟨n, rfl, hn⟩ := u64_nat hp
  obtain ⟨m, rfl, hm⟩ := u64_nat hq
  rw [bits_xor_u64_nat n m hn hm]
  have h1 := nat_xor_and 64 n m hn
  have h2 : n &&& m ≤ n := Nat.and_le_left
  have h3 : n &&& m ≤ m := Nat.and_le_right
  rw [Bool.eq_iff_iff, beq_iff_eq, beq_iff_eq]
  constructor
  · intro h; omega
  · intro h
    have : n = m := by omega
    subst this
    rw [Nat.xor_self]; rfl

theorem bit_of (y k : Nat) (hy : y < 18446744073709551616) : bits .and .u64 ((y : Int) / 2 ^ k) 1 = ((y / 2 ^ k % 2 : Nat) : Int) := by
  have e : ((y : Int) / 2 ^ k) = ((y / 2 ^ k : Nat) : Int) := by push_cast; rfl
  have hl : y / 2 ^ k ≤ y := Nat.div_le_self _ _
  have h := bits_and_u64_nat (y / 2 ^ k) 1 (by omega) (by omega)
  rw [e]
  refine h.trans ?_
  rw [Nat.and_one_is_mod]

/- Times. -/
theorem times_start (x y : Nat) : (0 : Int) = uMul x ((y % 2 ^ 0 : Nat) : Int) := by
  rw [Nat.pow_zero, Nat.mod_one]; unfold uMul; simp
theorem times_yes (x y k : Nat) (h : y / 2 ^ k % 2 = 1) : uAdd (uMul x ((y % 2 ^ k : Nat) : Int)) (IntKind.u64.wrap ((x : Int) * 2 ^ k)) = uMul x ((y % 2 ^ (k + 1) : Nat) : Int) := by
  unfold uAdd uMul
  rw [uw, ← Int.add_emod, Nat.mod_pow_succ, h, Nat.mul_one]
  congr 1
  push_cast
  rw [Int.mul_add]
theorem times_no (x y k : Nat) (h : y / 2 ^ k % 2 ≠ 1) : uMul x ((y % 2 ^ k : Nat) : Int) = uMul x ((y % 2 ^ (k + 1) : Nat) : Int) := by
  have h0 : y / 2 ^ k % 2 = 0 := by omega
  rw [Nat.mod_pow_succ, h0, Nat.mul_zero, Nat.add_zero]
theorem times_end (x y : Nat) (hy : y < 18446744073709551616) : uMul x ((y % 2 ^ 64 : Nat) : Int) = uMul x y := by
  rw [Nat.mod_eq_of_lt (show y < 2 ^ 64 from hy)]

/- Parted. -/
theorem or_low (m c : Nat) (hc : c ≤ 1) : (m * 2) ||| c = m * 2 + c := by
  have h1 := or_div2 (m * 2) c
  have h2 : ((m * 2) ||| c) % 2 = 1 ↔ m * 2 % 2 = 1 ∨ c % 2 = 1 := Nat.or_mod_two_eq_one
  have h3 : c / 2 = 0 := by omega
  rw [h3, Nat.or_zero] at h1
  omega
theorem or_bits (m c : Nat) (hm : m < 9223372036854775808) (hc : c ≤ 1) : bits .or .u64 ((m : Int) * 2) c = (m : Int) * 2 + c := by
  have h := bits_or_u64_nat (m * 2) c (by omega) (by omega)
  rw [or_low m c hc] at h
  push_cast at h
  exact h

/-- What holds at the head of the round for bit k - 1: so far the number's higher bits are parted. -/
def PartAt (x y u v k : Nat) : Prop := u = x / 2 ^ k / y ∧ v = x / 2 ^ k % y
theorem part_start (x y : Nat) (hx : x ≤ 9223372036854775808) : PartAt x y 0 0 64 := by
  unfold PartAt
  have : x / 2 ^ 64 = 0 := Nat.div_eq_of_lt (by omega)
  rw [this]; simp
theorem part_bounds {x y u v j : Nat} (hx : x ≤ 9223372036854775808) (hy0 : 0 < y) (h : PartAt x y u v (j + 1)) : v < y ∧ u ≤ 4611686018427387904 := by
  obtain ⟨rfl, rfl⟩ := h
  have h1 : x / 2 ^ (j + 1) = x / 2 ^ j / 2 := by rw [Nat.pow_succ, Nat.div_div_eq_div_mul]
  have h2 : x / 2 ^ j ≤ x := Nat.div_le_self _ _
  have h3 : x / 2 ^ (j + 1) / y ≤ x / 2 ^ (j + 1) := Nat.div_le_self _ _
  exact ⟨Nat.mod_lt _ hy0, by omega⟩
theorem part_step {x y u v j : Nat} (hy0 : 0 < y) (h : PartAt x y u v (j + 1)) :
    (y ≤ v * 2 + x / 2 ^ j % 2 → PartAt x y (u * 2 + 1) (v * 2 + x / 2 ^ j % 2 - y) j) ∧ (v * 2 + x / 2 ^ j % 2 < y → PartAt x y (u * 2) (v * 2 + x / 2 ^ j % 2) j) := by
  obtain ⟨hu, hv⟩ := h
  have h1 : x / 2 ^ (j + 1) = x / 2 ^ j / 2 := by rw [Nat.pow_succ, Nat.div_div_eq_div_mul]
  rw [h1] at hu hv
  unfold PartAt
  generalize x / 2 ^ j = B at *
  have hA := Nat.div_add_mod (B / 2) y
  have hv' : v < y := by rw [hv]; exact Nat.mod_lt _ hy0
  rw [← hu, ← hv] at hA
  generalize hP : y * u = P at hA
  have hB : B = 2 * P + (v * 2 + B % 2) := by omega
  refine ⟨fun hc => ?_, fun hc => ?_⟩
  · have e : B = (v * 2 + B % 2 - y) + y * (u * 2 + 1) := by
      rw [Nat.mul_add, Nat.mul_one, ← Nat.mul_assoc, hP]; omega
    have hl : v * 2 + B % 2 - y < y := by omega
    have e3 := Nat.add_mul_div_left (v * 2 + B % 2 - y) (u * 2 + 1) hy0
    have e4 := Nat.add_mul_mod_self_left (v * 2 + B % 2 - y) y (u * 2 + 1)
    rw [← e, Nat.div_eq_of_lt hl, Nat.zero_add] at e3
    rw [← e, Nat.mod_eq_of_lt hl] at e4
    exact ⟨e3.symm, e4.symm⟩
  · have e : B = (v * 2 + B % 2) + y * (u * 2) := by
      rw [← Nat.mul_assoc, hP]; omega
    have e3 := Nat.add_mul_div_left (v * 2 + B % 2) (u * 2) hy0
    have e4 := Nat.add_mul_mod_self_left (v * 2 + B % 2) y (u * 2)
    rw [← e, Nat.div_eq_of_lt hc, Nat.zero_add] at e3
    rw [← e, Nat.mod_eq_of_lt hc] at e4
    exact ⟨e3.symm, e4.symm⟩
theorem part_end {x y u v : Nat} (h : PartAt x y u v 0) : u = x / y ∧ v = x % y := by
  obtain ⟨rfl, rfl⟩ := h
  rw [Nat.pow_zero, Nat.div_one]
  exact ⟨rfl, rfl⟩

def uDiv (x y : Nat) : Int := ((x / y : Nat) : Int)
def uMod (x y : Nat) : Int := ((x % y : Nat) : Int)
/-- A number's size. -/
def usz (a : Int) : Int := (a.natAbs : Int)
theorem usz_nat (a : Int) : usz a = (a.natAbs : Int) := rfl
theorem size_neg {a : Int} (ha : I64 a) (h : a < 0) : uSub 0 (IntKind.u64.wrap a) = usz a := by
  unfold I64 at ha; rw [uw]; unfold uSub usz; omega
/-- A size with a sign. -/
def sgn (n : Int) (below : Bool) : Int := if below then wrap64 (uSub 0 n) else wrap64 n
theorem r6 (a : Int) : wrap64 (uSub 0 (IntKind.u64.wrap a)) = gNeg a := by rw [uw]; unfold uSub gNeg wrap64; omega
theorem r7 {a : Int} (h : I64 a) : g01 (IntKind.u64.wrap a == 0) = gNot a := by
  unfold gNot; congr 1
  rw [uw, Bool.eq_iff_iff, beq_iff_eq, beq_iff_eq]; unfold I64 at h; omega
theorem r8 (a b : Int) : wrap64 (uAdd (IntKind.u64.wrap a) (IntKind.u64.wrap b)) = gAdd a b := by rw [uw, uw]; unfold uAdd gAdd wrap64; omega
theorem r9 (a b : Int) : wrap64 (uSub (IntKind.u64.wrap a) (IntKind.u64.wrap b)) = gSub a b := by rw [uw, uw]; unfold uSub gSub wrap64; omega
theorem wrap_mod (x : Int) : wrap64 (x % 18446744073709551616) = wrap64 x := by unfold wrap64; omega
theorem r10 (a b : Int) : wrap64 (uMul (IntKind.u64.wrap a) (IntKind.u64.wrap b)) = gMul a b := by
  rw [uw, uw]; unfold uMul gMul
  rw [← Int.mul_emod, wrap_mod]
theorem r13 {a b : Int} (ha : I64 a) (hb : I64 b) : g01 (decide (bits BinOp.xor IntKind.u64 (IntKind.u64.wrap a) 9223372036854775808 < bits BinOp.xor IntKind.u64 (IntKind.u64.wrap b) 9223372036854775808)) = gLess a b := by
  unfold gLess; congr 1
  rw [xor_top (u64_uw a), xor_top (u64_uw b), uw, uw]
  unfold I64 at ha hb
  rw [Bool.eq_iff_iff, decide_eq_true_iff, decide_eq_true_iff]; omega
theorem r14 {a b : Int} (ha : I64 a) (hb : I64 b) : g01 (bits BinOp.xor IntKind.u64 (IntKind.u64.wrap a) (IntKind.u64.wrap b) == 0) = gSame a b := by
  unfold gSame; congr 1
  rw [xor_zero (u64_uw a) (u64_uw b), uw, uw]
  unfold I64 at ha hb
  rw [Bool.eq_iff_iff, beq_iff_eq, beq_iff_eq]; omega
theorem uw_pat (a : Int) : IntKind.u64.wrap a = (pat a : Int) := by rw [uw]; unfold pat; omega
theorem r15 (a b : Int) : wrap64 (bits BinOp.and IntKind.u64 (IntKind.u64.wrap a) (IntKind.u64.wrap b)) = gAnd a b := by
  rw [and_eq, uw_pat, uw_pat, bits_and_u64_nat _ _ (pat_lt a) (pat_lt b)]
theorem r16 (a b : Int) : wrap64 (uSub (uAdd (IntKind.u64.wrap a) (IntKind.u64.wrap b)) (bits BinOp.and IntKind.u64 (IntKind.u64.wrap a) (IntKind.u64.wrap b))) = gOr a b := by
  rw [or_eq, uw_pat, uw_pat, bits_and_u64_nat _ _ (pat_lt a) (pat_lt b)]
  have h := nat_and_or 64 (pat a) (pat b) (pat_lt a)
  generalize (pat a &&& pat b) = x at *
  generalize (pat a ||| pat b) = y at *
  unfold uSub uAdd wrap64
  omega
theorem u64_div {a b : Int} (ha : I64 a) : U64 (uDiv a.natAbs b.natAbs) := by
  have h := Nat.div_le_self a.natAbs b.natAbs
  unfold I64 at ha; unfold U64 uDiv
  generalize a.natAbs / b.natAbs = d at *
  omega
theorem u64_mod {a b : Int} (ha : I64 a) : U64 (uMod a.natAbs b.natAbs) := by
  have h := Nat.mod_le a.natAbs b.natAbs
  unfold I64 at ha; unfold U64 uMod; omega
theorem sgn_no (n : Int) : sgn n false = wrap64 n := rfl
theorem sgn_yes (n : Int) : sgn n true = wrap64 (-n) := by unfold sgn uSub wrap64; rw [if_pos rfl]; omega
theorem tdiv_abs (a b : Int) : (a < 0 → b < 0 → a.tdiv b = uDiv a.natAbs b.natAbs) ∧ (a < 0 → 0 ≤ b → a.tdiv b = -uDiv a.natAbs b.natAbs) ∧ (0 ≤ a → b < 0 → a.tdiv b = -uDiv a.natAbs b.natAbs) ∧ (0 ≤ a → 0 ≤ b → a.tdiv b = uDiv a.natAbs b.natAbs) := by
  unfold uDiv
  refine ⟨fun ha hb => ?_, fun ha hb => ?_, fun ha hb => ?_, fun ha hb => ?_⟩
  · obtain ⟨x, rfl⟩ : ∃ x : Nat, a = -x := ⟨a.natAbs, by omega⟩
    obtain ⟨y, rfl⟩ : ∃ y : Nat, b = -y := ⟨b.natAbs, by omega⟩
    rw [Int.neg_tdiv, Int.tdiv_neg, Int.natAbs_neg, Int.natAbs_neg, Int.natAbs_natCast, Int.natAbs_natCast, Int.neg_neg]; rfl
  · obtain ⟨x, rfl⟩ : ∃ x : Nat, a = -x := ⟨a.natAbs, by omega⟩
    obtain ⟨y, rfl⟩ : ∃ y : Nat, b = y := ⟨b.natAbs, by omega⟩
    rw [Int.neg_tdiv, Int.natAbs_neg, Int.natAbs_natCast, Int.natAbs_natCast]; rfl
  · obtain ⟨x, rfl⟩ : ∃ x : Nat, a = x := ⟨a.natAbs, by omega⟩
    obtain ⟨y, rfl⟩ : ∃ y : Nat, b = -y := ⟨b.natAbs, by omega⟩
    rw [Int.tdiv_neg, Int.natAbs_neg, Int.natAbs_natCast, Int.natAbs_natCast]; rfl
  · obtain ⟨x, rfl⟩ : ∃ x : Nat, a = x := ⟨a.natAbs, by omega⟩
    obtain ⟨y, rfl⟩ : ∃ y : Nat, b = y := ⟨b.natAbs, by omega⟩
    rw [Int.natAbs_natCast, Int.natAbs_natCast]; rfl
theorem tmod_abs (a b : Int) : a.tmod b = if a < 0 then -uMod a.natAbs b.natAbs else uMod a.natAbs b.natAbs := by
  have h1 : (a.tmod b).natAbs = a.natAbs % b.natAbs := Int.natAbs_tmod a b
  have h2 : 0 ≤ a → 0 ≤ a.tmod b := fun h0 => Int.tmod_nonneg b h0
  have h3 : a ≤ 0 → a.tmod b ≤ 0 := fun h0 => by
    have := Int.tmod_nonneg b (a := -a) (by omega)
    rw [Int.neg_tmod] at this; omega
  unfold uMod
  split <;> omega
theorem mod_sgn {a b : Int} (hb : I64 b) (hz : b ≠ 0) (p : Bool) (hp : decide (a < 0) = p) : sgn (uMod a.natAbs b.natAbs) p = gMod a b := by
  have hi := i64_mod a b hb
  rw [mod_of hz] at hi ⊢
  have h := tmod_abs a b
  subst hp
  by_cases ha : a < 0
  · rw [if_pos ha] at h
    rw [decide_eq_true ha, sgn_yes, ← h, wrap_in hi]
  · rw [if_neg ha] at h
    rw [decide_eq_false ha, sgn_no, ← h, wrap_in hi]
theorem div_sgn {a b : Int} (hz : b ≠ 0) (p : Bool) (hp : (decide (a < 0) != decide (b < 0)) = p) : sgn (uDiv a.natAbs b.natAbs) p = gDiv a b := by
  obtain ⟨h1, h2, h3, h4⟩ := tdiv_abs a b
  rw [div_of hz]
  subst hp
  by_cases ha : a < 0 <;> by_cases hb : b < 0
  · rw [decide_eq_true ha, decide_eq_true hb, show (true != true) = false from rfl, sgn_no, h1 ha hb]
  · rw [decide_eq_true ha, decide_eq_false hb, show (true != false) = true from rfl, sgn_yes, h2 ha (by omega)]
  · rw [decide_eq_false ha, decide_eq_true hb, show (false != true) = true from rfl, sgn_yes, h3 (by omega) hb]
  · rw [decide_eq_false ha, decide_eq_false hb, show (false != false) = false from rfl, sgn_no, h4 (by omega) (by omega)]


end Go.Proofs.YtnlljcbpjhhloaaDoor
