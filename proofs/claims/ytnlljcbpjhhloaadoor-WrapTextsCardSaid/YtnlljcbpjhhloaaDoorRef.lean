/-
  The contracts of the document's own arithmetic (package evenhandref01).
-/
import Derived.Test.YtnlljcbpjhhloaaDoorChecked
import Derived.Test.YtnlljcbpjhhloaaDoorRefNums
import Derived.WalkKit
import Derived.Lib.Hide
namespace Go.Proofs.YtnlljcbpjhhloaaDoor
open Go Go.RowKit Go.Lib

def PlusRel (x y : Nat) (a b i : Value) : Prop := ∃ (u v k : Nat), a = .int .u64 u ∧ b = .int .u64 v ∧ i = .int .i64 k ∧ k ≤ 64 ∧ PlusAt x y u v k

set_option maxHeartbeats 1000000 in
set_option maxRecDepth 100000 in
theorem plus_nat (x y : Nat) (w : World) (hx : x < 18446744073709551616) (hy : y < 18446744073709551616) :
    Calls Tryd.prog 32 #[.int .u64 x, .int .u64 y] w fun e w' => e = .returned (.int .u64 (uAdd x y)) ∧ w = w' := by
  go_enter Tryd.func32, Tryd.ntmps32
  go_wp2
  go_loop [0, 1, 5] (fun a b i => PlusRel x y a b i) (fun _ _ i => 64 - (intOf i).toNat)
  case atStart => exact ⟨x, y, 0, rfl, rfl, rfl, by omega, plus_start hx hy⟩
  case round =>
    obtain ⟨u, v, k, rfl, rfl, rfl, hk, hp⟩ := hrel
    have HP := Lib.hid hp
    obtain ⟨hu, hv, _, _⟩ := hp
    by_cases hlt : k < 64
    · go_wp2
      refine ⟨⟨u ^^^ v, (u &&& v) * 2 % 18446744073709551616, k + 1, ?_, ?_, by go_num, by omega, plus_step hlt HP.out⟩, ?_⟩
      · rw [bits_xor_u64_nat u v hu hv]
      · rw [bits_and_u64_nat u v hu hv, IntKind.wrap_u64]; go_num
      · simp [intOf]; omega
    · go_wp2
      go_ret
      exact ⟨congrArg (fun z => Ending.returned (.int .u64 z)) (plus_end (by omega) hk HP.out), rfl⟩

theorem plus_any (a b : Int) (w : World) (ha : U64 a) (hb : U64 b) :
    Calls Tryd.prog 32 #[.int .u64 a, .int .u64 b] w fun e w' => e = .returned (.int .u64 (uAdd a b)) ∧ w = w' := by
  obtain ⟨x, rfl, hx⟩ := u64_nat ha
  obtain ⟨y, rfl, hy⟩ := u64_nat hb
  exact plus_nat x y w hx hy

set_option maxRecDepth 100000 in
theorem minus_any (a b : Int) (w : World) (ha : U64 a) (hb : U64 b) :
    Calls Tryd.prog 30 #[.int .u64 a, .int .u64 b] w fun e w' => e = .returned (.int .u64 (uSub a b)) ∧ w = w' := by
  go_enter Tryd.func30, Tryd.ntmps30
  go_wp2_with (go_at_call 32; ((with_reducible refine (plus_any _ _ _ (by first | assumption | exact u64_bits _ _ _) (by first | exact u64_add _ _ | decide)).mono ?_); rintro e w1 ⟨rfl, rfl⟩))
  go_ret
  exact ⟨congrArg (fun z => Ending.returned (.int .u64 z)) (minus_eq a hb), rfl⟩

def TimesRel (x y : Nat) (a i : Value) : Prop := ∃ (u : Int) (k : Nat), a = .int .u64 u ∧ i = .int .i64 k ∧ k ≤ 64 ∧ U64 u ∧ u = uMul x ((y % 2 ^ k : Nat) : Int)

set_option maxHeartbeats 1000000 in
set_option maxRecDepth 100000 in
theorem times_nat (x y : Nat) (w : World) (hy : y < 18446744073709551616) :
    Calls Tryd.prog 33 #[.int .u64 x, .int .u64 y] w fun e w' => e = .returned (.int .u64 (uMul x y)) ∧ w = w' := by
  go_enter Tryd.func33, Tryd.ntmps33
  go_wp2
  go_loop [5, 6] (fun a i => TimesRel x y a i) (fun _ i => 64 - (intOf i).toNat)
  case atStart => exact ⟨0, 0, rfl, rfl, by omega, by decide, times_start x y⟩
  case round =>
    obtain ⟨u, k, rfl, rfl, hk, hu, he⟩ := hrel
    have HE := Lib.hid he; clear he
    by_cases hlt : k < 64
    · by_cases hb : y / 2 ^ k % 2 = 1
      · have hbit : (bits BinOp.and IntKind.u64 ((y : Int) / 2 ^ k) 1 == 1) = true := by rw [bit_of y k hy, hb]; rfl
        have HB := Lib.hid hb; clear hb
        go_wp2_with (go_at_call 32; ((with_reducible refine (plus_any _ _ _ (by assumption) (by exact u64_uw _)).mono ?_); rintro e w1 ⟨rfl, rfl⟩))
        refine ⟨⟨_, k + 1, rfl, by go_num, by omega, u64_add _ _, ?_⟩, ?_⟩
        · rw [HE.out]; exact times_yes x y k HB.out
        · simp [intOf]; omega
      · have hbit : (bits BinOp.and IntKind.u64 ((y : Int) / 2 ^ k) 1 == 1) = false := by
          rw [bit_of y k hy]; exact beq_eq_false_iff_ne.2 (by omega)
        have HB := Lib.hid hb; clear hb
        go_wp2
        refine ⟨⟨u, k + 1, rfl, by go_num, by omega, hu, ?_⟩, ?_⟩
        · rw [HE.out]; exact times_no x y k HB.out
        · simp [intOf]; omega
    · go_wp2
      go_ret
      obtain rfl : k = 64 := by omega
      exact ⟨congrArg (fun z => Ending.returned (.int .u64 z)) (HE.out.trans (times_end x y hy)), rfl⟩

theorem times_any (a b : Int) (w : World) (ha : U64 a) (hb : U64 b) :
    Calls Tryd.prog 33 #[.int .u64 a, .int .u64 b] w fun e w' => e = .returned (.int .u64 (uMul a b)) ∧ w = w' := by
  obtain ⟨x, rfl, _⟩ := u64_nat ha
  obtain ⟨y, rfl, hy⟩ := u64_nat hb
  exact times_nat x y w hy

theorem ret_two {a a' b b' : Int} (h : a = a') (h' : b = b') : Ending.returned (.tuple #[.int .u64 a, .int .u64 b]) = Ending.returned (.tuple #[.int .u64 a', .int .u64 b']) := by rw [h, h']

def PartRel (x y : Nat) (a l i : Value) : Prop := ∃ (u v k : Nat), a = .int .u64 u ∧ l = .int .u64 v ∧ i = .int .i64 ((k : Int) - 1) ∧ k ≤ 64 ∧ PartAt x y u v k

set_option maxHeartbeats 1000000 in
set_option maxRecDepth 100000 in
theorem parted_nat (x y : Nat) (w : World) (hx : x ≤ 9223372036854775808) (hy0 : 0 < y) (hy : y ≤ 9223372036854775808) :
    Calls Tryd.prog 35 #[.int .u64 x, .int .u64 y] w fun e w' => e = .returned (.tuple #[.int .u64 (uDiv x y), .int .u64 (uMod x y)]) ∧ w = w' := by
  go_enter Tryd.func35, Tryd.ntmps35
  go_wp2
  go_loop [6, 7, 8] (fun a l i => PartRel x y a l i) (fun _ _ i => (intOf i + 1).toNat)
  case atStart => exact ⟨0, 0, 64, rfl, rfl, rfl, by omega, part_start x y hx⟩
  case round =>
    obtain ⟨u, v, k, rfl, rfl, rfl, hk, hp⟩ := hrel
    cases k with
    | zero =>
      have HP := Lib.hid hp; clear hp
      go_wp2
      go_ret2
      obtain ⟨e1, e2⟩ := part_end HP.out
      exact ⟨ret_two (by rw [e1]; rfl) (by rw [e2]; rfl), rfl⟩
    | succ j =>
      have hbd := part_bounds hx hy0 hp
      obtain ⟨hv, hu⟩ := hbd
      have hst := part_step hy0 hp
      clear hp
      rw [show (((j + 1 : Nat) : Int) - 1) = (j : Int) from by omega]
      obtain ⟨c, hc⟩ : ∃ c : Nat, c = x / 2 ^ j % 2 := ⟨_, rfl⟩
      rw [← hc] at hst
      have hc1 : c ≤ 1 := by omega
      have b1 : bits BinOp.and IntKind.u64 ((x : Int) / 2 ^ j) 1 = (c : Int) := by rw [bit_of x j (by omega), ← hc]
      have b2 : bits BinOp.or IntKind.u64 ((v : Int) * 2) (c : Int) = (v : Int) * 2 + (c : Int) := or_bits v c (by omega) hc1
      have b3 : bits BinOp.or IntKind.u64 ((u : Int) * 2) 1 = (u : Int) * 2 + 1 := or_bits u 1 (by omega) (by omega)
      have b4 : ((v : Int) / 9223372036854775808 == 1) = false := beq_eq_false_iff_ne.2 (by omega)
      have v1 : (v : Int) < 9223372036854775808 := by omega
      have u1 : (u : Int) < 9223372036854775808 := by omega
      have HS := Lib.hid hst; clear hst hc
      by_cases hge : y ≤ v * 2 + c
      · have g1 : (y : Int) ≤ (v : Int) * 2 + (c : Int) := by omega
        go_wp2
        refine ⟨⟨u * 2 + 1, v * 2 + c - y, j, by go_num, ?_, rfl, by omega, HS.out.1 hge⟩, by simp [intOf]⟩
        rw [show ((v * 2 + c - y : Nat) : Int) = (v : Int) * 2 + (c : Int) - (y : Int) from by omega]
      · have g1 : (v : Int) * 2 + (c : Int) < (y : Int) := by omega
        have g2 : ¬ (y : Int) ≤ (v : Int) * 2 + (c : Int) := by omega
        have g3 : decide ((y : Int) ≤ (v : Int) * 2 + (c : Int)) = false := decide_eq_false g2
        have g4 : decide (y ≤ v * 2 + c) = false := decide_eq_false hge
        go_wp2
        exact ⟨⟨u * 2, v * 2 + c, j, by go_num, by go_num, rfl, by omega, HS.out.2 (by omega)⟩, by simp [intOf]⟩

set_option maxRecDepth 100000 in
theorem one_any (p : Bool) (w : World) :
    Calls Tryd.prog 31 #[.bool p] w fun e w' => e = .returned (.int .i64 (g01 p)) ∧ w = w' := by
  cases p
  all_goals
    go_enter Tryd.func31, Tryd.ntmps31
    go_wp2
    go_ret
    exact ⟨rfl, rfl⟩


set_option maxRecDepth 100000 in
theorem size_any (a : Int) (w : World) (ha : I64 a) :
    Calls Tryd.prog 34 #[.int .i64 a] w fun e w' => e = .returned (.tuple #[.int .u64 (usz a), .bool (decide (a < 0))]) ∧ w = w' := by
  have ha' := ha
  unfold I64 at ha'
  obtain ⟨a0, a1⟩ := ha'
  by_cases h : a < 0
  · rw [decide_eq_true h, ← size_neg ha h]
    go_enter Tryd.func34, Tryd.ntmps34
    go_wp2_with (go_at_call 30; ((with_reducible refine (minus_any _ _ _ (by decide) (by exact u64_uw _)).mono ?_); rintro e w1 ⟨rfl, rfl⟩))
    go_ret2
    exact ⟨rfl, rfl⟩
  · rw [decide_eq_false h, show usz a = a by unfold usz; omega]
    have h' : 0 ≤ a := by omega
    go_enter Tryd.func34, Tryd.ntmps34
    go_wp2
    go_ret2
    exact ⟨rfl, rfl⟩


set_option maxRecDepth 100000 in
theorem signed_any (n : Int) (p : Bool) (w : World) (hn : U64 n) :
    Calls Tryd.prog 36 #[.int .u64 n, .bool p] w fun e w' => e = .returned (.int .i64 (sgn n p)) ∧ w = w' := by
  cases p
  · go_enter Tryd.func36, Tryd.ntmps36
    go_wp2
    go_ret
    exact ⟨rfl, rfl⟩
  · go_enter Tryd.func36, Tryd.ntmps36
    go_wp2_with (go_at_call 30; ((with_reducible refine (minus_any _ _ _ (by decide) (by assumption)).mono ?_); rintro e w1 ⟨rfl, rfl⟩))
    go_ret
    exact ⟨rfl, rfl⟩

theorem parted_any (a b : Int) (w : World) (ha : I64 a) (hb : I64 b) (hz : b ≠ 0) :
    Calls Tryd.prog 35 #[.int .u64 (usz a), .int .u64 (usz b)] w fun e w' => e = .returned (.tuple #[.int .u64 (uDiv a.natAbs b.natAbs), .int .u64 (uMod a.natAbs b.natAbs)]) ∧ w = w' := by
  unfold I64 at ha hb
  exact parted_nat a.natAbs b.natAbs w (by omega) (by omega) (by omega)

end Go.Proofs.YtnlljcbpjhhloaaDoor
