/-
  The contracts of package lex's small functions: what a byte is, how far bytes of a kind reach, where a comment ends, what the first token is.
-/
import Derived.Test.YtldakohmcmcfjaaChecked
import Derived.Test.YtldakohmcmcfjaaLexP
import Derived.WalkKit
import Derived.Lib.Hide
import Derived.Lib.OthersKept
import Derived.Lib.BytesEntry
import Derived.Deep.QuietTactic
import Derived.BigQuiet
namespace Go.Proofs.Ytldakohmcmcfjaa
open Go Go.RowKit Go.Lib

theorem ret_bool {a b : Bool} (h : a = b) : Ending.returned (.bool a) = .returned (.bool b) := by rw [h]
theorem ret_int {k : IntKind} {a b : Int} (h : a = b) : Ending.returned (.int k a) = .returned (.int k b) := by rw [h]

theorem letter_any (x : Int) (w : World) (h0 : 0 ≤ x) (h1 : x ≤ 255) :
    Calls Try.prog 16 #[.int .u8 x] w fun e w' => e = .returned (.bool (letB x)) ∧ w = w' := by
  go_enter Try.func16, Try.ntmps16
  go_wp2
  all_goals
    go_ret
    refine ⟨ret_bool ?_, rfl⟩
    unfold letB
    rw [Bool.eq_iff_iff]
    simp only [decide_eq_true_eq, Bool.or_eq_true, Bool.false_eq_true, false_iff, true_iff]
    omega

theorem digit_any (x : Int) (w : World) (h0 : 0 ≤ x) (h1 : x ≤ 255) :
    Calls Try.prog 22 #[.int .u8 x] w fun e w' => e = .returned (.bool (digB x)) ∧ w = w' := by
  go_enter Try.func22, Try.ntmps22
  go_wp2
  all_goals
    go_ret
    refine ⟨ret_bool ?_, rfl⟩
    unfold digB
    rw [Bool.eq_iff_iff]
    simp only [decide_eq_true_eq, Bool.or_eq_true, Bool.false_eq_true, false_iff, true_iff]
    omega

theorem parts_any (x : Int) (w : World) :
    Calls Try.prog 13 #[.int .u8 x] w fun e w' => e = .returned (.bool (blkB x)) ∧ w = w' := by
  go_enter Try.func13, Try.ntmps13
  go_wp2
  all_goals
    go_ret
    refine ⟨ret_bool ?_, rfl⟩
    unfold blkB
    try simp_all

theorem inword_any (x : Int) (w : World) (h0 : 0 ≤ x) (h1 : x ≤ 255) :
    Calls Try.prog 21 #[.int .u8 x] w fun e w' => e = .returned (.bool (inwB x)) ∧ w = w' := by
  go_enter Try.func21, Try.ntmps21
  go_wp2_with (first
    | (go_at_call 16; ((with_reducible refine (letter_any _ _ h0 h1).mono ?_); rintro e w1 ⟨rfl, rfl⟩))
    | (go_at_call 22; ((with_reducible refine (digit_any _ _ h0 h1).mono ?_); rintro e w1 ⟨rfl, rfl⟩)))
  all_goals
    go_ret
    refine ⟨ret_bool ?_, rfl⟩
    unfold inwB
    try simp_all

/-- A slice of bytes: the address is asked for only where there is a byte. -/
def Row (w : World) (A : Option Addr) (l : List UInt8) : Prop :=
  0 < l.length → ∃ b o, A = some ⟨b, o, none⟩ ∧ b < w.heap.size ∧ ∀ i, i < l.length → w.cell? ⟨b, o + i, none⟩ = some (.int .u8 (nth l i))

theorem reachL_at (p : Int → Bool) (l : List UInt8) (k : Nat) (h : k < l.length) : reachL p (l.drop k) = if p (nth l k) then reachL p (l.drop (k + 1)) + 1 else 0 := by
  rw [drop_cons h, reachL]; rfl

set_option maxHeartbeats 800000 in
theorem reach_word (b o cap : Nat) (l : List UInt8) (w : World) (hl : l.length ≤ 65536)
    (hc : ∀ i, i < l.length → w.cell? ⟨b, o + i, none⟩ = some (.int .u8 (nth l i))) :
    Calls Try.prog 20 #[.slice (some ⟨b, o, none⟩) l.length cap, .func (.func 21) #[] #[]] w fun e w' => e = .returned (.int .i64 (reachL inwB l)) ∧ w = w' := by
  have HC := Lib.hid hc; clear hc
  go_enter Try.func20, Try.ntmps20
  go_wp2
  go_loop [5] (fun i => ∃ k : Nat, k ≤ l.length ∧ i = .int .i64 k ∧ reachL inwB l = k + reachL inwB (l.drop k)) (fun i => l.length - (intOf i).toNat)
  case atStart => exact ⟨0, Nat.zero_le _, rfl, by simp⟩
  case round =>
    obtain ⟨k, hk, rfl, hr⟩ := hrel
    have HR := Lib.hid hr; clear hr
    by_cases hlt : k < l.length
    · have hcell := HC.out k hlt
      obtain ⟨r0, r1⟩ := nth_range l k
      have HS := Lib.hid (reachL_at inwB l k hlt)
      cases hpk : inwB (nth l k) with
      | true =>
        go_wp2_with (go_at_call 21; ((with_reducible refine (inword_any _ _ r0 r1).mono ?_); rintro e w1 ⟨rfl, rfl⟩))
        go_round
        case rel => exact ⟨k + 1, by omega, by go_num, by rw [HR.out, HS.out, if_pos hpk]; omega⟩
        case measure => simp [intOf]; omega
      | false =>
        go_wp2_with (go_at_call 21; ((with_reducible refine (inword_any _ _ r0 r1).mono ?_); rintro e w1 ⟨rfl, rfl⟩))
        go_ret
        exact ⟨ret_int (by rw [HR.out, HS.out, if_neg (by rw [hpk]; decide)]; rfl), rfl⟩
    · go_wp2
      go_ret
      exact ⟨ret_int (by rw [HR.out, List.drop_eq_nil_of_le (by omega)]; rfl), rfl⟩

set_option maxHeartbeats 800000 in
theorem reach_digits (b o cap : Nat) (l : List UInt8) (w : World) (hl : l.length ≤ 65536)
    (hc : ∀ i, i < l.length → w.cell? ⟨b, o + i, none⟩ = some (.int .u8 (nth l i))) :
    Calls Try.prog 20 #[.slice (some ⟨b, o, none⟩) l.length cap, .func (.func 22) #[] #[]] w fun e w' => e = .returned (.int .i64 (reachL digB l)) ∧ w = w' := by
  have HC := Lib.hid hc; clear hc
  go_enter Try.func20, Try.ntmps20
  go_wp2
  go_loop [5] (fun i => ∃ k : Nat, k ≤ l.length ∧ i = .int .i64 k ∧ reachL digB l = k + reachL digB (l.drop k)) (fun i => l.length - (intOf i).toNat)
  case atStart => exact ⟨0, Nat.zero_le _, rfl, by simp⟩
  case round =>
    obtain ⟨k, hk, rfl, hr⟩ := hrel
    have HR := Lib.hid hr; clear hr
    by_cases hlt : k < l.length
    · have hcell := HC.out k hlt
      obtain ⟨r0, r1⟩ := nth_range l k
      have HS := Lib.hid (reachL_at digB l k hlt)
      cases hpk : digB (nth l k) with
      | true =>
        go_wp2_with (go_at_call 22; ((with_reducible refine (digit_any _ _ r0 r1).mono ?_); rintro e w1 ⟨rfl, rfl⟩))
        go_round
        case rel => exact ⟨k + 1, by omega, by go_num, by rw [HR.out, HS.out, if_pos hpk]; omega⟩
        case measure => simp [intOf]; omega
      | false =>
        go_wp2_with (go_at_call 22; ((with_reducible refine (digit_any _ _ r0 r1).mono ?_); rintro e w1 ⟨rfl, rfl⟩))
        go_ret
        exact ⟨ret_int (by rw [HR.out, HS.out, if_neg (by rw [hpk]; decide)]; rfl), rfl⟩
    · go_wp2
      go_ret
      exact ⟨ret_int (by rw [HR.out, List.drop_eq_nil_of_le (by omega)]; rfl), rfl⟩

end Go.Proofs.Ytldakohmcmcfjaa
