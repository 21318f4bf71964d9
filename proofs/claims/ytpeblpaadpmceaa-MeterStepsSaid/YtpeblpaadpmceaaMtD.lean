/-
  MeterSteps's walk: by charges of one size it is over behind just as many as go into the fuel.
-/
import Derived.Test.YtpeblpaadpmceaaMtR
import Derived.Deep.RegionHeld3
namespace Go.Proofs.Ytpeblpaadpmceaa
open Go Go.RowKit Go.Lib

theorem fuel_nat {q : Nat} (h : q ≤ 1099511627776) : fuelOf (q : Int) = (q : Int) := by unfold fuelOf; omega
theorem steps_room {F D Q k : Nat} (hQ : F / D = Q) (_hD : 0 < D) (hk : k < Q) : D * k + D ≤ F := by
  have h1 : D * (k + 1) ≤ D * Q := Nat.mul_le_mul_left D hk
  have h2 : D * (F / D) ≤ F := Nat.mul_div_le F D
  rw [hQ] at h2
  rw [Nat.mul_succ] at h1
  omega
theorem steps_end {F D Q : Nat} (hQ : F / D = Q) (hD : 0 < D) : F < D * Q + D := by
  have h1 := Nat.div_add_mod F D
  have h2 := Nat.mod_lt F hD
  rw [hQ] at h1
  omega
def StRel (W : World) (g F D Q : Nat) (i : Value) (wr : World) : Prop := ∃ k : Nat, i = .int .i64 k ∧ k ≤ Q ∧ Ms W g ((D * k : Nat) : Int) F wr
set_option maxRecDepth 100000 in
set_option maxHeartbeats 8000000 in
theorem steps_walk (x y : Int) (W : World) :
    Calls Try.prog 8 #[.int .i64 x, .int .i64 y] W fun e W' => e = .returned (.bool true) ∧ Below W.heap.size W W' := by
  have HS := Lib.hid (shown_w W)
  obtain ⟨X, hX, hX1⟩ := and_16 x
  obtain ⟨Y, hY, hY1⟩ := and_16 y
  obtain ⟨F, hF, hF1⟩ : ∃ F : Nat, (X : Int).tmod 1001 = (F : Int) ∧ F ≤ 1000 := ⟨X % 1001, by norm_cast, by omega⟩
  obtain ⟨E, hE, hE1⟩ : ∃ E : Nat, (Y : Int).tmod 100 = (E : Int) ∧ E ≤ 99 := ⟨Y % 100, by norm_cast, by omega⟩
  obtain ⟨D, hD, hD0, hD1⟩ : ∃ D : Nat, 1 + (E : Int) = (D : Int) ∧ 0 < D ∧ D ≤ 100 := ⟨1 + E, by omega, by omega, by omega⟩
  have wD : IntKind.i64.wrap (1 + (E : Int)) = (D : Int) := by rw [hD]; exact IntWalk.i64_in _ (by omega)
  have zD : decide ((D : Int) = 0) = false := decide_eq_false (by omega)
  have zN : ¬ D = 0 := by omega
  have zN' : decide (D = 0) = false := decide_eq_false (by omega)
  have zD' : ((D : Int) == 0) = false := by rw [beq_eq_false_iff_ne]; omega
  obtain ⟨Q, hQ⟩ : ∃ Q : Nat, F / D = Q := ⟨_, rfl⟩
  have hQ1 : Q ≤ 1000 := by rw [← hQ]; exact Nat.le_trans (Nat.div_le_self F D) hF1
  have hq : (F : Int).tdiv (D : Int) = (Q : Int) := by rw [← hQ]; norm_cast
  have wQ : IntKind.i64.wrap (Q : Int) = (Q : Int) := IntWalk.i64_in _ (by omega)
  have HQ := Lib.hid hQ
  clear hQ
  go_enter Try.func8, Try.ntmps8
  go_upto_region 4 with (go_at_call 9; ((with_reducible refine HS.out.mono ?_); rintro e w1 ⟨rfl, b1⟩))
  have N1 := Lib.hid (show Calls Try.prog 10 #[.int .i64 (F : Int)] w1 fun e w' => e = .returned (.pointer (some ⟨w1.heap.size, 0, none⟩)) ∧ Ms W w1.heap.size 0 (F : Int) w' by
    have := ms_new (F : Int) b1
    rwa [fuel_nat (by omega)] at this)
  clear b1 hX hY hX1 hY1 hF hE wD hD hE1
  go_upto_region 7 with (go_at_call 10; ((with_reducible refine N1.out.mono ?_); clear N1; rintro e w2 ⟨rfl, h2⟩; obtain ⟨g, hg⟩ : ∃ g, w1.heap.size = g := ⟨_, rfl⟩; rw [hg] at h2 ⊢; clear hg))
  go_wp2
  go_loopw [7] (fun i wr => StRel W g F D Q i wr) (fun i _ => Q - (RowKit.intOf i).toNat)
  case atStart => exact ⟨0, rfl, Nat.zero_le _, by rw [Nat.mul_zero]; exact h2⟩
  case round =>
    obtain ⟨k, rfl, hk, hh⟩ := hrel
    clear h2
    by_cases hlt : k < Q
    · have i0 : decide ((k : Int) < (Q : Int)) = true := decide_eq_true (by omega)
      have i0' : decide (k < Q) = true := decide_eq_true hlt
      have hroom := steps_room HQ.out hD0 hlt
      have em : ((D * k : Nat) : Int) + (D : Int) = ((D * (k + 1) : Nat) : Int) := by rw [Nat.mul_succ]; omega
      have C1 := Lib.hid (show Calls Try.prog 12 #[.pointer (some ⟨g, 0, none⟩), .int .i64 (D : Int)] wr fun e w' => e = .returned (.int .i64 0) ∧ Ms W g ((D * (k + 1) : Nat) : Int) F w' by
        have := hh.charge (D : Int)
        obtain ⟨e1, e2⟩ := chE_ok (a := ((D * k : Nat) : Int)) (f := (F : Int)) (n := (D : Int)) (by omega) (by omega)
        rwa [e1, e2, em] at this)
      have W1 := Lib.hid (fun (w : World) (h : Ms W g ((D * (k + 1) : Nat) : Int) F w) => h.now)
      have w1 : IntKind.i64.wrap ((k : Int) + 1) = (k : Int) + 1 := IntWalk.i64_in _ (by omega)
      have ep : (D : Int) * ((k : Int) + 1) = ((D * (k + 1) : Nat) : Int) := by push_cast; rfl
      have w2 : IntKind.i64.wrap ((D : Int) * ((k : Int) + 1)) = ((D * (k + 1) : Nat) : Int) := by
        rw [ep]
        exact IntWalk.i64_in _ (by rw [Nat.mul_succ]; omega)
      generalize hM : D * (k + 1) = M at *
      have HM := Lib.hid hM
      clear hh em hM ep hroom
      have HLT := Lib.hid hlt
      clear hlt
      go_wp2_with (first
        | (go_at_call 12; ((with_reducible refine C1.out.mono ?_); rintro e w3 ⟨rfl, h3⟩))
        | (go_at_call 14; ((with_reducible refine (W1.out _ h3).mono ?_); rintro e w4 ⟨rfl, hq4⟩; rw [hq4]; clear hq4 w4)))
      go_roundw
      case rel => exact ⟨k + 1, by go_num, HLT.out, by rw [HM.out]; exact h3⟩
      case measure => have := HLT.out; simp [RowKit.intOf]; omega
    · obtain rfl : k = Q := by omega
      have i0 : decide ((k : Int) < (k : Int)) = false := decide_eq_false (by omega)
      have i0' : decide (k < k) = false := decide_eq_false (by omega)
      have hend := steps_end HQ.out hD0
      obtain ⟨M, hM⟩ : ∃ M : Nat, D * k + D = M := ⟨_, rfl⟩
      have em : ((D * k : Nat) : Int) + (D : Int) = (M : Int) := by omega
      have hM2 : D * k ≤ F := by have := Nat.mul_div_le F D; rw [HQ.out] at this; exact this
      have C1 := Lib.hid (show Calls Try.prog 12 #[.pointer (some ⟨g, 0, none⟩), .int .i64 (D : Int)] wr.drew fun e w' => e = .returned (.int .i64 8) ∧ Ms W g (M : Int) F w' by
        have hd : Ms W g ((D * k : Nat) : Int) F wr.drew := hh.drewN 1
        have := hd.charge (D : Int)
        obtain ⟨e1, e2⟩ := chE_ends (a := ((D * k : Nat) : Int)) (f := (F : Int)) (n := (D : Int)) (by omega) (by omega) (by omega)
        rwa [e1, e2, em] at this)
      have W1 := Lib.hid (fun (w : World) (h : Ms W g (M : Int) F w) => h.now)
      have O1 := Lib.hid (fun (w : World) (h : Ms W g (M : Int) F w) => (show Calls Try.prog 15 #[.pointer (some ⟨g, 0, none⟩)] w fun e w' => e = .returned (.bool true) ∧ ∃ k, w' = w.drewN k by
        have := h.over
        rwa [decide_eq_true (show (F : Int) < M by omega)] at this))
      have w1 : IntKind.i64.wrap ((k : Int) + 1) = (k : Int) + 1 := IntWalk.i64_in _ (by omega)
      have w2 : IntKind.i64.wrap ((D : Int) * ((k : Int) + 1)) = (M : Int) := by
        have ep : (D : Int) * ((k : Int) + 1) = ((D * k + D : Nat) : Int) := by push_cast; rw [Int.mul_add, Int.mul_one]
        rw [ep, hM]
        exact IntWalk.i64_in _ (by omega)
      clear hh em hM hlt hend hM2
      go_wp2
      go_region_held3 (fun _ => True) (trivial) (first
        | (go_at_call 12; ((with_reducible refine C1.out.mono ?_); rintro e w3 ⟨rfl, h3⟩))
        | (go_at_call 14; ((with_reducible refine (W1.out _ h3).mono ?_); rintro e w4 ⟨rfl, hq4⟩; rw [hq4]; clear hq4 w4))
        | (go_at_call 15; ((with_reducible refine (O1.out _ h3).mono ?_); rintro e w5 ⟨rfl, n5, hq5⟩; rw [hq5]; clear hq5 w5)))
      go_wp2
      go_ret
      exact ⟨rfl, h3.below.trans ⟨rfl, rfl, rfl, Nat.le_refl _, fun _ _ => rfl⟩⟩
end Go.Proofs.Ytpeblpaadpmceaa
