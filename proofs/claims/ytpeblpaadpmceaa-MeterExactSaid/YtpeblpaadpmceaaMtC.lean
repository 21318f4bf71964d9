/-
  MeterExact's walk: just as much may be charged as there is.
-/
import Derived.Test.YtpeblpaadpmceaaMtB
namespace Go.Proofs.Ytpeblpaadpmceaa
open Go Go.RowKit Go.Lib

theorem and_40 (n : Int) : ∃ N : Nat, bits BinOp.and IntKind.i64 n 1099511627775 = (N : Int) ∧ N ≤ 1099511627775 := by
  refine ⟨(BitVec.ofInt 64 n &&& BitVec.ofInt 64 1099511627775).toNat, ?_, ?_⟩
  · show IntKind.i64.wrap ((BitVec.ofInt 64 n &&& BitVec.ofInt 64 1099511627775).toNat : Int) = _
    have : (BitVec.ofInt 64 n &&& BitVec.ofInt 64 1099511627775).toNat ≤ 1099511627775 := by
      rw [BitVec.toNat_and]; exact Nat.and_le_right
    exact IntWalk.i64_in _ (by omega)
  · rw [BitVec.toNat_and]; exact Nat.and_le_right
theorem fuel_nat {q : Nat} (h : q ≤ 1099511627776) : fuelOf (q : Int) = (q : Int) := by unfold fuelOf; omega
theorem ch_ok {a f n : Int} (h0 : 0 ≤ n) (h1 : a + n ≤ f) (h2 : f ≤ 1099511627776) (ha : 0 ≤ a) : chE a f n = 0 ∧ chA a f n = a + n := chE_ok (by omega) (by omega)
set_option maxRecDepth 100000 in
set_option maxHeartbeats 8000000 in
theorem exact_walk (x y : Int) (W : World) :
    Calls Try.prog 6 #[.int .i64 x, .int .i64 y] W fun e W' => e = .returned (.bool true) ∧ Below W.heap.size W W' := by
  have HS := Lib.hid (shown_w W)
  obtain ⟨F, hF, hF1⟩ := and_40 x
  obtain ⟨Y, hY, hY1⟩ := and_40 y
  have wF : IntKind.i64.wrap ((F : Int) + 1) = (F : Int) + 1 := IntWalk.i64_in _ (by omega)
  have zF : decide ((F : Int) + 1 = 0) = false := decide_eq_false (by omega)
  have zF' : ((F : Int) + 1 == 0) = false := by rw [beq_eq_false_iff_ne]; omega
  obtain ⟨P, hP, hP1⟩ : ∃ P : Nat, (Y : Int).tmod ((F : Int) + 1) = (P : Int) ∧ P ≤ F := by
    refine ⟨Y % (F + 1), by norm_cast, ?_⟩
    have := Nat.mod_lt Y (show F + 1 > 0 by omega)
    omega
  go_enter Try.func6, Try.ntmps6
  go_upto_region 4 with (go_at_call 9; ((with_reducible refine HS.out.mono ?_); rintro e w1 ⟨rfl, b1⟩))
  have N1 := Lib.hid (show Calls Try.prog 10 #[.int .i64 (F : Int)] w1 fun e w' => e = .returned (.pointer (some ⟨w1.heap.size, 0, none⟩)) ∧ Ms W w1.heap.size 0 (F : Int) w' by
    have := ms_new (F : Int) b1
    rwa [fuel_nat (by omega)] at this)
  clear b1 hF hY zF zF' hP
  go_upto_region 5 with (go_at_call 10; ((with_reducible refine N1.out.mono ?_); clear N1; rintro e w2 ⟨rfl, h2⟩; obtain ⟨g, hg⟩ : ∃ g, w1.heap.size = g := ⟨_, rfl⟩; rw [hg] at h2 ⊢; clear hg))
  have wD : IntKind.i64.wrap ((F : Int) - (P : Int)) = (F : Int) - (P : Int) := IntWalk.i64_in _ (by omega)
  have C1 := Lib.hid (show Calls Try.prog 12 #[.pointer (some ⟨g, 0, none⟩), .int .i64 (P : Int)] w2 fun e w' => e = .returned (.int .i64 0) ∧ Ms W g (P : Int) F w' by
    have := h2.charge (P : Int)
    obtain ⟨e1, e2⟩ := ch_ok (a := 0) (f := (F : Int)) (n := (P : Int)) (by omega) (by omega) (by omega) (by omega)
    rwa [e1, e2, Int.zero_add] at this)
  have C2 := Lib.hid (fun (w : World) (h : Ms W g (P : Int) F w) => (show Calls Try.prog 12 #[.pointer (some ⟨g, 0, none⟩), .int .i64 ((F : Int) - (P : Int))] w fun e w' => e = .returned (.int .i64 0) ∧ Ms W g (F : Int) F w' by
    have := h.charge ((F : Int) - (P : Int))
    obtain ⟨e1, e2⟩ := ch_ok (a := (P : Int)) (f := (F : Int)) (n := (F : Int) - (P : Int)) (by omega) (by omega) (by omega) (by omega)
    rwa [e1, e2, show (P : Int) + ((F : Int) - (P : Int)) = F by omega] at this))
  have O1 := Lib.hid (fun (w : World) (h : Ms W g (F : Int) F w) => (show Calls Try.prog 15 #[.pointer (some ⟨g, 0, none⟩)] w fun e w' => e = .returned (.bool false) ∧ ∃ k, w' = w.drewN k by
    have := h.over
    rwa [decide_eq_false (show ¬ (F : Int) < F by omega)] at this))
  have W1 := Lib.hid (fun (w : World) (h : Ms W g (F : Int) F w) => h.now)
  have C3 := Lib.hid (fun (w : World) (h : Ms W g (F : Int) F w) => (show Calls Try.prog 12 #[.pointer (some ⟨g, 0, none⟩), .int .i64 0] w fun e w' => e = .returned (.int .i64 0) ∧ Ms W g (F : Int) F w' by
    have := h.charge 0
    obtain ⟨e1, e2⟩ := ch_ok (a := (F : Int)) (f := (F : Int)) (n := 0) (by omega) (by omega) (by omega) (by omega)
    rwa [e1, e2, Int.add_zero] at this))
  have C4 := Lib.hid (fun (w : World) (h : Ms W g (F : Int) F w) => (show Calls Try.prog 12 #[.pointer (some ⟨g, 0, none⟩), .int .i64 1] w fun e w' => e = .returned (.int .i64 8) ∧ Ms W g ((F : Int) + 1) F w' by
    have := h.charge 1
    obtain ⟨e1, e2⟩ := chE_ends (a := (F : Int)) (f := (F : Int)) (n := 1) (by omega) (by omega) (by omega)
    rwa [e1, e2] at this))
  have O2 := Lib.hid (fun (w : World) (h : Ms W g ((F : Int) + 1) F w) => (show Calls Try.prog 15 #[.pointer (some ⟨g, 0, none⟩)] w fun e w' => e = .returned (.bool true) ∧ ∃ k, w' = w.drewN k by
    have := h.over
    rwa [decide_eq_true (show (F : Int) < F + 1 by omega)] at this))
  have W2 := Lib.hid (fun (w : World) (h : Ms W g ((F : Int) + 1) F w) => h.now)
  have C5 := Lib.hid (fun (w : World) (h : Ms W g ((F : Int) + 1) F w) => (show Calls Try.prog 12 #[.pointer (some ⟨g, 0, none⟩), .int .i64 0] w fun e w' => e = .returned (.int .i64 8) ∧ Ms W g ((F : Int) + 1) F w' by
    have := h.charge 0
    obtain ⟨e1, e2⟩ := chE_over (a := (F : Int) + 1) (f := (F : Int)) (n := 0) (by omega) (by omega)
    rwa [e1, e2] at this))
  clear h2 hF1 hY1 hP1
  go_upto_region 7 with (first
    | (go_at_call 12; ((with_reducible refine C1.out.mono ?_); clear C1; rintro e w3 ⟨rfl, h3⟩))
    | (go_at_call 12; ((with_reducible refine (C2.out _ h3).mono ?_); rintro e w4 ⟨rfl, h4⟩))
    | (go_at_call 15; ((with_reducible refine (O1.out _ h4).mono ?_); rintro e w5 ⟨rfl, n5, hq⟩; rw [hq]; clear hq w5; have h5 := h4.drewN n5))
    | (go_at_call 14; ((with_reducible refine (W1.out _ h5).mono ?_); rintro e w6 ⟨rfl, hq⟩; rw [hq]; clear hq w6))
    | (go_at_call 12; ((with_reducible refine (C3.out _ h5).mono ?_); rintro e w7 ⟨rfl, h7⟩)))
  go_wp2_with (first
    | (go_at_call 12; ((with_reducible refine (C4.out _ h7).mono ?_); rintro e w8 ⟨rfl, h8⟩))
    | (go_at_call 15; ((with_reducible refine (O2.out _ h8).mono ?_); rintro e w9 ⟨rfl, n9, hq⟩; rw [hq]; clear hq w9; have h9 := h8.drewN n9))
    | (go_at_call 14; ((with_reducible refine (W2.out _ h9).mono ?_); rintro e w10 ⟨rfl, hq⟩; rw [hq]; clear hq w10))
    | (go_at_call 12; ((with_reducible refine (C5.out _ h9).mono ?_); rintro e w11 ⟨rfl, h11⟩)))
  go_ret
  exact ⟨rfl, h11.below⟩
end Go.Proofs.Ytpeblpaadpmceaa
