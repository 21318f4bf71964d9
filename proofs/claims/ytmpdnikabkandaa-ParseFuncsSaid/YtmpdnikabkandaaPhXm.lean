/-
  ParseFuncs: the walk.
-/
import Derived.Test.YtmpdnikabkandaaPq5
import Derived.Test.YtmpdnikabkandaaPhWm
namespace Go.Proofs.Ytmpdnikabkandaa
open Go Go.RowKit Go.Lib

set_option maxHeartbeats 4000000 in
set_option maxRecDepth 100000 in
theorem funcs_go (i1 i2 i3 N P Q : Int) (n m a : Nat) (w : World) (hN : bits BinOp.and IntKind.i64 i1 65535 = N) (hP : bits BinOp.and IntKind.i64 i2 65535 = P) (hQ : bits BinOp.and IntKind.i64 i3 65535 = Q) (hn : N.tmod 41 = (n : Int)) (hm : P.tmod 13 = (m : Int)) (ha : Q.tmod 13 = (a : Int)) (hn' : n < 41) (hm' : m < 13) (ha' : a < 13) :
    Calls Try.prog 8 #[.int .i64 i1, .int .i64 i2, .int .i64 i3] w fun e w' => e = .returned (.bool true) ∧ Fr w w' := by
  have h := Fr.refl w
  have HS := Lib.hid (shown4_fr w w h)
  have kb := run_bs
  have HM3 := Lib.hid hm'
  have HN3 := Lib.hid hn'
  have HA3 := Lib.hid ha'
  clear hn' hm' ha'
  go_enter Try.func8, Try.ntmps8
  go_upto_region 9 with (go_at_call 11; ((with_reducible refine HS.out.mono ?_); rintro e w1 ⟨rfl, F1⟩))
  go_loopw [8, 9, 10, 11] (fun t a b j wr => ∃ i wv av : Nat, i ≤ n ∧ t = .string (baT (fnsL m 0 i)) ∧ a = .int .i64 wv ∧ b = .int .i64 av ∧ j = .int .i64 i ∧ S1 m (fnsL m 0 32).length i wv av ∧ Fr w wr) (fun _ _ _ j _ => n - (intOf j).toNat)
  case atStart => exact ⟨0, 0, 0, Nat.zero_le _, rfl, rfl, rfl, rfl, ⟨fun h => ⟨fun _ => ⟨rfl, rfl⟩, fun e => by omega⟩, fun h => ⟨fun _ => ⟨rfl, rfl⟩, fun e => by omega⟩⟩, F1⟩
  case round =>
  obtain ⟨i, wv, av, hi, rfl, rfl, rfl, rfl, hS1, hF⟩ := hrel
  by_cases hlt : i < n
  · have HI1 := Lib.hid hlt
    have HNI := Lib.hid (fun w => number_any i (by have := HN3.out; omega) w)
    have hii : (i : Int) < (n : Int) := by omega
    have i41 : i < 41 := by have := HN3.out; omega
    have f1 := fnsL_len HM3.out i 0
    have d1 : (baT (dg i)).size ≤ 2 := by rw [baT_size]; exact dg_len
    have f2 : (baT (fnsL m 0 i)).size ≤ 2460 := by rw [baT_size]; have := HN3.out; omega
    have r1 : ¬ 9223372036854775807 < (baT (fnsL m 0 i)).size + 6 := by omega
    have r2 : ¬ 9223372036854775807 < (baT (fnsL m 0 i)).size + 6 + (baT (dg i)).size := by omega
    have r3 : ¬ 9223372036854775807 < (baT (fnsL m 0 i)).size + 6 + (baT (dg i)).size + 1 := by omega
    have HPL := Lib.hid (fun k => show (preL m i ++ parL k).length ≤ 2500 + 4 * k by
      rw [List.length_append]
      have := preL_len (i := i) HM3.out (by have := HN3.out; omega)
      have := parL_len k
      omega)
    clear f1 d1 f2 hlt hi
    by_cases h32 : i = 32
    · have u1 : ((i : Int) == 32) = true := by rw [beq_iff_eq]; omega
      by_cases hm8 : m ≤ 8
      · have hw := (hS1.2 hm8).1 (by omega)
        have v1 : ((wv : Int) == 0) = true := by rw [beq_iff_eq]; omega
        have HI32 := Lib.hid h32
        clear hw
        have HZ0 := Lib.hid (show S2 m (fnsL m 0 32).length i 0 10 (fnsL m 0 32).length from by rw [h32]; exact s12' hm8)
        clear hS1 h32
        go_upto_region 16 with (go_at_call 16; ((with_reducible refine (HNI.out _).mono ?_); rintro e w4 ⟨rfl, e4⟩))
        have hF1 := hF.below e4
        go_loopw [8, 9, 10, 12] (fun t a b j wr2 => ∃ k wv av : Nat, k ≤ m ∧ t = .string (baT (preL m i ++ parL k)) ∧ a = .int .i64 wv ∧ b = .int .i64 av ∧ j = .int .i64 k ∧ S2 m (fnsL m 0 32).length i k wv av ∧ Fr w wr2) (fun _ _ _ j _ => m - (intOf j).toNat)
        case atStart => exact ⟨0, 10, (fnsL m 0 32).length, Nat.zero_le _, by rw [fn_open], rfl, by rw [HI32.out, baT_size], rfl, HZ0.out, hF1⟩
        case round =>
        obtain ⟨k, wv, av, hk, rfl, rfl, rfl, rfl, hS2, hF2⟩ := hrel
        by_cases hlt2 : k < m
        · skip
          have m13 := HM3.out
          have p4 := HPL.out k
          have q1 : ¬ 9223372036854775807 < (baT (preL m i ++ parL k)).size + 1 := by rw [baT_size]; omega
          have q2 : ¬ 9223372036854775807 < (baT (preL m i ++ parL k)).size + 1 + 1 := by rw [baT_size]; omega
          have d2 : (baT (dg k)).size ≤ 2 := by rw [baT_size]; exact dg_len
          have q3 : ¬ 9223372036854775807 < (baT (preL m i ++ parL k)).size + 1 + 1 + (baT (dg k)).size := by have := dg_len (m := k); rw [baT_size, baT_size]; omega
          have q4 : ¬ 9223372036854775807 < (baT (preL m i ++ parL k)).size + 1 + (baT (dg k)).size := by have := dg_len (m := k); rw [baT_size, baT_size]; omega
          have HNK := Lib.hid (fun w => number_any k (by have := HM3.out; omega) w)
          have HK1 := Lib.hid hlt2
          have hki2 : (k : Int) < (m : Int) := by omega
          have k13 : k < 13 := by omega
          by_cases hk0 : k = 0
          · have c0 : decide ((0 : Int) < (k : Int)) = false := decide_eq_false (by omega)
            have c0n : decide (0 < k) = false := decide_eq_false (by omega)
            have c0p : ¬ 0 < k := by omega
            have c1 : ((k : Int) == 8) = false := by rw [beq_eq_false_iff_ne]; omega
            have HZ := Lib.hid (s22 hS2 (.inl (by omega)))
            have HT := Lib.hid (show (baT (preL m i ++ parL k) ++ ⟨#[112]⟩ ++ baT (dg k) : ByteArray) = baT (preL m i ++ parL (k + 1)) by rw [hk0]; exact par_zero)
            clear hS2 p4 d2 hk0 m13
            go_wp2_with (go_at_call 16; ((with_reducible refine (HNK.out _).mono ?_); rintro e w5 ⟨rfl, e5⟩))
            go_roundw
            case rel => exact ⟨k + 1, wv, av, by have := HK1.out; omega, by rw [← HT.out], rfl, rfl, by go_num, HZ.out, hF2.below e5⟩
            case measure => have := HK1.out; simp [intOf]; omega
          · have c0 : decide ((0 : Int) < (k : Int)) = true := decide_eq_true (by omega)
            have c0n : decide (0 < k) = true := decide_eq_true (by omega)
            have c0p : 0 < k := by omega
            have HT := Lib.hid (par_one (X := preL m i) (k := k) (by omega))
            by_cases hk8 : k = 8
            · have c1 : ((k : Int) == 8) = true := by rw [beq_iff_eq]; omega
              by_cases hw0 : wv = 0
              · obtain ⟨hi0, hz⟩ := s22' (hk8 ▸ hw0 ▸ hS2) (by omega)
                have hsz : (baT (preL m i ++ parL k)).size = 31 := by rw [baT_size, List.length_append, hi0, hk8, par8, pre0]
                have HSZ := Lib.hid hsz
                have v1 : ((wv : Int) == 0) = true := by rw [beq_iff_eq]; omega
                have HZ := Lib.hid (show S2 m (fnsL m 0 32).length i (k + 1) 10 32 by rw [hk8]; exact hz)
                clear hz hS2 p4 d2 hk0 hk8 hw0 hsz hi0 m13
                go_wp2_with (go_at_call 16; ((with_reducible refine (HNK.out _).mono ?_); rintro e w5 ⟨rfl, e5⟩))
                go_roundw
                case rel => exact ⟨k + 1, 10, 32, by have := HK1.out; omega, by rw [← HT.out], rfl, by rw [HSZ.out]; rfl, by go_num, HZ.out, hF2.below e5⟩
                case measure => have := HK1.out; simp [intOf]; omega
              · have v1 : ((wv : Int) == 0) = false := by rw [beq_eq_false_iff_ne]; omega
                have HZ := Lib.hid (s22 hS2 (.inr (.inl hw0)))
                clear hS2 p4 d2 hk0 hw0 hk8 m13
                go_wp2_with (go_at_call 16; ((with_reducible refine (HNK.out _).mono ?_); rintro e w5 ⟨rfl, e5⟩))
                go_roundw
                case rel => exact ⟨k + 1, wv, av, by have := HK1.out; omega, by rw [← HT.out], rfl, rfl, by go_num, HZ.out, hF2.below e5⟩
                case measure => have := HK1.out; simp [intOf]; omega
            · have c1 : ((k : Int) == 8) = false := by rw [beq_eq_false_iff_ne]; omega
              have HZ := Lib.hid (s22 hS2 (.inl hk8))
              clear hS2 p4 d2 hk0 hk8 m13
              go_wp2_with (go_at_call 16; ((with_reducible refine (HNK.out _).mono ?_); rintro e w5 ⟨rfl, e5⟩))
              go_roundw
              case rel => exact ⟨k + 1, wv, av, by have := HK1.out; omega, by rw [← HT.out], rfl, rfl, by go_num, HZ.out, hF2.below e5⟩
              case measure => have := HK1.out; simp [intOf]; omega
        · obtain rfl : k = m := by omega
          have HZ1 := Lib.hid (s21 hS2)
          have p4 := HPL.out k
          have m13 := HM3.out
          have q1 : ¬ 9223372036854775807 < (baT (preL k i ++ parL k)).size + 3 := by rw [baT_size]; omega
          have hkk : ¬ (k : Int) < (k : Int) := by omega
          clear hS2 p4 m13
          go_wp2
          go_roundw
          case rel => exact ⟨i + 1, wv, av, by have := HI1.out; omega, by rw [← fn_shut], rfl, rfl, by go_num, HZ1.out, hF2⟩
          case measure => have := HI1.out; simp [intOf]; omega
      · have hw := (hS1.1 (by omega)).2 (by omega)
        have v1 : ((wv : Int) == 0) = false := by rw [beq_eq_false_iff_ne]; omega
        have hm9 : 9 ≤ m := by omega
        clear hw
        have HZ0 := Lib.hid (show S2 m (fnsL m 0 32).length i 0 wv av from s12 hS1 (.inr hm9))
        clear hS1 h32
        go_upto_region 16 with (go_at_call 16; ((with_reducible refine (HNI.out _).mono ?_); rintro e w4 ⟨rfl, e4⟩))
        have hF1 := hF.below e4
        go_loopw [8, 9, 10, 12] (fun t a b j wr2 => ∃ k wv av : Nat, k ≤ m ∧ t = .string (baT (preL m i ++ parL k)) ∧ a = .int .i64 wv ∧ b = .int .i64 av ∧ j = .int .i64 k ∧ S2 m (fnsL m 0 32).length i k wv av ∧ Fr w wr2) (fun _ _ _ j _ => m - (intOf j).toNat)
        case atStart => exact ⟨0, wv, av, Nat.zero_le _, by rw [fn_open], rfl, rfl, rfl, HZ0.out, hF1⟩
        case round =>
        obtain ⟨k, wv, av, hk, rfl, rfl, rfl, rfl, hS2, hF2⟩ := hrel
        by_cases hlt2 : k < m
        · skip
          have m13 := HM3.out
          have p4 := HPL.out k
          have q1 : ¬ 9223372036854775807 < (baT (preL m i ++ parL k)).size + 1 := by rw [baT_size]; omega
          have q2 : ¬ 9223372036854775807 < (baT (preL m i ++ parL k)).size + 1 + 1 := by rw [baT_size]; omega
          have d2 : (baT (dg k)).size ≤ 2 := by rw [baT_size]; exact dg_len
          have q3 : ¬ 9223372036854775807 < (baT (preL m i ++ parL k)).size + 1 + 1 + (baT (dg k)).size := by have := dg_len (m := k); rw [baT_size, baT_size]; omega
          have q4 : ¬ 9223372036854775807 < (baT (preL m i ++ parL k)).size + 1 + (baT (dg k)).size := by have := dg_len (m := k); rw [baT_size, baT_size]; omega
          have HNK := Lib.hid (fun w => number_any k (by have := HM3.out; omega) w)
          have HK1 := Lib.hid hlt2
          have hki2 : (k : Int) < (m : Int) := by omega
          have k13 : k < 13 := by omega
          by_cases hk0 : k = 0
          · have c0 : decide ((0 : Int) < (k : Int)) = false := decide_eq_false (by omega)
            have c0n : decide (0 < k) = false := decide_eq_false (by omega)
            have c0p : ¬ 0 < k := by omega
            have c1 : ((k : Int) == 8) = false := by rw [beq_eq_false_iff_ne]; omega
            have HZ := Lib.hid (s22 hS2 (.inl (by omega)))
            have HT := Lib.hid (show (baT (preL m i ++ parL k) ++ ⟨#[112]⟩ ++ baT (dg k) : ByteArray) = baT (preL m i ++ parL (k + 1)) by rw [hk0]; exact par_zero)
            clear hS2 p4 d2 hk0 m13
            go_wp2_with (go_at_call 16; ((with_reducible refine (HNK.out _).mono ?_); rintro e w5 ⟨rfl, e5⟩))
            go_roundw
            case rel => exact ⟨k + 1, wv, av, by have := HK1.out; omega, by rw [← HT.out], rfl, rfl, by go_num, HZ.out, hF2.below e5⟩
            case measure => have := HK1.out; simp [intOf]; omega
          · have c0 : decide ((0 : Int) < (k : Int)) = true := decide_eq_true (by omega)
            have c0n : decide (0 < k) = true := decide_eq_true (by omega)
            have c0p : 0 < k := by omega
            have HT := Lib.hid (par_one (X := preL m i) (k := k) (by omega))
            by_cases hk8 : k = 8
            · have c1 : ((k : Int) == 8) = true := by rw [beq_iff_eq]; omega
              by_cases hw0 : wv = 0
              · obtain ⟨hi0, hz⟩ := s22' (hk8 ▸ hw0 ▸ hS2) (by omega)
                have hsz : (baT (preL m i ++ parL k)).size = 31 := by rw [baT_size, List.length_append, hi0, hk8, par8, pre0]
                have HSZ := Lib.hid hsz
                have v1 : ((wv : Int) == 0) = true := by rw [beq_iff_eq]; omega
                have HZ := Lib.hid (show S2 m (fnsL m 0 32).length i (k + 1) 10 32 by rw [hk8]; exact hz)
                clear hz hS2 p4 d2 hk0 hk8 hw0 hsz hi0 m13
                go_wp2_with (go_at_call 16; ((with_reducible refine (HNK.out _).mono ?_); rintro e w5 ⟨rfl, e5⟩))
                go_roundw
                case rel => exact ⟨k + 1, 10, 32, by have := HK1.out; omega, by rw [← HT.out], rfl, by rw [HSZ.out]; rfl, by go_num, HZ.out, hF2.below e5⟩
                case measure => have := HK1.out; simp [intOf]; omega
              · have v1 : ((wv : Int) == 0) = false := by rw [beq_eq_false_iff_ne]; omega
                have HZ := Lib.hid (s22 hS2 (.inr (.inl hw0)))
                clear hS2 p4 d2 hk0 hw0 hk8 m13
                go_wp2_with (go_at_call 16; ((with_reducible refine (HNK.out _).mono ?_); rintro e w5 ⟨rfl, e5⟩))
                go_roundw
                case rel => exact ⟨k + 1, wv, av, by have := HK1.out; omega, by rw [← HT.out], rfl, rfl, by go_num, HZ.out, hF2.below e5⟩
                case measure => have := HK1.out; simp [intOf]; omega
            · have c1 : ((k : Int) == 8) = false := by rw [beq_eq_false_iff_ne]; omega
              have HZ := Lib.hid (s22 hS2 (.inl hk8))
              clear hS2 p4 d2 hk0 hk8 m13
              go_wp2_with (go_at_call 16; ((with_reducible refine (HNK.out _).mono ?_); rintro e w5 ⟨rfl, e5⟩))
              go_roundw
              case rel => exact ⟨k + 1, wv, av, by have := HK1.out; omega, by rw [← HT.out], rfl, rfl, by go_num, HZ.out, hF2.below e5⟩
              case measure => have := HK1.out; simp [intOf]; omega
        · obtain rfl : k = m := by omega
          have HZ1 := Lib.hid (s21 hS2)
          have p4 := HPL.out k
          have m13 := HM3.out
          have q1 : ¬ 9223372036854775807 < (baT (preL k i ++ parL k)).size + 3 := by rw [baT_size]; omega
          have hkk : ¬ (k : Int) < (k : Int) := by omega
          clear hS2 p4 m13
          go_wp2
          go_roundw
          case rel => exact ⟨i + 1, wv, av, by have := HI1.out; omega, by rw [← fn_shut], rfl, rfl, by go_num, HZ1.out, hF2⟩
          case measure => have := HI1.out; simp [intOf]; omega
    · have u1 : ((i : Int) == 32) = false := by rw [beq_eq_false_iff_ne]; omega
      have HZ0 := Lib.hid (show S2 m (fnsL m 0 32).length i 0 wv av from s12 hS1 (.inl h32))
      clear hS1 h32
      go_upto_region 16 with (go_at_call 16; ((with_reducible refine (HNI.out _).mono ?_); rintro e w4 ⟨rfl, e4⟩))
      have hF1 := hF.below e4
      go_loopw [8, 9, 10, 12] (fun t a b j wr2 => ∃ k wv av : Nat, k ≤ m ∧ t = .string (baT (preL m i ++ parL k)) ∧ a = .int .i64 wv ∧ b = .int .i64 av ∧ j = .int .i64 k ∧ S2 m (fnsL m 0 32).length i k wv av ∧ Fr w wr2) (fun _ _ _ j _ => m - (intOf j).toNat)
      case atStart => exact ⟨0, wv, av, Nat.zero_le _, by rw [fn_open], rfl, rfl, rfl, HZ0.out, hF1⟩
      case round =>
      obtain ⟨k, wv, av, hk, rfl, rfl, rfl, rfl, hS2, hF2⟩ := hrel
      by_cases hlt2 : k < m
      · skip
        have m13 := HM3.out
        have p4 := HPL.out k
        have q1 : ¬ 9223372036854775807 < (baT (preL m i ++ parL k)).size + 1 := by rw [baT_size]; omega
        have q2 : ¬ 9223372036854775807 < (baT (preL m i ++ parL k)).size + 1 + 1 := by rw [baT_size]; omega
        have d2 : (baT (dg k)).size ≤ 2 := by rw [baT_size]; exact dg_len
        have q3 : ¬ 9223372036854775807 < (baT (preL m i ++ parL k)).size + 1 + 1 + (baT (dg k)).size := by have := dg_len (m := k); rw [baT_size, baT_size]; omega
        have q4 : ¬ 9223372036854775807 < (baT (preL m i ++ parL k)).size + 1 + (baT (dg k)).size := by have := dg_len (m := k); rw [baT_size, baT_size]; omega
        have HNK := Lib.hid (fun w => number_any k (by have := HM3.out; omega) w)
        have HK1 := Lib.hid hlt2
        have hki2 : (k : Int) < (m : Int) := by omega
        have k13 : k < 13 := by omega
        by_cases hk0 : k = 0
        · have c0 : decide ((0 : Int) < (k : Int)) = false := decide_eq_false (by omega)
          have c0n : decide (0 < k) = false := decide_eq_false (by omega)
          have c0p : ¬ 0 < k := by omega
          have c1 : ((k : Int) == 8) = false := by rw [beq_eq_false_iff_ne]; omega
          have HZ := Lib.hid (s22 hS2 (.inl (by omega)))
          have HT := Lib.hid (show (baT (preL m i ++ parL k) ++ ⟨#[112]⟩ ++ baT (dg k) : ByteArray) = baT (preL m i ++ parL (k + 1)) by rw [hk0]; exact par_zero)
          clear hS2 p4 d2 hk0 m13
          go_wp2_with (go_at_call 16; ((with_reducible refine (HNK.out _).mono ?_); rintro e w5 ⟨rfl, e5⟩))
          go_roundw
          case rel => exact ⟨k + 1, wv, av, by have := HK1.out; omega, by rw [← HT.out], rfl, rfl, by go_num, HZ.out, hF2.below e5⟩
          case measure => have := HK1.out; simp [intOf]; omega
        · have c0 : decide ((0 : Int) < (k : Int)) = true := decide_eq_true (by omega)
          have c0n : decide (0 < k) = true := decide_eq_true (by omega)
          have c0p : 0 < k := by omega
          have HT := Lib.hid (par_one (X := preL m i) (k := k) (by omega))
          by_cases hk8 : k = 8
          · have c1 : ((k : Int) == 8) = true := by rw [beq_iff_eq]; omega
            by_cases hw0 : wv = 0
            · obtain ⟨hi0, hz⟩ := s22' (hk8 ▸ hw0 ▸ hS2) (by omega)
              have hsz : (baT (preL m i ++ parL k)).size = 31 := by rw [baT_size, List.length_append, hi0, hk8, par8, pre0]
              have HSZ := Lib.hid hsz
              have v1 : ((wv : Int) == 0) = true := by rw [beq_iff_eq]; omega
              have HZ := Lib.hid (show S2 m (fnsL m 0 32).length i (k + 1) 10 32 by rw [hk8]; exact hz)
              clear hz hS2 p4 d2 hk0 hk8 hw0 hsz hi0 m13
              go_wp2_with (go_at_call 16; ((with_reducible refine (HNK.out _).mono ?_); rintro e w5 ⟨rfl, e5⟩))
              go_roundw
              case rel => exact ⟨k + 1, 10, 32, by have := HK1.out; omega, by rw [← HT.out], rfl, by rw [HSZ.out]; rfl, by go_num, HZ.out, hF2.below e5⟩
              case measure => have := HK1.out; simp [intOf]; omega
            · have v1 : ((wv : Int) == 0) = false := by rw [beq_eq_false_iff_ne]; omega
              have HZ := Lib.hid (s22 hS2 (.inr (.inl hw0)))
              clear hS2 p4 d2 hk0 hw0 hk8 m13
              go_wp2_with (go_at_call 16; ((with_reducible refine (HNK.out _).mono ?_); rintro e w5 ⟨rfl, e5⟩))
              go_roundw
              case rel => exact ⟨k + 1, wv, av, by have := HK1.out; omega, by rw [← HT.out], rfl, rfl, by go_num, HZ.out, hF2.below e5⟩
              case measure => have := HK1.out; simp [intOf]; omega
          · have c1 : ((k : Int) == 8) = false := by rw [beq_eq_false_iff_ne]; omega
            have HZ := Lib.hid (s22 hS2 (.inl hk8))
            clear hS2 p4 d2 hk0 hk8 m13
            go_wp2_with (go_at_call 16; ((with_reducible refine (HNK.out _).mono ?_); rintro e w5 ⟨rfl, e5⟩))
            go_roundw
            case rel => exact ⟨k + 1, wv, av, by have := HK1.out; omega, by rw [← HT.out], rfl, rfl, by go_num, HZ.out, hF2.below e5⟩
            case measure => have := HK1.out; simp [intOf]; omega
      · obtain rfl : k = m := by omega
        have HZ1 := Lib.hid (s21 hS2)
        have p4 := HPL.out k
        have m13 := HM3.out
        have q1 : ¬ 9223372036854775807 < (baT (preL k i ++ parL k)).size + 3 := by rw [baT_size]; omega
        have hkk : ¬ (k : Int) < (k : Int) := by omega
        clear hS2 p4 m13
        go_wp2
        go_roundw
        case rel => exact ⟨i + 1, wv, av, by have := HI1.out; omega, by rw [← fn_shut], rfl, rfl, by go_num, HZ1.out, hF2⟩
        case measure => have := HI1.out; simp [intOf]; omega
  · obtain rfl : i = n := by omega
    have hni : ¬ (i : Int) < (i : Int) := by omega
    have f1 := fnsL_len HM3.out i 0
    have m41 := HN3.out
    have t1 : ¬ 9223372036854775807 < (baT (fnsL m 0 i)).size + 7 := by rw [baT_size]; omega
    have HPM := Lib.hid (fun k => show (preM i m ++ argL k).length ≤ 2500 + 2 * k by
      rw [List.length_append]
      have := preM_len (n := i) HM3.out HN3.out
      have := argL_len k
      omega)
    have HZ := Lib.hid (s13 (D := (fnsL m 0 i).length + (7 + (argL 8).length + 1)) hS1)
    clear f1 hS1 hlt hi
    go_upto_region 27 with fail
    go_loop [8, 9, 10, 13] (fun t a' b j => ∃ k wv av : Nat, k ≤ a ∧ t = .string (baT (preM i m ++ argL k)) ∧ a' = .int .i64 wv ∧ b = .int .i64 av ∧ j = .int .i64 k ∧ S3 i m (fnsL m 0 32).length ((fnsL m 0 i).length + (7 + (argL 8).length + 1)) k wv av) (fun _ _ _ j => a - (intOf j).toNat)
    case atStart => exact ⟨0, wv, av, Nat.zero_le _, by rw [main_open], rfl, rfl, rfl, HZ.out⟩
    case round =>
    obtain ⟨k, wv, av, hk, rfl, rfl, rfl, rfl, hS3⟩ := hrel
    by_cases hlt3 : k < a
    · have HK1 := Lib.hid hlt3
      have a13 := HA3.out
      have k13 : k < 13 := by omega
      have p4 := HPM.out k
      have q1 : ¬ 9223372036854775807 < (baT (preM i m ++ argL k)).size + 1 := by rw [baT_size]; omega
      have q2 : ¬ 9223372036854775807 < (baT (preM i m ++ argL k)).size + 1 + 1 := by rw [baT_size]; omega
      have hki : (k : Int) < (a : Int) := by omega
      by_cases hk0 : k = 0
      · have c0 : decide ((0 : Int) < (k : Int)) = false := decide_eq_false (by omega)
        have c0n : decide (0 < k) = false := decide_eq_false (by omega)
        have c0p : ¬ 0 < k := by omega
        have c1 : ((k : Int) == 8) = false := by rw [beq_eq_false_iff_ne]; omega
        have HZ := Lib.hid (s33 hS3 (.inl (by omega)))
        have HT := Lib.hid (show (baT (preM i m ++ argL k) ++ ⟨#[49]⟩ : ByteArray) = baT (preM i m ++ argL (k + 1)) by rw [hk0]; exact arg_zero)
        clear hS3 p4 hk0 a13
        go_wp2
        go_round
        case rel => exact ⟨k + 1, wv, av, by have := HK1.out; omega, by rw [← HT.out], rfl, rfl, by go_num, HZ.out⟩
        case measure => have := HK1.out; simp [intOf]; omega
      · have c0 : decide ((0 : Int) < (k : Int)) = true := decide_eq_true (by omega)
        have c0n : decide (0 < k) = true := decide_eq_true (by omega)
        have c0p : 0 < k := by omega
        have HT := Lib.hid (arg_one (X := preM i m) (k := k) (by omega))
        by_cases hk8 : k = 8
        · have c1 : ((k : Int) == 8) = true := by rw [beq_iff_eq]; omega
          by_cases hw0 : wv = 0
          · have hz := s33' (hk8 ▸ hw0 ▸ hS3)
            have HSZ := Lib.hid (show (baT (preM i m ++ argL k)).size + 1 = (fnsL m 0 i).length + (7 + (argL 8).length + 1) by rw [baT_size, hk8]; unfold preM; simp; omega)
            have v1 : ((wv : Int) == 0) = true := by rw [beq_iff_eq]; omega
            have HZ := Lib.hid (show S3 i m (fnsL m 0 32).length ((fnsL m 0 i).length + (7 + (argL 8).length + 1)) (k + 1) 10 ((fnsL m 0 i).length + (7 + (argL 8).length + 1)) by rw [hk8]; exact hz)
            clear hz hS3 p4 hk0 hk8 hw0 a13
            go_wp2
            go_round
            case rel => exact ⟨k + 1, 10, (fnsL m 0 i).length + (7 + (argL 8).length + 1), by have := HK1.out; omega, by rw [← HT.out], rfl, by rw [← HSZ.out]; rfl, by go_num, HZ.out⟩
            case measure => have := HK1.out; simp [intOf]; omega
          · have v1 : ((wv : Int) == 0) = false := by rw [beq_eq_false_iff_ne]; omega
            have HZ := Lib.hid (s33 hS3 (.inr hw0))
            clear hS3 p4 hk0 hw0 hk8 a13
            go_wp2
            go_round
            case rel => exact ⟨k + 1, wv, av, by have := HK1.out; omega, by rw [← HT.out], rfl, rfl, by go_num, HZ.out⟩
            case measure => have := HK1.out; simp [intOf]; omega
        · have c1 : ((k : Int) == 8) = false := by rw [beq_eq_false_iff_ne]; omega
          have HZ := Lib.hid (s33 hS3 (.inl hk8))
          clear hS3 p4 hk0 hk8 a13
          go_wp2
          go_round
          case rel => exact ⟨k + 1, wv, av, by have := HK1.out; omega, by rw [← HT.out], rfl, rfl, by go_num, HZ.out⟩
          case measure => have := HK1.out; simp [intOf]; omega
    · obtain rfl : k = a := by omega
      have hka : ¬ (k : Int) < (k : Int) := by omega
      have p4 := HPM.out k
      have a13 := HA3.out
      have q1 : ¬ 9223372036854775807 < (baT (preM i m ++ argL k)).size + 2 := by rw [baT_size]; omega
      have HE := Lib.hid (s3_end HN3.out HM3.out HA3.out hS3)
      have HTX := Lib.hid (show (baT (txL i m k)).size ≤ 65536 by rw [baT_size]; have := tx_len HN3.out HM3.out HA3.out; omega)
      have htx := main_shut (n := i) (m := m) (a := k)
      clear p4 hS3 a13 hk hlt3
      go_upto_region 36 with fail
      try rw [htx]
      rcases HE.out with ⟨rfl, ht⟩ | ⟨rfl, fs, op, s, k1, op2, k2, s2, l, x, y, r, hfl, hll, ht⟩
      · have HQ := Lib.hid (fun w => q_bad (s := baT (txL i m k)) (show tl (baT (txL i m k)).data.toList = _ from ht) (baT (txL i m k)).size rfl HTX.out w)
        clear ht
        go_wp2_with (go_at_call 13; ((with_reducible refine (HQ.out _).mono ?_); rintro e w6 ⟨rfl, e6⟩))
        go_ret
        exact ⟨rfl, by first | exact hF.below e6 | exact (hF.below e6).alloc _⟩
      · have HQ := Lib.hid (fun w => q_ok (s := baT (txL i m k)) (show tl (baT (txL i m k)).data.toList = _ from ht) (baT (txL i m k)).size rfl HTX.out w)
        clear ht
        go_upto_region 37 with (go_at_call 13; ((with_reducible refine (HQ.out _).mono ?_); rintro e w6 ⟨⟨v, rfl, hv⟩, e6⟩; obtain ⟨Af, cf, bm, om, km, bl, ol, kl, X, cx, rfl, lm, ll, c3, c4⟩ := keepg_cells hv))
        rw [hfl, hll] at *
        have Pn := heap_alloc_new w6 (.cells #[.slice Af i cf, .slice (some ⟨bm, om, none⟩) 1 km] 35)
        have e7 : Below w6.heap.size w6 (w6.alloc (.cells #[.slice Af i cf, .slice (some ⟨bm, om, none⟩) 1 km] 35)) := (Below.refl _ _).alloc (Nat.le_refl _) _
        have F7 := (hF.below e6).below e7
        have c3 := (e7.cell lm).trans c3
        have c4 := (e7.cell ll).trans c4
        obtain ⟨n5, hn5⟩ : ∃ n, w6.heap.size = n := ⟨_, rfl⟩
        rw [hn5] at Pn ⊢
        obtain ⟨u3, hu⟩ : ∃ u, w6.alloc (.cells #[.slice Af i cf, .slice (some ⟨bm, om, none⟩) 1 km] 35) = u := ⟨_, rfl⟩
        rw [hu] at F7 c3 c4 Pn ⊢
        clear hu e7 hv
        have Pn0 := box_cell Pn 0
        have Pn1 := box_cell Pn 1
        simp only [List.getElem?_toArray, List.getElem?_cons_succ, List.getElem?_cons_zero] at Pn0 Pn1
        go_wp2
        go_ret
        exact ⟨rfl, F7⟩

theorem funcs_walk (i1 i2 i3 : Int) (w : World) : Calls Try.prog 8 #[.int .i64 i1, .int .i64 i2, .int .i64 i3] w fun e w' => e = .returned (.bool true) ∧ Fr w w' := by
  obtain ⟨N, hN⟩ : ∃ N, bits BinOp.and IntKind.i64 i1 65535 = N := ⟨_, rfl⟩
  obtain ⟨P, hP⟩ : ∃ P, bits BinOp.and IntKind.i64 i2 65535 = P := ⟨_, rfl⟩
  obtain ⟨Q, hQ⟩ : ∃ P, bits BinOp.and IntKind.i64 i3 65535 = P := ⟨_, rfl⟩
  have ln := low16 i1
  have lp := low16 i2
  have lq := low16 i3
  rw [hN] at ln
  rw [hP] at lp
  rw [hQ] at lq
  obtain ⟨n, hn⟩ : ∃ a : Nat, N % 41 = (a : Int) := ⟨(N % 41).toNat, by omega⟩
  obtain ⟨m, hm⟩ : ∃ a : Nat, P % 13 = (a : Int) := ⟨(P % 13).toNat, by omega⟩
  obtain ⟨a, ha⟩ : ∃ a : Nat, Q % 13 = (a : Int) := ⟨(Q % 13).toNat, by omega⟩
  have hn' : N.tmod 41 = (n : Int) := by rw [Int.tmod_eq_emod_of_nonneg ln.1]; exact hn
  have hm' : P.tmod 13 = (m : Int) := by rw [Int.tmod_eq_emod_of_nonneg lp.1]; exact hm
  have ha' : Q.tmod 13 = (a : Int) := by rw [Int.tmod_eq_emod_of_nonneg lq.1]; exact ha
  exact funcs_go i1 i2 i3 N P Q n m a w hN hP hQ hn' hm' ha' (by omega) (by omega) (by omega)
end Go.Proofs.Ytmpdnikabkandaa
