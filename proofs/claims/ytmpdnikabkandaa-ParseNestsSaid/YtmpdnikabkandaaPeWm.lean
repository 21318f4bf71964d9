/-
  ParseNests: the walk.
-/
import Derived.Test.YtmpdnikabkandaaPq5
import Derived.Test.YtmpdnikabkandaaPeNm
namespace Go.Proofs.Ytmpdnikabkandaa
open Go Go.RowKit Go.Lib

set_option maxRecDepth 100000 in
theorem nests_a (n N : Int) (m : Nat) (w : World) (hN : bits BinOp.and IntKind.i64 n 65535 = N) (hm : N.tmod 301 = (m : Int)) (h300 : m ≤ 300) (ha : m ≤ 62) :
    Calls Try.prog 5 #[.int .i64 n] w fun e w' => e = .returned (.bool true) ∧ Fr w w' := by
  have h := Fr.refl w
  have HS := Lib.hid (shown4_fr w w h)
  have kb := run_bs
  obtain ⟨q, r, hq, hc⟩ := ((open_is (n := m) h300).resolve_right (fun h => by omega)).2
  obtain ⟨q2, r2, hq2⟩ : ∃ q r, tl (tMark m) = .ok q r := by
    rcases mark_is (n := m) h300 with h | h | h
    · exact h.2
    · omega
    · omega
  have s1 := rp_size 40 m
  have s2 := rp_size 41 m
  have s3 := rp_size 45 m
  have HK := Lib.hid (fun w => q_ok (s := (⟨#[112, 114, 105, 110, 116, 32]⟩ : ByteArray) ++ rp 40 m ++ ⟨#[49]⟩ ++ rp 41 m ++ ⟨#[59]⟩) ((congrArg tl (by rw [bat_app, bat_app, bat_app, bat_app]; rfl)).trans hq) (6 + (rp 40 m).size + 1 + (rp 41 m).size + 1) (by rw [ByteArray.size_append, ByteArray.size_append, ByteArray.size_append, ByteArray.size_append]; rfl) (by omega) w)
  have HM := Lib.hid (fun w => q_ok (s := (⟨#[112, 114, 105, 110, 116, 32]⟩ : ByteArray) ++ rp 45 m ++ ⟨#[49, 59]⟩) ((congrArg tl (by rw [bat_app, bat_app]; rfl)).trans hq2) (6 + (rp 45 m).size + 2) (by rw [ByteArray.size_append, ByteArray.size_append]; rfl) (by omega) w)
  have d0 : decide ((m : Int) ≤ 256) = true := decide_eq_true (by omega)
  have d1 : decide ((256 : Int) < (m : Int)) = false := decide_eq_false (by omega)
  have d2 : decide ((m : Int) ≤ 62) = true := decide_eq_true (by omega)
  have HC := Lib.hid hc
  clear hc
  have H3 := Lib.hid h300
  clear hq hq2 h300 ha
  go_enter Try.func5, Try.ntmps5
  go_upto_region 7 with (go_at_call 11; ((with_reducible refine HS.out.mono ?_); rintro e w1 ⟨rfl, F1⟩))
  go_loop [4, 5, 6, 7] (fun a b c i => ∃ k : Nat, k ≤ m ∧ a = .string (rp 40 k) ∧ b = .string (rp 41 k) ∧ c = .string (rp 45 k) ∧ i = .int .i64 k) (fun _ _ _ i => m - (intOf i).toNat)
  case atStart => exact ⟨0, Nat.zero_le _, rfl, rfl, rfl, rfl⟩
  case round =>
    obtain ⟨k, hk, rfl, rfl, rfl, rfl⟩ := hrel
    by_cases hlt : k < m
    · have z1 : ¬ 9223372036854775807 < (rp 40 k).size + 1 := by have := H3.out; rw [rp_size]; omega
      have z2 : ¬ 9223372036854775807 < (rp 41 k).size + 1 := by have := H3.out; rw [rp_size]; omega
      have z3 : ¬ 9223372036854775807 < (rp 45 k).size + 1 := by have := H3.out; rw [rp_size]; omega
      have hki : (k : Int) < (m : Int) := by omega
      have hk3 : k < 300 := by have := H3.out; omega
      go_wp2
      go_round
      case rel => exact ⟨k + 1, hlt, by rw [rp_succ], by rw [rp_succ], by rw [rp_succ], by go_num⟩
      case measure => simp [intOf]; omega
    · obtain rfl : k = m := by omega
      have h3 := H3.out
      have y1 : ¬ 9223372036854775807 < 6 + (rp 40 k).size := by omega
      have y2 : ¬ 9223372036854775807 < 6 + (rp 40 k).size + 1 := by omega
      have y3 : ¬ 9223372036854775807 < 6 + (rp 40 k).size + 1 + (rp 41 k).size := by omega
      have y4 : ¬ 9223372036854775807 < 6 + (rp 40 k).size + 1 + (rp 41 k).size + 1 := by omega
      have y5 : ¬ 9223372036854775807 < 6 + (rp 45 k).size := by omega
      have y6 : ¬ 9223372036854775807 < 6 + (rp 45 k).size + 2 := by omega
      clear s1 s2 s3 h3 hlt hk
      go_upto_region 12 with fail
      go_upto_region 13 with (go_at_call 13; ((with_reducible refine (HK.out _).mono ?_); rintro e w3 ⟨⟨v, rfl, hv⟩, e3⟩; obtain ⟨Af, cf, Am, cm, rfl, hvf, hvm⟩ := hv.pgv))
      have hp : PgV w3.heap.size w3 (.agg #[.slice Af q.fs.length cf, .slice Am q.m.len cm]) q := ⟨Af, cf, Am, cm, rfl, hvf, hvm⟩
      clear hv hvf hvm
      have F3 := F1.below e3
      have Pn5 := heap_alloc_new w3 (.cells #[.slice Af q.fs.length cf, .slice Am q.m.len cm] 35)
      have e6 : Below w3.heap.size w3 (w3.alloc (.cells #[.slice Af q.fs.length cf, .slice Am q.m.len cm] 35)) := (Below.refl _ _).alloc (Nat.le_refl _) _
      have F3 := F3.below e6
      have hp := hp.below e6 e6.size
      obtain ⟨n5, hn5⟩ : ∃ n, w3.heap.size = n := ⟨_, rfl⟩
      rw [hn5] at Pn5 ⊢
      obtain ⟨u3, hu⟩ : ∃ u, w3.alloc (.cells #[.slice Af q.fs.length cf, .slice Am q.m.len cm] 35) = u := ⟨_, rfl⟩
      rw [hu] at F3 Pn5 hp ⊢
      clear hu e6
      go_upto_region 14 with (go_at_call 13; ((with_reducible refine (HM.out _).mono ?_); rintro e w4 ⟨⟨v, rfl, hv⟩, e4⟩; obtain ⟨Ag, cg, An, cn, rfl, _, _⟩ := hv.pgv))
      have F3 := F3.below e4
      have Pn5 := (e4.block _ (lt_heap Pn5)).trans Pn5
      have hp := hp.below e4 e4.size
      have e6 : Below w4.heap.size w4 (w4.alloc (.cells #[.slice Ag q2.fs.length cg, .slice An q2.m.len cn] 35)) := (Below.refl _ _).alloc (Nat.le_refl _) _
      have F3 := F3.below e6
      have Pn5 := (e6.block _ (lt_heap Pn5)).trans Pn5
      have hp := hp.below e6 e6.size
      obtain ⟨u4, hu⟩ : ∃ u, w4.alloc (.cells #[.slice Ag q2.fs.length cg, .slice An q2.m.len cn] 35) = u := ⟨_, rfl⟩
      rw [hu] at F3 Pn5 hp ⊢
      clear hu e6 e4 e3
      have Pn50 := box_cell Pn5 0
      have Pn51 := box_cell Pn5 1
      simp only [List.getElem?_toArray, List.getElem?_cons_succ, List.getElem?_cons_zero] at Pn50 Pn51
      have HZ := Lib.hid (show Calls Try.prog 15 #[.agg #[.slice Af q.fs.length cf, .slice Am q.m.len cm]] u4 (fun e w' => e = .returned (.int .i64 2) ∧ Below u4.heap.size u4 w') from (size_any _ q u4 _ (Nat.le_refl _) hp).mono fun e w' he => ⟨he.1.trans (by rw [HC.out, wrap_def]; rfl), he.2⟩)
      go_wp2_with (go_at_call 15; ((with_reducible refine HZ.out.mono ?_); rintro e w5 ⟨rfl, e5⟩))
      go_ret
      exact ⟨rfl, F3.below e5⟩

set_option maxRecDepth 100000 in
theorem nests_b (n N : Int) (m : Nat) (w : World) (hN : bits BinOp.and IntKind.i64 n 65535 = N) (hm : N.tmod 301 = (m : Int)) (h300 : m ≤ 300) (ha : 62 < m) (hb : m ≤ 256) :
    Calls Try.prog 5 #[.int .i64 n] w fun e w' => e = .returned (.bool true) ∧ Fr w w' := by
  have h := Fr.refl w
  have HS := Lib.hid (shown4_fr w w h)
  have kb := run_bs
  obtain ⟨q, r, hq, hc⟩ := ((open_is (n := m) h300).resolve_right (fun h => by omega)).2
  have hq2 : tl (tMark m) = .bad 0 3 := by
    rcases mark_is (n := m) h300 with h | h | h
    · omega
    · exact h.2.2
    · omega
  have s1 := rp_size 40 m
  have s2 := rp_size 41 m
  have s3 := rp_size 45 m
  have HK := Lib.hid (fun w => q_ok (s := (⟨#[112, 114, 105, 110, 116, 32]⟩ : ByteArray) ++ rp 40 m ++ ⟨#[49]⟩ ++ rp 41 m ++ ⟨#[59]⟩) ((congrArg tl (by rw [bat_app, bat_app, bat_app, bat_app]; rfl)).trans hq) (6 + (rp 40 m).size + 1 + (rp 41 m).size + 1) (by rw [ByteArray.size_append, ByteArray.size_append, ByteArray.size_append, ByteArray.size_append]; rfl) (by omega) w)
  have HM := Lib.hid (fun w => q_bad (s := (⟨#[112, 114, 105, 110, 116, 32]⟩ : ByteArray) ++ rp 45 m ++ ⟨#[49, 59]⟩) ((congrArg tl (by rw [bat_app, bat_app]; rfl)).trans hq2) (6 + (rp 45 m).size + 2) (by rw [ByteArray.size_append, ByteArray.size_append]; rfl) (by omega) w)
  have d0 : decide ((m : Int) ≤ 256) = true := decide_eq_true (by omega)
  have d1 : decide ((256 : Int) < (m : Int)) = false := decide_eq_false (by omega)
  have d2 : decide ((m : Int) ≤ 62) = false := decide_eq_false (by omega)
  have HC := Lib.hid hc
  clear hc
  have H3 := Lib.hid h300
  clear hq hq2 h300 ha hb
  go_enter Try.func5, Try.ntmps5
  go_upto_region 7 with (go_at_call 11; ((with_reducible refine HS.out.mono ?_); rintro e w1 ⟨rfl, F1⟩))
  go_loop [4, 5, 6, 7] (fun a b c i => ∃ k : Nat, k ≤ m ∧ a = .string (rp 40 k) ∧ b = .string (rp 41 k) ∧ c = .string (rp 45 k) ∧ i = .int .i64 k) (fun _ _ _ i => m - (intOf i).toNat)
  case atStart => exact ⟨0, Nat.zero_le _, rfl, rfl, rfl, rfl⟩
  case round =>
    obtain ⟨k, hk, rfl, rfl, rfl, rfl⟩ := hrel
    by_cases hlt : k < m
    · have z1 : ¬ 9223372036854775807 < (rp 40 k).size + 1 := by have := H3.out; rw [rp_size]; omega
      have z2 : ¬ 9223372036854775807 < (rp 41 k).size + 1 := by have := H3.out; rw [rp_size]; omega
      have z3 : ¬ 9223372036854775807 < (rp 45 k).size + 1 := by have := H3.out; rw [rp_size]; omega
      have hki : (k : Int) < (m : Int) := by omega
      have hk3 : k < 300 := by have := H3.out; omega
      go_wp2
      go_round
      case rel => exact ⟨k + 1, hlt, by rw [rp_succ], by rw [rp_succ], by rw [rp_succ], by go_num⟩
      case measure => simp [intOf]; omega
    · obtain rfl : k = m := by omega
      have h3 := H3.out
      have y1 : ¬ 9223372036854775807 < 6 + (rp 40 k).size := by omega
      have y2 : ¬ 9223372036854775807 < 6 + (rp 40 k).size + 1 := by omega
      have y3 : ¬ 9223372036854775807 < 6 + (rp 40 k).size + 1 + (rp 41 k).size := by omega
      have y4 : ¬ 9223372036854775807 < 6 + (rp 40 k).size + 1 + (rp 41 k).size + 1 := by omega
      have y5 : ¬ 9223372036854775807 < 6 + (rp 45 k).size := by omega
      have y6 : ¬ 9223372036854775807 < 6 + (rp 45 k).size + 2 := by omega
      clear s1 s2 s3 h3 hlt hk
      go_upto_region 12 with fail
      go_upto_region 13 with (go_at_call 13; ((with_reducible refine (HK.out _).mono ?_); rintro e w3 ⟨⟨v, rfl, hv⟩, e3⟩; obtain ⟨Af, cf, Am, cm, rfl, hvf, hvm⟩ := hv.pgv))
      have hp : PgV w3.heap.size w3 (.agg #[.slice Af q.fs.length cf, .slice Am q.m.len cm]) q := ⟨Af, cf, Am, cm, rfl, hvf, hvm⟩
      clear hv hvf hvm
      have F3 := F1.below e3
      have Pn5 := heap_alloc_new w3 (.cells #[.slice Af q.fs.length cf, .slice Am q.m.len cm] 35)
      have e6 : Below w3.heap.size w3 (w3.alloc (.cells #[.slice Af q.fs.length cf, .slice Am q.m.len cm] 35)) := (Below.refl _ _).alloc (Nat.le_refl _) _
      have F3 := F3.below e6
      have hp := hp.below e6 e6.size
      obtain ⟨n5, hn5⟩ : ∃ n, w3.heap.size = n := ⟨_, rfl⟩
      rw [hn5] at Pn5 ⊢
      obtain ⟨u3, hu⟩ : ∃ u, w3.alloc (.cells #[.slice Af q.fs.length cf, .slice Am q.m.len cm] 35) = u := ⟨_, rfl⟩
      rw [hu] at F3 Pn5 hp ⊢
      clear hu e6
      go_upto_region 14 with (go_at_call 13; ((with_reducible refine (HM.out _).mono ?_); rintro e w4 ⟨rfl, e4⟩))
      have F3 := F3.below e4
      have Pn5 := (e4.block _ (lt_heap Pn5)).trans Pn5
      have hp := hp.below e4 e4.size
      have e6 : Below w4.heap.size w4 (w4.alloc (.cells #[.slice none 0 0, .slice none 0 0] 35)) := (Below.refl _ _).alloc (Nat.le_refl _) _
      have F3 := F3.below e6
      have Pn5 := (e6.block _ (lt_heap Pn5)).trans Pn5
      have hp := hp.below e6 e6.size
      obtain ⟨u4, hu⟩ : ∃ u, w4.alloc (.cells #[.slice none 0 0, .slice none 0 0] 35) = u := ⟨_, rfl⟩
      rw [hu] at F3 Pn5 hp ⊢
      clear hu e6 e4 e3
      have Pn50 := box_cell Pn5 0
      have Pn51 := box_cell Pn5 1
      simp only [List.getElem?_toArray, List.getElem?_cons_succ, List.getElem?_cons_zero] at Pn50 Pn51
      have HZ := Lib.hid (show Calls Try.prog 15 #[.agg #[.slice Af q.fs.length cf, .slice Am q.m.len cm]] u4 (fun e w' => e = .returned (.int .i64 2) ∧ Below u4.heap.size u4 w') from (size_any _ q u4 _ (Nat.le_refl _) hp).mono fun e w' he => ⟨he.1.trans (by rw [HC.out, wrap_def]; rfl), he.2⟩)
      go_wp2_with (go_at_call 15; ((with_reducible refine HZ.out.mono ?_); rintro e w5 ⟨rfl, e5⟩))
      go_ret
      exact ⟨rfl, F3.below e5⟩

set_option maxRecDepth 100000 in
theorem nests_c (n N : Int) (m : Nat) (w : World) (hN : bits BinOp.and IntKind.i64 n 65535 = N) (hm : N.tmod 301 = (m : Int)) (h300 : m ≤ 300) (ha : 256 < m) :
    Calls Try.prog 5 #[.int .i64 n] w fun e w' => e = .returned (.bool true) ∧ Fr w w' := by
  have h := Fr.refl w
  have HS := Lib.hid (shown4_fr w w h)
  have kb := run_bs
  have hq := ((open_is (n := m) h300).resolve_left (fun h => by omega)).2
  have hq2 : tl (tMark m) = .bad 262 3 := by
    rcases mark_is (n := m) h300 with h | h | h
    · omega
    · omega
    · exact h.2
  have s1 := rp_size 40 m
  have s2 := rp_size 41 m
  have s3 := rp_size 45 m
  have HK := Lib.hid (fun w => q_bad (s := (⟨#[112, 114, 105, 110, 116, 32]⟩ : ByteArray) ++ rp 40 m ++ ⟨#[49]⟩ ++ rp 41 m ++ ⟨#[59]⟩) ((congrArg tl (by rw [bat_app, bat_app, bat_app, bat_app]; rfl)).trans hq) (6 + (rp 40 m).size + 1 + (rp 41 m).size + 1) (by rw [ByteArray.size_append, ByteArray.size_append, ByteArray.size_append, ByteArray.size_append]; rfl) (by omega) w)
  have HM := Lib.hid (fun w => q_bad (s := (⟨#[112, 114, 105, 110, 116, 32]⟩ : ByteArray) ++ rp 45 m ++ ⟨#[49, 59]⟩) ((congrArg tl (by rw [bat_app, bat_app]; rfl)).trans hq2) (6 + (rp 45 m).size + 2) (by rw [ByteArray.size_append, ByteArray.size_append]; rfl) (by omega) w)
  have d0 : decide ((m : Int) ≤ 256) = false := decide_eq_false (by omega)
  have d1 : decide ((256 : Int) < (m : Int)) = true := decide_eq_true (by omega)
  have d2 : decide ((m : Int) ≤ 62) = false := decide_eq_false (by omega)
  have H3 := Lib.hid h300
  clear hq hq2 h300 ha
  go_enter Try.func5, Try.ntmps5
  go_upto_region 7 with (go_at_call 11; ((with_reducible refine HS.out.mono ?_); rintro e w1 ⟨rfl, F1⟩))
  go_loop [4, 5, 6, 7] (fun a b c i => ∃ k : Nat, k ≤ m ∧ a = .string (rp 40 k) ∧ b = .string (rp 41 k) ∧ c = .string (rp 45 k) ∧ i = .int .i64 k) (fun _ _ _ i => m - (intOf i).toNat)
  case atStart => exact ⟨0, Nat.zero_le _, rfl, rfl, rfl, rfl⟩
  case round =>
    obtain ⟨k, hk, rfl, rfl, rfl, rfl⟩ := hrel
    by_cases hlt : k < m
    · have z1 : ¬ 9223372036854775807 < (rp 40 k).size + 1 := by have := H3.out; rw [rp_size]; omega
      have z2 : ¬ 9223372036854775807 < (rp 41 k).size + 1 := by have := H3.out; rw [rp_size]; omega
      have z3 : ¬ 9223372036854775807 < (rp 45 k).size + 1 := by have := H3.out; rw [rp_size]; omega
      have hki : (k : Int) < (m : Int) := by omega
      have hk3 : k < 300 := by have := H3.out; omega
      go_wp2
      go_round
      case rel => exact ⟨k + 1, hlt, by rw [rp_succ], by rw [rp_succ], by rw [rp_succ], by go_num⟩
      case measure => simp [intOf]; omega
    · obtain rfl : k = m := by omega
      have h3 := H3.out
      have y1 : ¬ 9223372036854775807 < 6 + (rp 40 k).size := by omega
      have y2 : ¬ 9223372036854775807 < 6 + (rp 40 k).size + 1 := by omega
      have y3 : ¬ 9223372036854775807 < 6 + (rp 40 k).size + 1 + (rp 41 k).size := by omega
      have y4 : ¬ 9223372036854775807 < 6 + (rp 40 k).size + 1 + (rp 41 k).size + 1 := by omega
      have y5 : ¬ 9223372036854775807 < 6 + (rp 45 k).size := by omega
      have y6 : ¬ 9223372036854775807 < 6 + (rp 45 k).size + 2 := by omega
      clear s1 s2 s3 h3 hlt hk
      go_upto_region 12 with fail
      go_upto_region 13 with (go_at_call 13; ((with_reducible refine (HK.out _).mono ?_); rintro e w3 ⟨rfl, e3⟩))
      have F3 := F1.below e3
      have Pn5 := heap_alloc_new w3 (.cells #[.slice none 0 0, .slice none 0 0] 35)
      have e6 : Below w3.heap.size w3 (w3.alloc (.cells #[.slice none 0 0, .slice none 0 0] 35)) := (Below.refl _ _).alloc (Nat.le_refl _) _
      have F3 := F3.below e6
      obtain ⟨n5, hn5⟩ : ∃ n, w3.heap.size = n := ⟨_, rfl⟩
      rw [hn5] at Pn5 ⊢
      obtain ⟨u3, hu⟩ : ∃ u, w3.alloc (.cells #[.slice none 0 0, .slice none 0 0] 35) = u := ⟨_, rfl⟩
      rw [hu] at F3 Pn5 ⊢
      clear hu e6
      go_upto_region 14 with (go_at_call 13; ((with_reducible refine (HM.out _).mono ?_); rintro e w4 ⟨rfl, e4⟩))
      have F3 := F3.below e4
      have Pn5 := (e4.block _ (lt_heap Pn5)).trans Pn5
      have e6 : Below w4.heap.size w4 (w4.alloc (.cells #[.slice none 0 0, .slice none 0 0] 35)) := (Below.refl _ _).alloc (Nat.le_refl _) _
      have F3 := F3.below e6
      have Pn5 := (e6.block _ (lt_heap Pn5)).trans Pn5
      obtain ⟨u4, hu⟩ : ∃ u, w4.alloc (.cells #[.slice none 0 0, .slice none 0 0] 35) = u := ⟨_, rfl⟩
      rw [hu] at F3 Pn5 ⊢
      clear hu e6 e4 e3
      have Pn50 := box_cell Pn5 0
      have Pn51 := box_cell Pn5 1
      simp only [List.getElem?_toArray, List.getElem?_cons_succ, List.getElem?_cons_zero] at Pn50 Pn51
      go_wp2
      go_ret
      exact ⟨rfl, F3⟩

theorem nests_walk (n : Int) (w : World) : Calls Try.prog 5 #[.int .i64 n] w fun e w' => e = .returned (.bool true) ∧ Fr w w' := by
  obtain ⟨N, hN⟩ : ∃ N, bits BinOp.and IntKind.i64 n 65535 = N := ⟨_, rfl⟩
  have l16 := low16 n
  rw [hN] at l16
  obtain ⟨m, hm⟩ : ∃ m : Nat, N % 301 = (m : Int) := ⟨(N % 301).toNat, by omega⟩
  have hm' : N.tmod 301 = (m : Int) := by rw [Int.tmod_eq_emod_of_nonneg l16.1]; exact hm
  have h300 : m ≤ 300 := by omega
  by_cases h1 : m ≤ 62
  · exact nests_a n N m w hN hm' h300 h1
  · by_cases h2 : m ≤ 256
    · exact nests_b n N m w hN hm' h300 (by omega) h2
    · exact nests_c n N m w hN hm' h300 (by omega)
end Go.Proofs.Ytmpdnikabkandaa
