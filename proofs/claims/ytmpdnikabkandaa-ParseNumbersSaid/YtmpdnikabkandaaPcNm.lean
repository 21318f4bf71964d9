/-
  ParseNumbers: the walk.
-/
import Derived.Test.YtmpdnikabkandaaPq5
import Derived.Test.YtmpdnikabkandaaPcNpm
namespace Go.Proofs.Ytmpdnikabkandaa
open Go Go.RowKit Go.Lib

theorem keep_cells {lo : Nat} {W : World} {v : Value} {op : Int} {s : ByteArray} {n op2 m : Int} {s2 : ByteArray} {l2 r2 : ES} {x y : SS} (h : GV lo W v ⟨[], .cons op s n (.cons op2 m s2 l2 r2) x y .nil⟩) :
    ∃ Af cf bm om km bl ol kl, v = .agg #[.slice Af 0 cf, .slice (some ⟨bm, om, none⟩) 1 km] ∧ bm < W.heap.size ∧ bl < W.heap.size ∧ W.cell? ⟨bm, om + 3, none⟩ = some (.slice (some ⟨bl, ol, none⟩) (r2.len + 1) kl) ∧ W.cell? ⟨bl, ol + 1, none⟩ = some (.int .i64 m) := by
  obtain ⟨A, c, A', c', rfl, hf, hm⟩ := h.pgv
  obtain ⟨bm, om, km, e2, hbm, _, _, _, ⟨vl, m3, hvl⟩, _⟩ := RowV.get (n := 0) hm
  obtain ⟨bl, ol, kl, rfl, hbl, _, l1, _⟩ := RowV.get (n := r2.len) hvl
  rw [e2]
  exact ⟨A, c, bm, om, km, bl, ol, kl, rfl, hbm, hbl, m3, l1⟩
theorem arr_cells {lo : Nat} {W : World} {v : Value} {op : Int} {s : ByteArray} {m : Int} {l : ES} {x y : SS} (h : GV lo W v ⟨[], .cons op s m l x y .nil⟩) :
    ∃ Af cf bm om km, v = .agg #[.slice Af 0 cf, .slice (some ⟨bm, om, none⟩) 1 km] ∧ bm < W.heap.size ∧ W.cell? ⟨bm, om + 2, none⟩ = some (.int .i64 m) := by
  obtain ⟨A, c, A', c', rfl, hf, hm⟩ := h.pgv
  obtain ⟨bm, om, km, e2, hbm, _, _, m2, _⟩ := RowV.get (n := 0) hm
  rw [e2]
  exact ⟨A, c, bm, om, km, rfl, hbm, m2⟩

set_option maxRecDepth 100000 in
theorem numbers_z (n N : Int) (m : Nat) (w : World) (hN : bits BinOp.and IntKind.i64 n 65535 = N) (l16 : 0 ≤ N ∧ N ≤ 65535) (hm : N % 100 = (m : Int)) (hm100 : m < 100) (hz : m = 0) : Calls Try.prog 7 #[.int .i64 n] w fun e w' => e = .returned (.bool true) ∧ Fr w w' := by
  have h := Fr.refl w
  have HS := Lib.hid (shown4_fr w w h)
  have kb := run_bs
  have HNM := Lib.hid (fun w => number_any m hm100 w)
  obtain ⟨op, s1, n1, op2, s2, l2, r2, x, y, rest, hk⟩ := keep_is hm100
  have ho := nought_is hm100
  have hD2 : (baT (dg m)).size ≤ 2 := by rw [baT_size]; exact dg_size
  have hq : tl (tArr m) = .bad 8 1 := (arr_is hm100).elim (fun h => h.2) (fun h => absurd hz h.1)
  have d0 : (N % 100 == 0) = true := by rw [hm, hz]; rfl
  have hk' : tl ((⟨#[107, 101, 101, 112, 32]⟩ : ByteArray) ++ baT (dg m) ++ ⟨#[59]⟩).data.toList = _ := (congrArg tl (by rw [bat_app, bat_app]; rfl)).trans hk
  have ho' : tl ((⟨#[107, 101, 101, 112, 32, 48]⟩ : ByteArray) ++ baT (dg m) ++ ⟨#[59]⟩).data.toList = _ := (congrArg tl (by rw [bat_app, bat_app]; rfl)).trans ho
  have hq' : tl ((⟨#[97, 114, 114, 97, 121, 32, 97, 32]⟩ : ByteArray) ++ baT (dg m) ++ ⟨#[59]⟩).data.toList = _ := (congrArg tl (by rw [bat_app, bat_app]; rfl)).trans hq
  have HK := Lib.hid (fun w => q_ok hk' (5 + (baT (dg m)).size + 1) (by rw [ByteArray.size_append, ByteArray.size_append]; rfl) (by omega) w)
  have HO := Lib.hid (fun w => q_bad ho' (6 + (baT (dg m)).size + 1) (by rw [ByteArray.size_append, ByteArray.size_append]; rfl) (by omega) w)
  have HQ := Lib.hid (fun w => q_bad hq' (8 + (baT (dg m)).size + 1) (by rw [ByteArray.size_append, ByteArray.size_append]; rfl) (by omega) w)
  have dm : decide ((m : Int) = 0) = true := decide_eq_true (by omega)
  have hm' : N.tmod 100 = (m : Int) := by rw [Int.tmod_eq_emod_of_nonneg l16.1]; exact hm
  clear hk ho hq hk' ho' hq' hm100 l16 hz
  go_enter Try.func7, Try.ntmps7
  go_upto_region 4 with (first
    | (go_at_call 11; ((with_reducible refine HS.out.mono ?_); rintro e w1 ⟨rfl, F1⟩))
    | (go_at_call 16; ((with_reducible refine (HNM.out _).mono ?_); rintro e w2 ⟨rfl, e2⟩)))
  have F2 := F1.below e2
  go_upto_region 5 with (go_at_call 13; ((with_reducible refine (HK.out _).mono ?_); rintro e w3 ⟨⟨v, rfl, hv⟩, e3⟩; obtain ⟨Af, cf, bm, om, km, bl, ol, kl, rfl, lm, ll, c3, c1⟩ := keep_cells hv))
  have F3 := F2.below e3
  have Pn5 := heap_alloc_new w3 (.cells #[.slice Af 0 cf, .slice (some ⟨bm, om, none⟩) 1 km] 35)
  have e6 : Below w3.heap.size w3 (w3.alloc (.cells #[.slice Af 0 cf, .slice (some ⟨bm, om, none⟩) 1 km] 35)) := (Below.refl _ _).alloc (Nat.le_refl _) _
  have F3 := F3.below e6
  have c3 := (e6.cell lm).trans c3
  have c1 := (e6.cell ll).trans c1
  have lm := Nat.lt_of_lt_of_le lm e6.size
  have ll := Nat.lt_of_lt_of_le ll e6.size
  obtain ⟨n5, hn5⟩ : ∃ n, w3.heap.size = n := ⟨_, rfl⟩
  rw [hn5] at Pn5 ⊢
  obtain ⟨u3, hu⟩ : ∃ u, w3.alloc (.cells #[.slice Af 0 cf, .slice (some ⟨bm, om, none⟩) 1 km] 35) = u := ⟨_, rfl⟩
  rw [hu] at F3 c3 c1 lm ll Pn5   ⊢
  clear hu e6
  go_upto_region 6 with (go_at_call 13; ((with_reducible refine (HQ.out _).mono ?_); rintro e w4 ⟨rfl, e4⟩))
  have F3 := F3.below e4
  have c3 := (e4.cell lm).trans c3
  have c1 := (e4.cell ll).trans c1
  have lm := Nat.lt_of_lt_of_le lm e4.size
  have ll := Nat.lt_of_lt_of_le ll e4.size
  have Pn5 := (e4.block _ (lt_heap Pn5)).trans Pn5
  clear e4
  have Pn8 := heap_alloc_new w4 (.cells #[.slice none 0 0, .slice none 0 0] 35)
  have e6 : Below w4.heap.size w4 (w4.alloc (.cells #[.slice none 0 0, .slice none 0 0] 35)) := (Below.refl _ _).alloc (Nat.le_refl _) _
  have F3 := F3.below e6
  have c3 := (e6.cell lm).trans c3
  have c1 := (e6.cell ll).trans c1
  have lm := Nat.lt_of_lt_of_le lm e6.size
  have ll := Nat.lt_of_lt_of_le ll e6.size
  have Pn5 := (e6.block _ (lt_heap Pn5)).trans Pn5
  obtain ⟨n8, hn8⟩ : ∃ n, w4.heap.size = n := ⟨_, rfl⟩
  rw [hn8] at Pn8 ⊢
  obtain ⟨u4, hu⟩ : ∃ u, w4.alloc (.cells #[.slice none 0 0, .slice none 0 0] 35) = u := ⟨_, rfl⟩
  rw [hu] at F3 c3 c1 lm ll Pn8 Pn5  ⊢
  clear hu e6
  go_upto_region 7 with (go_at_call 13; ((with_reducible refine (HO.out _).mono ?_); rintro e w5 ⟨rfl, e4⟩))
  have F3 := F3.below e4
  have c3 := (e4.cell lm).trans c3
  have c1 := (e4.cell ll).trans c1
  have lm := Nat.lt_of_lt_of_le lm e4.size
  have ll := Nat.lt_of_lt_of_le ll e4.size
  have Pn5 := (e4.block _ (lt_heap Pn5)).trans Pn5
  have Pn8 := (e4.block _ (lt_heap Pn8)).trans Pn8
  clear e4
  have Pn11 := heap_alloc_new w5 (.cells #[.slice none 0 0, .slice none 0 0] 35)
  have e6 : Below w5.heap.size w5 (w5.alloc (.cells #[.slice none 0 0, .slice none 0 0] 35)) := (Below.refl _ _).alloc (Nat.le_refl _) _
  have F3 := F3.below e6
  have c3 := (e6.cell lm).trans c3
  have c1 := (e6.cell ll).trans c1
  have lm := Nat.lt_of_lt_of_le lm e6.size
  have ll := Nat.lt_of_lt_of_le ll e6.size
  have Pn5 := (e6.block _ (lt_heap Pn5)).trans Pn5
  have Pn8 := (e6.block _ (lt_heap Pn8)).trans Pn8
  obtain ⟨n11, hn11⟩ : ∃ n, w5.heap.size = n := ⟨_, rfl⟩
  rw [hn11] at Pn11 ⊢
  obtain ⟨u5, hu⟩ : ∃ u, w5.alloc (.cells #[.slice none 0 0, .slice none 0 0] 35) = u := ⟨_, rfl⟩
  rw [hu] at F3 c3 c1 lm ll Pn11 Pn5 Pn8  ⊢
  clear hu e6
  have Pn50 := box_cell Pn5 0
  have Pn51 := box_cell Pn5 1
  simp only [List.getElem?_toArray, List.getElem?_cons_succ, List.getElem?_cons_zero] at Pn50 Pn51
  have Pn80 := box_cell Pn8 0
  have Pn81 := box_cell Pn8 1
  simp only [List.getElem?_toArray, List.getElem?_cons_succ, List.getElem?_cons_zero] at Pn80 Pn81
  go_wp2
  go_ret
  exact ⟨rfl, F3⟩

set_option maxRecDepth 100000 in
theorem numbers_s (n N : Int) (m : Nat) (w : World) (hN : bits BinOp.and IntKind.i64 n 65535 = N) (l16 : 0 ≤ N ∧ N ≤ 65535) (hm : N % 100 = (m : Int)) (hm100 : m < 100) (hz : m ≠ 0) : Calls Try.prog 7 #[.int .i64 n] w fun e w' => e = .returned (.bool true) ∧ Fr w w' := by
  have h := Fr.refl w
  have HS := Lib.hid (shown4_fr w w h)
  have kb := run_bs
  have HNM := Lib.hid (fun w => number_any m hm100 w)
  obtain ⟨op, s1, n1, op2, s2, l2, r2, x, y, rest, hk⟩ := keep_is hm100
  have ho := nought_is hm100
  have hD2 : (baT (dg m)).size ≤ 2 := by rw [baT_size]; exact dg_size
  obtain ⟨op3, s3, l3, x3, y3, rest3, hq⟩ := ((arr_is hm100).resolve_left (fun h => hz h.1)).2
  have hk' : tl ((⟨#[107, 101, 101, 112, 32]⟩ : ByteArray) ++ baT (dg m) ++ ⟨#[59]⟩).data.toList = _ := (congrArg tl (by rw [bat_app, bat_app]; rfl)).trans hk
  have ho' : tl ((⟨#[107, 101, 101, 112, 32, 48]⟩ : ByteArray) ++ baT (dg m) ++ ⟨#[59]⟩).data.toList = _ := (congrArg tl (by rw [bat_app, bat_app]; rfl)).trans ho
  have hq' : tl ((⟨#[97, 114, 114, 97, 121, 32, 97, 32]⟩ : ByteArray) ++ baT (dg m) ++ ⟨#[59]⟩).data.toList = _ := (congrArg tl (by rw [bat_app, bat_app]; rfl)).trans hq
  have HK := Lib.hid (fun w => q_ok hk' (5 + (baT (dg m)).size + 1) (by rw [ByteArray.size_append, ByteArray.size_append]; rfl) (by omega) w)
  have HO := Lib.hid (fun w => q_bad ho' (6 + (baT (dg m)).size + 1) (by rw [ByteArray.size_append, ByteArray.size_append]; rfl) (by omega) w)
  have HQ := Lib.hid (fun w => q_ok hq' (8 + (baT (dg m)).size + 1) (by rw [ByteArray.size_append, ByteArray.size_append]; rfl) (by omega) w)
  have dm : decide ((m : Int) = 0) = false := decide_eq_false (by omega)
  have hm' : N.tmod 100 = (m : Int) := by rw [Int.tmod_eq_emod_of_nonneg l16.1]; exact hm
  have dz : ((m : Int) == 0) = false := by rw [beq_eq_false_iff_ne]; omega
  have dz2 : ¬ (m : Int) = 0 := by omega
  clear hk ho hq hk' ho' hq' hm100 l16
  go_enter Try.func7, Try.ntmps7
  go_upto_region 4 with (first
    | (go_at_call 11; ((with_reducible refine HS.out.mono ?_); rintro e w1 ⟨rfl, F1⟩))
    | (go_at_call 16; ((with_reducible refine (HNM.out _).mono ?_); rintro e w2 ⟨rfl, e2⟩)))
  have F2 := F1.below e2
  go_upto_region 5 with (go_at_call 13; ((with_reducible refine (HK.out _).mono ?_); rintro e w3 ⟨⟨v, rfl, hv⟩, e3⟩; obtain ⟨Af, cf, bm, om, km, bl, ol, kl, rfl, lm, ll, c3, c1⟩ := keep_cells hv))
  have F3 := F2.below e3
  have Pn5 := heap_alloc_new w3 (.cells #[.slice Af 0 cf, .slice (some ⟨bm, om, none⟩) 1 km] 35)
  have e6 : Below w3.heap.size w3 (w3.alloc (.cells #[.slice Af 0 cf, .slice (some ⟨bm, om, none⟩) 1 km] 35)) := (Below.refl _ _).alloc (Nat.le_refl _) _
  have F3 := F3.below e6
  have c3 := (e6.cell lm).trans c3
  have c1 := (e6.cell ll).trans c1
  have lm := Nat.lt_of_lt_of_le lm e6.size
  have ll := Nat.lt_of_lt_of_le ll e6.size
  obtain ⟨n5, hn5⟩ : ∃ n, w3.heap.size = n := ⟨_, rfl⟩
  rw [hn5] at Pn5 ⊢
  obtain ⟨u3, hu⟩ : ∃ u, w3.alloc (.cells #[.slice Af 0 cf, .slice (some ⟨bm, om, none⟩) 1 km] 35) = u := ⟨_, rfl⟩
  rw [hu] at F3 c3 c1 lm ll Pn5   ⊢
  clear hu e6
  go_upto_region 6 with (go_at_call 13; ((with_reducible refine (HQ.out _).mono ?_); rintro e w4 ⟨⟨v, rfl, hv⟩, e4⟩; obtain ⟨Ag, cg, bq, oq, kq, rfl, lq, q2⟩ := arr_cells hv))
  have F3 := F3.below e4
  have c3 := (e4.cell lm).trans c3
  have c1 := (e4.cell ll).trans c1
  have lm := Nat.lt_of_lt_of_le lm e4.size
  have ll := Nat.lt_of_lt_of_le ll e4.size
  have Pn5 := (e4.block _ (lt_heap Pn5)).trans Pn5
  clear e4
  have Pn8 := heap_alloc_new w4 (.cells #[.slice Ag 0 cg, .slice (some ⟨bq, oq, none⟩) 1 kq] 35)
  have e6 : Below w4.heap.size w4 (w4.alloc (.cells #[.slice Ag 0 cg, .slice (some ⟨bq, oq, none⟩) 1 kq] 35)) := (Below.refl _ _).alloc (Nat.le_refl _) _
  have F3 := F3.below e6
  have c3 := (e6.cell lm).trans c3
  have c1 := (e6.cell ll).trans c1
  have lm := Nat.lt_of_lt_of_le lm e6.size
  have ll := Nat.lt_of_lt_of_le ll e6.size
  have Pn5 := (e6.block _ (lt_heap Pn5)).trans Pn5
  have q2 := (e6.cell lq).trans q2
  have lq := Nat.lt_of_lt_of_le lq e6.size
  obtain ⟨n8, hn8⟩ : ∃ n, w4.heap.size = n := ⟨_, rfl⟩
  rw [hn8] at Pn8 ⊢
  obtain ⟨u4, hu⟩ : ∃ u, w4.alloc (.cells #[.slice Ag 0 cg, .slice (some ⟨bq, oq, none⟩) 1 kq] 35) = u := ⟨_, rfl⟩
  rw [hu] at F3 c3 c1 lm ll Pn8 Pn5 q2 lq ⊢
  clear hu e6
  go_upto_region 7 with (go_at_call 13; ((with_reducible refine (HO.out _).mono ?_); rintro e w5 ⟨rfl, e4⟩))
  have F3 := F3.below e4
  have c3 := (e4.cell lm).trans c3
  have c1 := (e4.cell ll).trans c1
  have lm := Nat.lt_of_lt_of_le lm e4.size
  have ll := Nat.lt_of_lt_of_le ll e4.size
  have Pn5 := (e4.block _ (lt_heap Pn5)).trans Pn5
  have Pn8 := (e4.block _ (lt_heap Pn8)).trans Pn8
  have q2 := (e4.cell lq).trans q2
  have lq := Nat.lt_of_lt_of_le lq e4.size
  clear e4
  have Pn11 := heap_alloc_new w5 (.cells #[.slice none 0 0, .slice none 0 0] 35)
  have e6 : Below w5.heap.size w5 (w5.alloc (.cells #[.slice none 0 0, .slice none 0 0] 35)) := (Below.refl _ _).alloc (Nat.le_refl _) _
  have F3 := F3.below e6
  have c3 := (e6.cell lm).trans c3
  have c1 := (e6.cell ll).trans c1
  have lm := Nat.lt_of_lt_of_le lm e6.size
  have ll := Nat.lt_of_lt_of_le ll e6.size
  have Pn5 := (e6.block _ (lt_heap Pn5)).trans Pn5
  have Pn8 := (e6.block _ (lt_heap Pn8)).trans Pn8
  have q2 := (e6.cell lq).trans q2
  have lq := Nat.lt_of_lt_of_le lq e6.size
  obtain ⟨n11, hn11⟩ : ∃ n, w5.heap.size = n := ⟨_, rfl⟩
  rw [hn11] at Pn11 ⊢
  obtain ⟨u5, hu⟩ : ∃ u, w5.alloc (.cells #[.slice none 0 0, .slice none 0 0] 35) = u := ⟨_, rfl⟩
  rw [hu] at F3 c3 c1 lm ll Pn11 Pn5 Pn8 q2 lq ⊢
  clear hu e6
  have Pn50 := box_cell Pn5 0
  have Pn51 := box_cell Pn5 1
  simp only [List.getElem?_toArray, List.getElem?_cons_succ, List.getElem?_cons_zero] at Pn50 Pn51
  have Pn80 := box_cell Pn8 0
  have Pn81 := box_cell Pn8 1
  simp only [List.getElem?_toArray, List.getElem?_cons_succ, List.getElem?_cons_zero] at Pn80 Pn81
  go_wp2
  go_ret
  exact ⟨rfl, F3⟩

theorem numbers_walk (n : Int) (w : World) : Calls Try.prog 7 #[.int .i64 n] w fun e w' => e = .returned (.bool true) ∧ Fr w w' := by
  obtain ⟨N, hN⟩ : ∃ N, bits BinOp.and IntKind.i64 n 65535 = N := ⟨_, rfl⟩
  have l16 := low16 n
  rw [hN] at l16
  obtain ⟨m, hm⟩ : ∃ m : Nat, N % 100 = (m : Int) := ⟨(N % 100).toNat, by omega⟩
  have hm100 : m < 100 := by omega
  by_cases hz : m = 0
  · exact numbers_z n N m w hN l16 hm hm100 hz
  · exact numbers_s n N m w hN l16 hm hm100 hz

end Go.Proofs.Ytmpdnikabkandaa
