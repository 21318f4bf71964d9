/-
  writeIns.
-/
import Derived.Test.YtnilklgnpfgieaaDoorCoC
namespace Go.Proofs.YtnilklgnpfgieaaDoor
open Go Go.RowKit Go.Lib

theorem kept_row {w w' : World} {e T : TypeId} {b g : Nat} {cs : Array Value} {fr : Nat × Nat} (h : OthersKept e (some b) w w') (hg : w.heap[g]? = some (.cells cs T fr)) (hb : g ≠ b) (hT : T ≠ e := by decide) : w'.heap[g]? = some (.cells cs T fr) :=
  h g _ hg (fun e => hb (by injection e)) (fun cs' fr' e => by injection e with _ e _; exact hT e)

set_option maxHeartbeats 4000000 in
theorem ins_00 (lo b : Nat) (t nm : List UInt8) (op a n : Int) (tk lv co : Nat) (w : World) (ht : CT lo w) (h : WS lo w b t) (hlen : t.length + 60 ≤ 70368744177664) (hnm : nm.length ≤ 6) (hk : kdOf op = ⟨nm, tk, lv, co, false, false⟩) :
    Calls Tryd.prog 14 #[used b, .agg #[.int .i64 op, .int .i64 a, .int .i64 n]] w fun e w' => e = .returned (.tuple #[]) ∧ Wrote lo b w (t ++ nm) w' := by
  have HK := Lib.hid hk; clear hk
  have hlt := h.lt
  have hsz : (⟨nm.toArray⟩ : ByteArray).size = nm.length := rfl
  obtain ⟨W1, hW1⟩ : ∃ W1, w.alloc (.cells #[.int .i64 op, .int .i64 a, .int .i64 n] 43) = W1 := ⟨_, rfl⟩
  have hg1 : W1.heap[w.heap.size]? = some (.cells #[.int .i64 op, .int .i64 a, .int .i64 n] 43 (0, 0)) := by rw [← hW1]; exact heap_alloc_new w _
  have hb1 : Below w.heap.size w W1 := by rw [← hW1]; exact (Below.refl _ _).alloc (Nat.le_refl _) _
  have hs1 : w.heap.size < W1.heap.size := by rw [← hW1]; simp
  have k0 : W1.cell? ⟨w.heap.size, 0, none⟩ = some (.int .i64 op) := by rw [cell_of_heap hg1]; rfl
  have hq := kindOf_sh op _ HK.out lo W1 (ht.step hb1)
  go_enter Tryd.func14, Tryd.ntmps14
  go_upto_region 2 with (go_at_call 26; ((with_reducible refine hq.mono ?_); clear hq; rintro e w2 ⟨rfl, h2⟩))
  obtain ⟨W3, hW3⟩ : ∃ W3, w2.alloc (.cells #[.string ⟨nm.toArray⟩, .int .u8 tk, .int .u8 lv, .int .u8 co, .bool false, .bool false] 82) = W3 := ⟨_, rfl⟩
  rw [hW3]
  have hg3 : W3.heap[w2.heap.size]? = some (.cells #[.string ⟨nm.toArray⟩, .int .u8 tk, .int .u8 lv, .int .u8 co, .bool false, .bool false] 82 (0, 0)) := by rw [← hW3]; exact heap_alloc_new w2 _
  have hb3 : Below w2.heap.size w2 W3 := by rw [← hW3]; exact (Below.refl _ _).alloc (Nat.le_refl _) _
  have hlo2 : w.heap.size < w2.heap.size := Nat.lt_of_lt_of_le hs1 h2.size
  have hf1 : W3.heap[w.heap.size]? = some (.cells #[.int .i64 op, .int .i64 a, .int .i64 n] 43 (0, 0)) := (hb3.block _ hlo2).trans ((h2.block _ hs1).trans hg1)
  have hbw : Below w.heap.size w W3 := (hb1.trans (h2.mono (Nat.le_of_lt hs1))).trans (hb3.mono (Nat.le_of_lt hlo2))
  have hw3 : Wrote lo b w t W3 := (Wrote.refl h).below hbw ht.lw
  have ht3 := ht.step hbw
  have n0 : W3.cell? ⟨w2.heap.size, 0, none⟩ = some (.string ⟨nm.toArray⟩) := by rw [cell_of_heap hg3]; rfl
  clear hW1 hg1 k0 hW3
  have hq := write_any lo b t ⟨nm.toArray⟩ W3 hw3.ws ht3.lw (by rw [hsz]; omega)
  go_upto_region 3 with (go_at_call 11; ((with_reducible refine hq.mono ?_); clear hq; rintro e w4 ⟨rfl, h4⟩))
  have ht4 := ht3.on h4.bl
  have hw4 := hw3.trans h4
  have hg4 := kept_row h4.ok hg3 (by omega)
  have hf4 := kept_row h4.ok hf1 (by omega)
  have m4 : w4.cell? ⟨w2.heap.size, 4, none⟩ = some (.bool false) := by rw [cell_of_heap hg4]; rfl
  have m1 : w4.cell? ⟨w.heap.size, 1, none⟩ = some (.int .i64 a) := by rw [cell_of_heap hf4]; rfl
  clear n0
  have l5 : w4.cell? ⟨w2.heap.size, 5, none⟩ = some (.bool false) := by rw [cell_of_heap hg4]; rfl
  have l2 : w4.cell? ⟨w.heap.size, 2, none⟩ = some (.int .i64 n) := by rw [cell_of_heap hf4]; rfl
  go_wp2
  go_end0
  exact ⟨rfl, hw4⟩

set_option maxHeartbeats 4000000 in
theorem ins_01 (lo b : Nat) (t nm : List UInt8) (op a n : Int) (tk lv co : Nat) (w : World) (ht : CT lo w) (h : WS lo w b t) (hn : I64 n) (hlen : t.length + 60 ≤ 70368744177664) (hnm : nm.length ≤ 6) (hk : kdOf op = ⟨nm, tk, lv, co, false, true⟩) :
    Calls Tryd.prog 14 #[used b, .agg #[.int .i64 op, .int .i64 a, .int .i64 n]] w fun e w' => e = .returned (.tuple #[]) ∧ Wrote lo b w (t ++ nm ++ (32 :: itoa n)) w' := by
  have HK := Lib.hid hk; clear hk
  have hlt := h.lt
  have hsz : (⟨nm.toArray⟩ : ByteArray).size = nm.length := rfl
  obtain ⟨W1, hW1⟩ : ∃ W1, w.alloc (.cells #[.int .i64 op, .int .i64 a, .int .i64 n] 43) = W1 := ⟨_, rfl⟩
  have hg1 : W1.heap[w.heap.size]? = some (.cells #[.int .i64 op, .int .i64 a, .int .i64 n] 43 (0, 0)) := by rw [← hW1]; exact heap_alloc_new w _
  have hb1 : Below w.heap.size w W1 := by rw [← hW1]; exact (Below.refl _ _).alloc (Nat.le_refl _) _
  have hs1 : w.heap.size < W1.heap.size := by rw [← hW1]; simp
  have k0 : W1.cell? ⟨w.heap.size, 0, none⟩ = some (.int .i64 op) := by rw [cell_of_heap hg1]; rfl
  have hq := kindOf_sh op _ HK.out lo W1 (ht.step hb1)
  go_enter Tryd.func14, Tryd.ntmps14
  go_upto_region 2 with (go_at_call 26; ((with_reducible refine hq.mono ?_); clear hq; rintro e w2 ⟨rfl, h2⟩))
  obtain ⟨W3, hW3⟩ : ∃ W3, w2.alloc (.cells #[.string ⟨nm.toArray⟩, .int .u8 tk, .int .u8 lv, .int .u8 co, .bool false, .bool true] 82) = W3 := ⟨_, rfl⟩
  rw [hW3]
  have hg3 : W3.heap[w2.heap.size]? = some (.cells #[.string ⟨nm.toArray⟩, .int .u8 tk, .int .u8 lv, .int .u8 co, .bool false, .bool true] 82 (0, 0)) := by rw [← hW3]; exact heap_alloc_new w2 _
  have hb3 : Below w2.heap.size w2 W3 := by rw [← hW3]; exact (Below.refl _ _).alloc (Nat.le_refl _) _
  have hlo2 : w.heap.size < w2.heap.size := Nat.lt_of_lt_of_le hs1 h2.size
  have hf1 : W3.heap[w.heap.size]? = some (.cells #[.int .i64 op, .int .i64 a, .int .i64 n] 43 (0, 0)) := (hb3.block _ hlo2).trans ((h2.block _ hs1).trans hg1)
  have hbw : Below w.heap.size w W3 := (hb1.trans (h2.mono (Nat.le_of_lt hs1))).trans (hb3.mono (Nat.le_of_lt hlo2))
  have hw3 : Wrote lo b w t W3 := (Wrote.refl h).below hbw ht.lw
  have ht3 := ht.step hbw
  have n0 : W3.cell? ⟨w2.heap.size, 0, none⟩ = some (.string ⟨nm.toArray⟩) := by rw [cell_of_heap hg3]; rfl
  clear hW1 hg1 k0 hW3
  have hq := write_any lo b t ⟨nm.toArray⟩ W3 hw3.ws ht3.lw (by rw [hsz]; omega)
  go_upto_region 3 with (go_at_call 11; ((with_reducible refine hq.mono ?_); clear hq; rintro e w4 ⟨rfl, h4⟩))
  have ht4 := ht3.on h4.bl
  have hw4 := hw3.trans h4
  have hg4 := kept_row h4.ok hg3 (by omega)
  have hf4 := kept_row h4.ok hf1 (by omega)
  have m4 : w4.cell? ⟨w2.heap.size, 4, none⟩ = some (.bool false) := by rw [cell_of_heap hg4]; rfl
  have m1 : w4.cell? ⟨w.heap.size, 1, none⟩ = some (.int .i64 a) := by rw [cell_of_heap hf4]; rfl
  clear n0
  have l5 : w4.cell? ⟨w2.heap.size, 5, none⟩ = some (.bool true) := by rw [cell_of_heap hg4]; rfl
  have l2 : w4.cell? ⟨w.heap.size, 2, none⟩ = some (.int .i64 n) := by rw [cell_of_heap hf4]; rfl
  have hq := writeNumber_any lo b (t ++ nm) n w4 ht4 h4.ws hn (by simp only [List.length_append]; omega)
  go_wp2_with (go_at_call 27; ((with_reducible refine hq.mono ?_); clear hq; rintro e w6 ⟨rfl, h6⟩))
  go_end0
  exact ⟨rfl, hw4.trans h6⟩

set_option maxHeartbeats 4000000 in
theorem ins_10 (lo b : Nat) (t nm : List UInt8) (op a n : Int) (tk lv co : Nat) (w : World) (ht : CT lo w) (h : WS lo w b t) (ha : I64 a) (hlen : t.length + 60 ≤ 70368744177664) (hnm : nm.length ≤ 6) (hk : kdOf op = ⟨nm, tk, lv, co, true, false⟩) :
    Calls Tryd.prog 14 #[used b, .agg #[.int .i64 op, .int .i64 a, .int .i64 n]] w fun e w' => e = .returned (.tuple #[]) ∧ Wrote lo b w (t ++ nm ++ (32 :: itoa a)) w' := by
  have HK := Lib.hid hk; clear hk
  have hlt := h.lt
  have hsz : (⟨nm.toArray⟩ : ByteArray).size = nm.length := rfl
  obtain ⟨W1, hW1⟩ : ∃ W1, w.alloc (.cells #[.int .i64 op, .int .i64 a, .int .i64 n] 43) = W1 := ⟨_, rfl⟩
  have hg1 : W1.heap[w.heap.size]? = some (.cells #[.int .i64 op, .int .i64 a, .int .i64 n] 43 (0, 0)) := by rw [← hW1]; exact heap_alloc_new w _
  have hb1 : Below w.heap.size w W1 := by rw [← hW1]; exact (Below.refl _ _).alloc (Nat.le_refl _) _
  have hs1 : w.heap.size < W1.heap.size := by rw [← hW1]; simp
  have k0 : W1.cell? ⟨w.heap.size, 0, none⟩ = some (.int .i64 op) := by rw [cell_of_heap hg1]; rfl
  have hq := kindOf_sh op _ HK.out lo W1 (ht.step hb1)
  go_enter Tryd.func14, Tryd.ntmps14
  go_upto_region 2 with (go_at_call 26; ((with_reducible refine hq.mono ?_); clear hq; rintro e w2 ⟨rfl, h2⟩))
  obtain ⟨W3, hW3⟩ : ∃ W3, w2.alloc (.cells #[.string ⟨nm.toArray⟩, .int .u8 tk, .int .u8 lv, .int .u8 co, .bool true, .bool false] 82) = W3 := ⟨_, rfl⟩
  rw [hW3]
  have hg3 : W3.heap[w2.heap.size]? = some (.cells #[.string ⟨nm.toArray⟩, .int .u8 tk, .int .u8 lv, .int .u8 co, .bool true, .bool false] 82 (0, 0)) := by rw [← hW3]; exact heap_alloc_new w2 _
  have hb3 : Below w2.heap.size w2 W3 := by rw [← hW3]; exact (Below.refl _ _).alloc (Nat.le_refl _) _
  have hlo2 : w.heap.size < w2.heap.size := Nat.lt_of_lt_of_le hs1 h2.size
  have hf1 : W3.heap[w.heap.size]? = some (.cells #[.int .i64 op, .int .i64 a, .int .i64 n] 43 (0, 0)) := (hb3.block _ hlo2).trans ((h2.block _ hs1).trans hg1)
  have hbw : Below w.heap.size w W3 := (hb1.trans (h2.mono (Nat.le_of_lt hs1))).trans (hb3.mono (Nat.le_of_lt hlo2))
  have hw3 : Wrote lo b w t W3 := (Wrote.refl h).below hbw ht.lw
  have ht3 := ht.step hbw
  have n0 : W3.cell? ⟨w2.heap.size, 0, none⟩ = some (.string ⟨nm.toArray⟩) := by rw [cell_of_heap hg3]; rfl
  clear hW1 hg1 k0 hW3
  have hq := write_any lo b t ⟨nm.toArray⟩ W3 hw3.ws ht3.lw (by rw [hsz]; omega)
  go_upto_region 3 with (go_at_call 11; ((with_reducible refine hq.mono ?_); clear hq; rintro e w4 ⟨rfl, h4⟩))
  have ht4 := ht3.on h4.bl
  have hw4 := hw3.trans h4
  have hg4 := kept_row h4.ok hg3 (by omega)
  have hf4 := kept_row h4.ok hf1 (by omega)
  have m4 : w4.cell? ⟨w2.heap.size, 4, none⟩ = some (.bool true) := by rw [cell_of_heap hg4]; rfl
  have m1 : w4.cell? ⟨w.heap.size, 1, none⟩ = some (.int .i64 a) := by rw [cell_of_heap hf4]; rfl
  clear n0
  have hq := writeNumber_any lo b (t ++ nm) a w4 ht4 h4.ws ha (by simp only [List.length_append]; omega)
  go_upto_region 5 with (go_at_call 27; ((with_reducible refine hq.mono ?_); clear hq; rintro e w5 ⟨rfl, h5⟩))
  have ht5 := ht4.on h5.bl
  have hw5 := hw4.trans h5
  have hg5 := kept_row h5.ok hg4 (by omega)
  have hf5 := kept_row h5.ok hf4 (by omega)
  have l5 : w5.cell? ⟨w2.heap.size, 5, none⟩ = some (.bool false) := by rw [cell_of_heap hg5]; rfl
  have l2 : w5.cell? ⟨w.heap.size, 2, none⟩ = some (.int .i64 n) := by rw [cell_of_heap hf5]; rfl
  clear m4 m1
  go_wp2
  go_end0
  exact ⟨rfl, hw5⟩

set_option maxHeartbeats 4000000 in
theorem ins_11 (lo b : Nat) (t nm : List UInt8) (op a n : Int) (tk lv co : Nat) (w : World) (ht : CT lo w) (h : WS lo w b t) (ha : I64 a) (hn : I64 n) (hlen : t.length + 60 ≤ 70368744177664) (hnm : nm.length ≤ 6) (hk : kdOf op = ⟨nm, tk, lv, co, true, true⟩) :
    Calls Tryd.prog 14 #[used b, .agg #[.int .i64 op, .int .i64 a, .int .i64 n]] w fun e w' => e = .returned (.tuple #[]) ∧ Wrote lo b w (t ++ nm ++ (32 :: itoa a) ++ (32 :: itoa n)) w' := by
  have HK := Lib.hid hk; clear hk
  have hlt := h.lt
  have hsz : (⟨nm.toArray⟩ : ByteArray).size = nm.length := rfl
  obtain ⟨W1, hW1⟩ : ∃ W1, w.alloc (.cells #[.int .i64 op, .int .i64 a, .int .i64 n] 43) = W1 := ⟨_, rfl⟩
  have hg1 : W1.heap[w.heap.size]? = some (.cells #[.int .i64 op, .int .i64 a, .int .i64 n] 43 (0, 0)) := by rw [← hW1]; exact heap_alloc_new w _
  have hb1 : Below w.heap.size w W1 := by rw [← hW1]; exact (Below.refl _ _).alloc (Nat.le_refl _) _
  have hs1 : w.heap.size < W1.heap.size := by rw [← hW1]; simp
  have k0 : W1.cell? ⟨w.heap.size, 0, none⟩ = some (.int .i64 op) := by rw [cell_of_heap hg1]; rfl
  have hq := kindOf_sh op _ HK.out lo W1 (ht.step hb1)
  go_enter Tryd.func14, Tryd.ntmps14
  go_upto_region 2 with (go_at_call 26; ((with_reducible refine hq.mono ?_); clear hq; rintro e w2 ⟨rfl, h2⟩))
  obtain ⟨W3, hW3⟩ : ∃ W3, w2.alloc (.cells #[.string ⟨nm.toArray⟩, .int .u8 tk, .int .u8 lv, .int .u8 co, .bool true, .bool true] 82) = W3 := ⟨_, rfl⟩
  rw [hW3]
  have hg3 : W3.heap[w2.heap.size]? = some (.cells #[.string ⟨nm.toArray⟩, .int .u8 tk, .int .u8 lv, .int .u8 co, .bool true, .bool true] 82 (0, 0)) := by rw [← hW3]; exact heap_alloc_new w2 _
  have hb3 : Below w2.heap.size w2 W3 := by rw [← hW3]; exact (Below.refl _ _).alloc (Nat.le_refl _) _
  have hlo2 : w.heap.size < w2.heap.size := Nat.lt_of_lt_of_le hs1 h2.size
  have hf1 : W3.heap[w.heap.size]? = some (.cells #[.int .i64 op, .int .i64 a, .int .i64 n] 43 (0, 0)) := (hb3.block _ hlo2).trans ((h2.block _ hs1).trans hg1)
  have hbw : Below w.heap.size w W3 := (hb1.trans (h2.mono (Nat.le_of_lt hs1))).trans (hb3.mono (Nat.le_of_lt hlo2))
  have hw3 : Wrote lo b w t W3 := (Wrote.refl h).below hbw ht.lw
  have ht3 := ht.step hbw
  have n0 : W3.cell? ⟨w2.heap.size, 0, none⟩ = some (.string ⟨nm.toArray⟩) := by rw [cell_of_heap hg3]; rfl
  clear hW1 hg1 k0 hW3
  have hq := write_any lo b t ⟨nm.toArray⟩ W3 hw3.ws ht3.lw (by rw [hsz]; omega)
  go_upto_region 3 with (go_at_call 11; ((with_reducible refine hq.mono ?_); clear hq; rintro e w4 ⟨rfl, h4⟩))
  have ht4 := ht3.on h4.bl
  have hw4 := hw3.trans h4
  have hg4 := kept_row h4.ok hg3 (by omega)
  have hf4 := kept_row h4.ok hf1 (by omega)
  have m4 : w4.cell? ⟨w2.heap.size, 4, none⟩ = some (.bool true) := by rw [cell_of_heap hg4]; rfl
  have m1 : w4.cell? ⟨w.heap.size, 1, none⟩ = some (.int .i64 a) := by rw [cell_of_heap hf4]; rfl
  clear n0
  have hq := writeNumber_any lo b (t ++ nm) a w4 ht4 h4.ws ha (by simp only [List.length_append]; omega)
  go_upto_region 5 with (go_at_call 27; ((with_reducible refine hq.mono ?_); clear hq; rintro e w5 ⟨rfl, h5⟩))
  have ht5 := ht4.on h5.bl
  have hw5 := hw4.trans h5
  have hg5 := kept_row h5.ok hg4 (by omega)
  have hf5 := kept_row h5.ok hf4 (by omega)
  have l5 : w5.cell? ⟨w2.heap.size, 5, none⟩ = some (.bool true) := by rw [cell_of_heap hg5]; rfl
  have l2 : w5.cell? ⟨w.heap.size, 2, none⟩ = some (.int .i64 n) := by rw [cell_of_heap hf5]; rfl
  clear m4 m1
  have hq := writeNumber_any lo b (t ++ nm ++ (32 :: itoa a)) n w5 ht5 h5.ws hn (by simp only [List.length_append, List.length_cons]; have := itoa_len ha; omega)
  go_wp2_with (go_at_call 27; ((with_reducible refine hq.mono ?_); clear hq; rintro e w6 ⟨rfl, h6⟩))
  go_end0
  exact ⟨rfl, hw5.trans h6⟩

theorem writeIns_any (lo b : Nat) (t : List UInt8) (op a n : Int) (w : World) (ht : CT lo w) (h : WS lo w b t) (ha : I64 a) (hn : I64 n) (hlen : t.length + 60 ≤ 70368744177664) :
    Calls Tryd.prog 14 #[used b, .agg #[.int .i64 op, .int .i64 a, .int .i64 n]] w fun e w' => e = .returned (.tuple #[]) ∧ Wrote lo b w (t ++ insT op a n) w' := by
  obtain ⟨_, _, _, hnm⟩ := kd_ok op
  unfold insT
  cases hk : kdOf op with
  | mk nm tk lv co hA hN =>
    rw [hk] at hnm
    cases hA <;> cases hN
    · have := ins_00 lo b t nm op a n tk lv co w ht h hlen hnm hk
      simpa [List.append_assoc] using this
    · have := ins_01 lo b t nm op a n tk lv co w ht h hn hlen hnm hk
      simpa [List.append_assoc] using this
    · have := ins_10 lo b t nm op a n tk lv co w ht h ha hlen hnm hk
      simpa [List.append_assoc] using this
    · have := ins_11 lo b t nm op a n tk lv co w ht h ha hn hlen hnm hk
      simpa [List.append_assoc] using this
end Go.Proofs.YtnilklgnpfgieaaDoor
