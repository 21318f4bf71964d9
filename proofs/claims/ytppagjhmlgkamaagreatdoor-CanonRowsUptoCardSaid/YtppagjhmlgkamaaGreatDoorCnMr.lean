/-
  choice; statement, at each op.
-/
import Derived.Test.YtppagjhmlgkamaaGreatDoorCz5
import Derived.Test.YtppagjhmlgkamaaGreatDoorCnKr
import Derived.Deep.RegionHeld3
import Derived.StillTailTactics
namespace Go.Proofs.YtppagjhmlgkamaaGreatDoor
open Go Go.RowKit Go.Lib

/-- What `choice` does, at one If. -/
def CHok (op : Int) (s : ByteArray) (n : Int) (l : ES) (x y : SS) : Prop :=
  ∀ (lo b : Nat) (t : List UInt8) (k : Nat) (W : World) (vl vx vy : Value), CT lo W → WS lo W b t k → lo ≤ W.heap.size → EV lo W vl l → SV lo W vx x → SV lo W vy y → (I64 op ∧ I64 n ∧ s.size ≤ 9223372036854775807) → k ≤ 70368744177664 →
    t.length + (stX k op s.data.toList n l.txs (x.txt (k + 1)) (y.txt (k + 1)) (decide (0 < y.len))).length ≤ 70368744177664 →
    Calls Tryz.prog 78 #[used b, stV op s n vl vx vy] W fun e w' => e = .returned (.tuple #[]) ∧ Wrote lo b W (t ++ stX k op s.data.toList n l.txs (x.txt (k + 1)) (y.txt (k + 1)) (decide (0 < y.len))) k w'

set_option maxHeartbeats 4000000 in
set_option maxRecDepth 100000 in
theorem choice_no (s : ByteArray) (n : Int) (l : ES) (x y : SS) (hl : l.exok) (hx : x.stok) (_hy : y.stok) (h1 : 1 ≤ l.len) (hy0 : ¬ 0 < y.len) : CHok 7 s n l x y := by
  intro lo b t k W vl vx vy ht h hlo hv hvx hvy h4 hk hlen
  obtain ⟨A, cap, rfl, hc1, hc2, hrow⟩ := id hv
  obtain ⟨Ax, capx, rfl, _⟩ := id hvx
  obtain ⟨Ay, capy, rfl, _⟩ := id hvy
  have htl : (tabsT k).length = k := by unfold tabsT; rw [List.length_replicate]
  obtain ⟨X, hX⟩ : ∃ X, x.txt (k + 1) = X := ⟨_, rfl⟩
  obtain ⟨Y, hY⟩ : ∃ Y, y.txt (k + 1) = Y := ⟨_, rfl⟩
  rw [hX, hY] at hlen ⊢
  obtain ⟨op1, n1, s1, l1, r1, rfl⟩ : ∃ op1 n1 s1 l1 r1, l = .cons op1 n1 s1 l1 r1 := by
    cases l with
    | nil => exact absurd h1 (by decide)
    | cons op1 n1 s1 l1 r1 => exact ⟨_, _, _, _, _, rfl⟩
  obtain ⟨bo, o, rfl, hbo, c0, c1, c2, ⟨v3, c3, hv1⟩, h1i, _⟩ := hrow (by simp [ES.len])
  obtain ⟨A1, cap1, rfl, _⟩ := id hv1
  have hE1 := hl.1
  rw [show stX k 7 s.data.toList n (ES.cons op1 n1 s1 l1 r1).txs X Y (decide (0 < y.len)) = [105, 102, 32] ++ exX op1 n1 s1.data.toList l1.txs ++ blkT k X ++ (if decide (0 < y.len) then [32, 101, 108, 115, 101] ++ blkT k Y else []) from rfl] at hlen ⊢
  rw [if_neg (by simpa using hy0), List.append_nil] at hlen ⊢
  have hyd : decide (0 < y.len) = false := decide_eq_false hy0
  have hyi : decide ((0 : Int) < (y.len : Int)) = false := decide_eq_false (by omega)
  obtain ⟨len, hln⟩ : ∃ len, (ES.cons op1 n1 s1 l1 r1).len = len := ⟨_, rfl⟩
  rw [hln] at hc1 ⊢
  rw [hln] at h1
  clear hln hv
  obtain ⟨w2, hw2e⟩ : ∃ w2, W.alloc (.cells #[.int .i64 7, .string s, .int .i64 n, .slice (some ⟨bo, o, none⟩) len cap, .slice Ax x.len capx, .slice Ay y.len capy] 41) = w2 := ⟨_, rfl⟩
  have hb2 : Below W.heap.size W w2 := by rw [← hw2e]; exact (Below.refl _ _).alloc (Nat.le_refl _) _
  have hg2 : w2.heap[W.heap.size]? = some (.cells #[.int .i64 7, .string s, .int .i64 n, .slice (some ⟨bo, o, none⟩) len cap, .slice Ax x.len capx, .slice Ay y.len capy] 41 (0, 0)) := by rw [← hw2e]; exact heap_alloc_new W _
  have hbg : W.heap.size ≠ b := by have := h.lt; omega
  have hw2 : Wrote lo b W t k w2 := (Wrote.refl h).below hb2 hlo
  have hlow2 := hw2.lo hlo
  have ht2 := ht.on hw2.bl
  have hvx2 := SV.below hvx hw2.bl (Nat.le_refl _)
  have hvy2 := SV.below hvy hw2.bl (Nat.le_refl _)
  have hR := Wrote.refl hw2.ws
  obtain ⟨d0, d1, d2, d3, d4, d5⟩ := kept6 hR.ok hg2 hbg
  replace hv1 := EV.below hv1 hw2.bl (Nat.le_refl _)
  have hbz : bo < W.heap.size := Nat.lt_of_lt_of_le hbo hlo
  have z0 := (hw2.bl.cell (p := ⟨bo, o, none⟩) hbo).trans c0
  clear c0
  have z1 := (hw2.bl.cell (p := ⟨bo, o + 1, none⟩) hbo).trans c1
  clear c1
  have z2 := (hw2.bl.cell (p := ⟨bo, o + 2, none⟩) hbo).trans c2
  clear c2
  have z3 := (hw2.bl.cell (p := ⟨bo, o + 3, none⟩) hbo).trans c3
  clear c3
  have HS0 : Hid (∀ w2', Wrote lo b w2 (t) k w2' → Calls Tryz.prog 42 #[used b, .slice (some ⟨w2'.heap.size, 0, none⟩) 1 1] (w2'.alloc (.cells #[.string ⟨#[105, 102, 32]⟩] 9)) fun e w' => e = .returned (.tuple #[]) ∧ Wrote lo b w2' (t ++ [105, 102, 32]) k w') :=
    hid fun w2' hw => add_one lo b _ k ⟨#[105, 102, 32]⟩ w2' hw.ws (hw.lo hlow2) (by simp only [List.length_append, List.length_cons, List.length_nil] at hlen ⊢; omega)
  have HS1 : Hid (∀ w2', Wrote lo b w2 (t ++ [105, 102, 32]) k w2' → Calls Tryz.prog 36 #[used b, (exV op1 n1 s1 (.slice A1 l1.len cap1))] w2' fun e w' => e = .returned (.tuple #[]) ∧ Wrote lo b w2' (t ++ [105, 102, 32] ++ exX op1 n1 s1.data.toList l1.txs) k w') :=
    hid fun w2' hw => hE1 lo b _ k w2' _ (ht2.on hw.bl) hw.ws (hw.lo hlow2) (EV.below hv1 hw.bl (Nat.le_refl _)) h1i (by simp only [List.length_append, List.length_cons, List.length_nil] at hlen ⊢; omega)
  have HS2 : Hid (∀ w2', Wrote lo b w2 (t ++ [105, 102, 32] ++ exX op1 n1 s1.data.toList l1.txs) k w2' → Calls Tryz.prog 44 #[used b, .slice Ax x.len capx] w2' fun e w' => e = .returned (.tuple #[]) ∧ Wrote lo b w2' (t ++ [105, 102, 32] ++ exX op1 n1 s1.data.toList l1.txs ++ (blkT k X)) k w') :=
    hid fun w2' hw => by
      have := cn_block_any x hx lo b (t ++ [105, 102, 32] ++ exX op1 n1 s1.data.toList l1.txs) k w2' Ax capx (ht2.on hw.bl) hw.ws (hw.lo hlow2) (SV.below hvx2 hw.bl (Nat.le_refl _)) (by simp only [blkT, List.length_append, List.length_cons, List.length_nil, htl] at hlen; omega)
      rw [hX] at this
      exact this (by simp only [List.length_append, List.length_cons, List.length_nil] at hlen ⊢; omega)
  go_enter Tryz.func78, Tryz.ntmps78
  have hq := HS0.out _ hR
  go_upto_region 2 with (go_at_call 42; ((with_reducible refine hq.mono ?_); clear hq; rintro e w3 ⟨rfl, h3q⟩))
  clear d0 d1 d2 d3 d4 d5
  have h3w := hR.trans h3q
  obtain ⟨d0, d1, d2, d3, d4, d5⟩ := kept6 h3w.ok hg2 hbg
  have c0 := (h3w.bl.cell (p := ⟨bo, o, none⟩) hbo).trans z0
  have c1 := (h3w.bl.cell (p := ⟨bo, o + 1, none⟩) hbo).trans z1
  have c2 := (h3w.bl.cell (p := ⟨bo, o + 2, none⟩) hbo).trans z2
  have c3 := (h3w.bl.cell (p := ⟨bo, o + 3, none⟩) hbo).trans z3
  have hq := HS1.out _ h3w
  go_upto_region 3 with (go_at_call 36; ((with_reducible refine hq.mono ?_); clear hq; rintro e w4 ⟨rfl, h4q⟩))
  clear d0 d1 d2 d3 d4 d5
  have h4w := h3w.trans h4q
  obtain ⟨d0, d1, d2, d3, d4, d5⟩ := kept6 h4w.ok hg2 hbg
  have c0 := (h4w.bl.cell (p := ⟨bo, o, none⟩) hbo).trans z0
  have c1 := (h4w.bl.cell (p := ⟨bo, o + 1, none⟩) hbo).trans z1
  have c2 := (h4w.bl.cell (p := ⟨bo, o + 2, none⟩) hbo).trans z2
  have c3 := (h4w.bl.cell (p := ⟨bo, o + 3, none⟩) hbo).trans z3
  have hq := HS2.out _ h4w
  go_upto_region 4 with (go_at_call 44; ((with_reducible refine hq.mono ?_); clear hq; rintro e w5 ⟨rfl, h5q⟩))
  clear d0 d1 d2 d3 d4 d5
  have h5w := h4w.trans h5q
  obtain ⟨d0, d1, d2, d3, d4, d5⟩ := kept6 h5w.ok hg2 hbg
  go_wp2_with fail
  go_end0
  exact ⟨rfl, by have := hw2.trans h5w; simp only [List.append_assoc] at this ⊢; exact this⟩

set_option maxHeartbeats 4000000 in
set_option maxRecDepth 100000 in
theorem choice_yes (s : ByteArray) (n : Int) (l : ES) (x y : SS) (hl : l.exok) (hx : x.stok) (hy : y.stok) (h1 : 1 ≤ l.len) (hy0 : 0 < y.len) : CHok 7 s n l x y := by
  intro lo b t k W vl vx vy ht h hlo hv hvx hvy h4 hk hlen
  obtain ⟨A, cap, rfl, hc1, hc2, hrow⟩ := id hv
  obtain ⟨Ax, capx, rfl, _⟩ := id hvx
  obtain ⟨Ay, capy, rfl, _⟩ := id hvy
  have htl : (tabsT k).length = k := by unfold tabsT; rw [List.length_replicate]
  obtain ⟨X, hX⟩ : ∃ X, x.txt (k + 1) = X := ⟨_, rfl⟩
  obtain ⟨Y, hY⟩ : ∃ Y, y.txt (k + 1) = Y := ⟨_, rfl⟩
  rw [hX, hY] at hlen ⊢
  obtain ⟨op1, n1, s1, l1, r1, rfl⟩ : ∃ op1 n1 s1 l1 r1, l = .cons op1 n1 s1 l1 r1 := by
    cases l with
    | nil => exact absurd h1 (by decide)
    | cons op1 n1 s1 l1 r1 => exact ⟨_, _, _, _, _, rfl⟩
  obtain ⟨bo, o, rfl, hbo, c0, c1, c2, ⟨v3, c3, hv1⟩, h1i, _⟩ := hrow (by simp [ES.len])
  obtain ⟨A1, cap1, rfl, _⟩ := id hv1
  have hE1 := hl.1
  rw [show stX k 7 s.data.toList n (ES.cons op1 n1 s1 l1 r1).txs X Y (decide (0 < y.len)) = [105, 102, 32] ++ exX op1 n1 s1.data.toList l1.txs ++ blkT k X ++ (if decide (0 < y.len) then [32, 101, 108, 115, 101] ++ blkT k Y else []) from rfl] at hlen ⊢
  rw [if_pos (by simpa using hy0)] at hlen ⊢
  have hyd : decide (0 < y.len) = true := decide_eq_true hy0
  have hyi : decide ((0 : Int) < (y.len : Int)) = true := decide_eq_true (by omega)
  obtain ⟨len, hln⟩ : ∃ len, (ES.cons op1 n1 s1 l1 r1).len = len := ⟨_, rfl⟩
  rw [hln] at hc1 ⊢
  rw [hln] at h1
  clear hln hv
  obtain ⟨w2, hw2e⟩ : ∃ w2, W.alloc (.cells #[.int .i64 7, .string s, .int .i64 n, .slice (some ⟨bo, o, none⟩) len cap, .slice Ax x.len capx, .slice Ay y.len capy] 41) = w2 := ⟨_, rfl⟩
  have hb2 : Below W.heap.size W w2 := by rw [← hw2e]; exact (Below.refl _ _).alloc (Nat.le_refl _) _
  have hg2 : w2.heap[W.heap.size]? = some (.cells #[.int .i64 7, .string s, .int .i64 n, .slice (some ⟨bo, o, none⟩) len cap, .slice Ax x.len capx, .slice Ay y.len capy] 41 (0, 0)) := by rw [← hw2e]; exact heap_alloc_new W _
  have hbg : W.heap.size ≠ b := by have := h.lt; omega
  have hw2 : Wrote lo b W t k w2 := (Wrote.refl h).below hb2 hlo
  have hlow2 := hw2.lo hlo
  have ht2 := ht.on hw2.bl
  have hvx2 := SV.below hvx hw2.bl (Nat.le_refl _)
  have hvy2 := SV.below hvy hw2.bl (Nat.le_refl _)
  have hR := Wrote.refl hw2.ws
  obtain ⟨d0, d1, d2, d3, d4, d5⟩ := kept6 hR.ok hg2 hbg
  replace hv1 := EV.below hv1 hw2.bl (Nat.le_refl _)
  have hbz : bo < W.heap.size := Nat.lt_of_lt_of_le hbo hlo
  have z0 := (hw2.bl.cell (p := ⟨bo, o, none⟩) hbo).trans c0
  clear c0
  have z1 := (hw2.bl.cell (p := ⟨bo, o + 1, none⟩) hbo).trans c1
  clear c1
  have z2 := (hw2.bl.cell (p := ⟨bo, o + 2, none⟩) hbo).trans c2
  clear c2
  have z3 := (hw2.bl.cell (p := ⟨bo, o + 3, none⟩) hbo).trans c3
  clear c3
  have HS0 : Hid (∀ w2', Wrote lo b w2 (t) k w2' → Calls Tryz.prog 42 #[used b, .slice (some ⟨w2'.heap.size, 0, none⟩) 1 1] (w2'.alloc (.cells #[.string ⟨#[105, 102, 32]⟩] 9)) fun e w' => e = .returned (.tuple #[]) ∧ Wrote lo b w2' (t ++ [105, 102, 32]) k w') :=
    hid fun w2' hw => add_one lo b _ k ⟨#[105, 102, 32]⟩ w2' hw.ws (hw.lo hlow2) (by simp only [List.length_append, List.length_cons, List.length_nil] at hlen ⊢; omega)
  have HS1 : Hid (∀ w2', Wrote lo b w2 (t ++ [105, 102, 32]) k w2' → Calls Tryz.prog 36 #[used b, (exV op1 n1 s1 (.slice A1 l1.len cap1))] w2' fun e w' => e = .returned (.tuple #[]) ∧ Wrote lo b w2' (t ++ [105, 102, 32] ++ exX op1 n1 s1.data.toList l1.txs) k w') :=
    hid fun w2' hw => hE1 lo b _ k w2' _ (ht2.on hw.bl) hw.ws (hw.lo hlow2) (EV.below hv1 hw.bl (Nat.le_refl _)) h1i (by simp only [List.length_append, List.length_cons, List.length_nil] at hlen ⊢; omega)
  have HS2 : Hid (∀ w2', Wrote lo b w2 (t ++ [105, 102, 32] ++ exX op1 n1 s1.data.toList l1.txs) k w2' → Calls Tryz.prog 44 #[used b, .slice Ax x.len capx] w2' fun e w' => e = .returned (.tuple #[]) ∧ Wrote lo b w2' (t ++ [105, 102, 32] ++ exX op1 n1 s1.data.toList l1.txs ++ (blkT k X)) k w') :=
    hid fun w2' hw => by
      have := cn_block_any x hx lo b (t ++ [105, 102, 32] ++ exX op1 n1 s1.data.toList l1.txs) k w2' Ax capx (ht2.on hw.bl) hw.ws (hw.lo hlow2) (SV.below hvx2 hw.bl (Nat.le_refl _)) (by simp only [blkT, List.length_append, List.length_cons, List.length_nil, htl] at hlen; omega)
      rw [hX] at this
      exact this (by simp only [List.length_append, List.length_cons, List.length_nil] at hlen ⊢; omega)
  have HS3 : Hid (∀ w2', Wrote lo b w2 (t ++ [105, 102, 32] ++ exX op1 n1 s1.data.toList l1.txs ++ (blkT k X)) k w2' → Calls Tryz.prog 42 #[used b, .slice (some ⟨w2'.heap.size, 0, none⟩) 1 1] (w2'.alloc (.cells #[.string ⟨#[32, 101, 108, 115, 101]⟩] 9)) fun e w' => e = .returned (.tuple #[]) ∧ Wrote lo b w2' (t ++ [105, 102, 32] ++ exX op1 n1 s1.data.toList l1.txs ++ (blkT k X) ++ [32, 101, 108, 115, 101]) k w') :=
    hid fun w2' hw => add_one lo b _ k ⟨#[32, 101, 108, 115, 101]⟩ w2' hw.ws (hw.lo hlow2) (by simp only [List.length_append, List.length_cons, List.length_nil] at hlen ⊢; omega)
  have HS4 : Hid (∀ w2', Wrote lo b w2 (t ++ [105, 102, 32] ++ exX op1 n1 s1.data.toList l1.txs ++ (blkT k X) ++ [32, 101, 108, 115, 101]) k w2' → Calls Tryz.prog 44 #[used b, .slice Ay y.len capy] w2' fun e w' => e = .returned (.tuple #[]) ∧ Wrote lo b w2' (t ++ [105, 102, 32] ++ exX op1 n1 s1.data.toList l1.txs ++ (blkT k X) ++ [32, 101, 108, 115, 101] ++ (blkT k Y)) k w') :=
    hid fun w2' hw => by
      have := cn_block_any y hy lo b (t ++ [105, 102, 32] ++ exX op1 n1 s1.data.toList l1.txs ++ (blkT k X) ++ [32, 101, 108, 115, 101]) k w2' Ay capy (ht2.on hw.bl) hw.ws (hw.lo hlow2) (SV.below hvy2 hw.bl (Nat.le_refl _)) (by simp only [blkT, List.length_append, List.length_cons, List.length_nil, htl] at hlen; omega)
      rw [hY] at this
      exact this (by simp only [List.length_append, List.length_cons, List.length_nil] at hlen ⊢; omega)
  go_enter Tryz.func78, Tryz.ntmps78
  have hq := HS0.out _ hR
  go_upto_region 2 with (go_at_call 42; ((with_reducible refine hq.mono ?_); clear hq; rintro e w3 ⟨rfl, h3q⟩))
  clear d0 d1 d2 d3 d4 d5
  have h3w := hR.trans h3q
  obtain ⟨d0, d1, d2, d3, d4, d5⟩ := kept6 h3w.ok hg2 hbg
  have c0 := (h3w.bl.cell (p := ⟨bo, o, none⟩) hbo).trans z0
  have c1 := (h3w.bl.cell (p := ⟨bo, o + 1, none⟩) hbo).trans z1
  have c2 := (h3w.bl.cell (p := ⟨bo, o + 2, none⟩) hbo).trans z2
  have c3 := (h3w.bl.cell (p := ⟨bo, o + 3, none⟩) hbo).trans z3
  have hq := HS1.out _ h3w
  go_upto_region 3 with (go_at_call 36; ((with_reducible refine hq.mono ?_); clear hq; rintro e w4 ⟨rfl, h4q⟩))
  clear d0 d1 d2 d3 d4 d5
  have h4w := h3w.trans h4q
  obtain ⟨d0, d1, d2, d3, d4, d5⟩ := kept6 h4w.ok hg2 hbg
  have c0 := (h4w.bl.cell (p := ⟨bo, o, none⟩) hbo).trans z0
  have c1 := (h4w.bl.cell (p := ⟨bo, o + 1, none⟩) hbo).trans z1
  have c2 := (h4w.bl.cell (p := ⟨bo, o + 2, none⟩) hbo).trans z2
  have c3 := (h4w.bl.cell (p := ⟨bo, o + 3, none⟩) hbo).trans z3
  have hq := HS2.out _ h4w
  go_upto_region 4 with (go_at_call 44; ((with_reducible refine hq.mono ?_); clear hq; rintro e w5 ⟨rfl, h5q⟩))
  clear d0 d1 d2 d3 d4 d5
  have h5w := h4w.trans h5q
  obtain ⟨d0, d1, d2, d3, d4, d5⟩ := kept6 h5w.ok hg2 hbg
  go_upto_region 5 with fail
  obtain ⟨d0, d1, d2, d3, d4, d5⟩ := kept6 h5w.ok hg2 hbg
  have c0 := (h5w.bl.cell (p := ⟨bo, o, none⟩) hbo).trans z0
  have c1 := (h5w.bl.cell (p := ⟨bo, o + 1, none⟩) hbo).trans z1
  have c2 := (h5w.bl.cell (p := ⟨bo, o + 2, none⟩) hbo).trans z2
  have c3 := (h5w.bl.cell (p := ⟨bo, o + 3, none⟩) hbo).trans z3
  have hq := HS3.out _ h5w
  go_upto_region 6 with (go_at_call 42; ((with_reducible refine hq.mono ?_); clear hq; rintro e w6 ⟨rfl, h6q⟩))
  clear d0 d1 d2 d3 d4 d5
  have h6w := h5w.trans h6q
  obtain ⟨d0, d1, d2, d3, d4, d5⟩ := kept6 h6w.ok hg2 hbg
  have c0 := (h6w.bl.cell (p := ⟨bo, o, none⟩) hbo).trans z0
  have c1 := (h6w.bl.cell (p := ⟨bo, o + 1, none⟩) hbo).trans z1
  have c2 := (h6w.bl.cell (p := ⟨bo, o + 2, none⟩) hbo).trans z2
  have c3 := (h6w.bl.cell (p := ⟨bo, o + 3, none⟩) hbo).trans z3
  have hq := HS4.out _ h6w
  go_wp2_with (go_at_call 44; ((with_reducible refine hq.mono ?_); clear hq; rintro e w7 ⟨rfl, h7q⟩))
  have h7w := h6w.trans h7q
  go_end0
  exact ⟨rfl, by have := hw2.trans h7w; simp only [List.append_assoc] at this ⊢; exact this⟩

theorem cn_choice_any (s : ByteArray) (n : Int) (l : ES) (x y : SS) (hl : l.exok) (hx : x.stok) (hy : y.stok) (h1 : 1 ≤ l.len) : CHok 7 s n l x y := by
  by_cases h : 0 < y.len
  · exact choice_yes s n l x y hl hx hy h1 h
  · exact choice_no s n l x y hl hx hy h1 h

set_option maxHeartbeats 4000000 in
set_option maxRecDepth 100000 in
theorem stmt_1 (s : ByteArray) (n : Int) (l : ES) (x y : SS) (hl : l.exok) (_hx : x.stok) (_hy : y.stok) (h1 : 1 ≤ l.len) : STok 1 s n l x y := by
  intro lo b t k W vl vx vy ht h hlo hv hvx hvy h4 hk hlen
  obtain ⟨A, cap, rfl, hc1, hc2, hrow⟩ := id hv
  obtain ⟨Ax, capx, rfl, _⟩ := id hvx
  obtain ⟨Ay, capy, rfl, _⟩ := id hvy
  have htl : (tabsT k).length = k := by unfold tabsT; rw [List.length_replicate]
  obtain ⟨X, hX⟩ : ∃ X, x.txt (k + 1) = X := ⟨_, rfl⟩
  obtain ⟨Y, hY⟩ : ∃ Y, y.txt (k + 1) = Y := ⟨_, rfl⟩
  rw [hX, hY] at hlen ⊢
  obtain ⟨op1, n1, s1, l1, r1, rfl⟩ : ∃ op1 n1 s1 l1 r1, l = .cons op1 n1 s1 l1 r1 := by
    cases l with
    | nil => exact absurd h1 (by decide)
    | cons op1 n1 s1 l1 r1 => exact ⟨_, _, _, _, _, rfl⟩
  obtain ⟨bo, o, rfl, hbo, c0, c1, c2, ⟨v3, c3, hv1⟩, h1i, _⟩ := hrow (by simp [ES.len])
  obtain ⟨A1, cap1, rfl, _⟩ := id hv1
  have hE1 := hl.1
  rw [show stX k 1 s.data.toList n (ES.cons op1 n1 s1 l1 r1).txs X Y (decide (0 < y.len)) = s.data.toList ++ ([32, 61, 32] ++ exX op1 n1 s1.data.toList l1.txs ++ [59]) from rfl] at hlen ⊢
  obtain ⟨len, hln⟩ : ∃ len, (ES.cons op1 n1 s1 l1 r1).len = len := ⟨_, rfl⟩
  rw [hln] at hc1 ⊢
  rw [hln] at h1
  clear hln hv
  obtain ⟨w2, hw2e⟩ : ∃ w2, W.alloc (.cells #[.int .i64 1, .string s, .int .i64 n, .slice (some ⟨bo, o, none⟩) len cap, .slice Ax x.len capx, .slice Ay y.len capy] 41) = w2 := ⟨_, rfl⟩
  have hb2 : Below W.heap.size W w2 := by rw [← hw2e]; exact (Below.refl _ _).alloc (Nat.le_refl _) _
  have hg2 : w2.heap[W.heap.size]? = some (.cells #[.int .i64 1, .string s, .int .i64 n, .slice (some ⟨bo, o, none⟩) len cap, .slice Ax x.len capx, .slice Ay y.len capy] 41 (0, 0)) := by rw [← hw2e]; exact heap_alloc_new W _
  have hbg : W.heap.size ≠ b := by have := h.lt; omega
  have hw2 : Wrote lo b W t k w2 := (Wrote.refl h).below hb2 hlo
  have hlow2 := hw2.lo hlo
  have ht2 := ht.on hw2.bl
  have hvx2 := SV.below hvx hw2.bl (Nat.le_refl _)
  have hvy2 := SV.below hvy hw2.bl (Nat.le_refl _)
  have hR := Wrote.refl hw2.ws
  obtain ⟨d0, d1, d2, d3, d4, d5⟩ := kept6 hR.ok hg2 hbg
  replace hv1 := EV.below hv1 hw2.bl (Nat.le_refl _)
  have hbz : bo < W.heap.size := Nat.lt_of_lt_of_le hbo hlo
  have z0 := (hw2.bl.cell (p := ⟨bo, o, none⟩) hbo).trans c0
  clear c0
  have z1 := (hw2.bl.cell (p := ⟨bo, o + 1, none⟩) hbo).trans c1
  clear c1
  have z2 := (hw2.bl.cell (p := ⟨bo, o + 2, none⟩) hbo).trans c2
  clear c2
  have z3 := (hw2.bl.cell (p := ⟨bo, o + 3, none⟩) hbo).trans c3
  clear c3
  have HS0 : Hid (∀ w2', Wrote lo b w2 (t) k w2' → Calls Tryz.prog 42 #[used b, .slice (some ⟨w2'.heap.size, 0, none⟩) 1 1] (w2'.alloc (.cells #[.string s] 9)) fun e w' => e = .returned (.tuple #[]) ∧ Wrote lo b w2' (t ++ s.data.toList) k w') :=
    hid fun w2' hw => add_one lo b _ k s w2' hw.ws (hw.lo hlow2) (by simp only [List.length_append, List.length_cons, List.length_nil] at hlen ⊢; omega)
  have HS1 : Hid (∀ w2', Wrote lo b w2 (t ++ s.data.toList) k w2' → Calls Tryz.prog 76 #[used b, (exV op1 n1 s1 (.slice A1 l1.len cap1))] w2' fun e w' => e = .returned (.tuple #[]) ∧ Wrote lo b w2' (t ++ s.data.toList ++ ([32, 61, 32] ++ exX op1 n1 s1.data.toList l1.txs ++ [59])) k w') :=
    hid fun w2' hw => set_any op1 n1 s1 l1 hE1 lo b _ k w2' A1 cap1 (ht2.on hw.bl) hw.ws (hw.lo hlow2) (EV.below hv1 hw.bl (Nat.le_refl _)) h1i (by simp only [List.length_append, List.length_cons, List.length_nil] at hlen ⊢; omega)
  go_enter Tryz.func46, Tryz.ntmps46
  have hq := HS0.out _ hR
  go_upto_region 4 with (go_at_call 42; ((with_reducible refine hq.mono ?_); clear hq; rintro e w3 ⟨rfl, h3q⟩))
  clear d0 d1 d2 d3 d4 d5
  have h3w := hR.trans h3q
  obtain ⟨d0, d1, d2, d3, d4, d5⟩ := kept6 h3w.ok hg2 hbg
  have c0 := (h3w.bl.cell (p := ⟨bo, o, none⟩) hbo).trans z0
  have c1 := (h3w.bl.cell (p := ⟨bo, o + 1, none⟩) hbo).trans z1
  have c2 := (h3w.bl.cell (p := ⟨bo, o + 2, none⟩) hbo).trans z2
  have c3 := (h3w.bl.cell (p := ⟨bo, o + 3, none⟩) hbo).trans z3
  have hq := HS1.out _ h3w
  go_wp2_with (go_at_call 76; ((with_reducible refine hq.mono ?_); clear hq; rintro e w4 ⟨rfl, h4q⟩))
  have h4w := h3w.trans h4q
  go_end0
  exact ⟨rfl, by have := hw2.trans h4w; simp only [List.append_assoc] at this ⊢; exact this⟩

set_option maxHeartbeats 4000000 in
set_option maxRecDepth 100000 in
theorem stmt_2 (s : ByteArray) (n : Int) (l : ES) (x y : SS) (hl : l.exok) (_hx : x.stok) (_hy : y.stok) (h1 : 2 ≤ l.len) : STok 2 s n l x y := by
  intro lo b t k W vl vx vy ht h hlo hv hvx hvy h4 hk hlen
  obtain ⟨A, cap, rfl, hc1, hc2, hrow⟩ := id hv
  obtain ⟨Ax, capx, rfl, _⟩ := id hvx
  obtain ⟨Ay, capy, rfl, _⟩ := id hvy
  have htl : (tabsT k).length = k := by unfold tabsT; rw [List.length_replicate]
  obtain ⟨X, hX⟩ : ∃ X, x.txt (k + 1) = X := ⟨_, rfl⟩
  obtain ⟨Y, hY⟩ : ∃ Y, y.txt (k + 1) = Y := ⟨_, rfl⟩
  rw [hX, hY] at hlen ⊢
  obtain ⟨op1, n1, s1, l1, op2, n2, s2, l2, r2, rfl⟩ : ∃ op1 n1 s1 l1 op2 n2 s2 l2 r2, l = .cons op1 n1 s1 l1 (.cons op2 n2 s2 l2 r2) := by
    cases l with
    | nil => exact absurd h1 (by decide)
    | cons op1 n1 s1 l1 r1 =>
      cases r1 with
      | nil => exact absurd h1 (by simp [ES.len])
      | cons op2 n2 s2 l2 r2 => exact ⟨_, _, _, _, _, _, _, _, _, rfl⟩
  obtain ⟨bo, o, rfl, hbo, c0, c1, c2, ⟨v3, c3, hv1⟩, h1i, c4, c5, c6, ⟨v7, c7, hv2⟩, h2i, _⟩ := hrow (by simp [ES.len])
  obtain ⟨A1, cap1, rfl, _⟩ := id hv1
  obtain ⟨A2, cap2, rfl, _⟩ := id hv2
  have hE1 := hl.1
  have hE2 := hl.2.1
  rw [show stX k 2 s.data.toList n (ES.cons op1 n1 s1 l1 (ES.cons op2 n2 s2 l2 r2)).txs X Y (decide (0 < y.len)) = s.data.toList ++ [91] ++ exX op1 n1 s1.data.toList l1.txs ++ [93] ++ ([32, 61, 32] ++ exX op2 n2 s2.data.toList l2.txs ++ [59]) from rfl] at hlen ⊢
  obtain ⟨len, hln⟩ : ∃ len, (ES.cons op1 n1 s1 l1 (ES.cons op2 n2 s2 l2 r2)).len = len := ⟨_, rfl⟩
  rw [hln] at hc1 ⊢
  rw [hln] at h1
  clear hln hv
  obtain ⟨w2, hw2e⟩ : ∃ w2, W.alloc (.cells #[.int .i64 2, .string s, .int .i64 n, .slice (some ⟨bo, o, none⟩) len cap, .slice Ax x.len capx, .slice Ay y.len capy] 41) = w2 := ⟨_, rfl⟩
  have hb2 : Below W.heap.size W w2 := by rw [← hw2e]; exact (Below.refl _ _).alloc (Nat.le_refl _) _
  have hg2 : w2.heap[W.heap.size]? = some (.cells #[.int .i64 2, .string s, .int .i64 n, .slice (some ⟨bo, o, none⟩) len cap, .slice Ax x.len capx, .slice Ay y.len capy] 41 (0, 0)) := by rw [← hw2e]; exact heap_alloc_new W _
  have hbg : W.heap.size ≠ b := by have := h.lt; omega
  have hw2 : Wrote lo b W t k w2 := (Wrote.refl h).below hb2 hlo
  have hlow2 := hw2.lo hlo
  have ht2 := ht.on hw2.bl
  have hvx2 := SV.below hvx hw2.bl (Nat.le_refl _)
  have hvy2 := SV.below hvy hw2.bl (Nat.le_refl _)
  have hR := Wrote.refl hw2.ws
  obtain ⟨d0, d1, d2, d3, d4, d5⟩ := kept6 hR.ok hg2 hbg
  replace hv1 := EV.below hv1 hw2.bl (Nat.le_refl _)
  have hbz : bo < W.heap.size := Nat.lt_of_lt_of_le hbo hlo
  have z0 := (hw2.bl.cell (p := ⟨bo, o, none⟩) hbo).trans c0
  clear c0
  have z1 := (hw2.bl.cell (p := ⟨bo, o + 1, none⟩) hbo).trans c1
  clear c1
  have z2 := (hw2.bl.cell (p := ⟨bo, o + 2, none⟩) hbo).trans c2
  clear c2
  have z3 := (hw2.bl.cell (p := ⟨bo, o + 3, none⟩) hbo).trans c3
  clear c3
  have z4 := (hw2.bl.cell (p := ⟨bo, o + 4, none⟩) hbo).trans c4
  clear c4
  have z5 := (hw2.bl.cell (p := ⟨bo, o + 4 + 1, none⟩) hbo).trans c5
  clear c5
  have z6 := (hw2.bl.cell (p := ⟨bo, o + 4 + 2, none⟩) hbo).trans c6
  clear c6
  have z7 := (hw2.bl.cell (p := ⟨bo, o + 4 + 3, none⟩) hbo).trans c7
  clear c7
  replace hv2 := EV.below hv2 hw2.bl (Nat.le_refl _)
  have HS0 : Hid (∀ w2', Wrote lo b w2 (t) k w2' → Calls Tryz.prog 42 #[used b, .slice (some ⟨w2'.heap.size, 0, none⟩) 2 2] (w2'.alloc (.cells #[.string s, .string ⟨#[91]⟩] 9)) fun e w' => e = .returned (.tuple #[]) ∧ Wrote lo b w2' (t ++ (s.data.toList ++ [91])) k w') :=
    hid fun w2' hw => by
      have := add_any lo b (t) k [s, ⟨#[91]⟩] 2 rfl (by decide) w2' hw.ws (hw.lo hlow2) (by simp only [catB, List.length_append, List.length_cons, List.length_nil, Array.length_toList] at hlen ⊢; omega) #[.string s, .string ⟨#[91]⟩] rfl
      simp only [catB, List.append_nil] at this
      simpa only [List.append_assoc] using this
  have HS1 : Hid (∀ w2', Wrote lo b w2 (t ++ (s.data.toList ++ [91])) k w2' → Calls Tryz.prog 36 #[used b, (exV op1 n1 s1 (.slice A1 l1.len cap1))] w2' fun e w' => e = .returned (.tuple #[]) ∧ Wrote lo b w2' (t ++ (s.data.toList ++ [91]) ++ exX op1 n1 s1.data.toList l1.txs) k w') :=
    hid fun w2' hw => hE1 lo b _ k w2' _ (ht2.on hw.bl) hw.ws (hw.lo hlow2) (EV.below hv1 hw.bl (Nat.le_refl _)) h1i (by simp only [List.length_append, List.length_cons, List.length_nil] at hlen ⊢; omega)
  have HS2 : Hid (∀ w2', Wrote lo b w2 (t ++ (s.data.toList ++ [91]) ++ exX op1 n1 s1.data.toList l1.txs) k w2' → Calls Tryz.prog 42 #[used b, .slice (some ⟨w2'.heap.size, 0, none⟩) 1 1] (w2'.alloc (.cells #[.string ⟨#[93]⟩] 9)) fun e w' => e = .returned (.tuple #[]) ∧ Wrote lo b w2' (t ++ (s.data.toList ++ [91]) ++ exX op1 n1 s1.data.toList l1.txs ++ [93]) k w') :=
    hid fun w2' hw => add_one lo b _ k ⟨#[93]⟩ w2' hw.ws (hw.lo hlow2) (by simp only [List.length_append, List.length_cons, List.length_nil] at hlen ⊢; omega)
  have HS3 : Hid (∀ w2', Wrote lo b w2 (t ++ (s.data.toList ++ [91]) ++ exX op1 n1 s1.data.toList l1.txs ++ [93]) k w2' → Calls Tryz.prog 76 #[used b, (exV op2 n2 s2 (.slice A2 l2.len cap2))] w2' fun e w' => e = .returned (.tuple #[]) ∧ Wrote lo b w2' (t ++ (s.data.toList ++ [91]) ++ exX op1 n1 s1.data.toList l1.txs ++ [93] ++ ([32, 61, 32] ++ exX op2 n2 s2.data.toList l2.txs ++ [59])) k w') :=
    hid fun w2' hw => set_any op2 n2 s2 l2 hE2 lo b _ k w2' A2 cap2 (ht2.on hw.bl) hw.ws (hw.lo hlow2) (EV.below hv2 hw.bl (Nat.le_refl _)) h2i (by simp only [List.length_append, List.length_cons, List.length_nil] at hlen ⊢; omega)
  go_enter Tryz.func46, Tryz.ntmps46
  have hq := HS0.out _ hR
  go_upto_region 7 with (go_at_call 42; ((with_reducible refine hq.mono ?_); clear hq; rintro e w3 ⟨rfl, h3q⟩))
  clear d0 d1 d2 d3 d4 d5
  have h3w := hR.trans h3q
  obtain ⟨d0, d1, d2, d3, d4, d5⟩ := kept6 h3w.ok hg2 hbg
  have c0 := (h3w.bl.cell (p := ⟨bo, o, none⟩) hbo).trans z0
  have c1 := (h3w.bl.cell (p := ⟨bo, o + 1, none⟩) hbo).trans z1
  have c2 := (h3w.bl.cell (p := ⟨bo, o + 2, none⟩) hbo).trans z2
  have c3 := (h3w.bl.cell (p := ⟨bo, o + 3, none⟩) hbo).trans z3
  have c4 := (h3w.bl.cell (p := ⟨bo, o + 4, none⟩) hbo).trans z4
  have c5 := (h3w.bl.cell (p := ⟨bo, o + 4 + 1, none⟩) hbo).trans z5
  have c6 := (h3w.bl.cell (p := ⟨bo, o + 4 + 2, none⟩) hbo).trans z6
  have c7 := (h3w.bl.cell (p := ⟨bo, o + 4 + 3, none⟩) hbo).trans z7
  have hq := HS1.out _ h3w
  go_upto_region 8 with (go_at_call 36; ((with_reducible refine hq.mono ?_); clear hq; rintro e w4 ⟨rfl, h4q⟩))
  clear d0 d1 d2 d3 d4 d5
  have h4w := h3w.trans h4q
  obtain ⟨d0, d1, d2, d3, d4, d5⟩ := kept6 h4w.ok hg2 hbg
  have c0 := (h4w.bl.cell (p := ⟨bo, o, none⟩) hbo).trans z0
  have c1 := (h4w.bl.cell (p := ⟨bo, o + 1, none⟩) hbo).trans z1
  have c2 := (h4w.bl.cell (p := ⟨bo, o + 2, none⟩) hbo).trans z2
  have c3 := (h4w.bl.cell (p := ⟨bo, o + 3, none⟩) hbo).trans z3
  have c4 := (h4w.bl.cell (p := ⟨bo, o + 4, none⟩) hbo).trans z4
  have c5 := (h4w.bl.cell (p := ⟨bo, o + 4 + 1, none⟩) hbo).trans z5
  have c6 := (h4w.bl.cell (p := ⟨bo, o + 4 + 2, none⟩) hbo).trans z6
  have c7 := (h4w.bl.cell (p := ⟨bo, o + 4 + 3, none⟩) hbo).trans z7
  have hq := HS2.out _ h4w
  go_upto_region 9 with (go_at_call 42; ((with_reducible refine hq.mono ?_); clear hq; rintro e w5 ⟨rfl, h5q⟩))
  clear d0 d1 d2 d3 d4 d5
  have h5w := h4w.trans h5q
  obtain ⟨d0, d1, d2, d3, d4, d5⟩ := kept6 h5w.ok hg2 hbg
  have c0 := (h5w.bl.cell (p := ⟨bo, o, none⟩) hbo).trans z0
  have c1 := (h5w.bl.cell (p := ⟨bo, o + 1, none⟩) hbo).trans z1
  have c2 := (h5w.bl.cell (p := ⟨bo, o + 2, none⟩) hbo).trans z2
  have c3 := (h5w.bl.cell (p := ⟨bo, o + 3, none⟩) hbo).trans z3
  have c4 := (h5w.bl.cell (p := ⟨bo, o + 4, none⟩) hbo).trans z4
  have c5 := (h5w.bl.cell (p := ⟨bo, o + 4 + 1, none⟩) hbo).trans z5
  have c6 := (h5w.bl.cell (p := ⟨bo, o + 4 + 2, none⟩) hbo).trans z6
  have c7 := (h5w.bl.cell (p := ⟨bo, o + 4 + 3, none⟩) hbo).trans z7
  have hq := HS3.out _ h5w
  go_wp2_with (go_at_call 76; ((with_reducible refine hq.mono ?_); clear hq; rintro e w6 ⟨rfl, h6q⟩))
  have h6w := h5w.trans h6q
  go_end0
  exact ⟨rfl, by have := hw2.trans h6w; simp only [List.append_assoc] at this ⊢; exact this⟩

set_option maxHeartbeats 4000000 in
set_option maxRecDepth 100000 in
theorem stmt_4 (s : ByteArray) (n : Int) (l : ES) (x y : SS) (_hl : l.exok) (_hx : x.stok) (_hy : y.stok) : STok 4 s n l x y := by
  intro lo b t k W vl vx vy ht h hlo hv hvx hvy h4 hk hlen
  obtain ⟨A, cap, rfl, hc1, hc2, hrow⟩ := id hv
  obtain ⟨Ax, capx, rfl, _⟩ := id hvx
  obtain ⟨Ay, capy, rfl, _⟩ := id hvy
  have htl : (tabsT k).length = k := by unfold tabsT; rw [List.length_replicate]
  obtain ⟨X, hX⟩ : ∃ X, x.txt (k + 1) = X := ⟨_, rfl⟩
  obtain ⟨Y, hY⟩ : ∃ Y, y.txt (k + 1) = Y := ⟨_, rfl⟩
  rw [hX, hY] at hlen ⊢
  clear hrow
  rw [show stX k 4 s.data.toList n l.txs X Y (decide (0 < y.len)) = [105, 110, 112, 117, 116, 32] ++ s.data.toList ++ [59] from rfl] at hlen ⊢
  obtain ⟨len, hln⟩ : ∃ len, l.len = len := ⟨_, rfl⟩
  rw [hln] at hc1 ⊢
  clear hln hv
  obtain ⟨w2, hw2e⟩ : ∃ w2, W.alloc (.cells #[.int .i64 4, .string s, .int .i64 n, .slice A len cap, .slice Ax x.len capx, .slice Ay y.len capy] 41) = w2 := ⟨_, rfl⟩
  have hb2 : Below W.heap.size W w2 := by rw [← hw2e]; exact (Below.refl _ _).alloc (Nat.le_refl _) _
  have hg2 : w2.heap[W.heap.size]? = some (.cells #[.int .i64 4, .string s, .int .i64 n, .slice A len cap, .slice Ax x.len capx, .slice Ay y.len capy] 41 (0, 0)) := by rw [← hw2e]; exact heap_alloc_new W _
  have hbg : W.heap.size ≠ b := by have := h.lt; omega
  have hw2 : Wrote lo b W t k w2 := (Wrote.refl h).below hb2 hlo
  have hlow2 := hw2.lo hlo
  have ht2 := ht.on hw2.bl
  have hvx2 := SV.below hvx hw2.bl (Nat.le_refl _)
  have hvy2 := SV.below hvy hw2.bl (Nat.le_refl _)
  have hR := Wrote.refl hw2.ws
  obtain ⟨d0, d1, d2, d3, d4, d5⟩ := kept6 hR.ok hg2 hbg
  have HS0 : Hid (∀ w2', Wrote lo b w2 (t) k w2' → Calls Tryz.prog 42 #[used b, .slice (some ⟨w2'.heap.size, 0, none⟩) 3 3] (w2'.alloc (.cells #[.string ⟨#[105, 110, 112, 117, 116, 32]⟩, .string s, .string ⟨#[59]⟩] 9)) fun e w' => e = .returned (.tuple #[]) ∧ Wrote lo b w2' (t ++ ([105, 110, 112, 117, 116, 32] ++ s.data.toList ++ [59])) k w') :=
    hid fun w2' hw => by
      have := add_any lo b (t) k [⟨#[105, 110, 112, 117, 116, 32]⟩, s, ⟨#[59]⟩] 3 rfl (by decide) w2' hw.ws (hw.lo hlow2) (by simp only [catB, List.length_append, List.length_cons, List.length_nil, Array.length_toList] at hlen ⊢; omega) #[.string ⟨#[105, 110, 112, 117, 116, 32]⟩, .string s, .string ⟨#[59]⟩] rfl
      simp only [catB, List.append_nil] at this
      simpa only [List.append_assoc] using this
  go_enter Tryz.func46, Tryz.ntmps46
  have hq := HS0.out _ hR
  go_wp2_with (go_at_call 42; ((with_reducible refine hq.mono ?_); clear hq; rintro e w3 ⟨rfl, h3q⟩))
  have h3w := hR.trans h3q
  go_end0
  exact ⟨rfl, by have := hw2.trans h3w; simp only [List.append_assoc] at this ⊢; exact this⟩

set_option maxHeartbeats 4000000 in
set_option maxRecDepth 100000 in
theorem stmt_5 (s : ByteArray) (n : Int) (l : ES) (x y : SS) (hl : l.exok) (_hx : x.stok) (_hy : y.stok) (h1 : 1 ≤ l.len) : STok 5 s n l x y := by
  intro lo b t k W vl vx vy ht h hlo hv hvx hvy h4 hk hlen
  obtain ⟨A, cap, rfl, hc1, hc2, hrow⟩ := id hv
  obtain ⟨Ax, capx, rfl, _⟩ := id hvx
  obtain ⟨Ay, capy, rfl, _⟩ := id hvy
  have htl : (tabsT k).length = k := by unfold tabsT; rw [List.length_replicate]
  obtain ⟨X, hX⟩ : ∃ X, x.txt (k + 1) = X := ⟨_, rfl⟩
  obtain ⟨Y, hY⟩ : ∃ Y, y.txt (k + 1) = Y := ⟨_, rfl⟩
  rw [hX, hY] at hlen ⊢
  obtain ⟨op1, n1, s1, l1, r1, rfl⟩ : ∃ op1 n1 s1 l1 r1, l = .cons op1 n1 s1 l1 r1 := by
    cases l with
    | nil => exact absurd h1 (by decide)
    | cons op1 n1 s1 l1 r1 => exact ⟨_, _, _, _, _, rfl⟩
  obtain ⟨bo, o, rfl, hbo, c0, c1, c2, ⟨v3, c3, hv1⟩, h1i, _⟩ := hrow (by simp [ES.len])
  obtain ⟨A1, cap1, rfl, _⟩ := id hv1
  have hE1 := hl.1
  rw [show stX k 5 s.data.toList n (ES.cons op1 n1 s1 l1 r1).txs X Y (decide (0 < y.len)) = [112, 114, 105, 110, 116, 32] ++ exX op1 n1 s1.data.toList l1.txs ++ [59] from rfl] at hlen ⊢
  obtain ⟨len, hln⟩ : ∃ len, (ES.cons op1 n1 s1 l1 r1).len = len := ⟨_, rfl⟩
  rw [hln] at hc1 ⊢
  rw [hln] at h1
  clear hln hv
  obtain ⟨w2, hw2e⟩ : ∃ w2, W.alloc (.cells #[.int .i64 5, .string s, .int .i64 n, .slice (some ⟨bo, o, none⟩) len cap, .slice Ax x.len capx, .slice Ay y.len capy] 41) = w2 := ⟨_, rfl⟩
  have hb2 : Below W.heap.size W w2 := by rw [← hw2e]; exact (Below.refl _ _).alloc (Nat.le_refl _) _
  have hg2 : w2.heap[W.heap.size]? = some (.cells #[.int .i64 5, .string s, .int .i64 n, .slice (some ⟨bo, o, none⟩) len cap, .slice Ax x.len capx, .slice Ay y.len capy] 41 (0, 0)) := by rw [← hw2e]; exact heap_alloc_new W _
  have hbg : W.heap.size ≠ b := by have := h.lt; omega
  have hw2 : Wrote lo b W t k w2 := (Wrote.refl h).below hb2 hlo
  have hlow2 := hw2.lo hlo
  have ht2 := ht.on hw2.bl
  have hvx2 := SV.below hvx hw2.bl (Nat.le_refl _)
  have hvy2 := SV.below hvy hw2.bl (Nat.le_refl _)
  have hR := Wrote.refl hw2.ws
  obtain ⟨d0, d1, d2, d3, d4, d5⟩ := kept6 hR.ok hg2 hbg
  replace hv1 := EV.below hv1 hw2.bl (Nat.le_refl _)
  have hbz : bo < W.heap.size := Nat.lt_of_lt_of_le hbo hlo
  have z0 := (hw2.bl.cell (p := ⟨bo, o, none⟩) hbo).trans c0
  clear c0
  have z1 := (hw2.bl.cell (p := ⟨bo, o + 1, none⟩) hbo).trans c1
  clear c1
  have z2 := (hw2.bl.cell (p := ⟨bo, o + 2, none⟩) hbo).trans c2
  clear c2
  have z3 := (hw2.bl.cell (p := ⟨bo, o + 3, none⟩) hbo).trans c3
  clear c3
  have HS0 : Hid (∀ w2', Wrote lo b w2 (t) k w2' → Calls Tryz.prog 77 #[used b, .string ⟨#[112, 114, 105, 110, 116, 32]⟩, (exV op1 n1 s1 (.slice A1 l1.len cap1))] w2' fun e w' => e = .returned (.tuple #[]) ∧ Wrote lo b w2' (t ++ ([112, 114, 105, 110, 116, 32] ++ exX op1 n1 s1.data.toList l1.txs ++ [59])) k w') :=
    hid fun w2' hw => cn_tell_any op1 n1 s1 l1 hE1 ⟨#[112, 114, 105, 110, 116, 32]⟩ lo b _ k w2' A1 cap1 (ht2.on hw.bl) hw.ws (hw.lo hlow2) (EV.below hv1 hw.bl (Nat.le_refl _)) h1i (by simp only [List.length_append, List.length_cons, List.length_nil] at hlen ⊢; omega)
  go_enter Tryz.func46, Tryz.ntmps46
  have hq := HS0.out _ hR
  go_wp2_with (go_at_call 77; ((with_reducible refine hq.mono ?_); clear hq; rintro e w3 ⟨rfl, h3q⟩))
  have h3w := hR.trans h3q
  go_end0
  exact ⟨rfl, by have := hw2.trans h3w; simp only [List.append_assoc] at this ⊢; exact this⟩

set_option maxHeartbeats 4000000 in
set_option maxRecDepth 100000 in
theorem stmt_6 (s : ByteArray) (n : Int) (l : ES) (x y : SS) (hl : l.exok) (_hx : x.stok) (_hy : y.stok) (h1 : 1 ≤ l.len) : STok 6 s n l x y := by
  intro lo b t k W vl vx vy ht h hlo hv hvx hvy h4 hk hlen
  obtain ⟨A, cap, rfl, hc1, hc2, hrow⟩ := id hv
  obtain ⟨Ax, capx, rfl, _⟩ := id hvx
  obtain ⟨Ay, capy, rfl, _⟩ := id hvy
  have htl : (tabsT k).length = k := by unfold tabsT; rw [List.length_replicate]
  obtain ⟨X, hX⟩ : ∃ X, x.txt (k + 1) = X := ⟨_, rfl⟩
  obtain ⟨Y, hY⟩ : ∃ Y, y.txt (k + 1) = Y := ⟨_, rfl⟩
  rw [hX, hY] at hlen ⊢
  obtain ⟨op1, n1, s1, l1, r1, rfl⟩ : ∃ op1 n1 s1 l1 r1, l = .cons op1 n1 s1 l1 r1 := by
    cases l with
    | nil => exact absurd h1 (by decide)
    | cons op1 n1 s1 l1 r1 => exact ⟨_, _, _, _, _, rfl⟩
  obtain ⟨bo, o, rfl, hbo, c0, c1, c2, ⟨v3, c3, hv1⟩, h1i, _⟩ := hrow (by simp [ES.len])
  obtain ⟨A1, cap1, rfl, _⟩ := id hv1
  have hE1 := hl.1
  rw [show stX k 6 s.data.toList n (ES.cons op1 n1 s1 l1 r1).txs X Y (decide (0 < y.len)) = [107, 101, 101, 112, 32] ++ exX op1 n1 s1.data.toList l1.txs ++ [59] from rfl] at hlen ⊢
  obtain ⟨len, hln⟩ : ∃ len, (ES.cons op1 n1 s1 l1 r1).len = len := ⟨_, rfl⟩
  rw [hln] at hc1 ⊢
  rw [hln] at h1
  clear hln hv
  obtain ⟨w2, hw2e⟩ : ∃ w2, W.alloc (.cells #[.int .i64 6, .string s, .int .i64 n, .slice (some ⟨bo, o, none⟩) len cap, .slice Ax x.len capx, .slice Ay y.len capy] 41) = w2 := ⟨_, rfl⟩
  have hb2 : Below W.heap.size W w2 := by rw [← hw2e]; exact (Below.refl _ _).alloc (Nat.le_refl _) _
  have hg2 : w2.heap[W.heap.size]? = some (.cells #[.int .i64 6, .string s, .int .i64 n, .slice (some ⟨bo, o, none⟩) len cap, .slice Ax x.len capx, .slice Ay y.len capy] 41 (0, 0)) := by rw [← hw2e]; exact heap_alloc_new W _
  have hbg : W.heap.size ≠ b := by have := h.lt; omega
  have hw2 : Wrote lo b W t k w2 := (Wrote.refl h).below hb2 hlo
  have hlow2 := hw2.lo hlo
  have ht2 := ht.on hw2.bl
  have hvx2 := SV.below hvx hw2.bl (Nat.le_refl _)
  have hvy2 := SV.below hvy hw2.bl (Nat.le_refl _)
  have hR := Wrote.refl hw2.ws
  obtain ⟨d0, d1, d2, d3, d4, d5⟩ := kept6 hR.ok hg2 hbg
  replace hv1 := EV.below hv1 hw2.bl (Nat.le_refl _)
  have hbz : bo < W.heap.size := Nat.lt_of_lt_of_le hbo hlo
  have z0 := (hw2.bl.cell (p := ⟨bo, o, none⟩) hbo).trans c0
  clear c0
  have z1 := (hw2.bl.cell (p := ⟨bo, o + 1, none⟩) hbo).trans c1
  clear c1
  have z2 := (hw2.bl.cell (p := ⟨bo, o + 2, none⟩) hbo).trans c2
  clear c2
  have z3 := (hw2.bl.cell (p := ⟨bo, o + 3, none⟩) hbo).trans c3
  clear c3
  have HS0 : Hid (∀ w2', Wrote lo b w2 (t) k w2' → Calls Tryz.prog 77 #[used b, .string ⟨#[107, 101, 101, 112, 32]⟩, (exV op1 n1 s1 (.slice A1 l1.len cap1))] w2' fun e w' => e = .returned (.tuple #[]) ∧ Wrote lo b w2' (t ++ ([107, 101, 101, 112, 32] ++ exX op1 n1 s1.data.toList l1.txs ++ [59])) k w') :=
    hid fun w2' hw => cn_tell_any op1 n1 s1 l1 hE1 ⟨#[107, 101, 101, 112, 32]⟩ lo b _ k w2' A1 cap1 (ht2.on hw.bl) hw.ws (hw.lo hlow2) (EV.below hv1 hw.bl (Nat.le_refl _)) h1i (by simp only [List.length_append, List.length_cons, List.length_nil] at hlen ⊢; omega)
  go_enter Tryz.func46, Tryz.ntmps46
  have hq := HS0.out _ hR
  go_wp2_with (go_at_call 77; ((with_reducible refine hq.mono ?_); clear hq; rintro e w3 ⟨rfl, h3q⟩))
  have h3w := hR.trans h3q
  go_end0
  exact ⟨rfl, by have := hw2.trans h3w; simp only [List.append_assoc] at this ⊢; exact this⟩

set_option maxHeartbeats 4000000 in
set_option maxRecDepth 100000 in
theorem stmt_9 (s : ByteArray) (n : Int) (l : ES) (x y : SS) (hl : l.exok) (_hx : x.stok) (_hy : y.stok) (h1 : 1 ≤ l.len) : STok 9 s n l x y := by
  intro lo b t k W vl vx vy ht h hlo hv hvx hvy h4 hk hlen
  obtain ⟨A, cap, rfl, hc1, hc2, hrow⟩ := id hv
  obtain ⟨Ax, capx, rfl, _⟩ := id hvx
  obtain ⟨Ay, capy, rfl, _⟩ := id hvy
  have htl : (tabsT k).length = k := by unfold tabsT; rw [List.length_replicate]
  obtain ⟨X, hX⟩ : ∃ X, x.txt (k + 1) = X := ⟨_, rfl⟩
  obtain ⟨Y, hY⟩ : ∃ Y, y.txt (k + 1) = Y := ⟨_, rfl⟩
  rw [hX, hY] at hlen ⊢
  obtain ⟨op1, n1, s1, l1, r1, rfl⟩ : ∃ op1 n1 s1 l1 r1, l = .cons op1 n1 s1 l1 r1 := by
    cases l with
    | nil => exact absurd h1 (by decide)
    | cons op1 n1 s1 l1 r1 => exact ⟨_, _, _, _, _, rfl⟩
  obtain ⟨bo, o, rfl, hbo, c0, c1, c2, ⟨v3, c3, hv1⟩, h1i, _⟩ := hrow (by simp [ES.len])
  obtain ⟨A1, cap1, rfl, _⟩ := id hv1
  have hE1 := hl.1
  rw [show stX k 9 s.data.toList n (ES.cons op1 n1 s1 l1 r1).txs X Y (decide (0 < y.len)) = [114, 101, 116, 117, 114, 110, 32] ++ exX op1 n1 s1.data.toList l1.txs ++ [59] from rfl] at hlen ⊢
  obtain ⟨len, hln⟩ : ∃ len, (ES.cons op1 n1 s1 l1 r1).len = len := ⟨_, rfl⟩
  rw [hln] at hc1 ⊢
  rw [hln] at h1
  clear hln hv
  obtain ⟨w2, hw2e⟩ : ∃ w2, W.alloc (.cells #[.int .i64 9, .string s, .int .i64 n, .slice (some ⟨bo, o, none⟩) len cap, .slice Ax x.len capx, .slice Ay y.len capy] 41) = w2 := ⟨_, rfl⟩
  have hb2 : Below W.heap.size W w2 := by rw [← hw2e]; exact (Below.refl _ _).alloc (Nat.le_refl _) _
  have hg2 : w2.heap[W.heap.size]? = some (.cells #[.int .i64 9, .string s, .int .i64 n, .slice (some ⟨bo, o, none⟩) len cap, .slice Ax x.len capx, .slice Ay y.len capy] 41 (0, 0)) := by rw [← hw2e]; exact heap_alloc_new W _
  have hbg : W.heap.size ≠ b := by have := h.lt; omega
  have hw2 : Wrote lo b W t k w2 := (Wrote.refl h).below hb2 hlo
  have hlow2 := hw2.lo hlo
  have ht2 := ht.on hw2.bl
  have hvx2 := SV.below hvx hw2.bl (Nat.le_refl _)
  have hvy2 := SV.below hvy hw2.bl (Nat.le_refl _)
  have hR := Wrote.refl hw2.ws
  obtain ⟨d0, d1, d2, d3, d4, d5⟩ := kept6 hR.ok hg2 hbg
  replace hv1 := EV.below hv1 hw2.bl (Nat.le_refl _)
  have hbz : bo < W.heap.size := Nat.lt_of_lt_of_le hbo hlo
  have z0 := (hw2.bl.cell (p := ⟨bo, o, none⟩) hbo).trans c0
  clear c0
  have z1 := (hw2.bl.cell (p := ⟨bo, o + 1, none⟩) hbo).trans c1
  clear c1
  have z2 := (hw2.bl.cell (p := ⟨bo, o + 2, none⟩) hbo).trans c2
  clear c2
  have z3 := (hw2.bl.cell (p := ⟨bo, o + 3, none⟩) hbo).trans c3
  clear c3
  have HS0 : Hid (∀ w2', Wrote lo b w2 (t) k w2' → Calls Tryz.prog 77 #[used b, .string ⟨#[114, 101, 116, 117, 114, 110, 32]⟩, (exV op1 n1 s1 (.slice A1 l1.len cap1))] w2' fun e w' => e = .returned (.tuple #[]) ∧ Wrote lo b w2' (t ++ ([114, 101, 116, 117, 114, 110, 32] ++ exX op1 n1 s1.data.toList l1.txs ++ [59])) k w') :=
    hid fun w2' hw => cn_tell_any op1 n1 s1 l1 hE1 ⟨#[114, 101, 116, 117, 114, 110, 32]⟩ lo b _ k w2' A1 cap1 (ht2.on hw.bl) hw.ws (hw.lo hlow2) (EV.below hv1 hw.bl (Nat.le_refl _)) h1i (by simp only [List.length_append, List.length_cons, List.length_nil] at hlen ⊢; omega)
  go_enter Tryz.func46, Tryz.ntmps46
  have hq := HS0.out _ hR
  go_wp2_with (go_at_call 77; ((with_reducible refine hq.mono ?_); clear hq; rintro e w3 ⟨rfl, h3q⟩))
  have h3w := hR.trans h3q
  go_end0
  exact ⟨rfl, by have := hw2.trans h3w; simp only [List.append_assoc] at this ⊢; exact this⟩

set_option maxHeartbeats 4000000 in
set_option maxRecDepth 100000 in
theorem stmt_8 (s : ByteArray) (n : Int) (l : ES) (x y : SS) (hl : l.exok) (hx : x.stok) (_hy : y.stok) (h1 : 1 ≤ l.len) : STok 8 s n l x y := by
  intro lo b t k W vl vx vy ht h hlo hv hvx hvy h4 hk hlen
  obtain ⟨A, cap, rfl, hc1, hc2, hrow⟩ := id hv
  obtain ⟨Ax, capx, rfl, _⟩ := id hvx
  obtain ⟨Ay, capy, rfl, _⟩ := id hvy
  have htl : (tabsT k).length = k := by unfold tabsT; rw [List.length_replicate]
  obtain ⟨X, hX⟩ : ∃ X, x.txt (k + 1) = X := ⟨_, rfl⟩
  obtain ⟨Y, hY⟩ : ∃ Y, y.txt (k + 1) = Y := ⟨_, rfl⟩
  rw [hX, hY] at hlen ⊢
  obtain ⟨op1, n1, s1, l1, r1, rfl⟩ : ∃ op1 n1 s1 l1 r1, l = .cons op1 n1 s1 l1 r1 := by
    cases l with
    | nil => exact absurd h1 (by decide)
    | cons op1 n1 s1 l1 r1 => exact ⟨_, _, _, _, _, rfl⟩
  obtain ⟨bo, o, rfl, hbo, c0, c1, c2, ⟨v3, c3, hv1⟩, h1i, _⟩ := hrow (by simp [ES.len])
  obtain ⟨A1, cap1, rfl, _⟩ := id hv1
  have hE1 := hl.1
  rw [show stX k 8 s.data.toList n (ES.cons op1 n1 s1 l1 r1).txs X Y (decide (0 < y.len)) = [119, 104, 105, 108, 101, 32] ++ exX op1 n1 s1.data.toList l1.txs ++ blkT k X from rfl] at hlen ⊢
  obtain ⟨len, hln⟩ : ∃ len, (ES.cons op1 n1 s1 l1 r1).len = len := ⟨_, rfl⟩
  rw [hln] at hc1 ⊢
  rw [hln] at h1
  clear hln hv
  obtain ⟨w2, hw2e⟩ : ∃ w2, W.alloc (.cells #[.int .i64 8, .string s, .int .i64 n, .slice (some ⟨bo, o, none⟩) len cap, .slice Ax x.len capx, .slice Ay y.len capy] 41) = w2 := ⟨_, rfl⟩
  have hb2 : Below W.heap.size W w2 := by rw [← hw2e]; exact (Below.refl _ _).alloc (Nat.le_refl _) _
  have hg2 : w2.heap[W.heap.size]? = some (.cells #[.int .i64 8, .string s, .int .i64 n, .slice (some ⟨bo, o, none⟩) len cap, .slice Ax x.len capx, .slice Ay y.len capy] 41 (0, 0)) := by rw [← hw2e]; exact heap_alloc_new W _
  have hbg : W.heap.size ≠ b := by have := h.lt; omega
  have hw2 : Wrote lo b W t k w2 := (Wrote.refl h).below hb2 hlo
  have hlow2 := hw2.lo hlo
  have ht2 := ht.on hw2.bl
  have hvx2 := SV.below hvx hw2.bl (Nat.le_refl _)
  have hvy2 := SV.below hvy hw2.bl (Nat.le_refl _)
  have hR := Wrote.refl hw2.ws
  obtain ⟨d0, d1, d2, d3, d4, d5⟩ := kept6 hR.ok hg2 hbg
  replace hv1 := EV.below hv1 hw2.bl (Nat.le_refl _)
  have hbz : bo < W.heap.size := Nat.lt_of_lt_of_le hbo hlo
  have z0 := (hw2.bl.cell (p := ⟨bo, o, none⟩) hbo).trans c0
  clear c0
  have z1 := (hw2.bl.cell (p := ⟨bo, o + 1, none⟩) hbo).trans c1
  clear c1
  have z2 := (hw2.bl.cell (p := ⟨bo, o + 2, none⟩) hbo).trans c2
  clear c2
  have z3 := (hw2.bl.cell (p := ⟨bo, o + 3, none⟩) hbo).trans c3
  clear c3
  have HS0 : Hid (∀ w2', Wrote lo b w2 (t) k w2' → Calls Tryz.prog 42 #[used b, .slice (some ⟨w2'.heap.size, 0, none⟩) 1 1] (w2'.alloc (.cells #[.string ⟨#[119, 104, 105, 108, 101, 32]⟩] 9)) fun e w' => e = .returned (.tuple #[]) ∧ Wrote lo b w2' (t ++ [119, 104, 105, 108, 101, 32]) k w') :=
    hid fun w2' hw => add_one lo b _ k ⟨#[119, 104, 105, 108, 101, 32]⟩ w2' hw.ws (hw.lo hlow2) (by simp only [List.length_append, List.length_cons, List.length_nil] at hlen ⊢; omega)
  have HS1 : Hid (∀ w2', Wrote lo b w2 (t ++ [119, 104, 105, 108, 101, 32]) k w2' → Calls Tryz.prog 36 #[used b, (exV op1 n1 s1 (.slice A1 l1.len cap1))] w2' fun e w' => e = .returned (.tuple #[]) ∧ Wrote lo b w2' (t ++ [119, 104, 105, 108, 101, 32] ++ exX op1 n1 s1.data.toList l1.txs) k w') :=
    hid fun w2' hw => hE1 lo b _ k w2' _ (ht2.on hw.bl) hw.ws (hw.lo hlow2) (EV.below hv1 hw.bl (Nat.le_refl _)) h1i (by simp only [List.length_append, List.length_cons, List.length_nil] at hlen ⊢; omega)
  have HS2 : Hid (∀ w2', Wrote lo b w2 (t ++ [119, 104, 105, 108, 101, 32] ++ exX op1 n1 s1.data.toList l1.txs) k w2' → Calls Tryz.prog 44 #[used b, .slice Ax x.len capx] w2' fun e w' => e = .returned (.tuple #[]) ∧ Wrote lo b w2' (t ++ [119, 104, 105, 108, 101, 32] ++ exX op1 n1 s1.data.toList l1.txs ++ (blkT k X)) k w') :=
    hid fun w2' hw => by
      have := cn_block_any x hx lo b (t ++ [119, 104, 105, 108, 101, 32] ++ exX op1 n1 s1.data.toList l1.txs) k w2' Ax capx (ht2.on hw.bl) hw.ws (hw.lo hlow2) (SV.below hvx2 hw.bl (Nat.le_refl _)) (by simp only [blkT, List.length_append, List.length_cons, List.length_nil, htl] at hlen; omega)
      rw [hX] at this
      exact this (by simp only [List.length_append, List.length_cons, List.length_nil] at hlen ⊢; omega)
  go_enter Tryz.func46, Tryz.ntmps46
  have hq := HS0.out _ hR
  go_upto_region 24 with (go_at_call 42; ((with_reducible refine hq.mono ?_); clear hq; rintro e w3 ⟨rfl, h3q⟩))
  clear d0 d1 d2 d3 d4 d5
  have h3w := hR.trans h3q
  obtain ⟨d0, d1, d2, d3, d4, d5⟩ := kept6 h3w.ok hg2 hbg
  have c0 := (h3w.bl.cell (p := ⟨bo, o, none⟩) hbo).trans z0
  have c1 := (h3w.bl.cell (p := ⟨bo, o + 1, none⟩) hbo).trans z1
  have c2 := (h3w.bl.cell (p := ⟨bo, o + 2, none⟩) hbo).trans z2
  have c3 := (h3w.bl.cell (p := ⟨bo, o + 3, none⟩) hbo).trans z3
  have hq := HS1.out _ h3w
  go_upto_region 25 with (go_at_call 36; ((with_reducible refine hq.mono ?_); clear hq; rintro e w4 ⟨rfl, h4q⟩))
  clear d0 d1 d2 d3 d4 d5
  have h4w := h3w.trans h4q
  obtain ⟨d0, d1, d2, d3, d4, d5⟩ := kept6 h4w.ok hg2 hbg
  have c0 := (h4w.bl.cell (p := ⟨bo, o, none⟩) hbo).trans z0
  have c1 := (h4w.bl.cell (p := ⟨bo, o + 1, none⟩) hbo).trans z1
  have c2 := (h4w.bl.cell (p := ⟨bo, o + 2, none⟩) hbo).trans z2
  have c3 := (h4w.bl.cell (p := ⟨bo, o + 3, none⟩) hbo).trans z3
  have hq := HS2.out _ h4w
  go_wp2_with (go_at_call 44; ((with_reducible refine hq.mono ?_); clear hq; rintro e w5 ⟨rfl, h5q⟩))
  have h5w := h4w.trans h5q
  go_end0
  exact ⟨rfl, by have := hw2.trans h5w; simp only [List.append_assoc] at this ⊢; exact this⟩

set_option maxHeartbeats 4000000 in
set_option maxRecDepth 100000 in
theorem stmt_7 (s : ByteArray) (n : Int) (l : ES) (x y : SS) (hl : l.exok) (hx : x.stok) (hy : y.stok) (h1 : 1 ≤ l.len) : STok 7 s n l x y := by
  intro lo b t k W vl vx vy ht h hlo hv hvx hvy h4 hk hlen
  obtain ⟨T, hT⟩ : ∃ T, stX k 7 s.data.toList n l.txs (x.txt (k + 1)) (y.txt (k + 1)) (decide (0 < y.len)) = T := ⟨_, rfl⟩
  obtain ⟨A, cap, rfl, hc1, hc2, hrow⟩ := id hv
  obtain ⟨Ax, capx, rfl, _⟩ := id hvx
  obtain ⟨Ay, capy, rfl, _⟩ := id hvy
  obtain ⟨w2, hw2e⟩ : ∃ w2, W.alloc (.cells #[.int .i64 7, .string s, .int .i64 n, .slice A l.len cap, .slice Ax x.len capx, .slice Ay y.len capy] 41) = w2 := ⟨_, rfl⟩
  have hb2 : Below W.heap.size W w2 := by rw [← hw2e]; exact (Below.refl _ _).alloc (Nat.le_refl _) _
  have hg2 : w2.heap[W.heap.size]? = some (.cells #[.int .i64 7, .string s, .int .i64 n, .slice A l.len cap, .slice Ax x.len capx, .slice Ay y.len capy] 41 (0, 0)) := by rw [← hw2e]; exact heap_alloc_new W _
  have hbg : W.heap.size ≠ b := by have := h.lt; omega
  have hw2 : Wrote lo b W t k w2 := (Wrote.refl h).below hb2 hlo
  obtain ⟨d0, d1, d2, d3, d4, d5⟩ := kept6 (Wrote.refl hw2.ws).ok hg2 hbg
  have hq := cn_choice_any s n l x y hl hx hy h1 lo b t k w2 _ _ _ (ht.on hw2.bl) hw2.ws (hw2.lo hlo) (EV.below hv hw2.bl (Nat.le_refl _)) (SV.below hvx hw2.bl (Nat.le_refl _)) (SV.below hvy hw2.bl (Nat.le_refl _)) h4 hk hlen
  rw [hT] at hq ⊢
  clear hT hlen hv hvx hvy
  go_enter Tryz.func46, Tryz.ntmps46
  go_wp2_with (go_at_call 78; ((with_reducible refine hq.mono ?_); rintro e w4 ⟨rfl, h4q⟩))
  go_end0
  exact ⟨rfl, hw2.trans h4q⟩

set_option maxHeartbeats 4000000 in
set_option maxRecDepth 100000 in
theorem stmt_3 (s : ByteArray) (n : Int) (l : ES) (x y : SS) (_hl : l.exok) (_hx : x.stok) (_hy : y.stok) : STok 3 s n l x y := by
  intro lo b t k W vl vx vy ht h hlo hv hvx hvy h4 hk hlen
  obtain ⟨A, cap, rfl, hc1, hc2, hrow⟩ := id hv
  obtain ⟨Ax, capx, rfl, _⟩ := id hvx
  obtain ⟨Ay, capy, rfl, _⟩ := id hvy
  have htl : (tabsT k).length = k := by unfold tabsT; rw [List.length_replicate]
  obtain ⟨X, hX⟩ : ∃ X, x.txt (k + 1) = X := ⟨_, rfl⟩
  obtain ⟨Y, hY⟩ : ∃ Y, y.txt (k + 1) = Y := ⟨_, rfl⟩
  rw [hX, hY] at hlen ⊢
  clear hrow
  rw [show stX k 3 s.data.toList n l.txs X Y (decide (0 < y.len)) = [97, 114, 114, 97, 121, 32] ++ s.data.toList ++ [32] ++ Lib.itoa n ++ [59] from rfl] at hlen ⊢
  obtain ⟨len, hln⟩ : ∃ len, l.len = len := ⟨_, rfl⟩
  rw [hln] at hc1 ⊢
  clear hln hv
  obtain ⟨w2, hw2e⟩ : ∃ w2, W.alloc (.cells #[.int .i64 3, .string s, .int .i64 n, .slice A len cap, .slice Ax x.len capx, .slice Ay y.len capy] 41) = w2 := ⟨_, rfl⟩
  have hb2 : Below W.heap.size W w2 := by rw [← hw2e]; exact (Below.refl _ _).alloc (Nat.le_refl _) _
  have hg2 : w2.heap[W.heap.size]? = some (.cells #[.int .i64 3, .string s, .int .i64 n, .slice A len cap, .slice Ax x.len capx, .slice Ay y.len capy] 41 (0, 0)) := by rw [← hw2e]; exact heap_alloc_new W _
  have hbg : W.heap.size ≠ b := by have := h.lt; omega
  have hw2 : Wrote lo b W t k w2 := (Wrote.refl h).below hb2 hlo
  have hlow2 := hw2.lo hlo
  have ht2 := ht.on hw2.bl
  have hvx2 := SV.below hvx hw2.bl (Nat.le_refl _)
  have hvy2 := SV.below hvy hw2.bl (Nat.le_refl _)
  have hR := Wrote.refl hw2.ws
  obtain ⟨d0, d1, d2, d3, d4, d5⟩ := kept6 hR.ok hg2 hbg
  have hT0 := text_any lo n w2.drew (ht2.on (Below.drew (Below.refl _ w2))) h4.2.1
  go_enter Tryz.func46, Tryz.ntmps46
  go_upto_region 11 with fail
  have hS0 : Below w2.heap.size w2 w2.drew := Below.drew (Below.refl _ _)
  clear d0 d1 d2 d3 d4 d5
  refine wp_region_held_drew (S := fun w' => OthersKept 5 (some b) w2 w') (by kernel_rfl) hR.ok (fun hHeld => ?_)
  refine wpAnyH_take (i := 0) (v := used b) rfl (by kernel_rfl) (by kernel_rfl) (by kernel_rfl) (fun _ _ _ h => h) (Or.inl ⟨by rfl, ?_⟩) (by assumption) ?_
  · intro W' hSw
    obtain ⟨l0, l1, l2, l3, l4, l5⟩ := kept6 hSw hg2 hbg
    go_simp
  try simp only [Act.put, List.getElem_toArray, List.getElem_cons_zero, List.setIfInBounds_toArray, List.set_cons_zero, List.set_cons_succ]
  refine wpAnyH_take (i := 1) (v := .pointer (some ⟨W.heap.size, 1, none⟩)) rfl (by kernel_rfl) (by kernel_rfl) (by kernel_rfl) (fun _ _ _ h => h) (Or.inl ⟨by rfl, ?_⟩) (by assumption) ?_
  · intro W' hSw
    obtain ⟨l0, l1, l2, l3, l4, l5⟩ := kept6 hSw hg2 hbg
    go_simp
  try simp only [Act.put, List.getElem_toArray, List.getElem_cons_zero, List.getElem_cons_succ, List.setIfInBounds_toArray, List.set_cons_zero, List.set_cons_succ]
  refine wpAnyH_take (i := 2) (v := .string s) rfl (by kernel_rfl) (by kernel_rfl) (by kernel_rfl) (fun _ _ _ h => h) (Or.inl ⟨by rfl, ?_⟩) (by assumption) ?_
  · intro W' hSw
    obtain ⟨l0, l1, l2, l3, l4, l5⟩ := kept6 hSw hg2 hbg
    go_simp
  try simp only [Act.put, List.getElem_toArray, List.getElem_cons_zero, List.getElem_cons_succ, List.setIfInBounds_toArray, List.set_cons_zero, List.set_cons_succ]
  refine wpAnyH_take (i := 3) (v := .pointer (some ⟨W.heap.size, 2, none⟩)) rfl (by kernel_rfl) (by kernel_rfl) (by kernel_rfl) (fun _ _ _ h => h) (Or.inl ⟨by rfl, ?_⟩) (by assumption) ?_
  · intro W' hSw
    obtain ⟨l0, l1, l2, l3, l4, l5⟩ := kept6 hSw hg2 hbg
    go_simp
  try simp only [Act.put, List.getElem_toArray, List.getElem_cons_zero, List.getElem_cons_succ, List.setIfInBounds_toArray, List.set_cons_zero, List.set_cons_succ]
  refine wpAnyH_take (i := 4) (v := .int .i64 n) rfl (by kernel_rfl) (by kernel_rfl) (by kernel_rfl) (fun _ _ _ h => h) (Or.inl ⟨by rfl, ?_⟩) (by assumption) ?_
  · intro W' hSw
    obtain ⟨l0, l1, l2, l3, l4, l5⟩ := kept6 hSw hg2 hbg
    go_simp
  try simp only [Act.put, List.getElem_toArray, List.getElem_cons_zero, List.getElem_cons_succ, List.setIfInBounds_toArray, List.set_cons_zero, List.set_cons_succ]
  refine wpAnyH_ready (rs := [5]) (by kernel_rfl) (by simp) ?_
  refine AllReadyH.cons rfl (fun K hK => ?_) AllReadyH.nil
  go_simp
  go_at_call 66
  refine hT0.mono ?_
  rintro e5 w5 ⟨rfl, e5b⟩
  go_wp2_with fail
  have e5 := hS0.trans (e5b.mono hS0.size)
  have hw5 := hw2.below e5 hlow2
  have k5 : OthersKept 5 (some b) w2 w5 := kept_below hR.ok e5
  refine hK.out _ _ k5 (fun _ => ?_)
  clear hK K
  try simp only [Act.put, List.getElem_toArray, List.getElem_cons_zero, List.getElem_cons_succ, List.setIfInBounds_toArray, List.set_cons_zero, List.set_cons_succ]
  refine wpAnyH_ready (rs := [6]) (by kernel_rfl) (by simp) ?_
  refine AllReadyH.cons rfl (fun K hK => ?_) AllReadyH.nil
  go_simp
  refine hK.out _ _ (k5.alloc _) (fun _ => ?_)
  clear hK K
  try simp only [Act.put, List.getElem_toArray, List.getElem_cons_zero, List.getElem_cons_succ, List.setIfInBounds_toArray, List.set_cons_zero, List.set_cons_succ]
  have ha := add_any lo b t k [⟨#[97, 114, 114, 97, 121, 32]⟩, s, ⟨#[32]⟩, ⟨(Lib.itoa n).toArray⟩, ⟨#[59]⟩] 5 rfl (by decide) w5 hw5.ws (hw5.lo hlo) (by simp only [catB, List.length_append, List.length_cons, List.length_nil] at hlen ⊢; omega) #[.string ⟨#[97, 114, 114, 97, 121, 32]⟩, .string s, .string ⟨#[32]⟩, .string ⟨(Lib.itoa n).toArray⟩, .string ⟨#[59]⟩] rfl
  refine wpAnyH_ready (rs := [7]) (by kernel_rfl) (by simp) ?_
  refine AllReadyH.cons rfl (fun K hK => ?_) AllReadyH.nil
  go_simp
  go_at_call 42
  refine ha.mono ?_
  rintro e6 w6 ⟨rfl, h6q⟩
  go_wp2_with fail
  refine hK.out _ _ (k5.trans h6q.ok) (fun _ => ?_)
  clear hK K
  try simp only [Act.put, List.getElem_toArray, List.getElem_cons_zero, List.getElem_cons_succ, List.setIfInBounds_toArray, List.set_cons_zero, List.set_cons_succ]
  refine wpAnyH_done (by kernel_rfl) ?_ _
  go_wp2_with fail
  go_end0
  refine ⟨rfl, ?_⟩
  have := hw5.trans h6q
  simp only [catB, List.append_nil, List.append_assoc] at this ⊢
  exact this

end Go.Proofs.YtppagjhmlgkamaaGreatDoor
