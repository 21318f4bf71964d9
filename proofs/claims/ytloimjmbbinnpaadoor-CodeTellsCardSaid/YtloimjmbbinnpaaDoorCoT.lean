/-
  CodeTells: the walk.
-/
import Derived.Test.YtloimjmbbinnpaaDoorCoI
namespace Go.Proofs.YtloimjmbbinnpaaDoor
open Go Go.RowKit Go.Lib

set_option maxHeartbeats 8000000 in
set_option maxRecDepth 100000 in
theorem tells_in (op : Int) (lo : Nat) (w : World) (ht : CT lo w) (h1 : 1 ≤ op) (h2 : op ≤ 25) :
    Calls Tryd.prog 3 #[.int .i64 op] w fun e w' => e = .returned (.bool true) ∧ Below w.heap.size w w' := by
  have hk : knownB op = true := by unfold knownB; simp; omega
  obtain ⟨t1, t2, t3, _⟩ := kd_ok op
  obtain ⟨sh, hsh⟩ : ∃ sh, kdOf op = sh := ⟨_, rfl⟩
  have A0 := shown_any lo w ht
  have A1 := fun wx => of_any op sh hsh wx
  have A2 := fun wx (h : Below w.heap.size w wx) => takes_any op lo wx (ht.step h)
  have A3 := fun wx (h : Below w.heap.size w wx) => leaves_any op lo wx (ht.step h)
  have A4 := fun wx (h : Below w.heap.size w wx) => cost_any op lo wx (ht.step h)
  have A5 := fun wx (h : Below w.heap.size w wx) => name_any op lo wx (ht.step h)
  have A6 := fun wx (h : Below w.heap.size w wx) => fast_any op lo wx (ht.step h)
  have A7 := fun wx => known_any op wx
  rw [hk] at A7
  rw [hsh] at A2 A3 A4 A5 A6 t1 t2 t3
  have g1 : decide ((1 : Int) ≤ op) = true := decide_eq_true h1
  have g2 : decide (op ≤ 25) = true := decide_eq_true h2
  have H1 := Lib.hid A1
  have HK := Lib.hid hk
  clear A1 hk hsh
  go_enter Tryd.func3, Tryd.ntmps3
  go_upto_region 3 with (first
    | (go_at_call 7; ((with_reducible refine A0.mono ?_); clear A0; rintro e w0 ⟨rfl, h0⟩))
    | (go_at_call 8; ((with_reducible refine (H1.out _).mono ?_); rintro e w1 ⟨rfl, h1q⟩)))
  obtain ⟨W2, hW2⟩ : ∃ W2, w1.alloc (.cells #[.string ⟨sh.name.toArray⟩, .int .i64 sh.takes, .int .i64 sh.leaves, .int .i64 sh.cost, .bool sh.hasA, .bool sh.hasN] 24) = W2 := ⟨_, rfl⟩
  have hg2 : W2.heap[w1.heap.size]? = some (.cells #[.string ⟨sh.name.toArray⟩, .int .i64 sh.takes, .int .i64 sh.leaves, .int .i64 sh.cost, .bool sh.hasA, .bool sh.hasN] 24 (0, 0)) := by rw [← hW2]; exact heap_alloc_new w1 _
  have hb2 : Below w1.heap.size w1 W2 := by rw [← hW2]; exact (Below.refl _ _).alloc (Nat.le_refl _) _
  have hlt2 : w1.heap.size < W2.heap.size := (Array.getElem?_eq_some_iff.1 hg2).1
  have hbw1 := h0.trans (h1q.mono h0.size)
  have hbw : Below w.heap.size w W2 := hbw1.trans (hb2.mono hbw1.size)
  rw [hW2]
  obtain ⟨G, hG⟩ : ∃ G, w1.heap.size = G := ⟨_, rfl⟩
  rw [hG] at hg2 hlt2 ⊢
  have K : ∀ W, Below W2.heap.size W2 W → (fun W => W.cell? ⟨G, 0, none⟩ = some (.string ⟨sh.name.toArray⟩) ∧ W.cell? ⟨G, 1, none⟩ = some (.int .i64 sh.takes) ∧ W.cell? ⟨G, 2, none⟩ = some (.int .i64 sh.leaves) ∧ W.cell? ⟨G, 3, none⟩ = some (.int .i64 sh.cost) ∧ Below W2.heap.size W2 W) W := fun W h => by
    have hq := (h.block _ hlt2).trans hg2
    refine ⟨?_, ?_, ?_, ?_, h⟩
    · rw [cell_of_heap hq]; rfl
    · rw [cell_of_heap hq]; rfl
    · rw [cell_of_heap hq]; rfl
    · rw [cell_of_heap hq]; rfl
  have D2 := fun wx (h : Below W2.heap.size W2 wx) => (A2 wx (hbw.trans (h.mono hbw.size))).mono fun e w' hw => (show e = _ ∧ (fun W => W.cell? ⟨G, 0, none⟩ = some (.string ⟨sh.name.toArray⟩) ∧ W.cell? ⟨G, 1, none⟩ = some (.int .i64 sh.takes) ∧ W.cell? ⟨G, 2, none⟩ = some (.int .i64 sh.leaves) ∧ W.cell? ⟨G, 3, none⟩ = some (.int .i64 sh.cost) ∧ Below W2.heap.size W2 W) w' from ⟨hw.1, K w' (h.trans (hw.2.mono h.size))⟩)
  have D3 := fun wx (h : Below W2.heap.size W2 wx) => (A3 wx (hbw.trans (h.mono hbw.size))).mono fun e w' hw => (show e = _ ∧ (fun W => W.cell? ⟨G, 0, none⟩ = some (.string ⟨sh.name.toArray⟩) ∧ W.cell? ⟨G, 1, none⟩ = some (.int .i64 sh.takes) ∧ W.cell? ⟨G, 2, none⟩ = some (.int .i64 sh.leaves) ∧ W.cell? ⟨G, 3, none⟩ = some (.int .i64 sh.cost) ∧ Below W2.heap.size W2 W) w' from ⟨hw.1, K w' (h.trans (hw.2.mono h.size))⟩)
  have D4 := fun wx (h : Below W2.heap.size W2 wx) => (A4 wx (hbw.trans (h.mono hbw.size))).mono fun e w' hw => (show e = _ ∧ (fun W => W.cell? ⟨G, 0, none⟩ = some (.string ⟨sh.name.toArray⟩) ∧ W.cell? ⟨G, 1, none⟩ = some (.int .i64 sh.takes) ∧ W.cell? ⟨G, 2, none⟩ = some (.int .i64 sh.leaves) ∧ W.cell? ⟨G, 3, none⟩ = some (.int .i64 sh.cost) ∧ Below W2.heap.size W2 W) w' from ⟨hw.1, K w' (h.trans (hw.2.mono h.size))⟩)
  have D5 := fun wx (h : Below W2.heap.size W2 wx) => (A5 wx (hbw.trans (h.mono hbw.size))).mono fun e w' hw => (show e = _ ∧ (fun W => W.cell? ⟨G, 0, none⟩ = some (.string ⟨sh.name.toArray⟩) ∧ W.cell? ⟨G, 1, none⟩ = some (.int .i64 sh.takes) ∧ W.cell? ⟨G, 2, none⟩ = some (.int .i64 sh.leaves) ∧ W.cell? ⟨G, 3, none⟩ = some (.int .i64 sh.cost) ∧ Below W2.heap.size W2 W) w' from ⟨hw.1, K w' (h.trans (hw.2.mono h.size))⟩)
  have D6 := fun wx (h : Below W2.heap.size W2 wx) => (A6 wx (hbw.trans (h.mono hbw.size))).mono fun e w' hw => (show e = _ ∧ (fun W => W.cell? ⟨G, 0, none⟩ = some (.string ⟨sh.name.toArray⟩) ∧ W.cell? ⟨G, 1, none⟩ = some (.int .i64 sh.takes) ∧ W.cell? ⟨G, 2, none⟩ = some (.int .i64 sh.leaves) ∧ W.cell? ⟨G, 3, none⟩ = some (.int .i64 sh.cost) ∧ Below W2.heap.size W2 W) w' from ⟨hw.1, K w' (h.trans (hw.2.mono h.size))⟩)
  have D7 := fun wx (h : Below W2.heap.size W2 wx) => (A7 wx).mono fun e w' hw => (show e = _ ∧ (fun W => W.cell? ⟨G, 0, none⟩ = some (.string ⟨sh.name.toArray⟩) ∧ W.cell? ⟨G, 1, none⟩ = some (.int .i64 sh.takes) ∧ W.cell? ⟨G, 2, none⟩ = some (.int .i64 sh.leaves) ∧ W.cell? ⟨G, 3, none⟩ = some (.int .i64 sh.cost) ∧ Below W2.heap.size W2 W) w' from ⟨hw.1, K w' (by rw [← hw.2]; exact h)⟩)
  have E2 := Lib.hid D2
  have E3 := Lib.hid D3
  have E4 := Lib.hid D4
  have E5 := Lib.hid D5
  have E6 := Lib.hid D6
  have E7 := Lib.hid D7
  have HF := Lib.hid hbw
  clear hW2 hG
  go_upto_region 4 with fail
  obtain ⟨y0, y1, y2, y3, y4⟩ := K W2.drew (Below.refl _ W2).drew
  clear D2 D3 D4 D5 D6 D7 A2 A3 A4 A5 A6 A7 K hg2 hb2 hlt2 hbw hbw1 h0 h1q
  go_region_held3 (fun W => W.cell? ⟨G, 0, none⟩ = some (.string ⟨sh.name.toArray⟩) ∧ W.cell? ⟨G, 1, none⟩ = some (.int .i64 sh.takes) ∧ W.cell? ⟨G, 2, none⟩ = some (.int .i64 sh.leaves) ∧ W.cell? ⟨G, 3, none⟩ = some (.int .i64 sh.cost) ∧ Below W2.heap.size W2 W)
    (first | exact ⟨y0, y1, y2, y3, y4⟩ | go_keep)
    (first
      | (go_at_call 11; refine (E2.out _ (by assumption)).mono ?_; rintro e w3 ⟨rfl, y0, y1, y2, y3, y4⟩)
      | (go_at_call 12; refine (E3.out _ (by assumption)).mono ?_; rintro e w3 ⟨rfl, y0, y1, y2, y3, y4⟩)
      | (go_at_call 13; refine (E4.out _ (by assumption)).mono ?_; rintro e w3 ⟨rfl, y0, y1, y2, y3, y4⟩)
      | (go_at_call 10; refine (E5.out _ (by assumption)).mono ?_; rintro e w3 ⟨rfl, y0, y1, y2, y3, y4⟩)
      | (go_at_call 14; refine (E6.out _ (by assumption)).mono ?_; rintro e w3 ⟨rfl, y0, y1, y2, y3, y4⟩)
      | (go_at_call 9; refine (E7.out _ (by assumption)).mono ?_; rintro e w3 ⟨rfl, y0, y1, y2, y3, y4⟩))
  go_wp2
  go_ret
  exact ⟨by rw [show IntKind.i64.wrap ((IntKind.i64.wrap ((sh.cost : Int) + 1)).tdiv 2) = ((sh.cost : Int) + 1) / 2 by
    rw [IntWalk.i64_in ((sh.cost : Int) + 1) (by omega), Int.tdiv_eq_ediv_of_nonneg (by omega)]; exact IntWalk.i64_in _ (by omega)]; simp, HF.out.trans (y4.mono HF.out.size)⟩

set_option maxHeartbeats 8000000 in
set_option maxRecDepth 100000 in
theorem tells_lo (op : Int) (lo : Nat) (w : World) (ht : CT lo w) (h1 : op < 1) :
    Calls Tryd.prog 3 #[.int .i64 op] w fun e w' => e = .returned (.bool true) ∧ Below w.heap.size w w' := by
  have hk : knownB op = false := by unfold knownB; simp; omega
  obtain ⟨t1, t2, t3, _⟩ := kd_ok op
  obtain ⟨sh, hsh⟩ : ∃ sh, kdOf op = sh := ⟨_, rfl⟩
  have A0 := shown_any lo w ht
  have A1 := fun wx => of_any op sh hsh wx
  have A2 := fun wx (h : Below w.heap.size w wx) => takes_any op lo wx (ht.step h)
  have A3 := fun wx (h : Below w.heap.size w wx) => leaves_any op lo wx (ht.step h)
  have A4 := fun wx (h : Below w.heap.size w wx) => cost_any op lo wx (ht.step h)
  have A5 := fun wx (h : Below w.heap.size w wx) => name_any op lo wx (ht.step h)
  have A6 := fun wx (h : Below w.heap.size w wx) => fast_any op lo wx (ht.step h)
  have A7 := fun wx => known_any op wx
  rw [hk] at A7
  rw [hsh] at A2 A3 A4 A5 A6 t1 t2 t3
  have g1 : decide ((1 : Int) ≤ op) = false := decide_eq_false (by omega)
  have H1 := Lib.hid A1
  have HK := Lib.hid hk
  clear A1 hk hsh
  go_enter Tryd.func3, Tryd.ntmps3
  go_upto_region 3 with (first
    | (go_at_call 7; ((with_reducible refine A0.mono ?_); clear A0; rintro e w0 ⟨rfl, h0⟩))
    | (go_at_call 8; ((with_reducible refine (H1.out _).mono ?_); rintro e w1 ⟨rfl, h1q⟩)))
  obtain ⟨W2, hW2⟩ : ∃ W2, w1.alloc (.cells #[.string ⟨sh.name.toArray⟩, .int .i64 sh.takes, .int .i64 sh.leaves, .int .i64 sh.cost, .bool sh.hasA, .bool sh.hasN] 24) = W2 := ⟨_, rfl⟩
  have hg2 : W2.heap[w1.heap.size]? = some (.cells #[.string ⟨sh.name.toArray⟩, .int .i64 sh.takes, .int .i64 sh.leaves, .int .i64 sh.cost, .bool sh.hasA, .bool sh.hasN] 24 (0, 0)) := by rw [← hW2]; exact heap_alloc_new w1 _
  have hb2 : Below w1.heap.size w1 W2 := by rw [← hW2]; exact (Below.refl _ _).alloc (Nat.le_refl _) _
  have hlt2 : w1.heap.size < W2.heap.size := (Array.getElem?_eq_some_iff.1 hg2).1
  have hbw1 := h0.trans (h1q.mono h0.size)
  have hbw : Below w.heap.size w W2 := hbw1.trans (hb2.mono hbw1.size)
  rw [hW2]
  obtain ⟨G, hG⟩ : ∃ G, w1.heap.size = G := ⟨_, rfl⟩
  rw [hG] at hg2 hlt2 ⊢
  have K : ∀ W, Below W2.heap.size W2 W → (fun W => W.cell? ⟨G, 0, none⟩ = some (.string ⟨sh.name.toArray⟩) ∧ W.cell? ⟨G, 1, none⟩ = some (.int .i64 sh.takes) ∧ W.cell? ⟨G, 2, none⟩ = some (.int .i64 sh.leaves) ∧ W.cell? ⟨G, 3, none⟩ = some (.int .i64 sh.cost) ∧ Below W2.heap.size W2 W) W := fun W h => by
    have hq := (h.block _ hlt2).trans hg2
    refine ⟨?_, ?_, ?_, ?_, h⟩
    · rw [cell_of_heap hq]; rfl
    · rw [cell_of_heap hq]; rfl
    · rw [cell_of_heap hq]; rfl
    · rw [cell_of_heap hq]; rfl
  have D2 := fun wx (h : Below W2.heap.size W2 wx) => (A2 wx (hbw.trans (h.mono hbw.size))).mono fun e w' hw => (show e = _ ∧ (fun W => W.cell? ⟨G, 0, none⟩ = some (.string ⟨sh.name.toArray⟩) ∧ W.cell? ⟨G, 1, none⟩ = some (.int .i64 sh.takes) ∧ W.cell? ⟨G, 2, none⟩ = some (.int .i64 sh.leaves) ∧ W.cell? ⟨G, 3, none⟩ = some (.int .i64 sh.cost) ∧ Below W2.heap.size W2 W) w' from ⟨hw.1, K w' (h.trans (hw.2.mono h.size))⟩)
  have D3 := fun wx (h : Below W2.heap.size W2 wx) => (A3 wx (hbw.trans (h.mono hbw.size))).mono fun e w' hw => (show e = _ ∧ (fun W => W.cell? ⟨G, 0, none⟩ = some (.string ⟨sh.name.toArray⟩) ∧ W.cell? ⟨G, 1, none⟩ = some (.int .i64 sh.takes) ∧ W.cell? ⟨G, 2, none⟩ = some (.int .i64 sh.leaves) ∧ W.cell? ⟨G, 3, none⟩ = some (.int .i64 sh.cost) ∧ Below W2.heap.size W2 W) w' from ⟨hw.1, K w' (h.trans (hw.2.mono h.size))⟩)
  have D4 := fun wx (h : Below W2.heap.size W2 wx) => (A4 wx (hbw.trans (h.mono hbw.size))).mono fun e w' hw => (show e = _ ∧ (fun W => W.cell? ⟨G, 0, none⟩ = some (.string ⟨sh.name.toArray⟩) ∧ W.cell? ⟨G, 1, none⟩ = some (.int .i64 sh.takes) ∧ W.cell? ⟨G, 2, none⟩ = some (.int .i64 sh.leaves) ∧ W.cell? ⟨G, 3, none⟩ = some (.int .i64 sh.cost) ∧ Below W2.heap.size W2 W) w' from ⟨hw.1, K w' (h.trans (hw.2.mono h.size))⟩)
  have D5 := fun wx (h : Below W2.heap.size W2 wx) => (A5 wx (hbw.trans (h.mono hbw.size))).mono fun e w' hw => (show e = _ ∧ (fun W => W.cell? ⟨G, 0, none⟩ = some (.string ⟨sh.name.toArray⟩) ∧ W.cell? ⟨G, 1, none⟩ = some (.int .i64 sh.takes) ∧ W.cell? ⟨G, 2, none⟩ = some (.int .i64 sh.leaves) ∧ W.cell? ⟨G, 3, none⟩ = some (.int .i64 sh.cost) ∧ Below W2.heap.size W2 W) w' from ⟨hw.1, K w' (h.trans (hw.2.mono h.size))⟩)
  have D6 := fun wx (h : Below W2.heap.size W2 wx) => (A6 wx (hbw.trans (h.mono hbw.size))).mono fun e w' hw => (show e = _ ∧ (fun W => W.cell? ⟨G, 0, none⟩ = some (.string ⟨sh.name.toArray⟩) ∧ W.cell? ⟨G, 1, none⟩ = some (.int .i64 sh.takes) ∧ W.cell? ⟨G, 2, none⟩ = some (.int .i64 sh.leaves) ∧ W.cell? ⟨G, 3, none⟩ = some (.int .i64 sh.cost) ∧ Below W2.heap.size W2 W) w' from ⟨hw.1, K w' (h.trans (hw.2.mono h.size))⟩)
  have D7 := fun wx (h : Below W2.heap.size W2 wx) => (A7 wx).mono fun e w' hw => (show e = _ ∧ (fun W => W.cell? ⟨G, 0, none⟩ = some (.string ⟨sh.name.toArray⟩) ∧ W.cell? ⟨G, 1, none⟩ = some (.int .i64 sh.takes) ∧ W.cell? ⟨G, 2, none⟩ = some (.int .i64 sh.leaves) ∧ W.cell? ⟨G, 3, none⟩ = some (.int .i64 sh.cost) ∧ Below W2.heap.size W2 W) w' from ⟨hw.1, K w' (by rw [← hw.2]; exact h)⟩)
  have E2 := Lib.hid D2
  have E3 := Lib.hid D3
  have E4 := Lib.hid D4
  have E5 := Lib.hid D5
  have E6 := Lib.hid D6
  have E7 := Lib.hid D7
  have HF := Lib.hid hbw
  clear hW2 hG
  go_upto_region 4 with fail
  obtain ⟨y0, y1, y2, y3, y4⟩ := K W2.drew (Below.refl _ W2).drew
  clear D2 D3 D4 D5 D6 D7 A2 A3 A4 A5 A6 A7 K hg2 hb2 hlt2 hbw hbw1 h0 h1q
  go_region_held3 (fun W => W.cell? ⟨G, 0, none⟩ = some (.string ⟨sh.name.toArray⟩) ∧ W.cell? ⟨G, 1, none⟩ = some (.int .i64 sh.takes) ∧ W.cell? ⟨G, 2, none⟩ = some (.int .i64 sh.leaves) ∧ W.cell? ⟨G, 3, none⟩ = some (.int .i64 sh.cost) ∧ Below W2.heap.size W2 W)
    (first | exact ⟨y0, y1, y2, y3, y4⟩ | go_keep)
    (first
      | (go_at_call 11; refine (E2.out _ (by assumption)).mono ?_; rintro e w3 ⟨rfl, y0, y1, y2, y3, y4⟩)
      | (go_at_call 12; refine (E3.out _ (by assumption)).mono ?_; rintro e w3 ⟨rfl, y0, y1, y2, y3, y4⟩)
      | (go_at_call 13; refine (E4.out _ (by assumption)).mono ?_; rintro e w3 ⟨rfl, y0, y1, y2, y3, y4⟩)
      | (go_at_call 10; refine (E5.out _ (by assumption)).mono ?_; rintro e w3 ⟨rfl, y0, y1, y2, y3, y4⟩)
      | (go_at_call 14; refine (E6.out _ (by assumption)).mono ?_; rintro e w3 ⟨rfl, y0, y1, y2, y3, y4⟩)
      | (go_at_call 9; refine (E7.out _ (by assumption)).mono ?_; rintro e w3 ⟨rfl, y0, y1, y2, y3, y4⟩))
  go_wp2
  go_ret
  exact ⟨by rw [show IntKind.i64.wrap ((IntKind.i64.wrap ((sh.cost : Int) + 1)).tdiv 2) = ((sh.cost : Int) + 1) / 2 by
    rw [IntWalk.i64_in ((sh.cost : Int) + 1) (by omega), Int.tdiv_eq_ediv_of_nonneg (by omega)]; exact IntWalk.i64_in _ (by omega)]; simp, HF.out.trans (y4.mono HF.out.size)⟩

set_option maxHeartbeats 8000000 in
set_option maxRecDepth 100000 in
theorem tells_hi (op : Int) (lo : Nat) (w : World) (ht : CT lo w) (h1 : 25 < op) :
    Calls Tryd.prog 3 #[.int .i64 op] w fun e w' => e = .returned (.bool true) ∧ Below w.heap.size w w' := by
  have hk : knownB op = false := by unfold knownB; simp; omega
  obtain ⟨t1, t2, t3, _⟩ := kd_ok op
  obtain ⟨sh, hsh⟩ : ∃ sh, kdOf op = sh := ⟨_, rfl⟩
  have A0 := shown_any lo w ht
  have A1 := fun wx => of_any op sh hsh wx
  have A2 := fun wx (h : Below w.heap.size w wx) => takes_any op lo wx (ht.step h)
  have A3 := fun wx (h : Below w.heap.size w wx) => leaves_any op lo wx (ht.step h)
  have A4 := fun wx (h : Below w.heap.size w wx) => cost_any op lo wx (ht.step h)
  have A5 := fun wx (h : Below w.heap.size w wx) => name_any op lo wx (ht.step h)
  have A6 := fun wx (h : Below w.heap.size w wx) => fast_any op lo wx (ht.step h)
  have A7 := fun wx => known_any op wx
  rw [hk] at A7
  rw [hsh] at A2 A3 A4 A5 A6 t1 t2 t3
  have g1 : decide ((1 : Int) ≤ op) = true := decide_eq_true (by omega)
  have g2 : decide (op ≤ 25) = false := decide_eq_false (by omega)
  have H1 := Lib.hid A1
  have HK := Lib.hid hk
  clear A1 hk hsh
  go_enter Tryd.func3, Tryd.ntmps3
  go_upto_region 3 with (first
    | (go_at_call 7; ((with_reducible refine A0.mono ?_); clear A0; rintro e w0 ⟨rfl, h0⟩))
    | (go_at_call 8; ((with_reducible refine (H1.out _).mono ?_); rintro e w1 ⟨rfl, h1q⟩)))
  obtain ⟨W2, hW2⟩ : ∃ W2, w1.alloc (.cells #[.string ⟨sh.name.toArray⟩, .int .i64 sh.takes, .int .i64 sh.leaves, .int .i64 sh.cost, .bool sh.hasA, .bool sh.hasN] 24) = W2 := ⟨_, rfl⟩
  have hg2 : W2.heap[w1.heap.size]? = some (.cells #[.string ⟨sh.name.toArray⟩, .int .i64 sh.takes, .int .i64 sh.leaves, .int .i64 sh.cost, .bool sh.hasA, .bool sh.hasN] 24 (0, 0)) := by rw [← hW2]; exact heap_alloc_new w1 _
  have hb2 : Below w1.heap.size w1 W2 := by rw [← hW2]; exact (Below.refl _ _).alloc (Nat.le_refl _) _
  have hlt2 : w1.heap.size < W2.heap.size := (Array.getElem?_eq_some_iff.1 hg2).1
  have hbw1 := h0.trans (h1q.mono h0.size)
  have hbw : Below w.heap.size w W2 := hbw1.trans (hb2.mono hbw1.size)
  rw [hW2]
  obtain ⟨G, hG⟩ : ∃ G, w1.heap.size = G := ⟨_, rfl⟩
  rw [hG] at hg2 hlt2 ⊢
  have K : ∀ W, Below W2.heap.size W2 W → (fun W => W.cell? ⟨G, 0, none⟩ = some (.string ⟨sh.name.toArray⟩) ∧ W.cell? ⟨G, 1, none⟩ = some (.int .i64 sh.takes) ∧ W.cell? ⟨G, 2, none⟩ = some (.int .i64 sh.leaves) ∧ W.cell? ⟨G, 3, none⟩ = some (.int .i64 sh.cost) ∧ Below W2.heap.size W2 W) W := fun W h => by
    have hq := (h.block _ hlt2).trans hg2
    refine ⟨?_, ?_, ?_, ?_, h⟩
    · rw [cell_of_heap hq]; rfl
    · rw [cell_of_heap hq]; rfl
    · rw [cell_of_heap hq]; rfl
    · rw [cell_of_heap hq]; rfl
  have D2 := fun wx (h : Below W2.heap.size W2 wx) => (A2 wx (hbw.trans (h.mono hbw.size))).mono fun e w' hw => (show e = _ ∧ (fun W => W.cell? ⟨G, 0, none⟩ = some (.string ⟨sh.name.toArray⟩) ∧ W.cell? ⟨G, 1, none⟩ = some (.int .i64 sh.takes) ∧ W.cell? ⟨G, 2, none⟩ = some (.int .i64 sh.leaves) ∧ W.cell? ⟨G, 3, none⟩ = some (.int .i64 sh.cost) ∧ Below W2.heap.size W2 W) w' from ⟨hw.1, K w' (h.trans (hw.2.mono h.size))⟩)
  have D3 := fun wx (h : Below W2.heap.size W2 wx) => (A3 wx (hbw.trans (h.mono hbw.size))).mono fun e w' hw => (show e = _ ∧ (fun W => W.cell? ⟨G, 0, none⟩ = some (.string ⟨sh.name.toArray⟩) ∧ W.cell? ⟨G, 1, none⟩ = some (.int .i64 sh.takes) ∧ W.cell? ⟨G, 2, none⟩ = some (.int .i64 sh.leaves) ∧ W.cell? ⟨G, 3, none⟩ = some (.int .i64 sh.cost) ∧ Below W2.heap.size W2 W) w' from ⟨hw.1, K w' (h.trans (hw.2.mono h.size))⟩)
  have D4 := fun wx (h : Below W2.heap.size W2 wx) => (A4 wx (hbw.trans (h.mono hbw.size))).mono fun e w' hw => (show e = _ ∧ (fun W => W.cell? ⟨G, 0, none⟩ = some (.string ⟨sh.name.toArray⟩) ∧ W.cell? ⟨G, 1, none⟩ = some (.int .i64 sh.takes) ∧ W.cell? ⟨G, 2, none⟩ = some (.int .i64 sh.leaves) ∧ W.cell? ⟨G, 3, none⟩ = some (.int .i64 sh.cost) ∧ Below W2.heap.size W2 W) w' from ⟨hw.1, K w' (h.trans (hw.2.mono h.size))⟩)
  have D5 := fun wx (h : Below W2.heap.size W2 wx) => (A5 wx (hbw.trans (h.mono hbw.size))).mono fun e w' hw => (show e = _ ∧ (fun W => W.cell? ⟨G, 0, none⟩ = some (.string ⟨sh.name.toArray⟩) ∧ W.cell? ⟨G, 1, none⟩ = some (.int .i64 sh.takes) ∧ W.cell? ⟨G, 2, none⟩ = some (.int .i64 sh.leaves) ∧ W.cell? ⟨G, 3, none⟩ = some (.int .i64 sh.cost) ∧ Below W2.heap.size W2 W) w' from ⟨hw.1, K w' (h.trans (hw.2.mono h.size))⟩)
  have D6 := fun wx (h : Below W2.heap.size W2 wx) => (A6 wx (hbw.trans (h.mono hbw.size))).mono fun e w' hw => (show e = _ ∧ (fun W => W.cell? ⟨G, 0, none⟩ = some (.string ⟨sh.name.toArray⟩) ∧ W.cell? ⟨G, 1, none⟩ = some (.int .i64 sh.takes) ∧ W.cell? ⟨G, 2, none⟩ = some (.int .i64 sh.leaves) ∧ W.cell? ⟨G, 3, none⟩ = some (.int .i64 sh.cost) ∧ Below W2.heap.size W2 W) w' from ⟨hw.1, K w' (h.trans (hw.2.mono h.size))⟩)
  have D7 := fun wx (h : Below W2.heap.size W2 wx) => (A7 wx).mono fun e w' hw => (show e = _ ∧ (fun W => W.cell? ⟨G, 0, none⟩ = some (.string ⟨sh.name.toArray⟩) ∧ W.cell? ⟨G, 1, none⟩ = some (.int .i64 sh.takes) ∧ W.cell? ⟨G, 2, none⟩ = some (.int .i64 sh.leaves) ∧ W.cell? ⟨G, 3, none⟩ = some (.int .i64 sh.cost) ∧ Below W2.heap.size W2 W) w' from ⟨hw.1, K w' (by rw [← hw.2]; exact h)⟩)
  have E2 := Lib.hid D2
  have E3 := Lib.hid D3
  have E4 := Lib.hid D4
  have E5 := Lib.hid D5
  have E6 := Lib.hid D6
  have E7 := Lib.hid D7
  have HF := Lib.hid hbw
  clear hW2 hG
  go_upto_region 4 with fail
  obtain ⟨y0, y1, y2, y3, y4⟩ := K W2.drew (Below.refl _ W2).drew
  clear D2 D3 D4 D5 D6 D7 A2 A3 A4 A5 A6 A7 K hg2 hb2 hlt2 hbw hbw1 h0 h1q
  go_region_held3 (fun W => W.cell? ⟨G, 0, none⟩ = some (.string ⟨sh.name.toArray⟩) ∧ W.cell? ⟨G, 1, none⟩ = some (.int .i64 sh.takes) ∧ W.cell? ⟨G, 2, none⟩ = some (.int .i64 sh.leaves) ∧ W.cell? ⟨G, 3, none⟩ = some (.int .i64 sh.cost) ∧ Below W2.heap.size W2 W)
    (first | exact ⟨y0, y1, y2, y3, y4⟩ | go_keep)
    (first
      | (go_at_call 11; refine (E2.out _ (by assumption)).mono ?_; rintro e w3 ⟨rfl, y0, y1, y2, y3, y4⟩)
      | (go_at_call 12; refine (E3.out _ (by assumption)).mono ?_; rintro e w3 ⟨rfl, y0, y1, y2, y3, y4⟩)
      | (go_at_call 13; refine (E4.out _ (by assumption)).mono ?_; rintro e w3 ⟨rfl, y0, y1, y2, y3, y4⟩)
      | (go_at_call 10; refine (E5.out _ (by assumption)).mono ?_; rintro e w3 ⟨rfl, y0, y1, y2, y3, y4⟩)
      | (go_at_call 14; refine (E6.out _ (by assumption)).mono ?_; rintro e w3 ⟨rfl, y0, y1, y2, y3, y4⟩)
      | (go_at_call 9; refine (E7.out _ (by assumption)).mono ?_; rintro e w3 ⟨rfl, y0, y1, y2, y3, y4⟩))
  go_wp2
  go_ret
  exact ⟨by rw [show IntKind.i64.wrap ((IntKind.i64.wrap ((sh.cost : Int) + 1)).tdiv 2) = ((sh.cost : Int) + 1) / 2 by
    rw [IntWalk.i64_in ((sh.cost : Int) + 1) (by omega), Int.tdiv_eq_ediv_of_nonneg (by omega)]; exact IntWalk.i64_in _ (by omega)]; simp, HF.out.trans (y4.mono HF.out.size)⟩

theorem tells_walk (op : Int) (lo : Nat) (w : World) (ht : CT lo w) :
    Calls Tryd.prog 3 #[.int .i64 op] w fun e w' => e = .returned (.bool true) ∧ Below w.heap.size w w' := by
  by_cases h1 : 1 ≤ op
  · by_cases h2 : op ≤ 25
    · exact tells_in op lo w ht h1 h2
    · exact tells_hi op lo w ht (by omega)
  · exact tells_lo op lo w ht (by omega)
end Go.Proofs.YtloimjmbbinnpaaDoor
