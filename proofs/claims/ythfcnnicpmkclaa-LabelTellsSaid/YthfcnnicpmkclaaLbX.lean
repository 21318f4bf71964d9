/-
  LabelTells, walked.
-/
import Derived.Test.YthfcnnicpmkclaaLbU
import Derived.Test.YthfcnnicpmkclaaLbW
namespace Go.Proofs.Ythfcnnicpmkclaa
open Go Go.RowKit Go.Lib

set_option maxRecDepth 100000 in
set_option maxHeartbeats 4000000 in
theorem tells_walk (v : Value) (p : Pg) (ve : Value) (op n : Int) (s : ByteArray) (l : ES) (w : World) (hv : PgV w.heap.size w v p) (ht : p.thin) (he : EsV w.heap.size w ve op n s l) :
    Calls Try.prog 3 #[v, ve] w fun e w' => e = .returned (.bool true) ∧ Fr w w' := by
  have hmx : Try.prog.follows .mixedOrders = true := by kernel_rfl
  have hv0 := hv
  obtain ⟨A, cap, Am, cm, rfl, _, _⟩ := hv
  obtain ⟨ve', rfl, he1, he2⟩ := he
  obtain ⟨A1, c1, rfl, _⟩ := id he1
  have C1 := Lib.hid (fun wx (h : Below w.heap.size w wx) => check_any _ p wx wx w.heap.size (Below.refl _ _) h.size (hv0.below h (Nat.le_refl _)) ht)
  have C2 := Lib.hid (fun wx (h : Below w.heap.size w wx) => rcheck_any _ p wx w.heap.size h.size (hv0.below h (Nat.le_refl _)))
  have O1 := Lib.hid (fun wx (h : Below w.heap.size w wx) => of_any op n s _ _ w.heap.size wx (he1.below h (Nat.le_refl _)) h.size he2.2.2)
  have O2 := Lib.hid (fun wx (h : Below w.heap.size w wx) => rof_any op n s _ _ w.heap.size wx (he1.below h (Nat.le_refl _)) h.size he2.2.2)
  have HS := Lib.hid shown_fr
  have hA : ∀ o o', Below w.heap.size w ((w.alloc o).alloc o') := fun o o' => (Fr.alloc (Fr.refl w) o).alloc o'
  have HA := Lib.hid hA; clear hA hv0 he1
  obtain ⟨nf, hnf⟩ : ∃ nf, p.fs.length = nf := ⟨_, rfl⟩
  obtain ⟨nm, hnm⟩ : ∃ nm, p.m.len = nm := ⟨_, rfl⟩
  obtain ⟨ln, hln⟩ : ∃ nm, l.len = nm := ⟨_, rfl⟩
  rw [hnf, hnm] at C1 C2 ⊢
  rw [hln] at O1 O2 ⊢
  clear hnf hnm hln
  obtain ⟨sc, hsc⟩ : ∃ x, secB op s l.sec = x := ⟨_, rfl⟩
  obtain ⟨er, her⟩ : ∃ x, errOf p.tells = x := ⟨_, rfl⟩
  rw [hsc] at O1 O2
  rw [her] at C1 C2
  clear hsc her
  go_enter Try.func3, Try.ntmps3
  go_upto_region 2 with (go_at_call 10; ((with_reducible refine (HS.out _).mono ?_); rintro e w1 ⟨rfl, hf1⟩))
  have q0 := (hf1.block w.heap.size (by simp only [World.size_alloc]; omega)).trans (old_at (heap_alloc_new w _))
  have q1 := (hf1.block (w.heap.size + 1) (by simp only [World.size_alloc]; omega)).trans (by have := heap_alloc_new (w.alloc (.cells #[.slice A nf cap, .slice Am nm cm] 25)) (.cells #[.int .i64 op, .int .i64 n, .string s, .slice A1 ln c1] 28); simpa only [World.size_alloc] using this)
  have f1 : Below w.heap.size w w1 := (HA.out _ _).trans (hf1.mono (by simp only [World.size_alloc]; omega))
  clear hf1 HA HS
  have hk0 := lt_heap q0
  have hk1 := lt_heap q1
  have K : ∀ W, Below w1.heap.size w1 W → (fun W => W.cell? ⟨w.heap.size, 0, none⟩ = some (.slice A nf cap) ∧ W.cell? ⟨w.heap.size, 1, none⟩ = some (.slice Am nm cm) ∧ W.cell? ⟨w.heap.size + 1, 0, none⟩ = some (.int .i64 op) ∧ W.cell? ⟨w.heap.size + 1, 1, none⟩ = some (.int .i64 n) ∧ W.cell? ⟨w.heap.size + 1, 2, none⟩ = some (.string s) ∧ W.cell? ⟨w.heap.size + 1, 3, none⟩ = some (.slice A1 ln c1) ∧ Below w1.heap.size w1 W) W := fun W h => by
    obtain ⟨a, b⟩ := box2 ((h.block _ hk0).trans q0)
    obtain ⟨c, d, e, f⟩ := box4 ((h.block _ hk1).trans q1)
    exact ⟨a, b, c, d, e, f, h⟩
  have D1 := fun wx (h : Below w1.heap.size w1 wx) => (C1.out wx (f1.trans (h.mono f1.size))).mono fun e w' hw => (show e = _ ∧ (fun W => W.cell? ⟨w.heap.size, 0, none⟩ = some (.slice A nf cap) ∧ W.cell? ⟨w.heap.size, 1, none⟩ = some (.slice Am nm cm) ∧ W.cell? ⟨w.heap.size + 1, 0, none⟩ = some (.int .i64 op) ∧ W.cell? ⟨w.heap.size + 1, 1, none⟩ = some (.int .i64 n) ∧ W.cell? ⟨w.heap.size + 1, 2, none⟩ = some (.string s) ∧ W.cell? ⟨w.heap.size + 1, 3, none⟩ = some (.slice A1 ln c1) ∧ Below w1.heap.size w1 W) w' from ⟨hw.1, K w' (h.trans (hw.2.mono h.size))⟩)
  have D2 := fun wx (h : Below w1.heap.size w1 wx) => (C2.out wx (f1.trans (h.mono f1.size))).mono fun e w' hw => (show e = _ ∧ (fun W => W.cell? ⟨w.heap.size, 0, none⟩ = some (.slice A nf cap) ∧ W.cell? ⟨w.heap.size, 1, none⟩ = some (.slice Am nm cm) ∧ W.cell? ⟨w.heap.size + 1, 0, none⟩ = some (.int .i64 op) ∧ W.cell? ⟨w.heap.size + 1, 1, none⟩ = some (.int .i64 n) ∧ W.cell? ⟨w.heap.size + 1, 2, none⟩ = some (.string s) ∧ W.cell? ⟨w.heap.size + 1, 3, none⟩ = some (.slice A1 ln c1) ∧ Below w1.heap.size w1 W) w' from ⟨hw.1, K w' (h.trans (hw.2.mono h.size))⟩)
  have D3 := fun wx (h : Below w1.heap.size w1 wx) => (O1.out wx (f1.trans (h.mono f1.size))).mono fun e w' hw => (show e = _ ∧ (fun W => W.cell? ⟨w.heap.size, 0, none⟩ = some (.slice A nf cap) ∧ W.cell? ⟨w.heap.size, 1, none⟩ = some (.slice Am nm cm) ∧ W.cell? ⟨w.heap.size + 1, 0, none⟩ = some (.int .i64 op) ∧ W.cell? ⟨w.heap.size + 1, 1, none⟩ = some (.int .i64 n) ∧ W.cell? ⟨w.heap.size + 1, 2, none⟩ = some (.string s) ∧ W.cell? ⟨w.heap.size + 1, 3, none⟩ = some (.slice A1 ln c1) ∧ Below w1.heap.size w1 W) w' from ⟨hw.1, K w' (h.trans (hw.2.mono h.size))⟩)
  have D4 := fun wx (h : Below w1.heap.size w1 wx) => (O2.out wx (f1.trans (h.mono f1.size))).mono fun e w' hw => (show e = _ ∧ (fun W => W.cell? ⟨w.heap.size, 0, none⟩ = some (.slice A nf cap) ∧ W.cell? ⟨w.heap.size, 1, none⟩ = some (.slice Am nm cm) ∧ W.cell? ⟨w.heap.size + 1, 0, none⟩ = some (.int .i64 op) ∧ W.cell? ⟨w.heap.size + 1, 1, none⟩ = some (.int .i64 n) ∧ W.cell? ⟨w.heap.size + 1, 2, none⟩ = some (.string s) ∧ W.cell? ⟨w.heap.size + 1, 3, none⟩ = some (.slice A1 ln c1) ∧ Below w1.heap.size w1 W) w' from ⟨hw.1, K w' (h.trans (hw.2.mono h.size))⟩)
  have HD1 := Lib.hid D1
  have HD2 := Lib.hid D2
  have HD3 := Lib.hid D3
  have HD4 := Lib.hid D4
  have HF := Lib.hid f1
  obtain ⟨y0, y1, y2, y3, y4, y5, y6⟩ := K w1.drew (Below.refl _ w1).drew
  clear D1 D2 D3 D4 K q0 q1 f1 C1 C2 O1 O2
  go_region_held3 (fun W => W.cell? ⟨w.heap.size, 0, none⟩ = some (.slice A nf cap) ∧ W.cell? ⟨w.heap.size, 1, none⟩ = some (.slice Am nm cm) ∧ W.cell? ⟨w.heap.size + 1, 0, none⟩ = some (.int .i64 op) ∧ W.cell? ⟨w.heap.size + 1, 1, none⟩ = some (.int .i64 n) ∧ W.cell? ⟨w.heap.size + 1, 2, none⟩ = some (.string s) ∧ W.cell? ⟨w.heap.size + 1, 3, none⟩ = some (.slice A1 ln c1) ∧ Below w1.heap.size w1 W)
    (first | exact ⟨y0, y1, y2, y3, y4, y5, y6⟩ | go_keep)
    (first
      | (go_at_call 11; refine (HD1.out _ (by assumption)).mono ?_; rintro e w2 ⟨rfl, y0, y1, y2, y3, y4, y5, y6⟩)
      | (go_at_call 12; refine (HD2.out _ (by assumption)).mono ?_; rintro e w2 ⟨rfl, y0, y1, y2, y3, y4, y5, y6⟩)
      | (go_at_call 13; refine (HD3.out _ (by assumption)).mono ?_; rintro e w2 ⟨rfl, y0, y1, y2, y3, y4, y5, y6⟩)
      | (go_at_call 14; refine (HD4.out _ (by assumption)).mono ?_; rintro e w2 ⟨rfl, y0, y1, y2, y3, y4, y5, y6⟩))
  go_wp2
  go_ret
  refine ⟨rfl, Below.trans HF.out (Below.mono ?_ HF.out.size)⟩
  assumption
end Go.Proofs.Ythfcnnicpmkclaa
