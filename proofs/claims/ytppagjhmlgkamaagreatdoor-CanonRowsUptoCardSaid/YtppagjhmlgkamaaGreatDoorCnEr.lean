/-
  expression, at each op.
-/
import Derived.Test.YtppagjhmlgkamaaGreatDoorCz5
import Derived.Test.YtppagjhmlgkamaaGreatDoorCnBr
import Derived.StillTailTactics
namespace Go.Proofs.YtppagjhmlgkamaaGreatDoor
open Go Go.RowKit Go.Lib

set_option maxHeartbeats 2000000 in
set_option maxRecDepth 100000 in
theorem expr_1 (n : Int) (s : ByteArray) (l : ES) (_hl : l.exok) : EXok 1 n s l := by
  intro lo b t k W v ht h hlo hv h4 hlen
  obtain ⟨A, cap, rfl, hc1, hc2, hrow⟩ := id hv
  rw [show exX 1 n s.data.toList l.txs = itoa n from rfl] at hlen ⊢
  try simp only [List.length_append] at hlen
  obtain ⟨C, hC⟩ : ∃ C : Obj, Obj.cells #[.int .i64 1, .int .i64 n, .string s, .slice A l.len cap] 38 = C := ⟨_, rfl⟩
  have hb2 : Below W.heap.size W (W.alloc C) := (Below.refl _ _).alloc (Nat.le_refl _) C
  have hg2 : (W.alloc C).heap[W.heap.size]? = some (.cells #[.int .i64 1, .int .i64 n, .string s, .slice A l.len cap] 38 (0, 0)) := by rw [hC]; exact heap_alloc_new W _
  have hbg : W.heap.size ≠ b := by have := h.lt; omega
  have hw2 : Wrote lo b W t k (W.alloc C) := (Wrote.refl h).below hb2 hlo
  have hlow2 := hw2.lo hlo
  have hT := text_any lo n (W.alloc C) (ht.on hw2.bl) h4.2.1
  subst hC
  go_enter Tryz.func36, Tryz.ntmps36
  go_wp2_with (first
    | (go_at_call 66; ((with_reducible refine hT.mono ?_); clear hT; rintro e w2 ⟨rfl, h2⟩; have hw3 := hw2.below h2 hlow2; have ha := add_one lo b _ k ⟨(itoa n).toArray⟩ w2 hw3.ws (hw3.lo hlo) hlen))
    | (go_at_call 42; ((with_reducible refine ha.mono ?_); rintro e w3 ⟨rfl, h3⟩)))
  go_end0
  exact ⟨rfl, hw3.trans h3⟩

set_option maxHeartbeats 2000000 in
set_option maxRecDepth 100000 in
theorem expr_2 (n : Int) (s : ByteArray) (l : ES) (_hl : l.exok) : EXok 2 n s l := by
  intro lo b t k W v ht h hlo hv h4 hlen
  obtain ⟨A, cap, rfl, hc1, hc2, hrow⟩ := id hv
  rw [show exX 2 n s.data.toList l.txs = s.data.toList from rfl] at hlen ⊢
  try simp only [List.length_append] at hlen
  obtain ⟨C, hC⟩ : ∃ C : Obj, Obj.cells #[.int .i64 2, .int .i64 n, .string s, .slice A l.len cap] 38 = C := ⟨_, rfl⟩
  have hb2 : Below W.heap.size W (W.alloc C) := (Below.refl _ _).alloc (Nat.le_refl _) C
  have hg2 : (W.alloc C).heap[W.heap.size]? = some (.cells #[.int .i64 2, .int .i64 n, .string s, .slice A l.len cap] 38 (0, 0)) := by rw [hC]; exact heap_alloc_new W _
  have hbg : W.heap.size ≠ b := by have := h.lt; omega
  have hw2 : Wrote lo b W t k (W.alloc C) := (Wrote.refl h).below hb2 hlo
  have hlow2 := hw2.lo hlo
  have ha := add_one lo b _ k s (W.alloc C) hw2.ws hlow2 hlen
  simp only [World.size_alloc] at ha
  subst hC
  go_enter Tryz.func36, Tryz.ntmps36
  go_wp2_with (go_at_call 42; ((with_reducible refine ha.mono ?_); rintro e w3 ⟨rfl, h3⟩))
  go_end0
  exact ⟨rfl, hw2.trans h3⟩

set_option maxHeartbeats 2000000 in
set_option maxRecDepth 100000 in
theorem expr_3 (n : Int) (s : ByteArray) (l : ES) (_hl : l.exok) : EXok 3 n s l := by
  intro lo b t k W v ht h hlo hv h4 hlen
  obtain ⟨A, cap, rfl, hc1, hc2, hrow⟩ := id hv
  rw [show exX 3 n s.data.toList l.txs = [99, 108, 111, 99, 107] from rfl] at hlen ⊢
  try simp only [List.length_append] at hlen
  obtain ⟨C, hC⟩ : ∃ C : Obj, Obj.cells #[.int .i64 3, .int .i64 n, .string s, .slice A l.len cap] 38 = C := ⟨_, rfl⟩
  have hb2 : Below W.heap.size W (W.alloc C) := (Below.refl _ _).alloc (Nat.le_refl _) C
  have hg2 : (W.alloc C).heap[W.heap.size]? = some (.cells #[.int .i64 3, .int .i64 n, .string s, .slice A l.len cap] 38 (0, 0)) := by rw [hC]; exact heap_alloc_new W _
  have hbg : W.heap.size ≠ b := by have := h.lt; omega
  have hw2 : Wrote lo b W t k (W.alloc C) := (Wrote.refl h).below hb2 hlo
  have hlow2 := hw2.lo hlo
  have ha := add_one lo b _ k ⟨#[99, 108, 111, 99, 107]⟩ (W.alloc C) hw2.ws hlow2 hlen
  simp only [World.size_alloc] at ha
  subst hC
  go_enter Tryz.func36, Tryz.ntmps36
  go_wp2_with (go_at_call 42; ((with_reducible refine ha.mono ?_); rintro e w3 ⟨rfl, h3⟩))
  go_end0
  exact ⟨rfl, hw2.trans h3⟩

set_option maxHeartbeats 2000000 in
set_option maxRecDepth 100000 in
theorem expr_4 (n : Int) (s : ByteArray) (l : ES) (hl : l.exok) : EXok 4 n s l := by
  intro lo b t k W v ht h hlo hv h4 hlen
  obtain ⟨A, cap, rfl, hc1, hc2, hrow⟩ := id hv
  rw [show exX 4 n s.data.toList l.txs = s.data.toList ++ ([91] ++ gapT [44, 32] l.txs ++ [93]) from rfl] at hlen ⊢
  try simp only [List.length_append] at hlen
  obtain ⟨C, hC⟩ : ∃ C : Obj, Obj.cells #[.int .i64 4, .int .i64 n, .string s, .slice A l.len cap] 38 = C := ⟨_, rfl⟩
  have hb2 : Below W.heap.size W (W.alloc C) := (Below.refl _ _).alloc (Nat.le_refl _) C
  have hg2 : (W.alloc C).heap[W.heap.size]? = some (.cells #[.int .i64 4, .int .i64 n, .string s, .slice A l.len cap] 38 (0, 0)) := by rw [hC]; exact heap_alloc_new W _
  have hbg : W.heap.size ≠ b := by have := h.lt; omega
  have hw2 : Wrote lo b W t k (W.alloc C) := (Wrote.refl h).below hb2 hlo
  have hlow2 := hw2.lo hlo
  have ha := add_one lo b _ k s (W.alloc C) hw2.ws hlow2 (by omega)
  simp only [World.size_alloc] at ha
  have HS : Hid (∀ w2, Wrote lo b W (t ++ s.data.toList) k w2 → Calls Tryz.prog 67 #[used b, .string ⟨#[91]⟩, .string ⟨#[44, 32]⟩, .slice A l.len cap, .string ⟨#[93]⟩] w2 fun e w' => e = .returned (.tuple #[]) ∧ Wrote lo b w2 (t ++ s.data.toList ++ ([91] ++ gapT [44, 32] l.txs ++ [93])) k w') :=
    hid fun w2 hw => cn_several_any l hl lo b _ k w2 A cap ⟨#[91]⟩ ⟨#[44, 32]⟩ ⟨#[93]⟩ (ht.on hw.bl) hw.ws (hw.lo hlo) (EV.below hv hw.bl (Nat.le_refl _)) (by simp only [List.length_append]; exact (Nat.add_assoc _ _ _).symm ▸ hlen)
  subst hC
  go_enter Tryz.func36, Tryz.ntmps36
  go_wp2_with (first
    | (go_at_call 42; ((with_reducible refine ha.mono ?_); clear ha; rintro e w2 ⟨rfl, h2⟩; obtain ⟨e0, e1, e2, e3⟩ := kept4 h2.ok hg2 hbg; have hq := HS.out _ (hw2.trans h2)))
    | (go_at_call 67; ((with_reducible refine hq.mono ?_); rintro e w3 ⟨rfl, h3⟩)))
  go_end0
  exact ⟨rfl, by rw [← List.append_assoc]; exact (hw2.trans h2).trans h3⟩

set_option maxHeartbeats 2000000 in
set_option maxRecDepth 100000 in
theorem expr_5 (n : Int) (s : ByteArray) (l : ES) (hl : l.exok) : EXok 5 n s l := by
  intro lo b t k W v ht h hlo hv h4 hlen
  obtain ⟨A, cap, rfl, hc1, hc2, hrow⟩ := id hv
  rw [show exX 5 n s.data.toList l.txs = s.data.toList ++ ([40] ++ gapT [44, 32] l.txs ++ [41]) from rfl] at hlen ⊢
  try simp only [List.length_append] at hlen
  obtain ⟨C, hC⟩ : ∃ C : Obj, Obj.cells #[.int .i64 5, .int .i64 n, .string s, .slice A l.len cap] 38 = C := ⟨_, rfl⟩
  have hb2 : Below W.heap.size W (W.alloc C) := (Below.refl _ _).alloc (Nat.le_refl _) C
  have hg2 : (W.alloc C).heap[W.heap.size]? = some (.cells #[.int .i64 5, .int .i64 n, .string s, .slice A l.len cap] 38 (0, 0)) := by rw [hC]; exact heap_alloc_new W _
  have hbg : W.heap.size ≠ b := by have := h.lt; omega
  have hw2 : Wrote lo b W t k (W.alloc C) := (Wrote.refl h).below hb2 hlo
  have hlow2 := hw2.lo hlo
  have ha := add_one lo b _ k s (W.alloc C) hw2.ws hlow2 (by omega)
  simp only [World.size_alloc] at ha
  have HS : Hid (∀ w2, Wrote lo b W (t ++ s.data.toList) k w2 → Calls Tryz.prog 67 #[used b, .string ⟨#[40]⟩, .string ⟨#[44, 32]⟩, .slice A l.len cap, .string ⟨#[41]⟩] w2 fun e w' => e = .returned (.tuple #[]) ∧ Wrote lo b w2 (t ++ s.data.toList ++ ([40] ++ gapT [44, 32] l.txs ++ [41])) k w') :=
    hid fun w2 hw => cn_several_any l hl lo b _ k w2 A cap ⟨#[40]⟩ ⟨#[44, 32]⟩ ⟨#[41]⟩ (ht.on hw.bl) hw.ws (hw.lo hlo) (EV.below hv hw.bl (Nat.le_refl _)) (by simp only [List.length_append]; exact (Nat.add_assoc _ _ _).symm ▸ hlen)
  subst hC
  go_enter Tryz.func36, Tryz.ntmps36
  go_wp2_with (first
    | (go_at_call 42; ((with_reducible refine ha.mono ?_); clear ha; rintro e w2 ⟨rfl, h2⟩; obtain ⟨e0, e1, e2, e3⟩ := kept4 h2.ok hg2 hbg; have hq := HS.out _ (hw2.trans h2)))
    | (go_at_call 67; ((with_reducible refine hq.mono ?_); rintro e w3 ⟨rfl, h3⟩)))
  go_end0
  exact ⟨rfl, by rw [← List.append_assoc]; exact (hw2.trans h2).trans h3⟩

set_option maxHeartbeats 2000000 in
set_option maxRecDepth 100000 in
theorem expr_6 (n : Int) (s : ByteArray) (l : ES) (hl : l.exok) (h1 : 1 ≤ l.len) : EXok 6 n s l := by
  intro lo b t k W v ht h hlo hv h4 hlen
  obtain ⟨A, cap, rfl, hc1, hc2, hrow⟩ := id hv
  rw [show exX 6 n s.data.toList l.txs = [45] ++ hdT' l.txs from rfl] at hlen ⊢
  try simp only [List.length_append] at hlen
  obtain ⟨C, hC⟩ : ∃ C : Obj, Obj.cells #[.int .i64 6, .int .i64 n, .string s, .slice A l.len cap] 38 = C := ⟨_, rfl⟩
  have hb2 : Below W.heap.size W (W.alloc C) := (Below.refl _ _).alloc (Nat.le_refl _) C
  have hg2 : (W.alloc C).heap[W.heap.size]? = some (.cells #[.int .i64 6, .int .i64 n, .string s, .slice A l.len cap] 38 (0, 0)) := by rw [hC]; exact heap_alloc_new W _
  have hbg : W.heap.size ≠ b := by have := h.lt; omega
  have hw2 : Wrote lo b W t k (W.alloc C) := (Wrote.refl h).below hb2 hlo
  have hlow2 := hw2.lo hlo
  have ha := add_one lo b _ k ⟨#[45]⟩ (W.alloc C) hw2.ws hlow2 (by simp only [List.length_cons, List.length_nil] at hlen ⊢; omega)
  simp only [World.size_alloc] at ha
  cases l with
  | nil => exact absurd h1 (by decide)
  | cons op1 n1 s1 l1 r1 =>
    obtain ⟨bo, o, rfl, hbo, c0, c1, c2, ⟨v3, c3, h3⟩, h5, _⟩ := hrow (by simp [ES.len])
    obtain ⟨A3, cap3, rfl, _⟩ := id h3
    have HS : Hid (∀ w2, Wrote lo b W (t ++ [45]) k w2 → Calls Tryz.prog 36 #[used b, exV op1 n1 s1 (.slice A3 l1.len cap3)] w2 fun e w' => e = .returned (.tuple #[]) ∧ Wrote lo b w2 (t ++ [45] ++ exX op1 n1 s1.data.toList l1.txs) k w') :=
      hid fun w2 hw => hl.1 lo b _ k w2 _ (ht.on hw.bl) hw.ws (hw.lo hlo) (EV.below h3 hw.bl (Nat.le_refl _)) h5 (by simp only [List.length_append]; exact (Nat.add_assoc _ _ _).symm ▸ hlen)
    obtain ⟨len, hln⟩ : ∃ len, (ES.cons op1 n1 s1 l1 r1).len = len := ⟨_, rfl⟩
    rw [hln] at hC hg2 hc1 h1 ⊢
    clear hln
    have hbz : bo < W.heap.size := Nat.lt_of_lt_of_le hbo hlo
    subst hC
    go_enter Tryz.func36, Tryz.ntmps36
    go_wp2_with (first
      | (go_at_call 42; ((with_reducible refine ha.mono ?_); clear ha; rintro e w2 ⟨rfl, h2⟩; obtain ⟨e0, e1, e2, e3⟩ := kept4 h2.ok hg2 hbg; have hw3 := hw2.trans h2; have hq := HS.out _ hw3; have d0 := (hw3.bl.cell (p := ⟨bo, o, none⟩) hbo).trans c0; have d1 := (hw3.bl.cell (p := ⟨bo, o + 1, none⟩) hbo).trans c1; have d2 := (hw3.bl.cell (p := ⟨bo, o + 2, none⟩) hbo).trans c2; have d3 := (hw3.bl.cell (p := ⟨bo, o + 3, none⟩) hbo).trans c3))
      | (go_at_call 36; ((with_reducible refine hq.mono ?_); rintro e w3 ⟨rfl, h3q⟩)))
    go_end0
    exact ⟨rfl, by have := hw3.trans h3q; rw [List.append_assoc] at this; exact this⟩

set_option maxHeartbeats 2000000 in
set_option maxRecDepth 100000 in
theorem expr_7 (n : Int) (s : ByteArray) (l : ES) (hl : l.exok) (h1 : 1 ≤ l.len) : EXok 7 n s l := by
  intro lo b t k W v ht h hlo hv h4 hlen
  obtain ⟨A, cap, rfl, hc1, hc2, hrow⟩ := id hv
  rw [show exX 7 n s.data.toList l.txs = [33] ++ hdT' l.txs from rfl] at hlen ⊢
  try simp only [List.length_append] at hlen
  obtain ⟨C, hC⟩ : ∃ C : Obj, Obj.cells #[.int .i64 7, .int .i64 n, .string s, .slice A l.len cap] 38 = C := ⟨_, rfl⟩
  have hb2 : Below W.heap.size W (W.alloc C) := (Below.refl _ _).alloc (Nat.le_refl _) C
  have hg2 : (W.alloc C).heap[W.heap.size]? = some (.cells #[.int .i64 7, .int .i64 n, .string s, .slice A l.len cap] 38 (0, 0)) := by rw [hC]; exact heap_alloc_new W _
  have hbg : W.heap.size ≠ b := by have := h.lt; omega
  have hw2 : Wrote lo b W t k (W.alloc C) := (Wrote.refl h).below hb2 hlo
  have hlow2 := hw2.lo hlo
  have ha := add_one lo b _ k ⟨#[33]⟩ (W.alloc C) hw2.ws hlow2 (by simp only [List.length_cons, List.length_nil] at hlen ⊢; omega)
  simp only [World.size_alloc] at ha
  cases l with
  | nil => exact absurd h1 (by decide)
  | cons op1 n1 s1 l1 r1 =>
    obtain ⟨bo, o, rfl, hbo, c0, c1, c2, ⟨v3, c3, h3⟩, h5, _⟩ := hrow (by simp [ES.len])
    obtain ⟨A3, cap3, rfl, _⟩ := id h3
    have HS : Hid (∀ w2, Wrote lo b W (t ++ [33]) k w2 → Calls Tryz.prog 36 #[used b, exV op1 n1 s1 (.slice A3 l1.len cap3)] w2 fun e w' => e = .returned (.tuple #[]) ∧ Wrote lo b w2 (t ++ [33] ++ exX op1 n1 s1.data.toList l1.txs) k w') :=
      hid fun w2 hw => hl.1 lo b _ k w2 _ (ht.on hw.bl) hw.ws (hw.lo hlo) (EV.below h3 hw.bl (Nat.le_refl _)) h5 (by simp only [List.length_append]; exact (Nat.add_assoc _ _ _).symm ▸ hlen)
    obtain ⟨len, hln⟩ : ∃ len, (ES.cons op1 n1 s1 l1 r1).len = len := ⟨_, rfl⟩
    rw [hln] at hC hg2 hc1 h1 ⊢
    clear hln
    have hbz : bo < W.heap.size := Nat.lt_of_lt_of_le hbo hlo
    subst hC
    go_enter Tryz.func36, Tryz.ntmps36
    go_wp2_with (first
      | (go_at_call 42; ((with_reducible refine ha.mono ?_); clear ha; rintro e w2 ⟨rfl, h2⟩; obtain ⟨e0, e1, e2, e3⟩ := kept4 h2.ok hg2 hbg; have hw3 := hw2.trans h2; have hq := HS.out _ hw3; have d0 := (hw3.bl.cell (p := ⟨bo, o, none⟩) hbo).trans c0; have d1 := (hw3.bl.cell (p := ⟨bo, o + 1, none⟩) hbo).trans c1; have d2 := (hw3.bl.cell (p := ⟨bo, o + 2, none⟩) hbo).trans c2; have d3 := (hw3.bl.cell (p := ⟨bo, o + 3, none⟩) hbo).trans c3))
      | (go_at_call 36; ((with_reducible refine hq.mono ?_); rintro e w3 ⟨rfl, h3q⟩)))
    go_end0
    exact ⟨rfl, by have := hw3.trans h3q; rw [List.append_assoc] at this; exact this⟩

set_option maxHeartbeats 2000000 in
set_option maxRecDepth 100000 in
theorem expr_8 (n : Int) (s : ByteArray) (l : ES) (hl : l.exok) : EXok 8 n s l := by
  intro lo b t k W v ht h hlo hv h4 hlen
  obtain ⟨A, cap, rfl, hc1, hc2, hrow⟩ := id hv
  rw [show exX 8 n s.data.toList l.txs = [40] ++ gapT [32, 43, 32] l.txs ++ [41] from rfl] at hlen ⊢
  try simp only [List.length_append] at hlen
  obtain ⟨C, hC⟩ : ∃ C : Obj, Obj.cells #[.int .i64 8, .int .i64 n, .string s, .slice A l.len cap] 38 = C := ⟨_, rfl⟩
  have hb2 : Below W.heap.size W (W.alloc C) := (Below.refl _ _).alloc (Nat.le_refl _) C
  have hg2 : (W.alloc C).heap[W.heap.size]? = some (.cells #[.int .i64 8, .int .i64 n, .string s, .slice A l.len cap] 38 (0, 0)) := by rw [hC]; exact heap_alloc_new W _
  have hbg : W.heap.size ≠ b := by have := h.lt; omega
  have hw2 : Wrote lo b W t k (W.alloc C) := (Wrote.refl h).below hb2 hlo
  have hlow2 := hw2.lo hlo
  have HS : Hid (∀ w2, Wrote lo b W t k w2 → Calls Tryz.prog 67 #[used b, .string ⟨#[40]⟩, .string ⟨#[32, 43, 32]⟩, .slice A l.len cap, .string ⟨#[41]⟩] w2 fun e w' => e = .returned (.tuple #[]) ∧ Wrote lo b w2 (t ++ ([40] ++ gapT [32, 43, 32] l.txs ++ [41])) k w') :=
    hid fun w2 hw => cn_several_any l hl lo b _ k w2 A cap ⟨#[40]⟩ ⟨#[32, 43, 32]⟩ ⟨#[41]⟩ (ht.on hw.bl) hw.ws (hw.lo hlo) (EV.below hv hw.bl (Nat.le_refl _)) (by simp only [List.length_append]; exact hlen)
  have hbt : (W.alloc C).cell? ⟨0, 8, none⟩ = some (.string ⟨#[32, 43, 32]⟩) := (ht.on hw2.bl).bet 8 (by decide)
  have hsz0 : 0 < (W.alloc C).heap.size := Nat.lt_of_lt_of_le (Nat.lt_of_lt_of_le (by decide) ht.le) hlow2
  obtain ⟨d0, d1, d2, d3⟩ := kept4 (OthersKept.refl 5 (some b) _) hg2 hbg
  obtain ⟨w2, hw2e⟩ : ∃ w2, W.alloc C = w2 := ⟨_, rfl⟩
  rw [hw2e] at hw2 hbt hsz0 d0 d1 d2 d3
  subst hC
  go_enter Tryz.func36, Tryz.ntmps36
  go_upto_region 2 with fail
  have hw3 := hw2.below (Below.drew (Below.refl _ w2)) (hw2.lo hlo)
  have hq := HS.out _ hw3
  go_still_tail 7, (by kernel_rfl)
  go_wp2_with (go_at_call 67; ((with_reducible refine hq.mono ?_); rintro e w4 ⟨rfl, h4q⟩))
  go_end0
  exact ⟨rfl, hw3.trans h4q⟩

set_option maxHeartbeats 2000000 in
set_option maxRecDepth 100000 in
theorem expr_9 (n : Int) (s : ByteArray) (l : ES) (hl : l.exok) : EXok 9 n s l := by
  intro lo b t k W v ht h hlo hv h4 hlen
  obtain ⟨A, cap, rfl, hc1, hc2, hrow⟩ := id hv
  rw [show exX 9 n s.data.toList l.txs = [40] ++ gapT [32, 45, 32] l.txs ++ [41] from rfl] at hlen ⊢
  try simp only [List.length_append] at hlen
  obtain ⟨C, hC⟩ : ∃ C : Obj, Obj.cells #[.int .i64 9, .int .i64 n, .string s, .slice A l.len cap] 38 = C := ⟨_, rfl⟩
  have hb2 : Below W.heap.size W (W.alloc C) := (Below.refl _ _).alloc (Nat.le_refl _) C
  have hg2 : (W.alloc C).heap[W.heap.size]? = some (.cells #[.int .i64 9, .int .i64 n, .string s, .slice A l.len cap] 38 (0, 0)) := by rw [hC]; exact heap_alloc_new W _
  have hbg : W.heap.size ≠ b := by have := h.lt; omega
  have hw2 : Wrote lo b W t k (W.alloc C) := (Wrote.refl h).below hb2 hlo
  have hlow2 := hw2.lo hlo
  have HS : Hid (∀ w2, Wrote lo b W t k w2 → Calls Tryz.prog 67 #[used b, .string ⟨#[40]⟩, .string ⟨#[32, 45, 32]⟩, .slice A l.len cap, .string ⟨#[41]⟩] w2 fun e w' => e = .returned (.tuple #[]) ∧ Wrote lo b w2 (t ++ ([40] ++ gapT [32, 45, 32] l.txs ++ [41])) k w') :=
    hid fun w2 hw => cn_several_any l hl lo b _ k w2 A cap ⟨#[40]⟩ ⟨#[32, 45, 32]⟩ ⟨#[41]⟩ (ht.on hw.bl) hw.ws (hw.lo hlo) (EV.below hv hw.bl (Nat.le_refl _)) (by simp only [List.length_append]; exact hlen)
  have hbt : (W.alloc C).cell? ⟨0, 9, none⟩ = some (.string ⟨#[32, 45, 32]⟩) := (ht.on hw2.bl).bet 9 (by decide)
  have hsz0 : 0 < (W.alloc C).heap.size := Nat.lt_of_lt_of_le (Nat.lt_of_lt_of_le (by decide) ht.le) hlow2
  obtain ⟨d0, d1, d2, d3⟩ := kept4 (OthersKept.refl 5 (some b) _) hg2 hbg
  obtain ⟨w2, hw2e⟩ : ∃ w2, W.alloc C = w2 := ⟨_, rfl⟩
  rw [hw2e] at hw2 hbt hsz0 d0 d1 d2 d3
  subst hC
  go_enter Tryz.func36, Tryz.ntmps36
  go_upto_region 2 with fail
  have hw3 := hw2.below (Below.drew (Below.refl _ w2)) (hw2.lo hlo)
  have hq := HS.out _ hw3
  go_still_tail 7, (by kernel_rfl)
  go_wp2_with (go_at_call 67; ((with_reducible refine hq.mono ?_); rintro e w4 ⟨rfl, h4q⟩))
  go_end0
  exact ⟨rfl, hw3.trans h4q⟩

set_option maxHeartbeats 2000000 in
set_option maxRecDepth 100000 in
theorem expr_10 (n : Int) (s : ByteArray) (l : ES) (hl : l.exok) : EXok 10 n s l := by
  intro lo b t k W v ht h hlo hv h4 hlen
  obtain ⟨A, cap, rfl, hc1, hc2, hrow⟩ := id hv
  rw [show exX 10 n s.data.toList l.txs = [40] ++ gapT [32, 42, 32] l.txs ++ [41] from rfl] at hlen ⊢
  try simp only [List.length_append] at hlen
  obtain ⟨C, hC⟩ : ∃ C : Obj, Obj.cells #[.int .i64 10, .int .i64 n, .string s, .slice A l.len cap] 38 = C := ⟨_, rfl⟩
  have hb2 : Below W.heap.size W (W.alloc C) := (Below.refl _ _).alloc (Nat.le_refl _) C
  have hg2 : (W.alloc C).heap[W.heap.size]? = some (.cells #[.int .i64 10, .int .i64 n, .string s, .slice A l.len cap] 38 (0, 0)) := by rw [hC]; exact heap_alloc_new W _
  have hbg : W.heap.size ≠ b := by have := h.lt; omega
  have hw2 : Wrote lo b W t k (W.alloc C) := (Wrote.refl h).below hb2 hlo
  have hlow2 := hw2.lo hlo
  have HS : Hid (∀ w2, Wrote lo b W t k w2 → Calls Tryz.prog 67 #[used b, .string ⟨#[40]⟩, .string ⟨#[32, 42, 32]⟩, .slice A l.len cap, .string ⟨#[41]⟩] w2 fun e w' => e = .returned (.tuple #[]) ∧ Wrote lo b w2 (t ++ ([40] ++ gapT [32, 42, 32] l.txs ++ [41])) k w') :=
    hid fun w2 hw => cn_several_any l hl lo b _ k w2 A cap ⟨#[40]⟩ ⟨#[32, 42, 32]⟩ ⟨#[41]⟩ (ht.on hw.bl) hw.ws (hw.lo hlo) (EV.below hv hw.bl (Nat.le_refl _)) (by simp only [List.length_append]; exact hlen)
  have hbt : (W.alloc C).cell? ⟨0, 10, none⟩ = some (.string ⟨#[32, 42, 32]⟩) := (ht.on hw2.bl).bet 10 (by decide)
  have hsz0 : 0 < (W.alloc C).heap.size := Nat.lt_of_lt_of_le (Nat.lt_of_lt_of_le (by decide) ht.le) hlow2
  obtain ⟨d0, d1, d2, d3⟩ := kept4 (OthersKept.refl 5 (some b) _) hg2 hbg
  obtain ⟨w2, hw2e⟩ : ∃ w2, W.alloc C = w2 := ⟨_, rfl⟩
  rw [hw2e] at hw2 hbt hsz0 d0 d1 d2 d3
  subst hC
  go_enter Tryz.func36, Tryz.ntmps36
  go_upto_region 2 with fail
  have hw3 := hw2.below (Below.drew (Below.refl _ w2)) (hw2.lo hlo)
  have hq := HS.out _ hw3
  go_still_tail 7, (by kernel_rfl)
  go_wp2_with (go_at_call 67; ((with_reducible refine hq.mono ?_); rintro e w4 ⟨rfl, h4q⟩))
  go_end0
  exact ⟨rfl, hw3.trans h4q⟩

set_option maxHeartbeats 2000000 in
set_option maxRecDepth 100000 in
theorem expr_11 (n : Int) (s : ByteArray) (l : ES) (hl : l.exok) : EXok 11 n s l := by
  intro lo b t k W v ht h hlo hv h4 hlen
  obtain ⟨A, cap, rfl, hc1, hc2, hrow⟩ := id hv
  rw [show exX 11 n s.data.toList l.txs = [40] ++ gapT [32, 47, 32] l.txs ++ [41] from rfl] at hlen ⊢
  try simp only [List.length_append] at hlen
  obtain ⟨C, hC⟩ : ∃ C : Obj, Obj.cells #[.int .i64 11, .int .i64 n, .string s, .slice A l.len cap] 38 = C := ⟨_, rfl⟩
  have hb2 : Below W.heap.size W (W.alloc C) := (Below.refl _ _).alloc (Nat.le_refl _) C
  have hg2 : (W.alloc C).heap[W.heap.size]? = some (.cells #[.int .i64 11, .int .i64 n, .string s, .slice A l.len cap] 38 (0, 0)) := by rw [hC]; exact heap_alloc_new W _
  have hbg : W.heap.size ≠ b := by have := h.lt; omega
  have hw2 : Wrote lo b W t k (W.alloc C) := (Wrote.refl h).below hb2 hlo
  have hlow2 := hw2.lo hlo
  have HS : Hid (∀ w2, Wrote lo b W t k w2 → Calls Tryz.prog 67 #[used b, .string ⟨#[40]⟩, .string ⟨#[32, 47, 32]⟩, .slice A l.len cap, .string ⟨#[41]⟩] w2 fun e w' => e = .returned (.tuple #[]) ∧ Wrote lo b w2 (t ++ ([40] ++ gapT [32, 47, 32] l.txs ++ [41])) k w') :=
    hid fun w2 hw => cn_several_any l hl lo b _ k w2 A cap ⟨#[40]⟩ ⟨#[32, 47, 32]⟩ ⟨#[41]⟩ (ht.on hw.bl) hw.ws (hw.lo hlo) (EV.below hv hw.bl (Nat.le_refl _)) (by simp only [List.length_append]; exact hlen)
  have hbt : (W.alloc C).cell? ⟨0, 11, none⟩ = some (.string ⟨#[32, 47, 32]⟩) := (ht.on hw2.bl).bet 11 (by decide)
  have hsz0 : 0 < (W.alloc C).heap.size := Nat.lt_of_lt_of_le (Nat.lt_of_lt_of_le (by decide) ht.le) hlow2
  obtain ⟨d0, d1, d2, d3⟩ := kept4 (OthersKept.refl 5 (some b) _) hg2 hbg
  obtain ⟨w2, hw2e⟩ : ∃ w2, W.alloc C = w2 := ⟨_, rfl⟩
  rw [hw2e] at hw2 hbt hsz0 d0 d1 d2 d3
  subst hC
  go_enter Tryz.func36, Tryz.ntmps36
  go_upto_region 2 with fail
  have hw3 := hw2.below (Below.drew (Below.refl _ w2)) (hw2.lo hlo)
  have hq := HS.out _ hw3
  go_still_tail 7, (by kernel_rfl)
  go_wp2_with (go_at_call 67; ((with_reducible refine hq.mono ?_); rintro e w4 ⟨rfl, h4q⟩))
  go_end0
  exact ⟨rfl, hw3.trans h4q⟩

set_option maxHeartbeats 2000000 in
set_option maxRecDepth 100000 in
theorem expr_12 (n : Int) (s : ByteArray) (l : ES) (hl : l.exok) : EXok 12 n s l := by
  intro lo b t k W v ht h hlo hv h4 hlen
  obtain ⟨A, cap, rfl, hc1, hc2, hrow⟩ := id hv
  rw [show exX 12 n s.data.toList l.txs = [40] ++ gapT [32, 37, 32] l.txs ++ [41] from rfl] at hlen ⊢
  try simp only [List.length_append] at hlen
  obtain ⟨C, hC⟩ : ∃ C : Obj, Obj.cells #[.int .i64 12, .int .i64 n, .string s, .slice A l.len cap] 38 = C := ⟨_, rfl⟩
  have hb2 : Below W.heap.size W (W.alloc C) := (Below.refl _ _).alloc (Nat.le_refl _) C
  have hg2 : (W.alloc C).heap[W.heap.size]? = some (.cells #[.int .i64 12, .int .i64 n, .string s, .slice A l.len cap] 38 (0, 0)) := by rw [hC]; exact heap_alloc_new W _
  have hbg : W.heap.size ≠ b := by have := h.lt; omega
  have hw2 : Wrote lo b W t k (W.alloc C) := (Wrote.refl h).below hb2 hlo
  have hlow2 := hw2.lo hlo
  have HS : Hid (∀ w2, Wrote lo b W t k w2 → Calls Tryz.prog 67 #[used b, .string ⟨#[40]⟩, .string ⟨#[32, 37, 32]⟩, .slice A l.len cap, .string ⟨#[41]⟩] w2 fun e w' => e = .returned (.tuple #[]) ∧ Wrote lo b w2 (t ++ ([40] ++ gapT [32, 37, 32] l.txs ++ [41])) k w') :=
    hid fun w2 hw => cn_several_any l hl lo b _ k w2 A cap ⟨#[40]⟩ ⟨#[32, 37, 32]⟩ ⟨#[41]⟩ (ht.on hw.bl) hw.ws (hw.lo hlo) (EV.below hv hw.bl (Nat.le_refl _)) (by simp only [List.length_append]; exact hlen)
  have hbt : (W.alloc C).cell? ⟨0, 12, none⟩ = some (.string ⟨#[32, 37, 32]⟩) := (ht.on hw2.bl).bet 12 (by decide)
  have hsz0 : 0 < (W.alloc C).heap.size := Nat.lt_of_lt_of_le (Nat.lt_of_lt_of_le (by decide) ht.le) hlow2
  obtain ⟨d0, d1, d2, d3⟩ := kept4 (OthersKept.refl 5 (some b) _) hg2 hbg
  obtain ⟨w2, hw2e⟩ : ∃ w2, W.alloc C = w2 := ⟨_, rfl⟩
  rw [hw2e] at hw2 hbt hsz0 d0 d1 d2 d3
  subst hC
  go_enter Tryz.func36, Tryz.ntmps36
  go_upto_region 2 with fail
  have hw3 := hw2.below (Below.drew (Below.refl _ w2)) (hw2.lo hlo)
  have hq := HS.out _ hw3
  go_still_tail 7, (by kernel_rfl)
  go_wp2_with (go_at_call 67; ((with_reducible refine hq.mono ?_); rintro e w4 ⟨rfl, h4q⟩))
  go_end0
  exact ⟨rfl, hw3.trans h4q⟩

set_option maxHeartbeats 2000000 in
set_option maxRecDepth 100000 in
theorem expr_13 (n : Int) (s : ByteArray) (l : ES) (hl : l.exok) : EXok 13 n s l := by
  intro lo b t k W v ht h hlo hv h4 hlen
  obtain ⟨A, cap, rfl, hc1, hc2, hrow⟩ := id hv
  rw [show exX 13 n s.data.toList l.txs = [40] ++ gapT [32, 60, 32] l.txs ++ [41] from rfl] at hlen ⊢
  try simp only [List.length_append] at hlen
  obtain ⟨C, hC⟩ : ∃ C : Obj, Obj.cells #[.int .i64 13, .int .i64 n, .string s, .slice A l.len cap] 38 = C := ⟨_, rfl⟩
  have hb2 : Below W.heap.size W (W.alloc C) := (Below.refl _ _).alloc (Nat.le_refl _) C
  have hg2 : (W.alloc C).heap[W.heap.size]? = some (.cells #[.int .i64 13, .int .i64 n, .string s, .slice A l.len cap] 38 (0, 0)) := by rw [hC]; exact heap_alloc_new W _
  have hbg : W.heap.size ≠ b := by have := h.lt; omega
  have hw2 : Wrote lo b W t k (W.alloc C) := (Wrote.refl h).below hb2 hlo
  have hlow2 := hw2.lo hlo
  have HS : Hid (∀ w2, Wrote lo b W t k w2 → Calls Tryz.prog 67 #[used b, .string ⟨#[40]⟩, .string ⟨#[32, 60, 32]⟩, .slice A l.len cap, .string ⟨#[41]⟩] w2 fun e w' => e = .returned (.tuple #[]) ∧ Wrote lo b w2 (t ++ ([40] ++ gapT [32, 60, 32] l.txs ++ [41])) k w') :=
    hid fun w2 hw => cn_several_any l hl lo b _ k w2 A cap ⟨#[40]⟩ ⟨#[32, 60, 32]⟩ ⟨#[41]⟩ (ht.on hw.bl) hw.ws (hw.lo hlo) (EV.below hv hw.bl (Nat.le_refl _)) (by simp only [List.length_append]; exact hlen)
  have hbt : (W.alloc C).cell? ⟨0, 13, none⟩ = some (.string ⟨#[32, 60, 32]⟩) := (ht.on hw2.bl).bet 13 (by decide)
  have hsz0 : 0 < (W.alloc C).heap.size := Nat.lt_of_lt_of_le (Nat.lt_of_lt_of_le (by decide) ht.le) hlow2
  obtain ⟨d0, d1, d2, d3⟩ := kept4 (OthersKept.refl 5 (some b) _) hg2 hbg
  obtain ⟨w2, hw2e⟩ : ∃ w2, W.alloc C = w2 := ⟨_, rfl⟩
  rw [hw2e] at hw2 hbt hsz0 d0 d1 d2 d3
  subst hC
  go_enter Tryz.func36, Tryz.ntmps36
  go_upto_region 2 with fail
  have hw3 := hw2.below (Below.drew (Below.refl _ w2)) (hw2.lo hlo)
  have hq := HS.out _ hw3
  go_still_tail 7, (by kernel_rfl)
  go_wp2_with (go_at_call 67; ((with_reducible refine hq.mono ?_); rintro e w4 ⟨rfl, h4q⟩))
  go_end0
  exact ⟨rfl, hw3.trans h4q⟩

set_option maxHeartbeats 2000000 in
set_option maxRecDepth 100000 in
theorem expr_14 (n : Int) (s : ByteArray) (l : ES) (hl : l.exok) : EXok 14 n s l := by
  intro lo b t k W v ht h hlo hv h4 hlen
  obtain ⟨A, cap, rfl, hc1, hc2, hrow⟩ := id hv
  rw [show exX 14 n s.data.toList l.txs = [40] ++ gapT [32, 61, 61, 32] l.txs ++ [41] from rfl] at hlen ⊢
  try simp only [List.length_append] at hlen
  obtain ⟨C, hC⟩ : ∃ C : Obj, Obj.cells #[.int .i64 14, .int .i64 n, .string s, .slice A l.len cap] 38 = C := ⟨_, rfl⟩
  have hb2 : Below W.heap.size W (W.alloc C) := (Below.refl _ _).alloc (Nat.le_refl _) C
  have hg2 : (W.alloc C).heap[W.heap.size]? = some (.cells #[.int .i64 14, .int .i64 n, .string s, .slice A l.len cap] 38 (0, 0)) := by rw [hC]; exact heap_alloc_new W _
  have hbg : W.heap.size ≠ b := by have := h.lt; omega
  have hw2 : Wrote lo b W t k (W.alloc C) := (Wrote.refl h).below hb2 hlo
  have hlow2 := hw2.lo hlo
  have HS : Hid (∀ w2, Wrote lo b W t k w2 → Calls Tryz.prog 67 #[used b, .string ⟨#[40]⟩, .string ⟨#[32, 61, 61, 32]⟩, .slice A l.len cap, .string ⟨#[41]⟩] w2 fun e w' => e = .returned (.tuple #[]) ∧ Wrote lo b w2 (t ++ ([40] ++ gapT [32, 61, 61, 32] l.txs ++ [41])) k w') :=
    hid fun w2 hw => cn_several_any l hl lo b _ k w2 A cap ⟨#[40]⟩ ⟨#[32, 61, 61, 32]⟩ ⟨#[41]⟩ (ht.on hw.bl) hw.ws (hw.lo hlo) (EV.below hv hw.bl (Nat.le_refl _)) (by simp only [List.length_append]; exact hlen)
  have hbt : (W.alloc C).cell? ⟨0, 14, none⟩ = some (.string ⟨#[32, 61, 61, 32]⟩) := (ht.on hw2.bl).bet 14 (by decide)
  have hsz0 : 0 < (W.alloc C).heap.size := Nat.lt_of_lt_of_le (Nat.lt_of_lt_of_le (by decide) ht.le) hlow2
  obtain ⟨d0, d1, d2, d3⟩ := kept4 (OthersKept.refl 5 (some b) _) hg2 hbg
  obtain ⟨w2, hw2e⟩ : ∃ w2, W.alloc C = w2 := ⟨_, rfl⟩
  rw [hw2e] at hw2 hbt hsz0 d0 d1 d2 d3
  subst hC
  go_enter Tryz.func36, Tryz.ntmps36
  go_upto_region 2 with fail
  have hw3 := hw2.below (Below.drew (Below.refl _ w2)) (hw2.lo hlo)
  have hq := HS.out _ hw3
  go_still_tail 7, (by kernel_rfl)
  go_wp2_with (go_at_call 67; ((with_reducible refine hq.mono ?_); rintro e w4 ⟨rfl, h4q⟩))
  go_end0
  exact ⟨rfl, hw3.trans h4q⟩

set_option maxHeartbeats 2000000 in
set_option maxRecDepth 100000 in
theorem expr_15 (n : Int) (s : ByteArray) (l : ES) (hl : l.exok) : EXok 15 n s l := by
  intro lo b t k W v ht h hlo hv h4 hlen
  obtain ⟨A, cap, rfl, hc1, hc2, hrow⟩ := id hv
  rw [show exX 15 n s.data.toList l.txs = [40] ++ gapT [32, 38, 32] l.txs ++ [41] from rfl] at hlen ⊢
  try simp only [List.length_append] at hlen
  obtain ⟨C, hC⟩ : ∃ C : Obj, Obj.cells #[.int .i64 15, .int .i64 n, .string s, .slice A l.len cap] 38 = C := ⟨_, rfl⟩
  have hb2 : Below W.heap.size W (W.alloc C) := (Below.refl _ _).alloc (Nat.le_refl _) C
  have hg2 : (W.alloc C).heap[W.heap.size]? = some (.cells #[.int .i64 15, .int .i64 n, .string s, .slice A l.len cap] 38 (0, 0)) := by rw [hC]; exact heap_alloc_new W _
  have hbg : W.heap.size ≠ b := by have := h.lt; omega
  have hw2 : Wrote lo b W t k (W.alloc C) := (Wrote.refl h).below hb2 hlo
  have hlow2 := hw2.lo hlo
  have HS : Hid (∀ w2, Wrote lo b W t k w2 → Calls Tryz.prog 67 #[used b, .string ⟨#[40]⟩, .string ⟨#[32, 38, 32]⟩, .slice A l.len cap, .string ⟨#[41]⟩] w2 fun e w' => e = .returned (.tuple #[]) ∧ Wrote lo b w2 (t ++ ([40] ++ gapT [32, 38, 32] l.txs ++ [41])) k w') :=
    hid fun w2 hw => cn_several_any l hl lo b _ k w2 A cap ⟨#[40]⟩ ⟨#[32, 38, 32]⟩ ⟨#[41]⟩ (ht.on hw.bl) hw.ws (hw.lo hlo) (EV.below hv hw.bl (Nat.le_refl _)) (by simp only [List.length_append]; exact hlen)
  have hbt : (W.alloc C).cell? ⟨0, 15, none⟩ = some (.string ⟨#[32, 38, 32]⟩) := (ht.on hw2.bl).bet 15 (by decide)
  have hsz0 : 0 < (W.alloc C).heap.size := Nat.lt_of_lt_of_le (Nat.lt_of_lt_of_le (by decide) ht.le) hlow2
  obtain ⟨d0, d1, d2, d3⟩ := kept4 (OthersKept.refl 5 (some b) _) hg2 hbg
  obtain ⟨w2, hw2e⟩ : ∃ w2, W.alloc C = w2 := ⟨_, rfl⟩
  rw [hw2e] at hw2 hbt hsz0 d0 d1 d2 d3
  subst hC
  go_enter Tryz.func36, Tryz.ntmps36
  go_upto_region 2 with fail
  have hw3 := hw2.below (Below.drew (Below.refl _ w2)) (hw2.lo hlo)
  have hq := HS.out _ hw3
  go_still_tail 7, (by kernel_rfl)
  go_wp2_with (go_at_call 67; ((with_reducible refine hq.mono ?_); rintro e w4 ⟨rfl, h4q⟩))
  go_end0
  exact ⟨rfl, hw3.trans h4q⟩

set_option maxHeartbeats 2000000 in
set_option maxRecDepth 100000 in
theorem expr_16 (n : Int) (s : ByteArray) (l : ES) (hl : l.exok) : EXok 16 n s l := by
  intro lo b t k W v ht h hlo hv h4 hlen
  obtain ⟨A, cap, rfl, hc1, hc2, hrow⟩ := id hv
  rw [show exX 16 n s.data.toList l.txs = [40] ++ gapT [32, 124, 32] l.txs ++ [41] from rfl] at hlen ⊢
  try simp only [List.length_append] at hlen
  obtain ⟨C, hC⟩ : ∃ C : Obj, Obj.cells #[.int .i64 16, .int .i64 n, .string s, .slice A l.len cap] 38 = C := ⟨_, rfl⟩
  have hb2 : Below W.heap.size W (W.alloc C) := (Below.refl _ _).alloc (Nat.le_refl _) C
  have hg2 : (W.alloc C).heap[W.heap.size]? = some (.cells #[.int .i64 16, .int .i64 n, .string s, .slice A l.len cap] 38 (0, 0)) := by rw [hC]; exact heap_alloc_new W _
  have hbg : W.heap.size ≠ b := by have := h.lt; omega
  have hw2 : Wrote lo b W t k (W.alloc C) := (Wrote.refl h).below hb2 hlo
  have hlow2 := hw2.lo hlo
  have HS : Hid (∀ w2, Wrote lo b W t k w2 → Calls Tryz.prog 67 #[used b, .string ⟨#[40]⟩, .string ⟨#[32, 124, 32]⟩, .slice A l.len cap, .string ⟨#[41]⟩] w2 fun e w' => e = .returned (.tuple #[]) ∧ Wrote lo b w2 (t ++ ([40] ++ gapT [32, 124, 32] l.txs ++ [41])) k w') :=
    hid fun w2 hw => cn_several_any l hl lo b _ k w2 A cap ⟨#[40]⟩ ⟨#[32, 124, 32]⟩ ⟨#[41]⟩ (ht.on hw.bl) hw.ws (hw.lo hlo) (EV.below hv hw.bl (Nat.le_refl _)) (by simp only [List.length_append]; exact hlen)
  have hbt : (W.alloc C).cell? ⟨0, 16, none⟩ = some (.string ⟨#[32, 124, 32]⟩) := (ht.on hw2.bl).bet 16 (by decide)
  have hsz0 : 0 < (W.alloc C).heap.size := Nat.lt_of_lt_of_le (Nat.lt_of_lt_of_le (by decide) ht.le) hlow2
  obtain ⟨d0, d1, d2, d3⟩ := kept4 (OthersKept.refl 5 (some b) _) hg2 hbg
  obtain ⟨w2, hw2e⟩ : ∃ w2, W.alloc C = w2 := ⟨_, rfl⟩
  rw [hw2e] at hw2 hbt hsz0 d0 d1 d2 d3
  subst hC
  go_enter Tryz.func36, Tryz.ntmps36
  go_upto_region 2 with fail
  have hw3 := hw2.below (Below.drew (Below.refl _ w2)) (hw2.lo hlo)
  have hq := HS.out _ hw3
  go_still_tail 7, (by kernel_rfl)
  go_wp2_with (go_at_call 67; ((with_reducible refine hq.mono ?_); rintro e w4 ⟨rfl, h4q⟩))
  go_end0
  exact ⟨rfl, hw3.trans h4q⟩

/-- What the writer asks is enough. -/
theorem ES.exok_of : ∀ l : ES, l.wr → l.exok
  | .nil, _ => trivial
  | .cons op n s l r, ⟨⟨⟨h1, h2⟩, h3⟩, hl, hr⟩ => by
    have il := ES.exok_of l hl
    refine ⟨?_, ES.exok_of r hr⟩
    obtain ⟨m, rfl⟩ := Int.eq_ofNat_of_zero_le (show 0 ≤ op by omega)
    have h1' : 1 ≤ m := by omega
    have h2' : m ≤ 16 := by omega
    have h6 : m = 6 ∨ m = 7 → 1 ≤ l.len := fun h => h3 (by omega)
    clear h1 h2 h3
    match m, h1', h2', h6 with
    | 1, _, _, h6 => exact expr_1 n s l il
    | 2, _, _, h6 => exact expr_2 n s l il
    | 3, _, _, h6 => exact expr_3 n s l il
    | 4, _, _, h6 => exact expr_4 n s l il
    | 5, _, _, h6 => exact expr_5 n s l il
    | 6, _, _, h6 => exact expr_6 n s l il (h6 (by omega))
    | 7, _, _, h6 => exact expr_7 n s l il (h6 (by omega))
    | 8, _, _, h6 => exact expr_8 n s l il
    | 9, _, _, h6 => exact expr_9 n s l il
    | 10, _, _, h6 => exact expr_10 n s l il
    | 11, _, _, h6 => exact expr_11 n s l il
    | 12, _, _, h6 => exact expr_12 n s l il
    | 13, _, _, h6 => exact expr_13 n s l il
    | 14, _, _, h6 => exact expr_14 n s l il
    | 15, _, _, h6 => exact expr_15 n s l il
    | 16, _, _, h6 => exact expr_16 n s l il
    | m + 17, _, h, _ => exact absurd h (by omega)

end Go.Proofs.YtppagjhmlgkamaaGreatDoor
