/-
  The document's own Line (package evenhandref08).
-/
import Derived.Test.YtloimjmbbinnpaaDoorCoG
namespace Go.Proofs.YtloimjmbbinnpaaDoor
open Go Go.RowKit Go.Lib

set_option maxHeartbeats 4000000 in
theorem line_00 (p op a n : Int) (nm : List UInt8) (tk lv co : Nat) (w : World) (hp : I64 p) (hnm : nm.length ≤ 6) (hk : kdOf op = ⟨nm, tk, lv, co, false, false⟩) :
    Calls Tryd.prog 15 #[.int .i64 p, .int .i64 op, .int .i64 a, .int .i64 n] w fun e w' => e = .returned (.string ⟨(itoa p ++ [32] ++ nm ++ [10]).toArray⟩) ∧ Below w.heap.size w w' := by
  have hip := itoa_len hp
  obtain ⟨P, hP⟩ : ∃ P, itoa p = P := ⟨_, rfl⟩
  have D0 := fun wx => digits_any p wx hp
  rw [hP] at hip
  simp only [hP] at D0
  rw [hP]
  have hsp : (⟨P.toArray⟩ : ByteArray).size = P.length := rfl
  have hsn : (⟨nm.toArray⟩ : ByteArray).size = nm.length := rfl
  have x2 : ¬ 9223372036854775807 < P.length + 1 := by omega
  have x3 : ¬ 9223372036854775807 < P.length + 1 + nm.length := by omega
  have x4 : ¬ 9223372036854775807 < P.length + 1 + nm.length + 1 := by omega
  have hq := of_any op _ hk w
  go_enter Tryd.func15, Tryd.ntmps15
  go_upto_region 2 with (go_at_call 8; ((with_reducible refine hq.mono ?_); clear hq; rintro e w1 ⟨rfl, h1⟩))
  obtain ⟨W2, hW2⟩ : ∃ W2, w1.alloc (.cells #[.string ⟨nm.toArray⟩, .int .i64 tk, .int .i64 lv, .int .i64 co, .bool false, .bool false] 24) = W2 := ⟨_, rfl⟩
  have hg2 : W2.heap[w1.heap.size]? = some (.cells #[.string ⟨nm.toArray⟩, .int .i64 tk, .int .i64 lv, .int .i64 co, .bool false, .bool false] 24 (0, 0)) := by rw [← hW2]; exact heap_alloc_new w1 _
  have hb2 : Below w1.heap.size w1 W2 := by rw [← hW2]; exact (Below.refl _ _).alloc (Nat.le_refl _) _
  have hlt2 : w1.heap.size < W2.heap.size := (Array.getElem?_eq_some_iff.1 hg2).1
  have hbw : Below w.heap.size w W2 := h1.trans (hb2.mono h1.size)
  rw [hW2]
  have K : ∀ W, Below W2.heap.size W2 W → (fun W => W.cell? ⟨w1.heap.size, 0, none⟩ = some (.string ⟨nm.toArray⟩) ∧ Below W2.heap.size W2 W) W := fun W h => by
    refine ⟨?_, h⟩
    rw [cell_of_heap ((h.block _ hlt2).trans hg2)]
    rfl
  have D1 := fun wx (h : Below W2.heap.size W2 wx) => (D0 wx).mono fun e w' hw => (show e = _ ∧ (fun W => W.cell? ⟨w1.heap.size, 0, none⟩ = some (.string ⟨nm.toArray⟩) ∧ Below W2.heap.size W2 W) w' from ⟨hw.1, K w' (h.trans (hw.2.mono h.size))⟩)
  have HD1 := Lib.hid D1
  obtain ⟨y0, y1⟩ := K W2.drew (Below.refl _ W2).drew
  clear D1 D0 K hP hW2
  go_region_held3 (fun W => W.cell? ⟨w1.heap.size, 0, none⟩ = some (.string ⟨nm.toArray⟩) ∧ Below W2.heap.size W2 W)
    (first | exact ⟨y0, y1⟩ | go_keep)
    (first
      | (go_at_call 18; refine (HD1.out _ (by assumption)).mono ?_; rintro e w3 ⟨rfl, y0, y1⟩))
  have hg3 := (y1.block _ hlt2).trans hg2
  have hb3 := hbw.trans (y1.mono hbw.size)
  have m4 : w3.cell? ⟨w1.heap.size, 4, none⟩ = some (.bool false) := by rw [cell_of_heap hg3]; rfl
  have m5 : w3.cell? ⟨w1.heap.size, 5, none⟩ = some (.bool false) := by rw [cell_of_heap hg3]; rfl
  clear HD1 y0
  go_wp2
  go_ret
  exact ⟨ret_str (by simp only [← add_lists]), hb3⟩

set_option maxHeartbeats 4000000 in
theorem line_01 (p op a n : Int) (nm : List UInt8) (tk lv co : Nat) (w : World) (hp : I64 p) (hn : I64 n) (hnm : nm.length ≤ 6) (hk : kdOf op = ⟨nm, tk, lv, co, false, true⟩) :
    Calls Tryd.prog 15 #[.int .i64 p, .int .i64 op, .int .i64 a, .int .i64 n] w fun e w' => e = .returned (.string ⟨(itoa p ++ [32] ++ nm ++ [32] ++ itoa n ++ [10]).toArray⟩) ∧ Below w.heap.size w w' := by
  have hip := itoa_len hp
  obtain ⟨P, hP⟩ : ∃ P, itoa p = P := ⟨_, rfl⟩
  have D0 := fun wx => digits_any p wx hp
  rw [hP] at hip
  simp only [hP] at D0
  rw [hP]
  have hsp : (⟨P.toArray⟩ : ByteArray).size = P.length := rfl
  have hsn : (⟨nm.toArray⟩ : ByteArray).size = nm.length := rfl
  have hin := itoa_len hn
  obtain ⟨N1, hN1⟩ : ∃ N1, itoa n = N1 := ⟨_, rfl⟩
  have Dn := fun wx => digits_any n wx hn
  rw [hN1] at hin
  simp only [hN1] at Dn
  rw [hN1]
  have hsn : (⟨N1.toArray⟩ : ByteArray).size = N1.length := rfl
  have x2 : ¬ 9223372036854775807 < P.length + 1 := by omega
  have x3 : ¬ 9223372036854775807 < P.length + 1 + nm.length := by omega
  have x4 : ¬ 9223372036854775807 < P.length + 1 + nm.length + 1 := by omega
  have x5 : ¬ 9223372036854775807 < P.length + 1 + nm.length + 1 + N1.length := by omega
  have x6 : ¬ 9223372036854775807 < P.length + 1 + nm.length + 1 + N1.length + 1 := by omega
  have hq := of_any op _ hk w
  go_enter Tryd.func15, Tryd.ntmps15
  go_upto_region 2 with (go_at_call 8; ((with_reducible refine hq.mono ?_); clear hq; rintro e w1 ⟨rfl, h1⟩))
  obtain ⟨W2, hW2⟩ : ∃ W2, w1.alloc (.cells #[.string ⟨nm.toArray⟩, .int .i64 tk, .int .i64 lv, .int .i64 co, .bool false, .bool true] 24) = W2 := ⟨_, rfl⟩
  have hg2 : W2.heap[w1.heap.size]? = some (.cells #[.string ⟨nm.toArray⟩, .int .i64 tk, .int .i64 lv, .int .i64 co, .bool false, .bool true] 24 (0, 0)) := by rw [← hW2]; exact heap_alloc_new w1 _
  have hb2 : Below w1.heap.size w1 W2 := by rw [← hW2]; exact (Below.refl _ _).alloc (Nat.le_refl _) _
  have hlt2 : w1.heap.size < W2.heap.size := (Array.getElem?_eq_some_iff.1 hg2).1
  have hbw : Below w.heap.size w W2 := h1.trans (hb2.mono h1.size)
  rw [hW2]
  have K : ∀ W, Below W2.heap.size W2 W → (fun W => W.cell? ⟨w1.heap.size, 0, none⟩ = some (.string ⟨nm.toArray⟩) ∧ Below W2.heap.size W2 W) W := fun W h => by
    refine ⟨?_, h⟩
    rw [cell_of_heap ((h.block _ hlt2).trans hg2)]
    rfl
  have D1 := fun wx (h : Below W2.heap.size W2 wx) => (D0 wx).mono fun e w' hw => (show e = _ ∧ (fun W => W.cell? ⟨w1.heap.size, 0, none⟩ = some (.string ⟨nm.toArray⟩) ∧ Below W2.heap.size W2 W) w' from ⟨hw.1, K w' (h.trans (hw.2.mono h.size))⟩)
  have HD1 := Lib.hid D1
  obtain ⟨y0, y1⟩ := K W2.drew (Below.refl _ W2).drew
  clear D1 D0 K hP hW2
  go_region_held3 (fun W => W.cell? ⟨w1.heap.size, 0, none⟩ = some (.string ⟨nm.toArray⟩) ∧ Below W2.heap.size W2 W)
    (first | exact ⟨y0, y1⟩ | go_keep)
    (first
      | (go_at_call 18; refine (HD1.out _ (by assumption)).mono ?_; rintro e w3 ⟨rfl, y0, y1⟩))
  have hg3 := (y1.block _ hlt2).trans hg2
  have hb3 := hbw.trans (y1.mono hbw.size)
  have m4 : w3.cell? ⟨w1.heap.size, 4, none⟩ = some (.bool false) := by rw [cell_of_heap hg3]; rfl
  have m5 : w3.cell? ⟨w1.heap.size, 5, none⟩ = some (.bool true) := by rw [cell_of_heap hg3]; rfl
  clear HD1 y0
  have hq := Dn w3
  go_wp2_with (go_at_call 18; ((with_reducible refine hq.mono ?_); clear hq; rintro e w5 ⟨rfl, h5⟩))
  go_ret
  exact ⟨ret_str (by simp only [← add_lists]), hb3.trans (h5.mono hb3.size)⟩

set_option maxHeartbeats 4000000 in
theorem line_10 (p op a n : Int) (nm : List UInt8) (tk lv co : Nat) (w : World) (hp : I64 p) (ha : I64 a) (hnm : nm.length ≤ 6) (hk : kdOf op = ⟨nm, tk, lv, co, true, false⟩) :
    Calls Tryd.prog 15 #[.int .i64 p, .int .i64 op, .int .i64 a, .int .i64 n] w fun e w' => e = .returned (.string ⟨(itoa p ++ [32] ++ nm ++ [32] ++ itoa a ++ [10]).toArray⟩) ∧ Below w.heap.size w w' := by
  have hip := itoa_len hp
  obtain ⟨P, hP⟩ : ∃ P, itoa p = P := ⟨_, rfl⟩
  have D0 := fun wx => digits_any p wx hp
  rw [hP] at hip
  simp only [hP] at D0
  rw [hP]
  have hsp : (⟨P.toArray⟩ : ByteArray).size = P.length := rfl
  have hsn : (⟨nm.toArray⟩ : ByteArray).size = nm.length := rfl
  have hia := itoa_len ha
  obtain ⟨A1, hA1⟩ : ∃ A1, itoa a = A1 := ⟨_, rfl⟩
  have Da := fun wx => digits_any a wx ha
  rw [hA1] at hia
  simp only [hA1] at Da
  rw [hA1]
  have hsa : (⟨A1.toArray⟩ : ByteArray).size = A1.length := rfl
  have x2 : ¬ 9223372036854775807 < P.length + 1 := by omega
  have x3 : ¬ 9223372036854775807 < P.length + 1 + nm.length := by omega
  have x4 : ¬ 9223372036854775807 < P.length + 1 + nm.length + 1 := by omega
  have x5 : ¬ 9223372036854775807 < P.length + 1 + nm.length + 1 + A1.length := by omega
  have x6 : ¬ 9223372036854775807 < P.length + 1 + nm.length + 1 + A1.length + 1 := by omega
  have hq := of_any op _ hk w
  go_enter Tryd.func15, Tryd.ntmps15
  go_upto_region 2 with (go_at_call 8; ((with_reducible refine hq.mono ?_); clear hq; rintro e w1 ⟨rfl, h1⟩))
  obtain ⟨W2, hW2⟩ : ∃ W2, w1.alloc (.cells #[.string ⟨nm.toArray⟩, .int .i64 tk, .int .i64 lv, .int .i64 co, .bool true, .bool false] 24) = W2 := ⟨_, rfl⟩
  have hg2 : W2.heap[w1.heap.size]? = some (.cells #[.string ⟨nm.toArray⟩, .int .i64 tk, .int .i64 lv, .int .i64 co, .bool true, .bool false] 24 (0, 0)) := by rw [← hW2]; exact heap_alloc_new w1 _
  have hb2 : Below w1.heap.size w1 W2 := by rw [← hW2]; exact (Below.refl _ _).alloc (Nat.le_refl _) _
  have hlt2 : w1.heap.size < W2.heap.size := (Array.getElem?_eq_some_iff.1 hg2).1
  have hbw : Below w.heap.size w W2 := h1.trans (hb2.mono h1.size)
  rw [hW2]
  have K : ∀ W, Below W2.heap.size W2 W → (fun W => W.cell? ⟨w1.heap.size, 0, none⟩ = some (.string ⟨nm.toArray⟩) ∧ Below W2.heap.size W2 W) W := fun W h => by
    refine ⟨?_, h⟩
    rw [cell_of_heap ((h.block _ hlt2).trans hg2)]
    rfl
  have D1 := fun wx (h : Below W2.heap.size W2 wx) => (D0 wx).mono fun e w' hw => (show e = _ ∧ (fun W => W.cell? ⟨w1.heap.size, 0, none⟩ = some (.string ⟨nm.toArray⟩) ∧ Below W2.heap.size W2 W) w' from ⟨hw.1, K w' (h.trans (hw.2.mono h.size))⟩)
  have HD1 := Lib.hid D1
  obtain ⟨y0, y1⟩ := K W2.drew (Below.refl _ W2).drew
  clear D1 D0 K hP hW2
  go_region_held3 (fun W => W.cell? ⟨w1.heap.size, 0, none⟩ = some (.string ⟨nm.toArray⟩) ∧ Below W2.heap.size W2 W)
    (first | exact ⟨y0, y1⟩ | go_keep)
    (first
      | (go_at_call 18; refine (HD1.out _ (by assumption)).mono ?_; rintro e w3 ⟨rfl, y0, y1⟩))
  have hg3 := (y1.block _ hlt2).trans hg2
  have hb3 := hbw.trans (y1.mono hbw.size)
  have m4 : w3.cell? ⟨w1.heap.size, 4, none⟩ = some (.bool true) := by rw [cell_of_heap hg3]; rfl
  have m5 : w3.cell? ⟨w1.heap.size, 5, none⟩ = some (.bool false) := by rw [cell_of_heap hg3]; rfl
  clear HD1 y0
  have hq := Da w3
  go_upto_region 5 with (go_at_call 18; ((with_reducible refine hq.mono ?_); clear hq; rintro e w4 ⟨rfl, h4⟩))
  have hg4 := (h4.block _ (Array.getElem?_eq_some_iff.1 hg3).1).trans hg3
  have hb4 := hb3.trans (h4.mono hb3.size)
  have k5 : w4.cell? ⟨w1.heap.size, 5, none⟩ = some (.bool false) := by rw [cell_of_heap hg4]; rfl
  clear m4 m5
  go_wp2
  go_ret
  exact ⟨ret_str (by simp only [← add_lists]), hb4⟩

set_option maxHeartbeats 4000000 in
theorem line_11 (p op a n : Int) (nm : List UInt8) (tk lv co : Nat) (w : World) (hp : I64 p) (ha : I64 a) (hn : I64 n) (hnm : nm.length ≤ 6) (hk : kdOf op = ⟨nm, tk, lv, co, true, true⟩) :
    Calls Tryd.prog 15 #[.int .i64 p, .int .i64 op, .int .i64 a, .int .i64 n] w fun e w' => e = .returned (.string ⟨(itoa p ++ [32] ++ nm ++ [32] ++ itoa a ++ [32] ++ itoa n ++ [10]).toArray⟩) ∧ Below w.heap.size w w' := by
  have hip := itoa_len hp
  obtain ⟨P, hP⟩ : ∃ P, itoa p = P := ⟨_, rfl⟩
  have D0 := fun wx => digits_any p wx hp
  rw [hP] at hip
  simp only [hP] at D0
  rw [hP]
  have hsp : (⟨P.toArray⟩ : ByteArray).size = P.length := rfl
  have hsn : (⟨nm.toArray⟩ : ByteArray).size = nm.length := rfl
  have hia := itoa_len ha
  obtain ⟨A1, hA1⟩ : ∃ A1, itoa a = A1 := ⟨_, rfl⟩
  have Da := fun wx => digits_any a wx ha
  rw [hA1] at hia
  simp only [hA1] at Da
  rw [hA1]
  have hsa : (⟨A1.toArray⟩ : ByteArray).size = A1.length := rfl
  have hin := itoa_len hn
  obtain ⟨N1, hN1⟩ : ∃ N1, itoa n = N1 := ⟨_, rfl⟩
  have Dn := fun wx => digits_any n wx hn
  rw [hN1] at hin
  simp only [hN1] at Dn
  rw [hN1]
  have hsn : (⟨N1.toArray⟩ : ByteArray).size = N1.length := rfl
  have x2 : ¬ 9223372036854775807 < P.length + 1 := by omega
  have x3 : ¬ 9223372036854775807 < P.length + 1 + nm.length := by omega
  have x4 : ¬ 9223372036854775807 < P.length + 1 + nm.length + 1 := by omega
  have x5 : ¬ 9223372036854775807 < P.length + 1 + nm.length + 1 + A1.length := by omega
  have x6 : ¬ 9223372036854775807 < P.length + 1 + nm.length + 1 + A1.length + 1 := by omega
  have x7 : ¬ 9223372036854775807 < P.length + 1 + nm.length + 1 + A1.length + 1 + N1.length := by omega
  have x8 : ¬ 9223372036854775807 < P.length + 1 + nm.length + 1 + A1.length + 1 + N1.length + 1 := by omega
  have hq := of_any op _ hk w
  go_enter Tryd.func15, Tryd.ntmps15
  go_upto_region 2 with (go_at_call 8; ((with_reducible refine hq.mono ?_); clear hq; rintro e w1 ⟨rfl, h1⟩))
  obtain ⟨W2, hW2⟩ : ∃ W2, w1.alloc (.cells #[.string ⟨nm.toArray⟩, .int .i64 tk, .int .i64 lv, .int .i64 co, .bool true, .bool true] 24) = W2 := ⟨_, rfl⟩
  have hg2 : W2.heap[w1.heap.size]? = some (.cells #[.string ⟨nm.toArray⟩, .int .i64 tk, .int .i64 lv, .int .i64 co, .bool true, .bool true] 24 (0, 0)) := by rw [← hW2]; exact heap_alloc_new w1 _
  have hb2 : Below w1.heap.size w1 W2 := by rw [← hW2]; exact (Below.refl _ _).alloc (Nat.le_refl _) _
  have hlt2 : w1.heap.size < W2.heap.size := (Array.getElem?_eq_some_iff.1 hg2).1
  have hbw : Below w.heap.size w W2 := h1.trans (hb2.mono h1.size)
  rw [hW2]
  have K : ∀ W, Below W2.heap.size W2 W → (fun W => W.cell? ⟨w1.heap.size, 0, none⟩ = some (.string ⟨nm.toArray⟩) ∧ Below W2.heap.size W2 W) W := fun W h => by
    refine ⟨?_, h⟩
    rw [cell_of_heap ((h.block _ hlt2).trans hg2)]
    rfl
  have D1 := fun wx (h : Below W2.heap.size W2 wx) => (D0 wx).mono fun e w' hw => (show e = _ ∧ (fun W => W.cell? ⟨w1.heap.size, 0, none⟩ = some (.string ⟨nm.toArray⟩) ∧ Below W2.heap.size W2 W) w' from ⟨hw.1, K w' (h.trans (hw.2.mono h.size))⟩)
  have HD1 := Lib.hid D1
  obtain ⟨y0, y1⟩ := K W2.drew (Below.refl _ W2).drew
  clear D1 D0 K hP hW2
  go_region_held3 (fun W => W.cell? ⟨w1.heap.size, 0, none⟩ = some (.string ⟨nm.toArray⟩) ∧ Below W2.heap.size W2 W)
    (first | exact ⟨y0, y1⟩ | go_keep)
    (first
      | (go_at_call 18; refine (HD1.out _ (by assumption)).mono ?_; rintro e w3 ⟨rfl, y0, y1⟩))
  have hg3 := (y1.block _ hlt2).trans hg2
  have hb3 := hbw.trans (y1.mono hbw.size)
  have m4 : w3.cell? ⟨w1.heap.size, 4, none⟩ = some (.bool true) := by rw [cell_of_heap hg3]; rfl
  have m5 : w3.cell? ⟨w1.heap.size, 5, none⟩ = some (.bool true) := by rw [cell_of_heap hg3]; rfl
  clear HD1 y0
  have hq := Da w3
  go_upto_region 5 with (go_at_call 18; ((with_reducible refine hq.mono ?_); clear hq; rintro e w4 ⟨rfl, h4⟩))
  have hg4 := (h4.block _ (Array.getElem?_eq_some_iff.1 hg3).1).trans hg3
  have hb4 := hb3.trans (h4.mono hb3.size)
  have k5 : w4.cell? ⟨w1.heap.size, 5, none⟩ = some (.bool true) := by rw [cell_of_heap hg4]; rfl
  clear m4 m5
  have hq := Dn w4
  go_wp2_with (go_at_call 18; ((with_reducible refine hq.mono ?_); clear hq; rintro e w5 ⟨rfl, h5⟩))
  go_ret
  exact ⟨ret_str (by simp only [← add_lists]), hb4.trans (h5.mono hb4.size)⟩

theorem line_any (p op a n : Int) (w : World) (hp : I64 p) (ha : I64 a) (hn : I64 n) :
    Calls Tryd.prog 15 #[.int .i64 p, .int .i64 op, .int .i64 a, .int .i64 n] w fun e w' => e = .returned (.string ⟨(lineT p op a n).toArray⟩) ∧ Below w.heap.size w w' := by
  obtain ⟨_, _, _, hnm⟩ := kd_ok op
  unfold lineT insT
  cases hk : kdOf op with
  | mk nm tk lv co hA hN =>
    rw [hk] at hnm
    cases hA <;> cases hN
    · have := line_00 p op a n nm tk lv co w hp hnm hk
      simpa [List.append_assoc] using this
    · have := line_01 p op a n nm tk lv co w hp hn hnm hk
      simpa [List.append_assoc] using this
    · have := line_10 p op a n nm tk lv co w hp ha hnm hk
      simpa [List.append_assoc] using this
    · have := line_11 p op a n nm tk lv co w hp ha hn hnm hk
      simpa [List.append_assoc] using this
end Go.Proofs.YtloimjmbbinnpaaDoor
