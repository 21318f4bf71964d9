/-
  The document's own Depth, Size: of programs.
-/
import Derived.Test.YtaedlhjjfmmpdaaDoorTreeRs
namespace Go.Proofs.YtaedlhjjfmmpdaaDoor
open Go Go.RowKit Go.Shelf

theorem pg_deep (p : Pg) : max p.m.deep (deepL (fsPts p.fs)) = deepL p.pts := by
  unfold Pg.pts
  rw [deepL_append, SS.deepL, Int.max_comm]
theorem fs_deep (f : Fn) (r : List Fn) (m d : Int) (h : max m (deepL (fsPts (f :: r))) = d) : max (max m f.b.deep) (deepL (fsPts r)) = d := by
  rw [← h, fsPts, deepL_append, SS.deepL, Int.max_assoc]
theorem pg_cnt (p : Pg) : p.m.cnt + cntL (fsPts p.fs) = cntL p.pts := by
  unfold Pg.pts
  rw [cntL_append, SS.cntL, Nat.add_comm]
theorem fs_cnt (f : Fn) (r : List Fn) (m d : Nat) (h : m + cntL (fsPts (f :: r)) = d) : (m + f.b.cnt) + cntL (fsPts r) = d := by
  rw [← h, fsPts, cntL_append, SS.cntL]; omega

set_option maxRecDepth 100000 in
set_option maxHeartbeats 1000000 in
theorem rdepth_any (v : Value) (p : Pg) (w : World) (B : Nat) (hB : B ≤ w.heap.size) (hv : PgV B w v p) :
    Calls Tryd.prog 15 #[v] w fun e w' => e = .returned (.int .i64 (deepL p.pts)) ∧ Below w.heap.size w w' := by
  obtain ⟨A, cap, A', cap', rfl, h0, h1⟩ := hv
  obtain ⟨A1, cap1, e1, hc1, hc2, hrow⟩ := id h0
  injection e1 with e2 e3 e4
  subst e2 e4
  clear e3
  obtain ⟨len, hlen⟩ : ∃ len, p.fs.length = len := ⟨_, rfl⟩
  rw [hlen] at hc1 hrow ⊢
  have HL := Lib.hid hlen; clear hlen
  have hw0 : ∀ C, Below B w (w.alloc C) := fun C => (Below.refl _ _).alloc hB _
  have HM := fun C => rdeeper_any _ p.m A' cap' B (w.alloc C) (Nat.le_refl _) (by simp; omega) (h1.below (hw0 C) (Nat.le_refl _))
  have hw1 : ∀ C, Below w.heap.size w (w.alloc C) := fun C => (Below.refl _ _).alloc (Nat.le_refl _) _
  have HW1 := Lib.hid hw1
  clear hw0 hw1 h0 h1
  go_enter Tryd.func15, Tryd.ntmps15
  go_wp2_with (go_at_call 28; ((with_reducible refine (HM _).mono ?_); rintro e w1 ⟨rfl, q, rfl⟩))
  go_loopw [3, 4] (fun n i wr => ∃ (k : Nat) (r : List Fn) (m : Int), i = .int .i64 k ∧ n = .int .i64 m ∧ max m (deepL (fsPts r)) = deepL p.pts ∧ 0 ≤ m ∧ k + r.length = len ∧ (0 < r.length → ∃ b o, A = some ⟨b, o, none⟩ ∧ b < B ∧ FsIn B w r b (o + k * 3)) ∧ Below (w.heap.size + 1) (w.alloc (.cells #[.slice A len cap, .slice A' p.m.len cap'] 25)) wr) (fun _ i _ => len - (intOf i).toNat)
  case atStart => exact ⟨0, p.fs, p.m.deep, rfl, rfl, pg_deep p, SS.deep_nn _, by have := HL.out; omega, by simpa [HL.out] using hrow, (drewN_below _ q).mono (by simp)⟩
  case round =>
    obtain ⟨k, r, m, rfl, rfl, ho, hm, hk, hr1, hW⟩ := hrel
    have HO := Lib.hid ho; clear ho
    have g0 := (hW.cell (p := ⟨w.heap.size, 0, none⟩) (Nat.lt_succ_self _)).trans (cell_new w _ _ 0)
    have g1 := (hW.cell (p := ⟨w.heap.size, 1, none⟩) (Nat.lt_succ_self _)).trans (cell_new w _ _ 1)
    simp at g0 g1
    cases r with
    | nil =>
      have hk0 : k = len := by simpa using hk
      subst hk0
      clear hk hrow hr1
      go_wp2
      go_ret
      exact ⟨ret_int (by rw [← HO.out]; simp only [fsPts, deepL]; omega), (HW1.out _).trans (hW.mono (by omega))⟩
    | cons f r =>
      obtain ⟨b, o, rfl, hb, c0, ⟨v1, c1, h3⟩, ⟨v2, c2, h4⟩, h6, hr⟩ := hr1 (by simp)
      clear hrow hr1
      obtain ⟨A6, cap6, rfl, _⟩ := id h3
      obtain ⟨A7, cap7, rfl, _⟩ := id h4
      have hlt : k < len := by simp at hk; omega
      have HK := Lib.hid hk; clear hk
      have hWw := (HW1.out _).trans (hW.mono (Nat.le_succ _))
      have hbw : b < w.heap.size := by omega
      have d0 := (hWw.cell (p := ⟨b, o + k * 3, none⟩) hbw).trans c0
      have d1 := (hWw.cell (p := ⟨b, o + k * 3 + 1, none⟩) hbw).trans c1
      have d2 := (hWw.cell (p := ⟨b, o + k * 3 + 2, none⟩) hbw).trans c2
      clear c0 c1 c2
      have HB := rdeeper_any _ f.b A7 cap7 B wr (Nat.le_refl _) (Nat.le_trans hB hWw.size) (SV.below h4 (hWw.mono hB) (Nat.le_refl _))
      have HWw := Lib.hid hWw
      clear h3 h4 hWw
      go_wp2_with (go_at_call 28; ((with_reducible refine HB.mono ?_); rintro e w2 ⟨rfl, q2, rfl⟩))
      go_roundw
      case rel => exact ⟨k + 1, r, max m f.b.deep, by go_num, rfl, fs_deep _ _ _ _ HO.out, Int.le_trans hm (Int.le_max_left _ _), by have := HK.out; simp at this; omega, fun _ => ⟨b, o, rfl, hb, by rw [show o + (k + 1) * 3 = o + k * 3 + 3 by omega]; exact hr⟩, hW.trans ((drewN_below _ q2).mono (by have := hW.size; simp at this; omega))⟩
      case measure => simp [intOf]; omega

set_option maxRecDepth 100000 in
set_option maxHeartbeats 1000000 in
theorem rsize_any (v : Value) (p : Pg) (w : World) (B : Nat) (hB : B ≤ w.heap.size) (hv : PgV B w v p) :
    Calls Tryd.prog 17 #[v] w fun e w' => e = .returned (.int .i64 (wrap64 (cntL p.pts))) ∧ Below w.heap.size w w' := by
  obtain ⟨A, cap, A', cap', rfl, h0, h1⟩ := hv
  obtain ⟨A1, cap1, e1, hc1, hc2, hrow⟩ := id h0
  injection e1 with e2 e3 e4
  subst e2 e4
  clear e3
  obtain ⟨len, hlen⟩ : ∃ len, p.fs.length = len := ⟨_, rfl⟩
  rw [hlen] at hc1 hrow ⊢
  have HL := Lib.hid hlen; clear hlen
  have hw0 : ∀ C, Below B w (w.alloc C) := fun C => (Below.refl _ _).alloc hB _
  have HM := fun C => rmore_any _ p.m A' cap' B (w.alloc C) (Nat.le_refl _) (by simp; omega) (h1.below (hw0 C) (Nat.le_refl _))
  have hw1 : ∀ C, Below w.heap.size w (w.alloc C) := fun C => (Below.refl _ _).alloc (Nat.le_refl _) _
  have HW1 := Lib.hid hw1
  clear hw0 hw1 h0 h1
  go_enter Tryd.func17, Tryd.ntmps17
  go_wp2_with (go_at_call 30; ((with_reducible refine (HM _).mono ?_); rintro e w1 ⟨rfl, q, rfl⟩))
  go_loopw [3, 4] (fun n i wr => ∃ (k : Nat) (r : List Fn) (m : Nat), i = .int .i64 k ∧ n = .int .i64 (wrap64 m) ∧ m + cntL (fsPts r) = cntL p.pts ∧ k + r.length = len ∧ (0 < r.length → ∃ b o, A = some ⟨b, o, none⟩ ∧ b < B ∧ FsIn B w r b (o + k * 3)) ∧ Below (w.heap.size + 1) (w.alloc (.cells #[.slice A len cap, .slice A' p.m.len cap'] 25)) wr) (fun _ i _ => len - (intOf i).toNat)
  case atStart => exact ⟨0, p.fs, p.m.cnt, rfl, rfl, pg_cnt p, by have := HL.out; omega, by simpa [HL.out] using hrow, (drewN_below _ q).mono (by simp)⟩
  case round =>
    obtain ⟨k, r, m, rfl, rfl, ho, hk, hr1, hW⟩ := hrel
    have HO := Lib.hid ho; clear ho
    have g0 := (hW.cell (p := ⟨w.heap.size, 0, none⟩) (Nat.lt_succ_self _)).trans (cell_new w _ _ 0)
    have g1 := (hW.cell (p := ⟨w.heap.size, 1, none⟩) (Nat.lt_succ_self _)).trans (cell_new w _ _ 1)
    simp at g0 g1
    cases r with
    | nil =>
      have hk0 : k = len := by simpa using hk
      subst hk0
      clear hk hrow hr1
      go_wp2
      go_ret
      exact ⟨ret_int (by rw [← HO.out]; rfl), (HW1.out _).trans (hW.mono (by omega))⟩
    | cons f r =>
      obtain ⟨b, o, rfl, hb, c0, ⟨v1, c1, h3⟩, ⟨v2, c2, h4⟩, h6, hr⟩ := hr1 (by simp)
      clear hrow hr1
      obtain ⟨A6, cap6, rfl, _⟩ := id h3
      obtain ⟨A7, cap7, rfl, _⟩ := id h4
      have hlt : k < len := by simp at hk; omega
      have HK := Lib.hid hk; clear hk
      have hWw := (HW1.out _).trans (hW.mono (Nat.le_succ _))
      have hbw : b < w.heap.size := by omega
      have d0 := (hWw.cell (p := ⟨b, o + k * 3, none⟩) hbw).trans c0
      have d1 := (hWw.cell (p := ⟨b, o + k * 3 + 1, none⟩) hbw).trans c1
      have d2 := (hWw.cell (p := ⟨b, o + k * 3 + 2, none⟩) hbw).trans c2
      clear c0 c1 c2
      have HB := rmore_any _ f.b A7 cap7 B wr (Nat.le_refl _) (Nat.le_trans hB hWw.size) (SV.below h4 (hWw.mono hB) (Nat.le_refl _))
      have HWw := Lib.hid hWw
      clear h3 h4 hWw
      have HA := Lib.hid (wrap_add m f.b.cnt)
      go_wp2_with (go_at_call 30; ((with_reducible refine HB.mono ?_); rintro e w2 ⟨rfl, q2, rfl⟩))
      go_roundw
      case rel => exact ⟨k + 1, r, m + f.b.cnt, by go_num, by rw [HA.out]; rfl, fs_cnt _ _ _ _ HO.out, by have := HK.out; simp at this; omega, fun _ => ⟨b, o, rfl, hb, by rw [show o + (k + 1) * 3 = o + k * 3 + 3 by omega]; exact hr⟩, hW.trans ((drewN_below _ q2).mono (by have := hW.size; simp at this; omega))⟩
      case measure => simp [intOf]; omega

end Go.Proofs.YtaedlhjjfmmpdaaDoor
