/-
  The document's own heap: Len, Get.
-/
import Derived.Test.YtimpobfilihhmaaHqU
namespace Go.Proofs.Ytimpobfilihhmaa
open Go Go.RowKit Go.Lib

set_option maxRecDepth 100000 in
set_option maxHeartbeats 1000000 in
theorem rlen_w {F : List Nat} {g N : Nat} {x : Int} {A : List (List Int)} {W : World} (h : RpI F g x N A W) (id : Int) : Calls Try.prog 20 #[.pointer (some ⟨g, 0, none⟩), .int .i64 id] W fun e W' => e = .returned (.int .i64 ((arr A id).length : Int)) ∧ W' = W := by
  obtain ⟨vz, vp, P, h1, h2, -⟩ := h.row
  obtain ⟨Xz, cz, rfl⟩ := own_form h2
  have c1 : W.cell? ⟨g, 1, none⟩ = some (.slice Xz A.length cz) := (blk_cell h1 1).trans rfl
  by_cases hi : 0 ≤ id ∧ id < (A.length : Int)
  · obtain ⟨k, a, rfl, ha⟩ := in_row hi
    rw [arr_nat ha]
    have hk : k < A.length := by omega
    obtain ⟨b, c, e, hcc, hc1, -, hcell⟩ := own_cells h2 (by omega)
    injection e with e1 e2 e3
    subst e1 e3
    have c2 := hcell k _ (i64V_at (sizes_at ha))
    clear h1 h2 h hi ha hcell
    generalize a.length = n at *
    generalize A.length = m at *
    have b0 : decide ((k : Int) < 0) = false := by simp
    have b1 : decide ((m : Int) ≤ (k : Int)) = false := by simp; omega
    go_enter Try.func20, Try.ntmps20
    go_wp2
    go_ret
    exact ⟨rfl, rfl⟩
  · rw [arr_out hi]
    clear h1 h2 h
    generalize A.length = m at *
    by_cases h0 : id < 0
    · have b0 : decide (id < 0) = true := decide_eq_true h0
      go_enter Try.func20, Try.ntmps20
      go_wp2
      go_ret
      exact ⟨rfl, rfl⟩
    · have b0 : decide (id < 0) = false := decide_eq_false h0
      have b1 : decide ((m : Int) ≤ id) = true := decide_eq_true (by omega)
      go_enter Try.func20, Try.ntmps20
      go_wp2
      go_ret
      exact ⟨rfl, rfl⟩
theorem inR_small {A : List (List Int)} {d i : Int} (h : i < 0) : inR A d i = false := decide_eq_false (by omega)
theorem inR_large {A : List (List Int)} {d i : Int} (h : ((arr A d).length : Int) ≤ i) : inR A d i = false := decide_eq_false (by omega)
theorem inR_in {A : List (List Int)} {d i : Int} (h : 0 ≤ i) (h' : i < ((arr A d).length : Int)) : inR A d i = true := decide_eq_true ⟨h, h'⟩
theorem gtV_no {A : List (List Int)} {d i : Int} (h : inR A d i = false) : gtV A d i = 0 := by unfold gtV; rw [h, if_neg (by decide)]
theorem gtV_yes {A : List (List Int)} {d i : Int} (h : inR A d i = true) : gtV A d i = (arr A d).getD i.toNat 0 := by unfold gtV; rw [h, if_pos rfl]
set_option maxRecDepth 100000 in
set_option maxHeartbeats 4000000 in
theorem rget_w {F : List Nat} {g N : Nat} {x : Int} {A : List (List Int)} {W : World} (h : RpI F g x N A W) (hN : N ≤ 1000) (d i : Int) : Calls Try.prog 16 #[.pointer (some ⟨g, 0, none⟩), .int .i64 d, .int .i64 i] W fun e W' => e = .returned (.tuple #[.int .i64 (gtV A d i), .bool (inR A d i)]) ∧ Below W.heap.size W W' := by
  have HLN := Lib.hid (rlen_w h d)
  obtain ⟨vz, vp, P, h1, -, h3, -, -, hP, -, hf⟩ := h.row
  obtain ⟨Xp, cp, rfl⟩ := own_form h3
  have HB := Lib.hid h1
  have HO := Lib.hid h3
  clear h1 h3 h
  by_cases h0 : i < 0
  · have b0 : decide (i < 0) = true := decide_eq_true h0
    rw [gtV_no (inR_small h0), inR_small h0]
    clear hf
    go_enter Try.func16, Try.ntmps16
    go_wp2
    go_ret2
    exact ⟨rfl, Below.refl _ _⟩
  · have b0 : decide (i < 0) = false := decide_eq_false h0
    by_cases h1 : ((arr A d).length : Int) ≤ i
    · have b1 : decide (((arr A d).length : Int) ≤ i) = true := decide_eq_true h1
      rw [gtV_no (inR_large h1), inR_large h1]
      clear hf
      generalize (arr A d).length = n at *
      go_enter Try.func16, Try.ntmps16
      go_wp2_with (go_at_call 20; ((with_reducible refine HLN.out.mono ?_); rintro e w1 ⟨rfl, rfl⟩))
      go_ret2
      exact ⟨rfl, Below.refl _ _⟩
    · have b1 : decide (((arr A d).length : Int) ≤ i) = false := decide_eq_false h1
      have hin : inR A d i = true := inR_in (by omega) (by omega)
      rw [gtV_yes hin, hin, ← hf d i (by omega) (by omega)]
      clear hf hin
      generalize (arr A d).length = n at *
      obtain ⟨m, hm⟩ : ∃ m, P.length = m := ⟨_, rfl⟩
      have HM := Lib.hid hm
      rw [hm] at HB HO hP ⊢
      have c2 : W.cell? ⟨g, 2, none⟩ = some (.slice Xp m cp) := (blk_cell HB.out 2).trans rfl
      clear hm
      go_enter Try.func16, Try.ntmps16
      go_wp2_with (go_at_call 20; ((with_reducible refine HLN.out.mono ?_); rintro e w1 ⟨rfl, rfl⟩))
      go_loopw [8] (fun u wr => ∃ k : Nat, u = .int .i64 k ∧ k ≤ m ∧ fnd P d i m = fnd P d i k ∧ Below w1.heap.size w1 wr) (fun u _ => (RowKit.intOf u).toNat)
      case atStart => exact ⟨m, rfl, Nat.le_refl _, rfl, Below.refl _ _⟩
      case round =>
        obtain ⟨k, rfl, hk, hfk, hbel⟩ := hrel
        have HF := Lib.hid hfk
        have HBE := Lib.hid hbel
        cases k with
        | zero =>
          clear hfk hbel
          go_wp2
          go_ret2
          exact ⟨by rw [HF.out]; rfl, HBE.out⟩
        | succ k =>
          obtain ⟨⟨d', i', v⟩, hx⟩ : ∃ s, P[k]? = some s := ⟨P[k]'(by rw [HM.out]; omega), List.getElem?_eq_getElem _⟩
          obtain ⟨x0, x1, x2⟩ := ptV_at P k d' i' v hx
          obtain ⟨b, c, e, hcc, hcm, hbl, hcell⟩ := own_cells HO.out (by omega)
          injection e with e1 e2 e3
          subst e1 e3
          have c3 := (hbel.cell (p := ⟨b, k * 3, none⟩) hbl).trans (hcell _ _ x0)
          have c4 := (hbel.cell (p := ⟨b, k * 3 + 1, none⟩) hbl).trans (hcell _ _ x1)
          have c5 := (hbel.cell (p := ⟨b, k * 3 + 2, none⟩) hbl).trans (hcell _ _ x2)
          have c6 : wr.cell? ⟨g, 2, none⟩ = some (.slice (some ⟨b, 0, none⟩) m cp) := (hbel.cell (p := ⟨g, 2, none⟩) (blk_lt HB.out)).trans c2
          have hstep : fnd P d i (k + 1) = if d' = d ∧ i' = i then v else fnd P d i k := by rw [fnd, hx]
          have HST := Lib.hid hstep
          have e7 : IntKind.i64.wrap (((k + 1 : Nat) : Int) - 1) = (k : Int) := by rw [IntWalk.i64_in _ (by omega)]; omega
          have i0 : decide ((0 : Int) < ((k + 1 : Nat) : Int)) = true := decide_eq_true (by omega)
          have hk1 : k < m := hk
          have HNW : Hid (∀ o, Below w1.heap.size w1 (wr.alloc o)) := Lib.hid fun o => hbel.alloc hbel.size _
          clear hfk hbel hx x0 x1 x2 hcell hstep e2
          by_cases hd : d' = d
          · subst hd
            by_cases hi : i' = i
            · subst hi
              go_wp2
              go_ret2
              exact ⟨by rw [HF.out, HST.out]; simp, HNW.out _⟩
            · have q1 : (i' == i) = false := by simpa using hi
              go_wp2
              go_roundw
              case rel => exact ⟨k, by go_num, by omega, by rw [HF.out, HST.out, if_neg fun h => hi h.2], HNW.out _⟩
              case measure => simp [RowKit.intOf]
          · have q1 : (d' == d) = false := by simpa using hd
            go_wp2
            go_roundw
            case rel => exact ⟨k, by go_num, by omega, by rw [HF.out, HST.out, if_neg fun h => hd h.1], HNW.out _⟩
            case measure => simp [RowKit.intOf]
end Go.Proofs.Ytimpobfilihhmaa
