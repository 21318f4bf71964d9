/-
  HeapLast, plainly and its walk: a cell has what was put there last.
-/
import Derived.Test.YtimpobfilihhmaaHqP
namespace Go.Proofs.Ytimpobfilihhmaa
open Go Go.RowKit Go.Lib

def z100 : List Int := List.replicate 100 0
theorem arrInfo : (Try.prog.info? 49).map (fun i => i.zero) = some (some (.agg (i64V z100).toArray)) := by kernel_rfl
theorem zero_arr (w : World) : (zeroValue 49).run Try.prog w = .ok (.agg (i64V z100).toArray) w := by
  obtain ⟨i, hi, hz⟩ := Option.map_eq_some_iff.1 arrInfo
  simp [zeroValue, typeInfo, hi, hz]
abbrev wtO (t : List Int) : Obj := .cells (i64V t).toArray 49
theorem wt_cell {W : World} {b j : Nat} {t : List Int} {x : Int} (h : W.heap[b]? = some (wtO t)) (hj : t[j]? = some x) : W.cell? ⟨b, j, none⟩ = some (.int .i64 x) := by
  rw [blk_cell h j]
  simp [i64V, hj]
theorem wt_set {W : World} {b : Nat} {t : List Int} (h : W.heap[b]? = some (wtO t)) (j : Nat) (x : Int) : (W.setCell ⟨b, j, none⟩ (.int .i64 x)).heap[b]? = some (wtO (t.set j x)) := by
  rw [blk_set h j]
  simp [wtO, i64V, List.map_set]
/-- The heap of one array whose cells read as the first of what is wanted; what is wanted lies in a box of its own. -/
structure LSt (W : World) (g b n : Nat) (t : List Int) (w : World) : Prop where
  len : t.length = 100
  box : w.heap[b]? = some (wtO t)
  hp : ∃ F, HpI F g 100 [t.take n] w ∧ (∀ k ∈ F, W.heap.size ≤ k) ∧ b ∉ F
  rest : ∀ j, n ≤ j → j < 100 → t[j]? = some 0
  lo : W.heap.size ≤ b
  below : Below W.heap.size W w
theorem LSt.drewN {W : World} {g b n : Nat} {t : List Int} {w : World} (h : LSt W g b n t w) (m : Nat) : LSt W g b n t (w.drewN m) := by
  obtain ⟨F, h1, h2, h3⟩ := h.hp
  exact ⟨h.len, h.box, ⟨F, h1.drewN m, h2, h3⟩, h.rest, h.lo, h.below.trans ⟨rfl, rfl, rfl, Nat.le_refl _, fun _ _ => rfl⟩⟩
theorem arr_one (a : List Int) : arr [a] 0 = a := arr_nat (k := 0) rfl
theorem inR_one (a : List Int) (i : Int) : inR [a] 0 i = decide (0 ≤ i ∧ i < (a.length : Int)) := by unfold inR; rw [arr_one]
theorem take_len {t : List Int} {n : Nat} (h : t.length = 100) (hn : n ≤ 100) : (t.take n).length = n := by rw [List.length_take, h]; omega
/-- Set: there is such a cell just below n; put it into what is wanted too. -/
theorem LSt.put {W : World} {g b n j : Nat} {t : List Int} {w : World} (h : LSt W g b n t w) (hn : n ≤ 100) (hj : j < n) (v : Int) :
    Calls Try.prog 13 #[.pointer (some ⟨g, 0, none⟩), .int .i64 0, .int .i64 (j : Int), .int .i64 v] w fun e w' => e = .returned (.bool true) ∧ w'.heap[b]? = some (wtO t) ∧ Below W.heap.size W w' ∧ LSt W g b n (t.set j v) (w'.setCell ⟨b, j, none⟩ (.int .i64 v)) := by
  obtain ⟨F, h1, h2, h3⟩ := h.hp
  have hin : inR [t.take n] 0 (j : Int) = true := by rw [inR_one, take_len h.len hn]; exact decide_eq_true (by omega)
  have hst : stA [t.take n] 0 (j : Int) v = [(t.set j v).take n] := by
    unfold stA
    rw [if_pos hin, arr_one, Int.toNat_natCast]
    simp [List.take_set]
  refine (set_w h1 0 (j : Int) v).mono fun e w' ⟨he, k1, k2⟩ => ?_
  rw [hin] at he
  rw [hst] at k1
  have hb : w'.heap[b]? = some (wtO t) := (k2.block b (blk_lt h.box) h3).trans h.box
  have hk : Kf [b] w' (w'.setCell ⟨b, j, none⟩ (.int .i64 v)) := ⟨rfl, rfl, rfl, by simp, fun i _ hi => Below.heap_setCell _ _ _ _ fun e => hi (by simp [e])⟩
  refine ⟨he, hb, h.below.trans (k2.below h2 h.below.size), by simp [h.len], wt_set hb j v, ⟨F, k1.keep hk (fun k hk hm => h3 (by rw [List.mem_singleton] at hm; exact hm ▸ hk)), h2, h3⟩, fun i hi hi' => ?_, h.lo, (h.below.trans (k2.below h2 h.below.size)).setCell h.lo _⟩
  rw [List.getElem?_set_ne (by omega)]
  exact h.rest i hi hi'
theorem LSt.miss {W : World} {g b n j : Nat} {t : List Int} {w : World} (h : LSt W g b n t w) (hn : n ≤ 100) (hj : ¬ j < n) (v : Int) :
    Calls Try.prog 13 #[.pointer (some ⟨g, 0, none⟩), .int .i64 0, .int .i64 (j : Int), .int .i64 v] w fun e w' => e = .returned (.bool false) ∧ LSt W g b n t w' := by
  obtain ⟨F, h1, h2, h3⟩ := h.hp
  have hin : inR [t.take n] 0 (j : Int) = false := by rw [inR_one, take_len h.len hn]; exact decide_eq_false (by omega)
  have hst : stA [t.take n] 0 (j : Int) v = [t.take n] := by
    unfold stA
    rw [if_neg (by rw [hin]; decide)]
  refine (set_w h1 0 (j : Int) v).mono fun e w' ⟨he, k1, k2⟩ => ?_
  rw [hin] at he
  rw [hst] at k1
  exact ⟨he, h.len, (k2.block b (blk_lt h.box) h3).trans h.box, ⟨F, k1, h2, h3⟩, h.rest, h.lo, h.below.trans (k2.below h2 h.below.size)⟩
theorem LSt.get {W : World} {g b n j : Nat} {t : List Int} {w : World} (h : LSt W g b n t w) (hn : n ≤ 100) (hj : j < 100) :
    Calls Try.prog 15 #[.pointer (some ⟨g, 0, none⟩), .int .i64 0, .int .i64 (j : Int)] w fun e w' => e = .returned (.tuple #[.int .i64 (t.getD j 0), .bool (decide (j < n))]) ∧ LSt W g b n t w' := by
  obtain ⟨F, h1, h2, h3⟩ := h.hp
  have hin : inR [t.take n] 0 (j : Int) = decide (j < n) := by rw [inR_one, take_len h.len hn]; exact decide_eq_decide.2 (by omega)
  have hgt : gtV [t.take n] 0 (j : Int) = t.getD j 0 := by
    unfold gtV
    rw [hin, arr_one, Int.toNat_natCast]
    by_cases hjn : j < n
    · rw [if_pos (decide_eq_true hjn), List.getD_eq_getElem?_getD, List.getD_eq_getElem?_getD, List.getElem?_take_of_lt hjn]
    · rw [if_neg (by simp [hjn]), List.getD_eq_getElem?_getD, h.rest j (by omega) hj]
      rfl
  refine (get_w h1 0 (j : Int)).mono fun e w' ⟨he, m, k1⟩ => ?_
  rw [hin, hgt] at he
  exact ⟨he, by rw [k1]; exact h.drewN m⟩
theorem LSt.used {W : World} {g b n : Nat} {t : List Int} {w : World} (h : LSt W g b n t w) (hn : n ≤ 100) :
    Calls Try.prog 17 #[.pointer (some ⟨g, 0, none⟩)] w fun e w' => e = .returned (.int .i64 (n : Int)) ∧ LSt W g b n t w' := by
  obtain ⟨F, h1, h2, h3⟩ := h.hp
  refine (used_w h1).mono fun e w' ⟨he, k1⟩ => ?_
  rw [List.flatten_cons, List.flatten_nil, List.append_nil, take_len h.len hn] at he
  exact ⟨he, by rw [k1]; exact h⟩
theorem LSt.made {W : World} {g n : Nat} {w : World} (hn : n ≤ 100) (h : Hs W 100 g [List.replicate n 0] w) : LSt W g w.heap.size n z100 (w.alloc (wtO z100)) := by
  obtain ⟨F, h1, h2, h3⟩ := h
  have hb : Below w.heap.size w (w.alloc (wtO z100)) := (Below.refl _ _).alloc (Nat.le_refl _) _
  refine ⟨by simp [z100], heap_alloc_new w _, ⟨F, ?_, h2, fun hm => absurd (h1.lt _ hm) (Nat.lt_irrefl _)⟩, fun j _ hj => by unfold z100; rw [List.getElem?_replicate, if_pos hj], h3.size, h3.trans (hb.mono h3.size)⟩
  unfold z100
  rw [List.take_replicate, Nat.min_eq_left hn]
  exact h1.below hb

def LRel (W : World) (g b n N : Nat) (i : Value) (wr : World) : Prop := ∃ (k : Nat) (t : List Int), i = .int .i64 k ∧ k ≤ N ∧ k ≤ 100 ∧ LSt W g b n t wr
def LRel2 (W : World) (g b n : Nat) (t : List Int) (i : Value) (wr : World) : Prop := ∃ k : Nat, i = .int .i64 k ∧ k ≤ 100 ∧ LSt W g b n t wr
set_option maxRecDepth 100000 in
set_option maxHeartbeats 8000000 in
theorem last_walk (x : Int) (X : Option Addr) (n1 c1 : Nat) (l1 : List Int) (Y : Option Addr) (n2 c2 : Nat) (l2 : List Int) (W : World) (hl1 : l1.length = n1) (_hlc1 : n1 ≤ c1) (_hcm1 : c1 ≤ 9223372036854775807) (hr1 : IRow .u8 W X l1) (hu : ∀ x ∈ l1, 0 ≤ x ∧ x ≤ 255)
    (hl2 : l2.length = n2) (_hlc2 : n2 ≤ c2) (_hcm2 : c2 ≤ 9223372036854775807) (hr2 : IRow .i64 W Y l2) :
    Calls Try.prog 8 #[.int .i64 x, .slice X n1 c1, .slice Y n2 c2] W fun e W' => e = .returned (.bool true) ∧ Below W.heap.size W W' := by
  have HS := Lib.hid (shown_w W)
  have HR1 := Lib.hid hr1
  have HR2 := Lib.hid hr2
  have HU := Lib.hid hu
  have HL1 := Lib.hid hl1
  have HL2 := Lib.hid hl2
  have HN := Lib.hid (fun (w : World) (hb : Below W.heap.size W w) => (show Calls Try.prog 10 #[.int .i64 100] w fun e w' => e = .returned (.pointer (some ⟨w.heap.size, 0, none⟩)) ∧ Hs W 100 w.heap.size [] w' from hs_new' W 100 w hb))
  clear hr1 hr2 hu hl1 hl2
  obtain ⟨D, hD, hD1⟩ := and_16 x
  obtain ⟨n, hn⟩ : ∃ n : Nat, 1 + D % 100 = n := ⟨_, rfl⟩
  have hn1 : 1 ≤ n ∧ n ≤ 100 := by omega
  have hw : 1 + (D : Int) % 100 = (n : Int) := by omega
  have MK : Hid (∀ (g : Nat) (w : World), Hs W 100 g [] w → Calls Try.prog 11 #[.pointer (some ⟨g, 0, none⟩), .int .i64 (n : Int)] w fun e w' => e = .returned (.tuple #[.int .i64 0, .int .i64 0]) ∧ Hs W 100 g [List.replicate n 0] w') := Lib.hid fun g w h => by
    have he : mkE 100 [] (n : Int) = 0 := mkE_ok (by omega) (by simp; omega)
    obtain ⟨e1, e2⟩ := mk_good he
    have := hs_make h (n : Int)
    rw [e1, e2, he, Int.toNat_natCast] at this
    exact this
  clear hn
  go_enter Try.func8, Try.ntmps8
  go_upto_region 3 with (go_at_call 9; ((with_reducible refine HS.out.mono ?_); rintro e w1 ⟨rfl, b1⟩))
  try rw [hw]
  clear hD hw
  go_upto_region 9 with (first
    | (go_at_call 10; ((with_reducible refine (HN.out _ b1).mono ?_); rintro e w2 ⟨rfl, h2⟩; obtain ⟨g, hg⟩ : ∃ g, w1.heap.size = g := ⟨_, rfl⟩; rw [hg] at h2 ⊢; clear hg b1))
    | (go_at_call 11; ((with_reducible refine (MK.out _ _ h2).mono ?_); rintro e w3 ⟨rfl, h3⟩)))
  clear h2 MK HN HS
  have hza := zero_arr w3
  go_upto_region 10 with fail
  have hL := LSt.made hn1.2 h3
  clear hza h3
  obtain ⟨b, hb⟩ : ∃ b, w3.heap.size = b := ⟨_, rfl⟩
  rw [hb] at hL ⊢
  obtain ⟨w4, hw4⟩ : ∃ w4, w3.alloc (wtO z100) = w4 := ⟨_, rfl⟩
  rw [hw4] at hL ⊢
  clear hb hw4
  go_upto_region 11 with fail
  go_loopw [12] (fun i wr => LRel W g b n (min n1 n2) i wr) (fun i _ => n1 - (RowKit.intOf i).toNat)
  case atStart => exact ⟨0, z100, rfl, Nat.zero_le _, by decide, hL⟩
  case round =>
    obtain ⟨k, t, rfl, hk, hk1, hh⟩ := hrel
    clear hL
    have HH := Lib.hid hh
    have HB := Lib.hid hh.below
    by_cases hlt : k < n1 ∧ k < n2 ∧ k < 100
    · obtain ⟨s, hs⟩ : ∃ s, l1[k]? = some s := ⟨l1[k]'(by have := HL1.out; omega), List.getElem?_eq_getElem _⟩
      obtain ⟨y, hy⟩ : ∃ y, l2[k]? = some y := ⟨l2[k]'(by have := HL2.out; omega), List.getElem?_eq_getElem _⟩
      obtain ⟨b1, o1, rfl, hc1⟩ := HR1.out.at_ hh.below hs
      obtain ⟨b2, o2, rfl, hc2⟩ := HR2.out.at_ hh.below hy
      obtain ⟨hs0, hs1⟩ := HU.out s (List.mem_of_getElem? hs)
      obtain ⟨j, hj⟩ : ∃ j : Nat, s % 110 = (j : Int) := ⟨(s % 110).toNat, by omega⟩
      have HLT := Lib.hid hlt
      have hk2 : k < n2 := hlt.2.1
      have i0 : decide ((k : Int) < (n1 : Int)) = true := decide_eq_true (by omega)
      have i1 : decide ((k : Int) < (n2 : Int)) = true := decide_eq_true (by omega)
      have i2 : decide ((k : Int) < 100) = true := decide_eq_true (by omega)
      have HY2 := Lib.hid hy
      clear hs hy hh
      go_upto_region 14 with fail
      rw [hj]
      clear i0 i1 i2 hj hc1 hs0 hs1
      by_cases hjn : j < n
      · have j0 : decide ((j : Int) < (n : Int)) = true := decide_eq_true (by omega)
        have HP := Lib.hid (HH.out.put hn1.2 hjn y)
        obtain ⟨y0, hy0⟩ : ∃ y0, t[j]? = some y0 := ⟨t[j]'(by have := HH.out.len; omega), List.getElem?_eq_getElem _⟩
        have HY := Lib.hid hy0
        have j1 : (j : Int) < 100 := by omega
        clear hy0 hlt
        go_wp2_with (go_at_call 13; ((with_reducible refine HP.out.mono ?_); rintro e w5 ⟨rfl, hb5, hB5, h5⟩; obtain ⟨bq, oq, hq, hc3⟩ := HR2.out.at_ hB5 HY2.out; obtain ⟨rfl, rfl⟩ : bq = b2 ∧ oq = o2 := (by simp at hq; exact ⟨hq.1.symm, hq.2.symm⟩); have y5 := wt_cell hb5 HY.out; have f5 := blk_frozen hb5 j; have H5 := Lib.hid h5; clear hb5 hB5 h5 hq))
        go_roundw
        case rel => exact ⟨k + 1, _, by go_num, by have := HLT.out; omega, HLT.out.2.2, H5.out⟩
        case measure => have := HLT.out; simp [RowKit.intOf]; omega
      · have j0 : decide ((j : Int) < (n : Int)) = false := decide_eq_false (by omega)
        have HP := Lib.hid (HH.out.miss hn1.2 hjn y)
        clear hlt
        go_wp2_with (go_at_call 13; ((with_reducible refine HP.out.mono ?_); rintro e w5 ⟨rfl, h5⟩))
        go_roundw
        case rel => exact ⟨k + 1, _, by go_num, by have := HLT.out; omega, HLT.out.2.2, h5⟩
        case measure => have := HLT.out; simp [RowKit.intOf]; omega
    · have hH := HH.out
      clear hh
      by_cases h1 : k < n1
      · have i0 : decide ((k : Int) < (n1 : Int)) = true := decide_eq_true (by omega)
        by_cases h2 : k < n2
        · have i1 : decide ((k : Int) < (n2 : Int)) = true := decide_eq_true (by omega)
          have i2 : decide ((k : Int) < 100) = false := decide_eq_false (by omega)
          clear hlt
          go_wp2
          go_loopw [14] (fun i wr => LRel2 W g b n t i wr) (fun i _ => 100 - (RowKit.intOf i).toNat)
          case atStart => exact ⟨0, rfl, by decide, hH⟩
          case round =>
            obtain ⟨j, rfl, hj, hh⟩ := hrel
            by_cases hj1 : j < 100
            · have j0 : decide ((j : Int) < 100) = true := decide_eq_true (by omega)
              have HG := Lib.hid (hh.get hn1.2 hj1)
              obtain ⟨y0, hy0⟩ : ∃ y0, t[j]? = some y0 := ⟨t[j]'(by have := hh.len; omega), List.getElem?_eq_getElem _⟩
              have hg0 : t.getD j 0 = y0 := by rw [List.getD_eq_getElem?_getD, hy0]; rfl
              rw [hg0] at HG
              have HY := Lib.hid hy0
              have i3 : (j : Int) < 100 := by omega
              clear hy0 hg0 hh hH
              have HJ : Hid (j < 100) := Lib.hid hj1
              by_cases hjn : j < n
              · have j1 : decide ((j : Int) < (n : Int)) = true := decide_eq_true (by omega)
                have j2 : decide (j < n) = true := decide_eq_true hjn
                go_wp2_with (go_at_call 15; ((with_reducible refine HG.out.mono ?_); rintro e w5 ⟨rfl, h5⟩; have y5 := wt_cell h5.box HY.out; have H5 := Lib.hid h5; clear h5))
                go_roundw
                case rel => exact ⟨j + 1, by go_num, HJ.out, H5.out⟩
                case measure => have := HJ.out; simp [RowKit.intOf]; omega
              · have j1 : decide ((j : Int) < (n : Int)) = false := decide_eq_false (by omega)
                have j2 : decide (j < n) = false := decide_eq_false hjn
                go_wp2_with (go_at_call 15; ((with_reducible refine HG.out.mono ?_); rintro e w5 ⟨rfl, h5⟩; have y5 := wt_cell h5.box HY.out; have H5 := Lib.hid h5; clear h5))
                go_roundw
                case rel => exact ⟨j + 1, by go_num, HJ.out, H5.out⟩
                case measure => have := HJ.out; simp [RowKit.intOf]; omega
            · have j0 : decide ((j : Int) < 100) = false := decide_eq_false (by omega)
              have HUS := Lib.hid (hh.used hn1.2)
              clear hh hH
              go_wp2_with (go_at_call 17; ((with_reducible refine HUS.out.mono ?_); rintro e w5 ⟨rfl, h5⟩))
              go_ret
              exact ⟨rfl, h5.below⟩
        · have i1 : decide ((k : Int) < (n2 : Int)) = false := decide_eq_false (by omega)
          clear hlt
          go_wp2
          go_loopw [14] (fun i wr => LRel2 W g b n t i wr) (fun i _ => 100 - (RowKit.intOf i).toNat)
          case atStart => exact ⟨0, rfl, by decide, hH⟩
          case round =>
            obtain ⟨j, rfl, hj, hh⟩ := hrel
            by_cases hj1 : j < 100
            · have j0 : decide ((j : Int) < 100) = true := decide_eq_true (by omega)
              have HG := Lib.hid (hh.get hn1.2 hj1)
              obtain ⟨y0, hy0⟩ : ∃ y0, t[j]? = some y0 := ⟨t[j]'(by have := hh.len; omega), List.getElem?_eq_getElem _⟩
              have hg0 : t.getD j 0 = y0 := by rw [List.getD_eq_getElem?_getD, hy0]; rfl
              rw [hg0] at HG
              have HY := Lib.hid hy0
              have i3 : (j : Int) < 100 := by omega
              clear hy0 hg0 hh hH
              have HJ : Hid (j < 100) := Lib.hid hj1
              by_cases hjn : j < n
              · have j1 : decide ((j : Int) < (n : Int)) = true := decide_eq_true (by omega)
                have j2 : decide (j < n) = true := decide_eq_true hjn
                go_wp2_with (go_at_call 15; ((with_reducible refine HG.out.mono ?_); rintro e w5 ⟨rfl, h5⟩; have y5 := wt_cell h5.box HY.out; have H5 := Lib.hid h5; clear h5))
                go_roundw
                case rel => exact ⟨j + 1, by go_num, HJ.out, H5.out⟩
                case measure => have := HJ.out; simp [RowKit.intOf]; omega
              · have j1 : decide ((j : Int) < (n : Int)) = false := decide_eq_false (by omega)
                have j2 : decide (j < n) = false := decide_eq_false hjn
                go_wp2_with (go_at_call 15; ((with_reducible refine HG.out.mono ?_); rintro e w5 ⟨rfl, h5⟩; have y5 := wt_cell h5.box HY.out; have H5 := Lib.hid h5; clear h5))
                go_roundw
                case rel => exact ⟨j + 1, by go_num, HJ.out, H5.out⟩
                case measure => have := HJ.out; simp [RowKit.intOf]; omega
            · have j0 : decide ((j : Int) < 100) = false := decide_eq_false (by omega)
              have HUS := Lib.hid (hh.used hn1.2)
              clear hh hH
              go_wp2_with (go_at_call 17; ((with_reducible refine HUS.out.mono ?_); rintro e w5 ⟨rfl, h5⟩))
              go_ret
              exact ⟨rfl, h5.below⟩
      · have i0 : decide ((k : Int) < (n1 : Int)) = false := decide_eq_false (by omega)
        clear hlt
        go_wp2
        go_loopw [14] (fun i wr => LRel2 W g b n t i wr) (fun i _ => 100 - (RowKit.intOf i).toNat)
        case atStart => exact ⟨0, rfl, by decide, hH⟩
        case round =>
          obtain ⟨j, rfl, hj, hh⟩ := hrel
          by_cases hj1 : j < 100
          · have j0 : decide ((j : Int) < 100) = true := decide_eq_true (by omega)
            have HG := Lib.hid (hh.get hn1.2 hj1)
            obtain ⟨y0, hy0⟩ : ∃ y0, t[j]? = some y0 := ⟨t[j]'(by have := hh.len; omega), List.getElem?_eq_getElem _⟩
            have hg0 : t.getD j 0 = y0 := by rw [List.getD_eq_getElem?_getD, hy0]; rfl
            rw [hg0] at HG
            have HY := Lib.hid hy0
            have i3 : (j : Int) < 100 := by omega
            clear hy0 hg0 hh hH
            have HJ : Hid (j < 100) := Lib.hid hj1
            by_cases hjn : j < n
            · have j1 : decide ((j : Int) < (n : Int)) = true := decide_eq_true (by omega)
              have j2 : decide (j < n) = true := decide_eq_true hjn
              go_wp2_with (go_at_call 15; ((with_reducible refine HG.out.mono ?_); rintro e w5 ⟨rfl, h5⟩; have y5 := wt_cell h5.box HY.out; have H5 := Lib.hid h5; clear h5))
              go_roundw
              case rel => exact ⟨j + 1, by go_num, HJ.out, H5.out⟩
              case measure => have := HJ.out; simp [RowKit.intOf]; omega
            · have j1 : decide ((j : Int) < (n : Int)) = false := decide_eq_false (by omega)
              have j2 : decide (j < n) = false := decide_eq_false hjn
              go_wp2_with (go_at_call 15; ((with_reducible refine HG.out.mono ?_); rintro e w5 ⟨rfl, h5⟩; have y5 := wt_cell h5.box HY.out; have H5 := Lib.hid h5; clear h5))
              go_roundw
              case rel => exact ⟨j + 1, by go_num, HJ.out, H5.out⟩
              case measure => have := HJ.out; simp [RowKit.intOf]; omega
          · have j0 : decide ((j : Int) < 100) = false := decide_eq_false (by omega)
            have HUS := Lib.hid (hh.used hn1.2)
            clear hh hH
            go_wp2_with (go_at_call 17; ((with_reducible refine HUS.out.mono ?_); rintro e w5 ⟨rfl, h5⟩))
            go_ret
            exact ⟨rfl, h5.below⟩
end Go.Proofs.Ytimpobfilihhmaa
