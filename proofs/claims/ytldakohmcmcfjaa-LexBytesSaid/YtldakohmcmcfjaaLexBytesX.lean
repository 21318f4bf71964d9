/-
  LexBytes: the walk itself.
-/
import Derived.Test.YtldakohmcmcfjaaLexBytesW
import Derived.BigRegion
import Derived.Deep.RegionHeld
namespace Go.Proofs.Ytldakohmcmcfjaa
open Go Go.RowKit Go.Lib

theorem rowc1 (w : World) (c : UInt8) {fz : Nat × Nat} : Row (w.alloc (.cells #[.int .u8 (bv c)] 5 fz)) (some ⟨w.heap.size, 0, none⟩) [c] := row_new w _ _ _ rfl
theorem rowa (w : World) (c : UInt8) {fz : Nat × Nat} : Row (w.alloc (.cells #[.int .u8 97, .int .u8 (bv c)] 5 fz)) (some ⟨w.heap.size, 0, none⟩) [97, c] := row_new w _ _ _ rfl
theorem rowd (w : World) (c : UInt8) {fz : Nat × Nat} : Row (w.alloc (.cells #[.int .u8 55, .int .u8 (bv c)] 5 fz)) (some ⟨w.heap.size, 0, none⟩) [55, c] := row_new w _ _ _ rfl
theorem conv_c (w : World) (c : UInt8) : (convert 22 9 (.slice (some ⟨w.heap.size, 0, none⟩) 1 1)).run Try.prog (w.alloc (.cells #[.int .u8 (bv c)] 5)) = .ok (.string ⟨#[c]⟩) (w.alloc (.cells #[.int .u8 (bv c)] 5)) :=
  conv_row (rowc1 w c) rfl 1
theorem conv_cd (w : World) (c : UInt8) : (convert 22 9 (.slice (some ⟨w.heap.size, 0, none⟩) 1 1)).run Try.prog (w.alloc (.cells #[.int .u8 (bv c)] 5)).drew = .ok (.string ⟨#[c]⟩) (w.alloc (.cells #[.int .u8 (bv c)] 5)).drew :=
  conv_row (w := (w.alloc (.cells #[.int .u8 (bv c)] 5)).drew) (N := 1) (Row.below (w' := (w.alloc (.cells #[.int .u8 (bv c)] 5)).drew) (B := (w.alloc (.cells #[.int .u8 (bv c)] 5)).heap.size) (rowc1 w c) ⟨rfl, rfl, rfl, Nat.le_refl _, fun _ _ => rfl⟩ (Nat.le_refl _)) rfl 1

set_option maxHeartbeats 4000000 in
set_option maxRecDepth 100000 in
theorem bytes_walk (c : UInt8) (w : World) :
    Calls Try.prog 6 #[.int .u8 (bv c)] w fun e w' => e = .returned (.bool true) ∧ Fr w w' := by
  have hfr := Fr.refl w
  have HCL := Lib.hid (cls_all c)
  obtain ⟨hc0, hc1⟩ := bv_range c
  go_enter Try.func6, Try.ntmps6
  go_upto_region 2 with (go_at_call 10; ((with_reducible refine (shown_fr w _ (by assumption)).mono ?_); rintro e w1 ⟨rfl, h1⟩))
  go_cut [4] (fun s wx => s = .bool (letB (bv c)) ∧ wx = w1)
  case first =>
    as_aux_lemma =>
    go_wp2_with fail
    all_goals (go_meet; exact ⟨congrArg Value.bool (by unfold letB; rw [Bool.eq_iff_iff]; simp; omega), rfl⟩)
  case rest =>
  obtain ⟨rfl, rfl⟩ := hcut
  go_upto_region 3 with fail
  go_cut [5] (fun s wx => s = .bool (digB (bv c)) ∧ wx = wc)
  case first =>
    as_aux_lemma =>
    go_wp2_with fail
    all_goals (go_meet; exact ⟨congrArg Value.bool (by unfold digB; rw [Bool.eq_iff_iff]; simp; omega), rfl⟩)
  case rest =>
  obtain ⟨rfl, rfl⟩ := hcut
  go_upto_region 4 with fail
  go_cut [6] (fun s wx => s = .bool (blkB (bv c) || bv c == 35) ∧ wx = wc)
  case first =>
    as_aux_lemma =>
    cases b1 : (bv c == 9) with
    | true => go_wp2_with fail; go_meet; exact ⟨congrArg Value.bool (by unfold blkB; rw [b1]; simp), rfl⟩
    | false =>
      cases b2 : (bv c == 10) with
      | true => go_wp2_with fail; go_meet; exact ⟨congrArg Value.bool (by unfold blkB; rw [b1, b2]; simp), rfl⟩
      | false =>
        cases b3 : (bv c == 13) with
        | true => go_wp2_with fail; go_meet; exact ⟨congrArg Value.bool (by unfold blkB; rw [b1, b2, b3]; simp), rfl⟩
        | false =>
          cases b4 : (bv c == 32) with
          | true => go_wp2_with fail; go_meet; exact ⟨congrArg Value.bool (by unfold blkB; rw [b1, b2, b3, b4]; simp), rfl⟩
          | false =>
            cases b5 : (bv c == 35) with
            | true => go_wp2_with fail; go_meet; exact ⟨congrArg Value.bool (by unfold blkB; rw [b1, b2, b3, b4, b5]; simp), rfl⟩
            | false =>
              go_wp2_with fail; go_meet; exact ⟨congrArg Value.bool (by unfold blkB; rw [b1, b2, b3, b4, b5]; rfl), rfl⟩
  case rest =>
  obtain ⟨rfl, rfl⟩ := hcut
  go_wp2_with fail
  obtain ⟨ms, hms⟩ : ∃ ms : ByteArray, ms = ⟨#[40, 41, 123, 125, 91, 93, 44, 59, 61, 43, 45, 42, 47, 37, 60, 33, 38, 124]⟩ := ⟨_, rfl⟩
  rw [← hms]
  have HMS := Lib.hid (show bs ms = marksL by rw [hms]; rfl)
  have hs : ms.size ≤ 18 := by rw [hms]; decide
  clear hms
  go_loop [7, 9] (fun mk i => ∃ k : Nat, k ≤ ms.size ∧ i = .int .i64 k ∧ mk = .bool (hasB ((bs ms).take k) (bv c))) (fun _ i => ms.size - (intOf i).toNat)
  case atStart => exact ⟨0, Nat.zero_le _, rfl, rfl⟩
  case round =>
  obtain ⟨k, hk, rfl, rfl⟩ := hrel
  by_cases hlt : k < ms.size
  · have hsk := bs_nth ms k hlt
    have HT := Lib.hid (hasB_take (bs ms) (bv c) k (by rw [bs_length]; exact hlt))
    obtain ⟨z, hz⟩ : ∃ z, nth (bs ms) k = z := ⟨_, rfl⟩
    rw [hz] at hsk HT
    clear hz
    obtain ⟨u, hu⟩ : ∃ u, u = hasB ((bs ms).take k) (bv c) := ⟨_, rfl⟩
    rw [← hu] at HT ⊢
    clear hu
    cases u with
    | true =>
      as_aux_lemma =>
        go_wp2
        go_round
        case rel => exact ⟨k + 1, by omega, by go_num, by rw [HT.out]; rfl⟩
        case measure => simp [intOf]; omega
    | false =>
      as_aux_lemma =>
        go_wp2
        go_round
        case rel => exact ⟨k + 1, by omega, by go_num, by rw [HT.out]; rfl⟩
        case measure => simp [intOf]; omega
  · have ek : k = ms.size := by omega
    have HK := Lib.hid (show hasB ((bs ms).take k) (bv c) = hasB marksL (bv c) by rw [List.take_of_length_le (by rw [bs_length]; omega), HMS.out])
    rw [HK.out]
    clear ek
    rcases HCL.out with h | h | h | h | h | h
    · have H1 := Lib.hid h.l1; have H2 := Lib.hid h.l2; have H3 := Lib.hid h.l3
      have hU := h.hU
      rw [h.hL, h.hD, h.hB, h.hM]
      clear h
      as_aux_lemma =>
        go_upto_region 21 with (first
          | (go_at_call 11; ((with_reducible refine (lex_ok _ 1 _ 2 [c] [⟨1, [c], 0⟩] _ rfl (by decide) (by decide) (rowc1 _ c) H1.out rfl).mono ?_); rintro e w2 ⟨g1, c1, rfl, hg1, hc1, ht1, hb2⟩))
          | (go_at_call 11; ((with_reducible refine (lex_ok _ 2 _ 2 [97, c] [⟨1, [97, c], 0⟩] _ rfl (by decide) (by decide) (rowa _ c) H2.out rfl).mono ?_); rintro e w3 ⟨g2, c2, rfl, hg2, hc2, ht2, hb3⟩))
          | (go_at_call 11; ((with_reducible refine (lex_no _ 2 _ [55, c] 1 _ rfl (by decide) (by decide) (rowd _ c) H3.out).mono ?_); rintro e w4 ⟨rfl, hb4⟩)))
        have h4 : Fr w w4 := (((((h1.alloc _).below hb2).alloc _).below hb3).alloc _).below hb4
        have t1 := (((ht1.alloc _).past hb3).alloc _).past hb4
        have y1 : w4.cell? ⟨g1, 0, none⟩ = some (.int .i64 1) := (t1.2 0 _ rfl).1
        have y2 : w4.cell? ⟨g1, 1, none⟩ = some (.string ⟨#[c]⟩) := (t1.2 0 _ rfl).2.1
        have ne1 : g1 < w4.heap.size := t1.1
        go_cut [126] (fun v wx => v = .bool false ∧ Fr w wx)
        case first =>
          have hcv := fun wr : World => conv_c wr c
          have hcvd := fun wr : World => conv_cd wr c
          go_region_held (fun w' => w'.cell? ⟨g1, 0, none⟩ = some (.int .i64 1) ∧ w'.cell? ⟨g1, 1, none⟩ = some (.string ⟨#[c]⟩)) (go_keep) (first | fail)
          all_goals (go_wp2_with fail; go_meet; exact ⟨rfl, below_drew (h4.alloc _) 1⟩)
        case rest =>
        obtain ⟨rfl, h5⟩ := hcut
        clear h4
        go_wp2
        go_ret
        exact ⟨rfl, h5⟩
    · have H1 := Lib.hid h.l1; have H2 := Lib.hid h.l2; have H3 := Lib.hid h.l3
      have hU := h.hU
      rw [h.hL, h.hD, h.hB, h.hM]
      clear h
      as_aux_lemma =>
        go_upto_region 21 with (first
          | (go_at_call 11; ((with_reducible refine (lex_ok _ 1 _ 2 [c] [⟨2, [c], 0⟩] _ rfl (by decide) (by decide) (rowc1 _ c) H1.out rfl).mono ?_); rintro e w2 ⟨g1, c1, rfl, hg1, hc1, ht1, hb2⟩))
          | (go_at_call 11; ((with_reducible refine (lex_ok _ 2 _ 2 [97, c] [⟨1, [97, c], 0⟩] _ rfl (by decide) (by decide) (rowa _ c) H2.out rfl).mono ?_); rintro e w3 ⟨g2, c2, rfl, hg2, hc2, ht2, hb3⟩))
          | (go_at_call 11; ((with_reducible refine (lex_ok _ 2 _ 2 [55, c] [⟨2, [55, c], 0⟩] _ rfl (by decide) (by decide) (rowd _ c) H3.out rfl).mono ?_); rintro e w4 ⟨g3, c3, rfl, hg3, hc3, ht3, hb4⟩)))
        have h4 : Fr w w4 := (((((h1.alloc _).below hb2).alloc _).below hb3).alloc _).below hb4
        have t1 := (((ht1.alloc _).past hb3).alloc _).past hb4
        have y1 : w4.cell? ⟨g1, 0, none⟩ = some (.int .i64 2) := (t1.2 0 _ rfl).1
        have y2 : w4.cell? ⟨g1, 1, none⟩ = some (.string ⟨#[c]⟩) := (t1.2 0 _ rfl).2.1
        have ne1 : g1 < w4.heap.size := t1.1
        go_cut [126] (fun v wx => v = .bool false ∧ Fr w wx)
        case first =>
          have hcv := fun wr : World => conv_c wr c
          have hcvd := fun wr : World => conv_cd wr c
          go_region_held (fun w' => w'.cell? ⟨g1, 0, none⟩ = some (.int .i64 2) ∧ w'.cell? ⟨g1, 1, none⟩ = some (.string ⟨#[c]⟩)) (go_keep) (first | fail)
          all_goals (go_wp2_with fail; go_meet; exact ⟨rfl, below_drew (h4.alloc _) 1⟩)
        case rest =>
        obtain ⟨rfl, h5⟩ := hcut
        clear h4
        go_wp2
        go_ret
        exact ⟨rfl, h5⟩
    · have H1 := Lib.hid h.l1; have H2 := Lib.hid h.l2; have H3 := Lib.hid h.l3
      have hU := h.hU
      rw [h.hL, h.hD, h.hB, h.hM]
      clear h
      as_aux_lemma =>
        go_upto_region 21 with (first
          | (go_at_call 11; ((with_reducible refine (lex_ok _ 1 _ 1 [c] [] _ rfl (by decide) (by decide) (rowc1 _ c) H1.out rfl).mono ?_); rintro e w2 ⟨g1, c1, rfl, hg1, hc1, ht1, hb2⟩))
          | (go_at_call 11; ((with_reducible refine (lex_ok _ 2 _ 2 [97, c] [⟨1, [97], 0⟩] _ rfl (by decide) (by decide) (rowa _ c) H2.out rfl).mono ?_); rintro e w3 ⟨g2, c2, rfl, hg2, hc2, ht2, hb3⟩))
          | (go_at_call 11; ((with_reducible refine (lex_ok _ 2 _ 2 [55, c] [⟨2, [55], 0⟩] _ rfl (by decide) (by decide) (rowd _ c) H3.out rfl).mono ?_); rintro e w4 ⟨g3, c3, rfl, hg3, hc3, ht3, hb4⟩)))
        have h4 : Fr w w4 := (((((h1.alloc _).below hb2).alloc _).below hb3).alloc _).below hb4
        go_quiet (fail)
        go_wp2
        go_ret
        exact ⟨rfl, below_drew h4 _⟩
    · have H1 := Lib.hid h.l1; have H2 := Lib.hid h.l2; have H3 := Lib.hid h.l3
      have hU := h.hU
      rw [h.hL, h.hD, h.hB, h.hM]
      clear h
      as_aux_lemma =>
        go_upto_region 21 with (first
          | (go_at_call 11; ((with_reducible refine (lex_ok _ 1 _ 2 [c] [⟨3, [c], 0⟩] _ rfl (by decide) (by decide) (rowc1 _ c) H1.out rfl).mono ?_); rintro e w2 ⟨g1, c1, rfl, hg1, hc1, ht1, hb2⟩))
          | (go_at_call 11; ((with_reducible refine (lex_ok _ 2 _ 3 [97, c] [⟨1, [97], 0⟩, ⟨3, [c], 1⟩] _ rfl (by decide) (by decide) (rowa _ c) H2.out rfl).mono ?_); rintro e w3 ⟨g2, c2, rfl, hg2, hc2, ht2, hb3⟩))
          | (go_at_call 11; ((with_reducible refine (lex_ok _ 2 _ 3 [55, c] [⟨2, [55], 0⟩, ⟨3, [c], 1⟩] _ rfl (by decide) (by decide) (rowd _ c) H3.out rfl).mono ?_); rintro e w4 ⟨g3, c3, rfl, hg3, hc3, ht3, hb4⟩)))
        have h4 : Fr w w4 := (((((h1.alloc _).below hb2).alloc _).below hb3).alloc _).below hb4
        have t1 := (((ht1.alloc _).past hb3).alloc _).past hb4
        have y1 : w4.cell? ⟨g1, 0, none⟩ = some (.int .i64 3) := (t1.2 0 _ rfl).1
        have y2 : w4.cell? ⟨g1, 1, none⟩ = some (.string ⟨#[c]⟩) := (t1.2 0 _ rfl).2.1
        have ne1 : g1 < w4.heap.size := t1.1
        go_cut [126] (fun v wx => v = .bool false ∧ Fr w wx)
        case first =>
          have hcv := fun wr : World => conv_c wr c
          have hcvd := fun wr : World => conv_cd wr c
          go_region_held (fun w' => w'.cell? ⟨g1, 0, none⟩ = some (.int .i64 3) ∧ w'.cell? ⟨g1, 1, none⟩ = some (.string ⟨#[c]⟩)) (go_keep) (first | fail)
          all_goals (go_wp2_with fail; go_meet; exact ⟨rfl, below_drew (h4.alloc _) 1⟩)
        case rest =>
        obtain ⟨rfl, h5⟩ := hcut
        clear h4
        go_wp2
        go_ret
        exact ⟨rfl, h5⟩
    · have H1 := Lib.hid h.l1; have H2 := Lib.hid h.l2; have H3 := Lib.hid h.l3
      have hU := h.hU
      rw [h.hL, h.hD, h.hB, h.hM]
      clear h
      as_aux_lemma =>
        go_upto_region 21 with (first
          | (go_at_call 11; ((with_reducible refine (lex_no _ 1 _ [c] 0 _ rfl (by decide) (by decide) (rowc1 _ c) H1.out).mono ?_); rintro e w2 ⟨rfl, hb2⟩))
          | (go_at_call 11; ((with_reducible refine (lex_ok _ 2 _ 2 [97, c] [⟨1, [97, c], 0⟩] _ rfl (by decide) (by decide) (rowa _ c) H2.out rfl).mono ?_); rintro e w3 ⟨g2, c2, rfl, hg2, hc2, ht2, hb3⟩))
          | (go_at_call 11; ((with_reducible refine (lex_no _ 2 _ [55, c] 1 _ rfl (by decide) (by decide) (rowd _ c) H3.out).mono ?_); rintro e w4 ⟨rfl, hb4⟩)))
        have h4 : Fr w w4 := (((((h1.alloc _).below hb2).alloc _).below hb3).alloc _).below hb4
        go_quiet (fail)
        go_wp2
        go_ret
        exact ⟨rfl, below_drew h4 _⟩
    · have H1 := Lib.hid h.l1; have H2 := Lib.hid h.l2; have H3 := Lib.hid h.l3
      have hU := h.hU
      rw [h.hL, h.hD, h.hB, h.hM]
      clear h
      as_aux_lemma =>
        go_upto_region 21 with (first
          | (go_at_call 11; ((with_reducible refine (lex_no _ 1 _ [c] 0 _ rfl (by decide) (by decide) (rowc1 _ c) H1.out).mono ?_); rintro e w2 ⟨rfl, hb2⟩))
          | (go_at_call 11; ((with_reducible refine (lex_no _ 2 _ [97, c] 1 _ rfl (by decide) (by decide) (rowa _ c) H2.out).mono ?_); rintro e w3 ⟨rfl, hb3⟩))
          | (go_at_call 11; ((with_reducible refine (lex_no _ 2 _ [55, c] 1 _ rfl (by decide) (by decide) (rowd _ c) H3.out).mono ?_); rintro e w4 ⟨rfl, hb4⟩)))
        have h4 : Fr w w4 := (((((h1.alloc _).below hb2).alloc _).below hb3).alloc _).below hb4
        go_quiet (fail)
        go_wp2
        go_ret
        exact ⟨rfl, below_drew h4 _⟩

end Go.Proofs.Ytldakohmcmcfjaa
