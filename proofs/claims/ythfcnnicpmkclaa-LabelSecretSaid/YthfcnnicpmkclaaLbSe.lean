/-
  LabelSecret, walked.
-/
import Derived.Test.YthfcnnicpmkclaaLbN
namespace Go.Proofs.Ythfcnnicpmkclaa
open Go Go.RowKit Go.Lib

abbrev nX1 : ByteArray := ⟨#[88]⟩
abbrev nx1 : ByteArray := ⟨#[120]⟩
/-- Which operations tell what they are over. -/
def tellB (k : Int) : Bool := k == 1 || k == 2 || k == 5 || k == 7 || k == 8 || k == 9
theorem tellB_own (k : Nat) (hk : k ≤ 9) (x : Bool) : ownS true (k : Int) nx1 [x] = (tellB k && x) := by
  have : k = 0 ∨ k = 1 ∨ k = 2 ∨ k = 3 ∨ k = 4 ∨ k = 5 ∨ k = 6 ∨ k = 7 ∨ k = 8 ∨ k = 9 := by omega
  rcases this with rfl | rfl | rfl | rfl | rfl | rfl | rfl | rfl | rfl | rfl <;> cases x <;> rfl
abbrev keepSetO (g : Nat) : Obj := .cells #[.int .i64 6, .string no, .int .i64 0, .slice (some ⟨g, 0, none⟩) 1 1, .slice none 0 0, .slice none 0 0, .int .i64 1, .string nX1, .int .i64 0, .slice (some ⟨g, 0, none⟩) 1 1, .slice none 0 0, .slice none 0 0] 42
abbrev keepSetS (op n : Int) (s : ByteArray) (l : ES) : SS := .cons 6 no 0 (.cons op n s l .nil) .nil .nil (over 1 nX1 op n s l)
theorem put_two (W wx : World) (h : Below W.heap.size W wx) (g : Nat) (op n : Int) (s : ByteArray) (l : ES) (d : Nat) (he : EV W.heap.size W (.slice (some ⟨g, 0, none⟩) 1 1) (.cons (plOp op) n s (l.pl d) .nil)) (hs : s.size ≤ 140737488351232) (hl : l.len * 56 ≤ 140737488351232) (ht : l.thin) :
    Calls Try.prog 11 #[.agg #[.slice none 0 0, .slice (some ⟨wx.heap.size, 0, none⟩) 2 2]] (wx.alloc (keepSetO g)) fun e w' => e = .returned (.int .i64 0) ∧ Below wx.heap.size wx w' := by
  have hw : Below wx.heap.size wx (wx.alloc (keepSetO g)) := (Below.refl _ _).alloc (Nat.le_refl _) _
  have hW : Below W.heap.size W (wx.alloc (keepSetO g)) := h.trans (hw.mono h.size)
  have ev := EV.below he hW hW.size
  have ht1 : (over 1 nX1 (plOp op) n s (l.pl d)).thin := over_thin (by decide) hs hl ht
  have htt : (keepSetS (plOp op) n s (l.pl d)).tells [] true = false := by
    rw [SS.tells, over_tells]
    simp only [ES.tells, ES.pl_tells, plOp_own, SS.tells, Bool.or_false, Bool.false_or]
    rfl
  exact (check_in _ ⟨[], keepSetS (plOp op) n s (l.pl d)⟩ _ _ _ (Below.refl _ _) (Nat.le_refl _) (pg_v rfl rfl (fv_nil _ _) (sv_two (heap_alloc_new wx (keepSetO g)) ev (sv_nil _ _) (sv_nil _ _) (okE_of (by decide) (by decide) (by decide)) ev (sv_nil _ _) (sv_nil _ _) (okE_of (by decide) (by decide) (by decide)))) (fun f hf => by cases hf)
    ⟨⟨by decide, by simp [ES.len], by simp [SS.len], by simp [SS.len]⟩, ht1.2.1, trivial, trivial, ht1⟩).mono fun e w' hq => ⟨by rw [hq.1, Pg.tells, htt]; rfl, hw.trans (hq.2.mono hw.size)⟩
abbrev anyO (k : Int) (g : Nat) : Obj := .cells #[.int .i64 k, .string nx1, .int .i64 0, .slice (some ⟨g, 0, none⟩) 1 1, .slice none 0 0, .slice none 0 0] 42
theorem put_one (W wx : World) (h : Below W.heap.size W wx) (g : Nat) (k : Nat) (hk : k ≤ 9) (op n : Int) (s : ByteArray) (l : ES) (d : Nat) (he : EV W.heap.size W (.slice (some ⟨g, 0, none⟩) 1 1) (.cons (plOp op) n s (l.pl d) .nil)) (hs : s.size ≤ 140737488351232) (hl : l.len * 56 ≤ 140737488351232) (ht : l.thin) (x : Bool) (hx : secB (plOp op) s (l.pl d).sec = x) :
    Calls Try.prog 11 #[.agg #[.slice none 0 0, .slice (some ⟨wx.heap.size, 0, none⟩) 1 1]] (wx.alloc (anyO k g)) fun e w' => e = .returned (.int .i64 (if tellB k && x then 5 else 0)) ∧ Below wx.heap.size wx w' := by
  have hw : Below wx.heap.size wx (wx.alloc (anyO k g)) := (Below.refl _ _).alloc (Nat.le_refl _) _
  have hW : Below W.heap.size W (wx.alloc (anyO k g)) := h.trans (hw.mono h.size)
  have htt : (over k nx1 (plOp op) n s (l.pl d)).tells [] true = (tellB k && x) := by rw [over_tells, hx, tellB_own k hk]
  exact (check_in _ ⟨[], over k nx1 (plOp op) n s (l.pl d)⟩ _ _ _ (Below.refl _ _) (Nat.le_refl _) (pg_v rfl rfl (fv_nil _ _) (sv_one (heap_alloc_new wx (anyO k g)) (EV.below he hW hW.size) (sv_nil _ _) (sv_nil _ _) (okE_of (by omega) (by decide) (by decide)))) (fun f hf => by cases hf)
    (over_thin (by decide) hs hl ht)).mono fun e w' hq => ⟨by rw [hq.1, Pg.tells, htt]; simp [fsTell, errOf], hw.trans (hq.2.mono hw.size)⟩

set_option maxRecDepth 100000 in
set_option maxHeartbeats 8000000 in
theorem secret_walk (v : Value) (op n : Int) (nm : ByteArray) (l : ES) (w : World) (hv : EsV w.heap.size w v op n nm l) (hz : nm.size ≤ 140737488351232 ∧ l.len * 56 ≤ 140737488351232) (ht : l.thin) :
    Calls Try.prog 5 #[v] w fun e w' => e = .returned (.bool true) ∧ Fr w w' := by
  have hmx : Try.prog.follows .mixedOrders = true := by kernel_rfl
  obtain ⟨vl, rfl, he, ho⟩ := hv
  have HS := Lib.hid shown_fr
  have HE := Lib.hid he
  have HO := Lib.hid (show okE op n nm from ho)
  obtain ⟨A, cap, rfl, hcap⟩ := id he
  have hop := ho.1
  have hnn := ho.2.1
  clear he hcap ho
  obtain ⟨len, hlen⟩ : ∃ len, l.len = len := ⟨_, rfl⟩
  rw [hlen] at HE ⊢
  clear hlen
  have HT := Lib.hid ht
  have HZ := Lib.hid hz
  clear ht hz
  go_enter Try.func5, Try.ntmps5
  go_upto_region 2 with (go_at_call 10; ((with_reducible refine (HS.out _).mono ?_); rintro e w1 ⟨rfl, hf1⟩))
  have q0 := (hf1.block w.heap.size (by simp only [World.size_alloc]; omega)).trans (heap_alloc_new w _)
  have f1 : Below w.heap.size w w1 := Fr.step ((Below.refl w.heap.size w).alloc (Nat.le_refl _) _) hf1
  have HP := Lib.hid (plain_60 op n nm (.slice A len cap) l w1 (EV.below HE.out f1 f1.size) HZ.out.2 HT.out HO.out)
  have HF1 := Lib.hid f1
  obtain ⟨x0, x1, x2, x3⟩ := box4 q0
  have Q0 := Lib.hid q0
  have hl0 := lt_heap q0
  clear q0 f1 hf1
  go_upto_region 3 with (go_at_call 17; ((refine HP.out.mono ?_); rintro e w2 ⟨⟨v2, rfl, ⟨A2, k2, c2, rfl⟩, hrob⟩, hb2⟩; have q2 := (hb2.block _ hl0).trans Q0.out; obtain ⟨y0, y1, y2, y3⟩ := box4 q2; have g0 := box_frozen q2 0; have g1 := box_frozen q2 1; have g2 := box_frozen q2 2; have g3 := box_frozen q2 3; have hl2 := lt_heap q2))
  obtain ⟨W3, hW3⟩ : ∃ W, (((w2.setCell ⟨w.heap.size, 0, none⟩ (.int .i64 (plOp op))).setCell ⟨w.heap.size, 1, none⟩ (.int .i64 n)).setCell ⟨w.heap.size, 2, none⟩ (.string nm)).setCell ⟨w.heap.size, 3, none⟩ (.slice A2 k2 c2) = W := ⟨_, rfl⟩
  obtain ⟨r0, r1, r2⟩ := put_box q2 hl0 hrob (HF1.out.trans (hb2.mono HF1.out.size)) W3 hW3
  rw [hW3]
  clear hW3 q2 hrob hb2 x0 x1 x2 x3 y0 y1 y2 y3 g0 g1 g2 g3 hl2 hl0
  obtain ⟨z0, z1, z2, z3⟩ := box4 r0
  have hl3 := lt_heap r0
  have R0 := Lib.hid r0
  have R1 := Lib.hid r1
  have R2 := Lib.hid r2
  clear r0 r1 r2
  go_upto_region 4 with fail
  obtain ⟨W4, hW4⟩ : ∃ W, W3.alloc (exO (plOp op) n nm (.slice A2 k2 c2)) = W := ⟨_, rfl⟩
  have m0 : W4.heap[W3.heap.size]? = some (exO (plOp op) n nm (.slice A2 k2 c2)) := by rw [← hW4]; exact heap_alloc_new W3 _
  have m2 : W4.heap[w.heap.size]? = some (exO (plOp op) n nm (.slice A2 k2 c2)) := by rw [← hW4]; exact old_at R0.out
  have mb : Below W3.heap.size W3 W4 := by rw [← hW4]; exact (Below.refl _ _).alloc (Nat.le_refl _) _
  rw [hW4]
  clear hW4 z0 z1 z2 z3 hl3
  have e4 : EV W4.heap.size W4 (.slice A2 k2 c2) (l.pl 60) := EV.below R1.out mb mb.size
  have f4 : Below w.heap.size w W4 := R2.out.trans (mb.mono R2.out.size)
  have okp := plOp_ok HO.out
  have ev := ev_one m0 e4 okp
  obtain ⟨g, hg⟩ : ∃ g, W3.heap.size = g := ⟨_, rfl⟩
  rw [hg] at ev m0 ⊢
  obtain ⟨x, hx⟩ : ∃ x, secB (plOp op) nm (l.pl 60).sec = x := ⟨_, rfl⟩
  have HOf := Lib.hid (fun wx (h : Below W4.heap.size W4 wx) => of_any (plOp op) n nm (.slice A2 k2 c2) (l.pl 60) W4.heap.size wx (EV.below e4 h (Nat.le_refl _)) h.size okp.2.2)
  have HC2 := Lib.hid (put_two W4 W4 (Below.refl _ _) g op n nm l 60 ev HZ.out.1 HZ.out.2 HT.out)
  have HC1 := Lib.hid (fun wx (h : Below W4.heap.size W4 wx) (k : Nat) (hk : k ≤ 9) => put_one W4 wx h g k hk op n nm l 60 ev HZ.out.1 HZ.out.2 HT.out x hx)
  rw [hx] at HOf
  have HF4 := Lib.hid f4
  have M2 := Lib.hid m2
  have hl4 := lt_heap m2
  clear hx okp f4 e4 mb m0 m2 hg ev
  go_upto_region 7 with (go_at_call 11; ((with_reducible refine HC2.out.mono ?_); rintro e w5 ⟨rfl, hb5⟩))
  have m5 := (hb5.block _ hl4).trans M2.out
  obtain ⟨z0, z1, z2, z3⟩ := box4 m5
  have hl5 := lt_heap m5
  have hb5' := Lib.hid hb5
  clear hb5 m5
  cases x
  all_goals
    go_upto_region 10 with (go_at_call 13; ((with_reducible refine (HOf.out _ hb5'.out).mono ?_); rintro e w6 ⟨rfl, hb6⟩))
    have HB6 := Lib.hid (hb5'.out.trans (hb6.mono hb5'.out.size))
    clear hb6 z0 z1 z2 z3 hl5
    go_wp2
    go_loopw [7] (fun i wr => ∃ k : Nat, i = .int .i64 k ∧ 1 ≤ k ∧ k ≤ 10 ∧ Below W4.heap.size W4 wr) (fun i _ => 10 - (intOf i).toNat)
    case atStart => exact ⟨1, rfl, by decide, by decide, HB6.out⟩
    case round =>
      obtain ⟨k, rfl, hk1, hk2, hbw⟩ := hrel
      have HBW := Lib.hid hbw
      clear hbw
      by_cases hk9 : k ≤ 9
      · go_upto_region 14 with fail
        obtain ⟨W5, hW5⟩ : ∃ W, wr.alloc (anyO k g) = W := ⟨_, rfl⟩
        have n5 : W5.heap[wr.heap.size]? = some (anyO k g) := by rw [← hW5]; exact heap_alloc_new wr _
        have hb7 : Below W4.heap.size W4 W5 := by rw [← hW5]; exact HBW.out.alloc HBW.out.size _
        rw [hW5]
        clear hW5
        go_cut [9] (fun v wx => v = .bool (tellB k) ∧ wx = W5)
        case first =>
          by_cases h1 : k = 1
          · subst h1; go_wp2_with fail; go_meet; exact ⟨rfl, rfl⟩
          · by_cases h2 : k = 2
            · subst h2; go_wp2_with fail; go_meet; exact ⟨rfl, rfl⟩
            · by_cases h5 : k = 5
              · subst h5; go_wp2_with fail; go_meet; exact ⟨rfl, rfl⟩
              · by_cases h7 : k = 7
                · subst h7; go_wp2_with fail; go_meet; exact ⟨rfl, rfl⟩
                · by_cases h8 : k = 8
                  · subst h8; go_wp2_with fail; go_meet; exact ⟨rfl, rfl⟩
                  · by_cases h9 : k = 9
                    · subst h9; go_wp2_with fail; go_meet; exact ⟨rfl, rfl⟩
                    · go_wp2_with fail
                      go_meet
                      exact ⟨rfl, rfl⟩
        case rest =>
          obtain ⟨rfl, rfl⟩ := hcut
          have hc := HC1.out wc hb7 k hk9
          obtain ⟨t, ht⟩ : ∃ t, tellB k = t := ⟨_, rfl⟩
          rw [ht] at hc ⊢
          clear ht
          have c0 := (box_cell n5 0).trans rfl
          have c1 := (box_cell n5 1).trans rfl
          have c2 := (box_cell n5 2).trans rfl
          have c3 := (box_cell n5 3).trans rfl
          have c4 := (box_cell n5 4).trans rfl
          have c5 := (box_cell n5 5).trans rfl
          have HB7 := Lib.hid hb7
          have HCC := Lib.hid hc
          clear hc hb7
          cases t
          all_goals
            simp only [Bool.and_false, Bool.and_true, Bool.false_eq_true, if_false, if_true] at HCC
            go_wp2_with (go_at_call 11; ((with_reducible refine HCC.out.mono ?_); rintro e w8 ⟨rfl, hb8⟩))
            go_roundw
            case rel => exact ⟨k + 1, by go_num, by omega, by omega, HB7.out.trans (hb8.mono HB7.out.size)⟩
            case measure => simp [intOf]; omega
      · obtain rfl : k = 10 := by omega
        go_wp2
        go_ret
        exact ⟨rfl, HF4.out.trans (HBW.out.mono HF4.out.size)⟩
end Go.Proofs.Ythfcnnicpmkclaa
