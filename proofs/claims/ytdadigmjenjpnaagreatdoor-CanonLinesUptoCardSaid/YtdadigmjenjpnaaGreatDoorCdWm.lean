/-
  CanonBodies: the statement's function, walked.
-/
import Derived.Test.YtdadigmjenjpnaaGreatDoorCq5
import Derived.Test.YtdadigmjenjpnaaGreatDoorCdPm
namespace Go.Proofs.YtdadigmjenjpnaaGreatDoor
open Go Go.RowKit Go.Lib

def baL (l : List UInt8) : ByteArray := ⟨l.toArray⟩
theorem baL_app (a b : List UInt8) : baL (a ++ b) = baL a ++ baL b := by unfold baL; rw [ByteArray.mk_append_mk]
theorem baL_size (a : List UInt8) : (baL a).size = a.length := by unfold baL; simp [ByteArray.size]

set_option maxHeartbeats 4000000 in
set_option maxRecDepth 100000 in
theorem bodies_walk (p : Pg) (A : Option Addr) (cap : Nat) (X : Option Addr) (capx : Nat) (W : World) (hF : FV W.heap.size W (.slice A p.fs.length cap) p.fs) (hM : SV W.heap.size W (.slice X p.m.len capx) p.m) (hc : cntL p.pts ≤ 1048576) (ht : TT W) :
    Calls Tryz.prog 8 #[.agg #[.slice A p.fs.length cap, .slice X p.m.len capx]] W fun e w' => e = .returned (.bool true) ∧ Below W.heap.size W w' := by
  have hpv : PgV W.heap.size W (.agg #[.slice A p.fs.length cap, .slice X p.m.len capx]) p := ⟨A, cap, X, capx, rfl, hF, hM⟩
  obtain ⟨nf, hnf⟩ : ∃ nf, p.fs.length = nf := ⟨_, rfl⟩
  obtain ⟨nm, hnm⟩ : ∃ nm, p.m.len = nm := ⟨_, rfl⟩
  rw [hnf, hnm] at hpv ⊢
  rw [hnm] at hM
  clear hF hnf
  obtain ⟨w2, hw2⟩ : ∃ w2, W.alloc (.cells #[.slice A nf cap, .slice X nm capx] 25) = w2 := ⟨_, rfl⟩
  have b2 : Below W.heap.size W w2 := by rw [← hw2]; exact (Below.refl _ _).alloc (Nat.le_refl _) _
  have z2 : w2.heap.size = W.heap.size + 1 := by rw [← hw2]; simp
  have g2 : w2.heap[W.heap.size]? = some (.cells #[.slice A nf cap, .slice X nm capx] 25 (0, 0)) := by rw [← hw2]; exact heap_alloc_new W _
  have hS := shown5_fr w2 (ht.step b2)
  go_enter Tryz.func8, Tryz.ntmps8
  go_upto_region 2 with (go_at_call 10; ((with_reducible refine hS.mono ?_); clear hS; rintro e w3 ⟨rfl, c3⟩))
  have b3 : Below W.heap.size W w3 := b2.trans (c3.mono b2.size)
  have z3 : W.heap.size < w3.heap.size := by have := c3.size; omega
  have g3 := (c3.block _ (by omega)).trans g2
  have T3 := ht.step b3
  have HB := hid (fun w' (hb : Below w3.heap.size w3 w') => (⟨cells_at ((hb.block _ z3).trans g3) 0 rfl, cells_at ((hb.block _ z3).trans g3) 1 rfl⟩ : w'.cell? ⟨W.heap.size, 0, none⟩ = some (.slice A nf cap) ∧ w'.cell? ⟨W.heap.size, 1, none⟩ = some (.slice X nm capx)))
  have e0 := cells_at g3 0 rfl
  have e1 := cells_at g3 1 rfl
  have hR := right_any _ p w3 W.heap.size b3.size (hpv.below b3 (Nat.le_refl _)) T3.tree
  by_cases hr : rightN p = 0
  · rw [hr] at hR
    obtain ⟨q1, q2, q3⟩ := rightN_ok' hr
    simp only [Pg.pts, okL_append, Bool.and_eq_true, SS.okL] at q2
    have HD := hid (fun w' (hb : Below w3.heap.size w3 w') => depth_any _ p w' W.heap.size (Nat.le_trans b3.size hb.size) (hpv.below (b3.trans (hb.mono b3.size)) (Nat.le_refl _)))
    obtain ⟨D, hD⟩ : ∃ D, deepL p.pts = D := ⟨_, rfl⟩
    have hDm : p.m.deep ≤ D := by rw [← hD]; simp only [Pg.pts, deepL_append, SS.deepL]; omega
    rw [hD] at HD
    by_cases h62 : 62 < D
    · have hd : decide (62 < D) = true := decide_eq_true h62
      go_wp2_with (first
        | (go_at_call 13; ((with_reducible refine hR.mono ?_); clear hR; rintro e w4 ⟨rfl, c4⟩; obtain ⟨r0, r1⟩ := HB.out w4 c4; have q := HD.out w4 c4))
        | (go_at_call 17; ((with_reducible refine q.mono ?_); clear q; rintro e w5 ⟨rfl, c5⟩)))
      go_ret
      exact ⟨rfl, b3.trans ((c4.trans (c5.mono c4.size)).mono b3.size)⟩
    · have hd : decide (62 < D) = false := decide_eq_false h62
      have hc' : p.m.cnt ≤ 1048576 := by simp only [Pg.pts, cntL_append, SS.cntL] at hc; omega
      go_upto_region 4 with (first
        | (go_at_call 13; ((with_reducible refine hR.mono ?_); clear hR; rintro e w4 ⟨rfl, c4⟩; obtain ⟨r0, r1⟩ := HB.out w4 c4; have q := HD.out w4 c4))
        | (go_at_call 17; ((with_reducible refine q.mono ?_); clear q; rintro e w5 ⟨rfl, c5⟩)))
      have c35 : Below w3.heap.size w3 w5 := c4.trans (c5.mono c4.size)
      have b5 := b3.trans (c35.mono b3.size)
      have T5 := ht.step b5
      obtain ⟨s0, s1⟩ := HB.out w5 c35
      have hM5 : SV W.heap.size w5 (.slice X nm capx) p.m := SV.below hM b5 (Nat.le_refl _)
      have q5 := text_any_p ⟨[], p.m⟩ (.agg #[.slice none 0 0, .slice X nm capx]) w5 W.heap.size b5.size ⟨none, 0, X, capx, by rw [hnm]; rfl, fv_nil' _ _, by rw [hnm]; exact hM5⟩ T5.tree T5.canon (by simp only [Pg.pts, fsPts, List.nil_append, SS.cntL]; omega)
      rw [main_text p.m q2.2 (by omega)] at q5
      obtain ⟨N, hN⟩ : ∃ N, (p.m.txt 0).length = N := ⟨_, rfl⟩
      have hN13 : N ≤ 11000000000000 := by have := SS.txt_leV 0 q2.2 (by rw [← hnm] at hM; exact hM) (by omega); rw [hN] at this; omega
      obtain ⟨B, hB⟩ : ∃ B : ByteArray, baL (p.m.txt 0) = B := ⟨_, rfl⟩
      have hBs : B.size = N := by rw [← hB, baL_size]; exact hN
      have q5' : Calls Tryz.prog 11 #[.agg #[.slice none 0 0, .slice X nm capx]] w5 fun e w' => e = .returned (.string B) ∧ Below w5.heap.size w5 w' := by rw [← hB]; exact q5
      clear q5 r0 r1 e0 e1
      go_upto_region 8 with (go_at_call 11; ((with_reducible refine q5'.mono ?_); clear q5'; rintro e w6 ⟨rfl, c6⟩))
      have HBe := hid hB
      clear hB
      go_loopw [5, 6, 7] (fun s5 s6 s7 wr => ∃ pre r : List UInt8, pre ++ r = p.m.txt 0 ∧ s5 = .string (baL (ind true pre)) ∧ s6 = .bool (fl true pre) ∧ s7 = .int .i64 pre.length ∧ wr = w6) (fun _ _ s7 _ => N - (RowKit.intOf s7).toNat)
      case atStart => exact ⟨[], p.m.txt 0, rfl, rfl, rfl, rfl, rfl⟩
      case round =>
        obtain ⟨pre, r, hpr, rfl, rfl, rfl, rfl⟩ := hrel
        obtain ⟨j, hj⟩ : ∃ j, pre.length = j := ⟨_, rfl⟩
        obtain ⟨I, hI⟩ : ∃ I, baL (ind true pre) = I := ⟨_, rfl⟩
        have hIl : I.size ≤ 2 * j := by rw [← hI, baL_size, ← hj]; exact ind_len _ _
        have hjN : j + r.length = N := by rw [← hj, ← hN, ← hpr, List.length_append]
        rw [hj, hI]
        have HIe := hid hI
        clear hI
        cases r with
        | nil =>
          have hjn : j = N := by simpa using hjN
          subst hjn
          rw [List.append_nil] at hpr
          have hI1 : I = baL (p.m.txt 1) := by
            rw [← HIe.out, hpr]
            have := ind_txt p.m q2.2 0 []
            rw [List.append_nil] at this
            rw [this]
            simp [ind]
          have hIl1 : I.size ≤ 22000000000000 := by omega
          have c36 : Below w3.heap.size w3 wr := c35.trans (c6.mono c35.size)
          have b6 := b3.trans (c36.mono b3.size)
          have hM6 : SV W.heap.size wr (.slice X nm capx) p.m := SV.below hM b6 (Nat.le_refl _)
          -- the clock
          obtain ⟨i7, hi7⟩ : ∃ i7, wr.heap.size = i7 := ⟨_, rfl⟩
          obtain ⟨w7, hw7⟩ : ∃ w7, wr.alloc (.cells #[.int .i64 3, .int .i64 0, .string ⟨#[]⟩, .slice none 0 0] 38) = w7 := ⟨_, rfl⟩
          have d7 : Below wr.heap.size wr w7 := by rw [← hw7]; exact (Below.refl _ _).alloc (Nat.le_refl _) _
          have z7 : w7.heap.size = i7 + 1 := by rw [← hw7, ← hi7]; simp
          have g7 : w7.heap[i7]? = some (.cells #[.int .i64 3, .int .i64 0, .string ⟨#[]⟩, .slice none 0 0] 38 (0, 0)) := by rw [← hw7, ← hi7]; exact heap_alloc_new wr _
          have c37 : Below w3.heap.size w3 w7 := c36.trans (d7.mono c36.size)
          obtain ⟨t0, t1⟩ := HB.out w7 c37
          have clk : ∀ w', Below w7.heap.size w7 w' → ∀ B', i7 < B' → EV B' w' (.slice (some ⟨i7, 0, none⟩) 1 1) clkL := fun w' hb B' hB' =>
            ev_one' ((hb.block i7 (by omega)).trans g7) B' hB' (ev_nil' _ _) ⟨⟨by decide, by decide⟩, ⟨by decide, by decide⟩, by decide⟩ (by decide) (by decide)
          have hMM : ∀ w', Below w7.heap.size w7 w' → ∀ B', W.heap.size ≤ B' → SV B' w' (.slice X nm capx) p.m := fun w' hb B' hB' =>
            SV.below hM6 (((d7.mono b6.size)).trans (hb.mono (by have := b6.size; omega))) hB'
          have TT7 : ∀ w', Below w7.heap.size w7 w' → TT w' := fun w' hb => ht.step (b6.trans ((d7.mono b6.size).trans (hb.mono (by have := b6.size; omega))))
          have HM7 := hid (fun w' (hb : Below w7.heap.size w7 w') => HB.out w' (c37.trans (hb.mono c37.size)))
          -- in a While
          obtain ⟨w8, hw8⟩ : ∃ w8, w7.alloc (.cells #[.int .i64 8, .string ⟨#[]⟩, .int .i64 0, .slice (some ⟨i7, 0, none⟩) 1 1, .slice X nm capx, .slice none 0 0] 41) = w8 := ⟨_, rfl⟩
          have d8 : Below w7.heap.size w7 w8 := by rw [← hw8]; exact (Below.refl _ _).alloc (Nat.le_refl _) _
          have z8 : w8.heap.size = i7 + 1 + 1 := by rw [← hw8]; simp [z7]
          have g8 : w8.heap[i7 + 1]? = some (.cells #[.int .i64 8, .string ⟨#[]⟩, .int .i64 0, .slice (some ⟨i7, 0, none⟩) 1 1, .slice X nm capx, .slice none 0 0] 41 (0, 0)) := by rw [← hw8, ← z7]; exact heap_alloc_new w7 _
          have wi7 : W.heap.size ≤ i7 := by have := b6.size; omega
          have ii : I64 8 ∧ I64 0 ∧ (⟨#[]⟩ : ByteArray).size ≤ 9223372036854775807 := ⟨⟨by decide, by decide⟩, ⟨by decide, by decide⟩, by decide⟩
          have ii7 : I64 7 ∧ I64 0 ∧ (⟨#[]⟩ : ByteArray).size ≤ 9223372036854775807 := ⟨⟨by decide, by decide⟩, ⟨by decide, by decide⟩, by decide⟩
          have S8 := sv_one' (y := .nil) (cap := 1) g8 w8.heap.size (by omega) (clk w8 d8 _ (by omega)) (hMM w8 d8 _ (by omega)) (sv_nil' _ _) ii (by decide) (by decide)
          have q8 := text_any_p ⟨[], .cons 8 ⟨#[]⟩ 0 clkL p.m .nil .nil⟩ (.agg #[.slice none 0 0, .slice (some ⟨i7 + 1, 0, none⟩) 1 1]) w8 w8.heap.size (Nat.le_refl _) ⟨none, 0, _, 1, rfl, fv_nil' _ _, S8⟩ (TT7 w8 d8).tree (TT7 w8 d8).canon (by simp only [Pg.pts, fsPts, List.nil_append, SS.cntL, SS.cnt, ES.cnt, clkL]; omega)
          rw [while_text p.m q2.2 (by omega)] at q8
          have e8 : (⟨([119, 104, 105, 108, 101, 32, 99, 108, 111, 99, 107, 32, 123, 10] ++ p.m.txt 1 ++ [125, 10]).toArray⟩ : ByteArray) = ⟨#[119, 104, 105, 108, 101, 32, 99, 108, 111, 99, 107, 32, 123, 10]⟩ ++ I ++ ⟨#[125, 10]⟩ := by
            rw [hI1]
            exact (baL_app _ _).trans (by rw [baL_app]; rfl)
          rw [e8] at q8
          -- in an Else
          have Q10 := hid (fun w9 (c9 : Below w7.heap.size w7 w9) => (by
            obtain ⟨i9, hi9⟩ : ∃ i9, w9.heap.size = i9 := ⟨_, rfl⟩
            obtain ⟨w10, hw10⟩ : ∃ w10, w9.alloc (.cells #[.int .i64 7, .string ⟨#[]⟩, .int .i64 0, .slice (some ⟨i7, 0, none⟩) 1 1, .slice none 0 0, .slice X nm capx] 41) = w10 := ⟨_, rfl⟩
            have d10 : Below w9.heap.size w9 w10 := by rw [← hw10]; exact (Below.refl _ _).alloc (Nat.le_refl _) _
            have z9 := c9.size
            have z10 : w10.heap.size = i9 + 1 := by rw [← hw10, ← hi9]; simp
            have g10 : w10.heap[i9]? = some (.cells #[.int .i64 7, .string ⟨#[]⟩, .int .i64 0, .slice (some ⟨i7, 0, none⟩) 1 1, .slice none 0 0, .slice X nm capx] 41 (0, 0)) := by rw [← hw10, ← hi9]; exact heap_alloc_new w9 _
            have c10 : Below w7.heap.size w7 w10 := c9.trans (d10.mono c9.size)
            have S10 := sv_one' (x := .nil) (cap := 1) g10 w10.heap.size (by omega) (clk w10 c10 _ (by omega)) (sv_nil' _ _) (hMM w10 c10 _ (by omega)) ii7 (by decide) (by decide)
            have q := text_any_p ⟨[], .cons 7 ⟨#[]⟩ 0 clkL .nil p.m .nil⟩ (.agg #[.slice none 0 0, .slice (some ⟨i9, 0, none⟩) 1 1]) w10 w10.heap.size (Nat.le_refl _) ⟨none, 0, _, 1, rfl, fv_nil' _ _, S10⟩ (TT7 w10 c10).tree (TT7 w10 c10).canon (by simp only [Pg.pts, fsPts, List.nil_append, SS.cntL, SS.cnt, ES.cnt, clkL]; omega)
            rw [if_text p.m q2.2 (by omega), hnm] at q
            rw [hi9, hw10]
            refine q.mono ?_
            rintro e w' ⟨rfl, h⟩
            exact ⟨rfl, by rw [← hi9]; exact d10.trans (h.mono (by omega))⟩ :
            Calls Tryz.prog 11 #[.agg #[.slice none 0 0, .slice (some ⟨w9.heap.size, 0, none⟩) 1 1]] (w9.alloc (.cells #[.int .i64 7, .string ⟨#[]⟩, .int .i64 0, .slice (some ⟨i7, 0, none⟩) 1 1, .slice none 0 0, .slice X nm capx] 41)) fun e w' =>
              e = .returned (.string ⟨(if 0 < nm then [105, 102, 32, 99, 108, 111, 99, 107, 32, 123, 10, 125, 32, 101, 108, 115, 101, 32, 123, 10] ++ p.m.txt 1 ++ [125, 10] else [105, 102, 32, 99, 108, 111, 99, 107, 32, 123, 10, 125, 10] : List UInt8).toArray⟩) ∧ Below w9.heap.size w9 w'))
          -- in a function
          have Q12 := hid (fun w9 (c9 : Below w7.heap.size w7 w9) => (by
            obtain ⟨i9, hi9⟩ : ∃ i9, w9.heap.size = i9 := ⟨_, rfl⟩
            obtain ⟨w10, hw10⟩ : ∃ w10, w9.alloc (.cells #[.string ⟨#[113]⟩, .slice none 0 0, .slice X nm capx] 47) = w10 := ⟨_, rfl⟩
            have d10 : Below w9.heap.size w9 w10 := by rw [← hw10]; exact (Below.refl _ _).alloc (Nat.le_refl _) _
            have z9 := c9.size
            have z10 : w10.heap.size = i9 + 1 := by rw [← hw10, ← hi9]; simp
            have g10 : w10.heap[i9]? = some (.cells #[.string ⟨#[113]⟩, .slice none 0 0, .slice X nm capx] 47 (0, 0)) := by rw [← hw10, ← hi9]; exact heap_alloc_new w9 _
            have c10 : Below w7.heap.size w7 w10 := c9.trans (d10.mono c9.size)
            have F10 : FV w10.heap.size w10 (.slice (some ⟨i9, 0, none⟩) 1 1) [⟨⟨#[113]⟩, [], p.m⟩] := ⟨_, 1, rfl, Nat.le_refl _, by decide, fun _ => ⟨i9, 0, rfl, by omega, cells_at g10 0 rfl, ⟨_, cells_at g10 1 rfl, ⟨none, 0, rfl, Nat.le_refl _, by decide, fun h => by simp at h⟩⟩, ⟨_, cells_at g10 2 rfl, hMM w10 c10 _ (by omega)⟩, (show (⟨#[113]⟩ : ByteArray).size ≤ 9223372036854775807 by decide), trivial⟩⟩
            have q := text_any_p ⟨[⟨⟨#[113]⟩, [], p.m⟩], .nil⟩ (.agg #[.slice (some ⟨i9, 0, none⟩) 1 1, .slice none 0 0]) w10 w10.heap.size (Nat.le_refl _) ⟨_, 1, none, 0, rfl, F10, sv_nil' _ _⟩ (TT7 w10 c10).tree (TT7 w10 c10).canon (by simp only [Pg.pts, fsPts, cntL_append, SS.cntL, SS.cnt, cntL]; omega)
            rw [fn_text p.m q2.2 (by omega)] at q
            rw [hi9, hw10]
            refine q.mono ?_
            rintro e w' ⟨rfl, h⟩
            refine ⟨?_, by rw [← hi9]; exact d10.trans (h.mono (by omega))⟩
            rw [hI1]
            exact congrArg (fun z => Ending.returned (.string z)) ((baL_app _ _).trans (by rw [baL_app]; rfl)) :
            Calls Tryz.prog 11 #[.agg #[.slice (some ⟨w9.heap.size, 0, none⟩) 1 1, .slice none 0 0]] (w9.alloc (.cells #[.string ⟨#[113]⟩, .slice none 0 0, .slice X nm capx] 47)) fun e w' =>
              e = .returned (.string (⟨#[102, 117, 110, 99, 32, 113, 40, 41, 32, 123, 10]⟩ ++ I ++ ⟨#[125, 10]⟩)) ∧ Below w9.heap.size w9 w'))
          have HI1 := hid hI1
          clear hI1 clk hMM TT7 e8 S8 hM6 hM5
          by_cases hl : 0 < nm
          · have hl1 : decide (0 < nm) = true := decide_eq_true hl
            have hl2 : decide ((0 : Int) < (nm : Int)) = true := decide_eq_true (by omega)
            have R10 := hid (fun w9 c9 => (by
              have := Q10.out w9 c9
              rw [if_pos hl] at this
              refine this.mono ?_
              rintro e w' ⟨rfl, h⟩
              refine ⟨?_, h⟩
              rw [HI1.out]
              exact congrArg (fun z => Ending.returned (.string z)) ((baL_app _ _).trans (by rw [baL_app]; rfl)) :
              Calls Tryz.prog 11 #[.agg #[.slice none 0 0, .slice (some ⟨w9.heap.size, 0, none⟩) 1 1]] (w9.alloc (.cells #[.int .i64 7, .string ⟨#[]⟩, .int .i64 0, .slice (some ⟨i7, 0, none⟩) 1 1, .slice none 0 0, .slice X nm capx] 41)) fun e w' =>
              e = .returned (.string (⟨#[105, 102, 32, 99, 108, 111, 99, 107, 32, 123, 10, 125, 32, 101, 108, 115, 101, 32, 123, 10]⟩ ++ I ++ ⟨#[125, 10]⟩)) ∧ Below w9.heap.size w9 w'))
            have m1 : ¬ 9223372036854775807 < 20 + I.size := by omega
            have m2 : ¬ 9223372036854775807 < 14 + I.size := by omega
            have m3 : ¬ 9223372036854775807 < 11 + I.size := by omega
            go_wp2_with (first
              | (go_at_call 11; ((with_reducible refine q8.mono ?_); clear q8; rintro e w9 ⟨rfl, c9⟩; have c79 := d8.trans (c9.mono d8.size); obtain ⟨t2, t3⟩ := HM7.out w9 c79; have q9 := R10.out w9 c79))
              | (go_at_call 11; ((with_reducible refine q9.mono ?_); clear q9; rintro e w11 ⟨rfl, c11⟩; have c711 := c79.trans (c11.mono c79.size); obtain ⟨t4, t5⟩ := HM7.out w11 c711; have q11 := Q12.out w11 c711))
              | (go_at_call 11; ((with_reducible refine q11.mono ?_); clear q11; rintro e w13 ⟨rfl, c13⟩; have c713 := c711.trans (c13.mono c711.size); obtain ⟨t6, t7⟩ := HM7.out w13 c713)))
            go_ret
            exact ⟨rfl, b3.trans ((c37.trans (c713.mono c37.size)).mono b3.size)⟩
          · have hl1 : decide (0 < nm) = false := decide_eq_false hl
            have hl2 : decide ((0 : Int) < (nm : Int)) = false := decide_eq_false (by omega)
            have R10 := hid (fun w9 c9 => (by
              have := Q10.out w9 c9
              rw [if_neg hl] at this
              exact this :
              Calls Tryz.prog 11 #[.agg #[.slice none 0 0, .slice (some ⟨w9.heap.size, 0, none⟩) 1 1]] (w9.alloc (.cells #[.int .i64 7, .string ⟨#[]⟩, .int .i64 0, .slice (some ⟨i7, 0, none⟩) 1 1, .slice none 0 0, .slice X nm capx] 41)) fun e w' =>
              e = .returned (.string ⟨#[105, 102, 32, 99, 108, 111, 99, 107, 32, 123, 10, 125, 10]⟩) ∧ Below w9.heap.size w9 w'))
            have m1 : ¬ 9223372036854775807 < 20 + I.size := by omega
            have m2 : ¬ 9223372036854775807 < 14 + I.size := by omega
            have m3 : ¬ 9223372036854775807 < 11 + I.size := by omega
            go_wp2_with (first
              | (go_at_call 11; ((with_reducible refine q8.mono ?_); clear q8; rintro e w9 ⟨rfl, c9⟩; have c79 := d8.trans (c9.mono d8.size); obtain ⟨t2, t3⟩ := HM7.out w9 c79; have q9 := R10.out w9 c79))
              | (go_at_call 11; ((with_reducible refine q9.mono ?_); clear q9; rintro e w11 ⟨rfl, c11⟩; have c711 := c79.trans (c11.mono c79.size); obtain ⟨t4, t5⟩ := HM7.out w11 c711; have q11 := Q12.out w11 c711))
              | (go_at_call 11; ((with_reducible refine q11.mono ?_); clear q11; rintro e w13 ⟨rfl, c13⟩; have c713 := c711.trans (c13.mono c711.size); obtain ⟨t6, t7⟩ := HM7.out w13 c713)))
            go_ret
            exact ⟨rfl, b3.trans ((c37.trans (c713.mono c37.size)).mono b3.size)⟩
        | cons c r =>
          have hlt : j < N := by simp at hjN; omega
          have n1 : ¬ 9223372036854775807 < I.size + 1 := by omega
          have n2 : ¬ 9223372036854775807 < I.size + 1 + 1 := by omega
          have hat : B.data.toList = pre ++ c :: r := by rw [← HBe.out, hpr]; rfl
          have hext : B.extract j (j + 1) = ⟨#[c]⟩ := by
            apply ByteArray.ext
            apply Array.ext'
            rw [ByteArray.data_extract, Array.toList_extract, hat, List.extract_eq_take_drop, ← hj]
            simp
          have hsl : (Instr.slice 9 (.string B) (some (.int .i64 (j : Int))) (some (.int .i64 ((j : Int) + 1))) none).run Tryz.prog wr = .ok (.string ⟨#[c]⟩) wr := by
            have := run_slice_string (P := Tryz.prog) wr 9 B .i64 .i64 (j : Int) ((j : Int) + 1) Tryz.underlying9 (by omega) (by omega) (by rw [hBs]; omega)
            rw [show ((j : Int) + 1).toNat = j + 1 by omega, show (j : Int).toNat = j by omega, hext] at this
            exact this
          have k1 : IntKind.i64.wrap ((j : Int) + 1) = (j : Int) + 1 := IntWalk.i64_in _ (by omega)
          have hBj : ∀ h : j < B.size, (((B[j]'h).toNat : Int) == 10) = (c == 10) := by
            intro h
            have e : (B[j]'h) = c := by
              show B.data[j]'h = c
              have e1 : B.data.toList[j]? = some c := by rw [hat, ← hj]; simp
              rw [Array.getElem?_toList, Array.getElem?_eq_getElem h] at e1
              exact Option.some.inj e1
            rw [e, Bool.eq_iff_iff, beq_iff_eq, beq_iff_eq]
            exact ⟨fun h => UInt8.toNat_inj.1 (by simpa using (by omega : c.toNat = 10)), fun h => by rw [h]; rfl⟩
          have hfl : fl true (pre ++ [c]) = (c == 10) := by rw [fl_app]; rfl
          have HX := hid (And.intro hBj hfl)
          clear hBj hfl
          cases hf : fl true pre with
          | true =>
            have hin : ind true (pre ++ [c]) = ind true pre ++ [9] ++ [c] := by rw [ind_app, hf]; simp [ind]
            have HI2 := hid hin
            clear hin
            go_wp2_with fail
            go_roundw
            case rel =>
              refine ⟨pre ++ [c], r, by rw [← hpr]; simp, ?_, ?_, by rw [List.length_append, hj]; go_num, trivial⟩
              · rw [HI2.out, baL_app, baL_app, HIe.out]; rfl
              · rw [HX.out.2, HX.out.1]
            case measure => simp [RowKit.intOf]; omega
          | false =>
            have hin : ind true (pre ++ [c]) = ind true pre ++ [c] := by rw [ind_app, hf]; simp [ind]
            have HI2 := hid hin
            clear hin
            go_wp2_with fail
            go_roundw
            case rel =>
              refine ⟨pre ++ [c], r, by rw [← hpr]; simp, ?_, ?_, by rw [List.length_append, hj]; go_num, trivial⟩
              · rw [HI2.out, baL_app, HIe.out]; rfl
              · rw [HX.out.2, HX.out.1]
            case measure => simp [RowKit.intOf]; omega
  · rcases (rightN_cases p).resolve_left hr with h | h
    all_goals
      rw [h] at hR
      go_wp2_with (go_at_call 13; ((with_reducible refine hR.mono ?_); clear hR; rintro e w4 ⟨rfl, c4⟩))
      go_ret
      exact ⟨rfl, b3.trans (c4.mono b3.size)⟩

end Go.Proofs.YtdadigmjenjpnaaGreatDoor
