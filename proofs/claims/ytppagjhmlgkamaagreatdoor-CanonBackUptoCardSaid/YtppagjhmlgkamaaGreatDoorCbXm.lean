/-
  CanonBack: the walk.
-/
import Derived.Test.YtppagjhmlgkamaaGreatDoorCq5
import Derived.Test.YtppagjhmlgkamaaGreatDoorCbWm
import Derived.Test.YtppagjhmlgkamaaGreatDoorPdRm
namespace Go.Proofs.YtppagjhmlgkamaaGreatDoor
open Go Go.RowKit Go.Lib

/-- What parse hands on. -/
def PK (W w' : World) (e : Ending) (q : Pg) : Prop := ∃ Af nf cf Am nm cm, e = .returned (.tuple #[.agg #[.slice Af nf cf, .slice Am nm cm], .int .i64 0, .int .i64 0]) ∧ PgV w'.heap.size w' (.agg #[.slice Af nf cf, .slice Am nm cm]) q ∧ Below W.heap.size W w'
theorem pk_of {W W0 w' : World} {e : Ending} {q : Pg} (hb : Below W.heap.size W W0) (h : (∃ v, e = .returned (.tuple #[v, .int .i64 0, .int .i64 0]) ∧ GV W0.heap.size w' v q) ∧ Below W0.heap.size W0 w') : PK W w' e q := by
  obtain ⟨⟨v, rfl, hv⟩, h2⟩ := h
  have hp := hv.pgv
  obtain ⟨A, c, A', c', rfl, _⟩ := id hp
  exact ⟨A, _, c, A', _, c', rfl, hp, hb.trans (h2.mono hb.size)⟩
theorem qk_ok {s : ByteArray} {q : Pg} {r : List Tok} (ht : tl s.data.toList = .ok q r) (z : Nat) (hz : s.size = z) (hs : z ≤ 65536) (w : World) :
    Calls Tryz.prog 14 #[.slice (some ⟨w.heap.size, 0, none⟩) z (grownCap w z 0 5)] (newB w s z) fun e W' => PK w W' e q := by
  subst hz
  exact (p_ok ht _ s.size _ _ (by simp) hs (grownCap_ge _ _ _ _) (row_bs w s _)).mono fun _ _ h => pk_of (below_bs w _) h
theorem pb_ok {l : List UInt8} {q : Pg} {r : List Tok} (ht : tl l = .ok q r) (A : Option Addr) (n cap : Nat) (W : World) (hn : l.length = n) (hl : n ≤ 65536) (hcap : n ≤ cap) (hr : Row W A l) :
    Calls Tryz.prog 14 #[.slice A n cap] W fun e W' => PK W W' e q :=
  (p_ok ht A n cap W hn hl hcap hr).mono fun _ _ h => pk_of (Below.refl _ _) h
theorem pb_bad {l : List UInt8} {p c : Nat} (ht : tl l = .bad p c) (A : Option Addr) (n cap : Nat) (W : World) (hn : l.length = n) (hl : n ≤ 65536) (hcap : n ≤ cap) (hr : Row W A l) :
    Calls Tryz.prog 14 #[.slice A n cap] W fun e W' => e = .returned (.tuple #[.agg #[.slice none 0 0, .slice none 0 0], .int .i64 p, .int .i64 c]) ∧ Below W.heap.size W W' :=
  (parse_whole A n cap l W hn hl hcap hr).mono fun e W' h => by
    unfold ParseOut at h
    rw [ht] at h
    exact ⟨h.2, h.1⟩
theorem bad_code {l : List UInt8} {p c : Nat} (ht : tl l = .bad p c) : c ≠ 0 := by
  have := tl_right l
  rw [ht] at this
  have h := this.2
  omega
theorem ok_right {l : List UInt8} {q : Pg} {r : List Tok} (ht : tl l = .ok q r) : rightN q = 0 := by
  have := tl_right l
  rw [ht] at this
  exact this.1

set_option maxHeartbeats 20000000 in
set_option maxRecDepth 100000 in
theorem back_small (p : Pg) (A : Option Addr) (nf cap : Nat) (X : Option Addr) (nm capx : Nat) (A2 : Option Addr) (n cap2 N : Nat) (l : List UInt8) (W : World) (hpv : PgV W.heap.size W (.agg #[.slice A nf cap, .slice X nm capx]) p) (hc : cntL p.pts ≤ 1048576) (ht : TT W) (hl : l.length = n) (hlc : n ≤ cap2) (hcm : cap2 ≤ 9223372036854775807) (hrow : Row W A2 l) (hr : rightN p = 0) (hz : p.txt.length ≤ 65536) (hN : N = (min (n : Int) 4000).toNat) :
    Calls Tryz.prog 4 #[.agg #[.slice A nf cap, .slice X nm capx], .slice A2 n cap2] W fun e w' => e = .returned (.bool true) ∧ Below W.heap.size W w' := by
  have hlN : (l.take N).length = N := by rw [List.length_take]; omega
  have hN4 : N ≤ 4000 := by omega
  have hNn : N ≤ n := by omega
  have HNE := hid hN
  clear hl hN
  obtain ⟨w2, hw2⟩ : ∃ w2, W.alloc (.cells #[.slice A nf cap, .slice X nm capx] 25) = w2 := ⟨_, rfl⟩
  have b2 : Below W.heap.size W w2 := by rw [← hw2]; exact (Below.refl _ _).alloc (Nat.le_refl _) _
  have z2 : w2.heap.size = W.heap.size + 1 := by rw [← hw2]; simp
  have g2 : w2.heap[W.heap.size]? = some (.cells #[.slice A nf cap, .slice X nm capx] 25 (0, 0)) := by rw [← hw2]; exact heap_alloc_new W _
  have hS := shown5_fr w2 (ht.step b2)
  go_enter Tryz.func4, Tryz.ntmps4
  go_upto_region 2 with (go_at_call 10; ((with_reducible refine hS.mono ?_); clear hS; rintro e w3 ⟨rfl, c3⟩))
  have b3 : Below W.heap.size W w3 := b2.trans (c3.mono b2.size)
  have s3 := c3.size
  have g3 := (c3.block W.heap.size (by omega)).trans g2
  have HB := hid (fun w' (hb : Below w3.heap.size w3 w') => cells_two ((hb.block W.heap.size (by omega)).trans g3))
  obtain ⟨e0, e1⟩ := cells_two g3
  have HW := hid (fun w' (hb : Below w3.heap.size w3 w') => (b3.trans (hb.mono b3.size) : Below W.heap.size W w'))
  have HTT := hid (fun w' (hb : Below w3.heap.size w3 w') => ht.step (b3.trans (hb.mono b3.size)))
  have HPV := hid (fun w' (hb : Below w3.heap.size w3 w') => hpv.below (b3.trans (hb.mono b3.size)) (Nat.le_refl _))
  have HROW := hid (fun w' (hb : Below w3.heap.size w3 w') => (hrow.below (b3.trans (hb.mono b3.size)) (Nat.le_refl _)).take N)
  obtain ⟨B, hB⟩ : ∃ B, baL (textP p) = B := ⟨_, rfl⟩
  have hT := txt_c (B := B) _ w3 W.heap.size b3.size (hpv.below b3 (Nat.le_refl _)) (ht.step b3) (by omega) hB
  have HR := hid (fun w' (hb : Below w3.heap.size w3 w') => right_any _ p w' W.heap.size (Nat.le_trans b3.size hb.size) (HPV.out w' hb) (HTT.out w' hb).tree)
  clear hw2 g2 z2 b2 c3 g3
  have htx : textP p = p.txt := by unfold textP; rw [if_pos hr]
  rw [htx] at hB
  rw [hr] at HR
  have hBs : B.size = p.txt.length := by rw [← hB, baL_size]
  obtain ⟨rest, hrd⟩ := tl_txt hr (by omega)
  have hrd' : tl B.data.toList = .ok p rest := by rw [← hB]; exact hrd
  have k1 : decide ((B.size : Int) ≤ 65536) = true := decide_eq_true (by omega)
  have HP := hid (fun w => qk_ok hrd' B.size rfl (by omega) w)
  have HBT : Hid (baL (textP p) = B) := hid (by rw [htx]; exact hB)
  have q1 : (B.toList == B.toList) = true := beq_iff_eq.2 rfl
  have q2 : (B.toList != B.toList) = false := by simp
  have kb := run_bs
  have HE := hid (fun v v' w' C (hC : C ≤ w'.heap.size) (h1 : PgV C w' v p) (h2 : PgV C w' v' p) => (by
    have := equal_any v v' p p w' C hC h1 h2
    rw [(eqG_iff p p).2 rfl] at this
    exact this : Calls Tryz.prog 15 #[v, v'] w' fun e w'' => e = .returned (.bool true) ∧ Below w'.heap.size w' w''))
  clear hr hrd hrd' hB htx hBs
  go_upto_region 5 with (first
    | (go_at_call 11; ((with_reducible refine hT.mono ?_); clear hT; rintro e w4 ⟨rfl, c4⟩; obtain ⟨f0, f1⟩ := HB.out w4 c4))
    | (go_at_call 13; ((with_reducible refine (HR.out w4 c4).mono ?_); rintro e w5 ⟨rfl, c5⟩)))
  have d5 : Below w3.heap.size w3 w5 := c4.trans (c5.mono c4.size)
  clear e0 e1 f0 f1
  go_upto_region 6 with (go_at_call 14; ((with_reducible refine (HP.out _).mono ?_); rintro e w6 ⟨Af, mf, cf, Am, mm, cm, rfl, v6, c6⟩))
  obtain ⟨w7, hw7⟩ : ∃ w7, w6.alloc (.cells #[.slice Af mf cf, .slice Am mm cm] 25) = w7 := ⟨_, rfl⟩
  have c7 : Below w6.heap.size w6 w7 := by rw [← hw7]; exact (Below.refl _ _).alloc (Nat.le_refl _) _
  have g7 : w7.heap[w6.heap.size]? = some (.cells #[.slice Af mf cf, .slice Am mm cm] 25 (0, 0)) := by rw [← hw7]; exact heap_alloc_new w6 _
  have l7 : w6.heap.size < w7.heap.size := (Array.getElem?_eq_some_iff.1 g7).1
  have d6 : Below w3.heap.size w3 w6 := d5.trans (c6.mono d5.size)
  have d7 : Below w3.heap.size w3 w7 := d6.trans (c7.mono d6.size)
  have v7 := v6.below c7 (Nat.le_refl _)
  obtain ⟨x0, x1⟩ := HB.out w7 d7
  obtain ⟨x2, x3⟩ := cells_two g7
  rw [hw7]
  have hE := HE.out _ _ w7 w7.heap.size (Nat.le_refl _) ((HPV.out w7 d7).below (Below.refl w7.heap.size w7 |>.mono (HW.out w7 d7).size) (HW.out w7 d7).size) (v7.below (Below.refl _ w7 |>.mono c7.size) c7.size)
  have HG := hid g7
  have HV := hid v7
  have HC7 := hid c7
  clear hw7 g7 v7 v6 c7
  go_upto_region 10 with (first
    | (go_at_call 15; ((with_reducible refine hE.mono ?_); clear hE; rintro e w8 ⟨rfl, c8⟩; obtain ⟨x4, x5⟩ := cells_two ((c8.block w6.heap.size l7).trans HG.out); have d8 := d7.trans (c8.mono d7.size); have hT8 := txt_c (B := B) _ w8 w7.heap.size c8.size ((HV.out.below (Below.refl w7.heap.size w7 |>.mono HC7.out.size) HC7.out.size).below c8 (Nat.le_refl _)) (HTT.out w8 d8) (by omega) HBT.out))
    | (go_at_call 11; ((with_reducible refine hT8.mono ?_); clear hT8; rintro e w9 ⟨rfl, c9⟩)))
  have dz : Below w3.heap.size w3 w9 := d8.trans (c9.mono d8.size)
  obtain ⟨wz, hwz⟩ : ∃ w, w9 = w := ⟨_, rfl⟩
  rw [hwz] at dz ⊢
  clear x0 x1 x2 x3 x4 x5 k1 q1 q2
  cases hb : tl (l.take N) with
  | out => exact absurd hb (tl_ne _)
  | bad y c =>
    have hq := pb_bad hb A2 N cap2 wz hlN (by omega) (by omega) (HROW.out wz dz)
    rw [HNE.out] at hq
    have m1 : ((c : Int) == 0) = false := beq_eq_false_iff_ne.2 (by have := bad_code hb; omega)
    have m2 : ((c : Int) != 0) = true := bne_iff_ne.2 (by have := bad_code hb; omega)
    have m3 : c ≠ 0 := bad_code hb
    have HZ := hid (HW.out wz dz)
    clear hb HB HW HTT HPV HROW HR hlN
    go_wp2_with (go_at_call 14; ((with_reducible refine hq.mono ?_); clear hq; rintro e y1 ⟨rfl, f1⟩))
    go_ret
    exact ⟨rfl, HZ.out.trans ((f1.alloc f1.size _).mono HZ.out.size)⟩
  | ok q rr =>
    have hq := pb_ok hb A2 N cap2 wz hlN (by omega) (by omega) (HROW.out wz dz)
    rw [HNE.out] at hq
    have hqr := ok_right hb
    have hqc := tl_cnt hb
    rw [hlN] at hqc
    have htq : textP q = q.txt := by unfold textP; rw [if_pos hqr]
    obtain ⟨T, hT⟩ : ∃ T, baL q.txt = T := ⟨_, rfl⟩
    have hTs : T.size = q.txt.length := by rw [← hT, baL_size]
    have HZ := hid (HW.out wz dz)
    have HTZ := hid (HTT.out wz dz)
    clear hb HB HW HTT HPV HROW HR hlN
    go_upto_region 11 with (go_at_call 14; ((with_reducible refine hq.mono ?_); clear hq; rintro e y1 ⟨Bf, nf1, df, Bm, nm1, dm, rfl, u1, f1⟩))
    obtain ⟨y2, hy2⟩ : ∃ y2, y1.alloc (.cells #[.slice Bf nf1 df, .slice Bm nm1 dm] 25) = y2 := ⟨_, rfl⟩
    have f2 : Below y1.heap.size y1 y2 := by rw [← hy2]; exact (Below.refl _ _).alloc (Nat.le_refl _) _
    have j2 : y2.heap[y1.heap.size]? = some (.cells #[.slice Bf nf1 df, .slice Bm nm1 dm] 25 (0, 0)) := by rw [← hy2]; exact heap_alloc_new y1 _
    have i2 : y1.heap.size < y2.heap.size := (Array.getElem?_eq_some_iff.1 j2).1
    have f12 : Below wz.heap.size wz y2 := f1.trans (f2.mono f1.size)
    have u2 := u1.below f2 (Nat.le_refl _)
    obtain ⟨a0, a1⟩ := cells_two j2
    rw [hy2]
    have hT2 := txt_c (B := T) _ y2 y1.heap.size f2.size u2 (HTZ.out.step f12) (by omega) (by rw [htq]; exact hT)
    have HJ := hid j2
    have HU := hid u2
    clear hy2 j2 u2 u1 f1
    by_cases hz2 : q.txt.length ≤ 65536
    · have m1 : decide ((65536 : Int) < (T.size : Int)) = false := decide_eq_false (by omega)
      obtain ⟨rest2, hrd2⟩ := tl_txt hqr (by omega)
      have hrd3 : tl T.data.toList = .ok q rest2 := by rw [← hT]; exact hrd2
      have HP2 := hid (fun w => qk_ok hrd3 T.size rfl (by omega) w)
      have HE2 := hid (fun v v' w' C (hC : C ≤ w'.heap.size) (h1 : PgV C w' v q) (h2 : PgV C w' v' q) => (by
        have := equal_any v v' q q w' C hC h1 h2
        rw [(eqG_iff q q).2 rfl] at this
        exact this : Calls Tryz.prog 15 #[v, v'] w' fun e w'' => e = .returned (.bool true) ∧ Below w'.heap.size w' w''))
      clear hqr hT hTs htq hrd2 hrd3
      go_upto_region 16 with (go_at_call 11; ((with_reducible refine hT2.mono ?_); clear hT2; rintro e y3 ⟨rfl, f3⟩))
      clear a0 a1
      go_upto_region 17 with (go_at_call 14; ((with_reducible refine (HP2.out _).mono ?_); rintro e y4 ⟨Cf, nf2, ef, Cm, nm2, em, rfl, u4, f4⟩))
      obtain ⟨y5, hy5⟩ : ∃ y5, y4.alloc (.cells #[.slice Cf nf2 ef, .slice Cm nm2 em] 25) = y5 := ⟨_, rfl⟩
      have f5 : Below y4.heap.size y4 y5 := by rw [← hy5]; exact (Below.refl _ _).alloc (Nat.le_refl _) _
      have j5 : y5.heap[y4.heap.size]? = some (.cells #[.slice Cf nf2 ef, .slice Cm nm2 em] 25 (0, 0)) := by rw [← hy5]; exact heap_alloc_new y4 _
      have u5 := u4.below f5 (Nat.le_refl _)
      have f34 : Below y2.heap.size y2 y4 := f3.trans (f4.mono f3.size)
      have f35 : Below y2.heap.size y2 y5 := f34.trans (f5.mono f34.size)
      obtain ⟨a2, a3⟩ := cells_two ((f35.block y1.heap.size i2).trans HJ.out)
      obtain ⟨a4, a5⟩ := cells_two j5
      have hE2 := HE2.out _ _ y5 y5.heap.size (Nat.le_refl _) (((HU.out.below (Below.refl y2.heap.size y2 |>.mono f2.size) f2.size).below f35 (Nat.le_refl _)).below (Below.refl y5.heap.size y5 |>.mono f35.size) f35.size) (u5.below (Below.refl y5.heap.size y5 |>.mono f5.size) f5.size)
      rw [hy5]
      clear hy5 j5 u5 u4
      go_wp2_with (go_at_call 15; ((with_reducible refine hE2.mono ?_); clear hE2; rintro e y6 ⟨rfl, f6⟩))
      go_ret
      exact ⟨rfl, HZ.out.trans ((f12.trans ((f35.trans (f6.mono f35.size)).mono f12.size)).mono HZ.out.size)⟩
    · have m1 : decide ((65536 : Int) < (T.size : Int)) = true := decide_eq_true (by omega)
      clear hqr hT hTs htq
      go_wp2_with (go_at_call 11; ((with_reducible refine hT2.mono ?_); clear hT2; rintro e y3 ⟨rfl, f3⟩))
      go_ret
      exact ⟨rfl, HZ.out.trans ((f12.trans (f3.mono f12.size)).mono HZ.out.size)⟩

set_option maxHeartbeats 20000000 in
set_option maxRecDepth 100000 in
theorem back_big (p : Pg) (A : Option Addr) (nf cap : Nat) (X : Option Addr) (nm capx : Nat) (A2 : Option Addr) (n cap2 N : Nat) (l : List UInt8) (W : World) (hpv : PgV W.heap.size W (.agg #[.slice A nf cap, .slice X nm capx]) p) (hc : cntL p.pts ≤ 1048576) (ht : TT W) (hl : l.length = n) (hlc : n ≤ cap2) (hcm : cap2 ≤ 9223372036854775807) (hrow : Row W A2 l) (hr : rightN p = 0) (hz : 65536 < p.txt.length) (hN : N = (min (n : Int) 4000).toNat) :
    Calls Tryz.prog 4 #[.agg #[.slice A nf cap, .slice X nm capx], .slice A2 n cap2] W fun e w' => e = .returned (.bool true) ∧ Below W.heap.size W w' := by
  have hlN : (l.take N).length = N := by rw [List.length_take]; omega
  have hN4 : N ≤ 4000 := by omega
  have hNn : N ≤ n := by omega
  have HNE := hid hN
  clear hl hN
  obtain ⟨w2, hw2⟩ : ∃ w2, W.alloc (.cells #[.slice A nf cap, .slice X nm capx] 25) = w2 := ⟨_, rfl⟩
  have b2 : Below W.heap.size W w2 := by rw [← hw2]; exact (Below.refl _ _).alloc (Nat.le_refl _) _
  have z2 : w2.heap.size = W.heap.size + 1 := by rw [← hw2]; simp
  have g2 : w2.heap[W.heap.size]? = some (.cells #[.slice A nf cap, .slice X nm capx] 25 (0, 0)) := by rw [← hw2]; exact heap_alloc_new W _
  have hS := shown5_fr w2 (ht.step b2)
  go_enter Tryz.func4, Tryz.ntmps4
  go_upto_region 2 with (go_at_call 10; ((with_reducible refine hS.mono ?_); clear hS; rintro e w3 ⟨rfl, c3⟩))
  have b3 : Below W.heap.size W w3 := b2.trans (c3.mono b2.size)
  have s3 := c3.size
  have g3 := (c3.block W.heap.size (by omega)).trans g2
  have HB := hid (fun w' (hb : Below w3.heap.size w3 w') => cells_two ((hb.block W.heap.size (by omega)).trans g3))
  obtain ⟨e0, e1⟩ := cells_two g3
  have HW := hid (fun w' (hb : Below w3.heap.size w3 w') => (b3.trans (hb.mono b3.size) : Below W.heap.size W w'))
  have HTT := hid (fun w' (hb : Below w3.heap.size w3 w') => ht.step (b3.trans (hb.mono b3.size)))
  have HPV := hid (fun w' (hb : Below w3.heap.size w3 w') => hpv.below (b3.trans (hb.mono b3.size)) (Nat.le_refl _))
  have HROW := hid (fun w' (hb : Below w3.heap.size w3 w') => (hrow.below (b3.trans (hb.mono b3.size)) (Nat.le_refl _)).take N)
  obtain ⟨B, hB⟩ : ∃ B, baL (textP p) = B := ⟨_, rfl⟩
  have hT := txt_c (B := B) _ w3 W.heap.size b3.size (hpv.below b3 (Nat.le_refl _)) (ht.step b3) (by omega) hB
  have HR := hid (fun w' (hb : Below w3.heap.size w3 w') => right_any _ p w' W.heap.size (Nat.le_trans b3.size hb.size) (HPV.out w' hb) (HTT.out w' hb).tree)
  clear hw2 g2 z2 b2 c3 g3
  have htx : textP p = p.txt := by unfold textP; rw [if_pos hr]
  rw [htx] at hB
  rw [hr] at HR
  have hBs : B.size = p.txt.length := by rw [← hB, baL_size]
  have k1 : decide ((B.size : Int) ≤ 65536) = false := decide_eq_false (by omega)
  have kb := run_bs
  clear hr htx hBs hB
  go_upto_region 10 with (first
    | (go_at_call 11; ((with_reducible refine hT.mono ?_); clear hT; rintro e w4 ⟨rfl, c4⟩; obtain ⟨f0, f1⟩ := HB.out w4 c4))
    | (go_at_call 13; ((with_reducible refine (HR.out w4 c4).mono ?_); rintro e w5 ⟨rfl, c5⟩)))
  have dz : Below w3.heap.size w3 w5 := c4.trans (c5.mono c4.size)
  obtain ⟨wz, hwz⟩ : ∃ w, w5 = w := ⟨_, rfl⟩
  rw [hwz] at dz ⊢
  clear e0 e1 f0 f1 k1
  cases hb : tl (l.take N) with
  | out => exact absurd hb (tl_ne _)
  | bad y c =>
    have hq := pb_bad hb A2 N cap2 wz hlN (by omega) (by omega) (HROW.out wz dz)
    rw [HNE.out] at hq
    have m1 : ((c : Int) == 0) = false := beq_eq_false_iff_ne.2 (by have := bad_code hb; omega)
    have m2 : ((c : Int) != 0) = true := bne_iff_ne.2 (by have := bad_code hb; omega)
    have m3 : c ≠ 0 := bad_code hb
    have HZ := hid (HW.out wz dz)
    clear hb HB HW HTT HPV HROW HR hlN
    go_wp2_with (go_at_call 14; ((with_reducible refine hq.mono ?_); clear hq; rintro e y1 ⟨rfl, f1⟩))
    go_ret
    exact ⟨rfl, HZ.out.trans ((f1.alloc f1.size _).mono HZ.out.size)⟩
  | ok q rr =>
    have hq := pb_ok hb A2 N cap2 wz hlN (by omega) (by omega) (HROW.out wz dz)
    rw [HNE.out] at hq
    have hqr := ok_right hb
    have hqc := tl_cnt hb
    rw [hlN] at hqc
    have htq : textP q = q.txt := by unfold textP; rw [if_pos hqr]
    obtain ⟨T, hT⟩ : ∃ T, baL q.txt = T := ⟨_, rfl⟩
    have hTs : T.size = q.txt.length := by rw [← hT, baL_size]
    have HZ := hid (HW.out wz dz)
    have HTZ := hid (HTT.out wz dz)
    clear hb HB HW HTT HPV HROW HR hlN
    go_upto_region 11 with (go_at_call 14; ((with_reducible refine hq.mono ?_); clear hq; rintro e y1 ⟨Bf, nf1, df, Bm, nm1, dm, rfl, u1, f1⟩))
    obtain ⟨y2, hy2⟩ : ∃ y2, y1.alloc (.cells #[.slice Bf nf1 df, .slice Bm nm1 dm] 25) = y2 := ⟨_, rfl⟩
    have f2 : Below y1.heap.size y1 y2 := by rw [← hy2]; exact (Below.refl _ _).alloc (Nat.le_refl _) _
    have j2 : y2.heap[y1.heap.size]? = some (.cells #[.slice Bf nf1 df, .slice Bm nm1 dm] 25 (0, 0)) := by rw [← hy2]; exact heap_alloc_new y1 _
    have i2 : y1.heap.size < y2.heap.size := (Array.getElem?_eq_some_iff.1 j2).1
    have f12 : Below wz.heap.size wz y2 := f1.trans (f2.mono f1.size)
    have u2 := u1.below f2 (Nat.le_refl _)
    obtain ⟨a0, a1⟩ := cells_two j2
    rw [hy2]
    have hT2 := txt_c (B := T) _ y2 y1.heap.size f2.size u2 (HTZ.out.step f12) (by omega) (by rw [htq]; exact hT)
    have HJ := hid j2
    have HU := hid u2
    clear hy2 j2 u2 u1 f1
    by_cases hz2 : q.txt.length ≤ 65536
    · have m1 : decide ((65536 : Int) < (T.size : Int)) = false := decide_eq_false (by omega)
      obtain ⟨rest2, hrd2⟩ := tl_txt hqr (by omega)
      have hrd3 : tl T.data.toList = .ok q rest2 := by rw [← hT]; exact hrd2
      have HP2 := hid (fun w => qk_ok hrd3 T.size rfl (by omega) w)
      have HE2 := hid (fun v v' w' C (hC : C ≤ w'.heap.size) (h1 : PgV C w' v q) (h2 : PgV C w' v' q) => (by
        have := equal_any v v' q q w' C hC h1 h2
        rw [(eqG_iff q q).2 rfl] at this
        exact this : Calls Tryz.prog 15 #[v, v'] w' fun e w'' => e = .returned (.bool true) ∧ Below w'.heap.size w' w''))
      clear hqr hT hTs htq hrd2 hrd3
      go_upto_region 16 with (go_at_call 11; ((with_reducible refine hT2.mono ?_); clear hT2; rintro e y3 ⟨rfl, f3⟩))
      clear a0 a1
      go_upto_region 17 with (go_at_call 14; ((with_reducible refine (HP2.out _).mono ?_); rintro e y4 ⟨Cf, nf2, ef, Cm, nm2, em, rfl, u4, f4⟩))
      obtain ⟨y5, hy5⟩ : ∃ y5, y4.alloc (.cells #[.slice Cf nf2 ef, .slice Cm nm2 em] 25) = y5 := ⟨_, rfl⟩
      have f5 : Below y4.heap.size y4 y5 := by rw [← hy5]; exact (Below.refl _ _).alloc (Nat.le_refl _) _
      have j5 : y5.heap[y4.heap.size]? = some (.cells #[.slice Cf nf2 ef, .slice Cm nm2 em] 25 (0, 0)) := by rw [← hy5]; exact heap_alloc_new y4 _
      have u5 := u4.below f5 (Nat.le_refl _)
      have f34 : Below y2.heap.size y2 y4 := f3.trans (f4.mono f3.size)
      have f35 : Below y2.heap.size y2 y5 := f34.trans (f5.mono f34.size)
      obtain ⟨a2, a3⟩ := cells_two ((f35.block y1.heap.size i2).trans HJ.out)
      obtain ⟨a4, a5⟩ := cells_two j5
      have hE2 := HE2.out _ _ y5 y5.heap.size (Nat.le_refl _) (((HU.out.below (Below.refl y2.heap.size y2 |>.mono f2.size) f2.size).below f35 (Nat.le_refl _)).below (Below.refl y5.heap.size y5 |>.mono f35.size) f35.size) (u5.below (Below.refl y5.heap.size y5 |>.mono f5.size) f5.size)
      rw [hy5]
      clear hy5 j5 u5 u4
      go_wp2_with (go_at_call 15; ((with_reducible refine hE2.mono ?_); clear hE2; rintro e y6 ⟨rfl, f6⟩))
      go_ret
      exact ⟨rfl, HZ.out.trans ((f12.trans ((f35.trans (f6.mono f35.size)).mono f12.size)).mono HZ.out.size)⟩
    · have m1 : decide ((65536 : Int) < (T.size : Int)) = true := decide_eq_true (by omega)
      clear hqr hT hTs htq
      go_wp2_with (go_at_call 11; ((with_reducible refine hT2.mono ?_); clear hT2; rintro e y3 ⟨rfl, f3⟩))
      go_ret
      exact ⟨rfl, HZ.out.trans ((f12.trans (f3.mono f12.size)).mono HZ.out.size)⟩

set_option maxHeartbeats 20000000 in
set_option maxRecDepth 100000 in
theorem back_not (p : Pg) (A : Option Addr) (nf cap : Nat) (X : Option Addr) (nm capx : Nat) (A2 : Option Addr) (n cap2 N : Nat) (l : List UInt8) (W : World) (hpv : PgV W.heap.size W (.agg #[.slice A nf cap, .slice X nm capx]) p) (hc : cntL p.pts ≤ 1048576) (ht : TT W) (hl : l.length = n) (hlc : n ≤ cap2) (hcm : cap2 ≤ 9223372036854775807) (hrow : Row W A2 l) (hr : rightN p ≠ 0) (hN : N = (min (n : Int) 4000).toNat) :
    Calls Tryz.prog 4 #[.agg #[.slice A nf cap, .slice X nm capx], .slice A2 n cap2] W fun e w' => e = .returned (.bool true) ∧ Below W.heap.size W w' := by
  have hlN : (l.take N).length = N := by rw [List.length_take]; omega
  have hN4 : N ≤ 4000 := by omega
  have hNn : N ≤ n := by omega
  have HNE := hid hN
  clear hl hN
  obtain ⟨w2, hw2⟩ : ∃ w2, W.alloc (.cells #[.slice A nf cap, .slice X nm capx] 25) = w2 := ⟨_, rfl⟩
  have b2 : Below W.heap.size W w2 := by rw [← hw2]; exact (Below.refl _ _).alloc (Nat.le_refl _) _
  have z2 : w2.heap.size = W.heap.size + 1 := by rw [← hw2]; simp
  have g2 : w2.heap[W.heap.size]? = some (.cells #[.slice A nf cap, .slice X nm capx] 25 (0, 0)) := by rw [← hw2]; exact heap_alloc_new W _
  have hS := shown5_fr w2 (ht.step b2)
  go_enter Tryz.func4, Tryz.ntmps4
  go_upto_region 2 with (go_at_call 10; ((with_reducible refine hS.mono ?_); clear hS; rintro e w3 ⟨rfl, c3⟩))
  have b3 : Below W.heap.size W w3 := b2.trans (c3.mono b2.size)
  have s3 := c3.size
  have g3 := (c3.block W.heap.size (by omega)).trans g2
  have HB := hid (fun w' (hb : Below w3.heap.size w3 w') => cells_two ((hb.block W.heap.size (by omega)).trans g3))
  obtain ⟨e0, e1⟩ := cells_two g3
  have HW := hid (fun w' (hb : Below w3.heap.size w3 w') => (b3.trans (hb.mono b3.size) : Below W.heap.size W w'))
  have HTT := hid (fun w' (hb : Below w3.heap.size w3 w') => ht.step (b3.trans (hb.mono b3.size)))
  have HPV := hid (fun w' (hb : Below w3.heap.size w3 w') => hpv.below (b3.trans (hb.mono b3.size)) (Nat.le_refl _))
  have HROW := hid (fun w' (hb : Below w3.heap.size w3 w') => (hrow.below (b3.trans (hb.mono b3.size)) (Nat.le_refl _)).take N)
  obtain ⟨B, hB⟩ : ∃ B, baL (textP p) = B := ⟨_, rfl⟩
  have hT := txt_c (B := B) _ w3 W.heap.size b3.size (hpv.below b3 (Nat.le_refl _)) (ht.step b3) (by omega) hB
  have HR := hid (fun w' (hb : Below w3.heap.size w3 w') => right_any _ p w' W.heap.size (Nat.le_trans b3.size hb.size) (HPV.out w' hb) (HTT.out w' hb).tree)
  clear hw2 g2 z2 b2 c3 g3
  have htx : textP p = [] := by unfold textP; rw [if_neg hr]
  rw [htx] at hB
  obtain rfl : (⟨#[]⟩ : ByteArray) = B := hB
  have kb := run_bs
  obtain ⟨k, hk⟩ : ∃ k, rightN p = k := ⟨_, rfl⟩
  rw [hk] at HR hr
  have k0 : (k == 0) = false := beq_eq_false_iff_ne.2 hr
  have k1 : (k != 0) = true := bne_iff_ne.2 hr
  clear hk htx
  go_upto_region 10 with (first
    | (go_at_call 11; ((with_reducible refine hT.mono ?_); clear hT; rintro e w4 ⟨rfl, c4⟩; obtain ⟨f0, f1⟩ := HB.out w4 c4))
    | (go_at_call 13; ((with_reducible refine (HR.out w4 c4).mono ?_); rintro e w5 ⟨rfl, c5⟩)))
  have dz : Below w3.heap.size w3 w5 := c4.trans (c5.mono c4.size)
  obtain ⟨wz, hwz⟩ : ∃ w, w5 = w := ⟨_, rfl⟩
  rw [hwz] at dz ⊢
  clear e0 e1 f0 f1 k0 k1
  cases hb : tl (l.take N) with
  | out => exact absurd hb (tl_ne _)
  | bad y c =>
    have hq := pb_bad hb A2 N cap2 wz hlN (by omega) (by omega) (HROW.out wz dz)
    rw [HNE.out] at hq
    have m1 : ((c : Int) == 0) = false := beq_eq_false_iff_ne.2 (by have := bad_code hb; omega)
    have m2 : ((c : Int) != 0) = true := bne_iff_ne.2 (by have := bad_code hb; omega)
    have m3 : c ≠ 0 := bad_code hb
    have HZ := hid (HW.out wz dz)
    clear hb HB HW HTT HPV HROW HR hlN
    go_wp2_with (go_at_call 14; ((with_reducible refine hq.mono ?_); clear hq; rintro e y1 ⟨rfl, f1⟩))
    go_ret
    exact ⟨rfl, HZ.out.trans ((f1.alloc f1.size _).mono HZ.out.size)⟩
  | ok q rr =>
    have hq := pb_ok hb A2 N cap2 wz hlN (by omega) (by omega) (HROW.out wz dz)
    rw [HNE.out] at hq
    have hqr := ok_right hb
    have hqc := tl_cnt hb
    rw [hlN] at hqc
    have htq : textP q = q.txt := by unfold textP; rw [if_pos hqr]
    obtain ⟨T, hT⟩ : ∃ T, baL q.txt = T := ⟨_, rfl⟩
    have hTs : T.size = q.txt.length := by rw [← hT, baL_size]
    have HZ := hid (HW.out wz dz)
    have HTZ := hid (HTT.out wz dz)
    clear hb HB HW HTT HPV HROW HR hlN
    go_upto_region 11 with (go_at_call 14; ((with_reducible refine hq.mono ?_); clear hq; rintro e y1 ⟨Bf, nf1, df, Bm, nm1, dm, rfl, u1, f1⟩))
    obtain ⟨y2, hy2⟩ : ∃ y2, y1.alloc (.cells #[.slice Bf nf1 df, .slice Bm nm1 dm] 25) = y2 := ⟨_, rfl⟩
    have f2 : Below y1.heap.size y1 y2 := by rw [← hy2]; exact (Below.refl _ _).alloc (Nat.le_refl _) _
    have j2 : y2.heap[y1.heap.size]? = some (.cells #[.slice Bf nf1 df, .slice Bm nm1 dm] 25 (0, 0)) := by rw [← hy2]; exact heap_alloc_new y1 _
    have i2 : y1.heap.size < y2.heap.size := (Array.getElem?_eq_some_iff.1 j2).1
    have f12 : Below wz.heap.size wz y2 := f1.trans (f2.mono f1.size)
    have u2 := u1.below f2 (Nat.le_refl _)
    obtain ⟨a0, a1⟩ := cells_two j2
    rw [hy2]
    have hT2 := txt_c (B := T) _ y2 y1.heap.size f2.size u2 (HTZ.out.step f12) (by omega) (by rw [htq]; exact hT)
    have HJ := hid j2
    have HU := hid u2
    clear hy2 j2 u2 u1 f1
    by_cases hz2 : q.txt.length ≤ 65536
    · have m1 : decide ((65536 : Int) < (T.size : Int)) = false := decide_eq_false (by omega)
      obtain ⟨rest2, hrd2⟩ := tl_txt hqr (by omega)
      have hrd3 : tl T.data.toList = .ok q rest2 := by rw [← hT]; exact hrd2
      have HP2 := hid (fun w => qk_ok hrd3 T.size rfl (by omega) w)
      have HE2 := hid (fun v v' w' C (hC : C ≤ w'.heap.size) (h1 : PgV C w' v q) (h2 : PgV C w' v' q) => (by
        have := equal_any v v' q q w' C hC h1 h2
        rw [(eqG_iff q q).2 rfl] at this
        exact this : Calls Tryz.prog 15 #[v, v'] w' fun e w'' => e = .returned (.bool true) ∧ Below w'.heap.size w' w''))
      clear hqr hT hTs htq hrd2 hrd3
      go_upto_region 16 with (go_at_call 11; ((with_reducible refine hT2.mono ?_); clear hT2; rintro e y3 ⟨rfl, f3⟩))
      clear a0 a1
      go_upto_region 17 with (go_at_call 14; ((with_reducible refine (HP2.out _).mono ?_); rintro e y4 ⟨Cf, nf2, ef, Cm, nm2, em, rfl, u4, f4⟩))
      obtain ⟨y5, hy5⟩ : ∃ y5, y4.alloc (.cells #[.slice Cf nf2 ef, .slice Cm nm2 em] 25) = y5 := ⟨_, rfl⟩
      have f5 : Below y4.heap.size y4 y5 := by rw [← hy5]; exact (Below.refl _ _).alloc (Nat.le_refl _) _
      have j5 : y5.heap[y4.heap.size]? = some (.cells #[.slice Cf nf2 ef, .slice Cm nm2 em] 25 (0, 0)) := by rw [← hy5]; exact heap_alloc_new y4 _
      have u5 := u4.below f5 (Nat.le_refl _)
      have f34 : Below y2.heap.size y2 y4 := f3.trans (f4.mono f3.size)
      have f35 : Below y2.heap.size y2 y5 := f34.trans (f5.mono f34.size)
      obtain ⟨a2, a3⟩ := cells_two ((f35.block y1.heap.size i2).trans HJ.out)
      obtain ⟨a4, a5⟩ := cells_two j5
      have hE2 := HE2.out _ _ y5 y5.heap.size (Nat.le_refl _) (((HU.out.below (Below.refl y2.heap.size y2 |>.mono f2.size) f2.size).below f35 (Nat.le_refl _)).below (Below.refl y5.heap.size y5 |>.mono f35.size) f35.size) (u5.below (Below.refl y5.heap.size y5 |>.mono f5.size) f5.size)
      rw [hy5]
      clear hy5 j5 u5 u4
      go_wp2_with (go_at_call 15; ((with_reducible refine hE2.mono ?_); clear hE2; rintro e y6 ⟨rfl, f6⟩))
      go_ret
      exact ⟨rfl, HZ.out.trans ((f12.trans ((f35.trans (f6.mono f35.size)).mono f12.size)).mono HZ.out.size)⟩
    · have m1 : decide ((65536 : Int) < (T.size : Int)) = true := decide_eq_true (by omega)
      clear hqr hT hTs htq
      go_wp2_with (go_at_call 11; ((with_reducible refine hT2.mono ?_); clear hT2; rintro e y3 ⟨rfl, f3⟩))
      go_ret
      exact ⟨rfl, HZ.out.trans ((f12.trans (f3.mono f12.size)).mono HZ.out.size)⟩

theorem back_walk (p : Pg) (A : Option Addr) (nf cap : Nat) (X : Option Addr) (nm capx : Nat) (A2 : Option Addr) (n cap2 : Nat) (l : List UInt8) (W : World) (hpv : PgV W.heap.size W (.agg #[.slice A nf cap, .slice X nm capx]) p) (hc : cntL p.pts ≤ 1048576) (ht : TT W) (hl : l.length = n) (hlc : n ≤ cap2) (hcm : cap2 ≤ 9223372036854775807) (hrow : Row W A2 l) :
    Calls Tryz.prog 4 #[.agg #[.slice A nf cap, .slice X nm capx], .slice A2 n cap2] W fun e w' => e = .returned (.bool true) ∧ Below W.heap.size W w' := by
  by_cases hr : rightN p = 0
  · by_cases hz : p.txt.length ≤ 65536
    · exact back_small p A nf cap X nm capx A2 n cap2 _ l W hpv hc ht hl hlc hcm hrow hr hz rfl
    · exact back_big p A nf cap X nm capx A2 n cap2 _ l W hpv hc ht hl hlc hcm hrow hr (by omega) rfl
  · exact back_not p A nf cap X nm capx A2 n cap2 _ l W hpv hc ht hl hlc hcm hrow hr rfl
end Go.Proofs.YtppagjhmlgkamaaGreatDoor
