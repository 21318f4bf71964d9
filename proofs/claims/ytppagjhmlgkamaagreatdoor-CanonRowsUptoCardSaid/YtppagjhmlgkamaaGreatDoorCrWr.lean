/-
  CanonRows: the walk.
-/
import Derived.Test.YtppagjhmlgkamaaGreatDoorCz5
import Derived.Test.YtppagjhmlgkamaaGreatDoorCrIr
import Derived.Test.YtppagjhmlgkamaaGreatDoorCrPr
import Derived.Test.YtppagjhmlgkamaaGreatDoorCbHr
import Derived.Deep.DeepCutAuto
namespace Go.Proofs.YtppagjhmlgkamaaGreatDoor
open Go Go.RowKit Go.Lib

theorem lt_of_cellR {W : World} {a : Addr} {v : Value} (h : W.cell? a = some v) : a.block < W.heap.size := by
  rcases Nat.lt_or_ge a.block W.heap.size with h' | h'
  · exact h'
  · simp [World.cell?, Array.getElem?_eq_none h'] at h
theorem sv_nil0 {B : Nat} {W : World} {A : Option Addr} {n cap : Nat} {l : SS} (h : SV B W (.slice A n cap) l) (e0 : A = none) : n = 0 := by
  subst e0
  obtain ⟨A', c, e, _, _, hr⟩ := h
  injection e with e1 e2 _
  subst e1 e2
  rcases Nat.eq_zero_or_pos l.len with h | h
  · exact h
  · obtain ⟨_, _, h, _⟩ := hr h
    cases h
theorem sl_le : ∀ l : SS, l.len ≤ l.cnt
  | .nil => Nat.le_refl _
  | .cons _ _ _ _ _ _ r => by have := sl_le r; simp only [SS.len, SS.cnt]; omega

theorem baL_app' (a b : List UInt8) : baL (a ++ b) = baL a ++ baL b := by unfold baL; rw [ByteArray.mk_append_mk]

set_option maxHeartbeats 8000000 in
set_option maxRecDepth 100000 in
theorem rows_not1 (p q : Pg) (A : Option Addr) (nF cap : Nat) (X : Option Addr) (nM capx : Nat) (A' : Option Addr) (nF' cap' : Nat) (X' : Option Addr) (nM' capx' : Nat) (W : World) (hF : FV W.heap.size W (.slice A nF cap) p.fs) (hM : SV W.heap.size W (.slice X nM capx) p.m) (hF' : FV W.heap.size W (.slice A' nF' cap') q.fs) (hM' : SV W.heap.size W (.slice X' nM' capx') q.m) (ht : TT W)
    (hnf : p.fs.length = nF) (hnm : p.m.len = nM) (hnf' : q.fs.length = nF') (hnm' : q.m.len = nM') (hr : rightN p ≠ 0) :
    Calls Tryz.prog 9 #[.agg #[.slice A nF cap, .slice X nM capx], .agg #[.slice A' nF' cap', .slice X' nM' capx']] W fun e w' => e = .returned (.bool true) ∧ Below W.heap.size W w' := by
  have hpv : PgV W.heap.size W (.agg #[.slice A nF cap, .slice X nM capx]) p := by subst hnf hnm; exact ⟨A, cap, X, capx, rfl, hF, hM⟩
  have hqv : PgV W.heap.size W (.agg #[.slice A' nF' cap', .slice X' nM' capx']) q := by subst hnf' hnm'; exact ⟨A', cap', X', capx', rfl, hF', hM'⟩
  obtain ⟨v1, hv1⟩ : ∃ v1, W.alloc (.cells #[.slice A nF cap, .slice X nM capx] 25) = v1 := ⟨_, rfl⟩
  have b1 : Below W.heap.size W v1 := by rw [← hv1]; exact (Below.refl _ _).alloc (Nat.le_refl _) _
  have z1 : v1.heap.size = W.heap.size + 1 := by rw [← hv1]; simp
  have g1 : v1.heap[W.heap.size]? = some (.cells #[.slice A nF cap, .slice X nM capx] 25 (0, 0)) := by rw [← hv1]; exact heap_alloc_new W _
  obtain ⟨v2, hv2⟩ : ∃ v2, v1.alloc (.cells #[.slice A' nF' cap', .slice X' nM' capx'] 25) = v2 := ⟨_, rfl⟩
  have b12 : Below v1.heap.size v1 v2 := by rw [← hv2]; exact (Below.refl _ _).alloc (Nat.le_refl _) _
  have z2 : v2.heap.size = W.heap.size + 1 + 1 := by rw [← hv2]; simp [z1]
  have g2' : v2.heap[W.heap.size + 1]? = some (.cells #[.slice A' nF' cap', .slice X' nM' capx'] 25 (0, 0)) := by rw [← hv2, ← z1]; exact heap_alloc_new v1 _
  have g2 := (b12.block W.heap.size (by omega)).trans g1
  have b2 : Below W.heap.size W v2 := b1.trans (b12.mono (by omega))
  have hS := shown5_fr v2 (ht.step b2)
  go_enter Tryz.func9, Tryz.ntmps9
  go_upto_region 2 with (go_at_call 10; ((with_reducible refine hS.mono ?_); clear hS; rintro e w3 ⟨rfl, c3⟩))
  have b3 : Below W.heap.size W w3 := b2.trans (c3.mono b2.size)
  have s3 := c3.size
  have g3 := (c3.block W.heap.size (by omega)).trans g2
  have g3' := (c3.block (W.heap.size + 1) (by omega)).trans g2'
  have HB := hid (fun w' (hb : Below w3.heap.size w3 w') => cells_two ((hb.block W.heap.size (by omega)).trans g3))
  have HB' := hid (fun w' (hb : Below w3.heap.size w3 w') => cells_two ((hb.block (W.heap.size + 1) (by omega)).trans g3'))
  obtain ⟨e0, e1⟩ := cells_two g3
  obtain ⟨e2, e3⟩ := cells_two g3'
  have hR := right_any _ p w3 W.heap.size b3.size (hpv.below b3 (Nat.le_refl _)) (ht.step b3).tree
  have HR := hid (fun w' (hb : Below w3.heap.size w3 w') => right_any _ q w' W.heap.size (Nat.le_trans b3.size hb.size) (hqv.below (b3.trans (hb.mono b3.size)) (Nat.le_refl _)) (ht.step (b3.trans (hb.mono b3.size))).tree)
  have HTT := hid (fun w' (hb : Below w3.heap.size w3 w') => ht.step (b3.trans (hb.mono b3.size)))
  have HW := hid (fun w' (hb : Below w3.heap.size w3 w') => (b3.trans (hb.mono b3.size) : Below W.heap.size W w'))
  clear g1 g2 g2' g3 g3' hv1 hv2 b12 z1
  obtain ⟨k, hk⟩ : ∃ k, rightN p = k := ⟨_, rfl⟩
  rw [hk] at hR hr
  have k0 : (k == 0) = false := beq_eq_false_iff_ne.2 hr
  have k1 : (k != 0) = true := bne_iff_ne.2 hr
  clear hk hpv hqv hF hM hF' hM' hnf hnm hnf' hnm'
  go_wp2_with (go_at_call 13; ((with_reducible refine hR.mono ?_); clear hR; rintro e w4 ⟨rfl, c4⟩))
  go_ret
  exact ⟨rfl, b3.trans (c4.mono b3.size)⟩

set_option maxHeartbeats 8000000 in
set_option maxRecDepth 100000 in
theorem rows_not2 (p q : Pg) (A : Option Addr) (nF cap : Nat) (X : Option Addr) (nM capx : Nat) (A' : Option Addr) (nF' cap' : Nat) (X' : Option Addr) (nM' capx' : Nat) (W : World) (hF : FV W.heap.size W (.slice A nF cap) p.fs) (hM : SV W.heap.size W (.slice X nM capx) p.m) (hF' : FV W.heap.size W (.slice A' nF' cap') q.fs) (hM' : SV W.heap.size W (.slice X' nM' capx') q.m) (ht : TT W)
    (hnf : p.fs.length = nF) (hnm : p.m.len = nM) (hnf' : q.fs.length = nF') (hnm' : q.m.len = nM') (hr : rightN p = 0) (hr' : rightN q ≠ 0) :
    Calls Tryz.prog 9 #[.agg #[.slice A nF cap, .slice X nM capx], .agg #[.slice A' nF' cap', .slice X' nM' capx']] W fun e w' => e = .returned (.bool true) ∧ Below W.heap.size W w' := by
  have hpv : PgV W.heap.size W (.agg #[.slice A nF cap, .slice X nM capx]) p := by subst hnf hnm; exact ⟨A, cap, X, capx, rfl, hF, hM⟩
  have hqv : PgV W.heap.size W (.agg #[.slice A' nF' cap', .slice X' nM' capx']) q := by subst hnf' hnm'; exact ⟨A', cap', X', capx', rfl, hF', hM'⟩
  obtain ⟨v1, hv1⟩ : ∃ v1, W.alloc (.cells #[.slice A nF cap, .slice X nM capx] 25) = v1 := ⟨_, rfl⟩
  have b1 : Below W.heap.size W v1 := by rw [← hv1]; exact (Below.refl _ _).alloc (Nat.le_refl _) _
  have z1 : v1.heap.size = W.heap.size + 1 := by rw [← hv1]; simp
  have g1 : v1.heap[W.heap.size]? = some (.cells #[.slice A nF cap, .slice X nM capx] 25 (0, 0)) := by rw [← hv1]; exact heap_alloc_new W _
  obtain ⟨v2, hv2⟩ : ∃ v2, v1.alloc (.cells #[.slice A' nF' cap', .slice X' nM' capx'] 25) = v2 := ⟨_, rfl⟩
  have b12 : Below v1.heap.size v1 v2 := by rw [← hv2]; exact (Below.refl _ _).alloc (Nat.le_refl _) _
  have z2 : v2.heap.size = W.heap.size + 1 + 1 := by rw [← hv2]; simp [z1]
  have g2' : v2.heap[W.heap.size + 1]? = some (.cells #[.slice A' nF' cap', .slice X' nM' capx'] 25 (0, 0)) := by rw [← hv2, ← z1]; exact heap_alloc_new v1 _
  have g2 := (b12.block W.heap.size (by omega)).trans g1
  have b2 : Below W.heap.size W v2 := b1.trans (b12.mono (by omega))
  have hS := shown5_fr v2 (ht.step b2)
  go_enter Tryz.func9, Tryz.ntmps9
  go_upto_region 2 with (go_at_call 10; ((with_reducible refine hS.mono ?_); clear hS; rintro e w3 ⟨rfl, c3⟩))
  have b3 : Below W.heap.size W w3 := b2.trans (c3.mono b2.size)
  have s3 := c3.size
  have g3 := (c3.block W.heap.size (by omega)).trans g2
  have g3' := (c3.block (W.heap.size + 1) (by omega)).trans g2'
  have HB := hid (fun w' (hb : Below w3.heap.size w3 w') => cells_two ((hb.block W.heap.size (by omega)).trans g3))
  have HB' := hid (fun w' (hb : Below w3.heap.size w3 w') => cells_two ((hb.block (W.heap.size + 1) (by omega)).trans g3'))
  obtain ⟨e0, e1⟩ := cells_two g3
  obtain ⟨e2, e3⟩ := cells_two g3'
  have hR := right_any _ p w3 W.heap.size b3.size (hpv.below b3 (Nat.le_refl _)) (ht.step b3).tree
  have HR := hid (fun w' (hb : Below w3.heap.size w3 w') => right_any _ q w' W.heap.size (Nat.le_trans b3.size hb.size) (hqv.below (b3.trans (hb.mono b3.size)) (Nat.le_refl _)) (ht.step (b3.trans (hb.mono b3.size))).tree)
  have HTT := hid (fun w' (hb : Below w3.heap.size w3 w') => ht.step (b3.trans (hb.mono b3.size)))
  have HW := hid (fun w' (hb : Below w3.heap.size w3 w') => (b3.trans (hb.mono b3.size) : Below W.heap.size W w'))
  clear g1 g2 g2' g3 g3' hv1 hv2 b12 z1
  rw [hr] at hR
  obtain ⟨k, hk⟩ : ∃ k, rightN q = k := ⟨_, rfl⟩
  rw [hk] at HR hr'
  have k0 : (k == 0) = false := beq_eq_false_iff_ne.2 hr'
  have k1 : (k != 0) = true := bne_iff_ne.2 hr'
  clear hk hr hpv hqv hF hM hF' hM' hnf hnm hnf' hnm'
  go_wp2_with (first
    | (go_at_call 13; ((with_reducible refine hR.mono ?_); clear hR; rintro e w4 ⟨rfl, c4⟩; obtain ⟨r2, r3⟩ := HB'.out w4 c4))
    | (go_at_call 13; ((with_reducible refine (HR.out w4 c4).mono ?_); rintro e w5 ⟨rfl, c5⟩)))
  go_ret
  exact ⟨rfl, b3.trans ((c4.trans (c5.mono c4.size)).mono b3.size)⟩

set_option maxHeartbeats 8000000 in
set_option maxRecDepth 100000 in
theorem rows_many (p q : Pg) (A : Option Addr) (nF cap : Nat) (X : Option Addr) (nM capx : Nat) (A' : Option Addr) (nF' cap' : Nat) (X' : Option Addr) (nM' capx' : Nat) (W : World) (hF : FV W.heap.size W (.slice A nF cap) p.fs) (hM : SV W.heap.size W (.slice X nM capx) p.m) (hF' : FV W.heap.size W (.slice A' nF' cap') q.fs) (hM' : SV W.heap.size W (.slice X' nM' capx') q.m) (ht : TT W)
    (hnf : p.fs.length = nF) (hnm : p.m.len = nM) (hnf' : q.fs.length = nF') (hnm' : q.m.len = nM') (hr : rightN p = 0) (hr' : rightN q = 0) (h32 : 32 < nF + nF') :
    Calls Tryz.prog 9 #[.agg #[.slice A nF cap, .slice X nM capx], .agg #[.slice A' nF' cap', .slice X' nM' capx']] W fun e w' => e = .returned (.bool true) ∧ Below W.heap.size W w' := by
  have hpv : PgV W.heap.size W (.agg #[.slice A nF cap, .slice X nM capx]) p := by subst hnf hnm; exact ⟨A, cap, X, capx, rfl, hF, hM⟩
  have hqv : PgV W.heap.size W (.agg #[.slice A' nF' cap', .slice X' nM' capx']) q := by subst hnf' hnm'; exact ⟨A', cap', X', capx', rfl, hF', hM'⟩
  obtain ⟨v1, hv1⟩ : ∃ v1, W.alloc (.cells #[.slice A nF cap, .slice X nM capx] 25) = v1 := ⟨_, rfl⟩
  have b1 : Below W.heap.size W v1 := by rw [← hv1]; exact (Below.refl _ _).alloc (Nat.le_refl _) _
  have z1 : v1.heap.size = W.heap.size + 1 := by rw [← hv1]; simp
  have g1 : v1.heap[W.heap.size]? = some (.cells #[.slice A nF cap, .slice X nM capx] 25 (0, 0)) := by rw [← hv1]; exact heap_alloc_new W _
  obtain ⟨v2, hv2⟩ : ∃ v2, v1.alloc (.cells #[.slice A' nF' cap', .slice X' nM' capx'] 25) = v2 := ⟨_, rfl⟩
  have b12 : Below v1.heap.size v1 v2 := by rw [← hv2]; exact (Below.refl _ _).alloc (Nat.le_refl _) _
  have z2 : v2.heap.size = W.heap.size + 1 + 1 := by rw [← hv2]; simp [z1]
  have g2' : v2.heap[W.heap.size + 1]? = some (.cells #[.slice A' nF' cap', .slice X' nM' capx'] 25 (0, 0)) := by rw [← hv2, ← z1]; exact heap_alloc_new v1 _
  have g2 := (b12.block W.heap.size (by omega)).trans g1
  have b2 : Below W.heap.size W v2 := b1.trans (b12.mono (by omega))
  have hS := shown5_fr v2 (ht.step b2)
  go_enter Tryz.func9, Tryz.ntmps9
  go_upto_region 2 with (go_at_call 10; ((with_reducible refine hS.mono ?_); clear hS; rintro e w3 ⟨rfl, c3⟩))
  have b3 : Below W.heap.size W w3 := b2.trans (c3.mono b2.size)
  have s3 := c3.size
  have g3 := (c3.block W.heap.size (by omega)).trans g2
  have g3' := (c3.block (W.heap.size + 1) (by omega)).trans g2'
  have HB := hid (fun w' (hb : Below w3.heap.size w3 w') => cells_two ((hb.block W.heap.size (by omega)).trans g3))
  have HB' := hid (fun w' (hb : Below w3.heap.size w3 w') => cells_two ((hb.block (W.heap.size + 1) (by omega)).trans g3'))
  obtain ⟨e0, e1⟩ := cells_two g3
  obtain ⟨e2, e3⟩ := cells_two g3'
  have hR := right_any _ p w3 W.heap.size b3.size (hpv.below b3 (Nat.le_refl _)) (ht.step b3).tree
  have HR := hid (fun w' (hb : Below w3.heap.size w3 w') => right_any _ q w' W.heap.size (Nat.le_trans b3.size hb.size) (hqv.below (b3.trans (hb.mono b3.size)) (Nat.le_refl _)) (ht.step (b3.trans (hb.mono b3.size))).tree)
  have HTT := hid (fun w' (hb : Below w3.heap.size w3 w') => ht.step (b3.trans (hb.mono b3.size)))
  have HW := hid (fun w' (hb : Below w3.heap.size w3 w') => (b3.trans (hb.mono b3.size) : Below W.heap.size W w'))
  clear g1 g2 g2' g3 g3' hv1 hv2 b12 z1
  rw [hr] at hR
  rw [hr'] at HR
  have k32 : decide ((32 : Int) < (nF : Int) + (nF' : Int)) = true := decide_eq_true (by omega)
  have l1 : nF ≤ 32 := by have := (right_parts hr).1.1; omega
  have l2 : nF' ≤ 32 := by have := (right_parts hr').1.1; omega
  clear hr hr' hpv hqv hF hM hF' hM' hnf hnm hnf' hnm'
  go_wp2_with (first
    | (go_at_call 13; ((with_reducible refine hR.mono ?_); clear hR; rintro e w4 ⟨rfl, c4⟩; obtain ⟨r2, r3⟩ := HB'.out w4 c4))
    | (go_at_call 13; ((with_reducible refine (HR.out w4 c4).mono ?_); rintro e w5 ⟨rfl, c5⟩; obtain ⟨t0, t1⟩ := HB.out w5 (c4.trans (c5.mono c4.size)); obtain ⟨t2, t3⟩ := HB'.out w5 (c4.trans (c5.mono c4.size)))))
  go_ret
  exact ⟨rfl, b3.trans ((c4.trans (c5.mono c4.size)).mono b3.size)⟩

set_option maxHeartbeats 8000000 in
set_option maxRecDepth 100000 in
theorem rows_walk (p q : Pg) (A : Option Addr) (nF cap : Nat) (X : Option Addr) (nM capx : Nat) (A' : Option Addr) (nF' cap' : Nat) (X' : Option Addr) (nM' capx' : Nat) (W : World) (hF : FV W.heap.size W (.slice A nF cap) p.fs) (hM : SV W.heap.size W (.slice X nM capx) p.m) (hF' : FV W.heap.size W (.slice A' nF' cap') q.fs) (hM' : SV W.heap.size W (.slice X' nM' capx') q.m) (hc : cntL p.pts ≤ 1048576) (hc' : cntL q.pts ≤ 1048576) (ht : TT W)
    (hnf : p.fs.length = nF) (hnm : p.m.len = nM) (hnf' : q.fs.length = nF') (hnm' : q.m.len = nM') (hr : rightN p = 0) (hr' : rightN q = 0) (h32 : nF + nF' ≤ 32) :
    Calls Tryz.prog 9 #[.agg #[.slice A nF cap, .slice X nM capx], .agg #[.slice A' nF' cap', .slice X' nM' capx']] W fun e w' => e = .returned (.bool true) ∧ Below W.heap.size W w' := by
  have hpv : PgV W.heap.size W (.agg #[.slice A nF cap, .slice X nM capx]) p := by subst hnf hnm; exact ⟨A, cap, X, capx, rfl, hF, hM⟩
  have hqv : PgV W.heap.size W (.agg #[.slice A' nF' cap', .slice X' nM' capx']) q := by subst hnf' hnm'; exact ⟨A', cap', X', capx', rfl, hF', hM'⟩
  obtain ⟨v1, hv1⟩ : ∃ v1, W.alloc (.cells #[.slice A nF cap, .slice X nM capx] 25) = v1 := ⟨_, rfl⟩
  have b1 : Below W.heap.size W v1 := by rw [← hv1]; exact (Below.refl _ _).alloc (Nat.le_refl _) _
  have z1 : v1.heap.size = W.heap.size + 1 := by rw [← hv1]; simp
  have g1 : v1.heap[W.heap.size]? = some (.cells #[.slice A nF cap, .slice X nM capx] 25 (0, 0)) := by rw [← hv1]; exact heap_alloc_new W _
  obtain ⟨v2, hv2⟩ : ∃ v2, v1.alloc (.cells #[.slice A' nF' cap', .slice X' nM' capx'] 25) = v2 := ⟨_, rfl⟩
  have b12 : Below v1.heap.size v1 v2 := by rw [← hv2]; exact (Below.refl _ _).alloc (Nat.le_refl _) _
  have z2 : v2.heap.size = W.heap.size + 1 + 1 := by rw [← hv2]; simp [z1]
  have g2' : v2.heap[W.heap.size + 1]? = some (.cells #[.slice A' nF' cap', .slice X' nM' capx'] 25 (0, 0)) := by rw [← hv2, ← z1]; exact heap_alloc_new v1 _
  have g2 := (b12.block W.heap.size (by omega)).trans g1
  have b2 : Below W.heap.size W v2 := b1.trans (b12.mono (by omega))
  have hS := shown5_fr v2 (ht.step b2)
  go_enter Tryz.func9, Tryz.ntmps9
  go_upto_region 2 with (go_at_call 10; ((with_reducible refine hS.mono ?_); clear hS; rintro e w3 ⟨rfl, c3⟩))
  have b3 : Below W.heap.size W w3 := b2.trans (c3.mono b2.size)
  have s3 := c3.size
  have g3 := (c3.block W.heap.size (by omega)).trans g2
  have g3' := (c3.block (W.heap.size + 1) (by omega)).trans g2'
  have HB := hid (fun w' (hb : Below w3.heap.size w3 w') => cells_two ((hb.block W.heap.size (by omega)).trans g3))
  have HB' := hid (fun w' (hb : Below w3.heap.size w3 w') => cells_two ((hb.block (W.heap.size + 1) (by omega)).trans g3'))
  obtain ⟨e0, e1⟩ := cells_two g3
  obtain ⟨e2, e3⟩ := cells_two g3'
  have hR := right_any _ p w3 W.heap.size b3.size (hpv.below b3 (Nat.le_refl _)) (ht.step b3).tree
  have HR := hid (fun w' (hb : Below w3.heap.size w3 w') => right_any _ q w' W.heap.size (Nat.le_trans b3.size hb.size) (hqv.below (b3.trans (hb.mono b3.size)) (Nat.le_refl _)) (ht.step (b3.trans (hb.mono b3.size))).tree)
  rw [hr] at hR
  rw [hr'] at HR
  have HTT := hid (fun w' (hb : Below w3.heap.size w3 w') => ht.step (b3.trans (hb.mono b3.size)))
  have HW := hid (fun w' (hb : Below w3.heap.size w3 w') => (b3.trans (hb.mono b3.size) : Below W.heap.size W w'))
  clear g1 g2 g2' g3 g3' hv1 hv2 b12 z1
  have lp := txt_le hr hpv (by omega)
  have lq := txt_le hr' hqv (by omega)
  have xp : p.txt = fsX p.fs ++ p.m.txt 0 := rfl
  have xq : q.txt = fsX q.fs ++ q.m.txt 0 := rfl
  rw [xp, List.length_append] at lp
  rw [xq, List.length_append] at lq
  obtain ⟨FA, hFA⟩ : ∃ B, baL (fsX p.fs) = B := ⟨_, rfl⟩
  obtain ⟨FB, hFB⟩ : ∃ B, baL (fsX q.fs) = B := ⟨_, rfl⟩
  obtain ⟨MA, hMA⟩ : ∃ B, baL (p.m.txt 0) = B := ⟨_, rfl⟩
  obtain ⟨MB, hMB⟩ : ∃ B, baL (q.m.txt 0) = B := ⟨_, rfl⟩
  have z1 : FA.size ≤ 32000000000000 := by rw [← hFA, baL_size]; omega
  have z3 : FB.size ≤ 32000000000000 := by rw [← hFB, baL_size]; omega
  have z4 : MA.size ≤ 32000000000000 := by rw [← hMA, baL_size]; omega
  have z5 : MB.size ≤ 32000000000000 := by rw [← hMB, baL_size]; omega
  have HMA := hid (fun w' (hb : Below w3.heap.size w3 w') => txt_c (B := MA) (p := ⟨[], p.m⟩) (.agg #[.slice none 0 0, .slice X nM capx]) w' W.heap.size (Nat.le_trans b3.size hb.size) ⟨none, 0, X, capx, by rw [hnm]; rfl, fv_nil' _ _, by rw [hnm]; exact SV.below hM (HW.out w' hb) (Nat.le_refl _)⟩ (HTT.out w' hb) (by simp only [Pg.pts, fsPts, List.nil_append, SS.cntL, cntL_append] at hc ⊢; omega) (by rw [main_txt hr]; exact hMA))
  have HMB := hid (fun w' (hb : Below w3.heap.size w3 w') => txt_c (B := MB) (p := ⟨[], q.m⟩) (.agg #[.slice none 0 0, .slice X' nM' capx']) w' W.heap.size (Nat.le_trans b3.size hb.size) ⟨none, 0, X', capx', by rw [hnm']; rfl, fv_nil' _ _, by rw [hnm']; exact SV.below hM' (HW.out w' hb) (Nat.le_refl _)⟩ (HTT.out w' hb) (by simp only [Pg.pts, fsPts, List.nil_append, SS.cntL, cntL_append] at hc' ⊢; omega) (by rw [main_txt hr']; exact hMB))
  have HFA := hid (fun w' (hb : Below w3.heap.size w3 w') => txt_c (B := FA) (p := ⟨p.fs, .nil⟩) (.agg #[.slice A nF cap, .slice none 0 0]) w' W.heap.size (Nat.le_trans b3.size hb.size) ⟨A, cap, none, 0, by rw [hnf]; rfl, by rw [hnf]; exact FV.below hF (HW.out w' hb) (Nat.le_refl _), sv_nil' _ _⟩ (HTT.out w' hb) (by simp only [Pg.pts, SS.pts, List.append_nil, SS.cntL, cntL_append] at hc ⊢; omega) (by rw [fns_txt hr]; exact hFA))
  have HFB := hid (fun w' (hb : Below w3.heap.size w3 w') => txt_c (B := FB) (p := ⟨q.fs, .nil⟩) (.agg #[.slice A' nF' cap', .slice none 0 0]) w' W.heap.size (Nat.le_trans b3.size hb.size) ⟨A', cap', none, 0, by rw [hnf']; rfl, by rw [hnf']; exact FV.below hF' (HW.out w' hb) (Nat.le_refl _), sv_nil' _ _⟩ (HTT.out w' hb) (by simp only [Pg.pts, SS.pts, List.append_nil, SS.cntL, cntL_append] at hc' ⊢; omega) (by rw [fns_txt hr']; exact hFB))
  have k32 : decide ((32 : Int) < (nF : Int) + (nF' : Int)) = false := decide_eq_false (by omega)
  go_upto_region 4 with (first
    | (go_at_call 13; ((with_reducible refine hR.mono ?_); clear hR; rintro e w4 ⟨rfl, c4⟩; obtain ⟨r2, r3⟩ := HB'.out w4 c4))
    | (go_at_call 13; ((with_reducible refine (HR.out w4 c4).mono ?_); rintro e w5 ⟨rfl, c5⟩; have d5 := c4.trans (c5.mono c4.size); obtain ⟨t0, t1⟩ := HB.out w5 d5; obtain ⟨t2, t3⟩ := HB'.out w5 d5)))
  clear e0 e1 e2 e3 r2 r3
  have hq1 := HMA.out w5 d5
  go_upto_region 5 with (go_at_call 11; ((with_reducible refine hq1.mono ?_); clear hq1; rintro e w6 ⟨rfl, c6⟩))
  have d6 := d5.trans (c6.mono d5.size)
  obtain ⟨u2, u3⟩ := HB'.out w6 d6
  have hq1 := HMB.out w6 d6
  clear t0 t1 t2 t3
  go_upto_region 6 with (go_at_call 11; ((with_reducible refine hq1.mono ?_); clear hq1; rintro e w7 ⟨rfl, c7⟩))
  have d7 := d6.trans (c7.mono d6.size)
  obtain ⟨u0, u1⟩ := HB.out w7 d7
  have hq1 := HFA.out w7 d7
  clear u2 u3
  go_upto_region 7 with (go_at_call 11; ((with_reducible refine hq1.mono ?_); clear hq1; rintro e w8 ⟨rfl, c8⟩))
  have d8 := d7.trans (c8.mono d7.size)
  obtain ⟨u2, u3⟩ := HB'.out w8 d8
  have hq1 := HFB.out w8 d8
  clear u0 u1
  go_upto_region 8 with (go_at_call 11; ((with_reducible refine hq1.mono ?_); clear hq1; rintro e w1 ⟨rfl, c9⟩))
  have d9 := d8.trans (c9.mono d8.size)
  clear u2 u3 HMA HMB HFA HFB HR
  obtain ⟨i0, hi, hz0, hz1, hz2⟩ := info_parts stmtInfo
  obtain ⟨i1, hfi, hfz0, hfz1, hfz2⟩ := info_parts funcInfo
  have hB1 := (HW.out w1 d9).size
  have fF : FV W.heap.size w1 (.slice A nF cap) p.fs := FV.below hF (HW.out w1 d9) (Nat.le_refl _)
  have fM : SV W.heap.size w1 (.slice X nM capx) p.m := SV.below hM (HW.out w1 d9) (Nat.le_refl _)
  have fF' : FV W.heap.size w1 (.slice A' nF' cap') q.fs := FV.below hF' (HW.out w1 d9) (Nat.le_refl _)
  have fM' : SV W.heap.size w1 (.slice X' nM' capx') q.m := SV.below hM' (HW.out w1 d9) (Nat.le_refl _)
  obtain ⟨-, csF, hcF, hqF⟩ := fv_news fF
  obtain ⟨-, csM, hcM, hqM⟩ := sv_news fM
  obtain ⟨-, csF', hcF', hqF'⟩ := fv_news fF'
  obtain ⟨-, csM', hcM', hqM'⟩ := sv_news fM'
  have hnF : csF.length = nF * 3 := by rw [hcF.len, hnf]
  have hnM : csM.length = nM * 6 := by rw [hcM.len, hnm]
  have hnF' : csF'.length = nF' * 3 := by rw [hcF'.len, hnf']
  have hnM' : csM'.length = nM' * 6 := by rw [hcM'.len, hnm']
  have lm : nM ≤ 1048576 := by
    have := sl_le p.m
    simp only [Pg.pts, cntL_append, SS.cntL] at hc
    omega
  have lm' : nM' ≤ 1048576 := by
    have := sl_le q.m
    simp only [Pg.pts, cntL_append, SS.cntL] at hc'
    omega
  have CNF := hid (fun W2 (hb : Below w1.heap.size w1 W2) => (fun ad e j u hu => by
    have h := hqF ad e j u hu
    exact (hb.cell (p := ad.add j) (lt_of_cellR h)).trans h : ∀ ad, A = some ad → ∀ j u, csF[j]? = some u → W2.cell? (ad.add j) = some u))
  have CNM := hid (fun W2 (hb : Below w1.heap.size w1 W2) => (fun ad e j u hu => by
    have h := hqM ad e j u hu
    exact (hb.cell (p := ad.add j) (lt_of_cellR h)).trans h : ∀ ad, X = some ad → ∀ j u, csM[j]? = some u → W2.cell? (ad.add j) = some u))
  have CNF' := hid (fun W2 (hb : Below w1.heap.size w1 W2) => (fun ad e j u hu => by
    have h := hqF' ad e j u hu
    exact (hb.cell (p := ad.add j) (lt_of_cellR h)).trans h : ∀ ad, A' = some ad → ∀ j u, csF'[j]? = some u → W2.cell? (ad.add j) = some u))
  have CNM' := hid (fun W2 (hb : Below w1.heap.size w1 W2) => (fun ad e j u hu => by
    have h := hqM' ad e j u hu
    exact (hb.cell (p := ad.add j) (lt_of_cellR h)).trans h : ∀ ad, X' = some ad → ∀ j u, csM'[j]? = some u → W2.cell? (ad.add j) = some u))
  clear hqF hqM hqF' hqM'
  go_cut [10] (fun s10 wx => ∃ kb A2 cap2 A3 cap3, s10 = .pointer (some ⟨kb, 0, none⟩) ∧ Fin3 w1 wx kb 47 3 (.slice A3 (nF + nF') cap3) (nF + nF') (csF ++ csF') 41 6 (.slice A2 (nM + nM') cap2) (nM + nM') (csM ++ csM'))
  case first =>
    have HN := hid (fun (e : A = none) => fv_nil0 fF e)
    have HN' := hid (fun (e : A' = none) => fv_nil0 fF' e)
    have HX := hid (fun (e : X = none) => sv_nil0 fM e)
    have HX' := hid (fun (e : X' = none) => sv_nil0 fM' e)
    have o1F := hcF.one
    have o1M := hcM.one
    have o1F' := hcF'.one
    have o1M' := hcM'.one
    clear hcF hcM hcF' hcM' fF fM fF' fM' hF hM hF' hM' hpv hqv hFA hFB hMA hMB z1 z3 z4 z5 lp lq xp xq hc hc' ht hr hr' HTT HW hB1 k32 z2 s3 hnf hnm hnf' hnm' c3 c4 c5 c6 c7 c8 c9 d5 d6 d7 d8 b1 b2 b3
    refine wp_region_inv (fun listed a w' => ∃ s10 s47 s48 s49 s50 s51 s52 s53 s54 s55 s56 s57 s58 s59 s60 s61 : Value, a = { tmps := #[.agg #[.slice A nF cap, .slice X nM capx], .agg #[.slice A' nF' cap', .slice X' nM' capx'], .pointer (some ⟨W.heap.size, 0, none⟩), .pointer (some ⟨W.heap.size + 1, 0, none⟩), .bool false, .bool true, .string MA, .string MB, .string FA, .string FB, s10, .bool true, .agg #[.slice A nF cap, .slice X nM capx], .int .i64 0, .bool false, .bool false, .agg #[.slice A' nF' cap', .slice X' nM' capx'], .int .i64 0, .bool false, .bool false, .bool false, .pointer (some ⟨W.heap.size, 0, none⟩), .slice A nF cap, .int .i64 nF, .pointer (some ⟨W.heap.size + 1, 0, none⟩), .slice A' nF' cap', .int .i64 nF', .int .i64 ((nF : Int) + (nF' : Int)), .bool false, .bool false, undef, .pointer (some ⟨W.heap.size, 1, none⟩), .slice X nM capx, .agg #[.slice none 0 0, .slice X nM capx], .string MA, .pointer (some ⟨W.heap.size + 1, 1, none⟩), .slice X' nM' capx', .agg #[.slice none 0 0, .slice X' nM' capx'], .string MB, .pointer (some ⟨W.heap.size, 0, none⟩), .slice A nF cap, .agg #[.slice A nF cap, .slice none 0 0], .string FA, .pointer (some ⟨W.heap.size + 1, 0, none⟩), .slice A' nF' cap', .agg #[.slice A' nF' cap', .slice none 0 0], .string FB, s47, s48, s49, s50, s51, s52, s53, s54, s55, s56, s57, s58, s59, s60, s61, undef, undef, undef, undef, undef, undef, undef, undef, undef, undef, undef, undef, undef, undef, undef, undef, undef, undef, undef, undef, undef], defers := [] } ∧ Inv3 w1 W.heap.size (W.heap.size + 1) A nF cap csF X nM capx csM A' nF' cap' csF' X' nM' capx' csM' (ld listed) s10 s47 s48 s49 s50 s51 s52 s53 s54 s55 s56 s57 s58 s59 s60 s61 w') (by kernel_rfl) ?start ?step ?done
    case start => exact ⟨_, _, _, _, _, _, _, _, _, _, _, _, _, _, _, _, rfl, Inv3.start (belowD (Below.refl _ _)) _⟩
    case step =>
      intro listed a w' hs hI i o ho hli hd K hK
      obtain ⟨s10, s47, s48, s49, s50, s51, s52, s53, s54, s55, s56, s57, s58, s59, s60, s61, rfl, hI⟩ := hI
      have hl := ld_false hli
      obtain ⟨q0, q1⟩ := HB.out _ (d9.trans (hI.below.mono d9.size))
      obtain ⟨q2, q3⟩ := HB'.out _ (d9.trans (hI.below.mono d9.size))
      have hi17 : i < 17 := by have := (Array.getElem?_eq_some_iff.1 ho).1; simpa using this
      have hcase : i = 0 ∨ i = 1 ∨ i = 2 ∨ i = 3 ∨ i = 4 ∨ i = 5 ∨ i = 6 ∨ i = 7 ∨ i = 8 ∨ i = 9 ∨ i = 10 ∨ i = 11 ∨ i = 12 ∨ i = 13 ∨ i = 14 ∨ i = 15 ∨ i = 16 := by omega
      clear hi17 hli
      rcases hcase with rfl | rfl | rfl | rfl | rfl | rfl | rfl | rfl | rfl | rfl | rfl | rfl | rfl | rfl | rfl | rfl | rfl
      all_goals
        simp only [List.getElem?_toArray, List.getElem?_cons_zero, List.getElem?_cons_succ, Option.some.injEq] at ho
        subst ho
        simp only [Region.binds, Bool.not_true, Bool.false_or, List.all_toArray, List.all_cons, List.all_nil, Bool.and_true, Bool.and_eq_true] at hd
      · go_simp
        refine hK.out _ _ ⟨_, _, _, _, _, _, _, _, _, _, _, _, _, _, _, _, rfl, ?_⟩
        rw [ld_set _ _ hl.2]
        exact hI.s0 hl.1
      · go_simp
        refine hK.out _ _ ⟨_, _, _, _, _, _, _, _, _, _, _, _, _, _, _, _, rfl, ?_⟩
        rw [ld_set _ _ hl.2]
        exact hI.s1 hl.1
      · obtain rfl := hI.p48 hd
        go_simp
        refine hK.out _ _ ⟨_, _, _, _, _, _, _, _, _, _, _, _, _, _, _, _, rfl, ?_⟩
        rw [ld_set _ _ hl.2]
        exact hI.s2 hl.1
      · obtain rfl := hI.p49 hd.2
        have h14 : ld listed 14 = false := by
          cases hk : ld listed 14 with
          | false => rfl
          | true => exact absurd (hI.d6 (hI.d14 hk).1) (by rw [hl.1]; decide)
        have hn6 : ld listed 6 = false := by
          cases hk : ld listed 6 with
          | false => rfl
          | true => exact absurd (hI.d6 hk) (by rw [hl.1]; decide)
        refine step_append_own rfl (.tmp 47) (.tmp 49) 22 rfl w1.heap.size 47 i1 _ 3 64 Tryz.underlying22 hfi hfz0 hfz1 hfz2 rfl (by decide) s47 0 [] rfl (hI.f0 hd.1 hl.1) A nF cap csF rfl (fun e => HN.out e) hnF (CNF.out _ hI.below) o1F (by unfold maxLen; omega) (by omega) hI.below.size ?_
        intro v w2 ho hg
        rw [Nat.zero_add, List.nil_append] at ho
        try simp only [Act.put, List.setIfInBounds_toArray, List.set_cons_zero, List.set_cons_succ]
        refine hK.out _ _ ⟨_, _, _, _, _, _, _, _, _, _, _, _, _, _, _, _, rfl, ?_⟩
        rw [ld_set _ _ hl.2]
        exact hI.s3 hl.1 hd.1 hn6 h14 ho hg
      · go_simp
        refine hK.out _ _ ⟨_, _, _, _, _, _, _, _, _, _, _, _, _, _, _, _, rfl, ?_⟩
        rw [ld_set _ _ hl.2]
        exact hI.s4 hl.1
      · obtain rfl := hI.p51 hd
        go_simp
        refine hK.out _ _ ⟨_, _, _, _, _, _, _, _, _, _, _, _, _, _, _, _, rfl, ?_⟩
        rw [ld_set _ _ hl.2]
        exact hI.s5 hl.1
      · obtain rfl := hI.p52 hd.2.1
        have h14 : ld listed 14 = false := by
          cases hk : ld listed 14 with
          | false => rfl
          | true => exact absurd ((hI.d14 hk).1) (by rw [hl.1]; decide)
        refine step_append_own rfl (.tmp 50) (.tmp 52) 22 rfl w1.heap.size 47 i1 _ 3 64 Tryz.underlying22 hfi hfz0 hfz1 hfz2 rfl (by decide) s50 nF csF rfl (hI.f1 hd.1 hl.1) A' nF' cap' csF' rfl (fun e => HN'.out e) hnF' (CNF'.out _ hI.below) o1F' (by unfold maxLen; omega) (by omega) hI.below.size ?_
        intro v w2 ho hg
        try simp only [Act.put, List.setIfInBounds_toArray, List.set_cons_zero, List.set_cons_succ]
        refine hK.out _ _ ⟨_, _, _, _, _, _, _, _, _, _, _, _, _, _, _, _, rfl, ?_⟩
        rw [ld_set _ _ hl.2]
        exact hI.s6 hl.1 hd.1 h14 ho hg
      · go_simp
        refine hK.out _ _ ⟨_, _, _, _, _, _, _, _, _, _, _, _, _, _, _, _, rfl, ?_⟩
        rw [ld_set _ _ hl.2]
        exact hI.s7 hl.1
      · go_simp
        refine hK.out _ _ ⟨_, _, _, _, _, _, _, _, _, _, _, _, _, _, _, _, rfl, ?_⟩
        rw [ld_set _ _ hl.2]
        exact hI.s8 hl.1
      · obtain rfl := hI.p55 hd
        go_simp
        refine hK.out _ _ ⟨_, _, _, _, _, _, _, _, _, _, _, _, _, _, _, _, rfl, ?_⟩
        rw [ld_set _ _ hl.2]
        exact hI.s9 hl.1
      · obtain rfl := hI.p56 hd.2.1
        have h14 : ld listed 14 = false := by
          cases hk : ld listed 14 with
          | false => rfl
          | true => exact absurd (hI.d13 (hI.d14 hk).2) (by rw [hl.1]; decide)
        have hn13 : ld listed 13 = false := by
          cases hk : ld listed 13 with
          | false => rfl
          | true => exact absurd (hI.d13 hk) (by rw [hl.1]; decide)
        refine step_append_own rfl (.tmp 54) (.tmp 56) 23 rfl w1.heap.size 41 i0 _ 6 104 Tryz.underlying23 hi hz0 hz1 hz2 rfl (by decide) s54 0 [] rfl (hI.m0 hd.1 hl.1) X nM capx csM rfl (fun e => HX.out e) hnM (CNM.out _ hI.below) o1M (by unfold maxLen; omega) (by omega) hI.below.size ?_
        intro v w2 ho hg
        rw [Nat.zero_add, List.nil_append] at ho
        try simp only [Act.put, List.setIfInBounds_toArray, List.set_cons_zero, List.set_cons_succ]
        refine hK.out _ _ ⟨_, _, _, _, _, _, _, _, _, _, _, _, _, _, _, _, rfl, ?_⟩
        rw [ld_set _ _ hl.2]
        exact hI.s10 hl.1 hd.1 hn13 h14 ho hg
      · go_simp
        refine hK.out _ _ ⟨_, _, _, _, _, _, _, _, _, _, _, _, _, _, _, _, rfl, ?_⟩
        rw [ld_set _ _ hl.2]
        exact hI.s11 hl.1
      · obtain rfl := hI.p58 hd
        go_simp
        refine hK.out _ _ ⟨_, _, _, _, _, _, _, _, _, _, _, _, _, _, _, _, rfl, ?_⟩
        rw [ld_set _ _ hl.2]
        exact hI.s12 hl.1
      · obtain rfl := hI.p59 hd.2.1
        have h14 : ld listed 14 = false := by
          cases hk : ld listed 14 with
          | false => rfl
          | true => exact absurd ((hI.d14 hk).2) (by rw [hl.1]; decide)
        refine step_append_own rfl (.tmp 57) (.tmp 59) 23 rfl w1.heap.size 41 i0 _ 6 104 Tryz.underlying23 hi hz0 hz1 hz2 rfl (by decide) s57 nM csM rfl (hI.m1 hd.1 hl.1) X' nM' capx' csM' rfl (fun e => HX'.out e) hnM' (CNM'.out _ hI.below) o1M' (by unfold maxLen; omega) (by omega) hI.below.size ?_
        intro v w2 ho hg
        try simp only [Act.put, List.setIfInBounds_toArray, List.set_cons_zero, List.set_cons_succ]
        refine hK.out _ _ ⟨_, _, _, _, _, _, _, _, _, _, _, _, _, _, _, _, rfl, ?_⟩
        rw [ld_set _ _ hl.2]
        exact hI.s13 hl.1 hd.1 h14 ho hg
      · obtain ⟨A3, cap3, rfl⟩ := own_form (hI.f2 hd.1)
        obtain ⟨A2, cap2, rfl⟩ := own_form (hI.m2 hd.2)
        go_simp
        refine hK.out _ _ ⟨_, _, _, _, _, _, _, _, _, _, _, _, _, _, _, _, rfl, ?_⟩
        rw [ld_set _ _ hl.2]
        exact hI.s14 hl.1 hd.1 hd.2
      · go_simp
        refine hK.out _ _ ⟨_, _, _, _, _, _, _, _, _, _, _, _, _, _, _, _, rfl, ?_⟩
        rw [ld_set _ _ hl.2]
        exact hI.s15 hl.1
      · obtain ⟨d15, d14, d13, d0, d1, d2, d3, d4, d5, d6, d7, d8, d9', d10, d11, d12, _⟩ := hd
        have ha : ∀ j, j < 16 → ld listed j = true := by
          intro j hj
          have hj' : j = 0 ∨ j = 1 ∨ j = 2 ∨ j = 3 ∨ j = 4 ∨ j = 5 ∨ j = 6 ∨ j = 7 ∨ j = 8 ∨ j = 9 ∨ j = 10 ∨ j = 11 ∨ j = 12 ∨ j = 13 ∨ j = 14 ∨ j = 15 := by omega
          rcases hj' with rfl | rfl | rfl | rfl | rfl | rfl | rfl | rfl | rfl | rfl | rfl | rfl | rfl | rfl | rfl | rfl <;> assumption
        obtain ⟨kb, rfl, hkb, hbk⟩ := hI.box d15 hl.1
        obtain rfl := hI.b61 d14
        obtain ⟨A3, cap3, rfl⟩ := own_form (hI.f2 d6)
        obtain ⟨A2, cap2, rfl⟩ := own_form (hI.m2 d13)
        have c40 : w'.cell? ⟨kb, 0, none⟩ = some (.slice none 0 0) := blk_cell hbk 0
        have c41 : w'.cell? ⟨kb, 1, none⟩ = some (.slice none 0 0) := blk_cell hbk 1
        have f40 := blk_frozen hbk 0
        have f41 := blk_frozen hbk 1
        go_simp
        refine hK.out _ _ ⟨_, _, _, _, _, _, _, _, _, _, _, _, _, _, _, _, rfl, ?_⟩
        rw [ld_set _ _ hl.2]
        exact hI.s16 hl.1 ha rfl
    case done =>
      intro listed a w' hs hI hr
      obtain ⟨s10, s47, s48, s49, s50, s51, s52, s53, s54, s55, s56, s57, s58, s59, s60, s61, rfl, hI⟩ := hI
      have r0 := ready_next hs hr 0 (by simp)
      have r1 := ready_next hs hr 1 (by simp)
      have r2 := ready_next hs hr 2 (by simp only [List.getElem?_toArray, List.getElem?_cons_zero, List.getElem?_cons_succ, Option.map_some, Region.binds, Bool.not_true, Bool.false_or, List.all_toArray, List.all_cons, List.all_nil, Bool.and_self, r1])
      have r3 := ready_next hs hr 3 (by simp only [List.getElem?_toArray, List.getElem?_cons_zero, List.getElem?_cons_succ, Option.map_some, Region.binds, Bool.not_true, Bool.false_or, List.all_toArray, List.all_cons, List.all_nil, Bool.and_self, r0, r2])
      have r4 := ready_next hs hr 4 (by simp)
      have r5 := ready_next hs hr 5 (by simp only [List.getElem?_toArray, List.getElem?_cons_zero, List.getElem?_cons_succ, Option.map_some, Region.binds, Bool.not_true, Bool.false_or, List.all_toArray, List.all_cons, List.all_nil, Bool.and_self, r4])
      have r6 := ready_next hs hr 6 (by simp only [List.getElem?_toArray, List.getElem?_cons_zero, List.getElem?_cons_succ, Option.map_some, Region.binds, Bool.not_true, Bool.false_or, List.all_toArray, List.all_cons, List.all_nil, Bool.and_self, r3, r5])
      have r7 := ready_next hs hr 7 (by simp)
      have r8 := ready_next hs hr 8 (by simp)
      have r9 := ready_next hs hr 9 (by simp only [List.getElem?_toArray, List.getElem?_cons_zero, List.getElem?_cons_succ, Option.map_some, Region.binds, Bool.not_true, Bool.false_or, List.all_toArray, List.all_cons, List.all_nil, Bool.and_self, r8])
      have r10 := ready_next hs hr 10 (by simp only [List.getElem?_toArray, List.getElem?_cons_zero, List.getElem?_cons_succ, Option.map_some, Region.binds, Bool.not_true, Bool.false_or, List.all_toArray, List.all_cons, List.all_nil, Bool.and_self, r7, r9, r6])
      have r11 := ready_next hs hr 11 (by simp)
      have r12 := ready_next hs hr 12 (by simp only [List.getElem?_toArray, List.getElem?_cons_zero, List.getElem?_cons_succ, Option.map_some, Region.binds, Bool.not_true, Bool.false_or, List.all_toArray, List.all_cons, List.all_nil, Bool.and_self, r11])
      have r13 := ready_next hs hr 13 (by simp only [List.getElem?_toArray, List.getElem?_cons_zero, List.getElem?_cons_succ, Option.map_some, Region.binds, Bool.not_true, Bool.false_or, List.all_toArray, List.all_cons, List.all_nil, Bool.and_self, r10, r12])
      have r14 := ready_next hs hr 14 (by simp only [List.getElem?_toArray, List.getElem?_cons_zero, List.getElem?_cons_succ, Option.map_some, Region.binds, Bool.not_true, Bool.false_or, List.all_toArray, List.all_cons, List.all_nil, Bool.and_self, r6, r13])
      have r15 := ready_next hs hr 15 (by simp)
      have r16 := ready_next hs hr 16 (by simp only [List.getElem?_toArray, List.getElem?_cons_zero, List.getElem?_cons_succ, Option.map_some, Region.binds, Bool.not_true, Bool.false_or, List.all_toArray, List.all_cons, List.all_nil, Bool.and_self, r0, r1, r2, r3, r4, r5, r6, r7, r8, r9, r10, r11, r12, r13, r14, r15])
      obtain ⟨kb, A2, cap2, A3, cap3, rfl, hF3⟩ := hI.fin r16
      clear hs hr hI r0 r1 r2 r3 r4 r5 r6 r7 r8 r9 r10 r11 r12 r13 r14 r15 r16
      go_wp2_with fail
      go_meet
      exact ⟨_, _, _, _, _, rfl, hF3⟩
  case rest =>
    obtain ⟨kb, A2, cap2, A3, cap3, rfl, hk0, hk1, ck0, ck1, ownF, ownM, hneF, hneM, hbw⟩ := hcut
    have hWw : Below W.heap.size W wc := (HW.out w1 d9).trans (hbw.mono hB1)
    have hd : Below w3.heap.size w3 wc := d9.trans (hbw.mono d9.size)
    have hpf : FV wc.heap.size wc (.slice A3 (nF + nF') cap3) (p.fs ++ q.fs) := own_fv ownF (fsCells.below (hbw.mono hB1) hWw.size (fsCells.app hcF' hcF)) (by rw [List.length_append, hnf, hnf'])
    have hpm : SV wc.heap.size wc (.slice A2 (nM + nM') cap2) (p.m.app q.m) := own_sv ownM (SS.Cells.below (hbw.mono hB1) hWw.size (SS.Cells.app hcM' hcM)) (by rw [SS.app_len, hnm, hnm'])
    have hv : PgV wc.heap.size wc (.agg #[.slice A3 (nF + nF') cap3, .slice A2 (nM + nM') cap2]) ⟨p.fs ++ q.fs, p.m.app q.m⟩ :=
      ⟨A3, cap3, A2, cap2, by rw [List.length_append, hnf, hnf', SS.app_len, hnm, hnm'], by rw [List.length_append, hnf, hnf']; exact hpf, by rw [SS.app_len, hnm, hnm']; exact hpm⟩
    have hR1 := txt_c (B := FA ++ FB ++ MA ++ MB) _ wc wc.heap.size (Nat.le_refl _) hv (HTT.out wc hd) (by rw [both_cnt]; omega) (by rw [both_text hr hr' (by omega), baL_app', baL_app', baL_app', hFA, hFB, hMA, hMB])
    have htp : textP p = fsX p.fs ++ p.m.txt 0 := by unfold textP; rw [if_pos hr]; rfl
    have HR2 := hid (fun w' (hb : Below w3.heap.size w3 w') => txt_c (B := FA ++ MA) (p := p) _ w' W.heap.size (Nat.le_trans b3.size hb.size) (hpv.below (HW.out w' hb) (Nat.le_refl _)) (HTT.out w' hb) (by omega) (by rw [htp, baL_app', hFA, hMA]))
    have x1 : ¬ 9223372036854775807 < FA.size + FB.size := by omega
    have x2 : ¬ 9223372036854775807 < FA.size + FB.size + MA.size := by omega
    have x3 : ¬ 9223372036854775807 < FA.size + FB.size + MA.size + MB.size := by omega
    have x4 : ¬ 9223372036854775807 < FA.size + MA.size := by omega
    have HZ := hid hWw
    have HD := hid hd
    clear hWw hpf hpm hv htp hFA hFB hMA hMB ownF ownM hneF hneM hcF hcM hcF' hcM' fF fM fF' fM' hF hM hF' hM' hpv hqv lp lq xp xq hc hc' ht hr hr' HTT HW hB1 k32 z2 s3 hnf hnm hnf' hnm' hnF hnM hnF' hnM' CNF CNM CNF' CNM' HB' hi hz0 hz1 hz2 hfi hfz0 hfz1 hfz2
    go_wp2_with (first
      | (go_at_call 11; ((with_reducible refine hR1.mono ?_); clear hR1; rintro e y1 ⟨rfl, f1⟩; have f1' := HD.out.trans (f1.mono HD.out.size); obtain ⟨t0, t1⟩ := HB.out y1 f1'))
      | (go_at_call 11; ((with_reducible refine (HR2.out y1 f1').mono ?_); rintro e y2 ⟨rfl, f2⟩)))
    go_ret
    exact ⟨rfl, HZ.out.trans ((f1.trans (f2.mono f1.size)).mono HZ.out.size)⟩

theorem rows_all (p q : Pg) (A : Option Addr) (cap : Nat) (X : Option Addr) (capx : Nat) (A' : Option Addr) (cap' : Nat) (X' : Option Addr) (capx' : Nat) (W : World) (hF : FV W.heap.size W (.slice A p.fs.length cap) p.fs) (hM : SV W.heap.size W (.slice X p.m.len capx) p.m) (hF' : FV W.heap.size W (.slice A' q.fs.length cap') q.fs) (hM' : SV W.heap.size W (.slice X' q.m.len capx') q.m) (hc : cntL p.pts ≤ 1048576) (hc' : cntL q.pts ≤ 1048576) (ht : TT W) :
    Calls Tryz.prog 9 #[.agg #[.slice A p.fs.length cap, .slice X p.m.len capx], .agg #[.slice A' q.fs.length cap', .slice X' q.m.len capx']] W fun e w' => e = .returned (.bool true) ∧ Below W.heap.size W w' := by
  by_cases hr : rightN p = 0
  · by_cases hr' : rightN q = 0
    · by_cases h32 : p.fs.length + q.fs.length ≤ 32
      · exact rows_walk p q A _ cap X _ capx A' _ cap' X' _ capx' W hF hM hF' hM' hc hc' ht rfl rfl rfl rfl hr hr' h32
      · exact rows_many p q A _ cap X _ capx A' _ cap' X' _ capx' W hF hM hF' hM' ht rfl rfl rfl rfl hr hr' (by omega)
    · exact rows_not2 p q A _ cap X _ capx A' _ cap' X' _ capx' W hF hM hF' hM' ht rfl rfl rfl rfl hr hr'
  · exact rows_not1 p q A _ cap X _ capx A' _ cap' X' _ capx' W hF hM hF' hM' ht rfl rfl rfl rfl hr
end Go.Proofs.YtppagjhmlgkamaaGreatDoor
