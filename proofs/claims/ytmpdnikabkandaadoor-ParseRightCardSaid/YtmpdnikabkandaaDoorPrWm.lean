/-
  ParseRight: the walk (of the seat that lists the tables of package tree).
-/
import Derived.Test.YtmpdnikabkandaaDoorPd5
import Derived.Test.YtmpdnikabkandaaDoorPdRm
namespace Go.Proofs.YtmpdnikabkandaaDoor
open Go Go.RowKit Go.Lib

theorem pgv_nil' (B : Nat) (W : World) : PgV B W (.agg #[.slice none 0 0, .slice none 0 0]) ⟨[], .nil⟩ :=
  ⟨none, 0, none, 0, rfl, ⟨none, 0, rfl, Nat.le_refl _, by decide, fun h => absurd h (by decide)⟩, ⟨none, 0, rfl, Nat.le_refl _, by decide, fun h => absurd h (by decide)⟩⟩
set_option maxHeartbeats 4000000 in
set_option maxRecDepth 100000 in
theorem right_ok (A : Option Addr) (n cap N : Nat) (l : List UInt8) (w : World) (ht : Tab w) (hn : l.length = n) (hcap : n ≤ cap) (_hm : cap ≤ 9223372036854775807) (hr : Row w A l) (hN : N = min n 4000) (q : Pg) (r : List Tok) (hq : tl (l.take N) = .ok q r) :
    Calls Tryd.prog 3 #[.slice A n cap] w fun e w' => e = .returned (.bool true) ∧ Fr w w' := by
  have hfr := Fr.refl w
  have HS := Lib.hid (shown4_fr w w hfr)
  have HN := Lib.hid hN
  have hN1 : N ≤ 4000 := by omega
  have hN2 : N ≤ n := by omega
  have HL := Lib.hid (show (l.take N).length = N by rw [List.length_take]; omega)
  have HQ := Lib.hid hq
  have HR := Lib.hid (show rightN q = 0 by have := tl_right (l.take N); rw [hq] at this; exact this.1)
  have HT := Lib.hid ht
  clear hn hN hq ht
  go_enter Tryd.func3, Tryd.ntmps3
  go_upto_region 2 with (go_at_call 4; ((with_reducible refine HS.out.mono ?_); rintro e w1 ⟨rfl, h1⟩))
  go_cut [0] (fun s wx => s = .slice A N cap ∧ wx = w1)
  case first =>
    go_wp2_with fail
    all_goals (go_meet; exact ⟨by have := HN.out; congr 1; omega, rfl⟩)
  case rest =>
  obtain ⟨rfl, rfl⟩ := hcut
  go_upto_region 4 with (go_at_call 5; ((with_reducible refine (p_ok HQ.out _ N _ _ HL.out (by omega) (by omega) ((hr.fr h1).take N)).mono ?_); rintro e w3 ⟨⟨v, rfl, hv⟩, e3⟩; obtain ⟨Af, cf, Am, cm, rfl, hvf, hvm⟩ := hv.pgv))
  have hp : PgV w3.heap.size w3 (.agg #[.slice Af q.fs.length cf, .slice Am q.m.len cm]) q := ⟨Af, cf, Am, cm, rfl, hvf, hvm⟩
  clear hv hvf hvm
  have h3 := h1.below e3
  have Pn := heap_alloc_new w3 (.cells #[.slice Af q.fs.length cf, .slice Am q.m.len cm] 27)
  have e6 : Below w3.heap.size w3 (w3.alloc (.cells #[.slice Af q.fs.length cf, .slice Am q.m.len cm] 27)) := (Below.refl _ _).alloc (Nat.le_refl _) _
  have h3 := h3.below e6
  have hp := hp.below e6 e6.size
  obtain ⟨n5, hn5⟩ : ∃ n, w3.heap.size = n := ⟨_, rfl⟩
  rw [hn5] at Pn ⊢
  obtain ⟨u3, hu⟩ : ∃ u, w3.alloc (.cells #[.slice Af q.fs.length cf, .slice Am q.m.len cm] 27) = u := ⟨_, rfl⟩
  rw [hu] at h3 Pn hp ⊢
  clear hu e6 e3
  have Pn0 := box_cell Pn 0
  have Pn1 := box_cell Pn 1
  simp only [List.getElem?_toArray, List.getElem?_cons_succ, List.getElem?_cons_zero] at Pn0 Pn1
  have HZ := Lib.hid (show Calls Tryd.prog 6 #[.agg #[.slice Af q.fs.length cf, .slice Am q.m.len cm]] u3 (fun e w' => e = .returned (.int .i64 0) ∧ Below u3.heap.size u3 w') from (right_any _ q u3 _ (Nat.le_refl _) hp (HT.out.below h3 HT.out.1)).mono fun e w' he => ⟨he.1.trans (by rw [HR.out]), he.2⟩)
  clear hp
  go_wp2_with (go_at_call 6; ((with_reducible refine HZ.out.mono ?_); rintro e w5 ⟨rfl, e5⟩))
  go_ret
  exact ⟨rfl, h3.below e5⟩

set_option maxHeartbeats 4000000 in
set_option maxRecDepth 100000 in
theorem right_1 (A : Option Addr) (n cap N : Nat) (l : List UInt8) (w : World) (hn : l.length = n) (hcap : n ≤ cap) (_hm : cap ≤ 9223372036854775807) (hr : Row w A l) (hN : N = min n 4000) (p : Nat) (hp : p ≤ N) (hq : tl (l.take N) = .bad p 1) :
    Calls Tryd.prog 3 #[.slice A n cap] w fun e w' => e = .returned (.bool true) ∧ Fr w w' := by
  have hfr := Fr.refl w
  have HS := Lib.hid (shown4_fr w w hfr)
  have HN := Lib.hid hN
  have hN1 : N ≤ 4000 := by omega
  have hN2 : N ≤ n := by omega
  have HL := Lib.hid (show (l.take N).length = N by rw [List.length_take]; omega)
  have HQ := Lib.hid hq
  have d1 : decide ((0 : Int) ≤ (p : Int)) = true := decide_eq_true (by omega)
  have d2 : decide ((p : Int) ≤ (N : Int)) = true := decide_eq_true (by omega)
  have d3 : decide (p ≤ N) = true := decide_eq_true hp
  clear hn hN hq
  go_enter Tryd.func3, Tryd.ntmps3
  go_upto_region 2 with (go_at_call 4; ((with_reducible refine HS.out.mono ?_); rintro e w1 ⟨rfl, h1⟩))
  go_cut [0] (fun s wx => s = .slice A N cap ∧ wx = w1)
  case first =>
    go_wp2_with fail
    all_goals (go_meet; exact ⟨by have := HN.out; congr 1; omega, rfl⟩)
  case rest =>
  obtain ⟨rfl, rfl⟩ := hcut
  go_upto_region 4 with (go_at_call 5; ((with_reducible refine (p_bad HQ.out _ N _ _ HL.out (by omega) (by omega) ((hr.fr h1).take N)).mono ?_); rintro e w3 ⟨rfl, e3⟩))
  have h3 := h1.below e3
  have Pn := heap_alloc_new w3 P2
  have h3 := h3.below ((Below.refl w3.heap.size w3).alloc (Nat.le_refl _) P2)
  obtain ⟨n5, hn5⟩ : ∃ n, w3.heap.size = n := ⟨_, rfl⟩
  rw [hn5] at Pn ⊢
  obtain ⟨u3, hu⟩ : ∃ u, w3.alloc P2 = u := ⟨_, rfl⟩
  rw [hu] at h3 Pn ⊢
  clear hu e3
  have HE := Lib.hid (fun u => (show Calls Tryd.prog 7 #[.agg #[.slice none 0 0, .slice none 0 0], .agg #[.slice none 0 0, .slice none 0 0]] u (fun e w' => e = .returned (.bool true) ∧ Below u.heap.size u w') from (equal_any _ _ ⟨[], .nil⟩ ⟨[], .nil⟩ u _ (Nat.le_refl _) (pgv_nil' _ _) (pgv_nil' _ _)).mono fun e w' he => ⟨he.1.trans (by rw [(eqG_iff _ _).2 rfl]), he.2⟩))
  have Pn0 := box_cell Pn 0
  have Pn1 := box_cell Pn 1
  simp only [List.getElem?_toArray, List.getElem?_cons_succ, List.getElem?_cons_zero] at Pn0 Pn1
  go_wp2_with (go_at_call 7; ((with_reducible refine (HE.out _).mono ?_); rintro e w5 ⟨rfl, e5⟩))
  go_ret
  exact ⟨rfl, by first | exact h3.below e5 | exact (h3.alloc _).below e5⟩

set_option maxHeartbeats 4000000 in
set_option maxRecDepth 100000 in
theorem right_2 (A : Option Addr) (n cap N : Nat) (l : List UInt8) (w : World) (hn : l.length = n) (hcap : n ≤ cap) (_hm : cap ≤ 9223372036854775807) (hr : Row w A l) (hN : N = min n 4000) (p : Nat) (hp : p ≤ N) (hq : tl (l.take N) = .bad p 2) :
    Calls Tryd.prog 3 #[.slice A n cap] w fun e w' => e = .returned (.bool true) ∧ Fr w w' := by
  have hfr := Fr.refl w
  have HS := Lib.hid (shown4_fr w w hfr)
  have HN := Lib.hid hN
  have hN1 : N ≤ 4000 := by omega
  have hN2 : N ≤ n := by omega
  have HL := Lib.hid (show (l.take N).length = N by rw [List.length_take]; omega)
  have HQ := Lib.hid hq
  have d1 : decide ((0 : Int) ≤ (p : Int)) = true := decide_eq_true (by omega)
  have d2 : decide ((p : Int) ≤ (N : Int)) = true := decide_eq_true (by omega)
  have d3 : decide (p ≤ N) = true := decide_eq_true hp
  clear hn hN hq
  go_enter Tryd.func3, Tryd.ntmps3
  go_upto_region 2 with (go_at_call 4; ((with_reducible refine HS.out.mono ?_); rintro e w1 ⟨rfl, h1⟩))
  go_cut [0] (fun s wx => s = .slice A N cap ∧ wx = w1)
  case first =>
    go_wp2_with fail
    all_goals (go_meet; exact ⟨by have := HN.out; congr 1; omega, rfl⟩)
  case rest =>
  obtain ⟨rfl, rfl⟩ := hcut
  go_upto_region 4 with (go_at_call 5; ((with_reducible refine (p_bad HQ.out _ N _ _ HL.out (by omega) (by omega) ((hr.fr h1).take N)).mono ?_); rintro e w3 ⟨rfl, e3⟩))
  have h3 := h1.below e3
  have Pn := heap_alloc_new w3 P2
  have h3 := h3.below ((Below.refl w3.heap.size w3).alloc (Nat.le_refl _) P2)
  obtain ⟨n5, hn5⟩ : ∃ n, w3.heap.size = n := ⟨_, rfl⟩
  rw [hn5] at Pn ⊢
  obtain ⟨u3, hu⟩ : ∃ u, w3.alloc P2 = u := ⟨_, rfl⟩
  rw [hu] at h3 Pn ⊢
  clear hu e3
  have HE := Lib.hid (fun u => (show Calls Tryd.prog 7 #[.agg #[.slice none 0 0, .slice none 0 0], .agg #[.slice none 0 0, .slice none 0 0]] u (fun e w' => e = .returned (.bool true) ∧ Below u.heap.size u w') from (equal_any _ _ ⟨[], .nil⟩ ⟨[], .nil⟩ u _ (Nat.le_refl _) (pgv_nil' _ _) (pgv_nil' _ _)).mono fun e w' he => ⟨he.1.trans (by rw [(eqG_iff _ _).2 rfl]), he.2⟩))
  have Pn0 := box_cell Pn 0
  have Pn1 := box_cell Pn 1
  simp only [List.getElem?_toArray, List.getElem?_cons_succ, List.getElem?_cons_zero] at Pn0 Pn1
  go_wp2_with (go_at_call 7; ((with_reducible refine (HE.out _).mono ?_); rintro e w5 ⟨rfl, e5⟩))
  go_ret
  exact ⟨rfl, by first | exact h3.below e5 | exact (h3.alloc _).below e5⟩

set_option maxHeartbeats 4000000 in
set_option maxRecDepth 100000 in
theorem right_3 (A : Option Addr) (n cap N : Nat) (l : List UInt8) (w : World) (hn : l.length = n) (hcap : n ≤ cap) (_hm : cap ≤ 9223372036854775807) (hr : Row w A l) (hN : N = min n 4000) (p : Nat) (hp : p ≤ N) (hq : tl (l.take N) = .bad p 3) :
    Calls Tryd.prog 3 #[.slice A n cap] w fun e w' => e = .returned (.bool true) ∧ Fr w w' := by
  have hfr := Fr.refl w
  have HS := Lib.hid (shown4_fr w w hfr)
  have HN := Lib.hid hN
  have hN1 : N ≤ 4000 := by omega
  have hN2 : N ≤ n := by omega
  have HL := Lib.hid (show (l.take N).length = N by rw [List.length_take]; omega)
  have HQ := Lib.hid hq
  have d1 : decide ((0 : Int) ≤ (p : Int)) = true := decide_eq_true (by omega)
  have d2 : decide ((p : Int) ≤ (N : Int)) = true := decide_eq_true (by omega)
  have d3 : decide (p ≤ N) = true := decide_eq_true hp
  clear hn hN hq
  go_enter Tryd.func3, Tryd.ntmps3
  go_upto_region 2 with (go_at_call 4; ((with_reducible refine HS.out.mono ?_); rintro e w1 ⟨rfl, h1⟩))
  go_cut [0] (fun s wx => s = .slice A N cap ∧ wx = w1)
  case first =>
    go_wp2_with fail
    all_goals (go_meet; exact ⟨by have := HN.out; congr 1; omega, rfl⟩)
  case rest =>
  obtain ⟨rfl, rfl⟩ := hcut
  go_upto_region 4 with (go_at_call 5; ((with_reducible refine (p_bad HQ.out _ N _ _ HL.out (by omega) (by omega) ((hr.fr h1).take N)).mono ?_); rintro e w3 ⟨rfl, e3⟩))
  have h3 := h1.below e3
  have Pn := heap_alloc_new w3 P2
  have h3 := h3.below ((Below.refl w3.heap.size w3).alloc (Nat.le_refl _) P2)
  obtain ⟨n5, hn5⟩ : ∃ n, w3.heap.size = n := ⟨_, rfl⟩
  rw [hn5] at Pn ⊢
  obtain ⟨u3, hu⟩ : ∃ u, w3.alloc P2 = u := ⟨_, rfl⟩
  rw [hu] at h3 Pn ⊢
  clear hu e3
  have HE := Lib.hid (fun u => (show Calls Tryd.prog 7 #[.agg #[.slice none 0 0, .slice none 0 0], .agg #[.slice none 0 0, .slice none 0 0]] u (fun e w' => e = .returned (.bool true) ∧ Below u.heap.size u w') from (equal_any _ _ ⟨[], .nil⟩ ⟨[], .nil⟩ u _ (Nat.le_refl _) (pgv_nil' _ _) (pgv_nil' _ _)).mono fun e w' he => ⟨he.1.trans (by rw [(eqG_iff _ _).2 rfl]), he.2⟩))
  have Pn0 := box_cell Pn 0
  have Pn1 := box_cell Pn 1
  simp only [List.getElem?_toArray, List.getElem?_cons_succ, List.getElem?_cons_zero] at Pn0 Pn1
  go_wp2_with (go_at_call 7; ((with_reducible refine (HE.out _).mono ?_); rintro e w5 ⟨rfl, e5⟩))
  go_ret
  exact ⟨rfl, by first | exact h3.below e5 | exact (h3.alloc _).below e5⟩

set_option maxHeartbeats 4000000 in
set_option maxRecDepth 100000 in
theorem right_10 (A : Option Addr) (n cap N : Nat) (l : List UInt8) (w : World) (hn : l.length = n) (hcap : n ≤ cap) (_hm : cap ≤ 9223372036854775807) (hr : Row w A l) (hN : N = min n 4000) (p : Nat) (hp : p ≤ N) (hq : tl (l.take N) = .bad p 10) :
    Calls Tryd.prog 3 #[.slice A n cap] w fun e w' => e = .returned (.bool true) ∧ Fr w w' := by
  have hfr := Fr.refl w
  have HS := Lib.hid (shown4_fr w w hfr)
  have HN := Lib.hid hN
  have hN1 : N ≤ 4000 := by omega
  have hN2 : N ≤ n := by omega
  have HL := Lib.hid (show (l.take N).length = N by rw [List.length_take]; omega)
  have HQ := Lib.hid hq
  have d1 : decide ((0 : Int) ≤ (p : Int)) = true := decide_eq_true (by omega)
  have d2 : decide ((p : Int) ≤ (N : Int)) = true := decide_eq_true (by omega)
  have d3 : decide (p ≤ N) = true := decide_eq_true hp
  clear hn hN hq
  go_enter Tryd.func3, Tryd.ntmps3
  go_upto_region 2 with (go_at_call 4; ((with_reducible refine HS.out.mono ?_); rintro e w1 ⟨rfl, h1⟩))
  go_cut [0] (fun s wx => s = .slice A N cap ∧ wx = w1)
  case first =>
    go_wp2_with fail
    all_goals (go_meet; exact ⟨by have := HN.out; congr 1; omega, rfl⟩)
  case rest =>
  obtain ⟨rfl, rfl⟩ := hcut
  go_upto_region 4 with (go_at_call 5; ((with_reducible refine (p_bad HQ.out _ N _ _ HL.out (by omega) (by omega) ((hr.fr h1).take N)).mono ?_); rintro e w3 ⟨rfl, e3⟩))
  have h3 := h1.below e3
  have Pn := heap_alloc_new w3 P2
  have h3 := h3.below ((Below.refl w3.heap.size w3).alloc (Nat.le_refl _) P2)
  obtain ⟨n5, hn5⟩ : ∃ n, w3.heap.size = n := ⟨_, rfl⟩
  rw [hn5] at Pn ⊢
  obtain ⟨u3, hu⟩ : ∃ u, w3.alloc P2 = u := ⟨_, rfl⟩
  rw [hu] at h3 Pn ⊢
  clear hu e3
  have HE := Lib.hid (fun u => (show Calls Tryd.prog 7 #[.agg #[.slice none 0 0, .slice none 0 0], .agg #[.slice none 0 0, .slice none 0 0]] u (fun e w' => e = .returned (.bool true) ∧ Below u.heap.size u w') from (equal_any _ _ ⟨[], .nil⟩ ⟨[], .nil⟩ u _ (Nat.le_refl _) (pgv_nil' _ _) (pgv_nil' _ _)).mono fun e w' he => ⟨he.1.trans (by rw [(eqG_iff _ _).2 rfl]), he.2⟩))
  have Pn0 := box_cell Pn 0
  have Pn1 := box_cell Pn 1
  simp only [List.getElem?_toArray, List.getElem?_cons_succ, List.getElem?_cons_zero] at Pn0 Pn1
  go_wp2_with (go_at_call 7; ((with_reducible refine (HE.out _).mono ?_); rintro e w5 ⟨rfl, e5⟩))
  go_ret
  exact ⟨rfl, by first | exact h3.below e5 | exact (h3.alloc _).below e5⟩
theorem right_walk (A : Option Addr) (n cap : Nat) (l : List UInt8) (w : World) (ht : Tab w) (hn : l.length = n) (hcap : n ≤ cap) (hm : cap ≤ 9223372036854775807) (hr : Row w A l) :
    Calls Tryd.prog 3 #[.slice A n cap] w fun e w' => e = .returned (.bool true) ∧ Fr w w' := by
  obtain ⟨N, hN⟩ : ∃ N, N = min n 4000 := ⟨_, rfl⟩
  cases hq : tl (l.take N) with
  | out => exact absurd hq (tl_ne _)
  | ok q r => exact right_ok A n cap N l w ht hn hcap hm hr hN q r hq
  | bad p c =>
    have h1 := tl_right (l.take N)
    rw [hq] at h1
    obtain ⟨hp, hc⟩ := h1
    rw [List.length_take] at hp
    have hp : p ≤ N := by omega
    rcases hc with rfl | rfl | rfl | rfl
    · exact right_1 A n cap N l w hn hcap hm hr hN p hp hq
    · exact right_2 A n cap N l w hn hcap hm hr hN p hp hq
    · exact right_3 A n cap N l w hn hcap hm hr hN p hp hq
    · exact right_10 A n cap N l w hn hcap hm hr hN p hp hq
end Go.Proofs.YtmpdnikabkandaaDoor
