/-
  ParseRows: the walk, where nothing is asked.
-/
import Derived.Test.YtmpdnikabkandaaPq5
import Derived.Test.YtmpdnikabkandaaPdEm
import Derived.Test.YtmpdnikabkandaaPdQm
import Derived.Test.YtmpdnikabkandaaPdWm
import Derived.Test.YtmpdnikabkandaaTreeUm
import Derived.Test.YtmpdnikabkandaaSdm
namespace Go.Proofs.Ytmpdnikabkandaa
open Go Go.RowKit Go.Lib

theorem p_pgv {l : List UInt8} {q : Pg} {r : List Tok} {kf km : Nat} (ht : tl l = .ok q r) (hf : q.fs.length = kf) (hm : q.m.len = km) (A : Option Addr) (n cap : Nat) (W : World) (hn : l.length = n) (hl : n ≤ 65536) (hcap : n ≤ cap) (hr : Row W A l) :
    Calls Try.prog 13 #[.slice A n cap] W fun e W' => (∃ F f G g, e = .returned (.tuple #[.agg #[.slice F kf f, .slice G km g], .int .i64 0, .int .i64 0]) ∧ PgV W'.heap.size W' (.agg #[.slice F kf f, .slice G km g]) q) ∧ Below W.heap.size W W' := by
  subst hf hm
  refine (p_ok ht A n cap W hn hl hcap hr).mono fun e W' h3 => ?_
  obtain ⟨⟨v, h1, hv⟩, h2⟩ := h3
  obtain ⟨F, f, G, g, rfl, hvf, hvm⟩ := hv.pgv
  exact ⟨⟨F, f, G, g, h1, F, f, G, g, rfl, hvf, hvm⟩, h2⟩

set_option maxHeartbeats 4000000 in
set_option maxRecDepth 100000 in
theorem rows_a (A C : Option Addr) (n cap cn ccap N M : Nat) (l lc : List UInt8) (w : World) (hn : l.length = n) (hcap : n ≤ cap) (_hm : cap ≤ 9223372036854775807) (hr : Row w A l) (hA : A = none → cap = 0) (hcn : lc.length = cn) (hccap : cn ≤ ccap) (_hcm : ccap ≤ 9223372036854775807) (hrc : Row w C lc) (hC : C = none → ccap = 0) (hN : N = min n 2000) (hM : M = min cn 2000) (p c : Nat) (ha : tl (l.take N) = .bad p c) :
    Calls Try.prog 10 #[.slice A n cap, .slice C cn ccap] w fun e w' => e = .returned (.bool true) ∧ Fr w w' := by
  have hfr := Fr.refl w
  have HS := Lib.hid (shown4_fr w w hfr)
  have HN := Lib.hid hN
  have HM := Lib.hid hM
  have hN1 : N ≤ 2000 := by omega
  have hN2 : N ≤ n := by omega
  have hM1 : M ≤ 2000 := by omega
  have hM2 : M ≤ cn := by omega
  have HL := Lib.hid (show (l.take N).length = N by rw [List.length_take]; omega)
  have HLC := Lib.hid (show (lc.take M).length = M by rw [List.length_take]; omega)
  have HA := Lib.hid hA
  have HC := Lib.hid hC
  have hc0 := (tl_code ha).2
  have q1 : ((c : Int) == 0) = false := by rw [beq_eq_false_iff_ne]; omega
  have q2 : ((c : Int) != 0) = true := by simp; omega
  have q3 : ¬ (c : Int) = 0 := by omega
  clear hc0
  have HTA := Lib.hid ha
  clear ha
  clear hn hN hM hcn hA hC
  go_enter Try.func10, Try.ntmps10
  go_upto_region 2 with (go_at_call 11; ((with_reducible refine HS.out.mono ?_); rintro e w1 ⟨rfl, h1⟩))
  go_cut [0] (fun s wx => s = .slice A N cap ∧ wx = w1)
  case first =>
    go_wp2_with fail
    all_goals (go_meet; exact ⟨by have := HN.out; congr 1; omega, rfl⟩)
  case rest =>
  obtain ⟨rfl, rfl⟩ := hcut
  go_upto_region 3 with fail
  go_cut [1] (fun s wx => s = .slice C M ccap ∧ wx = wc)
  case first =>
    go_wp2_with fail
    all_goals (go_meet; exact ⟨by have := HM.out; congr 1; omega, rfl⟩)
  case rest =>
  obtain ⟨rfl, rfl⟩ := hcut
  go_upto_region 5 with (go_at_call 13; ((with_reducible refine (p_bad HTA.out _ N _ _ HL.out (by omega) (by omega) ((hr.fr h1).take N)).mono ?_); rintro e w3 ⟨rfl, hb3⟩))
  have h3 := h1.below hb3
  have Pa := heap_alloc_new w3 (.cells #[.slice none 0 0, .slice none 0 0] 35)
  have e6 : Below w3.heap.size w3 (w3.alloc (.cells #[.slice none 0 0, .slice none 0 0] 35)) := (Below.refl _ _).alloc (Nat.le_refl _) _
  have h3 := h3.below e6
  obtain ⟨na, hna⟩ : ∃ n, w3.heap.size = n := ⟨_, rfl⟩
  rw [hna] at Pa ⊢
  obtain ⟨u3, hu⟩ : ∃ u, w3.alloc (.cells #[.slice none 0 0, .slice none 0 0] 35) = u := ⟨_, rfl⟩
  rw [hu] at h3 Pa ⊢
  clear hu e6 hb3
  go_upto_region 6 with (go_at_call 13; ((with_reducible refine (parse_is _ M _ (lc.take M) _ HLC.out (by omega) (by omega) ((hrc.fr h3).take M)).mono ?_); rintro e w4 ⟨⟨x2, m2, y2, z2, o2, t2, p2, c2, rfl⟩, hb4⟩))
  have h4 := h3.below hb4
  have Pa := (hb4.block _ (lt_heap Pa)).trans Pa
  have Pb := heap_alloc_new w4 (.cells #[.slice x2 m2 y2, .slice z2 o2 t2] 35)
  have e6 : Below w4.heap.size w4 (w4.alloc (.cells #[.slice x2 m2 y2, .slice z2 o2 t2] 35)) := (Below.refl _ _).alloc (Nat.le_refl _) _
  have h4 := h4.below e6
  have Pa := (e6.block _ (lt_heap Pa)).trans Pa
  obtain ⟨nb, hnb⟩ : ∃ n, w4.heap.size = n := ⟨_, rfl⟩
  rw [hnb] at Pb ⊢
  obtain ⟨u4, hu⟩ : ∃ u, w4.alloc (.cells #[.slice x2 m2 y2, .slice z2 o2 t2] 35) = u := ⟨_, rfl⟩
  rw [hu] at h4 Pa Pb ⊢
  clear hu e6 hb4
  have HRA := Lib.hid ((hr.fr h4).take N)
  have HRC := Lib.hid (hrc.fr h4)
  have HYL := Lib.hid (yL_len HL.out HLC.out)
  have hB0 := bown_new u4
  go_upto_region 7 with (first
    | (at_builtin; refine wp_app (l2 := l.take N) rfl rfl hB0 rfl rfl (HRA.out.fr ((Fr.refl u4).alloc _)) HL.out (by omega) (fun e => HA.out e) (by simp; omega) ?_; intro v1 w8 hB1 hG1)
    | (at_builtin; refine wp_app (l2 := [10]) rfl rfl (hB1.alloc _) rfl rfl (row_new _ [10] _ _ rfl) rfl (by decide) (fun e => by cases e) (by have := HL.out; simp; omega) ?_; intro v2 w9 hB2 hG2)
    | (at_builtin; refine wp_app (l2 := lc.take M) rfl rfl hB2 rfl rfl ((HRC.out.fr hB2.fr).take M) HLC.out (by omega) (fun e => HC.out e) (by have := HL.out; simp; omega) ?_; intro v3 w10 hB3 hG3; obtain ⟨gy, cy, rfl, hcy, hry⟩ := BOwn.rowAt (l := yL (l.take N) (lc.take M)) hB3 HYL.out; have hb3 : Below u4.heap.size u4 w10 := hB3.fr; clear hG1 hG2 hG3)
    | (go_at_call 13; ((with_reducible refine (parse_is _ (N + 1 + M) _ (yL (l.take N) (lc.take M)) _ HYL.out (by omega) (by omega) hry).mono ?_); rintro e w11 ⟨⟨x3, m3, y3, z3, o3, t3, p3, c3, rfl⟩, hb11⟩)))
  have e5 : Below u4.heap.size u4 w11 := hb3.trans (hb11.mono hb3.size)
  have h5 := h4.below e5
  have Pa := (e5.block _ (lt_heap Pa)).trans Pa
  have Pb := (e5.block _ (lt_heap Pb)).trans Pb
  have Pc := heap_alloc_new w11 (.cells #[.slice x3 m3 y3, .slice z3 o3 t3] 35)
  have e6 : Below w11.heap.size w11 (w11.alloc (.cells #[.slice x3 m3 y3, .slice z3 o3 t3] 35)) := (Below.refl _ _).alloc (Nat.le_refl _) _
  have h5 := h5.below e6
  have Pa := (e6.block _ (lt_heap Pa)).trans Pa
  have Pb := (e6.block _ (lt_heap Pb)).trans Pb
  obtain ⟨nc, hnc⟩ : ∃ n, w11.heap.size = n := ⟨_, rfl⟩
  rw [hnc] at Pc ⊢
  obtain ⟨u5, hu⟩ : ∃ u, w11.alloc (.cells #[.slice x3 m3 y3, .slice z3 o3 t3] 35) = u := ⟨_, rfl⟩
  rw [hu] at h5 Pa Pb Pc ⊢
  clear hu e6 e5 hb11 hb3 hB3 hB2 hB1 hB0 hry HRA
  have Pa0 := box_cell Pa 0
  have Pa1 := box_cell Pa 1
  have Pb0 := box_cell Pb 0
  have Pb1 := box_cell Pb 1
  have Pc0 := box_cell Pc 0
  have Pc1 := box_cell Pc 1
  simp only [List.getElem?_toArray, List.getElem?_cons_succ, List.getElem?_cons_zero] at Pa0 Pa1 Pb0 Pb1 Pc0 Pc1
  go_wp2
  go_ret
  exact ⟨rfl, h5⟩

set_option maxHeartbeats 4000000 in
set_option maxRecDepth 100000 in
theorem rows_f (A C : Option Addr) (n cap cn ccap N M : Nat) (l lc : List UInt8) (w : World) (hn : l.length = n) (hcap : n ≤ cap) (_hm : cap ≤ 9223372036854775807) (hr : Row w A l) (hA : A = none → cap = 0) (hcn : lc.length = cn) (hccap : cn ≤ ccap) (_hcm : ccap ≤ 9223372036854775807) (hrc : Row w C lc) (hC : C = none → ccap = 0) (hN : N = min n 2000) (hM : M = min cn 2000) (q q' : Pg) (r r' : List Tok) (ha : tl (l.take N) = .ok q r) (hb : tl (lc.take M) = .ok q' r') (hf : 0 < q'.fs.length) :
    Calls Try.prog 10 #[.slice A n cap, .slice C cn ccap] w fun e w' => e = .returned (.bool true) ∧ Fr w w' := by
  have hfr := Fr.refl w
  have HS := Lib.hid (shown4_fr w w hfr)
  have HN := Lib.hid hN
  have HM := Lib.hid hM
  have hN1 : N ≤ 2000 := by omega
  have hN2 : N ≤ n := by omega
  have hM1 : M ≤ 2000 := by omega
  have hM2 : M ≤ cn := by omega
  have HL := Lib.hid (show (l.take N).length = N by rw [List.length_take]; omega)
  have HLC := Lib.hid (show (lc.take M).length = M by rw [List.length_take]; omega)
  have HA := Lib.hid hA
  have HC := Lib.hid hC
  obtain ⟨kf1, hkf1⟩ : ∃ k, (q).fs.length = k := ⟨_, rfl⟩
  obtain ⟨km1, hkm1⟩ : ∃ k, (q).m.len = k := ⟨_, rfl⟩
  have HKF1 := Lib.hid hkf1
  have HKM1 := Lib.hid hkm1
  obtain ⟨kf2, hkf2⟩ : ∃ k, (q').fs.length = k := ⟨_, rfl⟩
  obtain ⟨km2, hkm2⟩ : ∃ k, (q').m.len = k := ⟨_, rfl⟩
  have HKF2 := Lib.hid hkf2
  have HKM2 := Lib.hid hkm2
  have q1 : decide ((0 : Int) < (kf2 : Int)) = true := decide_eq_true (by omega)
  have q2 : (0 : Int) < (kf2 : Int) := by omega
  clear hf hkf1 hkm1 hkf2 hkm2
  have HTA := Lib.hid ha
  clear ha
  have HTB := Lib.hid hb
  clear hb
  clear hn hN hM hcn hA hC
  go_enter Try.func10, Try.ntmps10
  go_upto_region 2 with (go_at_call 11; ((with_reducible refine HS.out.mono ?_); rintro e w1 ⟨rfl, h1⟩))
  go_cut [0] (fun s wx => s = .slice A N cap ∧ wx = w1)
  case first =>
    go_wp2_with fail
    all_goals (go_meet; exact ⟨by have := HN.out; congr 1; omega, rfl⟩)
  case rest =>
  obtain ⟨rfl, rfl⟩ := hcut
  go_upto_region 3 with fail
  go_cut [1] (fun s wx => s = .slice C M ccap ∧ wx = wc)
  case first =>
    go_wp2_with fail
    all_goals (go_meet; exact ⟨by have := HM.out; congr 1; omega, rfl⟩)
  case rest =>
  obtain ⟨rfl, rfl⟩ := hcut
  go_upto_region 5 with (go_at_call 13; ((with_reducible refine (p_pgv HTA.out HKF1.out HKM1.out _ N _ _ HL.out (by omega) (by omega) ((hr.fr h1).take N)).mono ?_); rintro e w3 ⟨⟨F1, f1, G1, g1, rfl, hpa⟩, hb3⟩))
  have h3 := h1.below hb3
  have Pa := heap_alloc_new w3 (.cells #[.slice F1 kf1 f1, .slice G1 km1 g1] 35)
  have e6 : Below w3.heap.size w3 (w3.alloc (.cells #[.slice F1 kf1 f1, .slice G1 km1 g1] 35)) := (Below.refl _ _).alloc (Nat.le_refl _) _
  have h3 := h3.below e6
  have hpa := hpa.below e6 e6.size
  obtain ⟨na, hna⟩ : ∃ n, w3.heap.size = n := ⟨_, rfl⟩
  rw [hna] at Pa ⊢
  obtain ⟨u3, hu⟩ : ∃ u, w3.alloc (.cells #[.slice F1 kf1 f1, .slice G1 km1 g1] 35) = u := ⟨_, rfl⟩
  rw [hu] at h3 Pa hpa ⊢
  clear hu e6 hb3
  go_upto_region 6 with (go_at_call 13; ((with_reducible refine (p_pgv HTB.out HKF2.out HKM2.out _ M _ _ HLC.out (by omega) (by omega) ((hrc.fr h3).take M)).mono ?_); rintro e w4 ⟨⟨F2, f2, G2, g2, rfl, hpb⟩, hb4⟩))
  have h4 := h3.below hb4
  have Pa := (hb4.block _ (lt_heap Pa)).trans Pa
  have hpa := hpa.below hb4 hb4.size
  have Pb := heap_alloc_new w4 (.cells #[.slice F2 kf2 f2, .slice G2 km2 g2] 35)
  have e6 : Below w4.heap.size w4 (w4.alloc (.cells #[.slice F2 kf2 f2, .slice G2 km2 g2] 35)) := (Below.refl _ _).alloc (Nat.le_refl _) _
  have h4 := h4.below e6
  have Pa := (e6.block _ (lt_heap Pa)).trans Pa
  have hpa := hpa.below e6 e6.size
  have hpb := hpb.below e6 e6.size
  obtain ⟨nb, hnb⟩ : ∃ n, w4.heap.size = n := ⟨_, rfl⟩
  rw [hnb] at Pb ⊢
  obtain ⟨u4, hu⟩ : ∃ u, w4.alloc (.cells #[.slice F2 kf2 f2, .slice G2 km2 g2] 35) = u := ⟨_, rfl⟩
  rw [hu] at h4 Pa Pb hpa hpb ⊢
  clear hu e6 hb4
  have HRA := Lib.hid ((hr.fr h4).take N)
  have HRC := Lib.hid (hrc.fr h4)
  have HYL := Lib.hid (yL_len HL.out HLC.out)
  have hB0 := bown_new u4
  go_upto_region 7 with (first
    | (at_builtin; refine wp_app (l2 := l.take N) rfl rfl hB0 rfl rfl (HRA.out.fr ((Fr.refl u4).alloc _)) HL.out (by omega) (fun e => HA.out e) (by simp; omega) ?_; intro v1 w8 hB1 hG1)
    | (at_builtin; refine wp_app (l2 := [10]) rfl rfl (hB1.alloc _) rfl rfl (row_new _ [10] _ _ rfl) rfl (by decide) (fun e => by cases e) (by have := HL.out; simp; omega) ?_; intro v2 w9 hB2 hG2)
    | (at_builtin; refine wp_app (l2 := lc.take M) rfl rfl hB2 rfl rfl ((HRC.out.fr hB2.fr).take M) HLC.out (by omega) (fun e => HC.out e) (by have := HL.out; simp; omega) ?_; intro v3 w10 hB3 hG3; obtain ⟨gy, cy, rfl, hcy, hry⟩ := BOwn.rowAt (l := yL (l.take N) (lc.take M)) hB3 HYL.out; have hb3 : Below u4.heap.size u4 w10 := hB3.fr; clear hG1 hG2 hG3)
    | (go_at_call 13; ((with_reducible refine (parse_is _ (N + 1 + M) _ (yL (l.take N) (lc.take M)) _ HYL.out (by omega) (by omega) hry).mono ?_); rintro e w11 ⟨⟨x3, m3, y3, z3, o3, t3, p3, c3, rfl⟩, hb11⟩)))
  have e5 : Below u4.heap.size u4 w11 := hb3.trans (hb11.mono hb3.size)
  have h5 := h4.below e5
  have Pa := (e5.block _ (lt_heap Pa)).trans Pa
  have Pb := (e5.block _ (lt_heap Pb)).trans Pb
  have hpa := hpa.below e5 e5.size
  have hpb := hpb.below e5 e5.size
  have Pc := heap_alloc_new w11 (.cells #[.slice x3 m3 y3, .slice z3 o3 t3] 35)
  have e6 : Below w11.heap.size w11 (w11.alloc (.cells #[.slice x3 m3 y3, .slice z3 o3 t3] 35)) := (Below.refl _ _).alloc (Nat.le_refl _) _
  have h5 := h5.below e6
  have Pa := (e6.block _ (lt_heap Pa)).trans Pa
  have Pb := (e6.block _ (lt_heap Pb)).trans Pb
  have hpa := hpa.below e6 e6.size
  have hpb := hpb.below e6 e6.size
  obtain ⟨nc, hnc⟩ : ∃ n, w11.heap.size = n := ⟨_, rfl⟩
  rw [hnc] at Pc ⊢
  obtain ⟨u5, hu⟩ : ∃ u, w11.alloc (.cells #[.slice x3 m3 y3, .slice z3 o3 t3] 35) = u := ⟨_, rfl⟩
  rw [hu] at h5 Pa Pb Pc hpa hpb ⊢
  clear hu e6 e5 hb11 hb3 hB3 hB2 hB1 hB0 hry HRA
  have Pa0 := box_cell Pa 0
  have Pa1 := box_cell Pa 1
  have Pb0 := box_cell Pb 0
  have Pb1 := box_cell Pb 1
  have Pc0 := box_cell Pc 0
  have Pc1 := box_cell Pc 1
  simp only [List.getElem?_toArray, List.getElem?_cons_succ, List.getElem?_cons_zero] at Pa0 Pa1 Pb0 Pb1 Pc0 Pc1
  go_wp2
  go_ret
  exact ⟨rfl, h5⟩

end Go.Proofs.Ytmpdnikabkandaa
