/-
  ParseRows: the walk, where both are programs.
-/
import Derived.Test.YtmpdnikabkandaaPq5
import Derived.Test.YtmpdnikabkandaaPfWm
namespace Go.Proofs.Ytmpdnikabkandaa
open Go Go.RowKit Go.Lib

theorem main_few (n : Nat) : ∀ m (l : List Sm) (ts : List Tok) v r, mainT n m l ts = .ok v r → v.length ≤ l.length + m
  | 0, _, _, _, _, h => by cases h
  | m + 1, l, ts, v, r, h => by
    rw [mainT] at h
    split at h
    · injection h with h1 _
      rw [← h1]; omega
    · cases hx : outerT n 0 ts with
      | out => rw [hx] at h; cases h
      | bad p c => rw [hx] at h; cases h
      | ok t r1 =>
        rw [hx] at h
        have := main_few n m (l ++ [t]) r1 v r h
        simp at this
        omega
theorem tl_few {l : List UInt8} {q : Pg} {r : List Tok} (h : tl l = .ok q r) : q.m.len ≤ l.length + 2 := by
  cases hl : lexS 0 l with
  | bad p => rw [tl_of_bad hl] at h; cases h
  | ok ts =>
    have hts := (lex_few _ 0 l ts (Nat.le_refl _) hl).1
    rw [tl_of hl] at h
    unfold progT at h
    cases hf : funcsT (ts.length + 2) (ts.length + 2) [] (fin ts l.length) with
    | out => rw [hf] at h; cases h
    | bad p c => rw [hf] at h; cases h
    | ok fs r1 =>
      rw [hf] at h
      have h : ((mainT (ts.length + 2) (ts.length + 2) [] r1).bind fun m r => .ok (⟨fs, smSS m⟩ : Pg) r) = .ok q r := h
      cases hm : mainT (ts.length + 2) (ts.length + 2) [] r1 with
      | out => rw [hm] at h; cases h
      | bad p c => rw [hm] at h; cases h
      | ok v r2 =>
        rw [hm] at h
        have h : PR.ok (⟨fs, smSS v⟩ : Pg) r2 = .ok q r := h
        injection h with h1 _
        subst h1
        have := main_few _ _ _ _ _ _ hm
        show (smSS v).len ≤ _
        rw [smSS_len]
        simp at this
        omega
theorem smSS_two : ∀ a b : List Sm, smSS (a ++ b) = (smSS a).app (smSS b)
  | [], b => rfl
  | t :: a, b => by
    rw [List.cons_append, smSS, smSS_two a b, smSS]
    rfl
theorem cell_keep {W W' : World} {a : Addr} {u : Value} (h : W.cell? a = some u) (e : Below W.heap.size W W') : W'.cell? a = some u := by
  have hlt : a.block < W.heap.size := by
    rcases Nat.lt_or_ge a.block W.heap.size with h' | h'
    · exact h'
    · simp [World.cell?, Array.getElem?_eq_none h'] at h
  exact (e.cell (p := a) hlt).trans h
theorem sv_nil_none {B : Nat} {W : World} {A : Option Addr} {n cap : Nat} {l : SS} (h : SV B W (.slice A n cap) l) (hn : l.len = n) : A = none → n = 0 := by
  rintro rfl
  obtain ⟨A1, cap1, e, _, _, hr⟩ := h
  injection e with e1 e2 e3
  subst e1
  rw [← hn]
  rcases Nat.eq_zero_or_pos l.len with h0 | h0
  · exact h0
  · obtain ⟨b, o, e, _⟩ := hr h0
    cases e
theorem pgv_rows {u w8 : World} {k km1 km2 n : Nat} {F1 X G1 : Option Addr} {kf f cx g1 : Nat} {q q' : Pg} {x y : Value} {cs1 cs2 cs : List Value} (hF : Fin2 u w8 50 6 k x y (.slice X n cx) n cs)
    (hpa : PgV u.heap.size u (.agg #[.slice F1 kf f, .slice G1 km1 g1]) q) (h1 : q.m.Cells u.heap.size u cs1) (h2 : q'.m.Cells u.heap.size u cs2) (hcs : cs = cs1 ++ cs2) (hk1 : q.m.len = km1) (hk2 : q'.m.len = km2) (hn : n = km1 + km2) :
    PgV w8.heap.size w8 (.agg #[.slice F1 kf f, .slice X n cx]) ⟨q.fs, q.m.app q'.m⟩ := by
  obtain ⟨_, _, _, _, hown, _, hb⟩ := hF
  obtain ⟨A, c, A', c', e, hf, _⟩ := hpa
  injection e with e
  injection e with e
  injection e with e1 e2
  rw [e1]
  subst hcs hk1 hk2
  have hl : (q.m.app q'.m).len = n := by rw [SS.app_len, hn]
  have hs := own_sv (l := q.m.app q'.m) hown (SS.Cells.app (h2.below hb hb.size) (h1.below hb hb.size)) hl.symm
  subst hn
  rw [← hl] at hs ⊢
  exact ⟨A, c, X, cx, rfl, hf.below hb hb.size, hs⟩

set_option maxHeartbeats 4000000 in
set_option maxRecDepth 100000 in
theorem rows_y (A C : Option Addr) (n cap cn ccap N M : Nat) (l lc : List UInt8) (w : World) (hn : l.length = n) (hcap : n ≤ cap) (_hm : cap ≤ 9223372036854775807) (hr : Row w A l) (hA : A = none → cap = 0) (hcn : lc.length = cn) (hccap : cn ≤ ccap) (_hcm : ccap ≤ 9223372036854775807) (hrc : Row w C lc) (hC : C = none → ccap = 0) (hN : N = min n 2000) (hM : M = min cn 2000) (q q' : Pg) (r r' : List Tok) (ha : tl (l.take N) = .ok q r) (hb : tl (lc.take M) = .ok q' r') (hf : q'.fs = []) :
    Calls Try.prog 10 #[.slice A n cap, .slice C cn ccap] w fun e w' => e = .returned (.bool true) ∧ Fr w w' := by
  have hfr := Fr.refl w
  have HS := Lib.hid (shown4_fr w w hfr)
  have HN := Lib.hid hN
  have HM := Lib.hid hM
  have hN1 : N ≤ 2000 := by omega
  have hN2 : N ≤ n := by omega
  have hM1 : M ≤ 2000 := by omega
  have hM2 : M ≤ cn := by omega
  have HL := Lib.hid (show (l.take N).length = N by rw [List.length_take]; omega)
  have HLC := Lib.hid (show (lc.take M).length = M by rw [List.length_take]; omega)
  have HA := Lib.hid hA
  have HC := Lib.hid hC
  obtain ⟨kf1, hkf1⟩ : ∃ k, (q).fs.length = k := ⟨_, rfl⟩
  obtain ⟨km1, hkm1⟩ : ∃ k, (q).m.len = k := ⟨_, rfl⟩
  have HKF1 := Lib.hid hkf1
  have HKM1 := Lib.hid hkm1
  obtain ⟨kf2, hkf2⟩ : ∃ k, (q').fs.length = k := ⟨_, rfl⟩
  obtain ⟨km2, hkm2⟩ : ∃ k, (q').m.len = k := ⟨_, rfl⟩
  have HKF2 := Lib.hid hkf2
  have HKM2 := Lib.hid hkm2
  obtain ⟨kf3, hkf3⟩ : ∃ k, (Pg.fs ⟨q.fs, q.m.app q'.m⟩).length = k := ⟨_, rfl⟩
  obtain ⟨km3, hkm3⟩ : ∃ k, (Pg.m ⟨q.fs, q.m.app q'.m⟩).len = k := ⟨_, rfl⟩
  have HKF3 := Lib.hid hkf3
  have HKM3 := Lib.hid hkm3
  have k1 : km1 ≤ 2002 := by have := tl_few ha; rw [HL.out] at this; omega
  have k2 : km2 ≤ 2002 := by have := tl_few hb; rw [HLC.out] at this; omega
  obtain ⟨v, hv, hall⟩ := tl_rows (b := lc.take M) ha
  obtain ⟨v', r3, hv', hy⟩ := hall.1 q' r' hb hf
  have HTY := Lib.hid (show tl (yL (l.take N) (lc.take M)) = .ok ⟨q.fs, q.m.app q'.m⟩ r3 by rw [yL_eq, hy, smSS_two, hv, hv'])
  have f0 : kf2 = 0 := by rw [← hkf2, hf]; rfl
  subst f0
  clear hf hkf1 hkm1 hkf2 hkm2 hkf3 hkm3 hv hall hv' hy v v'
  have HTA := Lib.hid ha
  clear ha
  have HTB := Lib.hid hb
  clear hb
  clear hn hN hM hcn hA hC
  go_enter Try.func10, Try.ntmps10
  go_upto_region 2 with (go_at_call 11; ((with_reducible refine HS.out.mono ?_); rintro e w1 ⟨rfl, h1⟩))
  go_cut [0] (fun s wx => s = .slice A N cap ∧ wx = w1)
  case first =>
    go_wp2_with fail
    all_goals (go_meet; exact ⟨by have := HN.out; congr 1; omega, rfl⟩)
  case rest =>
  obtain ⟨rfl, rfl⟩ := hcut
  go_upto_region 3 with fail
  go_cut [1] (fun s wx => s = .slice C M ccap ∧ wx = wc)
  case first =>
    go_wp2_with fail
    all_goals (go_meet; exact ⟨by have := HM.out; congr 1; omega, rfl⟩)
  case rest =>
  obtain ⟨rfl, rfl⟩ := hcut
  go_upto_region 5 with (go_at_call 13; ((with_reducible refine (p_pgv HTA.out HKF1.out HKM1.out _ N _ _ HL.out (by omega) (by omega) ((hr.fr h1).take N)).mono ?_); rintro e w3 ⟨⟨F1, f1, G1, g1, rfl, hpa⟩, hb3⟩))
  have h3 := h1.below hb3
  have Pa := heap_alloc_new w3 (.cells #[.slice F1 kf1 f1, .slice G1 km1 g1] 35)
  have e6 : Below w3.heap.size w3 (w3.alloc (.cells #[.slice F1 kf1 f1, .slice G1 km1 g1] 35)) := (Below.refl _ _).alloc (Nat.le_refl _) _
  have h3 := h3.below e6
  have hpa := hpa.below e6 e6.size
  obtain ⟨na, hna⟩ : ∃ n, w3.heap.size = n := ⟨_, rfl⟩
  rw [hna] at Pa ⊢
  obtain ⟨u3, hu⟩ : ∃ u, w3.alloc (.cells #[.slice F1 kf1 f1, .slice G1 km1 g1] 35) = u := ⟨_, rfl⟩
  rw [hu] at h3 Pa hpa ⊢
  clear hu e6 hb3
  go_upto_region 6 with (go_at_call 13; ((with_reducible refine (p_pgv HTB.out HKF2.out HKM2.out _ M _ _ HLC.out (by omega) (by omega) ((hrc.fr h3).take M)).mono ?_); rintro e w4 ⟨⟨F2, f2, G2, g2, rfl, hpb⟩, hb4⟩))
  have h4 := h3.below hb4
  have Pa := (hb4.block _ (lt_heap Pa)).trans Pa
  have hpa := hpa.below hb4 hb4.size
  have Pb := heap_alloc_new w4 (.cells #[.slice F2 0 f2, .slice G2 km2 g2] 35)
  have e6 : Below w4.heap.size w4 (w4.alloc (.cells #[.slice F2 0 f2, .slice G2 km2 g2] 35)) := (Below.refl _ _).alloc (Nat.le_refl _) _
  have h4 := h4.below e6
  have Pa := (e6.block _ (lt_heap Pa)).trans Pa
  have hpa := hpa.below e6 e6.size
  have hpb := hpb.below e6 e6.size
  obtain ⟨nb, hnb⟩ : ∃ n, w4.heap.size = n := ⟨_, rfl⟩
  rw [hnb] at Pb ⊢
  obtain ⟨u4, hu⟩ : ∃ u, w4.alloc (.cells #[.slice F2 0 f2, .slice G2 km2 g2] 35) = u := ⟨_, rfl⟩
  rw [hu] at h4 Pa Pb hpa hpb ⊢
  clear hu e6 hb4
  have HRA := Lib.hid ((hr.fr h4).take N)
  have HRC := Lib.hid (hrc.fr h4)
  have HYL := Lib.hid (yL_len HL.out HLC.out)
  have hB0 := bown_new u4
  go_upto_region 7 with (first
    | (at_builtin; refine wp_app (l2 := l.take N) rfl rfl hB0 rfl rfl (HRA.out.fr ((Fr.refl u4).alloc _)) HL.out (by omega) (fun e => HA.out e) (by simp; omega) ?_; intro v1 w8 hB1 hG1)
    | (at_builtin; refine wp_app (l2 := [10]) rfl rfl (hB1.alloc _) rfl rfl (row_new _ [10] _ _ rfl) rfl (by decide) (fun e => by cases e) (by have := HL.out; simp; omega) ?_; intro v2 w9 hB2 hG2)
    | (at_builtin; refine wp_app (l2 := lc.take M) rfl rfl hB2 rfl rfl ((HRC.out.fr hB2.fr).take M) HLC.out (by omega) (fun e => HC.out e) (by have := HL.out; simp; omega) ?_; intro v3 w10 hB3 hG3; obtain ⟨gy, cy, rfl, hcy, hry⟩ := BOwn.rowAt (l := yL (l.take N) (lc.take M)) hB3 HYL.out; have hb3 : Below u4.heap.size u4 w10 := hB3.fr; clear hG1 hG2 hG3)
    | (go_at_call 13; ((with_reducible refine (p_pgv HTY.out HKF3.out HKM3.out _ (N + 1 + M) _ _ HYL.out (by omega) (by omega) hry).mono ?_); rintro e w11 ⟨⟨F3, f3, G3, g3, rfl, hpc⟩, hb11⟩)))
  have e5 : Below u4.heap.size u4 w11 := hb3.trans (hb11.mono hb3.size)
  have h5 := h4.below e5
  have Pa := (e5.block _ (lt_heap Pa)).trans Pa
  have Pb := (e5.block _ (lt_heap Pb)).trans Pb
  have hpa := hpa.below e5 e5.size
  have hpb := hpb.below e5 e5.size
  have Pc := heap_alloc_new w11 (.cells #[.slice F3 kf3 f3, .slice G3 km3 g3] 35)
  have e6 : Below w11.heap.size w11 (w11.alloc (.cells #[.slice F3 kf3 f3, .slice G3 km3 g3] 35)) := (Below.refl _ _).alloc (Nat.le_refl _) _
  have h5 := h5.below e6
  have Pa := (e6.block _ (lt_heap Pa)).trans Pa
  have Pb := (e6.block _ (lt_heap Pb)).trans Pb
  have hpa := hpa.below e6 e6.size
  have hpb := hpb.below e6 e6.size
  have hpc := hpc.below e6 e6.size
  obtain ⟨nc, hnc⟩ : ∃ n, w11.heap.size = n := ⟨_, rfl⟩
  rw [hnc] at Pc ⊢
  obtain ⟨u5, hu⟩ : ∃ u, w11.alloc (.cells #[.slice F3 kf3 f3, .slice G3 km3 g3] 35) = u := ⟨_, rfl⟩
  rw [hu] at h5 Pa Pb Pc hpa hpb hpc ⊢
  clear hu e6 e5 hb11 hb3 hB3 hB2 hB1 hB0 hry HRA
  have Pa0 := box_cell Pa 0
  have Pa1 := box_cell Pa 1
  have Pb0 := box_cell Pb 0
  have Pb1 := box_cell Pb 1
  have Pc0 := box_cell Pc 0
  have Pc1 := box_cell Pc 1
  simp only [List.getElem?_toArray, List.getElem?_cons_succ, List.getElem?_cons_zero] at Pa0 Pa1 Pb0 Pb1 Pc0 Pc1
  obtain ⟨i0, hi, hz0, hz1, hz2⟩ := info_parts stmtInfo
  have hsm1 : SV u5.heap.size u5 (.slice G1 km1 g1) q.m := by
    obtain ⟨A', c', A'', c'', e, _, hs⟩ := hpa
    injection e with e
    injection e with e
    injection e with e1 e2
    injection e2 with e2 _
    rw [e2]; exact hs
  have hsm2 : SV u5.heap.size u5 (.slice G2 km2 g2) q'.m := by
    obtain ⟨A', c', A'', c'', e, _, hs⟩ := hpb
    injection e with e
    injection e with e
    injection e with e1 e2
    injection e2 with e2 _
    rw [e2]; exact hs
  obtain ⟨-, cs1, hc1, hn1⟩ := sv_news hsm1
  obtain ⟨-, cs2, hc2, hn2⟩ := sv_news hsm2
  have hl1 : cs1.length = km1 * 6 := by rw [hc1.len, HKM1.out]
  have hl2 : cs2.length = km2 * 6 := by rw [hc2.len, HKM2.out]
  have ho1 := hc1.one
  have ho2 := hc2.one
  have hG1 := sv_nil_none hsm1 HKM1.out
  have hG2 := sv_nil_none hsm2 HKM2.out
  have HN1 := Lib.hid (fun (W : World) (e : Below u5.heap.size u5 W) => (fun ad ha j u hu => cell_keep (hn1 ad ha j u hu) e : ∀ ad, G1 = some ad → ∀ j u, cs1[j]? = some u → W.cell? (ad.add j) = some u))
  have HN2 := Lib.hid (fun (W : World) (e : Below u5.heap.size u5 W) => (fun ad ha j u hu => cell_keep (hn2 ad ha j u hu) e : ∀ ad, G2 = some ad → ∀ j u, cs2[j]? = some u → W.cell? (ad.add j) = some u))
  clear hn1 hn2 hsm1 hsm2
  have HB := Lib.hid (fun w' (hb : Below u5.heap.size u5 w') => (⟨(hb.cell (p := ⟨na, 0, none⟩) (lt_heap Pa)).trans Pa0, (hb.cell (p := ⟨na, 1, none⟩) (lt_heap Pa)).trans Pa1, (hb.cell (p := ⟨nb, 1, none⟩) (lt_heap Pb)).trans Pb1⟩ : w'.cell? ⟨na, 0, none⟩ = some (.slice F1 kf1 f1) ∧ w'.cell? ⟨na, 1, none⟩ = some (.slice G1 km1 g1) ∧ w'.cell? ⟨nb, 1, none⟩ = some (.slice G2 km2 g2)))
  go_upto_region 10 with fail
  refine wp_region_late (fun w' => Below u5.heap.size u5 w') 11 (by kernel_rfl) ?_
  have hS0 : Below u5.heap.size u5 u5.drew := belowD (Below.refl _ _)
  obtain ⟨W0, hW0⟩ : ∃ x, u5.drew = x := ⟨_, rfl⟩
  rw [hW0] at hS0 ⊢
  clear hW0
  refine AnyL.take 0 (.pointer (some ⟨na, 0, none⟩)) rfl (by kernel_rfl) (by kernel_rfl) (by kernel_rfl) (by kernel_rfl) (fun _ _ _ h => h) (Or.inl ⟨by rfl, ?_⟩) (by assumption) ?_
  · intro W' hSw
    obtain ⟨l1, l2, l3⟩ := HB.out W' hSw
    go_simp
  try simp only [Act.put, List.getElem_toArray, List.getElem_cons_zero, List.setIfInBounds_toArray, List.set_cons_zero, List.set_cons_succ]
  refine AnyL.take 1 (.slice F1 kf1 f1) rfl (by kernel_rfl) (by kernel_rfl) (by kernel_rfl) (by kernel_rfl) (fun _ _ _ h => h) (Or.inl ⟨by rfl, ?_⟩) (by assumption) ?_
  · intro W' hSw
    obtain ⟨l1, l2, l3⟩ := HB.out W' hSw
    go_simp
  try simp only [Act.put, List.getElem_toArray, List.getElem_cons_zero, List.getElem_cons_succ, List.setIfInBounds_toArray, List.set_cons_zero, List.set_cons_succ]
  refine AnyL.take 3 (.pointer (some ⟨na, 1, none⟩)) rfl (by kernel_rfl) (by kernel_rfl) (by kernel_rfl) (by kernel_rfl) (fun _ _ _ h => h) (Or.inl ⟨by rfl, ?_⟩) (by assumption) ?_
  · intro W' hSw
    obtain ⟨l1, l2, l3⟩ := HB.out W' hSw
    go_simp
  try simp only [Act.put, List.getElem_toArray, List.getElem_cons_zero, List.getElem_cons_succ, List.setIfInBounds_toArray, List.set_cons_zero, List.set_cons_succ]
  refine AnyL.take 4 (.slice G1 km1 g1) rfl (by kernel_rfl) (by kernel_rfl) (by kernel_rfl) (by kernel_rfl) (fun _ _ _ h => h) (Or.inl ⟨by rfl, ?_⟩) (by assumption) ?_
  · intro W' hSw
    obtain ⟨l1, l2, l3⟩ := HB.out W' hSw
    go_simp
  try simp only [Act.put, List.getElem_toArray, List.getElem_cons_zero, List.getElem_cons_succ, List.setIfInBounds_toArray, List.set_cons_zero, List.set_cons_succ]
  refine AnyL.take 6 (.pointer (some ⟨nb, 1, none⟩)) rfl (by kernel_rfl) (by kernel_rfl) (by kernel_rfl) (by kernel_rfl) (fun _ _ _ h => h) (Or.inl ⟨by rfl, ?_⟩) (by assumption) ?_
  · intro W' hSw
    obtain ⟨l1, l2, l3⟩ := HB.out W' hSw
    go_simp
  try simp only [Act.put, List.getElem_toArray, List.getElem_cons_zero, List.getElem_cons_succ, List.setIfInBounds_toArray, List.set_cons_zero, List.set_cons_succ]
  refine AnyL.take 7 (.slice G2 km2 g2) rfl (by kernel_rfl) (by kernel_rfl) (by kernel_rfl) (by kernel_rfl) (fun _ _ _ h => h) (Or.inl ⟨by rfl, ?_⟩) (by assumption) ?_
  · intro W' hSw
    obtain ⟨l1, l2, l3⟩ := HB.out W' hSw
    go_simp
  try simp only [Act.put, List.getElem_toArray, List.getElem_cons_zero, List.getElem_cons_succ, List.setIfInBounds_toArray, List.set_cons_zero, List.set_cons_succ]
  refine AnyL.both 2 10 (by kernel_rfl) rfl rfl (fun K hK => ?_) (fun K hK => ?_)
  · go_simp
    have e1 := belowA hS0 (.cells #[] 50)
    have o1 := made_in (e := 50) (size := 6) (rfl : W0.heap.size = W0.heap.size) hS0.size
    obtain ⟨W1, hw1⟩ : ∃ x, W0.alloc (.cells #[] 50) = x := ⟨_, rfl⟩
    rw [hw1] at e1 o1 ⊢
    clear hw1
    obtain ⟨g1', hg1⟩ : ∃ x, W0.heap.size = x := ⟨_, rfl⟩
    rw [hg1] at o1 ⊢
    refine hK.out _ _ (fun _ => e1) ?_
    clear hK K
    try simp only [Act.put, List.getElem_toArray, List.getElem_cons_zero, List.getElem_cons_succ, List.setIfInBounds_toArray, List.set_cons_zero, List.set_cons_succ]
    refine AnyL.both 5 10 (by kernel_rfl) rfl rfl (fun K hK => ?_) (fun K hK => ?_)
    · refine step_append_own rfl (.tmp 69) (.tmp 71) 33 rfl u5.heap.size 50 i0 _ 6 104 Try.underlying33 hi hz0 hz1 hz2 rfl (by decide) (.slice (some ⟨g1', 0, none⟩) 0 0) (0) ([]) rfl o1 G1 km1 g1 cs1 rfl hG1 hl1 (HN1.out W1 e1) ho1 (by unfold maxLen; omega) (by omega) e1.size (fun v2 W2 o2 r2 => ?_)
      have e2 := grown_below e1 o1 (Nat.le_refl _) r2
      rw [Nat.zero_add, List.nil_append] at o2
      obtain ⟨X2, c2, rfl⟩ := own_form o2
      refine hK.out _ _ (fun _ => e2) ?_
      clear hK K
      try simp only [Act.put, List.getElem_toArray, List.getElem_cons_zero, List.getElem_cons_succ, List.setIfInBounds_toArray, List.set_cons_zero, List.set_cons_succ]
      refine AnyL.both 8 10 (by kernel_rfl) rfl rfl (fun K hK => ?_) (fun K hK => ?_)
      · refine step_append_own rfl (.tmp 72) (.tmp 74) 33 rfl u5.heap.size 50 i0 _ 6 104 Try.underlying33 hi hz0 hz1 hz2 rfl (by decide) (.slice X2 (km1) c2) (km1) (cs1) rfl o2 G2 km2 g2 cs2 rfl hG2 hl2 (HN2.out W2 e2) ho2 (by unfold maxLen; omega) (by omega) e2.size (fun v3 W3 o3 r3 => ?_)
        have e3 := grown_below e2 o2 (Nat.le_refl _) r3
        obtain ⟨X3, c3, rfl⟩ := own_form o3
        refine hK.out _ _ (fun _ => e3) ?_
        clear hK K
        try simp only [Act.put, List.getElem_toArray, List.getElem_cons_zero, List.getElem_cons_succ, List.setIfInBounds_toArray, List.set_cons_zero, List.set_cons_succ]
        refine AnyL.take 9 (.agg #[.slice F1 kf1 f1, .slice X3 (km1 + km2) c3]) rfl (by kernel_rfl) (by kernel_rfl) (by kernel_rfl) (by kernel_rfl) (fun _ _ _ h => h) (Or.inl ⟨by rfl, ?_⟩) (by assumption) ?_
        · intro W' hSw
          go_simp
        try simp only [Act.put, List.getElem_toArray, List.getElem_cons_zero, List.getElem_cons_succ, List.setIfInBounds_toArray, List.set_cons_zero, List.set_cons_succ]
        refine AnyL.next 10 (by kernel_rfl) rfl (fun K hK => ?_)
        go_simp
        have e4 := belowA e3 P2
        have b4 := heap_alloc_new W3 P2
        have z4 := e3.size
        have o4 := o3.alloc P2
        obtain ⟨W4, hw4⟩ : ∃ x, W3.alloc P2 = x := ⟨_, rfl⟩
        rw [hw4] at e4 b4 o4 ⊢
        clear hw4
        obtain ⟨nd4, hg4⟩ : ∃ x, W3.heap.size = x := ⟨_, rfl⟩
        rw [hg4] at b4 z4 ⊢
        refine hK.out _ _ (fun _ => e4) ?_
        clear hK K
        try simp only [Act.put, List.getElem_toArray, List.getElem_cons_zero, List.getElem_cons_succ, List.setIfInBounds_toArray, List.set_cons_zero, List.set_cons_succ]
        refine AnyL.next 11 (by kernel_rfl) rfl (fun K hK => ?_)
        have b0 := box_cell b4 0
        have b1' := box_cell b4 1
        have fz0 := box_frozen b4 0
        have fz1 := box_frozen b4 1
        simp only [List.getElem?_toArray, List.getElem?_cons_succ, List.getElem?_cons_zero] at b0 b1'
        go_simp
        have hF := fin_set (x := .slice F1 kf1 f1) (y := .slice X3 (km1 + km2) c3) e4 z4 b4 (by decide) o4
        obtain ⟨w8, hw8⟩ : ∃ x, (W4.setCell ⟨nd4, 0, none⟩ (.slice F1 kf1 f1)).setCell ⟨nd4, 1, none⟩ (.slice X3 (km1 + km2) c3) = x := ⟨_, rfl⟩
        rw [hw8] at hF ⊢
        clear hw8
        refine hK.out _ _ (fun h => absurd rfl h) ?_
        clear hK K
        try simp only [Act.put, List.getElem_toArray, List.getElem_cons_zero, List.getElem_cons_succ, List.setIfInBounds_toArray, List.set_cons_zero, List.set_cons_succ]
        refine AnyL.done (by kernel_rfl) ?_
        have hpd := pgv_rows hF hpa hc1 hc2 rfl HKM1.out HKM2.out rfl
        obtain ⟨_, _, y0, y1, _, _, e7⟩ := hF
        have hpc := hpc.below e7 e7.size
        have h8 := h5.below e7
        have x0 := (e7.cell (p := ⟨nc, 0, none⟩) (lt_heap Pc)).trans Pc0
        have x1 := (e7.cell (p := ⟨nc, 1, none⟩) (lt_heap Pc)).trans Pc1
        have HE := Lib.hid (show Calls Try.prog 14 #[.agg #[.slice F3 kf3 f3, .slice G3 km3 g3], .agg #[.slice F1 kf1 f1, .slice X3 (km1 + km2) c3]] w8 (fun e w' => e = .returned (.bool true) ∧ Below w8.heap.size w8 w') from (equal_any _ _ _ _ w8 _ (Nat.le_refl _) hpc hpd).mono fun e w' he => ⟨he.1.trans (by rw [(eqG_iff _ _).2 rfl]), he.2⟩)
        clear hpc hpd hpa hpb e7 Pa Pb Pc Pa0 Pa1 Pb0 Pb1 Pc0 Pc1 h5 hc1 hc2
        go_wp2_with (go_at_call 14; ((with_reducible refine HE.out.mono ?_); rintro e w9 ⟨rfl, e9⟩))
        go_ret
        exact ⟨rfl, h8.below e9⟩
      · go_simp
        have e6 := belowA e2 P2
        have b6 := heap_alloc_new W2 P2
        have z6 := e2.size
        have o6 := o2.alloc P2
        obtain ⟨W6, hw6⟩ : ∃ x, W2.alloc P2 = x := ⟨_, rfl⟩
        rw [hw6] at e6 b6 o6 ⊢
        clear hw6
        obtain ⟨nd6, hg6⟩ : ∃ x, W2.heap.size = x := ⟨_, rfl⟩
        rw [hg6] at b6 z6 ⊢
        refine hK.out _ _ (fun _ => e6) ?_
        clear hK K
        try simp only [Act.put, List.getElem_toArray, List.getElem_cons_zero, List.getElem_cons_succ, List.setIfInBounds_toArray, List.set_cons_zero, List.set_cons_succ]
        refine AnyL.next 8 (by kernel_rfl) rfl (fun K hK => ?_)
        refine step_append_own rfl (.tmp 72) (.tmp 74) 33 rfl u5.heap.size 50 i0 _ 6 104 Try.underlying33 hi hz0 hz1 hz2 rfl (by decide) (.slice X2 (km1) c2) (km1) (cs1) rfl o6 G2 km2 g2 cs2 rfl hG2 hl2 (HN2.out W6 e6) ho2 (by unfold maxLen; omega) (by omega) e6.size (fun v7 W7 o7 r7 => ?_)
        have e7 := grown_below e6 o6 (Nat.le_refl _) r7
        have b7 := blk_grown_own o6 r7 b6 (by decide)
        obtain ⟨X7, c7, rfl⟩ := own_form o7
        refine hK.out _ _ (fun _ => e7) ?_
        clear hK K
        try simp only [Act.put, List.getElem_toArray, List.getElem_cons_zero, List.getElem_cons_succ, List.setIfInBounds_toArray, List.set_cons_zero, List.set_cons_succ]
        refine AnyL.take 9 (.agg #[.slice F1 kf1 f1, .slice X7 (km1 + km2) c7]) rfl (by kernel_rfl) (by kernel_rfl) (by kernel_rfl) (by kernel_rfl) (fun _ _ _ h => h) (Or.inl ⟨by rfl, ?_⟩) (by assumption) ?_
        · intro W' hSw
          go_simp
        try simp only [Act.put, List.getElem_toArray, List.getElem_cons_zero, List.getElem_cons_succ, List.setIfInBounds_toArray, List.set_cons_zero, List.set_cons_succ]
        refine AnyL.next 11 (by kernel_rfl) rfl (fun K hK => ?_)
        have b0 := box_cell b7 0
        have b1' := box_cell b7 1
        have fz0 := box_frozen b7 0
        have fz1 := box_frozen b7 1
        simp only [List.getElem?_toArray, List.getElem?_cons_succ, List.getElem?_cons_zero] at b0 b1'
        go_simp
        have hF := fin_set (x := .slice F1 kf1 f1) (y := .slice X7 (km1 + km2) c7) e7 z6 b7 (by decide) o7
        obtain ⟨w8, hw8⟩ : ∃ x, (W7.setCell ⟨nd6, 0, none⟩ (.slice F1 kf1 f1)).setCell ⟨nd6, 1, none⟩ (.slice X7 (km1 + km2) c7) = x := ⟨_, rfl⟩
        rw [hw8] at hF ⊢
        clear hw8
        refine hK.out _ _ (fun h => absurd rfl h) ?_
        clear hK K
        try simp only [Act.put, List.getElem_toArray, List.getElem_cons_zero, List.getElem_cons_succ, List.setIfInBounds_toArray, List.set_cons_zero, List.set_cons_succ]
        refine AnyL.done (by kernel_rfl) ?_
        have hpd := pgv_rows hF hpa hc1 hc2 rfl HKM1.out HKM2.out rfl
        obtain ⟨_, _, y0, y1, _, _, e7⟩ := hF
        have hpc := hpc.below e7 e7.size
        have h8 := h5.below e7
        have x0 := (e7.cell (p := ⟨nc, 0, none⟩) (lt_heap Pc)).trans Pc0
        have x1 := (e7.cell (p := ⟨nc, 1, none⟩) (lt_heap Pc)).trans Pc1
        have HE := Lib.hid (show Calls Try.prog 14 #[.agg #[.slice F3 kf3 f3, .slice G3 km3 g3], .agg #[.slice F1 kf1 f1, .slice X7 (km1 + km2) c7]] w8 (fun e w' => e = .returned (.bool true) ∧ Below w8.heap.size w8 w') from (equal_any _ _ _ _ w8 _ (Nat.le_refl _) hpc hpd).mono fun e w' he => ⟨he.1.trans (by rw [(eqG_iff _ _).2 rfl]), he.2⟩)
        clear hpc hpd hpa hpb e7 Pa Pb Pc Pa0 Pa1 Pb0 Pb1 Pc0 Pc1 h5 hc1 hc2
        go_wp2_with (go_at_call 14; ((with_reducible refine HE.out.mono ?_); rintro e w9 ⟨rfl, e9⟩))
        go_ret
        exact ⟨rfl, h8.below e9⟩
    · go_simp
      have e9 := belowA e1 P2
      have b9 := heap_alloc_new W1 P2
      have z9 := e1.size
      have o9 := o1.alloc P2
      obtain ⟨W9, hw9⟩ : ∃ x, W1.alloc P2 = x := ⟨_, rfl⟩
      rw [hw9] at e9 b9 o9 ⊢
      clear hw9
      obtain ⟨nd9, hg9⟩ : ∃ x, W1.heap.size = x := ⟨_, rfl⟩
      rw [hg9] at b9 z9 ⊢
      refine hK.out _ _ (fun _ => e9) ?_
      clear hK K
      try simp only [Act.put, List.getElem_toArray, List.getElem_cons_zero, List.getElem_cons_succ, List.setIfInBounds_toArray, List.set_cons_zero, List.set_cons_succ]
      refine AnyL.next 5 (by kernel_rfl) rfl (fun K hK => ?_)
      refine step_append_own rfl (.tmp 69) (.tmp 71) 33 rfl u5.heap.size 50 i0 _ 6 104 Try.underlying33 hi hz0 hz1 hz2 rfl (by decide) (.slice (some ⟨g1', 0, none⟩) 0 0) (0) ([]) rfl o9 G1 km1 g1 cs1 rfl hG1 hl1 (HN1.out W9 e9) ho1 (by unfold maxLen; omega) (by omega) e9.size (fun v10 W10 o10 r10 => ?_)
      have e10 := grown_below e9 o9 (Nat.le_refl _) r10
      have b10 := blk_grown_own o9 r10 b9 (by decide)
      rw [Nat.zero_add, List.nil_append] at o10
      obtain ⟨X10, c10, rfl⟩ := own_form o10
      refine hK.out _ _ (fun _ => e10) ?_
      clear hK K
      try simp only [Act.put, List.getElem_toArray, List.getElem_cons_zero, List.getElem_cons_succ, List.setIfInBounds_toArray, List.set_cons_zero, List.set_cons_succ]
      refine AnyL.next 8 (by kernel_rfl) rfl (fun K hK => ?_)
      refine step_append_own rfl (.tmp 72) (.tmp 74) 33 rfl u5.heap.size 50 i0 _ 6 104 Try.underlying33 hi hz0 hz1 hz2 rfl (by decide) (.slice X10 (km1) c10) (km1) (cs1) rfl o10 G2 km2 g2 cs2 rfl hG2 hl2 (HN2.out W10 e10) ho2 (by unfold maxLen; omega) (by omega) e10.size (fun v11 W11 o11 r11 => ?_)
      have e11 := grown_below e10 o10 (Nat.le_refl _) r11
      have b11 := blk_grown_own o10 r11 b10 (by decide)
      obtain ⟨X11, c11, rfl⟩ := own_form o11
      refine hK.out _ _ (fun _ => e11) ?_
      clear hK K
      try simp only [Act.put, List.getElem_toArray, List.getElem_cons_zero, List.getElem_cons_succ, List.setIfInBounds_toArray, List.set_cons_zero, List.set_cons_succ]
      refine AnyL.take 9 (.agg #[.slice F1 kf1 f1, .slice X11 (km1 + km2) c11]) rfl (by kernel_rfl) (by kernel_rfl) (by kernel_rfl) (by kernel_rfl) (fun _ _ _ h => h) (Or.inl ⟨by rfl, ?_⟩) (by assumption) ?_
      · intro W' hSw
        go_simp
      try simp only [Act.put, List.getElem_toArray, List.getElem_cons_zero, List.getElem_cons_succ, List.setIfInBounds_toArray, List.set_cons_zero, List.set_cons_succ]
      refine AnyL.next 11 (by kernel_rfl) rfl (fun K hK => ?_)
      have b0 := box_cell b11 0
      have b1' := box_cell b11 1
      have fz0 := box_frozen b11 0
      have fz1 := box_frozen b11 1
      simp only [List.getElem?_toArray, List.getElem?_cons_succ, List.getElem?_cons_zero] at b0 b1'
      go_simp
      have hF := fin_set (x := .slice F1 kf1 f1) (y := .slice X11 (km1 + km2) c11) e11 z9 b11 (by decide) o11
      obtain ⟨w8, hw8⟩ : ∃ x, (W11.setCell ⟨nd9, 0, none⟩ (.slice F1 kf1 f1)).setCell ⟨nd9, 1, none⟩ (.slice X11 (km1 + km2) c11) = x := ⟨_, rfl⟩
      rw [hw8] at hF ⊢
      clear hw8
      refine hK.out _ _ (fun h => absurd rfl h) ?_
      clear hK K
      try simp only [Act.put, List.getElem_toArray, List.getElem_cons_zero, List.getElem_cons_succ, List.setIfInBounds_toArray, List.set_cons_zero, List.set_cons_succ]
      refine AnyL.done (by kernel_rfl) ?_
      have hpd := pgv_rows hF hpa hc1 hc2 rfl HKM1.out HKM2.out rfl
      obtain ⟨_, _, y0, y1, _, _, e7⟩ := hF
      have hpc := hpc.below e7 e7.size
      have h8 := h5.below e7
      have x0 := (e7.cell (p := ⟨nc, 0, none⟩) (lt_heap Pc)).trans Pc0
      have x1 := (e7.cell (p := ⟨nc, 1, none⟩) (lt_heap Pc)).trans Pc1
      have HE := Lib.hid (show Calls Try.prog 14 #[.agg #[.slice F3 kf3 f3, .slice G3 km3 g3], .agg #[.slice F1 kf1 f1, .slice X11 (km1 + km2) c11]] w8 (fun e w' => e = .returned (.bool true) ∧ Below w8.heap.size w8 w') from (equal_any _ _ _ _ w8 _ (Nat.le_refl _) hpc hpd).mono fun e w' he => ⟨he.1.trans (by rw [(eqG_iff _ _).2 rfl]), he.2⟩)
      clear hpc hpd hpa hpb e7 Pa Pb Pc Pa0 Pa1 Pb0 Pb1 Pc0 Pc1 h5 hc1 hc2
      go_wp2_with (go_at_call 14; ((with_reducible refine HE.out.mono ?_); rintro e w9 ⟨rfl, e9⟩))
      go_ret
      exact ⟨rfl, h8.below e9⟩
  · go_simp
    have e13 := belowA hS0 P2
    have b13 := heap_alloc_new W0 P2
    have z13 := hS0.size
    obtain ⟨W13, hw13⟩ : ∃ x, W0.alloc P2 = x := ⟨_, rfl⟩
    rw [hw13] at e13 b13 ⊢
    clear hw13
    obtain ⟨nd13, hg13⟩ : ∃ x, W0.heap.size = x := ⟨_, rfl⟩
    rw [hg13] at b13 z13 ⊢
    refine hK.out _ _ (fun _ => e13) ?_
    clear hK K
    try simp only [Act.put, List.getElem_toArray, List.getElem_cons_zero, List.getElem_cons_succ, List.setIfInBounds_toArray, List.set_cons_zero, List.set_cons_succ]
    refine AnyL.next 2 (by kernel_rfl) rfl (fun K hK => ?_)
    go_simp
    have e14 := belowA e13 (.cells #[] 50)
    have o14 := made_in (e := 50) (size := 6) (rfl : W13.heap.size = W13.heap.size) e13.size
    have b14 := blk_alloc b13 (.cells #[] 50)
    obtain ⟨W14, hw14⟩ : ∃ x, W13.alloc (.cells #[] 50) = x := ⟨_, rfl⟩
    rw [hw14] at e14 o14 b14 ⊢
    clear hw14
    obtain ⟨g14', hg14⟩ : ∃ x, W13.heap.size = x := ⟨_, rfl⟩
    rw [hg14] at o14 ⊢
    refine hK.out _ _ (fun _ => e14) ?_
    clear hK K
    try simp only [Act.put, List.getElem_toArray, List.getElem_cons_zero, List.getElem_cons_succ, List.setIfInBounds_toArray, List.set_cons_zero, List.set_cons_succ]
    refine AnyL.next 5 (by kernel_rfl) rfl (fun K hK => ?_)
    refine step_append_own rfl (.tmp 69) (.tmp 71) 33 rfl u5.heap.size 50 i0 _ 6 104 Try.underlying33 hi hz0 hz1 hz2 rfl (by decide) (.slice (some ⟨g14', 0, none⟩) 0 0) (0) ([]) rfl o14 G1 km1 g1 cs1 rfl hG1 hl1 (HN1.out W14 e14) ho1 (by unfold maxLen; omega) (by omega) e14.size (fun v15 W15 o15 r15 => ?_)
    have e15 := grown_below e14 o14 (Nat.le_refl _) r15
    have b15 := blk_grown_own o14 r15 b14 (by decide)
    rw [Nat.zero_add, List.nil_append] at o15
    obtain ⟨X15, c15, rfl⟩ := own_form o15
    refine hK.out _ _ (fun _ => e15) ?_
    clear hK K
    try simp only [Act.put, List.getElem_toArray, List.getElem_cons_zero, List.getElem_cons_succ, List.setIfInBounds_toArray, List.set_cons_zero, List.set_cons_succ]
    refine AnyL.next 8 (by kernel_rfl) rfl (fun K hK => ?_)
    refine step_append_own rfl (.tmp 72) (.tmp 74) 33 rfl u5.heap.size 50 i0 _ 6 104 Try.underlying33 hi hz0 hz1 hz2 rfl (by decide) (.slice X15 (km1) c15) (km1) (cs1) rfl o15 G2 km2 g2 cs2 rfl hG2 hl2 (HN2.out W15 e15) ho2 (by unfold maxLen; omega) (by omega) e15.size (fun v16 W16 o16 r16 => ?_)
    have e16 := grown_below e15 o15 (Nat.le_refl _) r16
    have b16 := blk_grown_own o15 r16 b15 (by decide)
    obtain ⟨X16, c16, rfl⟩ := own_form o16
    refine hK.out _ _ (fun _ => e16) ?_
    clear hK K
    try simp only [Act.put, List.getElem_toArray, List.getElem_cons_zero, List.getElem_cons_succ, List.setIfInBounds_toArray, List.set_cons_zero, List.set_cons_succ]
    refine AnyL.take 9 (.agg #[.slice F1 kf1 f1, .slice X16 (km1 + km2) c16]) rfl (by kernel_rfl) (by kernel_rfl) (by kernel_rfl) (by kernel_rfl) (fun _ _ _ h => h) (Or.inl ⟨by rfl, ?_⟩) (by assumption) ?_
    · intro W' hSw
      go_simp
    try simp only [Act.put, List.getElem_toArray, List.getElem_cons_zero, List.getElem_cons_succ, List.setIfInBounds_toArray, List.set_cons_zero, List.set_cons_succ]
    refine AnyL.next 11 (by kernel_rfl) rfl (fun K hK => ?_)
    have b0 := box_cell b16 0
    have b1' := box_cell b16 1
    have fz0 := box_frozen b16 0
    have fz1 := box_frozen b16 1
    simp only [List.getElem?_toArray, List.getElem?_cons_succ, List.getElem?_cons_zero] at b0 b1'
    go_simp
    have hF := fin_set (x := .slice F1 kf1 f1) (y := .slice X16 (km1 + km2) c16) e16 z13 b16 (by decide) o16
    obtain ⟨w8, hw8⟩ : ∃ x, (W16.setCell ⟨nd13, 0, none⟩ (.slice F1 kf1 f1)).setCell ⟨nd13, 1, none⟩ (.slice X16 (km1 + km2) c16) = x := ⟨_, rfl⟩
    rw [hw8] at hF ⊢
    clear hw8
    refine hK.out _ _ (fun h => absurd rfl h) ?_
    clear hK K
    try simp only [Act.put, List.getElem_toArray, List.getElem_cons_zero, List.getElem_cons_succ, List.setIfInBounds_toArray, List.set_cons_zero, List.set_cons_succ]
    refine AnyL.done (by kernel_rfl) ?_
    have hpd := pgv_rows hF hpa hc1 hc2 rfl HKM1.out HKM2.out rfl
    obtain ⟨_, _, y0, y1, _, _, e7⟩ := hF
    have hpc := hpc.below e7 e7.size
    have h8 := h5.below e7
    have x0 := (e7.cell (p := ⟨nc, 0, none⟩) (lt_heap Pc)).trans Pc0
    have x1 := (e7.cell (p := ⟨nc, 1, none⟩) (lt_heap Pc)).trans Pc1
    have HE := Lib.hid (show Calls Try.prog 14 #[.agg #[.slice F3 kf3 f3, .slice G3 km3 g3], .agg #[.slice F1 kf1 f1, .slice X16 (km1 + km2) c16]] w8 (fun e w' => e = .returned (.bool true) ∧ Below w8.heap.size w8 w') from (equal_any _ _ _ _ w8 _ (Nat.le_refl _) hpc hpd).mono fun e w' he => ⟨he.1.trans (by rw [(eqG_iff _ _).2 rfl]), he.2⟩)
    clear hpc hpd hpa hpb e7 Pa Pb Pc Pa0 Pa1 Pb0 Pb1 Pc0 Pc1 h5 hc1 hc2
    go_wp2_with (go_at_call 14; ((with_reducible refine HE.out.mono ?_); rintro e w9 ⟨rfl, e9⟩))
    go_ret
    exact ⟨rfl, h8.below e9⟩

end Go.Proofs.Ytmpdnikabkandaa
