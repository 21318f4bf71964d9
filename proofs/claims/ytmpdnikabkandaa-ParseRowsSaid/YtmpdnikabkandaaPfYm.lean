/-
  ParseRows: the walk, where the second one is wrong; whole.
-/
import Derived.Test.YtmpdnikabkandaaPq5
import Derived.Test.YtmpdnikabkandaaPfXm
namespace Go.Proofs.Ytmpdnikabkandaa
open Go Go.RowKit Go.Lib

theorem conv4 {w : World} {b o q : Nat} {L tx : List UInt8} (hc : Row w (some ⟨b, o, none⟩) L) (h : (L.drop q).take 4 = tx) (hl : q + 3 < L.length) :
    ∀ c, (convert 22 9 (.slice (some ⟨b, o + q, none⟩) 4 c)).run Try.prog w = .ok (.string (baT tx)) w := by
  intro c
  have h4 : tx.length = 4 := by rw [← h, List.length_take, List.length_drop]; omega
  obtain ⟨m4, hm4⟩ : ∃ m, m = 4 := ⟨4, rfl⟩
  rw [← hm4] at h h4
  rw [show (Value.slice (some ⟨b, o + q, none⟩) 4 c) = .slice (some ⟨b, o + q, none⟩) tx.length c by rw [h4, hm4]]
  refine run_convert_bytes_back (P := Try.prog) w 22 9 5 ⟨b, o + q, none⟩ c tx Try.underlying22 Try.underlying5 Try.underlying9 (fun j hj => ?_)
  have hql : q + j < L.length := by omega
  have hv : tx[j] = L.getD (q + j) 0 := by
    have e : ((L.drop q).take m4)[j]? = tx[j]? := by rw [h]
    rw [List.getElem?_take_of_lt (by omega), List.getElem?_drop, List.getElem?_eq_getElem hql, List.getElem?_eq_getElem hj] at e
    injection e with e
    rw [← e, List.getD_eq_getElem?_getD, List.getElem?_eq_getElem hql]; rfl
  obtain ⟨b', o', e, _, hcell⟩ := hc (by omega)
  injection e with e
  injection e with e1 e2
  subst e1 e2
  have hcc := hcell (q + j) hql
  rw [at_add, Nat.add_assoc, hcc, hv]
  rfl
def isF (L : List UInt8) (i : Nat) : Prop := (L.drop i).take 4 = [102, 117, 110, 99]
def isE (L : List UInt8) (i : Nat) : Prop := (L.drop i).take 4 = [101, 108, 115, 101]
theorem no_head {L : List UInt8} {M : Nat} (hL : L.length = M) (hno : ¬ ∃ i, i + 3 < M ∧ (isF L i ∨ isE L i)) : ∀ ts, lexS 0 L = .ok ts → isT ts [102, 117, 110, 99] = false ∧ isT ts [101, 108, 115, 101] = false := by
  intro ts h
  have hp := placed_of h
  have key : ∀ s : List UInt8, s.length = 4 → isT ts s = true → ∃ i, i + 3 < M ∧ (L.drop i).take 4 = s := by
    intro s hs hi
    have e : (hdT ts).text = s := of_decide_eq_true hi
    cases ts with
    | nil => rw [← e] at hs; simp [hdT] at hs
    | cons t r =>
      have e : t.text = s := e
      obtain ⟨⟨_, h2, _, _, _, _, h7, _⟩, _⟩ := hp
      rw [e, hs] at h2 h7
      exact ⟨t.at_, by omega, h7⟩
  constructor
  · cases hi : isT ts [102, 117, 110, 99] with
    | false => rfl
    | true => obtain ⟨i, h1, h2⟩ := key _ rfl hi; exact absurd ⟨i, h1, .inl h2⟩ hno
  · cases hi : isT ts [101, 108, 115, 101] with
    | false => rfl
    | true => obtain ⟨i, h1, h2⟩ := key _ rfl hi; exact absurd ⟨i, h1, .inr h2⟩ hno
theorem eq4 {tx s : List UInt8} : ((baT tx).toList == s) = decide (tx = s) := by
  rw [ByteArray.toList_eq, show (baT tx).data.toList = tx by simp [baT]]
  by_cases h : tx = s
  · rw [decide_eq_true h]; simpa using h
  · rw [decide_eq_false h]; simpa using h

set_option maxHeartbeats 4000000 in
set_option maxRecDepth 100000 in
theorem rows_x (A C : Option Addr) (n cap cn ccap N M : Nat) (l lc : List UInt8) (w : World) (hn : l.length = n) (hcap : n ≤ cap) (_hm : cap ≤ 9223372036854775807) (hr : Row w A l) (hA : A = none → cap = 0) (hcn : lc.length = cn) (hccap : cn ≤ ccap) (hcm : ccap ≤ 9223372036854775807) (hrc : Row w C lc) (hC : C = none → ccap = 0) (hN : N = min n 2000) (hM : M = min cn 2000) (q : Pg) (r : List Tok) (p c : Nat) (ha : tl (l.take N) = .ok q r) (hb : tl (lc.take M) = .bad p c) (hx : ∃ i, i + 3 < M ∧ (isF (lc.take M) i ∨ isE (lc.take M) i)) :
    Calls Try.prog 10 #[.slice A n cap, .slice C cn ccap] w fun e w' => e = .returned (.bool true) ∧ Fr w w' := by
  have hfr := Fr.refl w
  have HS := Lib.hid (shown4_fr w w hfr)
  have HN := Lib.hid hN
  have HM := Lib.hid hM
  have hN1 : N ≤ 2000 := by omega
  have hN2 : N ≤ n := by omega
  have hM1 : M ≤ 2000 := by omega
  have hM2 : M ≤ cn := by omega
  have HL := Lib.hid (show (l.take N).length = N by rw [List.length_take]; omega)
  have HLC := Lib.hid (show (lc.take M).length = M by rw [List.length_take]; omega)
  have HA := Lib.hid hA
  have HC := Lib.hid hC
  obtain ⟨kf1, hkf1⟩ : ∃ k, (q).fs.length = k := ⟨_, rfl⟩
  obtain ⟨km1, hkm1⟩ : ∃ k, (q).m.len = k := ⟨_, rfl⟩
  have HKF1 := Lib.hid hkf1
  have HKM1 := Lib.hid hkm1
  have hc0 := (tl_code hb).2
  have q1 : ((c : Int) == 0) = false := by rw [beq_eq_false_iff_ne]; omega
  have q2 : ((c : Int) != 0) = true := by simp; omega
  have q3 : ¬ (c : Int) = 0 := by omega
  clear hc0
  have HF := Lib.hid hx
  clear hx hkf1 hkm1
  have HTA := Lib.hid ha
  clear ha
  have HTB := Lib.hid hb
  clear hb
  clear hn hN hM hcn hA hC
  go_enter Try.func10, Try.ntmps10
  go_upto_region 2 with (go_at_call 11; ((with_reducible refine HS.out.mono ?_); rintro e w1 ⟨rfl, h1⟩))
  go_cut [0] (fun s wx => s = .slice A N cap ∧ wx = w1)
  case first =>
    go_wp2_with fail
    all_goals (go_meet; exact ⟨by have := HN.out; congr 1; omega, rfl⟩)
  case rest =>
  obtain ⟨rfl, rfl⟩ := hcut
  go_upto_region 3 with fail
  go_cut [1] (fun s wx => s = .slice C M ccap ∧ wx = wc)
  case first =>
    go_wp2_with fail
    all_goals (go_meet; exact ⟨by have := HM.out; congr 1; omega, rfl⟩)
  case rest =>
  obtain ⟨rfl, rfl⟩ := hcut
  go_upto_region 5 with (go_at_call 13; ((with_reducible refine (p_pgv HTA.out HKF1.out HKM1.out _ N _ _ HL.out (by omega) (by omega) ((hr.fr h1).take N)).mono ?_); rintro e w3 ⟨⟨F1, f1, G1, g1, rfl, hpa⟩, hb3⟩))
  have h3 := h1.below hb3
  have Pa := heap_alloc_new w3 (.cells #[.slice F1 kf1 f1, .slice G1 km1 g1] 35)
  have e6 : Below w3.heap.size w3 (w3.alloc (.cells #[.slice F1 kf1 f1, .slice G1 km1 g1] 35)) := (Below.refl _ _).alloc (Nat.le_refl _) _
  have h3 := h3.below e6
  have hpa := hpa.below e6 e6.size
  obtain ⟨na, hna⟩ : ∃ n, w3.heap.size = n := ⟨_, rfl⟩
  rw [hna] at Pa ⊢
  obtain ⟨u3, hu⟩ : ∃ u, w3.alloc (.cells #[.slice F1 kf1 f1, .slice G1 km1 g1] 35) = u := ⟨_, rfl⟩
  rw [hu] at h3 Pa hpa ⊢
  clear hu e6 hb3
  go_upto_region 6 with (go_at_call 13; ((with_reducible refine (p_bad HTB.out _ M _ _ HLC.out (by omega) (by omega) ((hrc.fr h3).take M)).mono ?_); rintro e w4 ⟨rfl, hb4⟩))
  have h4 := h3.below hb4
  have Pa := (hb4.block _ (lt_heap Pa)).trans Pa
  have hpa := hpa.below hb4 hb4.size
  have Pb := heap_alloc_new w4 (.cells #[.slice none 0 0, .slice none 0 0] 35)
  have e6 : Below w4.heap.size w4 (w4.alloc (.cells #[.slice none 0 0, .slice none 0 0] 35)) := (Below.refl _ _).alloc (Nat.le_refl _) _
  have h4 := h4.below e6
  have Pa := (e6.block _ (lt_heap Pa)).trans Pa
  have hpa := hpa.below e6 e6.size
  obtain ⟨nb, hnb⟩ : ∃ n, w4.heap.size = n := ⟨_, rfl⟩
  rw [hnb] at Pb ⊢
  obtain ⟨u4, hu⟩ : ∃ u, w4.alloc (.cells #[.slice none 0 0, .slice none 0 0] 35) = u := ⟨_, rfl⟩
  rw [hu] at h4 Pa Pb hpa ⊢
  clear hu e6 hb4
  have HRA := Lib.hid ((hr.fr h4).take N)
  have HRC := Lib.hid (hrc.fr h4)
  have HYL := Lib.hid (yL_len HL.out HLC.out)
  have hB0 := bown_new u4
  go_upto_region 7 with (first
    | (at_builtin; refine wp_app (l2 := l.take N) rfl rfl hB0 rfl rfl (HRA.out.fr ((Fr.refl u4).alloc _)) HL.out (by omega) (fun e => HA.out e) (by simp; omega) ?_; intro v1 w8 hB1 hG1)
    | (at_builtin; refine wp_app (l2 := [10]) rfl rfl (hB1.alloc _) rfl rfl (row_new _ [10] _ _ rfl) rfl (by decide) (fun e => by cases e) (by have := HL.out; simp; omega) ?_; intro v2 w9 hB2 hG2)
    | (at_builtin; refine wp_app (l2 := lc.take M) rfl rfl hB2 rfl rfl ((HRC.out.fr hB2.fr).take M) HLC.out (by omega) (fun e => HC.out e) (by have := HL.out; simp; omega) ?_; intro v3 w10 hB3 hG3; obtain ⟨gy, cy, rfl, hcy, hry⟩ := BOwn.rowAt (l := yL (l.take N) (lc.take M)) hB3 HYL.out; have hb3 : Below u4.heap.size u4 w10 := hB3.fr; clear hG1 hG2 hG3)
    | (go_at_call 13; ((with_reducible refine (parse_is _ (N + 1 + M) _ (yL (l.take N) (lc.take M)) _ HYL.out (by omega) (by omega) hry).mono ?_); rintro e w11 ⟨⟨x3, m3, y3, z3, o3, t3, p3, c3, rfl⟩, hb11⟩)))
  have e5 : Below u4.heap.size u4 w11 := hb3.trans (hb11.mono hb3.size)
  have h5 := h4.below e5
  have Pa := (e5.block _ (lt_heap Pa)).trans Pa
  have Pb := (e5.block _ (lt_heap Pb)).trans Pb
  have hpa := hpa.below e5 e5.size
  have Pc := heap_alloc_new w11 (.cells #[.slice x3 m3 y3, .slice z3 o3 t3] 35)
  have e6 : Below w11.heap.size w11 (w11.alloc (.cells #[.slice x3 m3 y3, .slice z3 o3 t3] 35)) := (Below.refl _ _).alloc (Nat.le_refl _) _
  have h5 := h5.below e6
  have Pa := (e6.block _ (lt_heap Pa)).trans Pa
  have Pb := (e6.block _ (lt_heap Pb)).trans Pb
  have hpa := hpa.below e6 e6.size
  obtain ⟨nc, hnc⟩ : ∃ n, w11.heap.size = n := ⟨_, rfl⟩
  rw [hnc] at Pc ⊢
  obtain ⟨u5, hu⟩ : ∃ u, w11.alloc (.cells #[.slice x3 m3 y3, .slice z3 o3 t3] 35) = u := ⟨_, rfl⟩
  rw [hu] at h5 Pa Pb Pc hpa ⊢
  clear hu e6 e5 hb11 hb3 hB3 hB2 hB1 hB0 hry HRA
  have Pa0 := box_cell Pa 0
  have Pa1 := box_cell Pa 1
  have Pb0 := box_cell Pb 0
  have Pb1 := box_cell Pb 1
  have Pc0 := box_cell Pc 0
  have Pc1 := box_cell Pc 1
  simp only [List.getElem?_toArray, List.getElem?_cons_succ, List.getElem?_cons_zero] at Pa0 Pa1 Pb0 Pb1 Pc0 Pc1
  clear Pa0 Pa1 Pb0 Pb1 Pc0 Pc1 hpa
  go_upto_region 12 with fail
  go_upto_region 13 with fail
  have HRW := Lib.hid ((hrc.fr h5).take M)
  go_loop [16] (fun i => ∃ k : Nat, k ≤ M ∧ i = .int .i64 k ∧ ∀ i', i' < k → ¬ isF (lc.take M) i' ∧ ¬ isE (lc.take M) i') (fun i => M - (intOf i).toNat)
  case atStart => exact ⟨0, Nat.zero_le _, rfl, fun i' h => absurd h (by omega)⟩
  case round =>
  obtain ⟨k, hk, rfl, hno⟩ := hrel
  have e3 : IntKind.i64.wrap ((k : Int) + 3) = (k : Int) + 3 := IntWalk.i64_in _ (by omega)
  by_cases hlt : k + 3 < M
  · obtain ⟨b, o, rfl, _, _⟩ := HRW.out (by rw [HLC.out]; omega)
    obtain ⟨tx, htx⟩ : ∃ tx, ((lc.take M).drop k).take 4 = tx := ⟨_, rfl⟩
    have hcv := conv4 HRW.out htx (by rw [HLC.out]; omega)
    have e5 : IntKind.i64.wrap ((k : Int) + 4) = (k : Int) + 4 := IntWalk.i64_in _ (by omega)
    have i0 : (k : Int) + 3 < (M : Int) := by omega
    have i1 : (k : Int) ≤ (k : Int) + 4 := by omega
    have i2 : (k : Int) + 4 ≤ (ccap : Int) := by omega
    have i3 : 0 ≤ (k : Int) + 4 := by omega
    have i4 : ((k : Int) + 4).toNat = k + 4 := by omega
    have i5 : ¬ ccap = k := by omega
    have i6 : k + 4 - k = 4 := by omega
    have x1 : ((baT tx).toList == [102, 117, 110, 99]) = decide (tx = [102, 117, 110, 99]) := eq4
    have x2 : ((baT tx).toList == [101, 108, 115, 101]) = decide (tx = [101, 108, 115, 101]) := eq4
    by_cases hf : tx = [102, 117, 110, 99]
    · rw [decide_eq_true hf] at x1
      clear hf htx hno hlt
      go_wp2
      go_ret
      exact ⟨rfl, h5⟩
    · by_cases he : tx = [101, 108, 115, 101]
      · rw [decide_eq_false hf] at x1
        rw [decide_eq_true he] at x2
        clear hf he htx hno hlt
        go_wp2
        go_ret
        exact ⟨rfl, h5⟩
      · rw [decide_eq_false hf] at x1
        rw [decide_eq_false he] at x2
        have HNO := Lib.hid (show ∀ i', i' < k + 1 → ¬ isF (lc.take M) i' ∧ ¬ isE (lc.take M) i' from fun i' hi => by
          by_cases e : i' = k
          · subst e
            exact ⟨fun h => hf (htx.symm.trans h), fun h => he (htx.symm.trans h)⟩
          · exact hno i' (by omega))
        clear hf he htx hno
        go_wp2
        go_round
        case rel => exact ⟨k + 1, by omega, by go_num, HNO.out⟩
        case measure => simp [intOf]; omega
  · obtain ⟨i, hi, hfe⟩ := HF.out
    have := hno i (by omega)
    rcases hfe with h | h
    · exact absurd h this.1
    · exact absurd h this.2

set_option maxHeartbeats 4000000 in
set_option maxRecDepth 100000 in
theorem rows_w (A C : Option Addr) (n cap cn ccap N M : Nat) (l lc : List UInt8) (w : World) (hn : l.length = n) (hcap : n ≤ cap) (_hm : cap ≤ 9223372036854775807) (hr : Row w A l) (hA : A = none → cap = 0) (hcn : lc.length = cn) (hccap : cn ≤ ccap) (hcm : ccap ≤ 9223372036854775807) (hrc : Row w C lc) (hC : C = none → ccap = 0) (hN : N = min n 2000) (hM : M = min cn 2000) (q : Pg) (r : List Tok) (p c : Nat) (ha : tl (l.take N) = .ok q r) (hb : tl (lc.take M) = .bad p c) (hx : ¬ ∃ i, i + 3 < M ∧ (isF (lc.take M) i ∨ isE (lc.take M) i)) :
    Calls Try.prog 10 #[.slice A n cap, .slice C cn ccap] w fun e w' => e = .returned (.bool true) ∧ Fr w w' := by
  have hfr := Fr.refl w
  have HS := Lib.hid (shown4_fr w w hfr)
  have HN := Lib.hid hN
  have HM := Lib.hid hM
  have hN1 : N ≤ 2000 := by omega
  have hN2 : N ≤ n := by omega
  have hM1 : M ≤ 2000 := by omega
  have hM2 : M ≤ cn := by omega
  have HL := Lib.hid (show (l.take N).length = N by rw [List.length_take]; omega)
  have HLC := Lib.hid (show (lc.take M).length = M by rw [List.length_take]; omega)
  have HA := Lib.hid hA
  have HC := Lib.hid hC
  obtain ⟨kf1, hkf1⟩ : ∃ k, (q).fs.length = k := ⟨_, rfl⟩
  obtain ⟨km1, hkm1⟩ : ∃ k, (q).m.len = k := ⟨_, rfl⟩
  have HKF1 := Lib.hid hkf1
  have HKM1 := Lib.hid hkm1
  have hc0 := (tl_code hb).2
  have q1 : ((c : Int) == 0) = false := by rw [beq_eq_false_iff_ne]; omega
  have q2 : ((c : Int) != 0) = true := by simp; omega
  have q3 : ¬ (c : Int) = 0 := by omega
  clear hc0
  have HF := Lib.hid hx
  obtain ⟨v, -, hall⟩ := tl_rows (b := lc.take M) ha
  obtain ⟨Z, hZ⟩ : ∃ Z, Z = p + (N + 1) := ⟨_, rfl⟩
  have HTY := Lib.hid (show tl (yL (l.take N) (lc.take M)) = .bad Z c by rw [yL_eq, hall.2 p c hb (no_head HLC.out hx), HL.out, hZ])
  have hp4 : p ≤ 2000 := by have := (tl_code hb).1; rw [HLC.out] at this; omega
  have z1 : ((Z : Int) == (N : Int) + 1 + (p : Int)) = true := by rw [beq_iff_eq]; omega
  have z2 : (Z : Int) = (N : Int) + 1 + (p : Int) := by omega
  clear hx hkf1 hkm1 hall v hZ
  have HTA := Lib.hid ha
  clear ha
  have HTB := Lib.hid hb
  clear hb
  clear hn hN hM hcn hA hC
  go_enter Try.func10, Try.ntmps10
  go_upto_region 2 with (go_at_call 11; ((with_reducible refine HS.out.mono ?_); rintro e w1 ⟨rfl, h1⟩))
  go_cut [0] (fun s wx => s = .slice A N cap ∧ wx = w1)
  case first =>
    go_wp2_with fail
    all_goals (go_meet; exact ⟨by have := HN.out; congr 1; omega, rfl⟩)
  case rest =>
  obtain ⟨rfl, rfl⟩ := hcut
  go_upto_region 3 with fail
  go_cut [1] (fun s wx => s = .slice C M ccap ∧ wx = wc)
  case first =>
    go_wp2_with fail
    all_goals (go_meet; exact ⟨by have := HM.out; congr 1; omega, rfl⟩)
  case rest =>
  obtain ⟨rfl, rfl⟩ := hcut
  go_upto_region 5 with (go_at_call 13; ((with_reducible refine (p_pgv HTA.out HKF1.out HKM1.out _ N _ _ HL.out (by omega) (by omega) ((hr.fr h1).take N)).mono ?_); rintro e w3 ⟨⟨F1, f1, G1, g1, rfl, hpa⟩, hb3⟩))
  have h3 := h1.below hb3
  have Pa := heap_alloc_new w3 (.cells #[.slice F1 kf1 f1, .slice G1 km1 g1] 35)
  have e6 : Below w3.heap.size w3 (w3.alloc (.cells #[.slice F1 kf1 f1, .slice G1 km1 g1] 35)) := (Below.refl _ _).alloc (Nat.le_refl _) _
  have h3 := h3.below e6
  have hpa := hpa.below e6 e6.size
  obtain ⟨na, hna⟩ : ∃ n, w3.heap.size = n := ⟨_, rfl⟩
  rw [hna] at Pa ⊢
  obtain ⟨u3, hu⟩ : ∃ u, w3.alloc (.cells #[.slice F1 kf1 f1, .slice G1 km1 g1] 35) = u := ⟨_, rfl⟩
  rw [hu] at h3 Pa hpa ⊢
  clear hu e6 hb3
  go_upto_region 6 with (go_at_call 13; ((with_reducible refine (p_bad HTB.out _ M _ _ HLC.out (by omega) (by omega) ((hrc.fr h3).take M)).mono ?_); rintro e w4 ⟨rfl, hb4⟩))
  have h4 := h3.below hb4
  have Pa := (hb4.block _ (lt_heap Pa)).trans Pa
  have hpa := hpa.below hb4 hb4.size
  have Pb := heap_alloc_new w4 (.cells #[.slice none 0 0, .slice none 0 0] 35)
  have e6 : Below w4.heap.size w4 (w4.alloc (.cells #[.slice none 0 0, .slice none 0 0] 35)) := (Below.refl _ _).alloc (Nat.le_refl _) _
  have h4 := h4.below e6
  have Pa := (e6.block _ (lt_heap Pa)).trans Pa
  have hpa := hpa.below e6 e6.size
  obtain ⟨nb, hnb⟩ : ∃ n, w4.heap.size = n := ⟨_, rfl⟩
  rw [hnb] at Pb ⊢
  obtain ⟨u4, hu⟩ : ∃ u, w4.alloc (.cells #[.slice none 0 0, .slice none 0 0] 35) = u := ⟨_, rfl⟩
  rw [hu] at h4 Pa Pb hpa ⊢
  clear hu e6 hb4
  have HRA := Lib.hid ((hr.fr h4).take N)
  have HRC := Lib.hid (hrc.fr h4)
  have HYL := Lib.hid (yL_len HL.out HLC.out)
  have hB0 := bown_new u4
  go_upto_region 7 with (first
    | (at_builtin; refine wp_app (l2 := l.take N) rfl rfl hB0 rfl rfl (HRA.out.fr ((Fr.refl u4).alloc _)) HL.out (by omega) (fun e => HA.out e) (by simp; omega) ?_; intro v1 w8 hB1 hG1)
    | (at_builtin; refine wp_app (l2 := [10]) rfl rfl (hB1.alloc _) rfl rfl (row_new _ [10] _ _ rfl) rfl (by decide) (fun e => by cases e) (by have := HL.out; simp; omega) ?_; intro v2 w9 hB2 hG2)
    | (at_builtin; refine wp_app (l2 := lc.take M) rfl rfl hB2 rfl rfl ((HRC.out.fr hB2.fr).take M) HLC.out (by omega) (fun e => HC.out e) (by have := HL.out; simp; omega) ?_; intro v3 w10 hB3 hG3; obtain ⟨gy, cy, rfl, hcy, hry⟩ := BOwn.rowAt (l := yL (l.take N) (lc.take M)) hB3 HYL.out; have hb3 : Below u4.heap.size u4 w10 := hB3.fr; clear hG1 hG2 hG3)
    | (go_at_call 13; ((with_reducible refine (p_bad HTY.out _ (N + 1 + M) _ _ HYL.out (by omega) (by omega) hry).mono ?_); rintro e w11 ⟨rfl, hb11⟩)))
  have e5 : Below u4.heap.size u4 w11 := hb3.trans (hb11.mono hb3.size)
  have h5 := h4.below e5
  have Pa := (e5.block _ (lt_heap Pa)).trans Pa
  have Pb := (e5.block _ (lt_heap Pb)).trans Pb
  have hpa := hpa.below e5 e5.size
  have Pc := heap_alloc_new w11 (.cells #[.slice none 0 0, .slice none 0 0] 35)
  have e6 : Below w11.heap.size w11 (w11.alloc (.cells #[.slice none 0 0, .slice none 0 0] 35)) := (Below.refl _ _).alloc (Nat.le_refl _) _
  have h5 := h5.below e6
  have Pa := (e6.block _ (lt_heap Pa)).trans Pa
  have Pb := (e6.block _ (lt_heap Pb)).trans Pb
  have hpa := hpa.below e6 e6.size
  obtain ⟨nc, hnc⟩ : ∃ n, w11.heap.size = n := ⟨_, rfl⟩
  rw [hnc] at Pc ⊢
  obtain ⟨u5, hu⟩ : ∃ u, w11.alloc (.cells #[.slice none 0 0, .slice none 0 0] 35) = u := ⟨_, rfl⟩
  rw [hu] at h5 Pa Pb Pc hpa ⊢
  clear hu e6 e5 hb11 hb3 hB3 hB2 hB1 hB0 hry HRA
  have Pa0 := box_cell Pa 0
  have Pa1 := box_cell Pa 1
  have Pb0 := box_cell Pb 0
  have Pb1 := box_cell Pb 1
  have Pc0 := box_cell Pc 0
  have Pc1 := box_cell Pc 1
  simp only [List.getElem?_toArray, List.getElem?_cons_succ, List.getElem?_cons_zero] at Pa0 Pa1 Pb0 Pb1 Pc0 Pc1
  clear Pa0 Pa1 Pb0 Pb1 Pc0 Pc1 hpa
  go_upto_region 12 with fail
  go_upto_region 13 with fail
  have HRW := Lib.hid ((hrc.fr h5).take M)
  go_loop [16] (fun i => ∃ k : Nat, k ≤ M ∧ i = .int .i64 k) (fun i => M - (intOf i).toNat)
  case atStart => exact ⟨0, Nat.zero_le _, rfl⟩
  case round =>
  obtain ⟨k, hk, rfl⟩ := hrel
  have e3 : IntKind.i64.wrap ((k : Int) + 3) = (k : Int) + 3 := IntWalk.i64_in _ (by omega)
  by_cases hlt : k + 3 < M
  · obtain ⟨b, o, rfl, _, _⟩ := HRW.out (by rw [HLC.out]; omega)
    obtain ⟨tx, htx⟩ : ∃ tx, ((lc.take M).drop k).take 4 = tx := ⟨_, rfl⟩
    have hcv := conv4 HRW.out htx (by rw [HLC.out]; omega)
    have e5 : IntKind.i64.wrap ((k : Int) + 4) = (k : Int) + 4 := IntWalk.i64_in _ (by omega)
    have i0 : (k : Int) + 3 < (M : Int) := by omega
    have i1 : (k : Int) ≤ (k : Int) + 4 := by omega
    have i2 : (k : Int) + 4 ≤ (ccap : Int) := by omega
    have i3 : 0 ≤ (k : Int) + 4 := by omega
    have i4 : ((k : Int) + 4).toNat = k + 4 := by omega
    have i5 : ¬ ccap = k := by omega
    have i6 : k + 4 - k = 4 := by omega
    have x1 : ((baT tx).toList == [102, 117, 110, 99]) = decide (tx = [102, 117, 110, 99]) := eq4
    have x2 : ((baT tx).toList == [101, 108, 115, 101]) = decide (tx = [101, 108, 115, 101]) := eq4
    have hf : ¬ tx = [102, 117, 110, 99] := fun h => HF.out ⟨k, hlt, .inl (htx.trans h)⟩
    have he : ¬ tx = [101, 108, 115, 101] := fun h => HF.out ⟨k, hlt, .inr (htx.trans h)⟩
    rw [decide_eq_false hf] at x1
    rw [decide_eq_false he] at x2
    clear hf he htx
    go_wp2
    go_round
    case rel => exact ⟨k + 1, by omega, by go_num⟩
    case measure => simp [intOf]; omega
  · have hki : ¬ (k : Int) + 3 < (M : Int) := by omega
    go_wp2
    go_ret
    exact ⟨rfl, h5⟩

theorem rows_walk (A : Option Addr) (n cap : Nat) (l : List UInt8) (C : Option Addr) (cn ccap : Nat) (lc : List UInt8) (w : World) (hn : l.length = n) (hcap : n ≤ cap) (hm : cap ≤ 9223372036854775807) (hr : Row w A l) (hA : A = none → cap = 0) (hcn : lc.length = cn) (hccap : cn ≤ ccap) (hcm : ccap ≤ 9223372036854775807) (hrc : Row w C lc) (hC : C = none → ccap = 0) :
    Calls Try.prog 10 #[.slice A n cap, .slice C cn ccap] w fun e w' => e = .returned (.bool true) ∧ Fr w w' := by
  obtain ⟨N, hN⟩ : ∃ N, N = min n 2000 := ⟨_, rfl⟩
  obtain ⟨M, hM⟩ : ∃ M, M = min cn 2000 := ⟨_, rfl⟩
  cases ha : tl (l.take N) with
  | out => exact absurd ha (tl_ne _)
  | bad p c => exact rows_a A C n cap cn ccap N M l lc w hn hcap hm hr hA hcn hccap hcm hrc hC hN hM p c ha
  | ok q r =>
    cases hb : tl (lc.take M) with
    | out => exact absurd hb (tl_ne _)
    | ok q' r' =>
      by_cases hf : q'.fs = []
      · exact rows_y A C n cap cn ccap N M l lc w hn hcap hm hr hA hcn hccap hcm hrc hC hN hM q q' r r' ha hb hf
      · exact rows_f A C n cap cn ccap N M l lc w hn hcap hm hr hA hcn hccap hcm hrc hC hN hM q q' r r' ha hb (List.length_pos_iff.2 hf)
    | bad p c =>
      by_cases hx : ∃ i, i + 3 < M ∧ (isF (lc.take M) i ∨ isE (lc.take M) i)
      · exact rows_x A C n cap cn ccap N M l lc w hn hcap hm hr hA hcn hccap hcm hrc hC hN hM q r p c ha hb hx
      · exact rows_w A C n cap cn ccap N M l lc w hn hcap hm hr hA hcn hccap hcm hrc hC hN hM q r p c ha hb hx
end Go.Proofs.Ytmpdnikabkandaa
