/-
  ParseBlanks: the walk.
-/
import Derived.Test.YtmpdnikabkandaaPq5
import Derived.Test.YtmpdnikabkandaaPdGm
namespace Go.Proofs.Ytmpdnikabkandaa
open Go Go.RowKit Go.Lib

set_option maxHeartbeats 4000000 in
set_option maxRecDepth 100000 in
theorem blanks_no (A : Option Addr) (n cap : Nat) (l : List UInt8) (y : UInt8) (N p : Nat) (w : World) (hn : l.length = n) (hcap : n ≤ cap) (_hm : cap ≤ 9223372036854775807) (hr : Row w A l) (hN : N = min n 4000) (hp : lexS 0 (l.take N) = .bad p) :
    Calls Try.prog 3 #[.slice A n cap, .int .u8 (bv y)] w fun e w' => e = .returned (.bool true) ∧ Fr w w' := by
  have hfr := Fr.refl w
  have HS := Lib.hid (shown4_fr w w hfr)
  have HN := Lib.hid hN
  have hN1 : N ≤ 4000 := by omega
  have hN2 : N ≤ n := by omega
  have HL := Lib.hid (show (l.take N).length = N by rw [List.length_take]; omega)
  have HP := Lib.hid hp
  clear hn hN hp
  go_enter Try.func3, Try.ntmps3
  go_upto_region 2 with (go_at_call 11; ((with_reducible refine HS.out.mono ?_); rintro e w1 ⟨rfl, h1⟩))
  go_cut [0] (fun s wx => s = .slice A N cap ∧ wx = w1)
  case first =>
    go_wp2_with fail
    all_goals (go_meet; exact ⟨by have := HN.out; congr 1; omega, rfl⟩)
  case rest =>
  obtain ⟨rfl, rfl⟩ := hcut
  go_wp2_with (go_at_call 12; ((with_reducible refine (lex_no _ N _ (l.take N) p _ HL.out (by omega) (by omega) ((hr.fr h1).take N) HP.out).mono ?_); rintro e w2 ⟨rfl, hb2⟩))
  go_ret
  exact ⟨rfl, h1.below hb2⟩

set_option maxHeartbeats 4000000 in
set_option maxRecDepth 100000 in
theorem blanks_y (A : Option Addr) (n cap : Nat) (l : List UInt8) (y : UInt8) (N k0 j : Nat) (ts : List Tok) (w : World) (hn : l.length = n) (hcap : n ≤ cap) (_hm : cap ≤ 9223372036854775807) (hr : Row w A l) (hN : N = min n 4000) (hk5 : k0 < 5) (hy : (bv y).tmod 5 = (k0 : Int)) (hp : lexS 0 (l.take N) = .ok ts) (hmt : ts.length = j) (q : Pg) (r : List Tok) (ht : tl (l.take N) = .ok q r) :
    Calls Try.prog 3 #[.slice A n cap, .int .u8 (bv y)] w fun e w' => e = .returned (.bool true) ∧ Fr w w' := by
  have hfr := Fr.refl w
  have HS := Lib.hid (shown4_fr w w hfr)
  have HN := Lib.hid hN
  have hN1 : N ≤ 4000 := by omega
  have hN2 : N ≤ n := by omega
  have HL := Lib.hid (show (l.take N).length = N by rw [List.length_take]; omega)
  have HP := Lib.hid hp
  have HT := Lib.hid ht
  have HM := Lib.hid (show ts.length + 1 = j + 1 by omega)
  obtain ⟨z, hz⟩ : ∃ z, sepL k0 = z := ⟨_, rfl⟩
  have HC := Lib.hid (fun w => (sep_cell w hk5).trans (by rw [hz]))
  obtain ⟨hzs, hz4⟩ := sep_is hk5
  rw [hz] at hzs hz4
  have HJ := Lib.hid (fun k => show (joinS z ((fin ts N).take k)).length ≤ 20004 by have := joinS_size (n := N) hp HL.out hz4 k; omega)
  have hj4 : j ≤ 4000 := by have := toks_le N 0 _ ts (by rw [HL.out]; omega) hp; rw [HL.out] at this; omega
  obtain ⟨r', hq⟩ := blanks_ok (n := N) hzs hp ht
  have HQ := Lib.hid hq
  clear hq
  have HZ4 := Lib.hid hz4
  have k5 : (k0 : Int) < 5 := by omega
  clear hn hN hp ht hmt hzs hz4 hz hk5
  go_enter Try.func3, Try.ntmps3
  go_upto_region 2 with (go_at_call 11; ((with_reducible refine HS.out.mono ?_); rintro e w1 ⟨rfl, h1⟩))
  go_cut [0] (fun s wx => s = .slice A N cap ∧ wx = w1)
  case first =>
    go_wp2_with fail
    all_goals (go_meet; exact ⟨by have := HN.out; congr 1; omega, rfl⟩)
  case rest =>
  obtain ⟨rfl, rfl⟩ := hcut
  go_upto_region 4 with (go_at_call 12; ((with_reducible refine (lex_ok _ N _ (j + 1) (l.take N) ts _ HL.out (by omega) (by omega) ((hr.fr h1).take N) HP.out HM.out).mono ?_); rintro e w2 ⟨g, c1', rfl, hg, hc1, ht1, hb2⟩; have h2 := h1.below hb2))
  have hC1 := HC.out w2
  go_upto_region 10 with fail
  have h3 := h2.alloc OS
  have ht1 := ht1.past ((Fr.refl w2).alloc OS)
  obtain ⟨w3, hw3⟩ : ∃ w3, w2.alloc OS = w3 := ⟨_, rfl⟩
  rw [hw3] at h3 ht1 ⊢
  clear hw3 hC1
  go_loopw [10, 11, 12] (fun t a i wr => ∃ k : Nat, k ≤ j + 1 ∧ t = .string (baT (joinS z ((fin ts N).take k))) ∧ i = .int .i64 k ∧ IOwn w3 wr a (posL z (fin ts N) k)) (fun _ _ i _ => j + 1 - (intOf i).toNat)
  case atStart => exact ⟨0, Nat.zero_le _, rfl, rfl, iown_nil w3⟩
  case round =>
  obtain ⟨k, hk, rfl, rfl, hB⟩ := hrel
  by_cases hlt : k < j + 1
  · have hkl : k < (fin ts N).length := by rw [fin_length]; have := HM.out; omega
    obtain ⟨t, ht⟩ : ∃ t, (fin ts N)[k]? = some t := ⟨_, List.getElem?_eq_getElem hkl⟩
    have HTK := Lib.hid (fun (wx : World) (f : Fr w3 wx) => ((ht1.past f).2 k t ht).2.1)
    have HS1 := Lib.hid (joinS_snoc (z := z) ht)
    have e1 := HJ.out k
    have e2 := HJ.out (k + 1)
    rw [HS1.out] at e2
    simp only [List.length_append] at e2
    have b1 : ¬ 9223372036854775807 < (baT (joinS z ((fin ts N).take k))).size + (baT t.text).size := by rw [baT_size, baT_size]; omega
    have b2 : ¬ 9223372036854775807 < (baT (joinS z ((fin ts N).take k))).size + (baT t.text).size + (baT z).size := by rw [baT_size, baT_size, baT_size]; omega
    have kl : (posL z (fin ts N) k).length ≤ 100000 := by rw [posL_len]; omega
    have hki : (k : Int) < ((j + 1 : Nat) : Int) := by omega
    clear e1 e2 ht hkl
    go_upto_region 13 with (at_builtin; refine wp_app_int (y := ((baT (joinS z ((fin ts N).take k))).size : Int)) rfl rfl (hB.alloc _) rfl rfl (int_cell _ _) kl ?_; intro v1 w4 hB1 hG1)
    have y1 := HTK.out w4 hB1.fr
    go_wp2
    go_roundw
    case rel => exact ⟨k + 1, by omega, by rw [HS1.out, ← baT_app, ← baT_app]; rfl, by go_num, by rw [posL_succ, ← baT_size]; exact hB1⟩
    case measure => simp [intOf]; omega
  · have ek : k = j + 1 := by omega
    subst ek
    have e0 : (fin ts N).take (j + 1) = fin ts N := List.take_of_length_le (by rw [fin_length]; have := HM.out; omega)
    rw [e0]
    have hX := HJ.out (j + 1)
    rw [e0] at hX
    have hat := hB.at_ (by rw [posL_len]; omega)
    rw [posL_len] at hat
    obtain ⟨ga, ca, rfl, hga1, hga2, hca, hat⟩ := hat
    have h5 : Fr w wr := h3.below hB.fr
    have ht5 := ht1.past hB.fr
    obtain ⟨T, hT⟩ : ∃ T, joinS z (fin ts N) = T := ⟨_, rfl⟩
    have HAT := Lib.hid (fun (wx : World) (f : Fr wr wx) (i : Nat) (hi : i < j + 1) => (f.cell (p := ⟨ga, i, none⟩) hga2).trans (hat i _ (posL_at hi)))
    have HTK := Lib.hid (fun (wx : World) (f : Fr wr wx) (i : Nat) (t : Tok) (hi : (fin ts N)[i]? = some t) => ((ht5.past f).2 i t hi).2.2)
    rw [hT] at hX HQ ⊢
    have d1 : decide ((65536 : Int) < ((baT T).size : Int)) = false := decide_eq_false (by rw [baT_size]; omega)
    have HTS := Lib.hid (show (baT T).size ≤ 65536 by rw [baT_size]; omega)
    have HTL := Lib.hid hT
    clear hat hB hT hX e0 ht1 h3 h2 hb2 hk hlt hc1 hg
    have HQQ := Lib.hid (fun w => q_ok (s := baT T) (show tl (baT T).data.toList = _ from HQ.out) (baT T).size rfl HTS.out w)
    go_upto_region 17 with (go_at_call 13; ((with_reducible refine (p_ok HT.out _ N _ _ HL.out (by omega) (by omega) ((hr.fr h5).take N)).mono ?_); rintro e w5 ⟨⟨v, rfl, hv⟩, e5⟩; obtain ⟨Af, cf, Am, cm, rfl, hvf, hvm⟩ := hv.pgv))
    have hp : PgV w5.heap.size w5 (.agg #[.slice Af q.fs.length cf, .slice Am q.m.len cm]) q := ⟨Af, cf, Am, cm, rfl, hvf, hvm⟩
    clear hv hvf hvm
    have kb := run_bs
    have F5 : Fr wr w5 := e5
    have Pn := heap_alloc_new w5 (.cells #[.slice Af q.fs.length cf, .slice Am q.m.len cm] 35)
    have e6 : Below w5.heap.size w5 (w5.alloc (.cells #[.slice Af q.fs.length cf, .slice Am q.m.len cm] 35)) := (Below.refl _ _).alloc (Nat.le_refl _) _
    have F5 := F5.below e6
    have hp := hp.below e6 e6.size
    obtain ⟨n5, hn5⟩ : ∃ n, w5.heap.size = n := ⟨_, rfl⟩
    rw [hn5] at Pn ⊢
    obtain ⟨u5, hu⟩ : ∃ u, w5.alloc (.cells #[.slice Af q.fs.length cf, .slice Am q.m.len cm] 35) = u := ⟨_, rfl⟩
    rw [hu] at F5 Pn hp ⊢
    clear hu e6 e5
    go_upto_region 18 with (go_at_call 13; ((with_reducible refine (HQQ.out _).mono ?_); rintro e w6 ⟨⟨v, rfl, hv⟩, e6⟩; obtain ⟨Ag, cg, An, cn, rfl, hvf, hvm⟩ := hv.pgv))
    have hp2 : PgV w6.heap.size w6 (.agg #[.slice Ag q.fs.length cg, .slice An q.m.len cn]) q := ⟨Ag, cg, An, cn, rfl, hvf, hvm⟩
    clear hv hvf hvm
    have F5 := F5.below e6
    have hp := hp.below e6 e6.size
    have Pn := (e6.block _ (lt_heap Pn)).trans Pn
    have Pm := heap_alloc_new w6 (.cells #[.slice Ag q.fs.length cg, .slice An q.m.len cn] 35)
    have e7 : Below w6.heap.size w6 (w6.alloc (.cells #[.slice Ag q.fs.length cg, .slice An q.m.len cn] 35)) := (Below.refl _ _).alloc (Nat.le_refl _) _
    have F5 := F5.below e7
    have hp := hp.below e7 e7.size
    have hp2 := hp2.below e7 e7.size
    have Pn := (e7.block _ (lt_heap Pn)).trans Pn
    obtain ⟨n6, hn6⟩ : ∃ n, w6.heap.size = n := ⟨_, rfl⟩
    rw [hn6] at Pm ⊢
    obtain ⟨u6, hu⟩ : ∃ u, w6.alloc (.cells #[.slice Ag q.fs.length cg, .slice An q.m.len cn] 35) = u := ⟨_, rfl⟩
    rw [hu] at F5 Pn Pm hp hp2 ⊢
    clear hu e7 e6
    have Pn0 := box_cell Pn 0
    have Pn1 := box_cell Pn 1
    have Pm0 := box_cell Pm 0
    have Pm1 := box_cell Pm 1
    simp only [List.getElem?_toArray, List.getElem?_cons_succ, List.getElem?_cons_zero] at Pn0 Pn1 Pm0 Pm1
    have HE := Lib.hid (show Calls Try.prog 14 #[.agg #[.slice Af q.fs.length cf, .slice Am q.m.len cm], .agg #[.slice Ag q.fs.length cg, .slice An q.m.len cn]] u6 (fun e w' => e = .returned (.bool true) ∧ Below u6.heap.size u6 w') from (equal_any _ _ q q u6 _ (Nat.le_refl _) hp hp2).mono fun e w' he => ⟨he.1.trans (by rw [(eqG_iff _ _).2 rfl]), he.2⟩)
    clear hp hp2
    go_upto_region 19 with (go_at_call 14; ((with_reducible refine HE.out.mono ?_); rintro e w7 ⟨rfl, e7⟩))
    have F7 := F5.below e7
    have hW : Fr w w7 := h5.below F7
    clear Pn Pm Pn0 Pn1 Pm0 Pm1 e7 F5
    go_loop [19] (fun i => ∃ k : Nat, k ≤ j ∧ i = .int .i64 k) (fun i => j - (intOf i).toNat)
    case atStart => exact ⟨0, Nat.zero_le _, rfl⟩
    case round =>
    obtain ⟨k, hk, rfl⟩ := hrel
    by_cases hlt : k < j
    · have hkl : k < ts.length := by have := HM.out; omega
      obtain ⟨t, ht⟩ : ∃ t, ts[k]? = some t := ⟨_, List.getElem?_eq_getElem hkl⟩
      have y1 := HTK.out w7 F7 k t (by unfold fin; rw [List.getElem?_append_left hkl]; exact ht)
      have hki : (k : Int) < (j : Int) := by omega
      clear ht hkl
      by_cases h0 : t.at_ = 0
      · have a1 : ((t.at_ : Int) == 0) = true := by rw [beq_iff_eq]; omega
        have a2 : (t.at_ : Int) = 0 := by omega
        clear h0
        go_wp2
        go_round
        case rel => exact ⟨k + 1, by omega, by go_num⟩
        case measure => simp [intOf]; omega
      · have a1 : ((t.at_ : Int) == 0) = false := by rw [beq_eq_false_iff_ne]; omega
        have a2 : ¬ (t.at_ : Int) = 0 := by omega
        clear h0
        go_wp2
        go_round
        case rel => exact ⟨k + 1, by omega, by go_num⟩
        case measure => simp [intOf]; omega
    · obtain rfl : k = j := by omega
      go_wp2
      go_ret
      exact ⟨rfl, hW⟩

set_option maxHeartbeats 4000000 in
set_option maxRecDepth 100000 in
theorem blanks_n (A : Option Addr) (n cap : Nat) (l : List UInt8) (y : UInt8) (N k0 j : Nat) (ts : List Tok) (w : World) (hn : l.length = n) (hcap : n ≤ cap) (_hm : cap ≤ 9223372036854775807) (hr : Row w A l) (hN : N = min n 4000) (hk5 : k0 < 5) (hy : (bv y).tmod 5 = (k0 : Int)) (hp : lexS 0 (l.take N) = .ok ts) (hmt : ts.length = j) (p c : Nat) (ht : tl (l.take N) = .bad p c) :
    Calls Try.prog 3 #[.slice A n cap, .int .u8 (bv y)] w fun e w' => e = .returned (.bool true) ∧ Fr w w' := by
  have hfr := Fr.refl w
  have HS := Lib.hid (shown4_fr w w hfr)
  have HN := Lib.hid hN
  have hN1 : N ≤ 4000 := by omega
  have hN2 : N ≤ n := by omega
  have HL := Lib.hid (show (l.take N).length = N by rw [List.length_take]; omega)
  have HP := Lib.hid hp
  have HT := Lib.hid ht
  have HM := Lib.hid (show ts.length + 1 = j + 1 by omega)
  obtain ⟨z, hz⟩ : ∃ z, sepL k0 = z := ⟨_, rfl⟩
  have HC := Lib.hid (fun w => (sep_cell w hk5).trans (by rw [hz]))
  obtain ⟨hzs, hz4⟩ := sep_is hk5
  rw [hz] at hzs hz4
  have HJ := Lib.hid (fun k => show (joinS z ((fin ts N).take k)).length ≤ 20004 by have := joinS_size (n := N) hp HL.out hz4 k; omega)
  have hj4 : j ≤ 4000 := by have := toks_le N 0 _ ts (by rw [HL.out]; omega) hp; rw [HL.out] at this; omega
  obtain ⟨q, hq, hqs, hq1, hq2⟩ := blanks_bad (n := N) hzs hp ht
  have HQ := Lib.hid hq
  have HQ1 := Lib.hid hq1
  have HQ2 := Lib.hid hq2
  have hc0 := (tl_code ht).2
  have c1 : ((c : Int) == 0) = false := by rw [beq_eq_false_iff_ne]; omega
  have c2 : ((c : Int) != 0) = true := by simp; omega
  have c3 : ¬ (c : Int) = 0 := by omega
  clear hq hqs hq1 hq2 hc0
  have HZ4 := Lib.hid hz4
  have k5 : (k0 : Int) < 5 := by omega
  clear hn hN hp ht hmt hzs hz4 hz hk5
  go_enter Try.func3, Try.ntmps3
  go_upto_region 2 with (go_at_call 11; ((with_reducible refine HS.out.mono ?_); rintro e w1 ⟨rfl, h1⟩))
  go_cut [0] (fun s wx => s = .slice A N cap ∧ wx = w1)
  case first =>
    go_wp2_with fail
    all_goals (go_meet; exact ⟨by have := HN.out; congr 1; omega, rfl⟩)
  case rest =>
  obtain ⟨rfl, rfl⟩ := hcut
  go_upto_region 4 with (go_at_call 12; ((with_reducible refine (lex_ok _ N _ (j + 1) (l.take N) ts _ HL.out (by omega) (by omega) ((hr.fr h1).take N) HP.out HM.out).mono ?_); rintro e w2 ⟨g, c1', rfl, hg, hc1, ht1, hb2⟩; have h2 := h1.below hb2))
  have hC1 := HC.out w2
  go_upto_region 10 with fail
  have h3 := h2.alloc OS
  have ht1 := ht1.past ((Fr.refl w2).alloc OS)
  obtain ⟨w3, hw3⟩ : ∃ w3, w2.alloc OS = w3 := ⟨_, rfl⟩
  rw [hw3] at h3 ht1 ⊢
  clear hw3 hC1
  go_loopw [10, 11, 12] (fun t a i wr => ∃ k : Nat, k ≤ j + 1 ∧ t = .string (baT (joinS z ((fin ts N).take k))) ∧ i = .int .i64 k ∧ IOwn w3 wr a (posL z (fin ts N) k)) (fun _ _ i _ => j + 1 - (intOf i).toNat)
  case atStart => exact ⟨0, Nat.zero_le _, rfl, rfl, iown_nil w3⟩
  case round =>
  obtain ⟨k, hk, rfl, rfl, hB⟩ := hrel
  by_cases hlt : k < j + 1
  · have hkl : k < (fin ts N).length := by rw [fin_length]; have := HM.out; omega
    obtain ⟨t, ht⟩ : ∃ t, (fin ts N)[k]? = some t := ⟨_, List.getElem?_eq_getElem hkl⟩
    have HTK := Lib.hid (fun (wx : World) (f : Fr w3 wx) => ((ht1.past f).2 k t ht).2.1)
    have HS1 := Lib.hid (joinS_snoc (z := z) ht)
    have e1 := HJ.out k
    have e2 := HJ.out (k + 1)
    rw [HS1.out] at e2
    simp only [List.length_append] at e2
    have b1 : ¬ 9223372036854775807 < (baT (joinS z ((fin ts N).take k))).size + (baT t.text).size := by rw [baT_size, baT_size]; omega
    have b2 : ¬ 9223372036854775807 < (baT (joinS z ((fin ts N).take k))).size + (baT t.text).size + (baT z).size := by rw [baT_size, baT_size, baT_size]; omega
    have kl : (posL z (fin ts N) k).length ≤ 100000 := by rw [posL_len]; omega
    have hki : (k : Int) < ((j + 1 : Nat) : Int) := by omega
    clear e1 e2 ht hkl
    go_upto_region 13 with (at_builtin; refine wp_app_int (y := ((baT (joinS z ((fin ts N).take k))).size : Int)) rfl rfl (hB.alloc _) rfl rfl (int_cell _ _) kl ?_; intro v1 w4 hB1 hG1)
    have y1 := HTK.out w4 hB1.fr
    go_wp2
    go_roundw
    case rel => exact ⟨k + 1, by omega, by rw [HS1.out, ← baT_app, ← baT_app]; rfl, by go_num, by rw [posL_succ, ← baT_size]; exact hB1⟩
    case measure => simp [intOf]; omega
  · have ek : k = j + 1 := by omega
    subst ek
    have e0 : (fin ts N).take (j + 1) = fin ts N := List.take_of_length_le (by rw [fin_length]; have := HM.out; omega)
    rw [e0]
    have hX := HJ.out (j + 1)
    rw [e0] at hX
    have hat := hB.at_ (by rw [posL_len]; omega)
    rw [posL_len] at hat
    obtain ⟨ga, ca, rfl, hga1, hga2, hca, hat⟩ := hat
    have h5 : Fr w wr := h3.below hB.fr
    have ht5 := ht1.past hB.fr
    obtain ⟨T, hT⟩ : ∃ T, joinS z (fin ts N) = T := ⟨_, rfl⟩
    have HAT := Lib.hid (fun (wx : World) (f : Fr wr wx) (i : Nat) (hi : i < j + 1) => (f.cell (p := ⟨ga, i, none⟩) hga2).trans (hat i _ (posL_at hi)))
    have HTK := Lib.hid (fun (wx : World) (f : Fr wr wx) (i : Nat) (t : Tok) (hi : (fin ts N)[i]? = some t) => ((ht5.past f).2 i t hi).2.2)
    rw [hT] at hX HQ HQ2 ⊢
    have d1 : decide ((65536 : Int) < ((baT T).size : Int)) = false := decide_eq_false (by rw [baT_size]; omega)
    have HTS := Lib.hid (show (baT T).size ≤ 65536 by rw [baT_size]; omega)
    have HTL := Lib.hid hT
    clear hat hB hT hX e0 ht1 h3 h2 hb2 hk hlt hc1 hg
    have HQQ := Lib.hid (fun w => q_bad (s := baT T) (show tl (baT T).data.toList = _ from HQ.out) (baT T).size rfl HTS.out w)
    go_upto_region 17 with (go_at_call 13; ((with_reducible refine (p_bad HT.out _ N _ _ HL.out (by omega) (by omega) ((hr.fr h5).take N)).mono ?_); rintro e w5 ⟨rfl, e5⟩))
    have hp := pgv_nil w5.heap.size w5
    have kb := run_bs
    have F5 : Fr wr w5 := e5
    have Pn := heap_alloc_new w5 (.cells #[.slice none 0 0, .slice none 0 0] 35)
    have e6 : Below w5.heap.size w5 (w5.alloc (.cells #[.slice none 0 0, .slice none 0 0] 35)) := (Below.refl _ _).alloc (Nat.le_refl _) _
    have F5 := F5.below e6
    have hp := hp.below e6 e6.size
    obtain ⟨n5, hn5⟩ : ∃ n, w5.heap.size = n := ⟨_, rfl⟩
    rw [hn5] at Pn ⊢
    obtain ⟨u5, hu⟩ : ∃ u, w5.alloc (.cells #[.slice none 0 0, .slice none 0 0] 35) = u := ⟨_, rfl⟩
    rw [hu] at F5 Pn hp ⊢
    clear hu e6 e5
    go_upto_region 18 with (go_at_call 13; ((with_reducible refine (HQQ.out _).mono ?_); rintro e w6 ⟨rfl, e6⟩))
    have hp2 := pgv_nil w6.heap.size w6
    have F5 := F5.below e6
    have hp := hp.below e6 e6.size
    have Pn := (e6.block _ (lt_heap Pn)).trans Pn
    have Pm := heap_alloc_new w6 (.cells #[.slice none 0 0, .slice none 0 0] 35)
    have e7 : Below w6.heap.size w6 (w6.alloc (.cells #[.slice none 0 0, .slice none 0 0] 35)) := (Below.refl _ _).alloc (Nat.le_refl _) _
    have F5 := F5.below e7
    have hp := hp.below e7 e7.size
    have hp2 := hp2.below e7 e7.size
    have Pn := (e7.block _ (lt_heap Pn)).trans Pn
    obtain ⟨n6, hn6⟩ : ∃ n, w6.heap.size = n := ⟨_, rfl⟩
    rw [hn6] at Pm ⊢
    obtain ⟨u6, hu⟩ : ∃ u, w6.alloc (.cells #[.slice none 0 0, .slice none 0 0] 35) = u := ⟨_, rfl⟩
    rw [hu] at F5 Pn Pm hp hp2 ⊢
    clear hu e7 e6
    have Pn0 := box_cell Pn 0
    have Pn1 := box_cell Pn 1
    have Pm0 := box_cell Pm 0
    have Pm1 := box_cell Pm 1
    simp only [List.getElem?_toArray, List.getElem?_cons_succ, List.getElem?_cons_zero] at Pn0 Pn1 Pm0 Pm1
    have HE := Lib.hid (show Calls Try.prog 14 #[.agg #[.slice none 0 0, .slice none 0 0], .agg #[.slice none 0 0, .slice none 0 0]] u6 (fun e w' => e = .returned (.bool true) ∧ Below u6.heap.size u6 w') from (equal_any _ _ ⟨[], .nil⟩ ⟨[], .nil⟩ u6 _ (Nat.le_refl _) hp hp2).mono fun e w' he => ⟨he.1.trans (by rw [(eqG_iff _ _).2 rfl]), he.2⟩)
    clear hp hp2
    go_upto_region 19 with (go_at_call 14; ((with_reducible refine HE.out.mono ?_); rintro e w7 ⟨rfl, e7⟩))
    have F7 := F5.below e7
    have hW : Fr w w7 := h5.below F7
    clear Pn Pm Pn0 Pn1 Pm0 Pm1 e7 F5
    go_loop [19] (fun i => ∃ k : Nat, k ≤ j ∧ i = .int .i64 k ∧ ∀ (i' : Nat) (t : Tok), i' < k → ts[i']? = some t → t.at_ ≠ p) (fun i => j - (intOf i).toNat)
    case atStart => exact ⟨0, Nat.zero_le _, rfl, fun i' t h => absurd h (by omega)⟩
    case round =>
    obtain ⟨k, hk, rfl, hno⟩ := hrel
    by_cases hlt : k < j
    · have hkl : k < ts.length := by have := HM.out; omega
      obtain ⟨t, ht⟩ : ∃ t, ts[k]? = some t := ⟨_, List.getElem?_eq_getElem hkl⟩
      have y1 := HTK.out w7 F7 k t (by unfold fin; rw [List.getElem?_append_left hkl]; exact ht)
      have hki : (k : Int) < (j : Int) := by omega
      by_cases h0 : t.at_ = p
      · have hq := HQ1.out k t ht h0
        have y2 := HAT.out w7 F7 k (by omega)
        rw [← hq] at y2
        rw [h0] at y1
        have hki2 : (k : Int) < ((j + 1 : Nat) : Int) := by omega
        clear hq h0 ht hkl hno
        go_wp2
        go_ret
        exact ⟨rfl, hW⟩
      · have a1 : ((t.at_ : Int) == (p : Int)) = false := by rw [beq_eq_false_iff_ne]; omega
        have a2 : ¬ (t.at_ : Int) = (p : Int) := by omega
        have HNO := Lib.hid (show ∀ (i' : Nat) (t : Tok), i' < k + 1 → ts[i']? = some t → t.at_ ≠ p from fun i' t' hi ht' => by
          by_cases e : i' = k
          · subst e
            rw [ht] at ht'
            injection ht' with ht'
            rw [← ht']; exact h0
          · exact hno i' t' (by omega) ht')
        clear h0 ht hkl hno
        go_wp2
        go_round
        case rel => exact ⟨k + 1, by omega, by go_num, HNO.out⟩
        case measure => simp [intOf]; omega
    · obtain rfl : k = j := by omega
      have hE := HQ2.out (fun i t ht => hno i t (by have := (List.getElem?_eq_some_iff.1 ht).1; have := HM.out; omega) ht)
      obtain ⟨hp1, hq1⟩ := hE
      rw [HL.out] at hp1
      have hq1 : q = (baT T).size := by rw [baT_size]; exact hq1
      rw [hp1, hq1]
      clear hp1 hq1 hno hlt
      go_wp2
      go_ret
      exact ⟨rfl, hW⟩

theorem blanks_walk (A : Option Addr) (n cap : Nat) (l : List UInt8) (y : UInt8) (w : World) (hn : l.length = n) (hcap : n ≤ cap) (hm : cap ≤ 9223372036854775807) (hr : Row w A l) :
    Calls Try.prog 3 #[.slice A n cap, .int .u8 (bv y)] w fun e w' => e = .returned (.bool true) ∧ Fr w w' := by
  obtain ⟨N, hN⟩ : ∃ N, N = min n 4000 := ⟨_, rfl⟩
  have hy0 : 0 ≤ bv y := by unfold bv; omega
  obtain ⟨k, hk⟩ : ∃ k : Nat, bv y % 5 = (k : Int) := ⟨(bv y % 5).toNat, by omega⟩
  have hk' : (bv y).tmod 5 = (k : Int) := by rw [Int.tmod_eq_emod_of_nonneg hy0]; exact hk
  have k5 : k < 5 := by omega
  cases hp : lexS 0 (l.take N) with
  | bad p => exact blanks_no A n cap l y N p w hn hcap hm hr hN hp
  | ok ts =>
    cases ht : tl (l.take N) with
    | out => exact absurd ht (tl_ne _)
    | ok q r => exact blanks_y A n cap l y N k ts.length ts w hn hcap hm hr hN k5 hk' hp rfl q r ht
    | bad p c => exact blanks_n A n cap l y N k ts.length ts w hn hcap hm hr hN k5 hk' hp rfl p c ht
end Go.Proofs.Ytmpdnikabkandaa
