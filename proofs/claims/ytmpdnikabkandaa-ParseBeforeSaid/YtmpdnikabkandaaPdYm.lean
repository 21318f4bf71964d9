/-
  ParseBefore: the walk, where it is asked again; whole.
-/
import Derived.Test.YtmpdnikabkandaaPq5
import Derived.Test.YtmpdnikabkandaaPdXm
namespace Go.Proofs.Ytmpdnikabkandaa
open Go Go.RowKit Go.Lib
abbrev PB : Obj := .cells #[.slice none 0 0, .slice none 0 0] 35

set_option maxHeartbeats 4000000 in
set_option maxRecDepth 100000 in
theorem before_y1 (A C : Option Addr) (n cap cn ccap N M : Nat) (l lc : List UInt8) (w : World) (hn : l.length = n) (hcap : n ≤ cap) (_hm : cap ≤ 9223372036854775807) (hr : Row w A l) (hA : A = none → cap = 0) (hcn : lc.length = cn) (hccap : cn ≤ ccap) (_hcm : ccap ≤ 9223372036854775807) (hrc : Row w C lc) (hC : C = none → ccap = 0) (hN : N = min n 2000) (hM : M = min cn 500) (ts us : List Tok) (hf : lexS 0 (l.take N) = .ok ts) (hg : lexS 0 (lc.take M) = .ok us) (p : Nat) (ht : tl (l.take N) = .bad p 1) (hp : p ≠ N) :
    Calls Try.prog 4 #[.slice A n cap, .slice C cn ccap] w fun e w' => e = .returned (.bool true) ∧ Fr w w' := by
  have hfr := Fr.refl w
  have HS := Lib.hid (shown4_fr w w hfr)
  have HN := Lib.hid hN
  have HM := Lib.hid hM
  have hN1 : N ≤ 2000 := by omega
  have hN2 : N ≤ n := by omega
  have hM1 : M ≤ 500 := by omega
  have hM2 : M ≤ cn := by omega
  have HL := Lib.hid (show (l.take N).length = N by rw [List.length_take]; omega)
  have HLC := Lib.hid (show (lc.take M).length = M by rw [List.length_take]; omega)
  have HA := Lib.hid hA
  have HC := Lib.hid hC
  have HF := Lib.hid hf
  clear hf
  have HG := Lib.hid hg
  clear hg
  have HY := Lib.hid (show tl (yL (l.take N) (lc.take M)) = .bad p 1 from (congrArg tl (yL_eq _ _)).trans (tl_before HF.out HG.out ht (by rw [HL.out]; exact hp) (by decide)))
  have q1 : ((p : Int) == (N : Int)) = false := by rw [beq_eq_false_iff_ne]; omega
  have q2 : ¬ (p : Int) = (N : Int) := by omega
  have HT := Lib.hid ht
  clear ht
  clear hn hN hM hcn hA hC
  go_enter Try.func4, Try.ntmps4
  go_upto_region 2 with (go_at_call 11; ((with_reducible refine HS.out.mono ?_); rintro e w1 ⟨rfl, h1⟩))
  go_cut [0] (fun s wx => s = .slice A N cap ∧ wx = w1)
  case first =>
    go_wp2_with fail
    all_goals (go_meet; exact ⟨by have := HN.out; congr 1; omega, rfl⟩)
  case rest =>
  obtain ⟨rfl, rfl⟩ := hcut
  go_upto_region 3 with fail
  go_cut [1] (fun s wx => s = .slice C M ccap ∧ wx = wc)
  case first =>
    go_wp2_with fail
    all_goals (go_meet; exact ⟨by have := HM.out; congr 1; omega, rfl⟩)
  case rest =>
  obtain ⟨rfl, rfl⟩ := hcut
  go_upto_region 5 with (go_at_call 12; ((with_reducible refine (lex_ok _ N _ (ts.length + 1) (l.take N) ts _ HL.out (by omega) (by omega) ((hr.fr h1).take N) HF.out rfl).mono ?_); rintro e w2 ⟨g1, c1, rfl, _, _, _, hb2⟩))
  have h2 := h1.below hb2
  go_upto_region 6 with (go_at_call 12; ((with_reducible refine (lex_ok _ M _ (us.length + 1) (lc.take M) us _ HLC.out (by omega) (by omega) ((hrc.fr h2).take M) HG.out rfl).mono ?_); rintro e w3 ⟨g2, c2, rfl, _, _, _, hb3⟩))
  have h3 := h2.below hb3
  go_upto_region 7 with (go_at_call 13; ((with_reducible refine (p_bad HT.out _ N _ _ HL.out (by omega) (by omega) ((hr.fr h3).take N)).mono ?_); rintro e w4 ⟨rfl, hb4⟩))
  have h4 := h3.below hb4
  have F4 := h4.alloc PB
  obtain ⟨w5, hw5⟩ : ∃ w5, w4.alloc PB = w5 := ⟨_, rfl⟩
  rw [hw5] at F4 ⊢
  clear hw5
  have HRA := Lib.hid ((hr.fr F4).take N)
  have HRC := Lib.hid (hrc.fr F4)
  have HYL := Lib.hid (yL_len HL.out HLC.out)
  have hB0 := bown_new w5
  go_wp2_with (first
    | (at_builtin; refine wp_app (l2 := l.take N) rfl rfl hB0 rfl rfl (HRA.out.fr ((Fr.refl w5).alloc _)) HL.out (by omega) (fun e => HA.out e) (by simp; omega) ?_; intro v1 w8 hB1 hG1)
    | (at_builtin; refine wp_app (l2 := [10]) rfl rfl (hB1.alloc _) rfl rfl (row_new _ [10] _ _ rfl) rfl (by decide) (fun e => by cases e) (by have := HL.out; simp; omega) ?_; intro v2 w9 hB2 hG2)
    | (at_builtin; refine wp_app (l2 := lc.take M) rfl rfl hB2 rfl rfl ((HRC.out.fr hB2.fr).take M) HLC.out (by omega) (fun e => HC.out e) (by have := HL.out; simp; omega) ?_; intro v3 w10 hB3 hG3; obtain ⟨gy, cy, rfl, hcy, hry⟩ := BOwn.rowAt (l := yL (l.take N) (lc.take M)) hB3 HYL.out; have hb3 := hB3.fr; clear hG1 hG2 hG3)
    | (go_at_call 13; ((with_reducible refine (p_bad HY.out _ (N + 1 + M) _ _ HYL.out (by omega) (by omega) hry).mono ?_); rintro e w11 ⟨rfl, hb11⟩)))
  go_ret
  exact ⟨rfl, by first | exact (F4.below hb3).below hb11 | exact ((F4.below hb3).below hb11).alloc _⟩


set_option maxHeartbeats 4000000 in
set_option maxRecDepth 100000 in
theorem before_y2 (A C : Option Addr) (n cap cn ccap N M : Nat) (l lc : List UInt8) (w : World) (hn : l.length = n) (hcap : n ≤ cap) (_hm : cap ≤ 9223372036854775807) (hr : Row w A l) (hA : A = none → cap = 0) (hcn : lc.length = cn) (hccap : cn ≤ ccap) (_hcm : ccap ≤ 9223372036854775807) (hrc : Row w C lc) (hC : C = none → ccap = 0) (hN : N = min n 2000) (hM : M = min cn 500) (ts us : List Tok) (hf : lexS 0 (l.take N) = .ok ts) (hg : lexS 0 (lc.take M) = .ok us) (p : Nat) (ht : tl (l.take N) = .bad p 2) (hp : p ≠ N) :
    Calls Try.prog 4 #[.slice A n cap, .slice C cn ccap] w fun e w' => e = .returned (.bool true) ∧ Fr w w' := by
  have hfr := Fr.refl w
  have HS := Lib.hid (shown4_fr w w hfr)
  have HN := Lib.hid hN
  have HM := Lib.hid hM
  have hN1 : N ≤ 2000 := by omega
  have hN2 : N ≤ n := by omega
  have hM1 : M ≤ 500 := by omega
  have hM2 : M ≤ cn := by omega
  have HL := Lib.hid (show (l.take N).length = N by rw [List.length_take]; omega)
  have HLC := Lib.hid (show (lc.take M).length = M by rw [List.length_take]; omega)
  have HA := Lib.hid hA
  have HC := Lib.hid hC
  have HF := Lib.hid hf
  clear hf
  have HG := Lib.hid hg
  clear hg
  have HY := Lib.hid (show tl (yL (l.take N) (lc.take M)) = .bad p 2 from (congrArg tl (yL_eq _ _)).trans (tl_before HF.out HG.out ht (by rw [HL.out]; exact hp) (by decide)))
  have q1 : ((p : Int) == (N : Int)) = false := by rw [beq_eq_false_iff_ne]; omega
  have q2 : ¬ (p : Int) = (N : Int) := by omega
  have HT := Lib.hid ht
  clear ht
  clear hn hN hM hcn hA hC
  go_enter Try.func4, Try.ntmps4
  go_upto_region 2 with (go_at_call 11; ((with_reducible refine HS.out.mono ?_); rintro e w1 ⟨rfl, h1⟩))
  go_cut [0] (fun s wx => s = .slice A N cap ∧ wx = w1)
  case first =>
    go_wp2_with fail
    all_goals (go_meet; exact ⟨by have := HN.out; congr 1; omega, rfl⟩)
  case rest =>
  obtain ⟨rfl, rfl⟩ := hcut
  go_upto_region 3 with fail
  go_cut [1] (fun s wx => s = .slice C M ccap ∧ wx = wc)
  case first =>
    go_wp2_with fail
    all_goals (go_meet; exact ⟨by have := HM.out; congr 1; omega, rfl⟩)
  case rest =>
  obtain ⟨rfl, rfl⟩ := hcut
  go_upto_region 5 with (go_at_call 12; ((with_reducible refine (lex_ok _ N _ (ts.length + 1) (l.take N) ts _ HL.out (by omega) (by omega) ((hr.fr h1).take N) HF.out rfl).mono ?_); rintro e w2 ⟨g1, c1, rfl, _, _, _, hb2⟩))
  have h2 := h1.below hb2
  go_upto_region 6 with (go_at_call 12; ((with_reducible refine (lex_ok _ M _ (us.length + 1) (lc.take M) us _ HLC.out (by omega) (by omega) ((hrc.fr h2).take M) HG.out rfl).mono ?_); rintro e w3 ⟨g2, c2, rfl, _, _, _, hb3⟩))
  have h3 := h2.below hb3
  go_upto_region 7 with (go_at_call 13; ((with_reducible refine (p_bad HT.out _ N _ _ HL.out (by omega) (by omega) ((hr.fr h3).take N)).mono ?_); rintro e w4 ⟨rfl, hb4⟩))
  have h4 := h3.below hb4
  have F4 := h4.alloc PB
  obtain ⟨w5, hw5⟩ : ∃ w5, w4.alloc PB = w5 := ⟨_, rfl⟩
  rw [hw5] at F4 ⊢
  clear hw5
  have HRA := Lib.hid ((hr.fr F4).take N)
  have HRC := Lib.hid (hrc.fr F4)
  have HYL := Lib.hid (yL_len HL.out HLC.out)
  have hB0 := bown_new w5
  go_wp2_with (first
    | (at_builtin; refine wp_app (l2 := l.take N) rfl rfl hB0 rfl rfl (HRA.out.fr ((Fr.refl w5).alloc _)) HL.out (by omega) (fun e => HA.out e) (by simp; omega) ?_; intro v1 w8 hB1 hG1)
    | (at_builtin; refine wp_app (l2 := [10]) rfl rfl (hB1.alloc _) rfl rfl (row_new _ [10] _ _ rfl) rfl (by decide) (fun e => by cases e) (by have := HL.out; simp; omega) ?_; intro v2 w9 hB2 hG2)
    | (at_builtin; refine wp_app (l2 := lc.take M) rfl rfl hB2 rfl rfl ((HRC.out.fr hB2.fr).take M) HLC.out (by omega) (fun e => HC.out e) (by have := HL.out; simp; omega) ?_; intro v3 w10 hB3 hG3; obtain ⟨gy, cy, rfl, hcy, hry⟩ := BOwn.rowAt (l := yL (l.take N) (lc.take M)) hB3 HYL.out; have hb3 := hB3.fr; clear hG1 hG2 hG3)
    | (go_at_call 13; ((with_reducible refine (p_bad HY.out _ (N + 1 + M) _ _ HYL.out (by omega) (by omega) hry).mono ?_); rintro e w11 ⟨rfl, hb11⟩)))
  go_ret
  exact ⟨rfl, by first | exact (F4.below hb3).below hb11 | exact ((F4.below hb3).below hb11).alloc _⟩


set_option maxHeartbeats 4000000 in
set_option maxRecDepth 100000 in
theorem before_y10 (A C : Option Addr) (n cap cn ccap N M : Nat) (l lc : List UInt8) (w : World) (hn : l.length = n) (hcap : n ≤ cap) (_hm : cap ≤ 9223372036854775807) (hr : Row w A l) (hA : A = none → cap = 0) (hcn : lc.length = cn) (hccap : cn ≤ ccap) (_hcm : ccap ≤ 9223372036854775807) (hrc : Row w C lc) (hC : C = none → ccap = 0) (hN : N = min n 2000) (hM : M = min cn 500) (ts us : List Tok) (hf : lexS 0 (l.take N) = .ok ts) (hg : lexS 0 (lc.take M) = .ok us) (p : Nat) (ht : tl (l.take N) = .bad p 10) (hp : p ≠ N) :
    Calls Try.prog 4 #[.slice A n cap, .slice C cn ccap] w fun e w' => e = .returned (.bool true) ∧ Fr w w' := by
  have hfr := Fr.refl w
  have HS := Lib.hid (shown4_fr w w hfr)
  have HN := Lib.hid hN
  have HM := Lib.hid hM
  have hN1 : N ≤ 2000 := by omega
  have hN2 : N ≤ n := by omega
  have hM1 : M ≤ 500 := by omega
  have hM2 : M ≤ cn := by omega
  have HL := Lib.hid (show (l.take N).length = N by rw [List.length_take]; omega)
  have HLC := Lib.hid (show (lc.take M).length = M by rw [List.length_take]; omega)
  have HA := Lib.hid hA
  have HC := Lib.hid hC
  have HF := Lib.hid hf
  clear hf
  have HG := Lib.hid hg
  clear hg
  have HY := Lib.hid (show tl (yL (l.take N) (lc.take M)) = .bad p 10 from (congrArg tl (yL_eq _ _)).trans (tl_before HF.out HG.out ht (by rw [HL.out]; exact hp) (by decide)))
  have q1 : ((p : Int) == (N : Int)) = false := by rw [beq_eq_false_iff_ne]; omega
  have q2 : ¬ (p : Int) = (N : Int) := by omega
  have HT := Lib.hid ht
  clear ht
  clear hn hN hM hcn hA hC
  go_enter Try.func4, Try.ntmps4
  go_upto_region 2 with (go_at_call 11; ((with_reducible refine HS.out.mono ?_); rintro e w1 ⟨rfl, h1⟩))
  go_cut [0] (fun s wx => s = .slice A N cap ∧ wx = w1)
  case first =>
    go_wp2_with fail
    all_goals (go_meet; exact ⟨by have := HN.out; congr 1; omega, rfl⟩)
  case rest =>
  obtain ⟨rfl, rfl⟩ := hcut
  go_upto_region 3 with fail
  go_cut [1] (fun s wx => s = .slice C M ccap ∧ wx = wc)
  case first =>
    go_wp2_with fail
    all_goals (go_meet; exact ⟨by have := HM.out; congr 1; omega, rfl⟩)
  case rest =>
  obtain ⟨rfl, rfl⟩ := hcut
  go_upto_region 5 with (go_at_call 12; ((with_reducible refine (lex_ok _ N _ (ts.length + 1) (l.take N) ts _ HL.out (by omega) (by omega) ((hr.fr h1).take N) HF.out rfl).mono ?_); rintro e w2 ⟨g1, c1, rfl, _, _, _, hb2⟩))
  have h2 := h1.below hb2
  go_upto_region 6 with (go_at_call 12; ((with_reducible refine (lex_ok _ M _ (us.length + 1) (lc.take M) us _ HLC.out (by omega) (by omega) ((hrc.fr h2).take M) HG.out rfl).mono ?_); rintro e w3 ⟨g2, c2, rfl, _, _, _, hb3⟩))
  have h3 := h2.below hb3
  go_upto_region 7 with (go_at_call 13; ((with_reducible refine (p_bad HT.out _ N _ _ HL.out (by omega) (by omega) ((hr.fr h3).take N)).mono ?_); rintro e w4 ⟨rfl, hb4⟩))
  have h4 := h3.below hb4
  have F4 := h4.alloc PB
  obtain ⟨w5, hw5⟩ : ∃ w5, w4.alloc PB = w5 := ⟨_, rfl⟩
  rw [hw5] at F4 ⊢
  clear hw5
  have HRA := Lib.hid ((hr.fr F4).take N)
  have HRC := Lib.hid (hrc.fr F4)
  have HYL := Lib.hid (yL_len HL.out HLC.out)
  have hB0 := bown_new w5
  go_wp2_with (first
    | (at_builtin; refine wp_app (l2 := l.take N) rfl rfl hB0 rfl rfl (HRA.out.fr ((Fr.refl w5).alloc _)) HL.out (by omega) (fun e => HA.out e) (by simp; omega) ?_; intro v1 w8 hB1 hG1)
    | (at_builtin; refine wp_app (l2 := [10]) rfl rfl (hB1.alloc _) rfl rfl (row_new _ [10] _ _ rfl) rfl (by decide) (fun e => by cases e) (by have := HL.out; simp; omega) ?_; intro v2 w9 hB2 hG2)
    | (at_builtin; refine wp_app (l2 := lc.take M) rfl rfl hB2 rfl rfl ((HRC.out.fr hB2.fr).take M) HLC.out (by omega) (fun e => HC.out e) (by have := HL.out; simp; omega) ?_; intro v3 w10 hB3 hG3; obtain ⟨gy, cy, rfl, hcy, hry⟩ := BOwn.rowAt (l := yL (l.take N) (lc.take M)) hB3 HYL.out; have hb3 := hB3.fr; clear hG1 hG2 hG3)
    | (go_at_call 13; ((with_reducible refine (p_bad HY.out _ (N + 1 + M) _ _ HYL.out (by omega) (by omega) hry).mono ?_); rintro e w11 ⟨rfl, hb11⟩)))
  go_ret
  exact ⟨rfl, by first | exact (F4.below hb3).below hb11 | exact ((F4.below hb3).below hb11).alloc _⟩

theorem before_walk (A : Option Addr) (n cap : Nat) (l : List UInt8) (C : Option Addr) (cn ccap : Nat) (lc : List UInt8) (w : World) (hn : l.length = n) (hcap : n ≤ cap) (hm : cap ≤ 9223372036854775807) (hr : Row w A l) (hA : A = none → cap = 0) (hcn : lc.length = cn) (hccap : cn ≤ ccap) (hcm : ccap ≤ 9223372036854775807) (hrc : Row w C lc) (hC : C = none → ccap = 0) :
    Calls Try.prog 4 #[.slice A n cap, .slice C cn ccap] w fun e w' => e = .returned (.bool true) ∧ Fr w w' := by
  obtain ⟨N, hN⟩ : ∃ N, N = min n 2000 := ⟨_, rfl⟩
  obtain ⟨M, hM⟩ : ∃ M, M = min cn 500 := ⟨_, rfl⟩
  cases hf : lexS 0 (l.take N) with
  | bad k1 => exact before_f A C n cap cn ccap N M l lc w hn hcap hm hr hA hcn hccap hcm hrc hC hN hM k1 hf
  | ok ts =>
    cases hg : lexS 0 (lc.take M) with
    | bad k2 => exact before_g A C n cap cn ccap N M l lc w hn hcap hm hr hA hcn hccap hcm hrc hC hN hM ts k2 hf hg
    | ok us =>
      cases ht : tl (l.take N) with
      | out => exact absurd ht (tl_ne _)
      | ok q r => exact before_e A C n cap cn ccap N M l lc w hn hcap hm hr hA hcn hccap hcm hrc hC hN hM ts us hf hg q r ht
      | bad p c =>
        by_cases hp : p = N
        · subst hp
          rcases (tl_code ht).2 with rfl | rfl | rfl | rfl
          · exact before_n1 A C n cap cn ccap _ M l lc w hn hcap hm hr hA hcn hccap hcm hrc hC hN hM ts us hf hg ht
          · exact before_n2 A C n cap cn ccap _ M l lc w hn hcap hm hr hA hcn hccap hcm hrc hC hN hM ts us hf hg ht
          · exact before_d A C n cap cn ccap _ M l lc w hn hcap hm hr hA hcn hccap hcm hrc hC hN hM ts us hf hg _ ht
          · exact before_n10 A C n cap cn ccap _ M l lc w hn hcap hm hr hA hcn hccap hcm hrc hC hN hM ts us hf hg ht
        · rcases (tl_code ht).2 with rfl | rfl | rfl | rfl
          · exact before_y1 A C n cap cn ccap N M l lc w hn hcap hm hr hA hcn hccap hcm hrc hC hN hM ts us hf hg p ht hp
          · exact before_y2 A C n cap cn ccap N M l lc w hn hcap hm hr hA hcn hccap hcm hrc hC hN hM ts us hf hg p ht hp
          · exact before_d A C n cap cn ccap N M l lc w hn hcap hm hr hA hcn hccap hcm hrc hC hN hM ts us hf hg p ht
          · exact before_y10 A C n cap cn ccap N M l lc w hn hcap hm hr hA hcn hccap hcm hrc hC hN hM ts us hf hg p ht hp
end Go.Proofs.Ytmpdnikabkandaa
