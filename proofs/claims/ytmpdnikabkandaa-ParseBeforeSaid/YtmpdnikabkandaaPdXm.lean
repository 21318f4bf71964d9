/-
  ParseBefore: the walk, where nothing is asked.
-/
import Derived.Test.YtmpdnikabkandaaPq5
import Derived.Test.YtmpdnikabkandaaPdWm
namespace Go.Proofs.Ytmpdnikabkandaa
open Go Go.RowKit Go.Lib

set_option maxHeartbeats 4000000 in
set_option maxRecDepth 100000 in
theorem before_f (A C : Option Addr) (n cap cn ccap N M : Nat) (l lc : List UInt8) (w : World) (hn : l.length = n) (hcap : n ≤ cap) (_hm : cap ≤ 9223372036854775807) (hr : Row w A l) (hA : A = none → cap = 0) (hcn : lc.length = cn) (hccap : cn ≤ ccap) (_hcm : ccap ≤ 9223372036854775807) (hrc : Row w C lc) (hC : C = none → ccap = 0) (hN : N = min n 2000) (hM : M = min cn 500) (k1 : Nat) (hf : lexS 0 (l.take N) = .bad k1) :
    Calls Try.prog 4 #[.slice A n cap, .slice C cn ccap] w fun e w' => e = .returned (.bool true) ∧ Fr w w' := by
  have hfr := Fr.refl w
  have HS := Lib.hid (shown4_fr w w hfr)
  have HN := Lib.hid hN
  have HM := Lib.hid hM
  have hN1 : N ≤ 2000 := by omega
  have hN2 : N ≤ n := by omega
  have hM1 : M ≤ 500 := by omega
  have hM2 : M ≤ cn := by omega
  have HL := Lib.hid (show (l.take N).length = N by rw [List.length_take]; omega)
  have HLC := Lib.hid (show (lc.take M).length = M by rw [List.length_take]; omega)
  have HA := Lib.hid hA
  have HC := Lib.hid hC
  have HF := Lib.hid hf
  clear hf
  clear hn hN hM hcn hA hC
  go_enter Try.func4, Try.ntmps4
  go_upto_region 2 with (go_at_call 11; ((with_reducible refine HS.out.mono ?_); rintro e w1 ⟨rfl, h1⟩))
  go_cut [0] (fun s wx => s = .slice A N cap ∧ wx = w1)
  case first =>
    go_wp2_with fail
    all_goals (go_meet; exact ⟨by have := HN.out; congr 1; omega, rfl⟩)
  case rest =>
  obtain ⟨rfl, rfl⟩ := hcut
  go_upto_region 3 with fail
  go_cut [1] (fun s wx => s = .slice C M ccap ∧ wx = wc)
  case first =>
    go_wp2_with fail
    all_goals (go_meet; exact ⟨by have := HM.out; congr 1; omega, rfl⟩)
  case rest =>
  obtain ⟨rfl, rfl⟩ := hcut
  go_upto_region 5 with (go_at_call 12; ((with_reducible refine (lex_no _ N _ (l.take N) k1 _ HL.out (by omega) (by omega) ((hr.fr h1).take N) HF.out).mono ?_); rintro e w2 ⟨rfl, hb2⟩))
  have h2 := h1.below hb2
  go_upto_region 6 with (go_at_call 12; ((with_reducible refine (lex_is _ M _ (lc.take M) _ HLC.out (by omega) (by omega) ((hrc.fr h2).take M)).mono ?_); rintro e w3 ⟨⟨v1, k2, c2, rfl, _⟩, hb3⟩))
  have h3 := h2.below hb3
  go_upto_region 7 with (go_at_call 13; ((with_reducible refine (parse_is _ N _ (l.take N) _ HL.out (by omega) (by omega) ((hr.fr h3).take N)).mono ?_); rintro e w4 ⟨⟨x1, m1, y1, x2, m2, y2, p, c, rfl⟩, hb4⟩))
  have h4 := h3.below hb4
  go_wp2
  go_ret
  exact ⟨rfl, by first | exact h4 | exact h4.alloc _⟩


set_option maxHeartbeats 4000000 in
set_option maxRecDepth 100000 in
theorem before_g (A C : Option Addr) (n cap cn ccap N M : Nat) (l lc : List UInt8) (w : World) (hn : l.length = n) (hcap : n ≤ cap) (_hm : cap ≤ 9223372036854775807) (hr : Row w A l) (hA : A = none → cap = 0) (hcn : lc.length = cn) (hccap : cn ≤ ccap) (_hcm : ccap ≤ 9223372036854775807) (hrc : Row w C lc) (hC : C = none → ccap = 0) (hN : N = min n 2000) (hM : M = min cn 500) (ts : List Tok) (k2 : Nat) (hf : lexS 0 (l.take N) = .ok ts) (hg : lexS 0 (lc.take M) = .bad k2) :
    Calls Try.prog 4 #[.slice A n cap, .slice C cn ccap] w fun e w' => e = .returned (.bool true) ∧ Fr w w' := by
  have hfr := Fr.refl w
  have HS := Lib.hid (shown4_fr w w hfr)
  have HN := Lib.hid hN
  have HM := Lib.hid hM
  have hN1 : N ≤ 2000 := by omega
  have hN2 : N ≤ n := by omega
  have hM1 : M ≤ 500 := by omega
  have hM2 : M ≤ cn := by omega
  have HL := Lib.hid (show (l.take N).length = N by rw [List.length_take]; omega)
  have HLC := Lib.hid (show (lc.take M).length = M by rw [List.length_take]; omega)
  have HA := Lib.hid hA
  have HC := Lib.hid hC
  have HF := Lib.hid hf
  clear hf
  have HG := Lib.hid hg
  clear hg
  clear hn hN hM hcn hA hC
  go_enter Try.func4, Try.ntmps4
  go_upto_region 2 with (go_at_call 11; ((with_reducible refine HS.out.mono ?_); rintro e w1 ⟨rfl, h1⟩))
  go_cut [0] (fun s wx => s = .slice A N cap ∧ wx = w1)
  case first =>
    go_wp2_with fail
    all_goals (go_meet; exact ⟨by have := HN.out; congr 1; omega, rfl⟩)
  case rest =>
  obtain ⟨rfl, rfl⟩ := hcut
  go_upto_region 3 with fail
  go_cut [1] (fun s wx => s = .slice C M ccap ∧ wx = wc)
  case first =>
    go_wp2_with fail
    all_goals (go_meet; exact ⟨by have := HM.out; congr 1; omega, rfl⟩)
  case rest =>
  obtain ⟨rfl, rfl⟩ := hcut
  go_upto_region 5 with (go_at_call 12; ((with_reducible refine (lex_ok _ N _ (ts.length + 1) (l.take N) ts _ HL.out (by omega) (by omega) ((hr.fr h1).take N) HF.out rfl).mono ?_); rintro e w2 ⟨g1, c1, rfl, _, _, _, hb2⟩))
  have h2 := h1.below hb2
  go_upto_region 6 with (go_at_call 12; ((with_reducible refine (lex_no _ M _ (lc.take M) k2 _ HLC.out (by omega) (by omega) ((hrc.fr h2).take M) HG.out).mono ?_); rintro e w3 ⟨rfl, hb3⟩))
  have h3 := h2.below hb3
  go_upto_region 7 with (go_at_call 13; ((with_reducible refine (parse_is _ N _ (l.take N) _ HL.out (by omega) (by omega) ((hr.fr h3).take N)).mono ?_); rintro e w4 ⟨⟨x1, m1, y1, x2, m2, y2, p, c, rfl⟩, hb4⟩))
  have h4 := h3.below hb4
  go_wp2
  go_ret
  exact ⟨rfl, by first | exact h4 | exact h4.alloc _⟩


set_option maxHeartbeats 4000000 in
set_option maxRecDepth 100000 in
theorem before_e (A C : Option Addr) (n cap cn ccap N M : Nat) (l lc : List UInt8) (w : World) (hn : l.length = n) (hcap : n ≤ cap) (_hm : cap ≤ 9223372036854775807) (hr : Row w A l) (hA : A = none → cap = 0) (hcn : lc.length = cn) (hccap : cn ≤ ccap) (_hcm : ccap ≤ 9223372036854775807) (hrc : Row w C lc) (hC : C = none → ccap = 0) (hN : N = min n 2000) (hM : M = min cn 500) (ts us : List Tok) (hf : lexS 0 (l.take N) = .ok ts) (hg : lexS 0 (lc.take M) = .ok us) (q : Pg) (r : List Tok) (ht : tl (l.take N) = .ok q r) :
    Calls Try.prog 4 #[.slice A n cap, .slice C cn ccap] w fun e w' => e = .returned (.bool true) ∧ Fr w w' := by
  have hfr := Fr.refl w
  have HS := Lib.hid (shown4_fr w w hfr)
  have HN := Lib.hid hN
  have HM := Lib.hid hM
  have hN1 : N ≤ 2000 := by omega
  have hN2 : N ≤ n := by omega
  have hM1 : M ≤ 500 := by omega
  have hM2 : M ≤ cn := by omega
  have HL := Lib.hid (show (l.take N).length = N by rw [List.length_take]; omega)
  have HLC := Lib.hid (show (lc.take M).length = M by rw [List.length_take]; omega)
  have HA := Lib.hid hA
  have HC := Lib.hid hC
  have HF := Lib.hid hf
  clear hf
  have HG := Lib.hid hg
  clear hg
  have HT := Lib.hid ht
  clear ht
  clear hn hN hM hcn hA hC
  go_enter Try.func4, Try.ntmps4
  go_upto_region 2 with (go_at_call 11; ((with_reducible refine HS.out.mono ?_); rintro e w1 ⟨rfl, h1⟩))
  go_cut [0] (fun s wx => s = .slice A N cap ∧ wx = w1)
  case first =>
    go_wp2_with fail
    all_goals (go_meet; exact ⟨by have := HN.out; congr 1; omega, rfl⟩)
  case rest =>
  obtain ⟨rfl, rfl⟩ := hcut
  go_upto_region 3 with fail
  go_cut [1] (fun s wx => s = .slice C M ccap ∧ wx = wc)
  case first =>
    go_wp2_with fail
    all_goals (go_meet; exact ⟨by have := HM.out; congr 1; omega, rfl⟩)
  case rest =>
  obtain ⟨rfl, rfl⟩ := hcut
  go_upto_region 5 with (go_at_call 12; ((with_reducible refine (lex_ok _ N _ (ts.length + 1) (l.take N) ts _ HL.out (by omega) (by omega) ((hr.fr h1).take N) HF.out rfl).mono ?_); rintro e w2 ⟨g1, c1, rfl, _, _, _, hb2⟩))
  have h2 := h1.below hb2
  go_upto_region 6 with (go_at_call 12; ((with_reducible refine (lex_ok _ M _ (us.length + 1) (lc.take M) us _ HLC.out (by omega) (by omega) ((hrc.fr h2).take M) HG.out rfl).mono ?_); rintro e w3 ⟨g2, c2, rfl, _, _, _, hb3⟩))
  have h3 := h2.below hb3
  go_upto_region 7 with (go_at_call 13; ((with_reducible refine (p_ok HT.out _ N _ _ HL.out (by omega) (by omega) ((hr.fr h3).take N)).mono ?_); rintro e w4 ⟨⟨v3, rfl, hv⟩, hb4⟩; obtain ⟨x1, y1, x2, y2, rfl, _, _⟩ := hv.pgv))
  have h4 := h3.below hb4
  go_wp2
  go_ret
  exact ⟨rfl, by first | exact h4 | exact h4.alloc _⟩


set_option maxHeartbeats 4000000 in
set_option maxRecDepth 100000 in
theorem before_d (A C : Option Addr) (n cap cn ccap N M : Nat) (l lc : List UInt8) (w : World) (hn : l.length = n) (hcap : n ≤ cap) (_hm : cap ≤ 9223372036854775807) (hr : Row w A l) (hA : A = none → cap = 0) (hcn : lc.length = cn) (hccap : cn ≤ ccap) (_hcm : ccap ≤ 9223372036854775807) (hrc : Row w C lc) (hC : C = none → ccap = 0) (hN : N = min n 2000) (hM : M = min cn 500) (ts us : List Tok) (hf : lexS 0 (l.take N) = .ok ts) (hg : lexS 0 (lc.take M) = .ok us) (p : Nat) (ht : tl (l.take N) = .bad p 3) :
    Calls Try.prog 4 #[.slice A n cap, .slice C cn ccap] w fun e w' => e = .returned (.bool true) ∧ Fr w w' := by
  have hfr := Fr.refl w
  have HS := Lib.hid (shown4_fr w w hfr)
  have HN := Lib.hid hN
  have HM := Lib.hid hM
  have hN1 : N ≤ 2000 := by omega
  have hN2 : N ≤ n := by omega
  have hM1 : M ≤ 500 := by omega
  have hM2 : M ≤ cn := by omega
  have HL := Lib.hid (show (l.take N).length = N by rw [List.length_take]; omega)
  have HLC := Lib.hid (show (lc.take M).length = M by rw [List.length_take]; omega)
  have HA := Lib.hid hA
  have HC := Lib.hid hC
  have HF := Lib.hid hf
  clear hf
  have HG := Lib.hid hg
  clear hg
  have HT := Lib.hid ht
  clear ht
  clear hn hN hM hcn hA hC
  go_enter Try.func4, Try.ntmps4
  go_upto_region 2 with (go_at_call 11; ((with_reducible refine HS.out.mono ?_); rintro e w1 ⟨rfl, h1⟩))
  go_cut [0] (fun s wx => s = .slice A N cap ∧ wx = w1)
  case first =>
    go_wp2_with fail
    all_goals (go_meet; exact ⟨by have := HN.out; congr 1; omega, rfl⟩)
  case rest =>
  obtain ⟨rfl, rfl⟩ := hcut
  go_upto_region 3 with fail
  go_cut [1] (fun s wx => s = .slice C M ccap ∧ wx = wc)
  case first =>
    go_wp2_with fail
    all_goals (go_meet; exact ⟨by have := HM.out; congr 1; omega, rfl⟩)
  case rest =>
  obtain ⟨rfl, rfl⟩ := hcut
  go_upto_region 5 with (go_at_call 12; ((with_reducible refine (lex_ok _ N _ (ts.length + 1) (l.take N) ts _ HL.out (by omega) (by omega) ((hr.fr h1).take N) HF.out rfl).mono ?_); rintro e w2 ⟨g1, c1, rfl, _, _, _, hb2⟩))
  have h2 := h1.below hb2
  go_upto_region 6 with (go_at_call 12; ((with_reducible refine (lex_ok _ M _ (us.length + 1) (lc.take M) us _ HLC.out (by omega) (by omega) ((hrc.fr h2).take M) HG.out rfl).mono ?_); rintro e w3 ⟨g2, c2, rfl, _, _, _, hb3⟩))
  have h3 := h2.below hb3
  go_upto_region 7 with (go_at_call 13; ((with_reducible refine (p_bad HT.out _ N _ _ HL.out (by omega) (by omega) ((hr.fr h3).take N)).mono ?_); rintro e w4 ⟨rfl, hb4⟩))
  have h4 := h3.below hb4
  go_wp2
  go_ret
  exact ⟨rfl, by first | exact h4 | exact h4.alloc _⟩


set_option maxHeartbeats 4000000 in
set_option maxRecDepth 100000 in
theorem before_n1 (A C : Option Addr) (n cap cn ccap N M : Nat) (l lc : List UInt8) (w : World) (hn : l.length = n) (hcap : n ≤ cap) (_hm : cap ≤ 9223372036854775807) (hr : Row w A l) (hA : A = none → cap = 0) (hcn : lc.length = cn) (hccap : cn ≤ ccap) (_hcm : ccap ≤ 9223372036854775807) (hrc : Row w C lc) (hC : C = none → ccap = 0) (hN : N = min n 2000) (hM : M = min cn 500) (ts us : List Tok) (hf : lexS 0 (l.take N) = .ok ts) (hg : lexS 0 (lc.take M) = .ok us) (ht : tl (l.take N) = .bad N 1) :
    Calls Try.prog 4 #[.slice A n cap, .slice C cn ccap] w fun e w' => e = .returned (.bool true) ∧ Fr w w' := by
  have hfr := Fr.refl w
  have HS := Lib.hid (shown4_fr w w hfr)
  have HN := Lib.hid hN
  have HM := Lib.hid hM
  have hN1 : N ≤ 2000 := by omega
  have hN2 : N ≤ n := by omega
  have hM1 : M ≤ 500 := by omega
  have hM2 : M ≤ cn := by omega
  have HL := Lib.hid (show (l.take N).length = N by rw [List.length_take]; omega)
  have HLC := Lib.hid (show (lc.take M).length = M by rw [List.length_take]; omega)
  have HA := Lib.hid hA
  have HC := Lib.hid hC
  have HF := Lib.hid hf
  clear hf
  have HG := Lib.hid hg
  clear hg
  have HT := Lib.hid ht
  clear ht
  clear hn hN hM hcn hA hC
  go_enter Try.func4, Try.ntmps4
  go_upto_region 2 with (go_at_call 11; ((with_reducible refine HS.out.mono ?_); rintro e w1 ⟨rfl, h1⟩))
  go_cut [0] (fun s wx => s = .slice A N cap ∧ wx = w1)
  case first =>
    go_wp2_with fail
    all_goals (go_meet; exact ⟨by have := HN.out; congr 1; omega, rfl⟩)
  case rest =>
  obtain ⟨rfl, rfl⟩ := hcut
  go_upto_region 3 with fail
  go_cut [1] (fun s wx => s = .slice C M ccap ∧ wx = wc)
  case first =>
    go_wp2_with fail
    all_goals (go_meet; exact ⟨by have := HM.out; congr 1; omega, rfl⟩)
  case rest =>
  obtain ⟨rfl, rfl⟩ := hcut
  go_upto_region 5 with (go_at_call 12; ((with_reducible refine (lex_ok _ N _ (ts.length + 1) (l.take N) ts _ HL.out (by omega) (by omega) ((hr.fr h1).take N) HF.out rfl).mono ?_); rintro e w2 ⟨g1, c1, rfl, _, _, _, hb2⟩))
  have h2 := h1.below hb2
  go_upto_region 6 with (go_at_call 12; ((with_reducible refine (lex_ok _ M _ (us.length + 1) (lc.take M) us _ HLC.out (by omega) (by omega) ((hrc.fr h2).take M) HG.out rfl).mono ?_); rintro e w3 ⟨g2, c2, rfl, _, _, _, hb3⟩))
  have h3 := h2.below hb3
  go_upto_region 7 with (go_at_call 13; ((with_reducible refine (p_bad HT.out _ N _ _ HL.out (by omega) (by omega) ((hr.fr h3).take N)).mono ?_); rintro e w4 ⟨rfl, hb4⟩))
  have h4 := h3.below hb4
  go_wp2
  go_ret
  exact ⟨rfl, by first | exact h4 | exact h4.alloc _⟩


set_option maxHeartbeats 4000000 in
set_option maxRecDepth 100000 in
theorem before_n2 (A C : Option Addr) (n cap cn ccap N M : Nat) (l lc : List UInt8) (w : World) (hn : l.length = n) (hcap : n ≤ cap) (_hm : cap ≤ 9223372036854775807) (hr : Row w A l) (hA : A = none → cap = 0) (hcn : lc.length = cn) (hccap : cn ≤ ccap) (_hcm : ccap ≤ 9223372036854775807) (hrc : Row w C lc) (hC : C = none → ccap = 0) (hN : N = min n 2000) (hM : M = min cn 500) (ts us : List Tok) (hf : lexS 0 (l.take N) = .ok ts) (hg : lexS 0 (lc.take M) = .ok us) (ht : tl (l.take N) = .bad N 2) :
    Calls Try.prog 4 #[.slice A n cap, .slice C cn ccap] w fun e w' => e = .returned (.bool true) ∧ Fr w w' := by
  have hfr := Fr.refl w
  have HS := Lib.hid (shown4_fr w w hfr)
  have HN := Lib.hid hN
  have HM := Lib.hid hM
  have hN1 : N ≤ 2000 := by omega
  have hN2 : N ≤ n := by omega
  have hM1 : M ≤ 500 := by omega
  have hM2 : M ≤ cn := by omega
  have HL := Lib.hid (show (l.take N).length = N by rw [List.length_take]; omega)
  have HLC := Lib.hid (show (lc.take M).length = M by rw [List.length_take]; omega)
  have HA := Lib.hid hA
  have HC := Lib.hid hC
  have HF := Lib.hid hf
  clear hf
  have HG := Lib.hid hg
  clear hg
  have HT := Lib.hid ht
  clear ht
  clear hn hN hM hcn hA hC
  go_enter Try.func4, Try.ntmps4
  go_upto_region 2 with (go_at_call 11; ((with_reducible refine HS.out.mono ?_); rintro e w1 ⟨rfl, h1⟩))
  go_cut [0] (fun s wx => s = .slice A N cap ∧ wx = w1)
  case first =>
    go_wp2_with fail
    all_goals (go_meet; exact ⟨by have := HN.out; congr 1; omega, rfl⟩)
  case rest =>
  obtain ⟨rfl, rfl⟩ := hcut
  go_upto_region 3 with fail
  go_cut [1] (fun s wx => s = .slice C M ccap ∧ wx = wc)
  case first =>
    go_wp2_with fail
    all_goals (go_meet; exact ⟨by have := HM.out; congr 1; omega, rfl⟩)
  case rest =>
  obtain ⟨rfl, rfl⟩ := hcut
  go_upto_region 5 with (go_at_call 12; ((with_reducible refine (lex_ok _ N _ (ts.length + 1) (l.take N) ts _ HL.out (by omega) (by omega) ((hr.fr h1).take N) HF.out rfl).mono ?_); rintro e w2 ⟨g1, c1, rfl, _, _, _, hb2⟩))
  have h2 := h1.below hb2
  go_upto_region 6 with (go_at_call 12; ((with_reducible refine (lex_ok _ M _ (us.length + 1) (lc.take M) us _ HLC.out (by omega) (by omega) ((hrc.fr h2).take M) HG.out rfl).mono ?_); rintro e w3 ⟨g2, c2, rfl, _, _, _, hb3⟩))
  have h3 := h2.below hb3
  go_upto_region 7 with (go_at_call 13; ((with_reducible refine (p_bad HT.out _ N _ _ HL.out (by omega) (by omega) ((hr.fr h3).take N)).mono ?_); rintro e w4 ⟨rfl, hb4⟩))
  have h4 := h3.below hb4
  go_wp2
  go_ret
  exact ⟨rfl, by first | exact h4 | exact h4.alloc _⟩


set_option maxHeartbeats 4000000 in
set_option maxRecDepth 100000 in
theorem before_n10 (A C : Option Addr) (n cap cn ccap N M : Nat) (l lc : List UInt8) (w : World) (hn : l.length = n) (hcap : n ≤ cap) (_hm : cap ≤ 9223372036854775807) (hr : Row w A l) (hA : A = none → cap = 0) (hcn : lc.length = cn) (hccap : cn ≤ ccap) (_hcm : ccap ≤ 9223372036854775807) (hrc : Row w C lc) (hC : C = none → ccap = 0) (hN : N = min n 2000) (hM : M = min cn 500) (ts us : List Tok) (hf : lexS 0 (l.take N) = .ok ts) (hg : lexS 0 (lc.take M) = .ok us) (ht : tl (l.take N) = .bad N 10) :
    Calls Try.prog 4 #[.slice A n cap, .slice C cn ccap] w fun e w' => e = .returned (.bool true) ∧ Fr w w' := by
  have hfr := Fr.refl w
  have HS := Lib.hid (shown4_fr w w hfr)
  have HN := Lib.hid hN
  have HM := Lib.hid hM
  have hN1 : N ≤ 2000 := by omega
  have hN2 : N ≤ n := by omega
  have hM1 : M ≤ 500 := by omega
  have hM2 : M ≤ cn := by omega
  have HL := Lib.hid (show (l.take N).length = N by rw [List.length_take]; omega)
  have HLC := Lib.hid (show (lc.take M).length = M by rw [List.length_take]; omega)
  have HA := Lib.hid hA
  have HC := Lib.hid hC
  have HF := Lib.hid hf
  clear hf
  have HG := Lib.hid hg
  clear hg
  have HT := Lib.hid ht
  clear ht
  clear hn hN hM hcn hA hC
  go_enter Try.func4, Try.ntmps4
  go_upto_region 2 with (go_at_call 11; ((with_reducible refine HS.out.mono ?_); rintro e w1 ⟨rfl, h1⟩))
  go_cut [0] (fun s wx => s = .slice A N cap ∧ wx = w1)
  case first =>
    go_wp2_with fail
    all_goals (go_meet; exact ⟨by have := HN.out; congr 1; omega, rfl⟩)
  case rest =>
  obtain ⟨rfl, rfl⟩ := hcut
  go_upto_region 3 with fail
  go_cut [1] (fun s wx => s = .slice C M ccap ∧ wx = wc)
  case first =>
    go_wp2_with fail
    all_goals (go_meet; exact ⟨by have := HM.out; congr 1; omega, rfl⟩)
  case rest =>
  obtain ⟨rfl, rfl⟩ := hcut
  go_upto_region 5 with (go_at_call 12; ((with_reducible refine (lex_ok _ N _ (ts.length + 1) (l.take N) ts _ HL.out (by omega) (by omega) ((hr.fr h1).take N) HF.out rfl).mono ?_); rintro e w2 ⟨g1, c1, rfl, _, _, _, hb2⟩))
  have h2 := h1.below hb2
  go_upto_region 6 with (go_at_call 12; ((with_reducible refine (lex_ok _ M _ (us.length + 1) (lc.take M) us _ HLC.out (by omega) (by omega) ((hrc.fr h2).take M) HG.out rfl).mono ?_); rintro e w3 ⟨g2, c2, rfl, _, _, _, hb3⟩))
  have h3 := h2.below hb3
  go_upto_region 7 with (go_at_call 13; ((with_reducible refine (p_bad HT.out _ N _ _ HL.out (by omega) (by omega) ((hr.fr h3).take N)).mono ?_); rintro e w4 ⟨rfl, hb4⟩))
  have h4 := h3.below hb4
  go_wp2
  go_ret
  exact ⟨rfl, by first | exact h4 | exact h4.alloc _⟩

end Go.Proofs.Ytmpdnikabkandaa
