/-
  LexAgain: bytes that are right. The walk.
-/
import Derived.Test.YtldakohmcmcfjaaLexAgainW
namespace Go.Proofs.Ytldakohmcmcfjaa
open Go Go.RowKit Go.Lib

/-- Bytes, a line's end, and more. -/
def yL (b m : List UInt8) : List UInt8 := [] ++ b ++ [10] ++ m
theorem yL_eq (b m : List UInt8) : yL b m = b ++ 10 :: m := by unfold yL; simp
theorem yL_len {b m : List UInt8} {N M : Nat} (hb : b.length = N) (hm : m.length = M) : (yL b m).length = N + 1 + M := by rw [yL_eq]; simp; omega
theorem BOwn.rowAt {W w : World} {v : Value} {l : List UInt8} {n : Nat} (h : BOwn W w v l) (hn : l.length = n) :
    ∃ g c, v = .slice (some ⟨g, 0, none⟩) n c ∧ n ≤ c ∧ Row w (some ⟨g, 0, none⟩) l := by
  subst hn
  obtain ⟨g, c, h1, _, _, h2, h3⟩ := h.row
  exact ⟨g, c, h1, h2, h3⟩

set_option maxHeartbeats 4000000 in
set_option maxRecDepth 100000 in
theorem again_ok (A C : Option Addr) (n cap cn ccap N M j : Nat) (l lc : List UInt8) (ts : List Tok) (w : World) (hn : l.length = n) (hcap : n ≤ cap) (hm : cap ≤ 9223372036854775807) (hr : Row w A l) (hA : A = none → cap = 0)
    (hcn : lc.length = cn) (hccap : cn ≤ ccap) (hcm : ccap ≤ 9223372036854775807) (hrc : Row w C lc) (hC : C = none → ccap = 0)
    (hN : N = min n 2000) (hM : M = min cn 500) (hp : lexS 0 (l.take N) = .ok ts) (hmt : ts.length = j) (hm1 : j ≤ 2000) :
    Calls Try.prog 4 #[.slice A n cap, .slice C cn ccap] w fun e w' => e = .returned (.bool true) ∧ Fr w w' := by
  have hfr := Fr.refl w
  have HN := Lib.hid hN
  have HMM := Lib.hid hM
  have hN1 : N ≤ 2000 := by omega
  have hN2 : N ≤ n := by omega
  have hM1 : M ≤ 500 := by omega
  have hM2 : M ≤ cn := by omega
  have HL := Lib.hid (show (l.take N).length = N by rw [List.length_take]; omega)
  have HLC := Lib.hid (show (lc.take M).length = M by rw [List.length_take]; omega)
  have HP := Lib.hid hp; clear hp
  have HM := Lib.hid (show ts.length + 1 = j + 1 by omega)
  have HTL := Lib.hid hmt; clear hmt
  have HA := Lib.hid hA
  have HC := Lib.hid hC
  have HJ := Lib.hid (show ∀ k, (joinT ((fin ts N).take k)).length ≤ 4001 from fun k => by
    have h1 := joinT_le (fin ts N) k
    have h2 := joinT_size N 0 (l.take N) ts (by rw [HL.out]; omega) HP.out
    have h3 := HTL.out
    have h4 := HL.out
    rw [joinT_fin, List.length_append] at h1
    simp only [List.length_cons, List.length_nil] at h1
    omega)
  clear hn hN hM hcn hA hC
  go_enter Try.func4, Try.ntmps4
  go_upto_region 2 with (go_at_call 10; ((with_reducible refine (shown_fr w _ (by assumption)).mono ?_); rintro e w1 ⟨rfl, h1⟩))
  go_cut [0] (fun s wx => s = .slice A N cap ∧ wx = w1)
  case first =>
    go_wp2_with fail
    all_goals (go_meet; exact ⟨by have := HN.out; congr 1; omega, rfl⟩)
  case rest =>
  obtain ⟨rfl, rfl⟩ := hcut
  go_upto_region 3 with fail
  go_cut [1] (fun s wx => s = .slice C M ccap ∧ wx = wc)
  case first =>
    go_wp2_with fail
    all_goals (go_meet; exact ⟨by have := HMM.out; congr 1; omega, rfl⟩)
  case rest =>
  obtain ⟨rfl, rfl⟩ := hcut
  go_wp2_with (go_at_call 11; ((with_reducible refine (lex_ok _ N _ (j + 1) (l.take N) ts _ HL.out (by omega) (by omega) ((hr.fr h1).take N) HP.out HM.out).mono ?_); rintro e w2 ⟨g, c1, rfl, hg, hc1, ht1, hb2⟩; have h2 := h1.below hb2))
  go_loopw [9, 10] (fun o i wr => ∃ k : Nat, k ≤ j + 1 ∧ i = .int .i64 k ∧ BOwn w2 wr o (joinT ((fin ts N).take k))) (fun _ i _ => j + 1 - (intOf i).toNat)
  case atStart => exact ⟨0, Nat.zero_le _, rfl, bown_new w2⟩
  case round =>
  obtain ⟨k, hk, rfl, hB⟩ := hrel
  by_cases hlt : k < j + 1
  · have hkl : k < (fin ts N).length := by rw [fin_length]; have := HM.out; omega
    obtain ⟨t, ht⟩ : ∃ t, (fin ts N)[k]? = some t := ⟨_, List.getElem?_eq_getElem hkl⟩
    obtain ⟨y1, y2, y3⟩ := (ht1.past hB.fr).2 k t ht
    have HS := Lib.hid (joinT_snoc ht)
    have HJ1 := Lib.hid (HJ.out (k + 1))
    clear y1 y3 ht hkl
    have hki : (k : Int) < ((j + 1 : Nat) : Int) := by omega
    go_wp2_with (first
      | (at_builtin; refine wp_app_str (l2 := t.text) rfl rfl hB rfl rfl (by have := HJ1.out; rw [HS.out] at this; simp only [List.length_append, List.length_cons, List.length_nil] at this; omega) ?_; intro v1 w3 hB1)
      | (at_builtin; refine wp_app (l2 := [32]) rfl rfl (hB1.alloc _) rfl rfl (row_new _ [32] _ _ rfl) rfl (by decide) (fun e => by cases e) (by have := HJ1.out; rw [HS.out] at this; simp only [List.length_append, List.length_cons, List.length_nil] at this ⊢; omega) ?_; intro v2 w4 hB2 hG2))
    go_roundw
    case rel => exact ⟨k + 1, by omega, by go_num, by rw [HS.out]; exact hB2⟩
    case measure => simp [intOf]; omega
  · have ek : k = j + 1 := by omega
    subst ek
    obtain ⟨gx, cx, rfl, hgx1, hgx2, hcx, hrx⟩ := hB.row
    have h5 : Fr w wr := h2.below hB.fr
    have HOK := Lib.hid (lex_again N HP.out)
    have e0 : (fin ts N).take (j + 1) = fin ts N := List.take_of_length_le (by rw [fin_length]; have := HM.out; omega)
    have HX1 := Lib.hid (HJ.out (j + 1))
    rw [e0] at hrx hcx HX1 ⊢
    obtain ⟨X, hX⟩ : ∃ X, X = (joinT (fin ts N)).length := ⟨_, rfl⟩
    have HX := Lib.hid hX
    rw [← hX] at hcx HX1 ⊢
    clear hX e0
    have hX1 : X ≤ 4001 := HX1.out
    have TL0 := ht1.past hB.fr
    go_wp2_with (go_at_call 11; ((with_reducible refine (lex_ok _ X _ (j + 1) (joinT (fin ts N)) (reAt 0 ts) _ HX.out.symm (by omega) (by omega) hrx HOK.out (by rw [reAt_length]; exact HM.out)).mono ?_); rintro e w6 ⟨g6, c6, rfl, hg6, hc6, ht6, hb6⟩))
    have TL := TL0.past hb6
    go_loopw [14] (fun i wr => ∃ k : Nat, k ≤ j + 1 ∧ i = .int .i64 k ∧ Below w6.heap.size w6 wr) (fun i _ => j + 1 - (intOf i).toNat)
    case atStart => exact ⟨0, Nat.zero_le _, rfl, Below.refl _ _⟩
    case round =>
    obtain ⟨k, hk, rfl, hbk⟩ := hrel
    by_cases hlt : k < j + 1
    · have hkl : k < (fin ts N).length := by rw [fin_length]; have := HM.out; omega
      obtain ⟨t, ht⟩ : ∃ t, (fin ts N)[k]? = some t := ⟨_, List.getElem?_eq_getElem hkl⟩
      obtain ⟨a, ha⟩ := fin_re (k := X) ht
      obtain ⟨y1, y2, y3⟩ := (ht6.past hbk).2 k _ ha
      obtain ⟨z1, z2, z3⟩ := (TL.past hbk).2 k t ht
      simp only at y1 y2
      clear y3 z3 ha ht hkl
      have hki : (k : Int) < ((j + 1 : Nat) : Int) := by omega
      as_aux_lemma =>
        go_wp2
        go_quiet (fail)
        go_wp2
        go_roundw
        case rel => exact ⟨k + 1, by omega, by go_num, by first | exact hbk | exact below_drew hbk _⟩
        case measure => simp [intOf]; omega
    · have ek : k = j + 1 := by omega
      subst ek
      have h7 : Fr w wr := (h5.below hb6).below hbk
      have TL7 := TL.past hbk
      have HRA := Lib.hid ((hr.fr h7).take N)
      have HRC := Lib.hid (hrc.fr h7)
      have HYL := Lib.hid (yL_len HL.out HLC.out)
      have hB0 := bown_new wr
      cases hq : lexS 0 (lc.take M) with
      | bad kk =>
        have HQ := Lib.hid hq
        have hkk : kk ≤ 500 := by have := bad_le M 0 _ kk (by rw [HLC.out]; omega) HQ.out; rw [HLC.out] at this; omega
        obtain ⟨Z, hZ⟩ : ∃ Z, Z = kk + (N + 1) := ⟨_, rfl⟩
        have HYB := Lib.hid (show lexS 0 (yL (l.take N) (lc.take M)) = .bad Z by
          rw [yL_eq, lex_behind HP.out, HQ.out, HL.out, hZ]; rfl)
        have hZb : ((Z : Int) != (N : Int) + 1 + (kk : Int)) = false := by simp; omega
        have hZ1 : Z ≤ 2501 := by omega
        clear hq hZ
        as_aux_lemma =>
          go_wp2_with (first
            | (at_builtin; refine wp_app (l2 := l.take N) rfl rfl hB0 rfl rfl (HRA.out.fr ((Fr.refl wr).alloc _)) HL.out (by omega) (fun e => HA.out e) (by simp; omega) ?_; intro v1 w8 hB1 hG1)
            | (at_builtin; refine wp_app (l2 := [10]) rfl rfl (hB1.alloc _) rfl rfl (row_new _ [10] _ _ rfl) rfl (by decide) (fun e => by cases e) (by have := HL.out; simp; omega) ?_; intro v2 w9 hB2 hG2)
            | (at_builtin; refine wp_app (l2 := lc.take M) rfl rfl hB2 rfl rfl ((HRC.out.fr hB2.fr).take M) HLC.out (by omega) (fun e => HC.out e) (by have := HL.out; simp; omega) ?_; intro v3 w10 hB3 hG3; obtain ⟨gy, cy, rfl, hcy, hry⟩ := BOwn.rowAt (l := yL (l.take N) (lc.take M)) hB3 HYL.out; have hb3 := hB3.fr; clear hG1 hG2 hG3)
            | (go_at_call 11; ((with_reducible refine (lex_no _ (N + 1 + M) _ (yL (l.take N) (lc.take M)) Z _ HYL.out (by omega) (by omega) hry HYB.out).mono ?_); rintro e w11 ⟨rfl, hb11⟩))
            | (go_at_call 11; ((with_reducible refine (lex_no _ M _ (lc.take M) kk _ HLC.out (by omega) (by omega) (((HRC.out.fr hb3).below hb11 (Nat.le_refl _)).take M) HQ.out).mono ?_); rintro e w12 ⟨rfl, hb12⟩)))
          go_ret
          exact ⟨rfl, ((h7.below hb3).below hb11).below hb12⟩
      | ok ts2 =>
        have HQ := Lib.hid hq
        obtain ⟨j2, hj2⟩ : ∃ j2, ts2.length = j2 := ⟨_, rfl⟩
        have hj2M : j2 ≤ M := by
          have := toks_le M 0 _ ts2 (by rw [HLC.out]; omega) HQ.out
          rw [HLC.out] at this; omega
        obtain ⟨Q, hQ⟩ : ∃ Q, Q = j + j2 + 1 := ⟨_, rfl⟩
        have HQL := Lib.hid (show (ts ++ ts2.map (Tok.far (N + 1))).length + 1 = Q by rw [List.length_append, List.length_map, HTL.out]; omega)
        have HQ2 := Lib.hid (show ts2.length + 1 = j2 + 1 by omega)
        have hQ1 : Q ≤ j + j2 + 1 := by omega
        have hQ2 : j + j2 + 1 ≤ Q := by omega
        have HYB := Lib.hid (show lexS 0 (yL (l.take N) (lc.take M)) = .ok (ts ++ ts2.map (Tok.far (N + 1))) by
          rw [yL_eq, lex_behind HP.out, HQ.out, HL.out]; rfl)
        have HJ2 := Lib.hid hj2
        have hQb : ((Q : Int) != (j : Int) + ((j2 : Int) + 1)) = false := by simp; omega
        clear hq hQ hj2
        go_wp2_with (first
          | (at_builtin; refine wp_app (l2 := l.take N) rfl rfl hB0 rfl rfl (HRA.out.fr ((Fr.refl wr).alloc _)) HL.out (by omega) (fun e => HA.out e) (by simp; omega) ?_; intro v1 w8 hB1 hG1)
          | (at_builtin; refine wp_app (l2 := [10]) rfl rfl (hB1.alloc _) rfl rfl (row_new _ [10] _ _ rfl) rfl (by decide) (fun e => by cases e) (by have := HL.out; simp; omega) ?_; intro v2 w9 hB2 hG2)
          | (at_builtin; refine wp_app (l2 := lc.take M) rfl rfl hB2 rfl rfl ((HRC.out.fr hB2.fr).take M) HLC.out (by omega) (fun e => HC.out e) (by have := HL.out; simp; omega) ?_; intro v3 w10 hB3 hG3; obtain ⟨gy, cy, rfl, hcy, hry⟩ := BOwn.rowAt (l := yL (l.take N) (lc.take M)) hB3 HYL.out; have hb3 := hB3.fr; clear hG1 hG2 hG3)
          | (go_at_call 11; ((with_reducible refine (lex_ok _ (N + 1 + M) _ Q (yL (l.take N) (lc.take M)) (ts ++ ts2.map (Tok.far (N + 1))) _ HYL.out (by omega) (by omega) hry HYB.out HQL.out).mono ?_); rintro e w11 ⟨g11, c11, rfl, hg11, hc11, ht11, hb11⟩))
          | (go_at_call 11; ((with_reducible refine (lex_ok _ M _ (j2 + 1) (lc.take M) ts2 _ HLC.out (by omega) (by omega) (((HRC.out.fr hb3).below hb11 (Nat.le_refl _)).take M) HQ.out HQ2.out).mono ?_); rintro e w12 ⟨g12, c12, rfl, hg12, hc12, ht12, hb12⟩)))
        have TY := ht11.past hb12
        have TL8 := ((TL7.past hb3).past hb11).past hb12
        have h12 : Fr w w12 := ((h7.below hb3).below hb11).below hb12
        go_loopw [21] (fun i wr => ∃ k : Nat, k ≤ Q ∧ i = .int .i64 k ∧ Below w12.heap.size w12 wr) (fun i _ => Q - (intOf i).toNat)
        case atStart => exact ⟨0, Nat.zero_le _, rfl, Below.refl _ _⟩
        case round =>
        obtain ⟨k, hk, rfl, hbz⟩ := hrel
        by_cases hlt : k < Q
        · have hkQ : (k : Int) < (Q : Int) := by omega
          by_cases hkj : k < j
          · obtain ⟨t, hta, htb⟩ := fin_one (a := ts) (c := ts2.map (Tok.far (N + 1))) (n := N + 1 + M) (k := N) (i := k) (by rw [HTL.out]; exact hkj)
            obtain ⟨y1, y2, y3⟩ := (TY.past hbz).2 k t hta
            obtain ⟨z1, z2, z3⟩ := (TL8.past hbz).2 k t htb
            clear hta htb
            have hk1 : (k : Int) < ((j + 1 : Nat) : Int) := by omega
            have hk2 : (k : Int) < (j : Int) := by omega
            have hk3 : decide (j ≤ k) = false := decide_eq_false (by omega)
            have hjw : IntKind.i64.wrap (((j + 1 : Nat) : Int) - 1) = (j : Int) := by rw [IntWalk.i64_in _ (by omega)]; omega
            as_aux_lemma =>
              go_wp2
              go_quiet (fail)
              go_wp2
              go_quiet (fail)
              clear hjw
              go_wp2
              go_roundw
              case rel => exact ⟨k + 1, by omega, by go_num, by first | exact hbz | (repeat (first | exact hbz | refine below_drew ?_ _))⟩
              case measure => simp [intOf]; omega
          · obtain ⟨i', hi'⟩ : ∃ i', k = j + i' := ⟨k - j, by omega⟩
            have hi1 : i' ≤ j2 := by omega
            have hil : i' < (fin ts2 M).length := by rw [fin_length]; have := HQ2.out; omega
            obtain ⟨t, ht⟩ : ∃ t, (fin ts2 M)[i']? = some t := ⟨_, List.getElem?_eq_getElem hil⟩
            have hta := fin_two (a := ts) (c := ts2) (n := N + 1 + M) (k := M) (d := N + 1) (by omega) ht
            rw [HTL.out, ← hi'] at hta
            have hat : t.at_ ≤ M := by
              have := (cut_ok M 0 (lc.take M) ts2 (by rw [HLC.out]; omega) HQ.out i' t (by rw [HLC.out, Nat.zero_add]; exact ht)).2.1
              rw [HLC.out] at this; omega
            obtain ⟨y1, y2, y3⟩ := (TY.past hbz).2 k _ hta
            obtain ⟨z1, z2, z3⟩ := (ht12.past hbz).2 i' t ht
            simp only [Tok.far] at y1 y2 y3
            obtain ⟨K, tx, q⟩ := t
            simp only at y1 y2 y3 z1 z2 z3 hat
            obtain ⟨Z, hZ⟩ : ∃ Z, Z = q + (N + 1) := ⟨_, rfl⟩
            rw [← hZ] at y3
            have c1 : ((Z : Int) != (q : Int) + (N : Int) + 1) = false := by simp; omega
            have hji : j ≤ k := by omega
            have hk3 : decide (k < j) = false := decide_eq_false (by omega)
            have hk4 : decide (j ≤ k) = true := decide_eq_true (by omega)
            have hi2 : (i' : Int) < ((j2 + 1 : Nat) : Int) := by omega
            have hjw : IntKind.i64.wrap (((j + 1 : Nat) : Int) - 1) = (j : Int) := by rw [IntWalk.i64_in _ (by omega)]; omega
            have hjv : IntKind.i64.wrap (j : Int) = (j : Int) := IntWalk.i64_in _ (by omega)
            have hiv : IntKind.i64.wrap (i' : Int) = (i' : Int) := IntWalk.i64_in _ (by omega)
            have w5 : IntKind.i64.wrap ((k : Int) - ((j : Int) + 1)) = (i' : Int) - 1 := by rw [IntWalk.i64_in _ (by omega)]; omega
            have w1 : IntKind.i64.wrap ((k : Int) - ((j + 1 : Nat) : Int)) = (i' : Int) - 1 := by rw [IntWalk.i64_in _ (by omega)]; omega
            have w2 : IntKind.i64.wrap ((i' : Int) - 1 + 1) = (i' : Int) := by rw [IntWalk.i64_in _ (by omega)]; omega
            have w3 : IntKind.i64.wrap ((q : Int) + (N : Int)) = (q : Int) + (N : Int) := IntWalk.i64_in _ (by omega)
            have w4 : IntKind.i64.wrap ((q : Int) + (N : Int) + 1) = (q : Int) + (N : Int) + 1 := IntWalk.i64_in _ (by omega)
            have HI := Lib.hid hi'
            clear hta ht hil hi' hZ
            as_aux_lemma =>
              go_wp2
              go_quiet (fail)
              go_wp2
              go_quiet (fail)
              clear hjw hjv hiv w1 w2 w3 w4 w5
              go_wp2
              go_roundw
              case rel => exact ⟨k + 1, by omega, by go_num, by first | exact hbz | (repeat (first | exact hbz | refine below_drew ?_ _))⟩
              case measure => simp [intOf]; omega
        · go_wp2
          go_ret
          exact ⟨rfl, h12.below hbz⟩

theorem again_walk (A : Option Addr) (n cap : Nat) (l : List UInt8) (C : Option Addr) (cn ccap : Nat) (lc : List UInt8) (w : World) (hn : l.length = n) (hcap : n ≤ cap) (hm : cap ≤ 9223372036854775807) (hr : Row w A l) (hA : A = none → cap = 0)
    (hcn : lc.length = cn) (hccap : cn ≤ ccap) (hcm : ccap ≤ 9223372036854775807) (hrc : Row w C lc) (hC : C = none → ccap = 0) :
    Calls Try.prog 4 #[.slice A n cap, .slice C cn ccap] w fun e w' => e = .returned (.bool true) ∧ Fr w w' := by
  cases hp : lexS 0 (l.take (min n 2000)) with
  | bad p => exact again_bad A C n cap cn ccap _ _ p l w hn hcap hm hr hccap hcm rfl rfl hp
  | ok ts =>
    have := toks_le l.length.succ 0 (l.take (min n 2000)) ts (by rw [List.length_take]; omega) hp
    rw [List.length_take] at this
    exact again_ok A C n cap cn ccap _ _ _ l lc ts w hn hcap hm hr hA hcn hccap hcm hrc hC rfl rfl hp rfl (by omega)

end Go.Proofs.Ytldakohmcmcfjaa
