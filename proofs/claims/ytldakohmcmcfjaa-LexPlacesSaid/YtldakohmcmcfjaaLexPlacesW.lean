/-
  LexPlaces: at every bytes the statement's function tells true. The walk.
-/
import Derived.Test.YtldakohmcmcfjaaLexA
import Derived.Test.YtldakohmcmcfjaaLexPl
namespace Go.Proofs.Ytldakohmcmcfjaa
open Go Go.RowKit Go.Lib

set_option maxHeartbeats 4000000 in
set_option maxRecDepth 100000 in
theorem places_bad (A : Option Addr) (n cap N p : Nat) (l : List UInt8) (w : World) (hn : l.length = n) (hcap : n ≤ cap) (hm : cap ≤ 9223372036854775807) (hr : Row w A l) (hN : N = min n 2000) (hp : lexS 0 (l.take N) = .bad p) :
    Calls Try.prog 5 #[.slice A n cap] w fun e w' => e = .returned (.bool true) ∧ Fr w w' := by
  have hfr := Fr.refl w
  have HN := Lib.hid hN
  have hN1 : N ≤ 2000 := by omega
  have hN2 : N ≤ n := by omega
  have HL := Lib.hid (show (l.take N).length = N by rw [List.length_take]; omega)
  have HP := Lib.hid hp; clear hp
  have hpN : p < N := by have := bad_lt N 0 _ p (by rw [HL.out]; omega) HP.out; rw [HL.out] at this; omega
  have hpi : (p : Int) < (N : Int) := by omega
  clear hn hN
  go_enter Try.func5, Try.ntmps5
  go_upto_region 2 with (go_at_call 10; ((with_reducible refine (shown_fr w _ (by assumption)).mono ?_); rintro e w1 ⟨rfl, h1⟩))
  go_cut [0] (fun s wx => s = .slice A N cap ∧ wx = w1)
  case first =>
    go_wp2_with fail
    all_goals (go_meet; exact ⟨by have := HN.out; congr 1; omega, rfl⟩)
  case rest =>
    obtain ⟨rfl, rfl⟩ := hcut
    go_wp2_with (go_at_call 11; ((with_reducible refine (lex_no _ N _ (l.take N) p _ HL.out (by omega) (by omega) ((hr.fr h1).take N) HP.out).mono ?_); rintro e w2 ⟨rfl, hb2⟩))
    go_ret
    exact ⟨rfl, h1.below hb2⟩

theorem Row.cells {w : World} {b o : Nat} {l : List UInt8} (h : Row w (some ⟨b, o, none⟩) l) : ∀ i, i < l.length → w.cell? ⟨b, o + i, none⟩ = some (.int .u8 (nth l i)) := by
  intro i hi
  obtain ⟨b', o', e, _, hc⟩ := h (by omega)
  injection e with e
  injection e with e1 e2
  subst e1 e2
  exact hc i hi
theorem conv_nil (w : World) : ∀ a c, (convert 22 9 (.slice a 0 c)).run Try.prog w = .ok (.string ⟨#[]⟩) w := by
  intro a c
  cases a with
  | none => exact run_convert_bytes_nil w 22 5 Try.underlying22 Try.underlying5 0 c 9 Try.underlying9
  | some ad => exact run_convert_bytes_back (P := Try.prog) w 22 9 5 ad c [] Try.underlying22 Try.underlying5 Try.underlying9 (fun j hj => by simp at hj)
theorem conv_at {w : World} {b o q : Nat} {L tx : List UInt8} (hc : Row w (some ⟨b, o, none⟩) L) (h : (L.drop q).take tx.length = tx) :
    ∀ c, (convert 22 9 (.slice (some ⟨b, o + q, none⟩) tx.length c)).run Try.prog w = .ok (.string ⟨tx.toArray⟩) w := by
  intro c
  refine run_convert_bytes_back (P := Try.prog) w 22 9 5 ⟨b, o + q, none⟩ c tx Try.underlying22 Try.underlying5 Try.underlying9 (fun j hj => ?_)
  have hl : q + j < L.length := by
    have e := congrArg List.length h
    rw [List.length_take, List.length_drop] at e; omega
  have hv : tx[j] = L.getD (q + j) 0 := by
    have e : ((L.drop q).take tx.length)[j]? = tx[j]? := by rw [h]
    rw [List.getElem?_take_of_lt hj, List.getElem?_drop, List.getElem?_eq_getElem hl, List.getElem?_eq_getElem hj] at e
    injection e with e
    rw [← e, List.getD_eq_getElem?_getD, List.getElem?_eq_getElem hl]; rfl
  rw [add_at, Nat.add_assoc, hc.cells (q + j) hl, hv]
  rfl
/-- What is known ahead of the token of a number. -/
def AtTok (b : List UInt8) (ts : List Tok) (N m i s : Nat) (c : Bool) : Prop := Placed b s ((fin ts N).drop i) ∧ s ≤ N ∧ (i < m → c = false)

set_option maxHeartbeats 4000000 in
set_option maxRecDepth 100000 in
theorem places_ok (b o n cap N m : Nat) (l : List UInt8) (ts : List Tok) (w : World) (hn : l.length = n) (hcap : n ≤ cap) (hm : cap ≤ 9223372036854775807) (hr : Row w (some ⟨b, o, none⟩) l) (hN : N = min n 2000) (hp : lexS 0 (l.take N) = .ok ts) (hmt : ts.length + 1 = m) (hm1 : m ≤ 2001) :
    Calls Try.prog 5 #[.slice (some ⟨b, o, none⟩) n cap] w fun e w' => e = .returned (.bool true) ∧ Fr w w' := by
  have hfr := Fr.refl w
  have HN := Lib.hid hN
  have hN1 : N ≤ 2000 := by omega
  have hN2 : N ≤ n := by omega
  have HL := Lib.hid (show (l.take N).length = N by rw [List.length_take]; omega)
  have HP := Lib.hid hp; clear hp
  have HPL := Lib.hid (show Placed (l.take N) 0 (fin ts N) by have := placed_of HP.out; rw [HL.out] at this; exact this)
  have HM := Lib.hid hmt; clear hmt
  clear hn hN
  obtain ⟨j, rfl⟩ : ∃ j, m = j + 1 := ⟨m - 1, by have := HM.out; omega⟩
  go_enter Try.func5, Try.ntmps5
  go_upto_region 2 with (go_at_call 10; ((with_reducible refine (shown_fr w _ (by assumption)).mono ?_); rintro e w1 ⟨rfl, h1⟩))
  go_cut [0] (fun s wx => s = .slice (some ⟨b, o, none⟩) N cap ∧ wx = w1)
  case first =>
    go_wp2_with fail
    all_goals (go_meet; exact ⟨by have := HN.out; congr 1; omega, rfl⟩)
  case rest =>
    obtain ⟨rfl, rfl⟩ := hcut
    go_wp2_with (go_at_call 11; ((with_reducible refine (lex_ok _ N _ (j + 1) (l.take N) ts _ HL.out (by omega) (by omega) ((hr.fr h1).take N) HP.out HM.out).mono ?_); rintro e w2 ⟨g, c1, rfl, hg, hc1, ht1, hb2⟩; have h2 := h1.below hb2))
    go_loopw [7, 8, 9] (fun a c i wr => ∃ (k s : Nat) (cc : Bool), k ≤ j + 1 ∧ i = .int .i64 k ∧ a = .int .i64 s ∧ c = .bool cc ∧ AtTok (l.take N) ts N (j + 1) k s cc ∧ Below w2.heap.size w2 wr) (fun _ _ i _ => j + 1 - (intOf i).toNat)
    case atStart => exact ⟨0, 0, false, Nat.zero_le _, rfl, rfl, rfl, ⟨HPL.out, Nat.zero_le _, fun _ => rfl⟩, Below.refl _ _⟩
    case round =>
      obtain ⟨k, s, cc, hk, rfl, rfl, rfl, ⟨hpl, hsN, hcc⟩, hbk⟩ := hrel
      by_cases hlt : k < j + 1
      · obtain rfl := hcc hlt
        clear hcc
        have hkl : k < (fin ts N).length := by rw [fin_length]; have := HM.out; omega
        obtain ⟨t, ht⟩ : ∃ t, (fin ts N)[k]? = some t := ⟨_, List.getElem?_eq_getElem hkl⟩
        have hdr : (fin ts N).drop k = t :: (fin ts N).drop (k + 1) := by
          rw [List.drop_eq_getElem_cons hkl]; rw [List.getElem?_eq_getElem hkl] at ht; injection ht with ht; rw [ht]
        rw [hdr] at hpl
        obtain ⟨⟨f1, f2, f3, f4, f5, f6, f7, f8⟩, hpl'⟩ := hpl
        have f4' : t.kind = 4 ↔ k = j := by
          rw [f4, List.drop_eq_nil_iff, fin_length]; have := HM.out; omega
        rw [HL.out] at f2 f8
        obtain ⟨y1, y2, y3⟩ := (ht1.past hbk).2 k t ht
        obtain ⟨K, tx, q⟩ := t
        have HT := Lib.hid ht
        clear ht hdr f4 hkl
        simp only at f1 f2 f3 f4' f5 f6 f7 f8 hpl' y1 y2 y3
        have hki : (k : Int) < ((j + 1 : Nat) : Int) := by omega
        have H3 := Lib.hid f3; have H4 := Lib.hid f4'; have H5 := Lib.hid f5; have H6 := Lib.hid f6; have H7 := Lib.hid f7; have H8 := Lib.hid f8; have HPL' := Lib.hid hpl'
        clear f3 f4' f5 f6 f7 f8 hpl'
        go_upto_region 11 with fail
        go_cut [98] (fun v wx => v = .bool false ∧ Below w2.heap.size w2 wx)
        case first =>
          as_aux_lemma =>
            have e1 : decide (q < s) = false := decide_eq_false (by omega)
            have e2 : decide ((N : Int) < (q : Int) + (tx.length : Int)) = false := decide_eq_false (by omega)
            have e3 : IntKind.i64.wrap ((q : Int) + (tx.length : Int)) = (q : Int) + (tx.length : Int) := IntWalk.i64_in _ (by omega)
            have e4 : IntKind.i64.wrap (((j + 1 : Nat) : Int) - 1) = (j : Int) := by rw [IntWalk.i64_in _ (by omega)]; omega
            by_cases hK : K = 4
            · obtain rfl := H4.out.1 hK
              obtain rfl := H3.out.2 hK
              subst hK
              clear e2 e3
              have y2' : wr.cell? ⟨g, k * 3 + 1, none⟩ = some (.string ⟨#[]⟩) := y2
              clear y2
              have e2 : decide (N < q) = false := decide_eq_false (by simp at f2; omega)
              have e3 : IntKind.i64.wrap (q : Int) = (q : Int) := IntWalk.i64_in _ (by omega)
              go_quiet (fail)
              go_wp2
              go_meet
              exact ⟨rfl, below_drew hbk _⟩
            · have e5 : ((K : Int) == 4) = false := by simpa using (show ¬ (K : Int) = 4 by omega)
              have hkj : ¬ k = j := fun e => hK (H4.out.2 e)
              have e6 : ((k : Int) == (j : Int)) = false := by simpa using (show ¬ (k : Int) = (j : Int) by omega)
              have htx : ¬ tx = [] := fun e => hK (H3.out.1 e)
              go_quiet (fail)
              go_wp2
              go_meet
              exact ⟨by cases tx with | nil => exact absurd rfl htx | cons a b => rfl, below_drew hbk _⟩
        case rest =>
          obtain ⟨rfl, hbk2⟩ := hcut
          clear y1 y2 y3
          obtain ⟨y1, y2, y3⟩ := (ht1.past hbk2).2 k _ HT.out
          simp only at y1 y2 y3
          have hrw := ((hr.fr h2).take N).below hbk2 (Nat.le_refl _)
          clear hbk
          go_wp2_with fail
          go_loop [8, 10] (fun c kk => ∃ P : Nat, s ≤ P ∧ P ≤ q ∧ kk = .int .i64 P ∧ c = .bool (cmN (l.take N) s (P - s))) (fun _ kk => q - (intOf kk).toNat)
          case atStart => exact ⟨s, Nat.le_refl _, f1, rfl, by rw [Nat.sub_self]; rfl⟩
          case round =>
            obtain ⟨P, hP1, hP2, rfl, rfl⟩ := hrel
            by_cases hPq : P < q
            · have hPq' := hPq
              as_aux_lemma =>
                have hck := hrw.cells P (by rw [HL.out]; omega)
                have HG := Lib.hid (show cmN (l.take N) s (P + 1 - s) = true ∨ blkB (nth (l.take N) P) = true by
                  have := H5.out (P - s) (by omega)
                  rw [show s + (P - s) = P by omega] at this
                  rw [show P + 1 - s = P - s + 1 by omega]; exact this)
                have HST := Lib.hid (show cmN (l.take N) s (P + 1 - s) = stepC (cmN (l.take N) s (P - s)) (nth (l.take N) P) by
                  rw [show P + 1 - s = P - s + 1 by omega]
                  show stepC _ (nth _ (s + (P - s))) = _
                  rw [show s + (P - s) = P by omega])
                have hPi : (P : Int) < (q : Int) := by omega
                have hPN : (P : Int) < (N : Int) := by omega
                obtain ⟨x, hx⟩ : ∃ x, x = nth (l.take N) P := ⟨_, rfl⟩
                obtain ⟨cv, hcv⟩ : ∃ cv, cv = cmN (l.take N) s (P - s) := ⟨_, rfl⟩
                rw [← hx] at hck
                have HX := Lib.hid hx
                have HCV := Lib.hid hcv
                rw [← hcv]
                clear hx hcv
                have HST' := Lib.hid (show cmN (l.take N) s (P + 1 - s) = stepC cv x by rw [HST.out, HX.out, HCV.out])
                have HG' := Lib.hid (show stepC cv x = true ∨ blkB x = true by rw [← HST'.out, HX.out]; exact HG.out)
                by_cases h35 : x = 35
                · subst h35
                  go_wp2
                  go_round
                  case rel => exact ⟨P + 1, by omega, by omega, by go_num, by rw [HST'.out]; rfl⟩
                  case measure => simp [intOf]; omega
                · by_cases h10 : x = 10
                  · subst h10
                    go_wp2
                    go_round
                    case rel => exact ⟨P + 1, by omega, by omega, by go_num, by rw [HST'.out]; rfl⟩
                    case measure => simp [intOf]; omega
                  · have b1 : (x == 35) = false := by simpa using h35
                    have b2 : (x == 10) = false := by simpa using h10
                    have HS2 := Lib.hid (show stepC cv x = cv by unfold stepC; rw [if_neg h10, if_neg h35])
                    cases cv with
                    | true =>
                      go_wp2
                      go_round
                      case rel => exact ⟨P + 1, by omega, by omega, by go_num, by rw [HST'.out, HS2.out]⟩
                      case measure => simp [intOf]; omega
                    | false =>
                      have hbl : x = 9 ∨ x = 13 ∨ x = 32 := by
                        rcases HG'.out with h | h
                        · rw [HS2.out] at h; cases h
                        · unfold blkB at h; simp at h; omega
                      rcases hbl with rfl | rfl | rfl
                      all_goals
                        go_wp2
                        go_round
                        case rel => exact ⟨P + 1, by omega, by omega, by go_num, by rw [HST'.out]; rfl⟩
                        case measure => simp [intOf]; omega
            · obtain rfl : P = q := by omega
              obtain ⟨cf, hcf⟩ : ∃ cf, cf = cmN (l.take N) s (P - s) := ⟨_, rfl⟩
              rw [← hcf]
              have H6' := Lib.hid (show cf = true → K = 4 from fun e => H6.out (by rw [← hcf]; exact e))
              clear hcf
              go_upto_region 22 with fail
              go_cut [185] (fun v wx => v = .bool false ∧ Below w2.heap.size w2 wx)
              case first =>
                as_aux_lemma =>
                  by_cases hcP : cap = P
                  · have hNP : N ≤ P := by omega
                    obtain rfl : tx = [] := List.eq_nil_of_length_eq_zero (by omega)
                    subst hcP
                    have hcv := fun nq => conv_nil (wc.drewN nq)
                    have y2' : wc.cell? ⟨g, k * 3 + 1, none⟩ = some (.string ⟨#[]⟩) := y2
                    clear y2
                    have e5 : IntKind.i64.wrap (cap : Int) = (cap : Int) := IntWalk.i64_in _ (by omega)
                    cases cf with
                    | true =>
                      have hK := H6'.out rfl
                      subst hK
                      go_quiet (fail)
                      go_wp2
                      go_meet
                      exact ⟨rfl, below_drew hbk2 _⟩
                    | false =>
                      go_quiet (fail)
                      go_wp2
                      go_meet
                      exact ⟨rfl, below_drew hbk2 _⟩
                  · have hcv := fun nq => conv_at (q := P) (tx := tx) (hrw.below (below_drew (Below.refl _ _) nq) (Nat.le_refl _)) H7.out
                    have e5 : IntKind.i64.wrap ((P : Int) + (tx.length : Int)) = (P : Int) + (tx.length : Int) := IntWalk.i64_in _ (by omega)
                    have i1 : (P : Int) ≤ (P : Int) + (tx.length : Int) := by omega
                    have i2 : (P : Int) + (tx.length : Int) ≤ (cap : Int) := by omega
                    have i3 : 0 ≤ (P : Int) + (tx.length : Int) := by omega
                    have i4 : ((P : Int) + (tx.length : Int)).toNat = P + tx.length := by omega
                    cases cf with
                    | true =>
                      have hK := H6'.out rfl
                      subst hK
                      go_quiet (fail)
                      go_wp2
                      go_meet
                      exact ⟨rfl, below_drew hbk2 _⟩
                    | false =>
                      go_quiet (fail)
                      go_wp2
                      go_meet
                      exact ⟨rfl, below_drew hbk2 _⟩
              case rest =>
                obtain ⟨rfl, hbk3⟩ := hcut
                clear y1 y2 y3
                obtain ⟨y1, y2, y3⟩ := (ht1.past hbk3).2 k _ HT.out
                simp only at y1 y2 y3
                clear hbk2
                have e5 : IntKind.i64.wrap ((P : Int) + (tx.length : Int)) = (P : Int) + (tx.length : Int) := IntWalk.i64_in _ (by omega)
                go_wp2_with fail
                go_quiet (fail)
                clear e5
                go_wp2
                go_roundw
                case rel => exact ⟨k + 1, P + tx.length, _, by omega, by go_num, by go_num, rfl, ⟨HPL'.out, f2, fun hkj => by
                  cases cf with
                  | true => exact absurd (H4.out.1 (H6'.out rfl)) (by omega)
                  | false => rfl⟩, below_drew hbk3 _⟩
                case measure => simp [intOf]; omega
      · obtain rfl : k = j + 1 := by omega
        have x1 := ((ht1.past hbk).2 j ⟨4, [], N⟩ (fin_last HM.out)).2.2
        simp only at x1
        have hj0 : 0 < j + 1 := by omega
        go_wp2
        go_ret
        exact ⟨rfl, h2.below hbk⟩

end Go.Proofs.Ytldakohmcmcfjaa
