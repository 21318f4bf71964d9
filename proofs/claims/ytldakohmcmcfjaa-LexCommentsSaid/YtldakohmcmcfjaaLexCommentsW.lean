/-
  LexComments: at every two rows of bytes the statement's function tells true. The walk.
-/
import Derived.Test.YtldakohmcmcfjaaLexA
namespace Go.Proofs.Ytldakohmcmcfjaa
open Go Go.RowKit Go.Lib

/-- The bytes that are no line's end. -/
def noNl (l : List UInt8) : List UInt8 := l.filter fun c => !(bv c == 10)
theorem noNl_le (l : List UInt8) : (noNl l).length ≤ l.length := List.length_filter_le _ _
theorem noNl_snoc (l : List UInt8) (c : UInt8) : noNl (l ++ [c]) = if bv c = 10 then noNl l else noNl l ++ [c] := by
  unfold noNl
  rw [List.filter_append]
  by_cases h : bv c = 10 <;> simp [h]
theorem noNl_no (l : List UInt8) : ∀ c ∈ noNl l, c ≠ 10 := by
  intro c hc e
  subst e
  unfold noNl at hc
  have := (List.mem_filter.1 hc).2
  revert this; decide
theorem take_snoc {l : List UInt8} {k : Nat} (h : k < l.length) : l.take (k + 1) = l.take k ++ [l.getD k 0] := by
  rw [List.take_succ_eq_append_getElem h, List.getD_eq_getElem?_getD, List.getElem?_eq_getElem h]; rfl
theorem lexS_hash (z : List UInt8) (hz : ∀ c ∈ z, c ≠ 10) (q : Nat) : lexS q (35 :: z) = .ok [] := by
  have h : ∀ c ∈ (35 :: z : List UInt8), c ≠ 10 := by
    intro c hc
    rcases List.mem_cons.1 hc with rfl | hc
    · decide
    · exact hz c hc
  rw [lexS_comm, commL_none _ h, List.drop_length, lexS_nil]
theorem lexS_comment {b z : List UInt8} {ts : List Tok} (hb : lexS 0 b = .ok ts) (hz : ∀ c ∈ z, c ≠ 10) : lexS 0 (b ++ 35 :: z) = .ok ts := by
  have h : ∀ c ∈ (35 :: z : List UInt8), c ≠ 10 := by
    intro c hc
    rcases List.mem_cons.1 hc with rfl | hc
    · decide
    · exact hz c hc
  rw [lexS_app b.length 0 b (35 :: z) ts (Nat.le_refl _) hb (parted_35 z) (.inr (.inl ⟨h, lexS_hash z hz⟩)), lexS_hash z hz]
  simp [Res.app]
/-- What the statement lexes behind k bytes of the comment. -/
def outL (b lc : List UInt8) (k : Nat) : List UInt8 := [] ++ b ++ [35] ++ noNl (lc.take k)
theorem outL_eq (b lc : List UInt8) (k : Nat) : outL b lc k = b ++ 35 :: noNl (lc.take k) := by unfold outL; simp
theorem outL_le (b lc : List UInt8) (k N : Nat) (h : b.length = N) : (outL b lc k).length ≤ N + 1 + k := by
  have h1 := noNl_le (lc.take k)
  have h2 := List.length_take_le k lc
  rw [outL_eq]; simp; omega
theorem outL_snoc (b : List UInt8) {lc : List UInt8} {k : Nat} (h : k < lc.length) : outL b lc (k + 1) = if nth lc k = 10 then outL b lc k else outL b lc k ++ [lc.getD k 0] := by
  unfold outL
  rw [take_snoc h, noNl_snoc]
  show _ = if bv (lc.getD k 0) = 10 then _ else _
  split <;> simp
theorem fin_both {ts : List Tok} {i j n k : Nat} (hi : i < j) (hj : ts.length + 1 = j + 1) : ∃ t, (fin ts n)[i]? = some t ∧ (fin ts k)[i]? = some t := by
  have hl : i < ts.length := by omega
  refine ⟨ts[i], ?_, ?_⟩ <;> (unfold fin; rw [List.getElem?_append_left hl]; simp [hl])

set_option maxHeartbeats 4000000 in
set_option maxRecDepth 100000 in
theorem comments_bad (A C : Option Addr) (n cap cn ccap N p : Nat) (l : List UInt8) (w : World) (hn : l.length = n) (hcap : n ≤ cap) (hm : cap ≤ 9223372036854775807) (hr : Row w A l) (hN : N = min n 1000) (hp : lexS 0 (l.take N) = .bad p) :
    Calls Try.prog 7 #[.slice A n cap, .slice C cn ccap] w fun e w' => e = .returned (.bool true) ∧ Fr w w' := by
  have hfr := Fr.refl w
  have HN := Lib.hid hN
  have hN1 : N ≤ 1000 := by omega
  have hN2 : N ≤ n := by omega
  have HL := Lib.hid (show (l.take N).length = N by rw [List.length_take]; omega)
  have HP := Lib.hid hp; clear hp
  clear hn hN
  go_enter Try.func7, Try.ntmps7
  go_upto_region 2 with (go_at_call 10; ((with_reducible refine (shown_fr w _ (by assumption)).mono ?_); rintro e w1 ⟨rfl, h1⟩))
  go_cut [0] (fun s wx => s = .slice A N cap ∧ wx = w1)
  case first =>
    go_wp2_with fail
    all_goals (go_meet; exact ⟨by have := HN.out; congr 1; omega, rfl⟩)
  case rest =>
    obtain ⟨rfl, rfl⟩ := hcut
    go_wp2_with (go_at_call 11; ((with_reducible refine (lex_no _ N _ (l.take N) p _ HL.out (by omega) (by omega) ((hr.fr h1).take N) HP.out).mono ?_); rintro e w2 ⟨rfl, hb2⟩))
    go_ret
    exact ⟨rfl, h1.below hb2⟩

set_option maxHeartbeats 4000000 in
set_option maxRecDepth 100000 in
theorem comments_ok (A C : Option Addr) (n cap cn ccap N m : Nat) (l lc : List UInt8) (ts : List Tok) (w : World) (hn : l.length = n) (hcap : n ≤ cap) (hm : cap ≤ 9223372036854775807) (hr : Row w A l) (hA : A = none → cap = 0)
    (hcn : lc.length = cn) (hccap : cn ≤ ccap) (hcm : ccap ≤ 9223372036854775807) (hrc : Row w C lc)
    (hN : N = min n 1000) (hp : lexS 0 (l.take N) = .ok ts) (hmt : ts.length + 1 = m) (hm1 : m ≤ 1001) :
    Calls Try.prog 7 #[.slice A n cap, .slice C cn ccap] w fun e w' => e = .returned (.bool true) ∧ Fr w w' := by
  have hfr := Fr.refl w
  have HN := Lib.hid hN
  have hN1 : N ≤ 1000 := by omega
  have hN2 : N ≤ n := by omega
  have HL := Lib.hid (show (l.take N).length = N by rw [List.length_take]; omega)
  have HP := Lib.hid hp; clear hp
  have HM := Lib.hid hmt; clear hmt
  have HC := Lib.hid hcn
  have HA := Lib.hid hA
  clear hn hN hcn hA
  go_enter Try.func7, Try.ntmps7
  go_upto_region 2 with (go_at_call 10; ((with_reducible refine (shown_fr w _ (by assumption)).mono ?_); rintro e w1 ⟨rfl, h1⟩))
  go_cut [0] (fun s wx => s = .slice A N cap ∧ wx = w1)
  case first =>
    go_wp2_with fail
    all_goals (go_meet; exact ⟨by have := HN.out; congr 1; omega, rfl⟩)
  case rest =>
    obtain ⟨rfl, rfl⟩ := hcut
    go_wp2_with (first
      | (go_at_call 11; ((with_reducible refine (lex_ok _ N _ m (l.take N) ts _ HL.out (by omega) (by omega) ((hr.fr h1).take N) HP.out HM.out).mono ?_); rintro e w2 ⟨g, c1, rfl, hg, hc1, ht1, hb2⟩; have h2 := h1.below hb2; have hB0 := bown_new w2))
      | (at_builtin; refine wp_app (l2 := l.take N) rfl rfl hB0 rfl rfl (((hr.fr h1).take N).below hb2 (Nat.le_refl _) |>.fr ((Fr.refl w2).alloc _)) HL.out (by omega) (fun e => HA.out e) (by simp; omega) ?_; intro v1 w3 hB1 hG1)
      | (at_builtin; refine wp_app (l2 := [35]) rfl rfl (hB1.alloc _) rfl rfl (row_new _ [35] _ _ rfl) rfl (by decide) (fun e => by cases e) (by have := HL.out; simp; omega) ?_; intro v2 w4 hB2 hG2))
    clear hG1 hG2 hB1 hB0
    go_loopw [9, 10] (fun o i wr => ∃ k : Nat, k ≤ cn ∧ k ≤ 100 ∧ i = .int .i64 k ∧ BOwn w2 wr o (outL (l.take N) lc k)) (fun _ i _ => 100 - (intOf i).toNat)
    case atStart => exact ⟨0, Nat.zero_le _, Nat.zero_le _, rfl, by rw [show outL (l.take N) lc 0 = [] ++ l.take N ++ [35] by simp [outL, noNl]]; exact hB2⟩
    case round =>
      obtain ⟨k, hk, hk100, rfl, hB⟩ := hrel
      have HO := Lib.hid (outL_le (l.take N) lc k N HL.out)
      by_cases hlt : k < cn ∧ k < 100
      · obtain ⟨hlt1, hlt2⟩ := hlt
        obtain ⟨b, o, rfl, hb, hc⟩ := ((hrc.fr h2).fr hB.fr) (by rw [HC.out]; omega)
        have hck := hc k (by rw [HC.out]; omega)
        clear hc
        have hki : (k : Int) < (cn : Int) := by omega
        have hki2 : (k : Int) < 100 := by omega
        have HS := Lib.hid (outL_snoc (l.take N) (lc := lc) (k := k) (by rw [HC.out]; exact hlt1))
        by_cases h10 : nth lc k = 10
        · have hb1 : (nth lc k == 10) = true := by simp [h10]
          have hb2 : (nth lc k != 10) = false := by simp [h10]
          have HS' := Lib.hid (HS.out.trans (if_pos h10))
          clear HS
          have H10 := Lib.hid h10
          clear h10
          go_wp2
          go_roundw
          case rel => exact ⟨k + 1, by omega, by omega, by go_num, by rw [HS'.out]; exact hB⟩
          case measure => simp [intOf]; omega
        · have hb1 : (nth lc k == 10) = false := by simp [h10]
          have hb2 : (nth lc k != 10) = true := by simp [h10]
          have HS' := Lib.hid (HS.out.trans (if_neg h10))
          clear HS h10
          go_wp2_with (at_builtin; refine wp_app (l2 := [lc.getD k 0]) rfl rfl (hB.alloc _) rfl rfl (row_new _ [lc.getD k 0] _ _ rfl) rfl (by decide) (fun e => by cases e) (by have := HO.out; omega) ?_; intro v5 w5 hB5 hG5)
          go_roundw
          case rel => exact ⟨k + 1, by omega, by omega, by go_num, by rw [HS'.out]; exact hB5⟩
          case measure => simp [intOf]; omega
      · obtain ⟨gx, cx, rfl, hgx1, hgx2, hcx, hrx⟩ := hB.row
        have h5 : Fr w wr := h2.below hB.fr
        have HOK := Lib.hid (show lexS 0 (outL (l.take N) lc k) = .ok ts by rw [outL_eq]; exact lexS_comment HP.out (noNl_no (lc.take k)))
        obtain ⟨X, hX⟩ : ∃ X, X = (outL (l.take N) lc k).length := ⟨_, rfl⟩
        have HX := Lib.hid hX
        rw [← hX] at hcx ⊢
        clear hX
        have hX1 : X ≤ 1101 := by have h := HO.out; have := HX.out; omega
        have TL0 := ht1.past hB.fr
        by_cases hq : k < cn
        all_goals
          go_wp2_with (go_at_call 11; ((with_reducible refine (lex_ok _ X _ m (outL (l.take N) lc k) ts _ HX.out.symm (by omega) (by omega) hrx HOK.out HM.out).mono ?_); rintro e w6 ⟨g6, c6, rfl, hg6, hc6, ht6, hb6⟩))
          have TL := TL0.past hb6
          have x1 : w6.cell? ⟨g6, (m - 1) * 3 + 2, none⟩ = some (.int .i64 X) := (ht6.2 (m - 1) ⟨4, [], X⟩ (fin_last (by have := HM.out; omega))).2.2
          obtain ⟨j, hj⟩ : ∃ j, m = j + 1 := ⟨m - 1, by have := HM.out; omega⟩
          subst hj
          rw [Nat.add_sub_cancel] at x1
          have hjw : IntKind.i64.wrap (((j + 1 : Nat) : Int) - 1) = (j : Int) := by rw [IntWalk.i64_in _ (by omega)]; omega
          go_loopw [14] (fun i wr => ∃ k : Nat, k ≤ j ∧ i = .int .i64 k ∧ Below w6.heap.size w6 wr) (fun i _ => j - (intOf i).toNat)
          case atStart => exact ⟨0, Nat.zero_le _, rfl, Below.refl _ _⟩
          case round =>
            obtain ⟨k', hk', rfl, hbk⟩ := hrel
            by_cases hlt : k' < j
            · obtain ⟨t, htx, htl⟩ := fin_both (n := X) (k := N) hlt HM.out
              obtain ⟨y1, y2, y3⟩ := (ht6.past hbk).2 k' t htx
              obtain ⟨z1, z2, z3⟩ := (TL.past hbk).2 k' t htl
              have hk1 : (k' : Int) < ((j + 1 : Nat) : Int) := by omega
              have hk2 : (k' : Int) < (j : Int) := by omega
              clear htx htl
              go_wp2
              go_quiet (fail)
              go_wp2
              go_roundw
              case rel => exact ⟨k' + 1, by omega, by go_num, by first | exact hbk | exact below_drew hbk _⟩
              case measure => simp [intOf]; omega
            · have x2 := (hbk.cell (p := ⟨g6, j * 3 + 2, none⟩) ht6.1).trans x1
              go_wp2
              go_ret
              exact ⟨rfl, (h5.below hb6).below hbk⟩

theorem comments_walk (A : Option Addr) (n cap : Nat) (l : List UInt8) (C : Option Addr) (cn ccap : Nat) (lc : List UInt8) (w : World) (hn : l.length = n) (hcap : n ≤ cap) (hm : cap ≤ 9223372036854775807) (hr : Row w A l) (hA : A = none → cap = 0)
    (hcn : lc.length = cn) (hccap : cn ≤ ccap) (hcm : ccap ≤ 9223372036854775807) (hrc : Row w C lc) (_ : C = none → ccap = 0) :
    Calls Try.prog 7 #[.slice A n cap, .slice C cn ccap] w fun e w' => e = .returned (.bool true) ∧ Fr w w' := by
  cases hp : lexS 0 (l.take (min n 1000)) with
  | bad p => exact comments_bad A C n cap cn ccap _ p l w hn hcap hm hr rfl hp
  | ok ts =>
    have := toks_le l.length.succ 0 (l.take (min n 1000)) ts (by rw [List.length_take]; omega) hp
    rw [List.length_take] at this
    exact comments_ok A C n cap cn ccap _ _ l lc ts w hn hcap hm hr hA hcn hccap hcm hrc rfl hp rfl (by omega)

end Go.Proofs.Ytldakohmcmcfjaa
