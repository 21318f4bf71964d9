/-
  LexCuts: at every bytes and number the statement's function tells true. The walk.
-/
import Derived.Test.YtldakohmcmcfjaaLexS
import Derived.Test.YtldakohmcmcfjaaLexM
namespace Go.Proofs.Ytldakohmcmcfjaa
open Go Go.RowKit Go.Lib

def pat (a : Int) : Nat := (a % 18446744073709551616).toNat
theorem pat_toNat (a : Int) : (BitVec.ofInt 64 a).toNat = pat a := by rw [BitVec.toNat_ofInt]; rfl
theorem low16 (a : Int) : 0 ≤ bits BinOp.and IntKind.i64 a 65535 ∧ bits BinOp.and IntKind.i64 a 65535 ≤ 65535 := by
  have e : bits BinOp.and IntKind.i64 a 65535 = wrap64 ((pat a &&& pat 65535 : Nat) : Int) := by
    show IntKind.i64.wrap ((BitVec.ofInt 64 a &&& BitVec.ofInt 64 65535).toNat : Int) = _
    rw [BitVec.toNat_and, pat_toNat, pat_toNat, IntWalk.i64_left]
  have h : pat a &&& pat 65535 ≤ 65535 := Nat.and_le_right
  rw [e]
  unfold wrap64
  omega

theorem Row.take {w : World} {A : Option Addr} {l : List UInt8} (h : Row w A l) (k : Nat) : Row w A (l.take k) := by
  intro h0
  rw [List.length_take] at h0
  obtain ⟨b, o, e, hb, hc⟩ := h (by omega)
  refine ⟨b, o, e, hb, fun i hi => ?_⟩
  rw [List.length_take] at hi
  rw [nth_take (by omega)]
  exact hc i (by omega)
theorem Row.below {w w' : World} {B : Nat} {A : Option Addr} {l : List UInt8} (h : Row w A l) (hb : Below B w w') (hB : w.heap.size ≤ B) : Row w' A l := by
  intro h0
  obtain ⟨b, o, e, hb', hc⟩ := h h0
  exact ⟨b, o, e, Nat.lt_of_lt_of_le hb' hb.size, fun i hi => (hb.cell (by simp only; omega)).trans (hc i hi)⟩
theorem Row.fr {w w' : World} {A : Option Addr} {l : List UInt8} (h : Row w A l) (hb : Fr w w') : Row w' A l := h.below hb (Nat.le_refl _)


theorem below_drew {B : Nat} {a w : World} (h : Below B a w) (n : Nat) : Below B a (w.drewN n) := h.trans ⟨rfl, rfl, rfl, Nat.le_refl _, fun _ _ => rfl⟩
theorem toks_le : ∀ (f p : Nat) (l : List UInt8) (ts : List Tok), l.length ≤ f → lexS p l = .ok ts → ts.length ≤ l.length
  | f, p, [], ts, _, h => by rw [lexS_nil] at h; injection h with h; subst h; exact Nat.le_refl _
  | 0, p, c :: r, ts, hf, _ => by simp at hf
  | f + 1, p, c :: r, ts, hf, h => by
    simp only [List.length_cons] at hf ⊢
    rcases ok_ways h with ⟨_, h2⟩ | ⟨h1, h2⟩ | ⟨h1, h2, h3, h4, ts', h5, rfl⟩
    · have := toks_le f _ r ts (by omega) h2; omega
    · have hm1 : 1 ≤ commL (c :: r) := by rw [commL_cons, if_neg (by rw [h1]; decide)]; omega
      have hd : ((c :: r).drop (commL (c :: r))).length = r.length + 1 - commL (c :: r) := by simp
      have := toks_le f _ _ ts (by rw [hd]; omega) h2; rw [hd] at this; omega
    · have hn1 := firstN_pos (c := c) (l := r) (fun e => h3 (.inl e))
      have hd : ((c :: r).drop (firstN (c :: r))).length = r.length + 1 - firstN (c :: r) := by simp
      have hn2 : firstN (c :: r) ≤ (c :: r).length := firstN_le
      simp only [List.length_cons] at hn2
      have := toks_le f _ _ ts' (by rw [hd]; omega) h5; rw [hd] at this
      simp only [List.length_cons]; omega
theorem fin_last {ts : List Tok} {j n : Nat} (h : ts.length + 1 = j + 1) : (fin ts n)[j]? = some ⟨4, [], n⟩ := by
  obtain rfl : ts.length = j := by omega
  simp [fin]
theorem fin_take {ts : List Tok} {i j n k : Nat} (hi : i < j) (hj : (ts.take j).length + 1 = j + 1) : ∃ t, ts[i]? = some t ∧ (fin (ts.take j) n)[i]? = some t ∧ (fin ts k)[i]? = some t := by
  rw [List.length_take] at hj
  have hl : i < ts.length := by omega
  refine ⟨ts[i], by simp [hl], ?_, ?_⟩
  · unfold fin; rw [List.getElem?_append_left (by rw [List.length_take]; omega)]; simp [hl, hi]
  · unfold fin; rw [List.getElem?_append_left hl]; simp [hl]

set_option maxHeartbeats 4000000 in
set_option maxRecDepth 100000 in
theorem cuts_bad_a (A : Option Addr) (n cap p : Nat) (l : List UInt8) (at_ : Int) (w : World) (hn : l.length = n) (hcap : n ≤ cap) (hm : cap ≤ 9223372036854775807) (hr : Row w A l) (hN : (n : Int) ≤ 2000) (hp : lexS 0 (l.take n) = .bad p) :
    Calls Try.prog 9 #[.slice A n cap, .int .i64 at_] w fun e w' => e = .returned (.bool true) ∧ Fr w w' := by
  have hfr := Fr.refl w
  have HL := Lib.hid (show (l.take n).length = n by rw [List.length_take]; omega)
  have hN1 : n ≤ 2000 := by omega
  have HP := Lib.hid hp; clear hp
  clear hn
  go_enter Try.func9, Try.ntmps9
  go_wp2_with (first
    | (go_at_call 10; ((with_reducible refine (shown_fr w _ (by assumption)).mono ?_); rintro e w1 ⟨rfl, h1⟩))
    | (go_at_call 11; ((with_reducible refine (lex_no _ n _ (l.take n) p _ HL.out (by omega) (by omega) ((hr.fr h1).take n) HP.out).mono ?_); rintro e w2 ⟨rfl, hb2⟩)))
  go_ret
  exact ⟨rfl, h1.below hb2⟩

set_option maxHeartbeats 4000000 in
set_option maxRecDepth 100000 in
theorem cuts_ok_a (A : Option Addr) (n cap m j q : Nat) (l : List UInt8) (ts : List Tok) (at_ x : Int) (w : World) (hn : l.length = n) (hcap : n ≤ cap) (hm : cap ≤ 9223372036854775807) (hr : Row w A l) (hN : (n : Int) ≤ 2000) (hp : lexS 0 (l.take n) = .ok ts)
    (hmt : ts.length + 1 = m) (hm1 : m ≤ 2001) (hx : bits BinOp.and IntKind.i64 at_ 65535 = x) (hx0 : 0 ≤ x) (hx1 : x ≤ 65535) (hj : x % (m : Int) = (j : Int)) (hjm : j < m) (hq : q ≤ n)
    (hqt : ∃ t, (fin ts n)[j]? = some t ∧ t.at_ = q) (hq2 : lexS 0 (l.take q) = .ok (ts.take j)) :
    Calls Try.prog 9 #[.slice A n cap, .int .i64 at_] w fun e w' => e = .returned (.bool true) ∧ Fr w w' := by
  have hfr := Fr.refl w
  have HL := Lib.hid (show (l.take n).length = n by rw [List.length_take]; omega)
  have HL2 := Lib.hid (show (l.take q).length = q by rw [List.length_take]; omega)
  have HJ := Lib.hid (show (ts.take j).length + 1 = j + 1 by rw [List.length_take]; omega)
  have hN1 : n ≤ 2000 := by omega
  have HP := Lib.hid hp; clear hp
  have HQ := Lib.hid hq2; clear hq2
  have HQT := Lib.hid hqt; clear hqt
  have HM := Lib.hid hmt; clear hmt
  clear hn
  have hm0 : 0 < m := by omega
  go_enter Try.func9, Try.ntmps9
  go_wp2_with (first
    | (go_at_call 10; ((with_reducible refine (shown_fr w _ (by assumption)).mono ?_); rintro e w1 ⟨rfl, h1⟩))
    | (go_at_call 11; ((with_reducible refine (lex_ok _ n _ m (l.take n) ts _ HL.out (by omega) (by omega) ((hr.fr h1).take n) HP.out HM.out).mono ?_); rintro e w2 ⟨g, c1, rfl, hg, hc1, ht1, hb2⟩; have h2 := h1.below hb2; (have hcq : w2.cell? ⟨g, j * 3 + 2, none⟩ = some (.int .i64 q) := by obtain ⟨t, ht, hta⟩ := HQT.out; rw [← hta]; exact (ht1.2 j t ht).2.2)))
    | (go_at_call 11; ((with_reducible refine (lex_ok _ q _ (j + 1) (l.take q) (ts.take j) _ HL2.out (by omega) (by omega) ((hr.fr h2).take q) HQ.out HJ.out).mono ?_); rintro e w3 ⟨g', c2, rfl, hg', hc2, ht2, hb3⟩)))
  have TX := ht2
  have TL := ht1.past hb3
  have x1 : w3.cell? ⟨g', j * 3, none⟩ = some (.int .i64 4) := (TX.2 j ⟨4, [], q⟩ (fin_last HJ.out)).1
  have x2 : w3.cell? ⟨g', j * 3 + 2, none⟩ = some (.int .i64 q) := (TX.2 j ⟨4, [], q⟩ (fin_last HJ.out)).2.2
  have x3 : w3.cell? ⟨g, j * 3 + 2, none⟩ = some (.int .i64 q) := (hb3.cell ht1.1).trans hcq
  have hw1 : IntKind.i64.wrap ((j : Int) + 1) = (j : Int) + 1 := IntWalk.i64_in _ (by omega)
  have hj1 : (j : Int) < ((j + 1 : Nat) : Int) := by omega
  have hj2 : (j : Int) < (m : Int) := by omega
  go_quiet (fail)
  clear hw1
  go_wp2
  go_loopw [12] (fun i wr => ∃ k : Nat, k ≤ j ∧ i = .int .i64 k ∧ Below w3.heap.size w3 wr) (fun i _ => j - (intOf i).toNat)
  case atStart => exact ⟨0, Nat.zero_le _, rfl, by first | exact Below.refl _ _ | exact below_drew (Below.refl _ _) _⟩
  case round =>
    obtain ⟨k, hk, rfl, hbk⟩ := hrel
    by_cases hlt : k < j
    · obtain ⟨t, ht, htx, htl⟩ := fin_take (n := q) (k := n) hlt HJ.out
      obtain ⟨y1, y2, y3⟩ := (TX.past hbk).2 k t htx
      obtain ⟨z1, z2, z3⟩ := (TL.past hbk).2 k t htl
      have hk1 : (k : Int) < ((j + 1 : Nat) : Int) := by omega
      have hk2 : (k : Int) < (m : Int) := by omega
      clear ht htx htl
      go_wp2
      go_quiet (fail)
      go_wp2
      go_roundw
      case rel => exact ⟨k + 1, by omega, by go_num, by first | exact hbk | exact below_drew hbk _⟩
      case measure => simp [intOf]; omega
    · go_wp2
      go_ret
      exact ⟨rfl, (h2.below hb3).below hbk⟩

set_option maxHeartbeats 4000000 in
set_option maxRecDepth 100000 in
theorem cuts_bad_b (A : Option Addr) (n cap p : Nat) (l : List UInt8) (at_ : Int) (w : World) (hn : l.length = n) (hcap : n ≤ cap) (hm : cap ≤ 9223372036854775807) (hr : Row w A l) (hN : 2000 < (n : Int)) (hp : lexS 0 (l.take 2000) = .bad p) :
    Calls Try.prog 9 #[.slice A n cap, .int .i64 at_] w fun e w' => e = .returned (.bool true) ∧ Fr w w' := by
  have hfr := Fr.refl w
  have HL := Lib.hid (show (l.take 2000).length = 2000 by rw [List.length_take]; omega)
  have hN1 : 2000 < n := by omega
  have HP := Lib.hid hp; clear hp
  clear hn
  go_enter Try.func9, Try.ntmps9
  go_wp2_with (first
    | (go_at_call 10; ((with_reducible refine (shown_fr w _ (by assumption)).mono ?_); rintro e w1 ⟨rfl, h1⟩))
    | (go_at_call 11; ((with_reducible refine (lex_no _ 2000 _ (l.take 2000) p _ HL.out (by omega) (by omega) ((hr.fr h1).take 2000) HP.out).mono ?_); rintro e w2 ⟨rfl, hb2⟩)))
  go_ret
  exact ⟨rfl, h1.below hb2⟩

set_option maxHeartbeats 4000000 in
set_option maxRecDepth 100000 in
theorem cuts_ok_b (A : Option Addr) (n cap m j q : Nat) (l : List UInt8) (ts : List Tok) (at_ x : Int) (w : World) (hn : l.length = n) (hcap : n ≤ cap) (hm : cap ≤ 9223372036854775807) (hr : Row w A l) (hN : 2000 < (n : Int)) (hp : lexS 0 (l.take 2000) = .ok ts)
    (hmt : ts.length + 1 = m) (hm1 : m ≤ 2001) (hx : bits BinOp.and IntKind.i64 at_ 65535 = x) (hx0 : 0 ≤ x) (hx1 : x ≤ 65535) (hj : x % (m : Int) = (j : Int)) (hjm : j < m) (hq : q ≤ 2000)
    (hqt : ∃ t, (fin ts 2000)[j]? = some t ∧ t.at_ = q) (hq2 : lexS 0 (l.take q) = .ok (ts.take j)) :
    Calls Try.prog 9 #[.slice A n cap, .int .i64 at_] w fun e w' => e = .returned (.bool true) ∧ Fr w w' := by
  have hfr := Fr.refl w
  have HL := Lib.hid (show (l.take 2000).length = 2000 by rw [List.length_take]; omega)
  have HL2 := Lib.hid (show (l.take q).length = q by rw [List.length_take]; omega)
  have HJ := Lib.hid (show (ts.take j).length + 1 = j + 1 by rw [List.length_take]; omega)
  have hN1 : 2000 < n := by omega
  have HP := Lib.hid hp; clear hp
  have HQ := Lib.hid hq2; clear hq2
  have HQT := Lib.hid hqt; clear hqt
  have HM := Lib.hid hmt; clear hmt
  clear hn
  have hm0 : 0 < m := by omega
  go_enter Try.func9, Try.ntmps9
  go_wp2_with (first
    | (go_at_call 10; ((with_reducible refine (shown_fr w _ (by assumption)).mono ?_); rintro e w1 ⟨rfl, h1⟩))
    | (go_at_call 11; ((with_reducible refine (lex_ok _ 2000 _ m (l.take 2000) ts _ HL.out (by omega) (by omega) ((hr.fr h1).take 2000) HP.out HM.out).mono ?_); rintro e w2 ⟨g, c1, rfl, hg, hc1, ht1, hb2⟩; have h2 := h1.below hb2; (have hcq : w2.cell? ⟨g, j * 3 + 2, none⟩ = some (.int .i64 q) := by obtain ⟨t, ht, hta⟩ := HQT.out; rw [← hta]; exact (ht1.2 j t ht).2.2)))
    | (go_at_call 11; ((with_reducible refine (lex_ok _ q _ (j + 1) (l.take q) (ts.take j) _ HL2.out (by omega) (by omega) ((hr.fr h2).take q) HQ.out HJ.out).mono ?_); rintro e w3 ⟨g', c2, rfl, hg', hc2, ht2, hb3⟩)))
  have TX := ht2
  have TL := ht1.past hb3
  have x1 : w3.cell? ⟨g', j * 3, none⟩ = some (.int .i64 4) := (TX.2 j ⟨4, [], q⟩ (fin_last HJ.out)).1
  have x2 : w3.cell? ⟨g', j * 3 + 2, none⟩ = some (.int .i64 q) := (TX.2 j ⟨4, [], q⟩ (fin_last HJ.out)).2.2
  have x3 : w3.cell? ⟨g, j * 3 + 2, none⟩ = some (.int .i64 q) := (hb3.cell ht1.1).trans hcq
  have hw1 : IntKind.i64.wrap ((j : Int) + 1) = (j : Int) + 1 := IntWalk.i64_in _ (by omega)
  have hj1 : (j : Int) < ((j + 1 : Nat) : Int) := by omega
  have hj2 : (j : Int) < (m : Int) := by omega
  go_quiet (fail)
  clear hw1
  go_wp2
  go_loopw [12] (fun i wr => ∃ k : Nat, k ≤ j ∧ i = .int .i64 k ∧ Below w3.heap.size w3 wr) (fun i _ => j - (intOf i).toNat)
  case atStart => exact ⟨0, Nat.zero_le _, rfl, by first | exact Below.refl _ _ | exact below_drew (Below.refl _ _) _⟩
  case round =>
    obtain ⟨k, hk, rfl, hbk⟩ := hrel
    by_cases hlt : k < j
    · obtain ⟨t, ht, htx, htl⟩ := fin_take (n := q) (k := 2000) hlt HJ.out
      obtain ⟨y1, y2, y3⟩ := (TX.past hbk).2 k t htx
      obtain ⟨z1, z2, z3⟩ := (TL.past hbk).2 k t htl
      have hk1 : (k : Int) < ((j + 1 : Nat) : Int) := by omega
      have hk2 : (k : Int) < (m : Int) := by omega
      clear ht htx htl
      go_wp2
      go_quiet (fail)
      go_wp2
      go_roundw
      case rel => exact ⟨k + 1, by omega, by go_num, by first | exact hbk | exact below_drew hbk _⟩
      case measure => simp [intOf]; omega
    · go_wp2
      go_ret
      exact ⟨rfl, (h2.below hb3).below hbk⟩

theorem cuts_walk (A : Option Addr) (n cap : Nat) (l : List UInt8) (at_ : Int) (w : World) (hn : l.length = n) (hcap : n ≤ cap) (hm : cap ≤ 9223372036854775807) (hr : Row w A l) :
    Calls Try.prog 9 #[.slice A n cap, .int .i64 at_] w fun e w' => e = .returned (.bool true) ∧ Fr w w' := by
  obtain ⟨x0, x1⟩ := low16 at_
  have key : ∀ (N : Nat) (ts : List Tok), N ≤ n → lexS 0 (l.take N) = .ok ts → N ≤ 2000 → ∃ j q : Nat, bits BinOp.and IntKind.i64 at_ 65535 % ((ts.length + 1 : Nat) : Int) = (j : Int) ∧ j < ts.length + 1 ∧ ts.length + 1 ≤ 2001 ∧ q ≤ N ∧ (∃ t, (fin ts N)[j]? = some t ∧ t.at_ = q) ∧ lexS 0 (l.take q) = .ok (ts.take j) := by
    intro N ts hN hok hN2
    have hlen : (l.take N).length = N := by rw [List.length_take]; omega
    have h1 := Int.emod_nonneg (bits BinOp.and IntKind.i64 at_ 65535) (b := ((ts.length + 1 : Nat) : Int)) (by omega)
    have h2 := Int.emod_lt_of_pos (bits BinOp.and IntKind.i64 at_ 65535) (b := ((ts.length + 1 : Nat) : Int)) (by omega)
    obtain ⟨j, hj⟩ := Int.eq_ofNat_of_zero_le h1
    rw [hj] at h2
    have hjm : j < ts.length + 1 := by omega
    have hjl : j < (fin ts N).length := by rw [fin_length]; exact hjm
    have htl := toks_le N.succ 0 (l.take N) ts (by omega) hok
    obtain ⟨a, b, c⟩ := cut_ok N 0 (l.take N) ts (by omega) hok j (fin ts N)[j] (by rw [hlen, Nat.zero_add]; exact List.getElem?_eq_getElem hjl)
    rw [hlen] at b
    refine ⟨j, (fin ts N)[j].at_, hj, hjm, by omega, by omega, ⟨_, List.getElem?_eq_getElem hjl, rfl⟩, ?_⟩
    rw [Nat.sub_zero, List.take_take, Nat.min_eq_left (by omega)] at c
    exact c
  by_cases hN : (n : Int) ≤ 2000
  · cases hp : lexS 0 (l.take n) with
    | bad p => exact cuts_bad_a A n cap p l at_ w hn hcap hm hr hN hp
    | ok ts =>
      obtain ⟨j, q, h1, h2, h3, h4, h5, h6⟩ := key n ts (Nat.le_refl _) hp (by omega)
      exact cuts_ok_a A n cap _ j q l ts at_ _ w hn hcap hm hr hN hp rfl h3 rfl x0 x1 h1 h2 h4 h5 h6
  · cases hp : lexS 0 (l.take 2000) with
    | bad p => exact cuts_bad_b A n cap p l at_ w hn hcap hm hr (by omega) hp
    | ok ts =>
      obtain ⟨j, q, h1, h2, h3, h4, h5, h6⟩ := key 2000 ts (by omega) hp (by omega)
      exact cuts_ok_b A n cap _ j q l ts at_ _ w hn hcap hm hr (by omega) hp rfl h3 rfl x0 x1 h1 h2 h4 h5 h6

end Go.Proofs.Ytldakohmcmcfjaa
