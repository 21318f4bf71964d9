/-
  LexTells: at every bytes the statement's function tells true. The walk.
-/
import Derived.Test.YtldakohmcmcfjaaLexCutsW
import Derived.Test.YtldakohmcmcfjaaLexRefL
import Derived.Laws.AppendOwnNone
namespace Go.Proofs.Ytldakohmcmcfjaa
open Go Go.RowKit Go.Lib

theorem row_own {w : World} {B n e : Nat} {v : Value} {ts : List Tok} (h : w.ownsRow B e 3 v n (toks ts)) (hn : 0 < n) : ∃ g cap, v = .slice (some ⟨g, 0, none⟩) n cap ∧ B ≤ g ∧ n ≤ cap ∧ TokRow w g ts := by
  rcases h.2 with ⟨rfl, rfl⟩ | ⟨g, cap, cur, rfl, hg, hh, hnc, hrest⟩
  · omega
  · have hlt := h.lt g rfl
    refine ⟨g, cap, rfl, hg, hnc, hlt.2, fun i t ht => ?_⟩
    have hc := h.cells (g := g) rfl
    have e : ∀ j, (⟨g, 0, none⟩ : Addr).add j = ⟨g, j, none⟩ := fun j => by unfold Addr.add; split <;> simp_all
    obtain ⟨a1, a2, a3⟩ := toks_at ts i t ht
    exact ⟨by rw [← e]; exact hc _ _ a1, by rw [← e]; exact hc _ _ a2, by rw [← e]; exact hc _ _ a3⟩
theorem rlex_ok (s : ByteArray) (n m : Nat) (l : List UInt8) (ts : List Tok) (w : World) (hl : bs s = l) (hn : l.length = n) (hs : n ≤ 65536) (hok : lexS 0 l = .ok ts) (hm : ts.length + 1 = m) :
    Calls Try.prog 12 #[.string s] w fun e w' => ∃ g cap', e = .returned (.tuple #[.slice (some ⟨g, 0, none⟩) m cap', .int .i64 0, .int .i64 0]) ∧ w.heap.size ≤ g ∧ m ≤ cap' ∧ TokRow w' g (fin ts n) ∧ Below w.heap.size w w' := by
  subst hl hm hn
  refine (rlex_any s w (by rw [← bs_length]; exact hs)).mono fun e w' ⟨hb, h⟩ => ?_
  rcases h with ⟨p, h1, _⟩ | ⟨ts', v, h1, h2, h3⟩
  · rw [hok] at h1; cases h1
  · rw [hok] at h1
    injection h1 with h1
    subst h1
    obtain ⟨g, cap', rfl, h4, h5, h6⟩ := row_own h3 (by omega)
    exact ⟨g, cap', h2, h4, h5, h6, hb⟩
theorem rlex_no (s : ByteArray) (p : Nat) (l : List UInt8) (w : World) (hl : bs s = l) (hs : l.length ≤ 65536) (hok : lexS 0 l = .bad p) :
    Calls Try.prog 12 #[.string s] w fun e w' => e = .returned (.tuple #[.slice none 0 0, .int .i64 p, .int .i64 2]) ∧ Below w.heap.size w w' := by
  subst hl
  refine (rlex_any s w (by rw [← bs_length]; exact hs)).mono fun e w' ⟨hb, h⟩ => ?_
  rcases h with ⟨q, h1, h2⟩ | ⟨ts', v, h1, _⟩
  · rw [hok] at h1
    injection h1 with h1
    subst h1
    exact ⟨h2, hb⟩
  · rw [hok] at h1; cases h1

/-- The cells of bytes. -/
def byts (l : List UInt8) : List Value := l.map fun c => .int .u8 (bv c)
theorem byts_one (l : List UInt8) : ∀ u ∈ byts l, u.oneCell' = true := by
  intro u hu
  obtain ⟨c, _, rfl⟩ := List.mem_map.1 hu
  rfl
theorem byts_at {l : List UInt8} {j : Nat} {u : Value} (h : (byts l)[j]? = some u) : j < l.length ∧ u = .int .u8 (nth l j) := by
  unfold byts at h
  rw [List.getElem?_map] at h
  have hj : j < l.length := by
    rcases Nat.lt_or_ge j l.length with h' | h'
    · exact h'
    · rw [List.getElem?_eq_none h'] at h; cases h
  refine ⟨hj, ?_⟩
  rw [List.getElem?_eq_getElem hj] at h
  unfold nth
  rw [List.getD_eq_getElem?_getD, List.getElem?_eq_getElem hj]
  simpa using h.symm
theorem add_at (b o j : Nat) : (⟨b, o, none⟩ : Addr).add j = ⟨b, o + j, none⟩ := by unfold Addr.add; split <;> simp_all
/-- A row of bytes that the call has made. -/
theorem byte_row {w : World} {B N : Nat} {v : Value} {l : List UInt8} (h : w.ownsRow B 5 1 v N (byts l)) (hl : l.length = N) (hv : v ≠ .slice none 0 0) :
    ∃ g c, v = .slice (some ⟨g, 0, none⟩) N c ∧ B ≤ g ∧ g < w.heap.size ∧ N ≤ c ∧ Row w (some ⟨g, 0, none⟩) l := by
  rcases h.2 with ⟨rfl, rfl⟩ | ⟨g, cap, cur, rfl, hg, hh, hnc, hrest⟩
  · exact absurd rfl hv
  · have hlt := h.lt g rfl
    refine ⟨g, cap, rfl, hg, hlt.2, hnc, fun _ => ⟨g, 0, rfl, hlt.2, fun i hi => ?_⟩⟩
    have hc := h.cells (g := g) rfl i (.int .u8 (nth l i)) (by
      unfold byts nth
      rw [List.getElem?_map, List.getElem?_eq_getElem hi, List.getD_eq_getElem?_getD, List.getElem?_eq_getElem hi]; rfl)
    rw [add_at] at hc
    exact hc
theorem conv_row {w : World} {g N : Nat} {l : List UInt8} (hr : Row w (some ⟨g, 0, none⟩) l) (hl : l.length = N) :
    ∀ c, (convert 22 9 (.slice (some ⟨g, 0, none⟩) N c)).run Try.prog w = .ok (.string ⟨l.toArray⟩) w := by
  intro c
  subst hl
  refine run_convert_bytes_back (P := Try.prog) w 22 9 5 ⟨g, 0, none⟩ c l Try.underlying22 Try.underlying5 Try.underlying9 (fun j hj => ?_)
  obtain ⟨b, o, e, _, hc⟩ := hr (by omega)
  injection e with e
  injection e with e1 e2
  subst e1 e2
  rw [add_at, hc j hj]
  unfold nth bv
  rw [List.getD_eq_getElem?_getD, List.getElem?_eq_getElem hj]
  simp
theorem lex_nil (A : Option Addr) (cap : Nat) (w : World) :
    Calls Try.prog 11 #[.slice A 0 cap] w fun e w' => ∃ g cap', e = .returned (.tuple #[.slice (some ⟨g, 0, none⟩) 1 cap', .int .i64 0, .int .i64 0]) ∧ w.heap.size ≤ g ∧ 1 ≤ cap' ∧ TokRow w' g (fin [] 0) ∧ Below w.heap.size w w' :=
  lex_ok A 0 cap 1 [] [] w rfl (by omega) (Nat.zero_le _) (fun h => by simp at h) (lexS_nil 0) rfl
theorem rlex_nil (w : World) :
    Calls Try.prog 12 #[.string ⟨#[]⟩] w fun e w' => ∃ g cap', e = .returned (.tuple #[.slice (some ⟨g, 0, none⟩) 1 cap', .int .i64 0, .int .i64 0]) ∧ w.heap.size ≤ g ∧ 1 ≤ cap' ∧ TokRow w' g (fin [] 0) ∧ Below w.heap.size w w' :=
  rlex_ok ⟨#[]⟩ 0 1 [] [] w rfl rfl (by omega) (lexS_nil 0) rfl
theorem bs_mk (l : List UInt8) : bs ⟨l.toArray⟩ = l := by unfold bs; simp

set_option maxHeartbeats 4000000 in
set_option maxRecDepth 100000 in
theorem tells_bad_a (b o n cap p : Nat) (l : List UInt8) (w : World) (hn : l.length = n) (hcap : n ≤ cap) (hm : cap ≤ 9223372036854775807) (hbw : b < w.heap.size) (hc : ∀ i, i < l.length → w.cell? ⟨b, o + i, none⟩ = some (.int .u8 (nth l i))) (hN : (n : Int) ≤ 2000) (hp : lexS 0 (l.take n) = .bad p) :
    Calls Try.prog 3 #[.slice (some ⟨b, o, none⟩) n cap] w fun e w' => e = .returned (.bool true) ∧ Fr w w' := by
  have hfr := Fr.refl w
  obtain ⟨i0, hi, hz0, hz1, hz2⟩ := info_parts byteInfo
  have HL := Lib.hid (show (l.take n).length = n by rw [List.length_take]; omega)
  have HL' := Lib.hid (show (byts (l.take n)).length = n by unfold byts; rw [List.length_map]; exact HL.out)
  have HC := Lib.hid (show ∀ w1, Fr w w1 → ∀ j, j < (l.take n).length → (w1.alloc (.cells #[] 5)).cell? ⟨b, o + j, none⟩ = some (.int .u8 (nth (l.take n) j)) from fun w1 h1 j hj => by
    rw [HL.out] at hj
    rw [nth_take hj]
    exact ((h1.alloc _).cell hbw).trans (hc j (by omega)))
  have HP := Lib.hid hp; clear hp
  have hN1 : n ≤ 2000 := by omega
  clear hn hc
  go_enter Try.func3, Try.ntmps3
  go_wp2_with (first
    | (go_at_call 10; ((with_reducible refine (shown_fr w _ (by assumption)).mono ?_); rintro e w1 ⟨rfl, h1⟩))
    | (at_builtin; refine wpList_append_own _ rfl (.tmp 13) (.tmp 18) 22 rfl w1.heap.size 5 i0 _ 1 1 Try.underlying22 hi hz0 hz1 hz2 rfl (by decide) (.slice (some ⟨w1.heap.size, 0, none⟩) 0 0) 0 [] rfl (World.ownsRow_made w1 #[] 0 (Nat.le_refl _) (Nat.zero_le _) rfl) ⟨b, o, none⟩ n _ (byts (l.take n)) rfl (by have := HL'.out; omega) (fun j u hj => by obtain ⟨hj1, rfl⟩ := byts_at hj; rw [add_at]; exact HC.out w1 h1 j hj1) (byts_one _) (by unfold maxLen; omega) (by omega) (by simp) ?_; intro v1 w2 hown1 hgrow1 hnil1; obtain ⟨g, c1, rfl, hg1, hg2, hc1, hrow⟩ := byte_row (l := l.take n) (show w2.ownsRow w1.heap.size 5 1 v1 n (byts (l.take n)) from by first | exact hown1 | (rw [Nat.zero_add] at hown1; exact hown1)) HL.out (fun e => by have := hnil1.1 e; exact absurd this.1 (by simp)); have hcv := conv_row hrow HL.out; have h2 : Fr w w2 := Below.grown (h1.alloc _) hgrow1 (by have := h1.size; simp; omega) (fun j hj => by simp [Value.ownBlock] at hj; have := h1.size; omega); clear hown1 hgrow1 hnil1)
    | (go_at_call 11; ((with_reducible refine (lex_no _ n _ (l.take n) p _ HL.out (by omega) (by omega) hrow HP.out).mono ?_); rintro e w3 ⟨rfl, hb3⟩))
    | (go_at_call 12; ((with_reducible refine (rlex_no _ p (l.take n) _ (bs_mk _) (by rw [HL.out]; omega) HP.out).mono ?_); rintro e w4 ⟨rfl, hb4⟩)))
  go_loopw [11] (fun i wr => i = .int .i64 0 ∧ wr = w4) (fun i _ => 0)
  case atStart => exact ⟨rfl, rfl⟩
  case round =>
    obtain ⟨rfl, rfl⟩ := hrel
    have hcv4 := conv_row ((hrow.below hb3 (Nat.le_refl _)).below hb4 (Nat.le_refl _)) HL.out
    go_wp2
    go_ret
    exact ⟨rfl, (h2.below hb3).below hb4⟩

set_option maxHeartbeats 4000000 in
set_option maxRecDepth 100000 in
theorem tells_ok_a (b o n cap m : Nat) (l : List UInt8) (ts : List Tok) (w : World) (hn : l.length = n) (hcap : n ≤ cap) (hm : cap ≤ 9223372036854775807) (hbw : b < w.heap.size) (hc : ∀ i, i < l.length → w.cell? ⟨b, o + i, none⟩ = some (.int .u8 (nth l i))) (hN : (n : Int) ≤ 2000) (hp : lexS 0 (l.take n) = .ok ts) (hmt : ts.length + 1 = m) (hm1 : m ≤ 2001) :
    Calls Try.prog 3 #[.slice (some ⟨b, o, none⟩) n cap] w fun e w' => e = .returned (.bool true) ∧ Fr w w' := by
  have hfr := Fr.refl w
  obtain ⟨i0, hi, hz0, hz1, hz2⟩ := info_parts byteInfo
  have HL := Lib.hid (show (l.take n).length = n by rw [List.length_take]; omega)
  have HL' := Lib.hid (show (byts (l.take n)).length = n by unfold byts; rw [List.length_map]; exact HL.out)
  have HC := Lib.hid (show ∀ w1, Fr w w1 → ∀ j, j < (l.take n).length → (w1.alloc (.cells #[] 5)).cell? ⟨b, o + j, none⟩ = some (.int .u8 (nth (l.take n) j)) from fun w1 h1 j hj => by
    rw [HL.out] at hj
    rw [nth_take hj]
    exact ((h1.alloc _).cell hbw).trans (hc j (by omega)))
  have HP := Lib.hid hp; clear hp
  have hN1 : n ≤ 2000 := by omega
  clear hn hc
  have HM := Lib.hid hmt; clear hmt
  go_enter Try.func3, Try.ntmps3
  go_wp2_with (first
    | (go_at_call 10; ((with_reducible refine (shown_fr w _ (by assumption)).mono ?_); rintro e w1 ⟨rfl, h1⟩))
    | (at_builtin; refine wpList_append_own _ rfl (.tmp 13) (.tmp 18) 22 rfl w1.heap.size 5 i0 _ 1 1 Try.underlying22 hi hz0 hz1 hz2 rfl (by decide) (.slice (some ⟨w1.heap.size, 0, none⟩) 0 0) 0 [] rfl (World.ownsRow_made w1 #[] 0 (Nat.le_refl _) (Nat.zero_le _) rfl) ⟨b, o, none⟩ n _ (byts (l.take n)) rfl (by have := HL'.out; omega) (fun j u hj => by obtain ⟨hj1, rfl⟩ := byts_at hj; rw [add_at]; exact HC.out w1 h1 j hj1) (byts_one _) (by unfold maxLen; omega) (by omega) (by simp) ?_; intro v1 w2 hown1 hgrow1 hnil1; obtain ⟨g, c1, rfl, hg1, hg2, hc1, hrow⟩ := byte_row (l := l.take n) (show w2.ownsRow w1.heap.size 5 1 v1 n (byts (l.take n)) from by first | exact hown1 | (rw [Nat.zero_add] at hown1; exact hown1)) HL.out (fun e => by have := hnil1.1 e; exact absurd this.1 (by simp)); have hcv := conv_row hrow HL.out; have h2 : Fr w w2 := Below.grown (h1.alloc _) hgrow1 (by have := h1.size; simp; omega) (fun j hj => by simp [Value.ownBlock] at hj; have := h1.size; omega); clear hown1 hgrow1 hnil1)
    | (go_at_call 11; ((with_reducible refine (lex_ok _ n _ m (l.take n) ts _ HL.out (by omega) (by omega) hrow HP.out HM.out).mono ?_); rintro e w3 ⟨ga, ca, rfl, hga, hca, hta, hb3⟩))
    | (go_at_call 12; ((with_reducible refine (rlex_ok _ n m (l.take n) ts _ (bs_mk _) HL.out (by omega) HP.out HM.out).mono ?_); rintro e w4 ⟨gb, cb, rfl, hgb, hcb, htb, hb4⟩)))
  have TA := hta.past hb4
  go_loopw [11] (fun i wr => ∃ k : Nat, k ≤ m ∧ i = .int .i64 k ∧ Below w4.heap.size w4 wr) (fun i _ => m - (intOf i).toNat)
  case atStart => exact ⟨0, Nat.zero_le _, rfl, Below.refl _ _⟩
  case round =>
    obtain ⟨k, hk, rfl, hbk⟩ := hrel
    by_cases hlt : k < m
    · have hkl : k < (fin ts n).length := by rw [fin_length]; have := HM.out; omega
      obtain ⟨t, ht⟩ : ∃ t, (fin ts n)[k]? = some t := ⟨_, List.getElem?_eq_getElem hkl⟩
      obtain ⟨y1, y2, y3⟩ := (TA.past hbk).2 k t ht
      obtain ⟨z1, z2, z3⟩ := (htb.past hbk).2 k t ht
      have hk2 : (k : Int) < (m : Int) := by omega
      clear ht hkl
      go_wp2
      go_quiet (fail)
      go_wp2
      go_roundw
      case rel => exact ⟨k + 1, by omega, by go_num, by first | exact hbk | exact below_drew hbk _⟩
      case measure => simp [intOf]; omega
    · have hcv4 := conv_row (((hrow.below hb3 (Nat.le_refl _)).below hb4 (Nat.le_refl _)).below hbk (Nat.le_refl _)) HL.out
      go_wp2
      go_ret
      exact ⟨rfl, ((h2.below hb3).below hb4).below hbk⟩

set_option maxHeartbeats 4000000 in
set_option maxRecDepth 100000 in
theorem tells_bad_b (b o n cap p : Nat) (l : List UInt8) (w : World) (hn : l.length = n) (hcap : n ≤ cap) (hm : cap ≤ 9223372036854775807) (hbw : b < w.heap.size) (hc : ∀ i, i < l.length → w.cell? ⟨b, o + i, none⟩ = some (.int .u8 (nth l i))) (hN : 2000 < (n : Int)) (hp : lexS 0 (l.take 2000) = .bad p) :
    Calls Try.prog 3 #[.slice (some ⟨b, o, none⟩) n cap] w fun e w' => e = .returned (.bool true) ∧ Fr w w' := by
  have hfr := Fr.refl w
  obtain ⟨i0, hi, hz0, hz1, hz2⟩ := info_parts byteInfo
  have HL := Lib.hid (show (l.take 2000).length = 2000 by rw [List.length_take]; omega)
  have HL' := Lib.hid (show (byts (l.take 2000)).length = 2000 by unfold byts; rw [List.length_map]; exact HL.out)
  have HC := Lib.hid (show ∀ w1, Fr w w1 → ∀ j, j < (l.take 2000).length → (w1.alloc (.cells #[] 5)).cell? ⟨b, o + j, none⟩ = some (.int .u8 (nth (l.take 2000) j)) from fun w1 h1 j hj => by
    rw [HL.out] at hj
    rw [nth_take hj]
    exact ((h1.alloc _).cell hbw).trans (hc j (by omega)))
  have HP := Lib.hid hp; clear hp
  have hN1 : 2000 < n := by omega
  clear hn hc
  go_enter Try.func3, Try.ntmps3
  go_wp2_with (first
    | (go_at_call 10; ((with_reducible refine (shown_fr w _ (by assumption)).mono ?_); rintro e w1 ⟨rfl, h1⟩))
    | (at_builtin; refine wpList_append_own _ rfl (.tmp 13) (.tmp 18) 22 rfl w1.heap.size 5 i0 _ 1 1 Try.underlying22 hi hz0 hz1 hz2 rfl (by decide) (.slice (some ⟨w1.heap.size, 0, none⟩) 0 0) 0 [] rfl (World.ownsRow_made w1 #[] 0 (Nat.le_refl _) (Nat.zero_le _) rfl) ⟨b, o, none⟩ 2000 _ (byts (l.take 2000)) rfl (by have := HL'.out; omega) (fun j u hj => by obtain ⟨hj1, rfl⟩ := byts_at hj; rw [add_at]; exact HC.out w1 h1 j hj1) (byts_one _) (by unfold maxLen; omega) (by omega) (by simp) ?_; intro v1 w2 hown1 hgrow1 hnil1; obtain ⟨g, c1, rfl, hg1, hg2, hc1, hrow⟩ := byte_row (l := l.take 2000) (show w2.ownsRow w1.heap.size 5 1 v1 2000 (byts (l.take 2000)) from by first | exact hown1 | (rw [Nat.zero_add] at hown1; exact hown1)) HL.out (fun e => by have := hnil1.1 e; exact absurd this.1 (by simp)); have hcv := conv_row hrow HL.out; have h2 : Fr w w2 := Below.grown (h1.alloc _) hgrow1 (by have := h1.size; simp; omega) (fun j hj => by simp [Value.ownBlock] at hj; have := h1.size; omega); clear hown1 hgrow1 hnil1)
    | (go_at_call 11; ((with_reducible refine (lex_no _ 2000 _ (l.take 2000) p _ HL.out (by omega) (by omega) hrow HP.out).mono ?_); rintro e w3 ⟨rfl, hb3⟩))
    | (go_at_call 12; ((with_reducible refine (rlex_no _ p (l.take 2000) _ (bs_mk _) (by rw [HL.out]; omega) HP.out).mono ?_); rintro e w4 ⟨rfl, hb4⟩)))
  go_loopw [11] (fun i wr => i = .int .i64 0 ∧ wr = w4) (fun i _ => 0)
  case atStart => exact ⟨rfl, rfl⟩
  case round =>
    obtain ⟨rfl, rfl⟩ := hrel
    have hcv4 := conv_row ((hrow.below hb3 (Nat.le_refl _)).below hb4 (Nat.le_refl _)) HL.out
    go_wp2
    go_ret
    exact ⟨rfl, (h2.below hb3).below hb4⟩

set_option maxHeartbeats 4000000 in
set_option maxRecDepth 100000 in
theorem tells_ok_b (b o n cap m : Nat) (l : List UInt8) (ts : List Tok) (w : World) (hn : l.length = n) (hcap : n ≤ cap) (hm : cap ≤ 9223372036854775807) (hbw : b < w.heap.size) (hc : ∀ i, i < l.length → w.cell? ⟨b, o + i, none⟩ = some (.int .u8 (nth l i))) (hN : 2000 < (n : Int)) (hp : lexS 0 (l.take 2000) = .ok ts) (hmt : ts.length + 1 = m) (hm1 : m ≤ 2001) :
    Calls Try.prog 3 #[.slice (some ⟨b, o, none⟩) n cap] w fun e w' => e = .returned (.bool true) ∧ Fr w w' := by
  have hfr := Fr.refl w
  obtain ⟨i0, hi, hz0, hz1, hz2⟩ := info_parts byteInfo
  have HL := Lib.hid (show (l.take 2000).length = 2000 by rw [List.length_take]; omega)
  have HL' := Lib.hid (show (byts (l.take 2000)).length = 2000 by unfold byts; rw [List.length_map]; exact HL.out)
  have HC := Lib.hid (show ∀ w1, Fr w w1 → ∀ j, j < (l.take 2000).length → (w1.alloc (.cells #[] 5)).cell? ⟨b, o + j, none⟩ = some (.int .u8 (nth (l.take 2000) j)) from fun w1 h1 j hj => by
    rw [HL.out] at hj
    rw [nth_take hj]
    exact ((h1.alloc _).cell hbw).trans (hc j (by omega)))
  have HP := Lib.hid hp; clear hp
  have hN1 : 2000 < n := by omega
  clear hn hc
  have HM := Lib.hid hmt; clear hmt
  go_enter Try.func3, Try.ntmps3
  go_wp2_with (first
    | (go_at_call 10; ((with_reducible refine (shown_fr w _ (by assumption)).mono ?_); rintro e w1 ⟨rfl, h1⟩))
    | (at_builtin; refine wpList_append_own _ rfl (.tmp 13) (.tmp 18) 22 rfl w1.heap.size 5 i0 _ 1 1 Try.underlying22 hi hz0 hz1 hz2 rfl (by decide) (.slice (some ⟨w1.heap.size, 0, none⟩) 0 0) 0 [] rfl (World.ownsRow_made w1 #[] 0 (Nat.le_refl _) (Nat.zero_le _) rfl) ⟨b, o, none⟩ 2000 _ (byts (l.take 2000)) rfl (by have := HL'.out; omega) (fun j u hj => by obtain ⟨hj1, rfl⟩ := byts_at hj; rw [add_at]; exact HC.out w1 h1 j hj1) (byts_one _) (by unfold maxLen; omega) (by omega) (by simp) ?_; intro v1 w2 hown1 hgrow1 hnil1; obtain ⟨g, c1, rfl, hg1, hg2, hc1, hrow⟩ := byte_row (l := l.take 2000) (show w2.ownsRow w1.heap.size 5 1 v1 2000 (byts (l.take 2000)) from by first | exact hown1 | (rw [Nat.zero_add] at hown1; exact hown1)) HL.out (fun e => by have := hnil1.1 e; exact absurd this.1 (by simp)); have hcv := conv_row hrow HL.out; have h2 : Fr w w2 := Below.grown (h1.alloc _) hgrow1 (by have := h1.size; simp; omega) (fun j hj => by simp [Value.ownBlock] at hj; have := h1.size; omega); clear hown1 hgrow1 hnil1)
    | (go_at_call 11; ((with_reducible refine (lex_ok _ 2000 _ m (l.take 2000) ts _ HL.out (by omega) (by omega) hrow HP.out HM.out).mono ?_); rintro e w3 ⟨ga, ca, rfl, hga, hca, hta, hb3⟩))
    | (go_at_call 12; ((with_reducible refine (rlex_ok _ 2000 m (l.take 2000) ts _ (bs_mk _) HL.out (by omega) HP.out HM.out).mono ?_); rintro e w4 ⟨gb, cb, rfl, hgb, hcb, htb, hb4⟩)))
  have TA := hta.past hb4
  go_loopw [11] (fun i wr => ∃ k : Nat, k ≤ m ∧ i = .int .i64 k ∧ Below w4.heap.size w4 wr) (fun i _ => m - (intOf i).toNat)
  case atStart => exact ⟨0, Nat.zero_le _, rfl, Below.refl _ _⟩
  case round =>
    obtain ⟨k, hk, rfl, hbk⟩ := hrel
    by_cases hlt : k < m
    · have hkl : k < (fin ts 2000).length := by rw [fin_length]; have := HM.out; omega
      obtain ⟨t, ht⟩ : ∃ t, (fin ts 2000)[k]? = some t := ⟨_, List.getElem?_eq_getElem hkl⟩
      obtain ⟨y1, y2, y3⟩ := (TA.past hbk).2 k t ht
      obtain ⟨z1, z2, z3⟩ := (htb.past hbk).2 k t ht
      have hk2 : (k : Int) < (m : Int) := by omega
      clear ht hkl
      go_wp2
      go_quiet (fail)
      go_wp2
      go_roundw
      case rel => exact ⟨k + 1, by omega, by go_num, by first | exact hbk | exact below_drew hbk _⟩
      case measure => simp [intOf]; omega
    · have hcv4 := conv_row (((hrow.below hb3 (Nat.le_refl _)).below hb4 (Nat.le_refl _)).below hbk (Nat.le_refl _)) HL.out
      go_wp2
      go_ret
      exact ⟨rfl, ((h2.below hb3).below hb4).below hbk⟩

set_option maxHeartbeats 4000000 in
set_option maxRecDepth 100000 in
theorem tells_some (ad : Addr) (cap : Nat) (w : World) :
    Calls Try.prog 3 #[.slice (some ad) 0 cap] w fun e w' => e = .returned (.bool true) ∧ Fr w w' := by
  have hfr := Fr.refl w
  obtain ⟨i0, hi, hz0, hz1, hz2⟩ := info_parts byteInfo
  go_enter Try.func3, Try.ntmps3
  go_wp2_with (first
    | (go_at_call 10; ((with_reducible refine (shown_fr w _ (by assumption)).mono ?_); rintro e w1 ⟨rfl, h1⟩))
    | (at_builtin; refine wpList_append_own _ rfl (.tmp 13) (.tmp 18) 22 rfl w1.heap.size 5 i0 _ 1 1 Try.underlying22 hi hz0 hz1 hz2 rfl (by decide) (.slice (some ⟨w1.heap.size, 0, none⟩) 0 0) 0 [] rfl (World.ownsRow_made w1 #[] 0 (Nat.le_refl _) (Nat.zero_le _) rfl) ad 0 _ [] rfl rfl (fun j u hj => by simp at hj) (fun u hu => by simp at hu) (Nat.zero_le _) (Nat.zero_le _) (by simp) ?_; intro v1 w2 hown1 hgrow1 hnil1; obtain ⟨g, c1, rfl, hg1, hg2, hc1, hrow⟩ := byte_row (l := []) (show w2.ownsRow w1.heap.size 5 1 v1 0 (byts []) from hown1) rfl (fun e => by have := hnil1.1 e; exact absurd this.1 (by simp)); have hcv := conv_row (N := 0) hrow rfl; have h2 : Fr w w2 := Below.grown (h1.alloc _) hgrow1 (by have := h1.size; simp; omega) (fun j hj => by simp [Value.ownBlock] at hj; have := h1.size; omega); clear hown1 hgrow1 hnil1)
    | (go_at_call 11; ((with_reducible refine (lex_nil _ _ _).mono ?_); rintro e w3 ⟨ga, ca, rfl, hga, hca, hta, hb3⟩))
    | (go_at_call 12; ((with_reducible refine (rlex_nil _).mono ?_); rintro e w4 ⟨gb, cb, rfl, hgb, hcb, htb, hb4⟩)))
  have TA := hta.past hb4
  go_loopw [11] (fun i wr => ∃ k : Nat, k ≤ 1 ∧ i = .int .i64 k ∧ Below w4.heap.size w4 wr) (fun i _ => 1 - (intOf i).toNat)
  case atStart => exact ⟨0, Nat.zero_le _, rfl, Below.refl _ _⟩
  case round =>
    obtain ⟨k, hk, rfl, hbk⟩ := hrel
    by_cases hlt : k < 1
    · have hkl : k < (fin [] 0).length := by rw [fin_length]; exact hlt
      obtain ⟨t, ht⟩ : ∃ t, (fin [] 0)[k]? = some t := ⟨_, List.getElem?_eq_getElem hkl⟩
      obtain ⟨y1, y2, y3⟩ := (TA.past hbk).2 k t ht
      obtain ⟨z1, z2, z3⟩ := (htb.past hbk).2 k t ht
      have hk2 : (k : Int) < 1 := by omega
      clear ht hkl
      go_wp2
      go_quiet (fail)
      go_wp2
      go_roundw
      case rel => exact ⟨k + 1, by omega, by go_num, by first | exact hbk | exact below_drew hbk _⟩
      case measure => simp [intOf]; omega
    · have hcv4 := conv_row (N := 0) (((hrow.below hb3 (Nat.le_refl _)).below hb4 (Nat.le_refl _)).below hbk (Nat.le_refl _)) rfl
      have hk2 : 1 ≤ (k : Int) := by omega
      go_wp2
      go_ret
      exact ⟨rfl, ((h2.below hb3).below hb4).below hbk⟩

set_option maxHeartbeats 4000000 in
set_option maxRecDepth 100000 in
theorem tells_none (w : World) :
    Calls Try.prog 3 #[.slice none 0 0] w fun e w' => e = .returned (.bool true) ∧ Fr w w' := by
  have hfr := Fr.refl w
  obtain ⟨i0, hi, hz0, hz1, hz2⟩ := info_parts byteInfo
  go_enter Try.func3, Try.ntmps3
  go_wp2_with (first
    | (go_at_call 10; ((with_reducible refine (shown_fr w _ (by assumption)).mono ?_); rintro e w1 ⟨rfl, h1⟩))
    | (at_builtin; refine wpList_append_own_none rfl (.tmp 13) (.tmp 18) 22 rfl w1.heap.size 5 i0 1 Try.underlying22 hi (.slice (some ⟨w1.heap.size, 0, none⟩) 0 0) 0 [] rfl (World.ownsRow_made w1 #[] 0 (Nat.le_refl _) (Nat.zero_le _) rfl) rfl ?_; obtain ⟨w2, hw2⟩ : ∃ w2, w2 = w1.alloc (.cells #[] 5) := ⟨_, rfl⟩; rw [← hw2]; have h2 : Fr w w2 := (by rw [hw2]; exact h1.alloc _); have hrow : Row w2 (some ⟨w1.heap.size, 0, none⟩) [] := (fun h => by simp at h); have hcv := conv_row (N := 0) hrow rfl; clear hw2)
    | (go_at_call 11; ((with_reducible refine (lex_nil _ _ _).mono ?_); rintro e w3 ⟨ga, ca, rfl, hga, hca, hta, hb3⟩))
    | (go_at_call 12; ((with_reducible refine (rlex_nil _).mono ?_); rintro e w4 ⟨gb, cb, rfl, hgb, hcb, htb, hb4⟩)))
  have TA := hta.past hb4
  go_loopw [11] (fun i wr => ∃ k : Nat, k ≤ 1 ∧ i = .int .i64 k ∧ Below w4.heap.size w4 wr) (fun i _ => 1 - (intOf i).toNat)
  case atStart => exact ⟨0, Nat.zero_le _, rfl, Below.refl _ _⟩
  case round =>
    obtain ⟨k, hk, rfl, hbk⟩ := hrel
    by_cases hlt : k < 1
    · have hkl : k < (fin [] 0).length := by rw [fin_length]; exact hlt
      obtain ⟨t, ht⟩ : ∃ t, (fin [] 0)[k]? = some t := ⟨_, List.getElem?_eq_getElem hkl⟩
      obtain ⟨y1, y2, y3⟩ := (TA.past hbk).2 k t ht
      obtain ⟨z1, z2, z3⟩ := (htb.past hbk).2 k t ht
      have hk2 : (k : Int) < 1 := by omega
      clear ht hkl
      go_wp2
      go_quiet (fail)
      go_wp2
      go_roundw
      case rel => exact ⟨k + 1, by omega, by go_num, by first | exact hbk | exact below_drew hbk _⟩
      case measure => simp [intOf]; omega
    · have hcv4 := conv_row (N := 0) (((hrow.below hb3 (Nat.le_refl _)).below hb4 (Nat.le_refl _)).below hbk (Nat.le_refl _)) rfl
      have hk2 : 1 ≤ (k : Int) := by omega
      go_wp2
      go_ret
      exact ⟨rfl, ((h2.below hb3).below hb4).below hbk⟩


theorem tells_walk (A : Option Addr) (n cap : Nat) (l : List UInt8) (w : World) (hn : l.length = n) (hcap : n ≤ cap) (hm : cap ≤ 9223372036854775807) (hr : Row w A l) (h0 : A = none → cap = 0) :
    Calls Try.prog 3 #[.slice A n cap] w fun e w' => e = .returned (.bool true) ∧ Fr w w' := by
  by_cases hl : 0 < l.length
  · obtain ⟨b, o, rfl, hb, hc⟩ := hr hl
    have key : ∀ (N : Nat) (ts : List Tok), N ≤ 2000 → lexS 0 (l.take N) = .ok ts → ts.length + 1 ≤ 2001 := fun N ts hN hok => by
      have := toks_le l.length.succ 0 (l.take N) ts (by rw [List.length_take]; omega) hok
      rw [List.length_take] at this; omega
    by_cases hN : (n : Int) ≤ 2000
    · cases hp : lexS 0 (l.take n) with
      | bad p => exact tells_bad_a b o n cap p l w hn hcap hm hb hc hN hp
      | ok ts => exact tells_ok_a b o n cap _ l ts w hn hcap hm hb hc hN hp rfl (key n ts (by omega) hp)
    · cases hp : lexS 0 (l.take 2000) with
      | bad p => exact tells_bad_b b o n cap p l w hn hcap hm hb hc (by omega) hp
      | ok ts => exact tells_ok_b b o n cap _ l ts w hn hcap hm hb hc (by omega) hp rfl (key 2000 ts (by omega) hp)
  · obtain rfl : n = 0 := by omega
    cases A with
    | none =>
      obtain rfl := h0 rfl
      exact tells_none w
    | some ad => exact tells_some ad cap w

end Go.Proofs.Ytldakohmcmcfjaa
