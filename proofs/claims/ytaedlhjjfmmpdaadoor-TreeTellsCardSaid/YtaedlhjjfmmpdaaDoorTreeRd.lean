/-
  The contract of the document's own 'next': the token that begins at a place, or what is wrong.
-/
import Derived.Test.YtaedlhjjfmmpdaaDoorTreeRc
namespace Go.Proofs.YtaedlhjjfmmpdaaDoor
open Go Go.RowKit Go.Lib

theorem reach_step {p : Int → Bool} {l : List UInt8} {k : Nat} (h : k < l.length) : reachL p (l.drop k) = if p (nth l k) = true then reachL p (l.drop (k + 1)) + 1 else 0 := reachL_at p l k h
theorem reach_end {p : Int → Bool} {l : List UInt8} {k : Nat} (h : l.length ≤ k) : reachL p (l.drop k) = 0 := by
  rw [List.drop_eq_nil_of_le h]; rfl

theorem same_tok {l : List UInt8} {k : Nat} (hlt : k < l.length) (hb : blkB (nth l k) = false) (hc : (nth l k == 35) = false) (h : ¬ (firstK (l.drop k) = 0 ∨ (firstK (l.drop k) = 1 ∧ 32 < firstN (l.drop k))))
    (hg : ¬ (firstK (l.drop k) = 2 ∧ glued (l.drop k) (firstN (l.drop k)) = true)) :
    lexS k (l.drop k) = (lexS (k + firstN (l.drop k)) (l.drop (k + firstN (l.drop k)))).cons ⟨firstK (l.drop k), (l.drop k).take (firstN (l.drop k)), k⟩ := by
  rw [← List.drop_drop]
  rw [drop_cons hlt] at h hg ⊢
  rw [lexS_tok hb (fun e => by rw [show nth l k = 35 by unfold nth; rw [e]; rfl] at hc; simp at hc) h hg]

/-- What next leaves. -/
def NextOut (s : ByteArray) (a : Nat) (w : World) (e : Ending) (w' : World) : Prop :=
  Below w.heap.size w w' ∧
  ((∃ p, lexS a ((bs s).drop a) = .bad p ∧ e = .returned (.tuple #[.agg #[.int .i64 0, .string ⟨#[]⟩, .int .i64 0], .int .i64 p])) ∨
   (∃ (K n : Nat), 1 ≤ n ∧ a + n ≤ s.size ∧ lexS a ((bs s).drop a) = (lexS (a + n) ((bs s).drop (a + n))).cons ⟨K, ((bs s).drop a).take n, a⟩ ∧
      e = .returned (.tuple #[.agg #[.int .i64 K, .string ⟨(((bs s).drop a).take n).toArray⟩, .int .i64 a], .int .i64 (-1)])))

theorem cut_text (s : ByteArray) (a n : Nat) (_h : a + n ≤ s.size) : s.extract a (a + n) = ⟨(((bs s).drop a).take n).toArray⟩ := by
  apply ByteArray.ext
  unfold bs
  rw [ByteArray.data_extract]
  apply Array.toList_inj.1
  simp only [Array.toList_extract, List.extract_eq_take_drop]
  congr 1
  omega

set_option maxHeartbeats 2000000 in
set_option maxRecDepth 100000 in
theorem next_word (s : ByteArray) (a : Nat) (w : World) (hs : s.size ≤ 65536) (ha : a < s.size) (hl : letB (nth (bs s) a) = true) (hb : blkB (nth (bs s) a) = false) (hc : (nth (bs s) a == 35) = false) :
    Calls Tryd.prog 53 #[.string s, .int .i64 a] w (NextOut s a w) := by
  have hal : a < (bs s).length := ha
  have hsk := bs_nth s a ha
  obtain ⟨r0, r1⟩ := nth_range (bs s) a
  have hfk : firstK ((bs s).drop a) = 1 := by rw [drop_cons hal]; exact (firstK_cons _ _).trans (if_pos hl)
  have hfn : firstN ((bs s).drop a) = reachL inwB ((bs s).drop a) := by rw [drop_cons hal]; exact (firstN_cons _ _).trans (if_pos hl)
  have hst := reach_step (p := inwB) hal
  rw [if_pos (by unfold inwB; rw [hl]; rfl)] at hst
  have hnl := reachL_le inwB ((bs s).drop a)
  rw [List.length_drop, bs_length] at hnl
  obtain ⟨n, hn⟩ : ∃ n, reachL inwB ((bs s).drop a) = n := ⟨_, rfl⟩
  rw [hn] at hst hnl hfn
  have hn1 : 1 ≤ n := by omega
  have HS := Lib.hid (show a + 1 + reachL inwB ((bs s).drop (a + 1)) = a + n by omega)
  have HBad := Lib.hid (fun h => at_bad hal hb hc (.inr ⟨hfk, by rw [hfn]; exact h⟩))
  have HTok := Lib.hid (show ¬ 32 < n → lexS a ((bs s).drop a) = (lexS (a + n) ((bs s).drop (a + n))).cons ⟨1, ((bs s).drop a).take n, a⟩ from fun h => by
    have := same_tok hal hb hc (by rw [hfk, hfn]; omega) (by rw [hfk]; omega)
    rw [hfk, hfn] at this; exact this)
  have HX := Lib.hid (cut_text s a n (by omega))
  obtain ⟨x, hx⟩ : ∃ x, nth (bs s) a = x := ⟨_, rfl⟩
  rw [hx] at hsk r0 r1 hl
  clear hx hn hst hfk hfn hb hc
  go_enter Tryd.func53, Tryd.ntmps53
  go_wp2_with (first
    | (go_at_call 61; ((with_reducible refine (rletter_any _ _ r0 r1).mono ?_); rintro e w1 ⟨rfl, rfl⟩))
    | (go_at_call 62; ((with_reducible refine (rdigit_any _ _ r0 r1).mono ?_); rintro e w1 ⟨rfl, rfl⟩)))
  go_loop [8] (fun i => ∃ k : Nat, a + 1 ≤ k ∧ k ≤ s.size ∧ i = .int .i64 k ∧ k + reachL inwB ((bs s).drop k) = a + n) (fun i => s.size - (intOf i).toNat)
  case atStart => exact ⟨a + 1, Nat.le_refl _, by omega, by go_num, HS.out⟩
  case round =>
    obtain ⟨k, hk1, hk, rfl, hr⟩ := hrel
    have HR := Lib.hid hr; clear hr
    by_cases hlt : k < s.size
    · have hsk2 := bs_nth s k hlt
      obtain ⟨y0, y1⟩ := nth_range (bs s) k
      have HS2 := Lib.hid (reach_step (p := inwB) (l := bs s) (k := k) (by rw [bs_length]; exact hlt))
      obtain ⟨y, hy⟩ : ∃ y, nth (bs s) k = y := ⟨_, rfl⟩
      rw [hy] at hsk2 HS2 y0 y1
      clear hy
      cases q1 : letB y with
      | true =>
        have HW := Lib.hid (show inwB y = true by unfold inwB; rw [q1]; rfl)
        go_wp2_with (first
                  | (go_at_call 61; ((with_reducible refine (rletter_any _ _ y0 y1).mono ?_); rintro e w1 ⟨rfl, rfl⟩))
                  | (go_at_call 62; ((with_reducible refine (rdigit_any _ _ y0 y1).mono ?_); rintro e w1 ⟨rfl, rfl⟩)))
        go_round
        case rel => exact ⟨k + 1, by omega, by omega, by go_num, by have := HR.out; rw [HS2.out, if_pos HW.out] at this; omega⟩
        case measure => simp [intOf]; omega
      | false =>
        cases q2 : digB y with
        | true =>
          have HW := Lib.hid (show inwB y = true by unfold inwB; rw [q1, q2]; rfl)
          go_wp2_with (first
                    | (go_at_call 61; ((with_reducible refine (rletter_any _ _ y0 y1).mono ?_); rintro e w1 ⟨rfl, rfl⟩))
                    | (go_at_call 62; ((with_reducible refine (rdigit_any _ _ y0 y1).mono ?_); rintro e w1 ⟨rfl, rfl⟩)))
          go_round
          case rel => exact ⟨k + 1, by omega, by omega, by go_num, by have := HR.out; rw [HS2.out, if_pos HW.out] at this; omega⟩
          case measure => simp [intOf]; omega
        | false =>
          cases q3 : (y == 95) with
          | true =>
            have HW := Lib.hid (show inwB y = true by unfold inwB; rw [q1, q2, q3]; rfl)
            go_wp2_with (first
                      | (go_at_call 61; ((with_reducible refine (rletter_any _ _ y0 y1).mono ?_); rintro e w1 ⟨rfl, rfl⟩))
                      | (go_at_call 62; ((with_reducible refine (rdigit_any _ _ y0 y1).mono ?_); rintro e w1 ⟨rfl, rfl⟩)))
            go_round
            case rel => exact ⟨k + 1, by omega, by omega, by go_num, by have := HR.out; rw [HS2.out, if_pos HW.out] at this; omega⟩
            case measure => simp [intOf]; omega
          | false =>
            have HW := Lib.hid (show inwB y = false by unfold inwB; rw [q1, q2, q3]; rfl)
            have hkn : k = a + n := by have := HR.out; rw [HS2.out, HW.out, if_neg (by decide)] at this; omega
            by_cases h32 : 32 < n
            · have g1 : (32 : Int) < (k : Int) - (a : Int) := by omega
              have hak : a ≤ k := by omega
              have HK := Lib.hid hkn; clear hkn
              go_wp2_with (first
                      | (go_at_call 61; ((with_reducible refine (rletter_any _ _ y0 y1).mono ?_); rintro e w1 ⟨rfl, rfl⟩))
                      | (go_at_call 62; ((with_reducible refine (rdigit_any _ _ y0 y1).mono ?_); rintro e w1 ⟨rfl, rfl⟩)))
              exact bodyPost_ret (v := .tuple #[.agg #[.int .i64 0, .string ⟨#[]⟩, .int .i64 0], .int .i64 a]) (by simp [results, Tryd.results53, go_sem]) rfl ⟨by repeat (first | exact (Below.refl _ _).alloc (Nat.le_refl _) _ | refine Below.setCell ?_ (Nat.le_refl _) _), .inl ⟨a, HBad.out h32, rfl⟩⟩
            · have g1 : (k : Int) - (a : Int) ≤ 32 := by omega
              have hak : a ≤ k := by omega
              have HK := Lib.hid hkn; clear hkn
              go_wp2_with (first
                      | (go_at_call 61; ((with_reducible refine (rletter_any _ _ y0 y1).mono ?_); rintro e w1 ⟨rfl, rfl⟩))
                      | (go_at_call 62; ((with_reducible refine (rdigit_any _ _ y0 y1).mono ?_); rintro e w1 ⟨rfl, rfl⟩)))
              exact bodyPost_ret (v := .tuple #[.agg #[.int .i64 1, .string ⟨(((bs s).drop a).take n).toArray⟩, .int .i64 a], .int .i64 (-1)]) (by simp [results, Tryd.results53, go_sem, HK.out, HX.out]) rfl ⟨by repeat (first | exact (Below.refl _ _).alloc (Nat.le_refl _) _ | refine Below.setCell ?_ (Nat.le_refl _) _), .inr ⟨1, n, hn1, by omega, HTok.out h32, rfl⟩⟩
    · have HW := Lib.hid (reach_end (p := inwB) (l := bs s) (k := k) (by rw [bs_length]; omega))
      have hkn : k = a + n := by have := HR.out; rw [HW.out] at this; omega
      by_cases h32 : 32 < n
      · have g1 : (32 : Int) < (k : Int) - (a : Int) := by omega
        have hak : a ≤ k := by omega
        have HK := Lib.hid hkn; clear hkn
        go_wp2
        exact bodyPost_ret (v := .tuple #[.agg #[.int .i64 0, .string ⟨#[]⟩, .int .i64 0], .int .i64 a]) (by simp [results, Tryd.results53, go_sem]) rfl ⟨by repeat (first | exact (Below.refl _ _).alloc (Nat.le_refl _) _ | refine Below.setCell ?_ (Nat.le_refl _) _), .inl ⟨a, HBad.out h32, rfl⟩⟩
      · have g1 : (k : Int) - (a : Int) ≤ 32 := by omega
        have hak : a ≤ k := by omega
        have HK := Lib.hid hkn; clear hkn
        go_wp2
        exact bodyPost_ret (v := .tuple #[.agg #[.int .i64 1, .string ⟨(((bs s).drop a).take n).toArray⟩, .int .i64 a], .int .i64 (-1)]) (by simp [results, Tryd.results53, go_sem, HK.out, HX.out]) rfl ⟨by repeat (first | exact (Below.refl _ _).alloc (Nat.le_refl _) _ | refine Below.setCell ?_ (Nat.le_refl _) _), .inr ⟨1, n, hn1, by omega, HTok.out h32, rfl⟩⟩

set_option maxHeartbeats 2000000 in
set_option maxRecDepth 100000 in
theorem next_digit (s : ByteArray) (a : Nat) (w : World) (hs : s.size ≤ 65536) (ha : a < s.size) (hl : letB (nth (bs s) a) = false) (hd : digB (nth (bs s) a) = true) (hb : blkB (nth (bs s) a) = false) (hc : (nth (bs s) a == 35) = false) :
    Calls Tryd.prog 53 #[.string s, .int .i64 a] w (NextOut s a w) := by
  have hal : a < (bs s).length := ha
  have hsk := bs_nth s a ha
  obtain ⟨r0, r1⟩ := nth_range (bs s) a
  have hfk : firstK ((bs s).drop a) = 2 := by rw [drop_cons hal]; exact (firstK_cons _ _).trans ((if_neg (by rw [show bv ((bs s).getD a 0) = nth (bs s) a from rfl, hl]; decide)).trans (if_pos hd))
  have hfn : firstN ((bs s).drop a) = reachL digB ((bs s).drop a) := by rw [drop_cons hal]; exact (firstN_cons _ _).trans ((if_neg (by rw [show bv ((bs s).getD a 0) = nth (bs s) a from rfl, hl]; decide)).trans (if_pos hd))
  have hst := reach_step (p := digB) hal
  rw [if_pos hd] at hst
  have hnl := reachL_le digB ((bs s).drop a)
  rw [List.length_drop, bs_length] at hnl
  obtain ⟨n, hn⟩ : ∃ n, reachL digB ((bs s).drop a) = n := ⟨_, rfl⟩
  rw [hn] at hst hnl hfn
  have hn1 : 1 ≤ n := by omega
  have HS := Lib.hid (show a + 1 + reachL digB ((bs s).drop (a + 1)) = a + n by omega)
  have HBad := Lib.hid (show glued ((bs s).drop a) n = true → lexS a ((bs s).drop a) = .bad (a + n) from fun h => by
    have := at_glued hal hb hc hfk (by rw [hfn]; exact h)
    rw [hfn] at this; exact this)
  have HTok := Lib.hid (show glued ((bs s).drop a) n = false → lexS a ((bs s).drop a) = (lexS (a + n) ((bs s).drop (a + n))).cons ⟨2, ((bs s).drop a).take n, a⟩ from fun h => by
    have := same_tok hal hb hc (by rw [hfk]; omega) (by rw [hfn, h]; exact fun h' => absurd h'.2 (by decide))
    rw [hfk, hfn] at this; exact this)
  have HG := Lib.hid (show glued ((bs s).drop a) n = (decide (a + n < s.size) && (letB (nth (bs s) (a + n)) || nth (bs s) (a + n) == 95)) by
    unfold glued
    rw [nth_drop, List.length_drop, bs_length]
    congr 1
    rw [decide_eq_decide]; omega)
  have HX := Lib.hid (cut_text s a n (by omega))
  obtain ⟨x, hx⟩ : ∃ x, nth (bs s) a = x := ⟨_, rfl⟩
  rw [hx] at hsk r0 r1 hl hd
  clear hx hn hst hfk hfn hb hc
  go_enter Tryd.func53, Tryd.ntmps53
  go_wp2_with (first
    | (go_at_call 61; ((with_reducible refine (rletter_any _ _ r0 r1).mono ?_); rintro e w1 ⟨rfl, rfl⟩))
    | (go_at_call 62; ((with_reducible refine (rdigit_any _ _ r0 r1).mono ?_); rintro e w1 ⟨rfl, rfl⟩)))
  go_loop [8] (fun i => ∃ k : Nat, a + 1 ≤ k ∧ k ≤ s.size ∧ i = .int .i64 k ∧ k + reachL digB ((bs s).drop k) = a + n) (fun i => s.size - (intOf i).toNat)
  case atStart => exact ⟨a + 1, Nat.le_refl _, by omega, by go_num, HS.out⟩
  case round =>
    obtain ⟨k, hk1, hk, rfl, hr⟩ := hrel
    have HR := Lib.hid hr; clear hr
    by_cases hlt : k < s.size
    · have hsk2 := bs_nth s k hlt
      obtain ⟨y0, y1⟩ := nth_range (bs s) k
      have HS2 := Lib.hid (reach_step (p := digB) (l := bs s) (k := k) (by rw [bs_length]; exact hlt))
      obtain ⟨y, hy⟩ : ∃ y, nth (bs s) k = y := ⟨_, rfl⟩
      rw [hy] at hsk2 HS2 y0 y1
      have HY := Lib.hid hy; clear hy
      cases q1 : digB y with
      | true =>
        have HW := Lib.hid q1
        go_wp2_with (first
                  | (go_at_call 61; ((with_reducible refine (rletter_any _ _ y0 y1).mono ?_); rintro e w1 ⟨rfl, rfl⟩))
                  | (go_at_call 62; ((with_reducible refine (rdigit_any _ _ y0 y1).mono ?_); rintro e w1 ⟨rfl, rfl⟩)))
        go_round
        case rel => exact ⟨k + 1, by omega, by omega, by go_num, by have := HR.out; rw [HS2.out, if_pos HW.out] at this; omega⟩
        case measure => simp [intOf]; omega
      | false =>
        have hkn : k = a + n := by have := HR.out; rw [HS2.out, q1, if_neg (by decide)] at this; omega
        have hak : a ≤ k := by omega
        have HK := Lib.hid hkn
        have hgl := HG.out
        rw [← hkn, HY.out, decide_eq_true hlt, Bool.true_and] at hgl
        clear hkn
        cases q2 : letB y with
        | true =>
          have HB := Lib.hid (HBad.out (by rw [hgl, q2]; rfl))
          clear hgl
          go_wp2_with (first
                    | (go_at_call 61; ((with_reducible refine (rletter_any _ _ y0 y1).mono ?_); rintro e w1 ⟨rfl, rfl⟩))
                    | (go_at_call 62; ((with_reducible refine (rdigit_any _ _ y0 y1).mono ?_); rintro e w1 ⟨rfl, rfl⟩)))
          exact bodyPost_ret (v := .tuple #[.agg #[.int .i64 0, .string ⟨#[]⟩, .int .i64 0], .int .i64 k]) (by simp [results, Tryd.results53, go_sem]) rfl ⟨by repeat (first | exact (Below.refl _ _).alloc (Nat.le_refl _) _ | refine Below.setCell ?_ (Nat.le_refl _) _), .inl ⟨k, by rw [HK.out]; exact HB.out, rfl⟩⟩
        | false =>
          cases q3 : (y == 95) with
          | true =>
            have HB := Lib.hid (HBad.out (by rw [hgl, q2, q3]; rfl))
            clear hgl
            go_wp2_with (first
                      | (go_at_call 61; ((with_reducible refine (rletter_any _ _ y0 y1).mono ?_); rintro e w1 ⟨rfl, rfl⟩))
                      | (go_at_call 62; ((with_reducible refine (rdigit_any _ _ y0 y1).mono ?_); rintro e w1 ⟨rfl, rfl⟩)))
            exact bodyPost_ret (v := .tuple #[.agg #[.int .i64 0, .string ⟨#[]⟩, .int .i64 0], .int .i64 k]) (by simp [results, Tryd.results53, go_sem]) rfl ⟨by repeat (first | exact (Below.refl _ _).alloc (Nat.le_refl _) _ | refine Below.setCell ?_ (Nat.le_refl _) _), .inl ⟨k, by rw [HK.out]; exact HB.out, rfl⟩⟩
          | false =>
            have HT := Lib.hid (HTok.out (by rw [hgl, q2, q3]; rfl))
            clear hgl
            go_wp2_with (first
                      | (go_at_call 61; ((with_reducible refine (rletter_any _ _ y0 y1).mono ?_); rintro e w1 ⟨rfl, rfl⟩))
                      | (go_at_call 62; ((with_reducible refine (rdigit_any _ _ y0 y1).mono ?_); rintro e w1 ⟨rfl, rfl⟩)))
            exact bodyPost_ret (v := .tuple #[.agg #[.int .i64 2, .string ⟨(((bs s).drop a).take n).toArray⟩, .int .i64 a], .int .i64 (-1)]) (by simp [results, Tryd.results53, go_sem, HK.out, HX.out]) rfl ⟨by repeat (first | exact (Below.refl _ _).alloc (Nat.le_refl _) _ | refine Below.setCell ?_ (Nat.le_refl _) _), .inr ⟨2, n, hn1, by omega, HT.out, rfl⟩⟩
    · have HW := Lib.hid (reach_end (p := digB) (l := bs s) (k := k) (by rw [bs_length]; omega))
      have hkn : k = a + n := by have := HR.out; rw [HW.out] at this; omega
      have hak : a ≤ k := by omega
      have HK := Lib.hid hkn
      have hgl := HG.out
      rw [← hkn, decide_eq_false hlt, Bool.false_and] at hgl
      have HT := Lib.hid (HTok.out hgl)
      clear hgl hkn
      go_wp2
      exact bodyPost_ret (v := .tuple #[.agg #[.int .i64 2, .string ⟨(((bs s).drop a).take n).toArray⟩, .int .i64 a], .int .i64 (-1)]) (by simp [results, Tryd.results53, go_sem, HK.out, HX.out]) rfl ⟨by repeat (first | exact (Below.refl _ _).alloc (Nat.le_refl _) _ | refine Below.setCell ?_ (Nat.le_refl _) _), .inr ⟨2, n, hn1, by omega, HT.out, rfl⟩⟩

theorem has_marks (c : UInt8) : hasB (bs ⟨#[40, 41, 123, 125, 91, 93, 44, 59, 61, 43, 45, 42, 47, 37, 60, 33, 38, 124]⟩) (bv c) = mrkB c := by
  unfold hasB mrkB
  rw [List.contains_eq_any_beq]
  show List.any marksL _ = List.any marksL _
  congr 1
  funext d
  rw [Bool.eq_iff_iff]
  simp only [beq_iff_eq]
  constructor
  · intro h
    apply UInt8.toNat_inj.1
    unfold bv at h; omega
  · intro h; rw [h]


end Go.Proofs.YtaedlhjjfmmpdaaDoor
