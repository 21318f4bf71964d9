/-
  The document's own 'next' at a mark, and at what begins no token; all of 'next'.
-/
import Derived.Test.YtaedlhjjfmmpdaaDoorTreeRd
namespace Go.Proofs.YtaedlhjjfmmpdaaDoor
open Go Go.RowKit Go.Lib

/-- What the walks at a mark ask for. -/
def MarkIn (s : ByteArray) (a : Nat) : Prop := s.size ≤ 65536 ∧ a < s.size ∧ letB (nth (bs s) a) = false ∧ digB (nth (bs s) a) = false ∧ blkB (nth (bs s) a) = false ∧ (nth (bs s) a == 35) = false
theorem mark_kind {s : ByteArray} {a : Nat} (h : MarkIn s a) : firstK ((bs s).drop a) = if mrkB ((bs s).getD a 0) then 3 else 0 := by
  obtain ⟨_, ha, h1, h2, _, _⟩ := h
  have h0 : 0 < ((bs s).drop a).length := by rw [List.length_drop, bs_length]; omega
  rw [firstK_nth h0, nth_drop, Nat.add_zero, h1, h2]
  have : ((bs s).drop a).getD 0 0 = (bs s).getD a 0 := by rw [List.getD_eq_getElem?_getD, List.getD_eq_getElem?_getD, List.getElem?_drop, Nat.add_zero]
  rw [this]; rfl
theorem mark_len {s : ByteArray} {a : Nat} (h : MarkIn s a) : firstN ((bs s).drop a) = if nth (bs s) a = 61 ∧ a + 1 < s.size ∧ nth (bs s) (a + 1) = 61 then 2 else if mrkB ((bs s).getD a 0) then 1 else 0 := by
  obtain ⟨_, ha, h1, h2, _, _⟩ := h
  have h0 : 0 < ((bs s).drop a).length := by rw [List.length_drop, bs_length]; omega
  rw [firstN_nth h0, nth_drop, Nat.add_zero, h1, h2, nth_drop]
  have e1 : ((bs s).drop a).getD 0 0 = (bs s).getD a 0 := by rw [List.getD_eq_getElem?_getD, List.getD_eq_getElem?_getD, List.getElem?_drop, Nat.add_zero]
  have e2 : 1 < ((bs s).drop a).length ↔ a + 1 < s.size := by rw [List.length_drop, bs_length]; omega
  rw [e1]
  simp only [e2]
  rfl
theorem mark_tok {s : ByteArray} {a n : Nat} (h : MarkIn s a) (hm : mrkB ((bs s).getD a 0) = true) (hn : firstN ((bs s).drop a) = n) : lexS a ((bs s).drop a) = (lexS (a + n) ((bs s).drop (a + n))).cons ⟨3, ((bs s).drop a).take n, a⟩ := by
  have hk := mark_kind h
  rw [hm, if_pos rfl] at hk
  obtain ⟨_, ha, h1, h2, h3, h4⟩ := h
  have := same_tok (l := bs s) (k := a) ha h3 h4 (by rw [hk]; omega) (by rw [hk]; omega)
  rw [hk, hn] at this
  exact this

set_option maxHeartbeats 2000000 in
set_option maxRecDepth 100000 in
theorem next_none (s : ByteArray) (a : Nat) (w : World) (h : MarkIn s a) (hm : mrkB ((bs s).getD a 0) = false) :
    Calls Tryd.prog 53 #[.string s, .int .i64 a] w (NextOut s a w) := by
  have HB := Lib.hid (show lexS a ((bs s).drop a) = .bad a from at_bad h.2.1 h.2.2.2.2.1 h.2.2.2.2.2 (.inl (by rw [mark_kind h, hm]; rfl)))
  obtain ⟨hs, ha, hl, hd, hb, hc⟩ := h
  have hsk := bs_nth s a ha
  obtain ⟨r0, r1⟩ := nth_range (bs s) a
  have hin : ∀ w, Calls Tryd.prog 60 #[.string ⟨#[40, 41, 123, 125, 91, 93, 44, 59, 61, 43, 45, 42, 47, 37, 60, 33, 38, 124]⟩, .int .u8 (nth (bs s) a)] w fun e w' => e = .returned (.bool (mrkB ((bs s).getD a 0))) ∧ w = w' := fun w => by
    have := in_any ⟨#[40, 41, 123, 125, 91, 93, 44, 59, 61, 43, 45, 42, 47, 37, 60, 33, 38, 124]⟩ (nth (bs s) a) w (by decide)
    rw [show nth (bs s) a = bv ((bs s).getD a 0) from rfl, has_marks] at this
    exact this
  rw [hm] at hin
  clear hb hc
  obtain ⟨x, hx⟩ : ∃ x, nth (bs s) a = x := ⟨_, rfl⟩
  rw [hx] at hsk r0 r1 hl hd hin
  have HI := Lib.hid hin; clear hin hx hm
  go_enter Tryd.func53, Tryd.ntmps53
  go_wp2_with (first
    | (go_at_call 61; ((with_reducible refine (rletter_any _ _ r0 r1).mono ?_); rintro e w1 ⟨rfl, rfl⟩))
    | (go_at_call 62; ((with_reducible refine (rdigit_any _ _ r0 r1).mono ?_); rintro e w1 ⟨rfl, rfl⟩))
    | (go_at_call 60; ((with_reducible refine (HI.out _).mono ?_); rintro e w1 ⟨rfl, rfl⟩)))
  exact bodyPost_ret (v := .tuple #[.agg #[.int .i64 0, .string ⟨#[]⟩, .int .i64 0], .int .i64 a]) (by simp [results, Tryd.results53, go_sem]) rfl ⟨by repeat (first | exact (Below.refl _ _).alloc (Nat.le_refl _) _ | refine Below.setCell ?_ (Nat.le_refl _) _), .inl ⟨a, HB.out, rfl⟩⟩

set_option maxHeartbeats 2000000 in
set_option maxRecDepth 100000 in
theorem next_mark0 (s : ByteArray) (a : Nat) (w : World) (h : MarkIn s a) (hm : mrkB ((bs s).getD a 0) = true) (q0 : (nth (bs s) a == 61) = false) :
    Calls Tryd.prog 53 #[.string s, .int .i64 a] w (NextOut s a w) := by
  have HT := Lib.hid (mark_tok (n := 1) h hm (by rw [mark_len h, if_neg (fun e => by rw [e.1] at q0; simp at q0), hm]; rfl))
  have HX := Lib.hid (cut_text s a 1 (by have := h.2.1; omega))
  obtain ⟨hs, ha, hl, hd, hb, hc⟩ := h
  have hsk := bs_nth s a ha
  obtain ⟨r0, r1⟩ := nth_range (bs s) a
  have hin : ∀ w, Calls Tryd.prog 60 #[.string ⟨#[40, 41, 123, 125, 91, 93, 44, 59, 61, 43, 45, 42, 47, 37, 60, 33, 38, 124]⟩, .int .u8 (nth (bs s) a)] w fun e w' => e = .returned (.bool (mrkB ((bs s).getD a 0))) ∧ w = w' := fun w => by
    have := in_any ⟨#[40, 41, 123, 125, 91, 93, 44, 59, 61, 43, 45, 42, 47, 37, 60, 33, 38, 124]⟩ (nth (bs s) a) w (by decide)
    rw [show nth (bs s) a = bv ((bs s).getD a 0) from rfl, has_marks] at this
    exact this
  rw [hm] at hin
  clear hb hc
  obtain ⟨x, hx⟩ : ∃ x, nth (bs s) a = x := ⟨_, rfl⟩
  rw [hx] at hsk r0 r1 hl hd hin q0
  have HI := Lib.hid hin; clear hin hx hm
  have z1 : (a : Int) + 1 ≤ (s.size : Int) := by omega
  have z2 : (a : Int) ≤ (a : Int) + 1 := by omega
  have z3 : 0 ≤ (a : Int) + 1 := by omega
  have z4 : ((a : Int) + 1).toNat = a + 1 := by omega
  go_enter Tryd.func53, Tryd.ntmps53
  go_wp2_with (first
    | (go_at_call 61; ((with_reducible refine (rletter_any _ _ r0 r1).mono ?_); rintro e w1 ⟨rfl, rfl⟩))
    | (go_at_call 62; ((with_reducible refine (rdigit_any _ _ r0 r1).mono ?_); rintro e w1 ⟨rfl, rfl⟩))
    | (go_at_call 60; ((with_reducible refine (HI.out _).mono ?_); rintro e w1 ⟨rfl, rfl⟩)))
  exact bodyPost_ret (v := .tuple #[.agg #[.int .i64 3, .string ⟨(((bs s).drop a).take 1).toArray⟩, .int .i64 a], .int .i64 (-1)]) (by simp [results, Tryd.results53, go_sem, HX.out]) rfl ⟨by repeat (first | exact (Below.refl _ _).alloc (Nat.le_refl _) _ | refine Below.setCell ?_ (Nat.le_refl _) _), .inr ⟨3, 1, by omega, by omega, HT.out, rfl⟩⟩

set_option maxHeartbeats 2000000 in
set_option maxRecDepth 100000 in
theorem next_mark1 (s : ByteArray) (a : Nat) (w : World) (h : MarkIn s a) (hm : mrkB ((bs s).getD a 0) = true) (q0 : (nth (bs s) a == 61) = true) (q1 : s.size ≤ a + 1) :
    Calls Tryd.prog 53 #[.string s, .int .i64 a] w (NextOut s a w) := by
  have HT := Lib.hid (mark_tok (n := 1) h hm (by rw [mark_len h, if_neg (fun e => by omega), hm]; rfl))
  have HX := Lib.hid (cut_text s a 1 (by have := h.2.1; omega))
  obtain ⟨hs, ha, hl, hd, hb, hc⟩ := h
  have hsk := bs_nth s a ha
  obtain ⟨r0, r1⟩ := nth_range (bs s) a
  have hin : ∀ w, Calls Tryd.prog 60 #[.string ⟨#[40, 41, 123, 125, 91, 93, 44, 59, 61, 43, 45, 42, 47, 37, 60, 33, 38, 124]⟩, .int .u8 (nth (bs s) a)] w fun e w' => e = .returned (.bool (mrkB ((bs s).getD a 0))) ∧ w = w' := fun w => by
    have := in_any ⟨#[40, 41, 123, 125, 91, 93, 44, 59, 61, 43, 45, 42, 47, 37, 60, 33, 38, 124]⟩ (nth (bs s) a) w (by decide)
    rw [show nth (bs s) a = bv ((bs s).getD a 0) from rfl, has_marks] at this
    exact this
  rw [hm] at hin
  clear hb hc
  obtain ⟨x, hx⟩ : ∃ x, nth (bs s) a = x := ⟨_, rfl⟩
  rw [hx] at hsk r0 r1 hl hd hin q0
  have HI := Lib.hid hin; clear hin hx hm
  have q2 : (s.size : Int) ≤ (a : Int) + 1 := by omega
  have z1 : (a : Int) + 1 ≤ (s.size : Int) := by omega
  have z2 : (a : Int) ≤ (a : Int) + 1 := by omega
  have z3 : 0 ≤ (a : Int) + 1 := by omega
  have z4 : ((a : Int) + 1).toNat = a + 1 := by omega
  go_enter Tryd.func53, Tryd.ntmps53
  go_wp2_with (first
    | (go_at_call 61; ((with_reducible refine (rletter_any _ _ r0 r1).mono ?_); rintro e w1 ⟨rfl, rfl⟩))
    | (go_at_call 62; ((with_reducible refine (rdigit_any _ _ r0 r1).mono ?_); rintro e w1 ⟨rfl, rfl⟩))
    | (go_at_call 60; ((with_reducible refine (HI.out _).mono ?_); rintro e w1 ⟨rfl, rfl⟩)))
  exact bodyPost_ret (v := .tuple #[.agg #[.int .i64 3, .string ⟨(((bs s).drop a).take 1).toArray⟩, .int .i64 a], .int .i64 (-1)]) (by simp [results, Tryd.results53, go_sem, HX.out]) rfl ⟨by repeat (first | exact (Below.refl _ _).alloc (Nat.le_refl _) _ | refine Below.setCell ?_ (Nat.le_refl _) _), .inr ⟨3, 1, by omega, by omega, HT.out, rfl⟩⟩

set_option maxHeartbeats 2000000 in
set_option maxRecDepth 100000 in
theorem next_mark2 (s : ByteArray) (a : Nat) (w : World) (h : MarkIn s a) (hm : mrkB ((bs s).getD a 0) = true) (q0 : (nth (bs s) a == 61) = true) (q1 : a + 1 < s.size) (q3 : (nth (bs s) (a + 1) == 61) = false) :
    Calls Tryd.prog 53 #[.string s, .int .i64 a] w (NextOut s a w) := by
  have HT := Lib.hid (mark_tok (n := 1) h hm (by rw [mark_len h, if_neg (fun e => by rw [e.2.2] at q3; simp at q3), hm]; rfl))
  have HX := Lib.hid (cut_text s a 1 (by have := h.2.1; omega))
  obtain ⟨hs, ha, hl, hd, hb, hc⟩ := h
  have hsk := bs_nth s a ha
  obtain ⟨r0, r1⟩ := nth_range (bs s) a
  have hin : ∀ w, Calls Tryd.prog 60 #[.string ⟨#[40, 41, 123, 125, 91, 93, 44, 59, 61, 43, 45, 42, 47, 37, 60, 33, 38, 124]⟩, .int .u8 (nth (bs s) a)] w fun e w' => e = .returned (.bool (mrkB ((bs s).getD a 0))) ∧ w = w' := fun w => by
    have := in_any ⟨#[40, 41, 123, 125, 91, 93, 44, 59, 61, 43, 45, 42, 47, 37, 60, 33, 38, 124]⟩ (nth (bs s) a) w (by decide)
    rw [show nth (bs s) a = bv ((bs s).getD a 0) from rfl, has_marks] at this
    exact this
  rw [hm] at hin
  clear hb hc
  obtain ⟨x, hx⟩ : ∃ x, nth (bs s) a = x := ⟨_, rfl⟩
  rw [hx] at hsk r0 r1 hl hd hin q0
  have HI := Lib.hid hin; clear hin hx hm
  have hsk2 := bs_nth s (a + 1) q1
  obtain ⟨y, hy⟩ : ∃ y, nth (bs s) (a + 1) = y := ⟨_, rfl⟩
  rw [hy] at hsk2 q3
  clear hy
  have q2 : (a : Int) + 1 < (s.size : Int) := by omega
  have z1 : (a : Int) + 1 ≤ (s.size : Int) := by omega
  have z2 : (a : Int) ≤ (a : Int) + 1 := by omega
  have z3 : 0 ≤ (a : Int) + 1 := by omega
  have z4 : ((a : Int) + 1).toNat = a + 1 := by omega
  go_enter Tryd.func53, Tryd.ntmps53
  go_wp2_with (first
    | (go_at_call 61; ((with_reducible refine (rletter_any _ _ r0 r1).mono ?_); rintro e w1 ⟨rfl, rfl⟩))
    | (go_at_call 62; ((with_reducible refine (rdigit_any _ _ r0 r1).mono ?_); rintro e w1 ⟨rfl, rfl⟩))
    | (go_at_call 60; ((with_reducible refine (HI.out _).mono ?_); rintro e w1 ⟨rfl, rfl⟩)))
  exact bodyPost_ret (v := .tuple #[.agg #[.int .i64 3, .string ⟨(((bs s).drop a).take 1).toArray⟩, .int .i64 a], .int .i64 (-1)]) (by simp [results, Tryd.results53, go_sem, HX.out]) rfl ⟨by repeat (first | exact (Below.refl _ _).alloc (Nat.le_refl _) _ | refine Below.setCell ?_ (Nat.le_refl _) _), .inr ⟨3, 1, by omega, by omega, HT.out, rfl⟩⟩

set_option maxHeartbeats 2000000 in
set_option maxRecDepth 100000 in
theorem next_mark3 (s : ByteArray) (a : Nat) (w : World) (h : MarkIn s a) (hm : mrkB ((bs s).getD a 0) = true) (q0 : (nth (bs s) a == 61) = true) (q1 : a + 1 < s.size) (q3 : (nth (bs s) (a + 1) == 61) = true) :
    Calls Tryd.prog 53 #[.string s, .int .i64 a] w (NextOut s a w) := by
  have HT := Lib.hid (mark_tok (n := 2) h hm (by rw [mark_len h, if_pos ⟨by simpa using q0, q1, by simpa using q3⟩]))
  have HX := Lib.hid (cut_text s a 2 (by omega))
  obtain ⟨hs, ha, hl, hd, hb, hc⟩ := h
  have hsk := bs_nth s a ha
  obtain ⟨r0, r1⟩ := nth_range (bs s) a
  have hin : ∀ w, Calls Tryd.prog 60 #[.string ⟨#[40, 41, 123, 125, 91, 93, 44, 59, 61, 43, 45, 42, 47, 37, 60, 33, 38, 124]⟩, .int .u8 (nth (bs s) a)] w fun e w' => e = .returned (.bool (mrkB ((bs s).getD a 0))) ∧ w = w' := fun w => by
    have := in_any ⟨#[40, 41, 123, 125, 91, 93, 44, 59, 61, 43, 45, 42, 47, 37, 60, 33, 38, 124]⟩ (nth (bs s) a) w (by decide)
    rw [show nth (bs s) a = bv ((bs s).getD a 0) from rfl, has_marks] at this
    exact this
  rw [hm] at hin
  clear hb hc
  obtain ⟨x, hx⟩ : ∃ x, nth (bs s) a = x := ⟨_, rfl⟩
  rw [hx] at hsk r0 r1 hl hd hin q0
  have HI := Lib.hid hin; clear hin hx hm
  have hsk2 := bs_nth s (a + 1) q1
  obtain ⟨y, hy⟩ : ∃ y, nth (bs s) (a + 1) = y := ⟨_, rfl⟩
  rw [hy] at hsk2 q3
  clear hy
  have q2 : (a : Int) + 1 < (s.size : Int) := by omega
  have z1 : (a : Int) + 2 ≤ (s.size : Int) := by omega
  have z2 : (a : Int) ≤ (a : Int) + 2 := by omega
  have z3 : 0 ≤ (a : Int) + 2 := by omega
  have z4 : ((a : Int) + 2).toNat = a + 2 := by omega
  have z5 : (a : Int) + 1 + 1 = (a : Int) + 2 := by omega
  go_enter Tryd.func53, Tryd.ntmps53
  go_wp2_with (first
    | (go_at_call 61; ((with_reducible refine (rletter_any _ _ r0 r1).mono ?_); rintro e w1 ⟨rfl, rfl⟩))
    | (go_at_call 62; ((with_reducible refine (rdigit_any _ _ r0 r1).mono ?_); rintro e w1 ⟨rfl, rfl⟩))
    | (go_at_call 60; ((with_reducible refine (HI.out _).mono ?_); rintro e w1 ⟨rfl, rfl⟩)))
  exact bodyPost_ret (v := .tuple #[.agg #[.int .i64 3, .string ⟨(((bs s).drop a).take 2).toArray⟩, .int .i64 a], .int .i64 (-1)]) (by simp [results, Tryd.results53, go_sem, HX.out]) rfl ⟨by repeat (first | exact (Below.refl _ _).alloc (Nat.le_refl _) _ | refine Below.setCell ?_ (Nat.le_refl _) _), .inr ⟨3, 2, by omega, by omega, HT.out, rfl⟩⟩

theorem next_any (s : ByteArray) (a : Nat) (w : World) (hs : s.size ≤ 65536) (ha : a < s.size) (hb : blkB (nth (bs s) a) = false) (hc : (nth (bs s) a == 35) = false) :
    Calls Tryd.prog 53 #[.string s, .int .i64 a] w (NextOut s a w) := by
  cases h1 : letB (nth (bs s) a) with
  | true => exact next_word s a w hs ha h1 hb hc
  | false =>
    cases h2 : digB (nth (bs s) a) with
    | true => exact next_digit s a w hs ha h1 h2 hb hc
    | false =>
      have h : MarkIn s a := ⟨hs, ha, h1, h2, hb, hc⟩
      cases hm : mrkB ((bs s).getD a 0) with
      | false => exact next_none s a w h hm
      | true =>
        cases q0 : (nth (bs s) a == 61) with
        | false => exact next_mark0 s a w h hm q0
        | true =>
          by_cases q1 : a + 1 < s.size
          · cases q3 : (nth (bs s) (a + 1) == 61) with
            | false => exact next_mark2 s a w h hm q0 q1 q3
            | true => exact next_mark3 s a w h hm q0 q1 q3
          · exact next_mark1 s a w h hm q0 (by omega)

end Go.Proofs.YtaedlhjjfmmpdaaDoor
