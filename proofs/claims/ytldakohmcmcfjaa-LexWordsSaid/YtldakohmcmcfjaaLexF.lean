/-
  The contracts of lex.comment and lex.first, and of the two IndexByte of Go's library that they call.
-/
import Derived.Test.YtldakohmcmcfjaaLexC
namespace Go.Proofs.Ytldakohmcmcfjaa
open Go Go.RowKit Go.Lib

def ints (l : List UInt8) : List Int := l.map bv
theorem ints_getD (l : List UInt8) (i : Nat) (h : i < l.length) : (ints l).getD i 0 = nth l i := by
  unfold ints nth
  rw [List.getD_eq_getElem?_getD, List.getD_eq_getElem?_getD, List.getElem?_map, List.getElem?_eq_getElem h]; rfl
theorem bytesOf_ints (l : List UInt8) : Lib.bytesOf (ints l) = l := by
  unfold Lib.bytesOf ints
  rw [List.map_map]
  conv => rhs; rw [← List.map_id l]
  apply List.map_congr_left
  intro c _
  simp [bv]

set_option maxHeartbeats 1000000 in
set_option maxRecDepth 100000 in
theorem bytes_index (b o c : Nat) (l : List UInt8) (cv : Int) (w : World)
    (hc : ∀ i, i < l.length → w.cell? ⟨b, o + i, none⟩ = some (.int .u8 (nth l i))) :
    Calls Try.prog 19 #[.slice (some ⟨b, o, none⟩) l.length c, .int .u8 cv] w fun e w' => e = .returned (.int .i64 (Lib.indexByte l cv.toNat.toUInt8)) ∧ w = w' := by
  have HR := Lib.hid (Lib.run_indexByteSlice (P := Try.prog) w b o l.length c (ints l) (by simp [ints]) (fun i hi => by rw [ints_getD l i hi]; exact hc i hi) cv)
  clear hc
  go_enter Try.func19, Try.ntmps19
  go_wp2
  rw [run_callFunc_extern Try.func27 (by kernel_rfl) (by kernel_rfl) (by kernel_rfl) (e := Extern.BytealgIndexByte.indexByte) (by kernel_rfl), HR.out, bytesOf_ints]
  simp only [Result.andThen]
  rw [Oper.upon_value]
  go_wp2
  go_ret
  exact ⟨rfl, rfl⟩

set_option maxHeartbeats 1000000 in
set_option maxRecDepth 100000 in
theorem lite_index (s : ByteArray) (cv : Int) (w : World) :
    Calls Try.prog 28 #[.string s, .int .u8 cv] w fun e w' => e = .returned (.int .i64 (Lib.indexByte s.data.toList cv.toNat.toUInt8)) ∧ w = w' := by
  go_enter Try.func28, Try.ntmps28
  go_wp2
  rw [run_callFunc_extern Try.func29 (by kernel_rfl) (by kernel_rfl) (by kernel_rfl) (e := Extern.BytealgIndexByte.indexByte) (by kernel_rfl), Lib.run_indexByteString]
  simp only [Result.andThen]
  rw [Oper.upon_value]
  go_wp2
  go_ret
  exact ⟨rfl, rfl⟩

set_option maxRecDepth 100000 in
theorem strings_index (s : ByteArray) (cv : Int) (w : World) :
    Calls Try.prog 23 #[.string s, .int .u8 cv] w fun e w' => e = .returned (.int .i64 (Lib.indexByte s.data.toList cv.toNat.toUInt8)) ∧ w = w' := by
  go_enter Try.func23, Try.ntmps23
  go_wp2_with (go_at_call 28; ((with_reducible refine (lite_index _ _ _).mono ?_); rintro e w1 ⟨rfl, rfl⟩))
  go_ret
  exact ⟨rfl, rfl⟩

theorem index_ge (l : List UInt8) (c : UInt8) : (0 ≤ Lib.indexByte l c ∧ l.contains c = true) ∨ (Lib.indexByte l c = -1 ∧ l.contains c = false) := by
  induction l with
  | nil => right; exact ⟨rfl, rfl⟩
  | cons b l ih =>
    unfold Lib.indexByte
    by_cases h : b = c
    · left; subst h; simp
    · rw [if_neg (by simpa using h)]
      rcases ih with ⟨h1, h2⟩ | ⟨h1, h2⟩
      · left
        rw [if_neg (by simp; omega)]
        exact ⟨by omega, by rw [List.contains_cons, h2]; simp⟩
      · right
        rw [if_pos (by simpa using h1)]
        refine ⟨rfl, by rw [List.contains_cons, h2, Bool.or_false]; simpa using fun e => h e.symm⟩
theorem index_cons (b c : UInt8) (l : List UInt8) : Lib.indexByte (b :: l) c = if b == c then 0 else if Lib.indexByte l c == -1 then -1 else Lib.indexByte l c + 1 := rfl
theorem commL_cons (b : UInt8) (l : List UInt8) : commL (b :: l) = if b = 10 then 0 else commL l + 1 := rfl
theorem comm_index (l : List UInt8) : (commL l : Int) = if 0 ≤ Lib.indexByte l 10 then Lib.indexByte l 10 else l.length := by
  induction l with
  | nil => rfl
  | cons b l ih =>
    rw [commL_cons, index_cons]
    by_cases h : b = 10
    · subst h; simp
    · have hb : (b == 10) = false := by simpa using h
      rw [if_neg h, hb]
      have hg := Lib.indexByte_ge l 10
      by_cases hi : Lib.indexByte l 10 = -1
      · rw [hi] at ih ⊢
        simp at ih ⊢
        omega
      · have hi' : (Lib.indexByte l 10 == -1) = false := by simpa using hi
        rw [if_pos (by omega)] at ih
        rw [hi']
        simp only [Bool.false_eq_true, if_false]
        rw [if_pos (by omega)]
        omega
theorem index_le (l : List UInt8) (c : UInt8) : Lib.indexByte l c ≤ l.length := by
  induction l with
  | nil => show (-1 : Int) ≤ 0; decide
  | cons b l ih =>
    rw [index_cons]
    split
    · simp; omega
    · split
      · simp; omega
      · simp; omega

set_option maxRecDepth 100000 in
theorem comment_any (b o c : Nat) (l : List UInt8) (w : World) (hl : l.length ≤ 65536)
    (hc : ∀ i, i < l.length → w.cell? ⟨b, o + i, none⟩ = some (.int .u8 (nth l i))) :
    Calls Try.prog 14 #[.slice (some ⟨b, o, none⟩) l.length c] w fun e w' => e = .returned (.int .i64 (commL l)) ∧ w = w' := by
  have HC := Lib.hid hc; clear hc
  have HX := Lib.hid (comm_index l)
  obtain ⟨x, hx⟩ : ∃ x, Lib.indexByte l 10 = x := ⟨_, rfl⟩
  have hx0 := Lib.indexByte_ge l 10
  have hx1 := index_le l 10
  rw [hx] at hx0 hx1
  have hb : Calls Try.prog 19 #[.slice (some ⟨b, o, none⟩) l.length c, .int .u8 10] w fun e w' => e = .returned (.int .i64 x) ∧ w = w' := by
    rw [← hx]; exact bytes_index b o c l 10 w HC.out
  have HB := Lib.hid hx; clear hx
  go_enter Try.func14, Try.ntmps14
  go_wp2_with (go_at_call 19; ((with_reducible refine hb.mono ?_); rintro e w1 ⟨rfl, rfl⟩))
  all_goals
    go_ret
    refine ⟨ret_int ?_, rfl⟩
    rw [HX.out, HB.out]
    first | (rw [if_pos (by omega)]; done) | (rw [if_neg (by omega)]; done)

theorem mrk_index (c : UInt8) : mrkB c = decide (0 ≤ Lib.indexByte marksL c) := by
  unfold mrkB
  rcases index_ge marksL c with ⟨h1, h2⟩ | ⟨h1, h2⟩
  · rw [h2, decide_eq_true h1]
  · rw [h2, h1]; rfl

theorem firstK_nth {l : List UInt8} (h : 0 < l.length) : firstK l = if letB (nth l 0) then 1 else if digB (nth l 0) then 2 else if mrkB (l.getD 0 0) then 3 else 0 := by
  cases l with
  | nil => simp at h
  | cons c l => rfl
theorem firstN_nth {l : List UInt8} (h : 0 < l.length) : firstN l = if letB (nth l 0) then reachL inwB l else if digB (nth l 0) then reachL digB l
      else if nth l 0 = 61 ∧ 1 < l.length ∧ nth l 1 = 61 then 2 else if mrkB (l.getD 0 0) then 1 else 0 := by
  cases l with
  | nil => simp at h
  | cons c l =>
    rw [firstN_cons]
    have e : (c = 61 ∧ l.head? = some 61) ↔ (nth (c :: l) 0 = 61 ∧ 1 < (c :: l).length ∧ nth (c :: l) 1 = 61) := by
      have key : ∀ d : UInt8, d = 61 ↔ bv d = 61 := fun d => ⟨fun h => by rw [h]; rfl, fun h => bv_inj (n := 61) h (by decide)⟩
      cases l with
      | nil => simp
      | cons d l =>
        simp only [List.head?_cons, Option.some.injEq, List.length_cons]
        rw [key c, key d]
        exact ⟨fun ⟨h1, h2⟩ => ⟨h1, by omega, h2⟩, fun ⟨h1, _, h2⟩ => ⟨h1, h2⟩⟩
    simp only [e]
    rfl
theorem u8_back (c : UInt8) : (bv c).toNat.toUInt8 = c := by simp [bv]

theorem ret_two {a b : Int} {c d : Nat} (h1 : a = c) (h2 : b = d) : Ending.returned (.tuple #[.int .i64 a, .int .i64 b]) = .returned (.tuple #[.int .i64 c, .int .i64 d]) := by rw [h1, h2]


section
variable (b o c : Nat) (l : List UInt8) (w : World) (x : Int)
/-- What first_any's walks ask for. -/
def FirstIn : Prop := l.length ≤ 65536 ∧ 0 < l.length ∧ (∀ i, i < l.length → w.cell? ⟨b, o + i, none⟩ = some (.int .u8 (nth l i))) ∧ Lib.indexByte marksL (nth l 0).toNat.toUInt8 = x ∧ -1 ≤ x ∧ x ≤ 18
def FirstOut (e : Ending) (w' : World) : Prop := e = .returned (.tuple #[.int .i64 (firstK l), .int .i64 (firstN l)]) ∧ w = w'
variable {l} {x}
theorem out_let (h0 : 0 < l.length) (h : letB (nth l 0) = true) : FirstOut l w (.returned (.tuple #[.int .i64 1, .int .i64 (reachL inwB l)])) w := by
  unfold FirstOut; rw [firstK_nth h0, firstN_nth h0, if_pos h, if_pos h]; exact ⟨rfl, rfl⟩
theorem out_dig (h0 : 0 < l.length) (h : letB (nth l 0) = false) (h2 : digB (nth l 0) = true) : FirstOut l w (.returned (.tuple #[.int .i64 2, .int .i64 (reachL digB l)])) w := by
  unfold FirstOut; rw [firstK_nth h0, firstN_nth h0, h, h2]; exact ⟨rfl, rfl⟩
theorem out_mark (h0 : 0 < l.length) (hm : mrkB (l.getD 0 0) = decide (0 ≤ x)) (h : letB (nth l 0) = false) (h2 : digB (nth l 0) = false) (hn : ¬ (nth l 0 = 61 ∧ 1 < l.length ∧ nth l 1 = 61)) (hx : 0 ≤ x) : FirstOut l w (.returned (.tuple #[.int .i64 3, .int .i64 1])) w := by
  unfold FirstOut; rw [firstK_nth h0, firstN_nth h0, h, h2, if_neg hn, hm, decide_eq_true hx]; exact ⟨rfl, rfl⟩
theorem out_none (h0 : 0 < l.length) (hm : mrkB (l.getD 0 0) = decide (0 ≤ x)) (h : letB (nth l 0) = false) (h2 : digB (nth l 0) = false) (hn : ¬ (nth l 0 = 61 ∧ 1 < l.length ∧ nth l 1 = 61)) (hx : x < 0) : FirstOut l w (.returned (.tuple #[.int .i64 0, .int .i64 0])) w := by
  unfold FirstOut; rw [firstK_nth h0, firstN_nth h0, h, h2, if_neg hn, hm, decide_eq_false (by omega)]; exact ⟨rfl, rfl⟩
theorem out_two (h0 : 0 < l.length) (hn : nth l 0 = 61 ∧ 1 < l.length ∧ nth l 1 = 61) : FirstOut l w (.returned (.tuple #[.int .i64 3, .int .i64 2])) w := by
  have e1 : letB 61 = false := rfl
  have e2 : digB 61 = false := rfl
  have e3 : l.getD 0 0 = 61 := bv_inj (n := 61) hn.1 (by decide)
  have e4 : mrkB 61 = true := rfl
  unfold FirstOut; rw [firstK_nth h0, firstN_nth h0, if_pos hn, hn.1, e1, e2, e3, e4]; exact ⟨rfl, rfl⟩
variable (l) (x)

set_option maxHeartbeats 2000000 in
set_option maxRecDepth 100000 in
theorem first_0 (q0 : (nth l 0 == 61) = false) (h : FirstIn b o l w x) : Calls Try.prog 15 #[.slice (some ⟨b, o, none⟩) l.length c] w (FirstOut l w) := by
  obtain ⟨hl, h0, hc, hx, hx0, hx1⟩ := h
  have c0 : w.cell? ⟨b, o, none⟩ = some (.int .u8 (nth l 0)) := hc 0 h0
  have HT := Lib.hid (show ¬ (nth l 0 = 61 ∧ 1 < l.length ∧ nth l 1 = 61) from fun h => by rw [h.1] at q0; simp at q0)
  have HC := Lib.hid hc; clear hc
  obtain ⟨r0, r1⟩ := nth_range l 0
  have hm0 : mrkB (l.getD 0 0) = decide (0 ≤ Lib.indexByte marksL (nth l 0).toNat.toUInt8) := by
    rw [mrk_index]; unfold nth; rw [u8_back]
  rw [hx] at hm0
  have HM := Lib.hid hm0; clear hm0
  have hb : Calls Try.prog 23 #[.string ⟨#[40, 41, 123, 125, 91, 93, 44, 59, 61, 43, 45, 42, 47, 37, 60, 33, 38, 124]⟩, .int .u8 (nth l 0)] w fun e w' => e = .returned (.int .i64 x) ∧ w = w' := by
    rw [← hx]; exact strings_index _ _ w
  have HX := Lib.hid hx; clear hx
  go_enter Try.func15, Try.ntmps15
  go_wp2_with (first
    | (go_at_call 16; ((with_reducible refine (letter_any _ _ r0 r1).mono ?_); rintro e w1 ⟨rfl, rfl⟩))
    | (go_at_call 22; ((with_reducible refine (digit_any _ _ r0 r1).mono ?_); rintro e w1 ⟨rfl, rfl⟩))
    | (go_at_call 20; ((with_reducible refine (reach_word _ _ _ _ _ hl HC.out).mono ?_); rintro e w1 ⟨rfl, rfl⟩))
    | (go_at_call 20; ((with_reducible refine (reach_digits _ _ _ _ _ hl HC.out).mono ?_); rintro e w1 ⟨rfl, rfl⟩))
    | (go_at_call 23; ((with_reducible refine hb.mono ?_); rintro e w1 ⟨rfl, rfl⟩)))
  all_goals
    go_ret2
    first
      | exact out_let w h0 (by assumption)
      | exact out_dig w h0 (by assumption) (by assumption)
      | exact out_two w h0 HT.out
      | exact out_mark w h0 HM.out (by assumption) (by assumption) HT.out (by assumption)
      | exact out_none w h0 HM.out (by assumption) (by assumption) HT.out (by assumption)

set_option maxHeartbeats 2000000 in
set_option maxRecDepth 100000 in
theorem first_1 (q0 : (nth l 0 == 61) = true) (q1 : decide (1 < l.length) = false) (h : FirstIn b o l w x) : Calls Try.prog 15 #[.slice (some ⟨b, o, none⟩) l.length c] w (FirstOut l w) := by
  obtain ⟨hl, h0, hc, hx, hx0, hx1⟩ := h
  have c0 : w.cell? ⟨b, o, none⟩ = some (.int .u8 (nth l 0)) := hc 0 h0
  have h1 : (l.length : Int) ≤ 1 := by have := of_decide_eq_false q1; omega
  have HT := Lib.hid (show ¬ (nth l 0 = 61 ∧ 1 < l.length ∧ nth l 1 = 61) from fun h => of_decide_eq_false q1 h.2.1)
  have HC := Lib.hid hc; clear hc
  obtain ⟨r0, r1⟩ := nth_range l 0
  have hm0 : mrkB (l.getD 0 0) = decide (0 ≤ Lib.indexByte marksL (nth l 0).toNat.toUInt8) := by
    rw [mrk_index]; unfold nth; rw [u8_back]
  rw [hx] at hm0
  have HM := Lib.hid hm0; clear hm0
  have hb : Calls Try.prog 23 #[.string ⟨#[40, 41, 123, 125, 91, 93, 44, 59, 61, 43, 45, 42, 47, 37, 60, 33, 38, 124]⟩, .int .u8 (nth l 0)] w fun e w' => e = .returned (.int .i64 x) ∧ w = w' := by
    rw [← hx]; exact strings_index _ _ w
  have HX := Lib.hid hx; clear hx
  go_enter Try.func15, Try.ntmps15
  go_wp2_with (first
    | (go_at_call 16; ((with_reducible refine (letter_any _ _ r0 r1).mono ?_); rintro e w1 ⟨rfl, rfl⟩))
    | (go_at_call 22; ((with_reducible refine (digit_any _ _ r0 r1).mono ?_); rintro e w1 ⟨rfl, rfl⟩))
    | (go_at_call 20; ((with_reducible refine (reach_word _ _ _ _ _ hl HC.out).mono ?_); rintro e w1 ⟨rfl, rfl⟩))
    | (go_at_call 20; ((with_reducible refine (reach_digits _ _ _ _ _ hl HC.out).mono ?_); rintro e w1 ⟨rfl, rfl⟩))
    | (go_at_call 23; ((with_reducible refine hb.mono ?_); rintro e w1 ⟨rfl, rfl⟩)))
  all_goals
    go_ret2
    first
      | exact out_let w h0 (by assumption)
      | exact out_dig w h0 (by assumption) (by assumption)
      | exact out_two w h0 HT.out
      | exact out_mark w h0 HM.out (by assumption) (by assumption) HT.out (by assumption)
      | exact out_none w h0 HM.out (by assumption) (by assumption) HT.out (by assumption)

set_option maxHeartbeats 2000000 in
set_option maxRecDepth 100000 in
theorem first_2 (q0 : (nth l 0 == 61) = true) (q1 : decide (1 < l.length) = true) (q2 : (nth l 1 == 61) = false) (h : FirstIn b o l w x) : Calls Try.prog 15 #[.slice (some ⟨b, o, none⟩) l.length c] w (FirstOut l w) := by
  obtain ⟨hl, h0, hc, hx, hx0, hx1⟩ := h
  have c0 : w.cell? ⟨b, o, none⟩ = some (.int .u8 (nth l 0)) := hc 0 h0
  have h1 : 1 < l.length := of_decide_eq_true q1
  have h1' : 1 < (l.length : Int) := by omega
  have c1 : w.cell? ⟨b, o + 1, none⟩ = some (.int .u8 (nth l 1)) := hc 1 h1
  have HT := Lib.hid (show ¬ (nth l 0 = 61 ∧ 1 < l.length ∧ nth l 1 = 61) from fun h => by rw [h.2.2] at q2; simp at q2)
  have HC := Lib.hid hc; clear hc
  obtain ⟨r0, r1⟩ := nth_range l 0
  have hm0 : mrkB (l.getD 0 0) = decide (0 ≤ Lib.indexByte marksL (nth l 0).toNat.toUInt8) := by
    rw [mrk_index]; unfold nth; rw [u8_back]
  rw [hx] at hm0
  have HM := Lib.hid hm0; clear hm0
  have hb : Calls Try.prog 23 #[.string ⟨#[40, 41, 123, 125, 91, 93, 44, 59, 61, 43, 45, 42, 47, 37, 60, 33, 38, 124]⟩, .int .u8 (nth l 0)] w fun e w' => e = .returned (.int .i64 x) ∧ w = w' := by
    rw [← hx]; exact strings_index _ _ w
  have HX := Lib.hid hx; clear hx
  go_enter Try.func15, Try.ntmps15
  go_wp2_with (first
    | (go_at_call 16; ((with_reducible refine (letter_any _ _ r0 r1).mono ?_); rintro e w1 ⟨rfl, rfl⟩))
    | (go_at_call 22; ((with_reducible refine (digit_any _ _ r0 r1).mono ?_); rintro e w1 ⟨rfl, rfl⟩))
    | (go_at_call 20; ((with_reducible refine (reach_word _ _ _ _ _ hl HC.out).mono ?_); rintro e w1 ⟨rfl, rfl⟩))
    | (go_at_call 20; ((with_reducible refine (reach_digits _ _ _ _ _ hl HC.out).mono ?_); rintro e w1 ⟨rfl, rfl⟩))
    | (go_at_call 23; ((with_reducible refine hb.mono ?_); rintro e w1 ⟨rfl, rfl⟩)))
  all_goals
    go_ret2
    first
      | exact out_let w h0 (by assumption)
      | exact out_dig w h0 (by assumption) (by assumption)
      | exact out_two w h0 HT.out
      | exact out_mark w h0 HM.out (by assumption) (by assumption) HT.out (by assumption)
      | exact out_none w h0 HM.out (by assumption) (by assumption) HT.out (by assumption)

set_option maxHeartbeats 2000000 in
set_option maxRecDepth 100000 in
theorem first_3 (q0 : (nth l 0 == 61) = true) (q1 : decide (1 < l.length) = true) (q2 : (nth l 1 == 61) = true) (h : FirstIn b o l w x) : Calls Try.prog 15 #[.slice (some ⟨b, o, none⟩) l.length c] w (FirstOut l w) := by
  obtain ⟨hl, h0, hc, hx, hx0, hx1⟩ := h
  have c0 : w.cell? ⟨b, o, none⟩ = some (.int .u8 (nth l 0)) := hc 0 h0
  have h1 : 1 < l.length := of_decide_eq_true q1
  have h1' : 1 < (l.length : Int) := by omega
  have c1 : w.cell? ⟨b, o + 1, none⟩ = some (.int .u8 (nth l 1)) := hc 1 h1
  have HT := Lib.hid (show (nth l 0 = 61 ∧ 1 < l.length ∧ nth l 1 = 61) from ⟨by simpa using q0, of_decide_eq_true q1, by simpa using q2⟩)
  have HC := Lib.hid hc; clear hc
  obtain ⟨r0, r1⟩ := nth_range l 0
  have hm0 : mrkB (l.getD 0 0) = decide (0 ≤ Lib.indexByte marksL (nth l 0).toNat.toUInt8) := by
    rw [mrk_index]; unfold nth; rw [u8_back]
  rw [hx] at hm0
  have HM := Lib.hid hm0; clear hm0
  have hb : Calls Try.prog 23 #[.string ⟨#[40, 41, 123, 125, 91, 93, 44, 59, 61, 43, 45, 42, 47, 37, 60, 33, 38, 124]⟩, .int .u8 (nth l 0)] w fun e w' => e = .returned (.int .i64 x) ∧ w = w' := by
    rw [← hx]; exact strings_index _ _ w
  have HX := Lib.hid hx; clear hx
  go_enter Try.func15, Try.ntmps15
  go_wp2_with (first
    | (go_at_call 16; ((with_reducible refine (letter_any _ _ r0 r1).mono ?_); rintro e w1 ⟨rfl, rfl⟩))
    | (go_at_call 22; ((with_reducible refine (digit_any _ _ r0 r1).mono ?_); rintro e w1 ⟨rfl, rfl⟩))
    | (go_at_call 20; ((with_reducible refine (reach_word _ _ _ _ _ hl HC.out).mono ?_); rintro e w1 ⟨rfl, rfl⟩))
    | (go_at_call 20; ((with_reducible refine (reach_digits _ _ _ _ _ hl HC.out).mono ?_); rintro e w1 ⟨rfl, rfl⟩))
    | (go_at_call 23; ((with_reducible refine hb.mono ?_); rintro e w1 ⟨rfl, rfl⟩)))
  all_goals
    go_ret2
    first
      | exact out_let w h0 (by assumption)
      | exact out_dig w h0 (by assumption) (by assumption)
      | exact out_two w h0 HT.out
      | exact out_mark w h0 HM.out (by assumption) (by assumption) HT.out (by assumption)
      | exact out_none w h0 HM.out (by assumption) (by assumption) HT.out (by assumption)
end

theorem first_any (b o c : Nat) (l : List UInt8) (w : World) (hl : l.length ≤ 65536) (h0 : 0 < l.length)
    (hc : ∀ i, i < l.length → w.cell? ⟨b, o + i, none⟩ = some (.int .u8 (nth l i))) :
    Calls Try.prog 15 #[.slice (some ⟨b, o, none⟩) l.length c] w (FirstOut l w) := by
  have hi : FirstIn b o l w (Lib.indexByte marksL (nth l 0).toNat.toUInt8) := ⟨hl, h0, hc, rfl, Lib.indexByte_ge _ _, index_le marksL _⟩
  cases q0 : nth l 0 == 61 with
  | false => exact first_0 b o c l w _ q0 hi
  | true =>
    cases q1 : decide (1 < l.length) with
    | false => exact first_1 b o c l w _ q0 q1 hi
    | true =>
      cases q2 : nth l 1 == 61 with
      | false => exact first_2 b o c l w _ q0 q1 q2 hi
      | true => exact first_3 b o c l w _ q0 q1 q2 hi

end Go.Proofs.Ytldakohmcmcfjaa
