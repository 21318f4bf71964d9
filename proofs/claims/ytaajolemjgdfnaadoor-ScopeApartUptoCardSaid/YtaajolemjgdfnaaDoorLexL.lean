/-
  Texts LexC LexF LexL: put together.
-/
import Derived.Test.YtaajolemjgdfnaaDoorChecked
import Derived.Test.YtaajolemjgdfnaaDoorLexP
import Derived.WalkKit
import Derived.Lib.Hide
import Derived.Lib.OthersKept
import Derived.Lib.BytesEntry
import Derived.Deep.QuietTactic
import Derived.BigQuiet
import Derived.Deep.LoopGhost
import Derived.WalkMore
/-
  The contracts of package lex's small functions: what a byte is, how far bytes of a kind reach, where a comment ends, what the first token is.
-/
namespace Go.Proofs.YtaajolemjgdfnaaDoor
open Go Go.RowKit Go.Lib

theorem lret_bool {a b : Bool} (h : a = b) : Ending.returned (.bool a) = .returned (.bool b) := by rw [h]
theorem lret_int {k : IntKind} {a b : Int} (h : a = b) : Ending.returned (.int k a) = .returned (.int k b) := by rw [h]

theorem lletter_any (x : Int) (w : World) (h0 : 0 ≤ x) (h1 : x ≤ 255) :
    Calls Tryd.prog 52 #[.int .u8 x] w fun e w' => e = .returned (.bool (letB x)) ∧ w = w' := by
  go_enter Tryd.func52, Tryd.ntmps52
  go_wp2
  all_goals
    go_ret
    refine ⟨lret_bool ?_, rfl⟩
    unfold letB
    rw [Bool.eq_iff_iff]
    simp only [decide_eq_true_eq, Bool.or_eq_true, Bool.false_eq_true, false_iff, true_iff]
    omega

theorem digit_any (x : Int) (w : World) (h0 : 0 ≤ x) (h1 : x ≤ 255) :
    Calls Tryd.prog 66 #[.int .u8 x] w fun e w' => e = .returned (.bool (digB x)) ∧ w = w' := by
  go_enter Tryd.func66, Tryd.ntmps66
  go_wp2
  all_goals
    go_ret
    refine ⟨lret_bool ?_, rfl⟩
    unfold digB
    rw [Bool.eq_iff_iff]
    simp only [decide_eq_true_eq, Bool.false_eq_true, false_iff]
    omega

theorem lparts_any (x : Int) (w : World) :
    Calls Tryd.prog 49 #[.int .u8 x] w fun e w' => e = .returned (.bool (blkB x)) ∧ w = w' := by
  go_enter Tryd.func49, Tryd.ntmps49
  go_wp2
  all_goals
    go_ret
    refine ⟨lret_bool ?_, rfl⟩
    unfold blkB
    try simp_all

theorem inword_any (x : Int) (w : World) (h0 : 0 ≤ x) (h1 : x ≤ 255) :
    Calls Tryd.prog 65 #[.int .u8 x] w fun e w' => e = .returned (.bool (inwB x)) ∧ w = w' := by
  go_enter Tryd.func65, Tryd.ntmps65
  go_wp2_with (first
    | (go_at_call 52; ((with_reducible refine (lletter_any _ _ h0 h1).mono ?_); rintro e w1 ⟨rfl, rfl⟩))
    | (go_at_call 66; ((with_reducible refine (digit_any _ _ h0 h1).mono ?_); rintro e w1 ⟨rfl, rfl⟩)))
  all_goals
    go_ret
    refine ⟨lret_bool ?_, rfl⟩
    unfold inwB
    try simp_all

/-- A slice of bytes: the address is asked for only where there is a byte. -/
def Row (w : World) (A : Option Addr) (l : List UInt8) : Prop :=
  0 < l.length → ∃ b o, A = some ⟨b, o, none⟩ ∧ b < w.heap.size ∧ ∀ i, i < l.length → w.cell? ⟨b, o + i, none⟩ = some (.int .u8 (nth l i))

theorem reachL_at (p : Int → Bool) (l : List UInt8) (k : Nat) (h : k < l.length) : reachL p (l.drop k) = if p (nth l k) then reachL p (l.drop (k + 1)) + 1 else 0 := by
  rw [drop_cons h, reachL]; rfl

set_option maxHeartbeats 800000 in
theorem reach_word (b o cap : Nat) (l : List UInt8) (w : World) (hl : l.length ≤ 65536)
    (hc : ∀ i, i < l.length → w.cell? ⟨b, o + i, none⟩ = some (.int .u8 (nth l i))) :
    Calls Tryd.prog 64 #[.slice (some ⟨b, o, none⟩) l.length cap, .func (.func 65) #[] #[]] w fun e w' => e = .returned (.int .i64 (reachL inwB l)) ∧ w = w' := by
  have HC := Lib.hid hc; clear hc
  go_enter Tryd.func64, Tryd.ntmps64
  go_wp2
  go_loop [5] (fun i => ∃ k : Nat, k ≤ l.length ∧ i = .int .i64 k ∧ reachL inwB l = k + reachL inwB (l.drop k)) (fun i => l.length - (intOf i).toNat)
  case atStart => exact ⟨0, Nat.zero_le _, rfl, by simp⟩
  case round =>
    obtain ⟨k, hk, rfl, hr⟩ := hrel
    have HR := Lib.hid hr; clear hr
    by_cases hlt : k < l.length
    · have hcell := HC.out k hlt
      obtain ⟨r0, r1⟩ := nth_range l k
      have HS := Lib.hid (reachL_at inwB l k hlt)
      cases hpk : inwB (nth l k) with
      | true =>
        go_wp2_with (go_at_call 65; ((with_reducible refine (inword_any _ _ r0 r1).mono ?_); rintro e w1 ⟨rfl, rfl⟩))
        go_round
        case rel => exact ⟨k + 1, by omega, by go_num, by rw [HR.out, HS.out, if_pos hpk]; omega⟩
        case measure => simp [intOf]; omega
      | false =>
        go_wp2_with (go_at_call 65; ((with_reducible refine (inword_any _ _ r0 r1).mono ?_); rintro e w1 ⟨rfl, rfl⟩))
        go_ret
        exact ⟨lret_int (by rw [HR.out, HS.out, if_neg (by rw [hpk]; decide)]; rfl), rfl⟩
    · go_wp2
      go_ret
      exact ⟨lret_int (by rw [HR.out, List.drop_eq_nil_of_le (by omega)]; rfl), rfl⟩

set_option maxHeartbeats 800000 in
theorem reach_digits (b o cap : Nat) (l : List UInt8) (w : World) (hl : l.length ≤ 65536)
    (hc : ∀ i, i < l.length → w.cell? ⟨b, o + i, none⟩ = some (.int .u8 (nth l i))) :
    Calls Tryd.prog 64 #[.slice (some ⟨b, o, none⟩) l.length cap, .func (.func 66) #[] #[]] w fun e w' => e = .returned (.int .i64 (reachL digB l)) ∧ w = w' := by
  have HC := Lib.hid hc; clear hc
  go_enter Tryd.func64, Tryd.ntmps64
  go_wp2
  go_loop [5] (fun i => ∃ k : Nat, k ≤ l.length ∧ i = .int .i64 k ∧ reachL digB l = k + reachL digB (l.drop k)) (fun i => l.length - (intOf i).toNat)
  case atStart => exact ⟨0, Nat.zero_le _, rfl, by simp⟩
  case round =>
    obtain ⟨k, hk, rfl, hr⟩ := hrel
    have HR := Lib.hid hr; clear hr
    by_cases hlt : k < l.length
    · have hcell := HC.out k hlt
      obtain ⟨r0, r1⟩ := nth_range l k
      have HS := Lib.hid (reachL_at digB l k hlt)
      cases hpk : digB (nth l k) with
      | true =>
        go_wp2_with (go_at_call 66; ((with_reducible refine (digit_any _ _ r0 r1).mono ?_); rintro e w1 ⟨rfl, rfl⟩))
        go_round
        case rel => exact ⟨k + 1, by omega, by go_num, by rw [HR.out, HS.out, if_pos hpk]; omega⟩
        case measure => simp [intOf]; omega
      | false =>
        go_wp2_with (go_at_call 66; ((with_reducible refine (digit_any _ _ r0 r1).mono ?_); rintro e w1 ⟨rfl, rfl⟩))
        go_ret
        exact ⟨lret_int (by rw [HR.out, HS.out, if_neg (by rw [hpk]; decide)]; rfl), rfl⟩
    · go_wp2
      go_ret
      exact ⟨lret_int (by rw [HR.out, List.drop_eq_nil_of_le (by omega)]; rfl), rfl⟩

end Go.Proofs.YtaajolemjgdfnaaDoor

/-
  The contracts of lex.comment and lex.first, and of the two IndexByte of Go's library that they call.
-/
namespace Go.Proofs.YtaajolemjgdfnaaDoor
open Go Go.RowKit Go.Lib

def ints (l : List UInt8) : List Int := l.map bv
theorem ints_getD (l : List UInt8) (i : Nat) (h : i < l.length) : (ints l).getD i 0 = nth l i := by
  unfold ints nth
  rw [List.getD_eq_getElem?_getD, List.getD_eq_getElem?_getD, List.getElem?_map, List.getElem?_eq_getElem h]; rfl
theorem bytesOf_ints (l : List UInt8) : Lib.bytesOf (ints l) = l := by
  unfold Lib.bytesOf ints
  rw [List.map_map]
  conv => rhs; rw [← List.map_id l]
  apply List.map_congr_left
  intro c _
  simp [bv]

set_option maxHeartbeats 1000000 in
set_option maxRecDepth 100000 in
theorem bytes_index (b o c : Nat) (l : List UInt8) (cv : Int) (w : World)
    (hc : ∀ i, i < l.length → w.cell? ⟨b, o + i, none⟩ = some (.int .u8 (nth l i))) :
    Calls Tryd.prog 63 #[.slice (some ⟨b, o, none⟩) l.length c, .int .u8 cv] w fun e w' => e = .returned (.int .i64 (Lib.indexByte l cv.toNat.toUInt8)) ∧ w = w' := by
  have HR := Lib.hid (Lib.run_indexByteSlice (P := Tryd.prog) w b o l.length c (ints l) (by simp [ints]) (fun i hi => by rw [ints_getD l i hi]; exact hc i hi) cv)
  clear hc
  go_enter Tryd.func63, Tryd.ntmps63
  go_wp2
  rw [run_callFunc_extern Tryd.func73 (by kernel_rfl) (by kernel_rfl) (by kernel_rfl) (e := Extern.BytealgIndexByte.indexByte) (by kernel_rfl), HR.out, bytesOf_ints]
  simp only [Result.andThen]
  rw [Oper.upon_value]
  go_wp2
  go_ret
  exact ⟨rfl, rfl⟩

set_option maxHeartbeats 1000000 in
set_option maxRecDepth 100000 in
theorem lite_index (s : ByteArray) (cv : Int) (w : World) :
    Calls Tryd.prog 74 #[.string s, .int .u8 cv] w fun e w' => e = .returned (.int .i64 (Lib.indexByte s.data.toList cv.toNat.toUInt8)) ∧ w = w' := by
  go_enter Tryd.func74, Tryd.ntmps74
  go_wp2
  rw [run_callFunc_extern Tryd.func83 (by kernel_rfl) (by kernel_rfl) (by kernel_rfl) (e := Extern.BytealgIndexByte.indexByte) (by kernel_rfl), Lib.run_indexByteString]
  simp only [Result.andThen]
  rw [Oper.upon_value]
  go_wp2
  go_ret
  exact ⟨rfl, rfl⟩

set_option maxRecDepth 100000 in
theorem strings_index (s : ByteArray) (cv : Int) (w : World) :
    Calls Tryd.prog 67 #[.string s, .int .u8 cv] w fun e w' => e = .returned (.int .i64 (Lib.indexByte s.data.toList cv.toNat.toUInt8)) ∧ w = w' := by
  go_enter Tryd.func67, Tryd.ntmps67
  go_wp2_with (go_at_call 74; ((with_reducible refine (lite_index _ _ _).mono ?_); rintro e w1 ⟨rfl, rfl⟩))
  go_ret
  exact ⟨rfl, rfl⟩

theorem index_ge (l : List UInt8) (c : UInt8) : (0 ≤ Lib.indexByte l c ∧ l.contains c = true) ∨ (Lib.indexByte l c = -1 ∧ l.contains c = false) := by
  induction l with
  | nil => right; exact ⟨rfl, rfl⟩
  | cons b l ih =>
    unfold Lib.indexByte
    by_cases h : b = c
    · left; subst h; simp
    · rw [if_neg (by simpa using h)]
      rcases ih with ⟨h1, h2⟩ | ⟨h1, h2⟩
      · left
        rw [if_neg (by simp; omega)]
        exact ⟨by omega, by rw [List.contains_cons, h2]; simp⟩
      · right
        rw [if_pos (by simpa using h1)]
        refine ⟨rfl, by rw [List.contains_cons, h2, Bool.or_false]; simpa using fun e => h e.symm⟩
theorem index_cons (b c : UInt8) (l : List UInt8) : Lib.indexByte (b :: l) c = if b == c then 0 else if Lib.indexByte l c == -1 then -1 else Lib.indexByte l c + 1 := rfl
theorem commL_cons (b : UInt8) (l : List UInt8) : commL (b :: l) = if b = 10 then 0 else commL l + 1 := rfl
theorem comm_index (l : List UInt8) : (commL l : Int) = if 0 ≤ Lib.indexByte l 10 then Lib.indexByte l 10 else l.length := by
  induction l with
  | nil => rfl
  | cons b l ih =>
    rw [commL_cons, index_cons]
    by_cases h : b = 10
    · subst h; simp
    · have hb : (b == 10) = false := by simpa using h
      rw [if_neg h, hb]
      have hg := Lib.indexByte_ge l 10
      by_cases hi : Lib.indexByte l 10 = -1
      · rw [hi] at ih ⊢
        simp at ih ⊢
        omega
      · have hi' : (Lib.indexByte l 10 == -1) = false := by simpa using hi
        rw [if_pos (by omega)] at ih
        rw [hi']
        simp only [Bool.false_eq_true, if_false]
        rw [if_pos (by omega)]
        omega
theorem index_le (l : List UInt8) (c : UInt8) : Lib.indexByte l c ≤ l.length := by
  induction l with
  | nil => show (-1 : Int) ≤ 0; decide
  | cons b l ih =>
    rw [index_cons]
    split
    · simp; omega
    · split
      · simp; omega
      · simp; omega

set_option maxRecDepth 100000 in
theorem comment_any (b o c : Nat) (l : List UInt8) (w : World) (_hl : l.length ≤ 65536)
    (hc : ∀ i, i < l.length → w.cell? ⟨b, o + i, none⟩ = some (.int .u8 (nth l i))) :
    Calls Tryd.prog 50 #[.slice (some ⟨b, o, none⟩) l.length c] w fun e w' => e = .returned (.int .i64 (commL l)) ∧ w = w' := by
  have HC := Lib.hid hc; clear hc
  have HX := Lib.hid (comm_index l)
  obtain ⟨x, hx⟩ : ∃ x, Lib.indexByte l 10 = x := ⟨_, rfl⟩
  have hx0 := Lib.indexByte_ge l 10
  have hx1 := index_le l 10
  rw [hx] at hx0 hx1
  have hb : Calls Tryd.prog 63 #[.slice (some ⟨b, o, none⟩) l.length c, .int .u8 10] w fun e w' => e = .returned (.int .i64 x) ∧ w = w' := by
    rw [← hx]; exact bytes_index b o c l 10 w HC.out
  have HB := Lib.hid hx; clear hx
  go_enter Tryd.func50, Tryd.ntmps50
  go_wp2_with (go_at_call 63; ((with_reducible refine hb.mono ?_); rintro e w1 ⟨rfl, rfl⟩))
  all_goals
    go_ret
    refine ⟨lret_int ?_, rfl⟩
    rw [HX.out, HB.out]
    first | (rw [if_pos (by omega)]; done) | (rw [if_neg (by omega)]; done)

theorem mrk_index (c : UInt8) : mrkB c = decide (0 ≤ Lib.indexByte marksL c) := by
  unfold mrkB
  rcases index_ge marksL c with ⟨h1, h2⟩ | ⟨h1, h2⟩
  · rw [h2, decide_eq_true h1]
  · rw [h2, h1]; rfl

theorem firstK_nth {l : List UInt8} (h : 0 < l.length) : firstK l = if letB (nth l 0) then 1 else if digB (nth l 0) then 2 else if mrkB (l.getD 0 0) then 3 else 0 := by
  cases l with
  | nil => simp at h
  | cons c l => rfl
theorem firstN_nth {l : List UInt8} (h : 0 < l.length) : firstN l = if letB (nth l 0) then reachL inwB l else if digB (nth l 0) then reachL digB l
      else if nth l 0 = 61 ∧ 1 < l.length ∧ nth l 1 = 61 then 2 else if mrkB (l.getD 0 0) then 1 else 0 := by
  cases l with
  | nil => simp at h
  | cons c l =>
    rw [firstN_cons]
    have e : (c = 61 ∧ l.head? = some 61) ↔ (nth (c :: l) 0 = 61 ∧ 1 < (c :: l).length ∧ nth (c :: l) 1 = 61) := by
      have key : ∀ d : UInt8, d = 61 ↔ bv d = 61 := fun d => ⟨fun h => by rw [h]; rfl, fun h => bv_inj (n := 61) h (by decide)⟩
      cases l with
      | nil => simp
      | cons d l =>
        simp only [List.head?_cons, Option.some.injEq, List.length_cons]
        rw [key c, key d]
        exact ⟨fun ⟨h1, h2⟩ => ⟨h1, by omega, h2⟩, fun ⟨h1, _, h2⟩ => ⟨h1, h2⟩⟩
    simp only [e]
    rfl
theorem u8_back (c : UInt8) : (bv c).toNat.toUInt8 = c := by simp [bv]

theorem ret_two {a b : Int} {c d : Nat} (h1 : a = c) (h2 : b = d) : Ending.returned (.tuple #[.int .i64 a, .int .i64 b]) = .returned (.tuple #[.int .i64 c, .int .i64 d]) := by rw [h1, h2]


section
variable (b o c : Nat) (l : List UInt8) (w : World) (x : Int)
/-- What first_any's walks ask for. -/
def FirstIn : Prop := l.length ≤ 65536 ∧ 0 < l.length ∧ (∀ i, i < l.length → w.cell? ⟨b, o + i, none⟩ = some (.int .u8 (nth l i))) ∧ Lib.indexByte marksL (nth l 0).toNat.toUInt8 = x ∧ -1 ≤ x ∧ x ≤ 18
def FirstOut (e : Ending) (w' : World) : Prop := e = .returned (.tuple #[.int .i64 (firstK l), .int .i64 (firstN l)]) ∧ w = w'
variable {l} {x}
theorem out_let (h0 : 0 < l.length) (h : letB (nth l 0) = true) : FirstOut l w (.returned (.tuple #[.int .i64 1, .int .i64 (reachL inwB l)])) w := by
  unfold FirstOut; rw [firstK_nth h0, firstN_nth h0, if_pos h, if_pos h]; exact ⟨rfl, rfl⟩
theorem out_dig (h0 : 0 < l.length) (h : letB (nth l 0) = false) (h2 : digB (nth l 0) = true) : FirstOut l w (.returned (.tuple #[.int .i64 2, .int .i64 (reachL digB l)])) w := by
  unfold FirstOut; rw [firstK_nth h0, firstN_nth h0, h, h2]; exact ⟨rfl, rfl⟩
theorem out_mark (h0 : 0 < l.length) (hm : mrkB (l.getD 0 0) = decide (0 ≤ x)) (h : letB (nth l 0) = false) (h2 : digB (nth l 0) = false) (hn : ¬ (nth l 0 = 61 ∧ 1 < l.length ∧ nth l 1 = 61)) (hx : 0 ≤ x) : FirstOut l w (.returned (.tuple #[.int .i64 3, .int .i64 1])) w := by
  unfold FirstOut; rw [firstK_nth h0, firstN_nth h0, h, h2, if_neg hn, hm, decide_eq_true hx]; exact ⟨rfl, rfl⟩
theorem out_none (h0 : 0 < l.length) (hm : mrkB (l.getD 0 0) = decide (0 ≤ x)) (h : letB (nth l 0) = false) (h2 : digB (nth l 0) = false) (hn : ¬ (nth l 0 = 61 ∧ 1 < l.length ∧ nth l 1 = 61)) (hx : x < 0) : FirstOut l w (.returned (.tuple #[.int .i64 0, .int .i64 0])) w := by
  unfold FirstOut; rw [firstK_nth h0, firstN_nth h0, h, h2, if_neg hn, hm, decide_eq_false (by omega)]; exact ⟨rfl, rfl⟩
theorem out_two (h0 : 0 < l.length) (hn : nth l 0 = 61 ∧ 1 < l.length ∧ nth l 1 = 61) : FirstOut l w (.returned (.tuple #[.int .i64 3, .int .i64 2])) w := by
  have e1 : letB 61 = false := rfl
  have e2 : digB 61 = false := rfl
  have e3 : l.getD 0 0 = 61 := bv_inj (n := 61) hn.1 (by decide)
  have e4 : mrkB 61 = true := rfl
  unfold FirstOut; rw [firstK_nth h0, firstN_nth h0, if_pos hn, hn.1, e1, e2, e3, e4]; exact ⟨rfl, rfl⟩
variable (l) (x)

set_option maxHeartbeats 2000000 in
set_option maxRecDepth 100000 in
theorem first_0 (q0 : (nth l 0 == 61) = false) (h : FirstIn b o l w x) : Calls Tryd.prog 51 #[.slice (some ⟨b, o, none⟩) l.length c] w (FirstOut l w) := by
  obtain ⟨hl, h0, hc, hx, hx0, hx1⟩ := h
  have c0 : w.cell? ⟨b, o, none⟩ = some (.int .u8 (nth l 0)) := hc 0 h0
  have HT := Lib.hid (show ¬ (nth l 0 = 61 ∧ 1 < l.length ∧ nth l 1 = 61) from fun h => by rw [h.1] at q0; simp at q0)
  have HC := Lib.hid hc; clear hc
  obtain ⟨r0, r1⟩ := nth_range l 0
  have hm0 : mrkB (l.getD 0 0) = decide (0 ≤ Lib.indexByte marksL (nth l 0).toNat.toUInt8) := by
    rw [mrk_index]; unfold nth; rw [u8_back]
  rw [hx] at hm0
  have HM := Lib.hid hm0; clear hm0
  have hb : Calls Tryd.prog 67 #[.string ⟨#[40, 41, 123, 125, 91, 93, 44, 59, 61, 43, 45, 42, 47, 37, 60, 33, 38, 124]⟩, .int .u8 (nth l 0)] w fun e w' => e = .returned (.int .i64 x) ∧ w = w' := by
    rw [← hx]; exact strings_index _ _ w
  have HX := Lib.hid hx; clear hx
  go_enter Tryd.func51, Tryd.ntmps51
  go_wp2_with (first
    | (go_at_call 52; ((with_reducible refine (lletter_any _ _ r0 r1).mono ?_); rintro e w1 ⟨rfl, rfl⟩))
    | (go_at_call 66; ((with_reducible refine (digit_any _ _ r0 r1).mono ?_); rintro e w1 ⟨rfl, rfl⟩))
    | (go_at_call 64; ((with_reducible refine (reach_word _ _ _ _ _ hl HC.out).mono ?_); rintro e w1 ⟨rfl, rfl⟩))
    | (go_at_call 64; ((with_reducible refine (reach_digits _ _ _ _ _ hl HC.out).mono ?_); rintro e w1 ⟨rfl, rfl⟩))
    | (go_at_call 67; ((with_reducible refine hb.mono ?_); rintro e w1 ⟨rfl, rfl⟩)))
  all_goals
    go_ret2
    first
      | exact out_let w h0 (by assumption)
      | exact out_dig w h0 (by assumption) (by assumption)
      | exact out_two w h0 HT.out
      | exact out_mark w h0 HM.out (by assumption) (by assumption) HT.out (by assumption)
      | exact out_none w h0 HM.out (by assumption) (by assumption) HT.out (by assumption)

set_option maxHeartbeats 2000000 in
set_option maxRecDepth 100000 in
theorem first_1 (q0 : (nth l 0 == 61) = true) (q1 : decide (1 < l.length) = false) (h : FirstIn b o l w x) : Calls Tryd.prog 51 #[.slice (some ⟨b, o, none⟩) l.length c] w (FirstOut l w) := by
  obtain ⟨hl, h0, hc, hx, hx0, hx1⟩ := h
  have c0 : w.cell? ⟨b, o, none⟩ = some (.int .u8 (nth l 0)) := hc 0 h0
  have h1 : (l.length : Int) ≤ 1 := by have := of_decide_eq_false q1; omega
  have HT := Lib.hid (show ¬ (nth l 0 = 61 ∧ 1 < l.length ∧ nth l 1 = 61) from fun h => of_decide_eq_false q1 h.2.1)
  have HC := Lib.hid hc; clear hc
  obtain ⟨r0, r1⟩ := nth_range l 0
  have hm0 : mrkB (l.getD 0 0) = decide (0 ≤ Lib.indexByte marksL (nth l 0).toNat.toUInt8) := by
    rw [mrk_index]; unfold nth; rw [u8_back]
  rw [hx] at hm0
  have HM := Lib.hid hm0; clear hm0
  have hb : Calls Tryd.prog 67 #[.string ⟨#[40, 41, 123, 125, 91, 93, 44, 59, 61, 43, 45, 42, 47, 37, 60, 33, 38, 124]⟩, .int .u8 (nth l 0)] w fun e w' => e = .returned (.int .i64 x) ∧ w = w' := by
    rw [← hx]; exact strings_index _ _ w
  have HX := Lib.hid hx; clear hx
  go_enter Tryd.func51, Tryd.ntmps51
  go_wp2_with (first
    | (go_at_call 52; ((with_reducible refine (lletter_any _ _ r0 r1).mono ?_); rintro e w1 ⟨rfl, rfl⟩))
    | (go_at_call 66; ((with_reducible refine (digit_any _ _ r0 r1).mono ?_); rintro e w1 ⟨rfl, rfl⟩))
    | (go_at_call 64; ((with_reducible refine (reach_word _ _ _ _ _ hl HC.out).mono ?_); rintro e w1 ⟨rfl, rfl⟩))
    | (go_at_call 64; ((with_reducible refine (reach_digits _ _ _ _ _ hl HC.out).mono ?_); rintro e w1 ⟨rfl, rfl⟩))
    | (go_at_call 67; ((with_reducible refine hb.mono ?_); rintro e w1 ⟨rfl, rfl⟩)))
  all_goals
    go_ret2
    first
      | exact out_let w h0 (by assumption)
      | exact out_dig w h0 (by assumption) (by assumption)
      | exact out_two w h0 HT.out
      | exact out_mark w h0 HM.out (by assumption) (by assumption) HT.out (by assumption)
      | exact out_none w h0 HM.out (by assumption) (by assumption) HT.out (by assumption)

set_option maxHeartbeats 2000000 in
set_option maxRecDepth 100000 in
theorem first_2 (q0 : (nth l 0 == 61) = true) (q1 : decide (1 < l.length) = true) (q2 : (nth l 1 == 61) = false) (h : FirstIn b o l w x) : Calls Tryd.prog 51 #[.slice (some ⟨b, o, none⟩) l.length c] w (FirstOut l w) := by
  obtain ⟨hl, h0, hc, hx, hx0, hx1⟩ := h
  have c0 : w.cell? ⟨b, o, none⟩ = some (.int .u8 (nth l 0)) := hc 0 h0
  have h1 : 1 < l.length := of_decide_eq_true q1
  have h1' : 1 < (l.length : Int) := by omega
  have c1 : w.cell? ⟨b, o + 1, none⟩ = some (.int .u8 (nth l 1)) := hc 1 h1
  have HT := Lib.hid (show ¬ (nth l 0 = 61 ∧ 1 < l.length ∧ nth l 1 = 61) from fun h => by rw [h.2.2] at q2; simp at q2)
  have HC := Lib.hid hc; clear hc
  obtain ⟨r0, r1⟩ := nth_range l 0
  have hm0 : mrkB (l.getD 0 0) = decide (0 ≤ Lib.indexByte marksL (nth l 0).toNat.toUInt8) := by
    rw [mrk_index]; unfold nth; rw [u8_back]
  rw [hx] at hm0
  have HM := Lib.hid hm0; clear hm0
  have hb : Calls Tryd.prog 67 #[.string ⟨#[40, 41, 123, 125, 91, 93, 44, 59, 61, 43, 45, 42, 47, 37, 60, 33, 38, 124]⟩, .int .u8 (nth l 0)] w fun e w' => e = .returned (.int .i64 x) ∧ w = w' := by
    rw [← hx]; exact strings_index _ _ w
  have HX := Lib.hid hx; clear hx
  go_enter Tryd.func51, Tryd.ntmps51
  go_wp2_with (first
    | (go_at_call 52; ((with_reducible refine (lletter_any _ _ r0 r1).mono ?_); rintro e w1 ⟨rfl, rfl⟩))
    | (go_at_call 66; ((with_reducible refine (digit_any _ _ r0 r1).mono ?_); rintro e w1 ⟨rfl, rfl⟩))
    | (go_at_call 64; ((with_reducible refine (reach_word _ _ _ _ _ hl HC.out).mono ?_); rintro e w1 ⟨rfl, rfl⟩))
    | (go_at_call 64; ((with_reducible refine (reach_digits _ _ _ _ _ hl HC.out).mono ?_); rintro e w1 ⟨rfl, rfl⟩))
    | (go_at_call 67; ((with_reducible refine hb.mono ?_); rintro e w1 ⟨rfl, rfl⟩)))
  all_goals
    go_ret2
    first
      | exact out_let w h0 (by assumption)
      | exact out_dig w h0 (by assumption) (by assumption)
      | exact out_two w h0 HT.out
      | exact out_mark w h0 HM.out (by assumption) (by assumption) HT.out (by assumption)
      | exact out_none w h0 HM.out (by assumption) (by assumption) HT.out (by assumption)

set_option maxHeartbeats 2000000 in
set_option maxRecDepth 100000 in
theorem first_3 (q0 : (nth l 0 == 61) = true) (q1 : decide (1 < l.length) = true) (q2 : (nth l 1 == 61) = true) (h : FirstIn b o l w x) : Calls Tryd.prog 51 #[.slice (some ⟨b, o, none⟩) l.length c] w (FirstOut l w) := by
  obtain ⟨hl, h0, hc, hx, hx0, hx1⟩ := h
  have c0 : w.cell? ⟨b, o, none⟩ = some (.int .u8 (nth l 0)) := hc 0 h0
  have h1 : 1 < l.length := of_decide_eq_true q1
  have h1' : 1 < (l.length : Int) := by omega
  have c1 : w.cell? ⟨b, o + 1, none⟩ = some (.int .u8 (nth l 1)) := hc 1 h1
  have HT := Lib.hid (show (nth l 0 = 61 ∧ 1 < l.length ∧ nth l 1 = 61) from ⟨by simpa using q0, of_decide_eq_true q1, by simpa using q2⟩)
  have HC := Lib.hid hc; clear hc
  obtain ⟨r0, r1⟩ := nth_range l 0
  have hm0 : mrkB (l.getD 0 0) = decide (0 ≤ Lib.indexByte marksL (nth l 0).toNat.toUInt8) := by
    rw [mrk_index]; unfold nth; rw [u8_back]
  rw [hx] at hm0
  have HM := Lib.hid hm0; clear hm0
  have hb : Calls Tryd.prog 67 #[.string ⟨#[40, 41, 123, 125, 91, 93, 44, 59, 61, 43, 45, 42, 47, 37, 60, 33, 38, 124]⟩, .int .u8 (nth l 0)] w fun e w' => e = .returned (.int .i64 x) ∧ w = w' := by
    rw [← hx]; exact strings_index _ _ w
  have HX := Lib.hid hx; clear hx
  go_enter Tryd.func51, Tryd.ntmps51
  go_wp2_with (first
    | (go_at_call 52; ((with_reducible refine (lletter_any _ _ r0 r1).mono ?_); rintro e w1 ⟨rfl, rfl⟩))
    | (go_at_call 66; ((with_reducible refine (digit_any _ _ r0 r1).mono ?_); rintro e w1 ⟨rfl, rfl⟩))
    | (go_at_call 64; ((with_reducible refine (reach_word _ _ _ _ _ hl HC.out).mono ?_); rintro e w1 ⟨rfl, rfl⟩))
    | (go_at_call 64; ((with_reducible refine (reach_digits _ _ _ _ _ hl HC.out).mono ?_); rintro e w1 ⟨rfl, rfl⟩))
    | (go_at_call 67; ((with_reducible refine hb.mono ?_); rintro e w1 ⟨rfl, rfl⟩)))
  all_goals
    go_ret2
    first
      | exact out_let w h0 (by assumption)
      | exact out_dig w h0 (by assumption) (by assumption)
      | exact out_two w h0 HT.out
      | exact out_mark w h0 HM.out (by assumption) (by assumption) HT.out (by assumption)
      | exact out_none w h0 HM.out (by assumption) (by assumption) HT.out (by assumption)
end

theorem first_any (b o c : Nat) (l : List UInt8) (w : World) (hl : l.length ≤ 65536) (h0 : 0 < l.length)
    (hc : ∀ i, i < l.length → w.cell? ⟨b, o + i, none⟩ = some (.int .u8 (nth l i))) :
    Calls Tryd.prog 51 #[.slice (some ⟨b, o, none⟩) l.length c] w (FirstOut l w) := by
  have hi : FirstIn b o l w (Lib.indexByte marksL (nth l 0).toNat.toUInt8) := ⟨hl, h0, hc, rfl, Lib.indexByte_ge _ _, index_le marksL _⟩
  cases q0 : nth l 0 == 61 with
  | false => exact first_0 b o c l w _ q0 hi
  | true =>
    cases q1 : decide (1 < l.length) with
    | false => exact first_1 b o c l w _ q0 q1 hi
    | true =>
      cases q2 : nth l 1 == 61 with
      | false => exact first_2 b o c l w _ q0 q1 q2 hi
      | true => exact first_3 b o c l w _ q0 q1 q2 hi

end Go.Proofs.YtaajolemjgdfnaaDoor

/-
  The contract of lex.Lex: at every slice of bytes it tells what 'lexS' tells of them; the tokens lie in a row of its own; of what was there nothing has turned.
-/
namespace Go.Proofs.YtaajolemjgdfnaaDoor
open Go Go.RowKit Go.Lib

theorem comment_n (b o c n : Nat) (l : List UInt8) (w : World) (hn : l.length = n) (hl : l.length ≤ 65536)
    (hc : ∀ i, i < l.length → w.cell? ⟨b, o + i, none⟩ = some (.int .u8 (nth l i))) :
    Calls Tryd.prog 50 #[.slice (some ⟨b, o, none⟩) n c] w fun e w' => e = .returned (.int .i64 (commL l)) ∧ w = w' := by
  subst hn; exact comment_any b o c l w hl hc
theorem first_n (b o c n : Nat) (l : List UInt8) (w : World) (hn : l.length = n) (hl : l.length ≤ 65536) (h0 : 0 < l.length)
    (hc : ∀ i, i < l.length → w.cell? ⟨b, o + i, none⟩ = some (.int .u8 (nth l i))) :
    Calls Tryd.prog 51 #[.slice (some ⟨b, o, none⟩) n c] w fun e w' => e = .returned (.tuple #[.int .i64 (firstK l), .int .i64 (firstN l)]) ∧ w = w' := by
  subst hn; exact first_any b o c l w hl h0 hc

/-- The cells of tokens in a row. -/
def toks (ts : List Tok) : List Value := ts.flatMap fun t => [.int .i64 t.kind, .string ⟨t.text.toArray⟩, .int .i64 t.at_]
theorem tokInfo : (Tryd.prog.info? 101).map (fun i => (i.zero, i.size, i.bytes)) = some (some (.agg #[.int .i64 0, .string ⟨#[]⟩, .int .i64 0]), 3, 32) := by kernel_rfl

def LexAt (l : List UInt8) (w : World) (v i : Value) (wr : World) : Prop :=
  ∃ (k : Nat) (acc : List Tok), k ≤ l.length ∧ i = .int .i64 k ∧ wr.ownsRow w.heap.size 101 3 v acc.length (toks acc) ∧ Below w.heap.size w wr ∧ (lexS k (l.drop k)).app acc = lexS 0 l ∧ acc.length ≤ k

theorem toks_snoc (ts : List Tok) (t : Tok) : toks (ts ++ [t]) = toks ts ++ [.int .i64 t.kind, .string ⟨t.text.toArray⟩, .int .i64 t.at_] := by
  simp [toks]
theorem below_row {w wr w1 : World} {v : Value} {n : Nat} {xs : List Value} {o : Obj} (hown : wr.ownsRow w.heap.size 101 3 v n xs) (hbw : Below w.heap.size w wr) (hg : (wr.alloc o).grownBy w1 v.ownBlock) : Below w.heap.size w w1 := by
  have := hbw.size
  exact (hbw.alloc (by omega) o).grown hg (by simp; omega) (fun j hj => (hown.lt j hj).1)
theorem three_cells {wr : World} {a b c : Value} : ∀ j u, [a, b, c][j]? = some u → (wr.alloc (.cells #[a, b, c] 101)).cell? ((⟨wr.heap.size, 0, none⟩ : Addr).add j) = some u := by
  intro j u hj
  match j, hj with
  | 0, hj => simp at hj; subst hj; simp [Addr.add]
  | 1, hj => simp at hj; subst hj; simp [Addr.add]
  | 2, hj => simp at hj; subst hj; simp [Addr.add]
theorem three_one {k a : Int} {s : ByteArray} : ∀ u ∈ [Value.int .i64 k, .string s, .int .i64 a], u.oneCell' = true := by
  intro u hu
  simp at hu
  rcases hu with rfl | rfl | rfl <;> rfl
theorem own_snoc {w1 : World} {B : Nat} {v : Value} {acc : List Tok} {t : Tok} (h : w1.ownsRow B 101 3 v (acc.length + 1) (toks acc ++ [.int .i64 t.kind, .string ⟨t.text.toArray⟩, .int .i64 t.at_])) :
    w1.ownsRow B 101 3 v (acc ++ [t]).length (toks (acc ++ [t])) := by
  rw [toks_snoc, List.length_append]; exact h

/-- What Lex leaves. -/
def LexOut (l : List UInt8) (w : World) (e : Ending) (w' : World) : Prop :=
  Below w.heap.size w w' ∧
    ((∃ p, lexS 0 l = .bad p ∧ e = .returned (.tuple #[.slice none 0 0, .int .i64 p, .int .i64 2])) ∨
     (∃ ts v, lexS 0 l = .ok ts ∧ e = .returned (.tuple #[v, .int .i64 0, .int .i64 0]) ∧ w'.ownsRow w.heap.size 101 3 v (ts.length + 1) (toks (ts ++ [⟨4, [], l.length⟩]))))

theorem out_bad {l : List UInt8} {w w' : World} {k p : Nat} {acc : List Tok} {P : Int} (hb : Below w.heap.size w w') (hgo : (lexS k (l.drop k)).app acc = lexS 0 l) (h : lexS k (l.drop k) = .bad p) (hP : P = p) :
    LexOut l w (.returned (.tuple #[.slice none 0 0, .int .i64 P, .int .i64 2])) w' := by
  subst hP
  refine ⟨hb, .inl ⟨p, ?_, rfl⟩⟩
  rw [← hgo, h]; rfl
theorem out_ok {l : List UInt8} {w w' : World} {k : Nat} {acc : List Tok} {v : Value} (hb : Below w.heap.size w w') (hk : l.length ≤ k) (hgo : (lexS k (l.drop k)).app acc = lexS 0 l)
    (hown : w'.ownsRow w.heap.size 101 3 v (acc.length + 1) (toks (acc ++ [⟨4, [], l.length⟩]))) :
    LexOut l w (.returned (.tuple #[v, .int .i64 0, .int .i64 0])) w' := by
  refine ⟨hb, .inr ⟨acc, v, ?_, rfl, hown⟩⟩
  rw [← hgo, List.drop_eq_nil_of_le hk, lexS_nil]
  simp [Res.app]
theorem go_blank {l : List UInt8} {k : Nat} {acc : List Tok} (hlt : k < l.length) (hb : blkB (nth l k) = true) (hgo : (lexS k (l.drop k)).app acc = lexS 0 l) : (lexS (k + 1) (l.drop (k + 1))).app acc = lexS 0 l := by
  rw [← hgo, drop_cons hlt, lexS_blank hb]
theorem go_comm {l : List UInt8} {k : Nat} {acc : List Tok} (hlt : k < l.length) (hc : (nth l k == 35) = true) (hgo : (lexS k (l.drop k)).app acc = lexS 0 l) : (lexS (k + commL (l.drop k)) (l.drop (k + commL (l.drop k)))).app acc = lexS 0 l := by
  have e : l.getD k 0 = 35 := bv_inj (n := 35) (by simpa [nth] using hc) (by decide)
  have ed : l.drop k = 35 :: l.drop (k + 1) := by rw [drop_cons hlt, e]
  rw [← hgo]
  conv => rhs; rw [ed, lexS_comm, ← ed, List.drop_drop]
theorem comm_pos {l : List UInt8} {k : Nat} (hlt : k < l.length) (hc : (nth l k == 35) = true) : 1 ≤ commL (l.drop k) := by
  have e : l.getD k 0 = 35 := bv_inj (n := 35) (by simpa [nth] using hc) (by decide)
  rw [drop_cons hlt, e, commL_cons, if_neg (by decide)]; omega
theorem at_bad {l : List UInt8} {k : Nat} (hlt : k < l.length) (hb : blkB (nth l k) = false) (hc : (nth l k == 35) = false) (h : firstK (l.drop k) = 0 ∨ (firstK (l.drop k) = 1 ∧ 32 < firstN (l.drop k))) : lexS k (l.drop k) = .bad k := by
  rw [drop_cons hlt] at h ⊢
  exact lexS_bad hb (fun e => by rw [show nth l k = 35 by unfold nth; rw [e]; rfl] at hc; simp at hc) h
theorem at_glued {l : List UInt8} {k : Nat} (hlt : k < l.length) (hb : blkB (nth l k) = false) (hc : (nth l k == 35) = false) (h : firstK (l.drop k) = 2) (hg : glued (l.drop k) (firstN (l.drop k)) = true) : lexS k (l.drop k) = .bad (k + firstN (l.drop k)) := by
  rw [drop_cons hlt] at h hg ⊢
  exact lexS_glued hb (fun e => by rw [show nth l k = 35 by unfold nth; rw [e]; rfl] at hc; simp at hc) (by omega) ⟨h, hg⟩
theorem go_tok {l : List UInt8} {k : Nat} {acc : List Tok} (hlt : k < l.length) (hb : blkB (nth l k) = false) (hc : (nth l k == 35) = false) (h : ¬ (firstK (l.drop k) = 0 ∨ (firstK (l.drop k) = 1 ∧ 32 < firstN (l.drop k))))
    (hg : ¬ (firstK (l.drop k) = 2 ∧ glued (l.drop k) (firstN (l.drop k)) = true)) (hgo : (lexS k (l.drop k)).app acc = lexS 0 l) :
    (lexS (k + firstN (l.drop k)) (l.drop (k + firstN (l.drop k)))).app (acc ++ [⟨firstK (l.drop k), (l.drop k).take (firstN (l.drop k)), k⟩]) = lexS 0 l := by
  rw [← hgo, ← Res.app_cons, ← List.drop_drop]
  rw [drop_cons hlt] at h hg ⊢
  rw [lexS_tok hb (fun e => by rw [show nth l k = 35 by unfold nth; rw [e]; rfl] at hc; simp at hc) h hg]
theorem firstK_le (l : List UInt8) : firstK l ≤ 3 := by
  unfold firstK
  split
  · omega
  · split
    · omega
    · split
      · omega
      · split <;> omega

theorem conv_take {b o cn k n : Nat} {l : List UInt8} {wr : World} (hd : (l.drop k).length = cn) (hc : ∀ i, i < (l.drop k).length → wr.cell? ⟨b, o + k + i, none⟩ = some (.int .u8 (nth (l.drop k) i))) (hn : n ≤ cn) :
    ∀ c, (convert 47 9 (.slice (some ⟨b, o + k, none⟩) n c)).run Tryd.prog wr = .ok (.string ⟨((l.drop k).take n).toArray⟩) wr := by
  intro c
  have hlen : ((l.drop k).take n).length = n := by rw [List.length_take]; omega
  have h := run_convert_bytes_back (P := Tryd.prog) wr 47 9 5 ⟨b, o + k, none⟩ c ((l.drop k).take n) Tryd.underlying47 Tryd.underlying5 Tryd.underlying9 (fun j hj => by
    have e : (⟨b, o + k, none⟩ : Addr).add j = ⟨b, o + k + j, none⟩ := by unfold Addr.add; split <;> simp_all
    have hj' : j < (l.drop k).length := by omega
    rw [e, hc j hj']
    unfold nth bv
    rw [List.getD_eq_getElem?_getD, List.getElem?_eq_getElem hj']
    simp)
  rw [hlen] at h
  exact h

set_option maxHeartbeats 8000000 in
set_option maxRecDepth 100000 in
theorem lex_row (b o cap : Nat) (l : List UInt8) (w : World) (hl : l.length ≤ 65536) (h0 : 0 < l.length) (hcap : l.length ≤ cap) (hb : b < w.heap.size)
    (hc : ∀ i, i < l.length → w.cell? ⟨b, o + i, none⟩ = some (.int .u8 (nth l i))) :
    Calls Tryd.prog 39 #[.slice (some ⟨b, o, none⟩) l.length cap] w (LexOut l w) := by
  have HC := Lib.hid hc; clear hc
  obtain ⟨i0, hi, hz0, hz1, hz2⟩ := info_parts tokInfo
  go_enter Tryd.func39, Tryd.ntmps39
  go_wp2
  go_step3
  go_wp2
  go_step3
  go_wp2
  go_loopw [5, 6] (fun v i wr => LexAt l w v i wr) (fun _ i _ => l.length - (intOf i).toNat)
  case atStart => exact ⟨0, [], Nat.zero_le _, rfl, World.ownsRow_nil _ _ _ _, Below.refl _ _, by rw [Res.app_nil]; rfl, Nat.le_refl _⟩
  case round =>
    obtain ⟨k, acc, hk, rfl, hown, hbw, hgo, hacc⟩ := hrel
    have HG := Lib.hid hgo; clear hgo
    have hsz := hbw.size
    by_cases hlt : k < l.length
    · have hcell : wr.cell? ⟨b, o + k, none⟩ = some (.int .u8 (nth l k)) := (hbw.cell hb).trans (HC.out k hlt)
      obtain ⟨r0, r1⟩ := nth_range l k
      have hne : ¬ cap = k := by omega
      have hdl : (l.drop k).length = l.length - k := List.length_drop
      have HCD := Lib.hid (show ∀ i, i < (l.drop k).length → wr.cell? ⟨b, o + k + i, none⟩ = some (.int .u8 (nth (l.drop k) i)) from fun i hi => by rw [nth_drop, Nat.add_assoc]; exact (hbw.cell hb).trans (HC.out (k + i) (by omega)))
      have HDL := Lib.hid hdl; clear hdl
      cases hbl : blkB (nth l k) with
      | true =>
        have HBL := Lib.hid hbl
        go_wp2_with (first
          | (go_at_call 49; ((with_reducible refine (lparts_any _ _).mono ?_); rintro e w1 ⟨rfl, rfl⟩)))
        go_roundw
        case rel => exact ⟨k + 1, acc, by omega, by go_num, hown, hbw, go_blank hlt HBL.out HG.out, by omega⟩
        case measure => simp [intOf]; omega
      | false =>
        have HBL := Lib.hid hbl
        cases hcm : (nth l k == 35) with
        | true =>
          have HCM := Lib.hid hcm
          have hp := comm_pos hlt hcm
          have hq := commL_le (l.drop k)
          rw [HDL.out] at hq
          obtain ⟨m, hm⟩ : ∃ m, commL (l.drop k) = m := ⟨_, rfl⟩
          have hcon : ∀ c, Calls Tryd.prog 50 #[.slice (some ⟨b, o + k, none⟩) (l.length - k) c] wr fun e w' => e = .returned (.int .i64 m) ∧ wr = w' := fun c => by
            rw [← hm]; exact comment_n b (o + k) c _ (l.drop k) wr HDL.out (by rw [HDL.out]; omega) HCD.out
          have HGC := Lib.hid (go_comm hlt hcm HG.out)
          rw [hm] at hp hq HGC
          clear hm
          go_wp2_with (first
            | (go_at_call 49; ((with_reducible refine (lparts_any _ _).mono ?_); rintro e w1 ⟨rfl, rfl⟩))
            | (go_at_call 50; ((with_reducible refine (hcon _).mono ?_); rintro e w1 ⟨rfl, rfl⟩)))
          go_roundw
          case rel => exact ⟨k + m, acc, by omega, by go_num, hown, hbw, HGC.out, by omega⟩
          case measure => simp [intOf]; omega
        | false =>
          have HCM := Lib.hid hcm
          have hK3 := firstK_le (l.drop k)
          have hN0 : firstK (l.drop k) ≠ 0 → 1 ≤ firstN (l.drop k) := by rw [drop_cons hlt]; exact firstN_pos
          have hN1 : firstN (l.drop k) ≤ (l.drop k).length := firstN_le
          rw [HDL.out] at hN1
          have hBad := at_bad hlt hbl hcm
          have hGlu := at_glued hlt hbl hcm
          have hTok := fun h hg => go_tok (acc := acc) hlt hbl hcm h hg HG.out
          have hfir : ∀ c, Calls Tryd.prog 51 #[.slice (some ⟨b, o + k, none⟩) (l.length - k) c] wr fun e w' => e = .returned (.tuple #[.int .i64 (firstK (l.drop k)), .int .i64 (firstN (l.drop k))]) ∧ wr = w' := fun c =>
            first_n b (o + k) c _ (l.drop k) wr HDL.out (by rw [HDL.out]; omega) (by rw [HDL.out]; omega) HCD.out
          obtain ⟨n, hn⟩ : ∃ n, firstN (l.drop k) = n := ⟨_, rfl⟩
          obtain ⟨K, hK⟩ : ∃ K, firstK (l.drop k) = K := ⟨_, rfl⟩
          rw [hn, hK] at hBad hGlu hTok hfir
          rw [hn] at hN0 hN1
          rw [hK] at hK3 hN0
          clear hn hK
          have HBad := Lib.hid hBad; have HGlu := Lib.hid hGlu; have HTok := Lib.hid hTok
          clear hBad hGlu hTok
          have hK4 : K = 0 ∨ K = 1 ∨ K = 2 ∨ K = 3 := by omega
          rcases hK4 with rfl | rfl | rfl | rfl
          · clear hN0 hK3
            have HB := Lib.hid (HBad.out (.inl rfl))
            go_wp2_with (first
                        | (go_at_call 49; ((with_reducible refine (lparts_any _ _).mono ?_); rintro e w1 ⟨rfl, rfl⟩))
                        | (go_at_call 51; ((with_reducible refine (hfir _).mono ?_); rintro e w1 ⟨rfl, rfl⟩)))
            go_ret3
            exact out_bad hbw HG.out HB.out rfl
          · have hn0 : 1 ≤ n := hN0 (by decide)
            clear hN0 hK3
            by_cases hgt : 32 < n
            · have hgt1 : (32 : Int) < n := by omega
              have HB := Lib.hid (HBad.out (.inr ⟨rfl, hgt⟩))
              go_wp2_with (first
                          | (go_at_call 49; ((with_reducible refine (lparts_any _ _).mono ?_); rintro e w1 ⟨rfl, rfl⟩))
                          | (go_at_call 51; ((with_reducible refine (hfir _).mono ?_); rintro e w1 ⟨rfl, rfl⟩)))
              go_ret3
              exact out_bad hbw HG.out HB.out rfl
            · have hgt1 : (n : Int) ≤ 32 := by omega
              have hcv : ∀ c, (convert 47 9 (.slice (some ⟨b, o + k, none⟩) n c)).run Tryd.prog wr = .ok (.string ⟨((l.drop k).take n).toArray⟩) wr := conv_take HDL.out HCD.out hN1
              have HT := Lib.hid (HTok.out (by omega) (by omega))
              go_wp2_with (first
                          | (go_at_call 49; ((with_reducible refine (lparts_any _ _).mono ?_); rintro e w1 ⟨rfl, rfl⟩))
                          | (go_at_call 51; ((with_reducible refine (hfir _).mono ?_); rintro e w1 ⟨rfl, rfl⟩))
                          | (at_builtin; refine wpList_append_own _ rfl (.tmp 77) (.tmp 85) 81 rfl w.heap.size 101 i0 _ 3 32 Tryd.underlying81 hi hz0 hz1 hz2 rfl (by decide) _ acc.length (toks acc) rfl (hown.alloc _) ⟨wr.heap.size, 0, none⟩ 1 1 [.int .i64 1, .string ⟨((l.drop k).take n).toArray⟩, .int .i64 k] rfl rfl three_cells three_one (by unfold maxLen; omega) (by omega) (by simp; omega) ?_; intro v1 w1 hown1 hgrow1 _))
              have R := below_row hown hbw hgrow1
              have R1 := own_snoc (t := ⟨1, (l.drop k).take n, k⟩) hown1
              clear hown1 hgrow1 hown hbw hcv
              go_wp2
              go_roundw
              case rel => exact ⟨k + n, _, by omega, by go_num, R1, R, HT.out, by simp; omega⟩
              case measure => simp [intOf]; omega
          · have hn0 : 1 ≤ n := hN0 (by decide)
            clear hN0 hK3
            by_cases hnl : n < l.length - k
            · have hnl' : (n : Int) < ((l.length - k : Nat) : Int) := by omega
              have hg0 : glued (l.drop k) n = (letB (nth l (k + n)) || nth l (k + n) == 95) := by
                unfold glued; rw [HDL.out, decide_eq_true hnl, nth_drop]; rfl
              have hy : wr.cell? ⟨b, o + k + n, none⟩ = some (.int .u8 (nth l (k + n))) := by rw [Nat.add_assoc]; exact (hbw.cell hb).trans (HC.out (k + n) (by omega))
              obtain ⟨y0, y1⟩ := nth_range l (k + n)
              obtain ⟨y, hyy⟩ : ∃ y, nth l (k + n) = y := ⟨_, rfl⟩
              rw [hyy] at hg0 hy y0 y1
              clear hyy
              cases hq1 : letB y with
              | true =>
                have hgl : glued (l.drop k) n = true := by rw [hg0, hq1]; rfl
                clear hg0
                have HB := Lib.hid (HGlu.out rfl hgl)
                have HGL := Lib.hid hgl; clear hgl
                go_wp2_with (first
                            | (go_at_call 49; ((with_reducible refine (lparts_any _ _).mono ?_); rintro e w1 ⟨rfl, rfl⟩))
                            | (go_at_call 51; ((with_reducible refine (hfir _).mono ?_); rintro e w1 ⟨rfl, rfl⟩))
                            | (go_at_call 52; ((with_reducible refine (lletter_any _ _ y0 y1).mono ?_); rintro e w1 ⟨rfl, rfl⟩)))
                go_ret3
                exact out_bad hbw HG.out HB.out (by omega)
              | false =>
                cases hq2 : (y == 95) with
                | true =>
                  have hgl : glued (l.drop k) n = true := by rw [hg0, hq1, hq2]; rfl
                  clear hg0
                  have HB := Lib.hid (HGlu.out rfl hgl)
                  have HGL := Lib.hid hgl; clear hgl
                  go_wp2_with (first
                              | (go_at_call 49; ((with_reducible refine (lparts_any _ _).mono ?_); rintro e w1 ⟨rfl, rfl⟩))
                              | (go_at_call 51; ((with_reducible refine (hfir _).mono ?_); rintro e w1 ⟨rfl, rfl⟩))
                              | (go_at_call 52; ((with_reducible refine (lletter_any _ _ y0 y1).mono ?_); rintro e w1 ⟨rfl, rfl⟩)))
                  go_ret3
                  exact out_bad hbw HG.out HB.out (by omega)
                | false =>
                  have hgl : glued (l.drop k) n = false := by rw [hg0, hq1, hq2]; rfl
                  clear hg0
                  have hcv : ∀ c, (convert 47 9 (.slice (some ⟨b, o + k, none⟩) n c)).run Tryd.prog wr = .ok (.string ⟨((l.drop k).take n).toArray⟩) wr := conv_take HDL.out HCD.out hN1
                  have HT := Lib.hid (HTok.out (by omega) (fun h => by rw [hgl] at h; exact absurd h.2 (by decide)))
                  have HGL := Lib.hid hgl; clear hgl
                  go_wp2_with (first
                              | (go_at_call 49; ((with_reducible refine (lparts_any _ _).mono ?_); rintro e w1 ⟨rfl, rfl⟩))
                              | (go_at_call 51; ((with_reducible refine (hfir _).mono ?_); rintro e w1 ⟨rfl, rfl⟩))
                              | (go_at_call 52; ((with_reducible refine (lletter_any _ _ y0 y1).mono ?_); rintro e w1 ⟨rfl, rfl⟩))
                              | (at_builtin; refine wpList_append_own _ rfl (.tmp 77) (.tmp 85) 81 rfl w.heap.size 101 i0 _ 3 32 Tryd.underlying81 hi hz0 hz1 hz2 rfl (by decide) _ acc.length (toks acc) rfl (hown.alloc _) ⟨wr.heap.size, 0, none⟩ 1 1 [.int .i64 2, .string ⟨((l.drop k).take n).toArray⟩, .int .i64 k] rfl rfl three_cells three_one (by unfold maxLen; omega) (by omega) (by simp; omega) ?_; intro v1 w1 hown1 hgrow1 _))
                  have R := below_row hown hbw hgrow1
                  have R1 := own_snoc (t := ⟨2, (l.drop k).take n, k⟩) hown1
                  clear hown1 hgrow1 hown hbw hcv
                  go_wp2
                  go_roundw
                  case rel => exact ⟨k + n, _, by omega, by go_num, R1, R, HT.out, by simp; omega⟩
                  case measure => simp [intOf]; omega
            · have hnl' : ¬ (n : Int) < ((l.length - k : Nat) : Int) := by omega
              have hgl : glued (l.drop k) n = false := by unfold glued; rw [HDL.out, decide_eq_false hnl]; rfl
              have hcv : ∀ c, (convert 47 9 (.slice (some ⟨b, o + k, none⟩) n c)).run Tryd.prog wr = .ok (.string ⟨((l.drop k).take n).toArray⟩) wr := conv_take HDL.out HCD.out hN1
              have HT := Lib.hid (HTok.out (by omega) (fun h => by rw [hgl] at h; exact absurd h.2 (by decide)))
              have HGL := Lib.hid hgl; clear hgl
              go_wp2_with (first
                          | (go_at_call 49; ((with_reducible refine (lparts_any _ _).mono ?_); rintro e w1 ⟨rfl, rfl⟩))
                          | (go_at_call 51; ((with_reducible refine (hfir _).mono ?_); rintro e w1 ⟨rfl, rfl⟩))
                          | (at_builtin; refine wpList_append_own _ rfl (.tmp 77) (.tmp 85) 81 rfl w.heap.size 101 i0 _ 3 32 Tryd.underlying81 hi hz0 hz1 hz2 rfl (by decide) _ acc.length (toks acc) rfl (hown.alloc _) ⟨wr.heap.size, 0, none⟩ 1 1 [.int .i64 2, .string ⟨((l.drop k).take n).toArray⟩, .int .i64 k] rfl rfl three_cells three_one (by unfold maxLen; omega) (by omega) (by simp; omega) ?_; intro v1 w1 hown1 hgrow1 _))
              have R := below_row hown hbw hgrow1
              have R1 := own_snoc (t := ⟨2, (l.drop k).take n, k⟩) hown1
              clear hown1 hgrow1 hown hbw hcv
              go_wp2
              go_roundw
              case rel => exact ⟨k + n, _, by omega, by go_num, R1, R, HT.out, by simp; omega⟩
              case measure => simp [intOf]; omega
          · have hn0 : 1 ≤ n := hN0 (by decide)
            clear hN0 hK3
            have hcv : ∀ c, (convert 47 9 (.slice (some ⟨b, o + k, none⟩) n c)).run Tryd.prog wr = .ok (.string ⟨((l.drop k).take n).toArray⟩) wr := conv_take HDL.out HCD.out hN1
            have HT := Lib.hid (HTok.out (by omega) (by omega))
            go_wp2_with (first
                        | (go_at_call 49; ((with_reducible refine (lparts_any _ _).mono ?_); rintro e w1 ⟨rfl, rfl⟩))
                        | (go_at_call 51; ((with_reducible refine (hfir _).mono ?_); rintro e w1 ⟨rfl, rfl⟩))
                        | (at_builtin; refine wpList_append_own _ rfl (.tmp 77) (.tmp 85) 81 rfl w.heap.size 101 i0 _ 3 32 Tryd.underlying81 hi hz0 hz1 hz2 rfl (by decide) _ acc.length (toks acc) rfl (hown.alloc _) ⟨wr.heap.size, 0, none⟩ 1 1 [.int .i64 3, .string ⟨((l.drop k).take n).toArray⟩, .int .i64 k] rfl rfl three_cells three_one (by unfold maxLen; omega) (by omega) (by simp; omega) ?_; intro v1 w1 hown1 hgrow1 _))
            have R := below_row hown hbw hgrow1
            have R1 := own_snoc (t := ⟨3, (l.drop k).take n, k⟩) hown1
            clear hown1 hgrow1 hown hbw hcv
            go_wp2
            go_roundw
            case rel => exact ⟨k + n, _, by omega, by go_num, R1, R, HT.out, by simp; omega⟩
            case measure => simp [intOf]; omega
    · have hkl : k = l.length := by omega
      subst hkl
      by_cases hcp : cap = l.length
      all_goals
        go_wp2_with (first
          | (at_builtin; refine wpList_append_own _ rfl (.tmp 90) (.tmp 93) 81 rfl w.heap.size 101 i0 _ 3 32 Tryd.underlying81 hi hz0 hz1 hz2 rfl (by decide) _ acc.length (toks acc) rfl (hown.alloc _) ⟨wr.heap.size, 0, none⟩ 1 1 [.int .i64 4, .string ⟨#[]⟩, .int .i64 l.length] rfl rfl three_cells three_one (by unfold maxLen; omega) (by omega) (by simp; omega) ?_; intro v1 w1 hown1 hgrow1 _))
        have R := below_row hown hbw hgrow1
        have R1 := out_ok R (Nat.le_refl _) HG.out (by rw [toks_snoc]; exact hown1)
        rw [Exit.noGoto_ret]
        go_ret3
        exact R1

set_option maxHeartbeats 4000000 in
set_option maxRecDepth 100000 in
theorem lex_none (A : Option Addr) (cap : Nat) (w : World) :
    Calls Tryd.prog 39 #[.slice A 0 cap] w (LexOut [] w) := by
  obtain ⟨i0, hi, hz0, hz1, hz2⟩ := info_parts tokInfo
  go_enter Tryd.func39, Tryd.ntmps39
  go_wp2
  go_step3
  go_wp2
  go_step3
  go_wp2
  go_loopw [5, 6] (fun v i wr => v = .slice none 0 0 ∧ i = .int .i64 0 ∧ wr = w) (fun _ i _ => 0)
  case atStart => exact ⟨rfl, rfl, rfl⟩
  case round =>
    obtain ⟨rfl, rfl, rfl⟩ := hrel
    go_wp2_with (first
          | (at_builtin; refine wpList_append_own _ rfl (.tmp 90) (.tmp 93) 81 rfl wr.heap.size 101 i0 _ 3 32 Tryd.underlying81 hi hz0 hz1 hz2 rfl (by decide) _ 0 [] rfl (World.ownsRow_nil _ _ _ _) ⟨wr.heap.size, 0, none⟩ 1 1 [.int .i64 4, .string ⟨#[]⟩, .int .i64 0] rfl rfl three_cells three_one (by unfold maxLen; omega) (by omega) (by simp) ?_; intro v1 w1 hown1 hgrow1 _))
    have R : Below wr.heap.size wr w1 := below_row (World.ownsRow_nil _ _ _ _) (Below.refl _ _) hgrow1
    have R1 : LexOut [] wr (.returned (.tuple #[v1, .int .i64 0, .int .i64 0])) w1 := ⟨R, .inr ⟨[], v1, by rw [lexS_nil], rfl, hown1⟩⟩
    rw [Exit.noGoto_ret]
    go_ret3
    exact R1

/-- Lex, at whatever bytes there are not too many of. -/
theorem lex_any (A : Option Addr) (n cap : Nat) (l : List UInt8) (w : World) (hn : l.length = n) (hl : l.length ≤ 65536) (hcap : n ≤ cap) (hr : Row w A l) :
    Calls Tryd.prog 39 #[.slice A n cap] w (LexOut l w) := by
  subst hn
  by_cases h0 : 0 < l.length
  · obtain ⟨b, o, rfl, hb, hc⟩ := hr h0
    exact lex_row b o cap l w hl h0 hcap hb hc
  · obtain rfl : l = [] := List.eq_nil_of_length_eq_zero (by omega)
    exact lex_none A cap w

set_option maxRecDepth 100000 in
theorem lex_big (A : Option Addr) (n cap : Nat) (w : World) (hn : 65536 < (n : Int)) :
    Calls Tryd.prog 39 #[.slice A n cap] w fun e w' => e = .returned (.tuple #[.slice none 0 0, .int .i64 0, .int .i64 1]) ∧ w = w' := by
  go_enter Tryd.func39, Tryd.ntmps39
  go_wp2
  go_step3
  go_wp2
  try rw [Exit.noGoto_ret]
  go_ret3
  exact ⟨rfl, rfl⟩

end Go.Proofs.YtaajolemjgdfnaaDoor

