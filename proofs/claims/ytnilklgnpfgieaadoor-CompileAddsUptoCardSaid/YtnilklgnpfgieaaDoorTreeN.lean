/-
  tree.Name and what it calls: letter, inName, keyword; named.
-/
import Derived.Test.YtnilklgnpfgieaaDoorChecked
import Derived.Test.YtnilklgnpfgieaaDoorLexP
import Derived.WalkKit
import Derived.Lib.Hide
import Derived.BigQuiet
namespace Go.Proofs.YtnilklgnpfgieaaDoor
open Go Go.RowKit Go.Lib

theorem ret_bool {a b : Bool} (h : a = b) : Ending.returned (.bool a) = .returned (.bool b) := by rw [h]
theorem ret_int {k : IntKind} {a b : Int} (h : a = b) : Ending.returned (.int k a) = .returned (.int k b) := by rw [h]

theorem letter_any (x : Int) (w : World) (h0 : 0 ≤ x) (h1 : x ≤ 255) :
    Calls Tryd.prog 62 #[.int .u8 x] w fun e w' => e = .returned (.bool (letB x)) ∧ w = w' := by
  go_enter Tryd.func62, Tryd.ntmps62
  go_wp2
  all_goals
    go_ret
    refine ⟨ret_bool ?_, rfl⟩
    unfold letB
    rw [Bool.eq_iff_iff]
    simp only [decide_eq_true_eq, Bool.or_eq_true, Bool.false_eq_true, false_iff, true_iff]
    omega

theorem inname_any (x : Int) (w : World) (h0 : 0 ≤ x) (h1 : x ≤ 255) :
    Calls Tryd.prog 63 #[.int .u8 x] w fun e w' => e = .returned (.bool (inwB x)) ∧ w = w' := by
  go_enter Tryd.func63, Tryd.ntmps63
  go_wp2_with (go_at_call 62; ((with_reducible refine (letter_any _ _ h0 h1).mono ?_); rintro e w1 ⟨rfl, rfl⟩))
  all_goals
    go_ret
    refine ⟨ret_bool ?_, rfl⟩
    unfold inwB digB
    rw [Bool.eq_iff_iff]
    simp_all
  all_goals omega

/-- The bytes of a text. -/
def bs (s : ByteArray) : List UInt8 := s.data.toList
theorem bs_length (s : ByteArray) : (bs s).length = s.size := rfl
theorem bs_nth (s : ByteArray) (k : Nat) (h : k < s.size) : ((s[k]'h).toNat : Int) = nth (bs s) k := by
  unfold nth bv bs
  rw [List.getD_eq_getElem?_getD, List.getElem?_eq_getElem (by simpa using h)]; rfl

/-- A keyword. -/
def kwL (l : List UInt8) : Bool :=
  l == [102, 117, 110, 99] || l == [97, 114, 114, 97, 121] || l == [105, 110, 112, 117, 116] || l == [112, 114, 105, 110, 116] || l == [107, 101, 101, 112] || l == [105, 102] || l == [101, 108, 115, 101] || l == [119, 104, 105, 108, 101] || l == [114, 101, 116, 117, 114, 110] || l == [99, 108, 111, 99, 107]

set_option maxHeartbeats 1000000 in
theorem keyword_any (s : ByteArray) (w : World) :
    Calls Tryd.prog 64 #[.string s] w fun e w' => e = .returned (.bool (kwL (bs s))) ∧ w = w' := by
  have e0 : kwL (bs s) = kwL s.toList := by rw [ByteArray.toList_eq]; rfl
  rw [e0]
  clear e0
  go_enter Tryd.func64, Tryd.ntmps64
  go_wp2
  all_goals
    go_ret
    refine ⟨ret_bool ?_, rfl⟩
    unfold kwL
    simp_all

/-- A name: C1. -/
def nameB (s : ByteArray) : Bool := decide (0 < s.size) && decide (s.size ≤ 32) && letB (nth (bs s) 0) && (bs s).all (fun c => inwB (bv c)) && !kwL (bs s)

theorem all_take (l : List UInt8) (k : Nat) (h : k < l.length) : (l.take (k + 1)).all (fun c => inwB (bv c)) = ((l.take k).all (fun c => inwB (bv c)) && inwB (nth l k)) := by
  unfold nth
  rw [List.take_succ_eq_append_getElem h, List.all_append, List.getD_eq_getElem?_getD, List.getElem?_eq_getElem h]
  simp
theorem all_not {l : List UInt8} {k : Nat} (h : k < l.length) (hk : inwB (nth l k) = false) : l.all (fun c => inwB (bv c)) = false := by
  rw [List.all_eq_false]
  refine ⟨l[k], List.getElem_mem h, ?_⟩
  have e : nth l k = bv l[k] := by
    unfold nth
    rw [List.getD_eq_getElem?_getD, List.getElem?_eq_getElem h]
    simp
  rw [← e, hk]
  decide

set_option maxHeartbeats 1000000 in
theorem name_any (s : ByteArray) (w : World) (hs : s.size ≤ 9223372036854775807) :
    Calls Tryd.prog 46 #[.string s] w fun e w' => e = .returned (.bool (nameB s)) ∧ w = w' := by
  by_cases h0 : 0 < s.size
  · have hne : ¬ s.toList = [] := by
      rw [ByteArray.toList_eq]
      intro h
      have h1 : s.data.toList.length = s.size := rfl
      rw [h] at h1
      simp at h1
      omega
    have hne2 : s.toList.isEmpty = false := by cases h : s.toList with | nil => exact absurd h hne | cons => rfl
    have hne3 : (s.toList == []) = false := by cases h : s.toList with | nil => exact absurd h hne | cons => rfl
    by_cases h32 : s.size ≤ 32
    · obtain ⟨r0, r1⟩ := nth_range (bs s) 0
      have hs0 := bs_nth s 0 h0
      cases hl : letB (nth (bs s) 0) with
      | false =>
        go_enter Tryd.func46, Tryd.ntmps46
        go_wp2_with (go_at_call 62; ((with_reducible refine (letter_any _ _ r0 r1).mono ?_); rintro e w1 ⟨rfl, rfl⟩))
        go_ret
        exact ⟨ret_bool (by simp [nameB, hl]), rfl⟩
      | true =>
        go_enter Tryd.func46, Tryd.ntmps46
        go_wp2_with (go_at_call 62; ((with_reducible refine (letter_any _ _ r0 r1).mono ?_); rintro e w1 ⟨rfl, rfl⟩))
        have HE := Lib.hid hs0
        clear hs0
        go_loop [19] (fun i => ∃ k : Nat, k ≤ s.size ∧ i = .int .i64 k ∧ ((bs s).take k).all (fun c => inwB (bv c)) = true) (fun i => s.size - (intOf i).toNat)
        case atStart => exact ⟨0, Nat.zero_le _, rfl, rfl⟩
        case round =>
          obtain ⟨k, hk, rfl, hr⟩ := hrel
          have HR := Lib.hid hr; clear hr
          have HL := Lib.hid hl; clear hl
          by_cases hlt : k < s.size
          · have hsk := bs_nth s k hlt
            obtain ⟨q0, q1⟩ := nth_range (bs s) k
            have HT := Lib.hid (all_take (bs s) k (by rw [bs_length]; exact hlt))
            cases hw : inwB (nth (bs s) k) with
            | true =>
              go_wp2_with (go_at_call 63; ((with_reducible refine (inname_any _ _ q0 q1).mono ?_); rintro e w1 ⟨rfl, rfl⟩))
              go_round
              case rel => exact ⟨k + 1, by omega, by go_num, by rw [HT.out, HR.out, hw]; rfl⟩
              case measure => simp [intOf]; omega
            | false =>
              go_wp2_with (go_at_call 63; ((with_reducible refine (inname_any _ _ q0 q1).mono ?_); rintro e w1 ⟨rfl, rfl⟩))
              go_ret
              refine ⟨ret_bool ?_, rfl⟩
              have hn := all_not (l := bs s) (k := k) (by rw [bs_length]; exact hlt) hw
              simp [nameB, hn]
          · go_wp2_with (go_at_call 64; ((with_reducible refine (keyword_any _ _).mono ?_); rintro e w1 ⟨rfl, rfl⟩))
            go_ret
            refine ⟨ret_bool ?_, rfl⟩
            have hall : (bs s).all (fun c => inwB (bv c)) = true := by rw [← HR.out, List.take_of_length_le (by rw [bs_length]; omega)]
            unfold nameB
            rw [hall, HL.out, decide_eq_true h0, decide_eq_true h32]
            rfl
    · go_enter Tryd.func46, Tryd.ntmps46
      go_wp2
      go_ret
      exact ⟨ret_bool (by simp [nameB, h32]), rfl⟩
  · have hne : s.toList = [] := by
      rw [ByteArray.toList_eq]
      apply List.eq_nil_of_length_eq_zero
      have h1 : s.data.toList.length = s.size := rfl
      omega
    go_enter Tryd.func46, Tryd.ntmps46
    go_wp2
    go_ret
    exact ⟨ret_bool (by simp [nameB, h0]), rfl⟩

end Go.Proofs.YtnilklgnpfgieaaDoor
