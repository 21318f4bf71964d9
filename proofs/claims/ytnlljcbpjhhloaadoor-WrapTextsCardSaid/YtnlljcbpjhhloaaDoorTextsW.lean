/-
  WrapTexts: for every number and text the statement's function tells true. The walk.
-/
import Derived.Test.YtnlljcbpjhhloaaDoorShown
import Derived.Test.YtnlljcbpjhhloaaDoorNums
import Derived.Test.YtnlljcbpjhhloaaDoorRefParse
namespace Go.Proofs.YtnlljcbpjhhloaaDoor
open Go Go.RowKit Go.Lib

theorem parse_some_fr (w0 : World) (s : ByteArray) (v : Int) (w : World) (hs : s.size ≤ 9223372036854775807) (hv : parseL s.data.toList = some v) (h : Fr w0 w) :
    Calls Tryd.prog 27 #[.string s] w fun e w' => e = .returned (.tuple #[.int .i64 v, .bool true]) ∧ Fr w0 w' :=
  (parse_fr w0 s w hs h).mono fun _ _ ⟨he, hb⟩ => ⟨by rw [he, hv]; rfl, hb⟩
theorem parse_none_fr (w0 : World) (s : ByteArray) (w : World) (hs : s.size ≤ 9223372036854775807) (hv : parseL s.data.toList = none) (h : Fr w0 w) :
    Calls Tryd.prog 27 #[.string s] w fun e w' => e = .returned (.tuple #[.int .i64 0, .bool false]) ∧ Fr w0 w' :=
  (parse_fr w0 s w hs h).mono fun _ _ ⟨he, hb⟩ => ⟨by rw [he, hv]; rfl, hb⟩
theorem rparse_some_fr (w0 : World) (s : ByteArray) (v : Int) (w : World) (hs : s.size ≤ 9223372036854775807) (hv : parseL s.data.toList = some v) (h : Fr w0 w) :
    Calls Tryd.prog 28 #[.string s] w fun e w' => e = .returned (.tuple #[.int .i64 v, .bool true]) ∧ Fr w0 w' :=
  (rparse_fr w0 s w hs h).mono fun _ _ ⟨he, hb⟩ => ⟨by rw [he, hv]; rfl, hb⟩
theorem rparse_none_fr (w0 : World) (s : ByteArray) (w : World) (hs : s.size ≤ 9223372036854775807) (hv : parseL s.data.toList = none) (h : Fr w0 w) :
    Calls Tryd.prog 28 #[.string s] w fun e w' => e = .returned (.tuple #[.int .i64 0, .bool false]) ∧ Fr w0 w' :=
  (rparse_fr w0 s w hs h).mono fun _ _ ⟨he, hb⟩ => ⟨by rw [he, hv]; rfl, hb⟩
theorem itoa_size {n : Int} (h : I64 n) : (⟨(Lib.itoa n).toArray⟩ : ByteArray).size ≤ 9223372036854775807 := by
  have := Lib.itoa_length_le n h.1 h.2
  simp [ByteArray.size]; omega
theorem parse_itoa {n : Int} (h : I64 n) (h0 : 0 ≤ n) : parseL (⟨(Lib.itoa n).toArray⟩ : ByteArray).data.toList = some n := by
  rw [List.toList_toArray]
  exact ra_same h0 h.2 rfl
theorem parse_minus {n : Int} (h0 : n < 0) : parseL (⟨(Lib.itoa n).toArray⟩ : ByteArray).data.toList = none := by
  rw [List.toList_toArray]
  refine parse_none_of fun m _ e => ?_
  have hm : (45 : UInt8) ∈ Lib.itoa n := by unfold Lib.itoa; rw [if_pos h0]; simp
  rw [e] at hm
  have := dd_digits m m (Nat.le_refl _) _ hm
  have e45 : (45 : UInt8).toNat = 45 := rfl
  omega

set_option maxHeartbeats 4000000 in
set_option maxRecDepth 100000 in
theorem texts_00 (n : Int) (s S : ByteArray) (w : World) (hn : I64 n) (hneg : 0 ≤ n) (hcut : s.extract 0 (min (s.size : Int) 100).toNat = S) (hs : s.size ≤ 9223372036854775807) (hS : S.size ≤ 9223372036854775807) (hv : parseL S.data.toList = none) (ht : Tab w) :
    Calls Tryd.prog 4 #[.int .i64 n, .string s] w fun e w' => e = .returned (.bool true) ∧ Fr w w' := by
  have h := Fr.refl w
  have n0 := hn.1
  have n1 := hn.2
  have q1 : (Lib.itoa n != Lib.itoa n) = false := bne_eq_false_iff_eq.2 rfl
  have q2 : (Lib.itoa n == Lib.itoa n) = true := beq_iff_eq.2 rfl
  have HV := Lib.hid hv; clear hv
  go_enter Tryd.func4, Tryd.ntmps4
  go_wp2_with (first
    | (go_at_call 12; ((with_reducible refine (shown_fr w _ ht (by assumption)).mono ?_); rintro e w1 ⟨rfl, h1⟩))
    | (go_at_call 26; ((with_reducible refine (text_fr w n _ n0 n1 ht (by assumption)).mono ?_); rintro e w1 ⟨rfl, h1⟩))
    | (go_at_call 29; ((with_reducible refine (rtext_fr w n _ hn (by assumption)).mono ?_); rintro e w1 ⟨rfl, h1⟩))
    | (go_at_call 27; ((with_reducible refine (parse_none_fr w S _ hS HV.out (by assumption)).mono ?_); rintro e w1 ⟨rfl, h1⟩))
    | (go_at_call 28; ((with_reducible refine (rparse_none_fr w S _ hS HV.out (by assumption)).mono ?_); rintro e w1 ⟨rfl, h1⟩))
    | (go_at_call 27; ((with_reducible refine (parse_some_fr w _ n _ (itoa_size hn) (parse_itoa hn hneg) (by assumption)).mono ?_); rintro e w1 ⟨rfl, h1⟩)))
  go_ret
  exact ⟨rfl, by assumption⟩

set_option maxHeartbeats 4000000 in
set_option maxRecDepth 100000 in
theorem texts_01 (n v : Int) (s S : ByteArray) (w : World) (hn : I64 n) (hneg : 0 ≤ n) (hcut : s.extract 0 (min (s.size : Int) 100).toNat = S) (hs : s.size ≤ 9223372036854775807) (hS : S.size ≤ 9223372036854775807) (hv : parseL S.data.toList = some v) (ht : Tab w) :
    Calls Tryd.prog 4 #[.int .i64 n, .string s] w fun e w' => e = .returned (.bool true) ∧ Fr w w' := by
  have h := Fr.refl w
  have n0 := hn.1
  have n1 := hn.2
  obtain ⟨v0', v1, vd⟩ := parse_back hv
  have v0 : -9223372036854775808 ≤ v := by omega
  have q3 : (Lib.itoa v == S.toList) = true := beq_iff_eq.2 (by rw [ByteArray.toList_eq, vd, itoa_pos v0'])
  clear vd
  have q1 : (Lib.itoa n != Lib.itoa n) = false := bne_eq_false_iff_eq.2 rfl
  have q2 : (Lib.itoa n == Lib.itoa n) = true := beq_iff_eq.2 rfl
  have HV := Lib.hid hv; clear hv
  go_enter Tryd.func4, Tryd.ntmps4
  go_wp2_with (first
    | (go_at_call 12; ((with_reducible refine (shown_fr w _ ht (by assumption)).mono ?_); rintro e w1 ⟨rfl, h1⟩))
    | (go_at_call 26; ((with_reducible refine (text_fr w n _ n0 n1 ht (by assumption)).mono ?_); rintro e w1 ⟨rfl, h1⟩))
    | (go_at_call 26; ((with_reducible refine (text_fr w v _ v0 v1 ht (by assumption)).mono ?_); rintro e w1 ⟨rfl, h1⟩))
    | (go_at_call 29; ((with_reducible refine (rtext_fr w n _ hn (by assumption)).mono ?_); rintro e w1 ⟨rfl, h1⟩))
    | (go_at_call 27; ((with_reducible refine (parse_some_fr w S v _ hS HV.out (by assumption)).mono ?_); rintro e w1 ⟨rfl, h1⟩))
    | (go_at_call 28; ((with_reducible refine (rparse_some_fr w S v _ hS HV.out (by assumption)).mono ?_); rintro e w1 ⟨rfl, h1⟩))
    | (go_at_call 27; ((with_reducible refine (parse_some_fr w _ n _ (itoa_size hn) (parse_itoa hn hneg) (by assumption)).mono ?_); rintro e w1 ⟨rfl, h1⟩)))
  go_ret
  exact ⟨rfl, by assumption⟩

set_option maxHeartbeats 4000000 in
set_option maxRecDepth 100000 in
theorem texts_10 (n : Int) (s S : ByteArray) (w : World) (hn : I64 n) (hneg : n < 0) (hcut : s.extract 0 (min (s.size : Int) 100).toNat = S) (hs : s.size ≤ 9223372036854775807) (hS : S.size ≤ 9223372036854775807) (hv : parseL S.data.toList = none) (ht : Tab w) :
    Calls Tryd.prog 4 #[.int .i64 n, .string s] w fun e w' => e = .returned (.bool true) ∧ Fr w w' := by
  have h := Fr.refl w
  have n0 := hn.1
  have n1 := hn.2
  have q1 : (Lib.itoa n != Lib.itoa n) = false := bne_eq_false_iff_eq.2 rfl
  have q2 : (Lib.itoa n == Lib.itoa n) = true := beq_iff_eq.2 rfl
  have HV := Lib.hid hv; clear hv
  go_enter Tryd.func4, Tryd.ntmps4
  go_wp2_with (first
    | (go_at_call 12; ((with_reducible refine (shown_fr w _ ht (by assumption)).mono ?_); rintro e w1 ⟨rfl, h1⟩))
    | (go_at_call 26; ((with_reducible refine (text_fr w n _ n0 n1 ht (by assumption)).mono ?_); rintro e w1 ⟨rfl, h1⟩))
    | (go_at_call 29; ((with_reducible refine (rtext_fr w n _ hn (by assumption)).mono ?_); rintro e w1 ⟨rfl, h1⟩))
    | (go_at_call 27; ((with_reducible refine (parse_none_fr w S _ hS HV.out (by assumption)).mono ?_); rintro e w1 ⟨rfl, h1⟩))
    | (go_at_call 28; ((with_reducible refine (rparse_none_fr w S _ hS HV.out (by assumption)).mono ?_); rintro e w1 ⟨rfl, h1⟩))
    | (go_at_call 27; ((with_reducible refine (parse_none_fr w _ _ (itoa_size hn) (parse_minus hneg) (by assumption)).mono ?_); rintro e w1 ⟨rfl, h1⟩)))
  go_ret
  exact ⟨rfl, by assumption⟩

set_option maxHeartbeats 4000000 in
set_option maxRecDepth 100000 in
theorem texts_11 (n v : Int) (s S : ByteArray) (w : World) (hn : I64 n) (hneg : n < 0) (hcut : s.extract 0 (min (s.size : Int) 100).toNat = S) (hs : s.size ≤ 9223372036854775807) (hS : S.size ≤ 9223372036854775807) (hv : parseL S.data.toList = some v) (ht : Tab w) :
    Calls Tryd.prog 4 #[.int .i64 n, .string s] w fun e w' => e = .returned (.bool true) ∧ Fr w w' := by
  have h := Fr.refl w
  have n0 := hn.1
  have n1 := hn.2
  obtain ⟨v0', v1, vd⟩ := parse_back hv
  have v0 : -9223372036854775808 ≤ v := by omega
  have q3 : (Lib.itoa v == S.toList) = true := beq_iff_eq.2 (by rw [ByteArray.toList_eq, vd, itoa_pos v0'])
  clear vd
  have q1 : (Lib.itoa n != Lib.itoa n) = false := bne_eq_false_iff_eq.2 rfl
  have q2 : (Lib.itoa n == Lib.itoa n) = true := beq_iff_eq.2 rfl
  have HV := Lib.hid hv; clear hv
  go_enter Tryd.func4, Tryd.ntmps4
  go_wp2_with (first
    | (go_at_call 12; ((with_reducible refine (shown_fr w _ ht (by assumption)).mono ?_); rintro e w1 ⟨rfl, h1⟩))
    | (go_at_call 26; ((with_reducible refine (text_fr w n _ n0 n1 ht (by assumption)).mono ?_); rintro e w1 ⟨rfl, h1⟩))
    | (go_at_call 26; ((with_reducible refine (text_fr w v _ v0 v1 ht (by assumption)).mono ?_); rintro e w1 ⟨rfl, h1⟩))
    | (go_at_call 29; ((with_reducible refine (rtext_fr w n _ hn (by assumption)).mono ?_); rintro e w1 ⟨rfl, h1⟩))
    | (go_at_call 27; ((with_reducible refine (parse_some_fr w S v _ hS HV.out (by assumption)).mono ?_); rintro e w1 ⟨rfl, h1⟩))
    | (go_at_call 28; ((with_reducible refine (rparse_some_fr w S v _ hS HV.out (by assumption)).mono ?_); rintro e w1 ⟨rfl, h1⟩))
    | (go_at_call 27; ((with_reducible refine (parse_none_fr w _ _ (itoa_size hn) (parse_minus hneg) (by assumption)).mono ?_); rintro e w1 ⟨rfl, h1⟩)))
  go_ret
  exact ⟨rfl, by assumption⟩

theorem texts_walk (n : Int) (s : ByteArray) (w : World) (hn : I64 n) (hs : s.size ≤ 9223372036854775807) (ht : Tab w) :
    Calls Tryd.prog 4 #[.int .i64 n, .string s] w fun e w' => e = .returned (.bool true) ∧ Fr w w' := by
  have hS : (s.extract 0 (min (s.size : Int) 100).toNat).size ≤ 9223372036854775807 := by
    rw [ByteArray.size_extract]; omega
  cases hv : parseL (s.extract 0 (min (s.size : Int) 100).toNat).data.toList with
  | none =>
    by_cases h0 : 0 ≤ n
    · exact texts_00 n s _ w hn h0 rfl hs hS hv ht
    · exact texts_10 n s _ w hn (by omega) rfl hs hS hv ht
  | some v =>
    by_cases h0 : 0 ≤ n
    · exact texts_01 n v s _ w hn h0 rfl hs hS hv ht
    · exact texts_11 n v s _ w hn (by omega) rfl hs hS hv ht

end Go.Proofs.YtnlljcbpjhhloaaDoor
