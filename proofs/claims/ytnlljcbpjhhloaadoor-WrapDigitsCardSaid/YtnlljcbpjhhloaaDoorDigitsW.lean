/-
  WrapDigits: for every number, digit and byte the statement's function tells true. The walk.
-/
import Derived.Test.YtnlljcbpjhhloaaDoorShown
import Derived.Test.YtnlljcbpjhhloaaDoorNums
import Derived.Test.YtnlljcbpjhhloaaDoorTextsW
namespace Go.Proofs.YtnlljcbpjhhloaaDoor
open Go Go.RowKit Go.Lib

theorem and_most (n : Int) : ∃ N : Int, bits BinOp.and IntKind.i64 n 9223372036854775807 = N ∧ 0 ≤ N ∧ N ≤ 9223372036854775807 := by
  refine ⟨_, rfl, ?_⟩
  have e := and_eq n 9223372036854775807
  have e2 : pat 9223372036854775807 = 2 ^ 63 - 1 := rfl
  rw [e2, Nat.and_two_pow_sub_one_eq_mod] at e
  unfold gAnd at e
  rw [e]
  have hl : pat n % 2 ^ 63 < 2 ^ 63 := Nat.mod_lt _ (by omega)
  generalize pat n % 2 ^ 63 = z at *
  unfold wrap64
  omega
theorem data_add (x y : List UInt8) : ((⟨x.toArray⟩ : ByteArray) ++ ⟨y.toArray⟩).data.toList = x ++ y := by rw [add_lists]
theorem p_fits {N D : Int} (h0 : 0 < N) (d0 : 0 ≤ D) (d1 : D ≤ 9) (h1 : N ≤ (9223372036854775807 - D) / 10) : parseL ((⟨(Lib.itoa N).toArray⟩ : ByteArray) ++ ⟨#[dig D.toNat]⟩).data.toList = some (10 * N + D) := by
  rw [data_add (Lib.itoa N) [dig D.toNat], itoa_pos (by omega), ← dd_push (by omega) (by omega), parse_dd _ (by omega)]
  congr 1; omega
theorem p_nofit {N D : Int} (h0 : 0 ≤ N) (d0 : 0 ≤ D) (d1 : D ≤ 9) (h1 : N ≤ 0 ∨ (9223372036854775807 - D) / 10 < N) : parseL ((⟨(Lib.itoa N).toArray⟩ : ByteArray) ++ ⟨#[dig D.toNat]⟩).data.toList = none := by
  rw [data_add (Lib.itoa N) [dig D.toNat], itoa_pos h0]
  by_cases hz : N.toNat = 0
  · rw [hz, dd_small (by omega)]
    unfold parseL
    rw [if_pos (Or.inr ⟨by simp, rfl⟩)]
  · rw [← dd_push (by omega) (by omega)]
    refine parse_none_of fun m hm e => ?_
    have e1 := dval_dd m m (Nat.le_refl _)
    have e2 := dval_dd (N.toNat * 10 + D.toNat) _ (Nat.le_refl _)
    rw [e] at e2
    omega
theorem p_behind {N : Int} {C : UInt8} (hc : C.toNat < 48 ∨ 57 < C.toNat) : parseL ((⟨(Lib.itoa N).toArray⟩ : ByteArray) ++ ⟨#[C]⟩).data.toList = none := by
  rw [data_add (Lib.itoa N) [C]]
  refine parse_none_of fun m _ e => ?_
  have hm : C ∈ Lib.itoa N ++ [C] := by simp
  rw [e] at hm
  have := dd_digits m m (Nat.le_refl _) _ hm
  omega
theorem p_ahead {N : Int} {C : UInt8} (hc : C.toNat < 48 ∨ 57 < C.toNat) : parseL ((⟨#[C]⟩ : ByteArray) ++ ⟨(Lib.itoa N).toArray⟩).data.toList = none := by
  rw [data_add [C] (Lib.itoa N)]
  refine parse_none_of fun m _ e => ?_
  have hm : C ∈ [C] ++ Lib.itoa N := by simp
  rw [e] at hm
  have := dd_digits m m (Nat.le_refl _) _ hm
  omega
theorem size_add (x y : ByteArray) (hx : x.size ≤ 30) (hy : y.size ≤ 30) : (x ++ y).size ≤ 9223372036854775807 := by rw [ByteArray.size_append]; omega
theorem itoa_30 {n : Int} (h : I64 n) : (⟨(Lib.itoa n).toArray⟩ : ByteArray).size ≤ 30 := by
  have := Lib.itoa_length_le n h.1 h.2
  simp [ByteArray.size]; omega
theorem one_30 (c : UInt8) : (⟨#[c]⟩ : ByteArray).size ≤ 30 := by simp [ByteArray.size]

set_option maxHeartbeats 4000000 in
set_option maxRecDepth 100000 in
theorem digits_00 (n N d D : Int) (C : UInt8) (w : World) (hand : bits BinOp.and IntKind.i64 n 9223372036854775807 = N) (N0 : 0 ≤ N) (N1 : N ≤ 9223372036854775807) (dd0 : 0 ≤ d) (dd1 : d ≤ 255) (hd : d % 10 = D) (d0 : 0 ≤ D) (d1 : D ≤ 9) (hf : 0 < N) (hf' : N ≤ (9223372036854775807 - D) / 10) (hc : 48 ≤ C.toNat ∧ C.toNat ≤ 57) (ht : Tab w) :
    Calls Tryd.prog 9 #[.int .i64 n, .int .u8 d, .int .u8 C.toNat] w fun e w' => e = .returned (.bool true) ∧ Fr w w' := by
  have h := Fr.refl w
  have hN : I64 N := ⟨by omega, N1⟩
  have hl : (⟨(Lib.itoa N).toArray⟩ : ByteArray).size ≤ 30 := itoa_30 hN
  have hl2 : (Lib.itoa N).length ≤ 21 := Lib.itoa_length_le N hN.1 hN.2
  have hcv : ∀ wr : World, (convert 34 9 (.slice (some ⟨wr.heap.size, 0, none⟩) 1 1)).run Tryd.prog (wr.alloc (.cells #[.int .u8 (48 + D)] 5)) = .ok (.string ⟨#[dig D.toNat]⟩) (wr.alloc (.cells #[.int .u8 (48 + D)] 5)) :=
    fun wr => conv1 wr (48 + D) (dig D.toNat) (by rw [dig_toNat (by omega)]; omega)
  have hcv2 : ∀ wr : World, (convert 34 9 (.slice (some ⟨wr.heap.size, 0, none⟩) 1 1)).run Tryd.prog (wr.alloc (.cells #[.int .u8 (C.toNat : Int)] 5)) = .ok (.string ⟨#[C]⟩) (wr.alloc (.cells #[.int .u8 (C.toNat : Int)] 5)) :=
    fun wr => conv1 wr (C.toNat : Int) C rfl
  have HP := Lib.hid (p_fits hf d0 d1 hf')
  have b1 : 10 * N + D ≤ 9223372036854775807 := by omega
  have b2 : (10 * N + D != 10 * N + D) = false := bne_eq_false_iff_eq.2 rfl
  obtain ⟨c1, c2⟩ := hc
  have c3 : (48 : Int) ≤ (C.toNat : Int) := by omega
  have c4 : (C.toNat : Int) ≤ 57 := by omega
  go_enter Tryd.func9, Tryd.ntmps9
  go_wp2_with (first
    | (go_at_call 12; ((with_reducible refine (shown_fr w _ ht (by assumption)).mono ?_); rintro e w1 ⟨rfl, h1⟩))
    | (go_at_call 26; ((with_reducible refine (text_fr w N _ (by omega) N1 ht (by assumption)).mono ?_); rintro e w1 ⟨rfl, h1⟩))
    | (go_at_call 27; ((with_reducible refine (parse_some_fr w _ (10 * N + D) _ (size_add _ _ (itoa_30 hN) (one_30 _)) HP.out (by exact Fr.alloc (by assumption) _)).mono ?_); rintro e w1 ⟨rfl, h1⟩)))
  all_goals
    go_ret
    exact ⟨rfl, by assumption⟩

set_option maxHeartbeats 4000000 in
set_option maxRecDepth 100000 in
theorem digits_01 (n N d D : Int) (C : UInt8) (w : World) (hand : bits BinOp.and IntKind.i64 n 9223372036854775807 = N) (N0 : 0 ≤ N) (N1 : N ≤ 9223372036854775807) (dd0 : 0 ≤ d) (dd1 : d ≤ 255) (hd : d % 10 = D) (d0 : 0 ≤ D) (d1 : D ≤ 9) (hf : 0 < N) (hf' : N ≤ (9223372036854775807 - D) / 10) (hc : C.toNat < 48) (ht : Tab w) :
    Calls Tryd.prog 9 #[.int .i64 n, .int .u8 d, .int .u8 C.toNat] w fun e w' => e = .returned (.bool true) ∧ Fr w w' := by
  have h := Fr.refl w
  have hN : I64 N := ⟨by omega, N1⟩
  have hl : (⟨(Lib.itoa N).toArray⟩ : ByteArray).size ≤ 30 := itoa_30 hN
  have hl2 : (Lib.itoa N).length ≤ 21 := Lib.itoa_length_le N hN.1 hN.2
  have hcv : ∀ wr : World, (convert 34 9 (.slice (some ⟨wr.heap.size, 0, none⟩) 1 1)).run Tryd.prog (wr.alloc (.cells #[.int .u8 (48 + D)] 5)) = .ok (.string ⟨#[dig D.toNat]⟩) (wr.alloc (.cells #[.int .u8 (48 + D)] 5)) :=
    fun wr => conv1 wr (48 + D) (dig D.toNat) (by rw [dig_toNat (by omega)]; omega)
  have hcv2 : ∀ wr : World, (convert 34 9 (.slice (some ⟨wr.heap.size, 0, none⟩) 1 1)).run Tryd.prog (wr.alloc (.cells #[.int .u8 (C.toNat : Int)] 5)) = .ok (.string ⟨#[C]⟩) (wr.alloc (.cells #[.int .u8 (C.toNat : Int)] 5)) :=
    fun wr => conv1 wr (C.toNat : Int) C rfl
  have HP := Lib.hid (p_fits hf d0 d1 hf')
  have b1 : 10 * N + D ≤ 9223372036854775807 := by omega
  have b2 : (10 * N + D != 10 * N + D) = false := bne_eq_false_iff_eq.2 rfl
  have HB := Lib.hid (p_behind (N := N) (Or.inl hc))
  have HH := Lib.hid (p_ahead (N := N) (Or.inl hc))
  have c3 : (C.toNat : Int) < 48 := by omega
  have c4 : decide ((48 : Int) ≤ (C.toNat : Int)) = false := decide_eq_false (by omega)
  have c5 : decide (48 ≤ C.toNat) = false := decide_eq_false (by omega)
  go_enter Tryd.func9, Tryd.ntmps9
  go_wp2_with (first
    | (go_at_call 12; ((with_reducible refine (shown_fr w _ ht (by assumption)).mono ?_); rintro e w1 ⟨rfl, h1⟩))
    | (go_at_call 26; ((with_reducible refine (text_fr w N _ (by omega) N1 ht (by assumption)).mono ?_); rintro e w1 ⟨rfl, h1⟩))
    | (go_at_call 27; ((with_reducible refine (parse_some_fr w _ (10 * N + D) _ (size_add _ _ (itoa_30 hN) (one_30 _)) HP.out (by exact Fr.alloc (by assumption) _)).mono ?_); rintro e w1 ⟨rfl, h1⟩))
    | (go_at_call 27; ((with_reducible refine (parse_none_fr w _ _ (size_add _ _ (itoa_30 hN) (one_30 _)) HB.out (by exact Fr.alloc (by assumption) _)).mono ?_); rintro e w1 ⟨rfl, h1⟩))
    | (go_at_call 27; ((with_reducible refine (parse_none_fr w _ _ (size_add _ _ (one_30 _) (itoa_30 hN)) HH.out (by exact Fr.alloc (by assumption) _)).mono ?_); rintro e w1 ⟨rfl, h1⟩)))
  all_goals
    go_ret
    exact ⟨rfl, by assumption⟩

set_option maxHeartbeats 4000000 in
set_option maxRecDepth 100000 in
theorem digits_02 (n N d D : Int) (C : UInt8) (w : World) (hand : bits BinOp.and IntKind.i64 n 9223372036854775807 = N) (N0 : 0 ≤ N) (N1 : N ≤ 9223372036854775807) (dd0 : 0 ≤ d) (dd1 : d ≤ 255) (hd : d % 10 = D) (d0 : 0 ≤ D) (d1 : D ≤ 9) (hf : 0 < N) (hf' : N ≤ (9223372036854775807 - D) / 10) (hc : 57 < C.toNat) (ht : Tab w) :
    Calls Tryd.prog 9 #[.int .i64 n, .int .u8 d, .int .u8 C.toNat] w fun e w' => e = .returned (.bool true) ∧ Fr w w' := by
  have h := Fr.refl w
  have hN : I64 N := ⟨by omega, N1⟩
  have hl : (⟨(Lib.itoa N).toArray⟩ : ByteArray).size ≤ 30 := itoa_30 hN
  have hl2 : (Lib.itoa N).length ≤ 21 := Lib.itoa_length_le N hN.1 hN.2
  have hcv : ∀ wr : World, (convert 34 9 (.slice (some ⟨wr.heap.size, 0, none⟩) 1 1)).run Tryd.prog (wr.alloc (.cells #[.int .u8 (48 + D)] 5)) = .ok (.string ⟨#[dig D.toNat]⟩) (wr.alloc (.cells #[.int .u8 (48 + D)] 5)) :=
    fun wr => conv1 wr (48 + D) (dig D.toNat) (by rw [dig_toNat (by omega)]; omega)
  have hcv2 : ∀ wr : World, (convert 34 9 (.slice (some ⟨wr.heap.size, 0, none⟩) 1 1)).run Tryd.prog (wr.alloc (.cells #[.int .u8 (C.toNat : Int)] 5)) = .ok (.string ⟨#[C]⟩) (wr.alloc (.cells #[.int .u8 (C.toNat : Int)] 5)) :=
    fun wr => conv1 wr (C.toNat : Int) C rfl
  have HP := Lib.hid (p_fits hf d0 d1 hf')
  have b1 : 10 * N + D ≤ 9223372036854775807 := by omega
  have b2 : (10 * N + D != 10 * N + D) = false := bne_eq_false_iff_eq.2 rfl
  have HB := Lib.hid (p_behind (N := N) (Or.inr hc))
  have HH := Lib.hid (p_ahead (N := N) (Or.inr hc))
  have c3 : (48 : Int) ≤ (C.toNat : Int) := by omega
  have c4 : decide ((C.toNat : Int) ≤ 57) = false := decide_eq_false (by omega)
  have c5 : decide (C.toNat ≤ 57) = false := decide_eq_false (by omega)
  have c6 : (57 : Int) < (C.toNat : Int) := by omega
  go_enter Tryd.func9, Tryd.ntmps9
  go_wp2_with (first
    | (go_at_call 12; ((with_reducible refine (shown_fr w _ ht (by assumption)).mono ?_); rintro e w1 ⟨rfl, h1⟩))
    | (go_at_call 26; ((with_reducible refine (text_fr w N _ (by omega) N1 ht (by assumption)).mono ?_); rintro e w1 ⟨rfl, h1⟩))
    | (go_at_call 27; ((with_reducible refine (parse_some_fr w _ (10 * N + D) _ (size_add _ _ (itoa_30 hN) (one_30 _)) HP.out (by exact Fr.alloc (by assumption) _)).mono ?_); rintro e w1 ⟨rfl, h1⟩))
    | (go_at_call 27; ((with_reducible refine (parse_none_fr w _ _ (size_add _ _ (itoa_30 hN) (one_30 _)) HB.out (by exact Fr.alloc (by assumption) _)).mono ?_); rintro e w1 ⟨rfl, h1⟩))
    | (go_at_call 27; ((with_reducible refine (parse_none_fr w _ _ (size_add _ _ (one_30 _) (itoa_30 hN)) HH.out (by exact Fr.alloc (by assumption) _)).mono ?_); rintro e w1 ⟨rfl, h1⟩)))
  all_goals
    go_ret
    exact ⟨rfl, by assumption⟩

set_option maxHeartbeats 4000000 in
set_option maxRecDepth 100000 in
theorem digits_10 (n N d D : Int) (C : UInt8) (w : World) (hand : bits BinOp.and IntKind.i64 n 9223372036854775807 = N) (N0 : 0 ≤ N) (N1 : N ≤ 9223372036854775807) (dd0 : 0 ≤ d) (dd1 : d ≤ 255) (hd : d % 10 = D) (d0 : 0 ≤ D) (d1 : D ≤ 9) (hf : N ≤ 0) (hc : 48 ≤ C.toNat ∧ C.toNat ≤ 57) (ht : Tab w) :
    Calls Tryd.prog 9 #[.int .i64 n, .int .u8 d, .int .u8 C.toNat] w fun e w' => e = .returned (.bool true) ∧ Fr w w' := by
  have h := Fr.refl w
  have hN : I64 N := ⟨by omega, N1⟩
  have hl : (⟨(Lib.itoa N).toArray⟩ : ByteArray).size ≤ 30 := itoa_30 hN
  have hl2 : (Lib.itoa N).length ≤ 21 := Lib.itoa_length_le N hN.1 hN.2
  have hcv : ∀ wr : World, (convert 34 9 (.slice (some ⟨wr.heap.size, 0, none⟩) 1 1)).run Tryd.prog (wr.alloc (.cells #[.int .u8 (48 + D)] 5)) = .ok (.string ⟨#[dig D.toNat]⟩) (wr.alloc (.cells #[.int .u8 (48 + D)] 5)) :=
    fun wr => conv1 wr (48 + D) (dig D.toNat) (by rw [dig_toNat (by omega)]; omega)
  have hcv2 : ∀ wr : World, (convert 34 9 (.slice (some ⟨wr.heap.size, 0, none⟩) 1 1)).run Tryd.prog (wr.alloc (.cells #[.int .u8 (C.toNat : Int)] 5)) = .ok (.string ⟨#[C]⟩) (wr.alloc (.cells #[.int .u8 (C.toNat : Int)] 5)) :=
    fun wr => conv1 wr (C.toNat : Int) C rfl
  have HP := Lib.hid (p_nofit N0 d0 d1 (Or.inl hf))
  have b3 : ¬ 0 < N := by omega
  have b4 : decide (0 < N) = false := decide_eq_false (by omega)
  obtain ⟨c1, c2⟩ := hc
  have c3 : (48 : Int) ≤ (C.toNat : Int) := by omega
  have c4 : (C.toNat : Int) ≤ 57 := by omega
  go_enter Tryd.func9, Tryd.ntmps9
  go_wp2_with (first
    | (go_at_call 12; ((with_reducible refine (shown_fr w _ ht (by assumption)).mono ?_); rintro e w1 ⟨rfl, h1⟩))
    | (go_at_call 26; ((with_reducible refine (text_fr w N _ (by omega) N1 ht (by assumption)).mono ?_); rintro e w1 ⟨rfl, h1⟩))
    | (go_at_call 27; ((with_reducible refine (parse_none_fr w _ _ (size_add _ _ (itoa_30 hN) (one_30 _)) HP.out (by exact Fr.alloc (by assumption) _)).mono ?_); rintro e w1 ⟨rfl, h1⟩)))
  all_goals
    go_ret
    exact ⟨rfl, by assumption⟩

set_option maxHeartbeats 4000000 in
set_option maxRecDepth 100000 in
theorem digits_11 (n N d D : Int) (C : UInt8) (w : World) (hand : bits BinOp.and IntKind.i64 n 9223372036854775807 = N) (N0 : 0 ≤ N) (N1 : N ≤ 9223372036854775807) (dd0 : 0 ≤ d) (dd1 : d ≤ 255) (hd : d % 10 = D) (d0 : 0 ≤ D) (d1 : D ≤ 9) (hf : N ≤ 0) (hc : C.toNat < 48) (ht : Tab w) :
    Calls Tryd.prog 9 #[.int .i64 n, .int .u8 d, .int .u8 C.toNat] w fun e w' => e = .returned (.bool true) ∧ Fr w w' := by
  have h := Fr.refl w
  have hN : I64 N := ⟨by omega, N1⟩
  have hl : (⟨(Lib.itoa N).toArray⟩ : ByteArray).size ≤ 30 := itoa_30 hN
  have hl2 : (Lib.itoa N).length ≤ 21 := Lib.itoa_length_le N hN.1 hN.2
  have hcv : ∀ wr : World, (convert 34 9 (.slice (some ⟨wr.heap.size, 0, none⟩) 1 1)).run Tryd.prog (wr.alloc (.cells #[.int .u8 (48 + D)] 5)) = .ok (.string ⟨#[dig D.toNat]⟩) (wr.alloc (.cells #[.int .u8 (48 + D)] 5)) :=
    fun wr => conv1 wr (48 + D) (dig D.toNat) (by rw [dig_toNat (by omega)]; omega)
  have hcv2 : ∀ wr : World, (convert 34 9 (.slice (some ⟨wr.heap.size, 0, none⟩) 1 1)).run Tryd.prog (wr.alloc (.cells #[.int .u8 (C.toNat : Int)] 5)) = .ok (.string ⟨#[C]⟩) (wr.alloc (.cells #[.int .u8 (C.toNat : Int)] 5)) :=
    fun wr => conv1 wr (C.toNat : Int) C rfl
  have HP := Lib.hid (p_nofit N0 d0 d1 (Or.inl hf))
  have b3 : ¬ 0 < N := by omega
  have b4 : decide (0 < N) = false := decide_eq_false (by omega)
  have HB := Lib.hid (p_behind (N := N) (Or.inl hc))
  have HH := Lib.hid (p_ahead (N := N) (Or.inl hc))
  have c3 : (C.toNat : Int) < 48 := by omega
  have c4 : decide ((48 : Int) ≤ (C.toNat : Int)) = false := decide_eq_false (by omega)
  have c5 : decide (48 ≤ C.toNat) = false := decide_eq_false (by omega)
  go_enter Tryd.func9, Tryd.ntmps9
  go_wp2_with (first
    | (go_at_call 12; ((with_reducible refine (shown_fr w _ ht (by assumption)).mono ?_); rintro e w1 ⟨rfl, h1⟩))
    | (go_at_call 26; ((with_reducible refine (text_fr w N _ (by omega) N1 ht (by assumption)).mono ?_); rintro e w1 ⟨rfl, h1⟩))
    | (go_at_call 27; ((with_reducible refine (parse_none_fr w _ _ (size_add _ _ (itoa_30 hN) (one_30 _)) HP.out (by exact Fr.alloc (by assumption) _)).mono ?_); rintro e w1 ⟨rfl, h1⟩))
    | (go_at_call 27; ((with_reducible refine (parse_none_fr w _ _ (size_add _ _ (itoa_30 hN) (one_30 _)) HB.out (by exact Fr.alloc (by assumption) _)).mono ?_); rintro e w1 ⟨rfl, h1⟩))
    | (go_at_call 27; ((with_reducible refine (parse_none_fr w _ _ (size_add _ _ (one_30 _) (itoa_30 hN)) HH.out (by exact Fr.alloc (by assumption) _)).mono ?_); rintro e w1 ⟨rfl, h1⟩)))
  all_goals
    go_ret
    exact ⟨rfl, by assumption⟩

set_option maxHeartbeats 4000000 in
set_option maxRecDepth 100000 in
theorem digits_12 (n N d D : Int) (C : UInt8) (w : World) (hand : bits BinOp.and IntKind.i64 n 9223372036854775807 = N) (N0 : 0 ≤ N) (N1 : N ≤ 9223372036854775807) (dd0 : 0 ≤ d) (dd1 : d ≤ 255) (hd : d % 10 = D) (d0 : 0 ≤ D) (d1 : D ≤ 9) (hf : N ≤ 0) (hc : 57 < C.toNat) (ht : Tab w) :
    Calls Tryd.prog 9 #[.int .i64 n, .int .u8 d, .int .u8 C.toNat] w fun e w' => e = .returned (.bool true) ∧ Fr w w' := by
  have h := Fr.refl w
  have hN : I64 N := ⟨by omega, N1⟩
  have hl : (⟨(Lib.itoa N).toArray⟩ : ByteArray).size ≤ 30 := itoa_30 hN
  have hl2 : (Lib.itoa N).length ≤ 21 := Lib.itoa_length_le N hN.1 hN.2
  have hcv : ∀ wr : World, (convert 34 9 (.slice (some ⟨wr.heap.size, 0, none⟩) 1 1)).run Tryd.prog (wr.alloc (.cells #[.int .u8 (48 + D)] 5)) = .ok (.string ⟨#[dig D.toNat]⟩) (wr.alloc (.cells #[.int .u8 (48 + D)] 5)) :=
    fun wr => conv1 wr (48 + D) (dig D.toNat) (by rw [dig_toNat (by omega)]; omega)
  have hcv2 : ∀ wr : World, (convert 34 9 (.slice (some ⟨wr.heap.size, 0, none⟩) 1 1)).run Tryd.prog (wr.alloc (.cells #[.int .u8 (C.toNat : Int)] 5)) = .ok (.string ⟨#[C]⟩) (wr.alloc (.cells #[.int .u8 (C.toNat : Int)] 5)) :=
    fun wr => conv1 wr (C.toNat : Int) C rfl
  have HP := Lib.hid (p_nofit N0 d0 d1 (Or.inl hf))
  have b3 : ¬ 0 < N := by omega
  have b4 : decide (0 < N) = false := decide_eq_false (by omega)
  have HB := Lib.hid (p_behind (N := N) (Or.inr hc))
  have HH := Lib.hid (p_ahead (N := N) (Or.inr hc))
  have c3 : (48 : Int) ≤ (C.toNat : Int) := by omega
  have c4 : decide ((C.toNat : Int) ≤ 57) = false := decide_eq_false (by omega)
  have c5 : decide (C.toNat ≤ 57) = false := decide_eq_false (by omega)
  have c6 : (57 : Int) < (C.toNat : Int) := by omega
  go_enter Tryd.func9, Tryd.ntmps9
  go_wp2_with (first
    | (go_at_call 12; ((with_reducible refine (shown_fr w _ ht (by assumption)).mono ?_); rintro e w1 ⟨rfl, h1⟩))
    | (go_at_call 26; ((with_reducible refine (text_fr w N _ (by omega) N1 ht (by assumption)).mono ?_); rintro e w1 ⟨rfl, h1⟩))
    | (go_at_call 27; ((with_reducible refine (parse_none_fr w _ _ (size_add _ _ (itoa_30 hN) (one_30 _)) HP.out (by exact Fr.alloc (by assumption) _)).mono ?_); rintro e w1 ⟨rfl, h1⟩))
    | (go_at_call 27; ((with_reducible refine (parse_none_fr w _ _ (size_add _ _ (itoa_30 hN) (one_30 _)) HB.out (by exact Fr.alloc (by assumption) _)).mono ?_); rintro e w1 ⟨rfl, h1⟩))
    | (go_at_call 27; ((with_reducible refine (parse_none_fr w _ _ (size_add _ _ (one_30 _) (itoa_30 hN)) HH.out (by exact Fr.alloc (by assumption) _)).mono ?_); rintro e w1 ⟨rfl, h1⟩)))
  all_goals
    go_ret
    exact ⟨rfl, by assumption⟩

set_option maxHeartbeats 4000000 in
set_option maxRecDepth 100000 in
theorem digits_20 (n N d D : Int) (C : UInt8) (w : World) (hand : bits BinOp.and IntKind.i64 n 9223372036854775807 = N) (N0 : 0 ≤ N) (N1 : N ≤ 9223372036854775807) (dd0 : 0 ≤ d) (dd1 : d ≤ 255) (hd : d % 10 = D) (d0 : 0 ≤ D) (d1 : D ≤ 9) (hf : 0 < N) (hf' : (9223372036854775807 - D) / 10 < N) (hc : 48 ≤ C.toNat ∧ C.toNat ≤ 57) (ht : Tab w) :
    Calls Tryd.prog 9 #[.int .i64 n, .int .u8 d, .int .u8 C.toNat] w fun e w' => e = .returned (.bool true) ∧ Fr w w' := by
  have h := Fr.refl w
  have hN : I64 N := ⟨by omega, N1⟩
  have hl : (⟨(Lib.itoa N).toArray⟩ : ByteArray).size ≤ 30 := itoa_30 hN
  have hl2 : (Lib.itoa N).length ≤ 21 := Lib.itoa_length_le N hN.1 hN.2
  have hcv : ∀ wr : World, (convert 34 9 (.slice (some ⟨wr.heap.size, 0, none⟩) 1 1)).run Tryd.prog (wr.alloc (.cells #[.int .u8 (48 + D)] 5)) = .ok (.string ⟨#[dig D.toNat]⟩) (wr.alloc (.cells #[.int .u8 (48 + D)] 5)) :=
    fun wr => conv1 wr (48 + D) (dig D.toNat) (by rw [dig_toNat (by omega)]; omega)
  have hcv2 : ∀ wr : World, (convert 34 9 (.slice (some ⟨wr.heap.size, 0, none⟩) 1 1)).run Tryd.prog (wr.alloc (.cells #[.int .u8 (C.toNat : Int)] 5)) = .ok (.string ⟨#[C]⟩) (wr.alloc (.cells #[.int .u8 (C.toNat : Int)] 5)) :=
    fun wr => conv1 wr (C.toNat : Int) C rfl
  have HP := Lib.hid (p_nofit N0 d0 d1 (Or.inr hf'))
  have b3 : ¬ N ≤ (9223372036854775807 - D) / 10 := by omega
  have b4 : decide (N ≤ (9223372036854775807 - D) / 10) = false := decide_eq_false (by omega)
  obtain ⟨c1, c2⟩ := hc
  have c3 : (48 : Int) ≤ (C.toNat : Int) := by omega
  have c4 : (C.toNat : Int) ≤ 57 := by omega
  go_enter Tryd.func9, Tryd.ntmps9
  go_wp2_with (first
    | (go_at_call 12; ((with_reducible refine (shown_fr w _ ht (by assumption)).mono ?_); rintro e w1 ⟨rfl, h1⟩))
    | (go_at_call 26; ((with_reducible refine (text_fr w N _ (by omega) N1 ht (by assumption)).mono ?_); rintro e w1 ⟨rfl, h1⟩))
    | (go_at_call 27; ((with_reducible refine (parse_none_fr w _ _ (size_add _ _ (itoa_30 hN) (one_30 _)) HP.out (by exact Fr.alloc (by assumption) _)).mono ?_); rintro e w1 ⟨rfl, h1⟩)))
  all_goals
    go_ret
    exact ⟨rfl, by assumption⟩

set_option maxHeartbeats 4000000 in
set_option maxRecDepth 100000 in
theorem digits_21 (n N d D : Int) (C : UInt8) (w : World) (hand : bits BinOp.and IntKind.i64 n 9223372036854775807 = N) (N0 : 0 ≤ N) (N1 : N ≤ 9223372036854775807) (dd0 : 0 ≤ d) (dd1 : d ≤ 255) (hd : d % 10 = D) (d0 : 0 ≤ D) (d1 : D ≤ 9) (hf : 0 < N) (hf' : (9223372036854775807 - D) / 10 < N) (hc : C.toNat < 48) (ht : Tab w) :
    Calls Tryd.prog 9 #[.int .i64 n, .int .u8 d, .int .u8 C.toNat] w fun e w' => e = .returned (.bool true) ∧ Fr w w' := by
  have h := Fr.refl w
  have hN : I64 N := ⟨by omega, N1⟩
  have hl : (⟨(Lib.itoa N).toArray⟩ : ByteArray).size ≤ 30 := itoa_30 hN
  have hl2 : (Lib.itoa N).length ≤ 21 := Lib.itoa_length_le N hN.1 hN.2
  have hcv : ∀ wr : World, (convert 34 9 (.slice (some ⟨wr.heap.size, 0, none⟩) 1 1)).run Tryd.prog (wr.alloc (.cells #[.int .u8 (48 + D)] 5)) = .ok (.string ⟨#[dig D.toNat]⟩) (wr.alloc (.cells #[.int .u8 (48 + D)] 5)) :=
    fun wr => conv1 wr (48 + D) (dig D.toNat) (by rw [dig_toNat (by omega)]; omega)
  have hcv2 : ∀ wr : World, (convert 34 9 (.slice (some ⟨wr.heap.size, 0, none⟩) 1 1)).run Tryd.prog (wr.alloc (.cells #[.int .u8 (C.toNat : Int)] 5)) = .ok (.string ⟨#[C]⟩) (wr.alloc (.cells #[.int .u8 (C.toNat : Int)] 5)) :=
    fun wr => conv1 wr (C.toNat : Int) C rfl
  have HP := Lib.hid (p_nofit N0 d0 d1 (Or.inr hf'))
  have b3 : ¬ N ≤ (9223372036854775807 - D) / 10 := by omega
  have b4 : decide (N ≤ (9223372036854775807 - D) / 10) = false := decide_eq_false (by omega)
  have HB := Lib.hid (p_behind (N := N) (Or.inl hc))
  have HH := Lib.hid (p_ahead (N := N) (Or.inl hc))
  have c3 : (C.toNat : Int) < 48 := by omega
  have c4 : decide ((48 : Int) ≤ (C.toNat : Int)) = false := decide_eq_false (by omega)
  have c5 : decide (48 ≤ C.toNat) = false := decide_eq_false (by omega)
  go_enter Tryd.func9, Tryd.ntmps9
  go_wp2_with (first
    | (go_at_call 12; ((with_reducible refine (shown_fr w _ ht (by assumption)).mono ?_); rintro e w1 ⟨rfl, h1⟩))
    | (go_at_call 26; ((with_reducible refine (text_fr w N _ (by omega) N1 ht (by assumption)).mono ?_); rintro e w1 ⟨rfl, h1⟩))
    | (go_at_call 27; ((with_reducible refine (parse_none_fr w _ _ (size_add _ _ (itoa_30 hN) (one_30 _)) HP.out (by exact Fr.alloc (by assumption) _)).mono ?_); rintro e w1 ⟨rfl, h1⟩))
    | (go_at_call 27; ((with_reducible refine (parse_none_fr w _ _ (size_add _ _ (itoa_30 hN) (one_30 _)) HB.out (by exact Fr.alloc (by assumption) _)).mono ?_); rintro e w1 ⟨rfl, h1⟩))
    | (go_at_call 27; ((with_reducible refine (parse_none_fr w _ _ (size_add _ _ (one_30 _) (itoa_30 hN)) HH.out (by exact Fr.alloc (by assumption) _)).mono ?_); rintro e w1 ⟨rfl, h1⟩)))
  all_goals
    go_ret
    exact ⟨rfl, by assumption⟩

set_option maxHeartbeats 4000000 in
set_option maxRecDepth 100000 in
theorem digits_22 (n N d D : Int) (C : UInt8) (w : World) (hand : bits BinOp.and IntKind.i64 n 9223372036854775807 = N) (N0 : 0 ≤ N) (N1 : N ≤ 9223372036854775807) (dd0 : 0 ≤ d) (dd1 : d ≤ 255) (hd : d % 10 = D) (d0 : 0 ≤ D) (d1 : D ≤ 9) (hf : 0 < N) (hf' : (9223372036854775807 - D) / 10 < N) (hc : 57 < C.toNat) (ht : Tab w) :
    Calls Tryd.prog 9 #[.int .i64 n, .int .u8 d, .int .u8 C.toNat] w fun e w' => e = .returned (.bool true) ∧ Fr w w' := by
  have h := Fr.refl w
  have hN : I64 N := ⟨by omega, N1⟩
  have hl : (⟨(Lib.itoa N).toArray⟩ : ByteArray).size ≤ 30 := itoa_30 hN
  have hl2 : (Lib.itoa N).length ≤ 21 := Lib.itoa_length_le N hN.1 hN.2
  have hcv : ∀ wr : World, (convert 34 9 (.slice (some ⟨wr.heap.size, 0, none⟩) 1 1)).run Tryd.prog (wr.alloc (.cells #[.int .u8 (48 + D)] 5)) = .ok (.string ⟨#[dig D.toNat]⟩) (wr.alloc (.cells #[.int .u8 (48 + D)] 5)) :=
    fun wr => conv1 wr (48 + D) (dig D.toNat) (by rw [dig_toNat (by omega)]; omega)
  have hcv2 : ∀ wr : World, (convert 34 9 (.slice (some ⟨wr.heap.size, 0, none⟩) 1 1)).run Tryd.prog (wr.alloc (.cells #[.int .u8 (C.toNat : Int)] 5)) = .ok (.string ⟨#[C]⟩) (wr.alloc (.cells #[.int .u8 (C.toNat : Int)] 5)) :=
    fun wr => conv1 wr (C.toNat : Int) C rfl
  have HP := Lib.hid (p_nofit N0 d0 d1 (Or.inr hf'))
  have b3 : ¬ N ≤ (9223372036854775807 - D) / 10 := by omega
  have b4 : decide (N ≤ (9223372036854775807 - D) / 10) = false := decide_eq_false (by omega)
  have HB := Lib.hid (p_behind (N := N) (Or.inr hc))
  have HH := Lib.hid (p_ahead (N := N) (Or.inr hc))
  have c3 : (48 : Int) ≤ (C.toNat : Int) := by omega
  have c4 : decide ((C.toNat : Int) ≤ 57) = false := decide_eq_false (by omega)
  have c5 : decide (C.toNat ≤ 57) = false := decide_eq_false (by omega)
  have c6 : (57 : Int) < (C.toNat : Int) := by omega
  go_enter Tryd.func9, Tryd.ntmps9
  go_wp2_with (first
    | (go_at_call 12; ((with_reducible refine (shown_fr w _ ht (by assumption)).mono ?_); rintro e w1 ⟨rfl, h1⟩))
    | (go_at_call 26; ((with_reducible refine (text_fr w N _ (by omega) N1 ht (by assumption)).mono ?_); rintro e w1 ⟨rfl, h1⟩))
    | (go_at_call 27; ((with_reducible refine (parse_none_fr w _ _ (size_add _ _ (itoa_30 hN) (one_30 _)) HP.out (by exact Fr.alloc (by assumption) _)).mono ?_); rintro e w1 ⟨rfl, h1⟩))
    | (go_at_call 27; ((with_reducible refine (parse_none_fr w _ _ (size_add _ _ (itoa_30 hN) (one_30 _)) HB.out (by exact Fr.alloc (by assumption) _)).mono ?_); rintro e w1 ⟨rfl, h1⟩))
    | (go_at_call 27; ((with_reducible refine (parse_none_fr w _ _ (size_add _ _ (one_30 _) (itoa_30 hN)) HH.out (by exact Fr.alloc (by assumption) _)).mono ?_); rintro e w1 ⟨rfl, h1⟩)))
  all_goals
    go_ret
    exact ⟨rfl, by assumption⟩

theorem digits_walk (n d c : Int) (w : World) (dd0 : 0 ≤ d) (dd1 : d ≤ 255) (c0 : 0 ≤ c) (c1 : c ≤ 255) (ht : Tab w) :
    Calls Tryd.prog 9 #[.int .i64 n, .int .u8 d, .int .u8 c] w fun e w' => e = .returned (.bool true) ∧ Fr w w' := by
  obtain ⟨N, hand, N0, N1⟩ := and_most n
  obtain ⟨C, rfl⟩ : ∃ C : UInt8, c = (C.toNat : Int) := ⟨UInt8.ofNat c.toNat, by rw [UInt8.toNat_ofNat', Nat.mod_eq_of_lt (by omega)]; omega⟩
  obtain ⟨D, hd⟩ : ∃ D : Int, d % 10 = D := ⟨_, rfl⟩
  have d0 : 0 ≤ D := by omega
  have d1 : D ≤ 9 := by omega
  rcases (show (0 < N ∧ N ≤ (9223372036854775807 - D) / 10) ∨ N ≤ 0 ∨ (0 < N ∧ (9223372036854775807 - D) / 10 < N) by omega) with ⟨f1, f2⟩ | f1 | ⟨f1, f2⟩ <;>
    rcases (show (48 ≤ C.toNat ∧ C.toNat ≤ 57) ∨ C.toNat < 48 ∨ 57 < C.toNat by omega) with hc | hc | hc
  · exact digits_00 n N d D C w hand N0 N1 dd0 dd1 hd d0 d1 f1 f2 hc ht
  · exact digits_01 n N d D C w hand N0 N1 dd0 dd1 hd d0 d1 f1 f2 hc ht
  · exact digits_02 n N d D C w hand N0 N1 dd0 dd1 hd d0 d1 f1 f2 hc ht
  · exact digits_10 n N d D C w hand N0 N1 dd0 dd1 hd d0 d1 f1 hc ht
  · exact digits_11 n N d D C w hand N0 N1 dd0 dd1 hd d0 d1 f1 hc ht
  · exact digits_12 n N d D C w hand N0 N1 dd0 dd1 hd d0 d1 f1 hc ht
  · exact digits_20 n N d D C w hand N0 N1 dd0 dd1 hd d0 d1 f1 f2 hc ht
  · exact digits_21 n N d D C w hand N0 N1 dd0 dd1 hd d0 d1 f1 f2 hc ht
  · exact digits_22 n N d D C w hand N0 N1 dd0 dd1 hd d0 d1 f1 f2 hc ht

end Go.Proofs.YtnlljcbpjhhloaaDoor
