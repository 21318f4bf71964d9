/-
  The contracts of the document's own small functions of layer 2: what a byte is, and where what tells nothing ends.
-/
import Derived.Test.YtaedlhjjfmmpdaaDoorTreeLm
namespace Go.Proofs.YtaedlhjjfmmpdaaDoor
open Go Go.RowKit Go.Lib

theorem rletter_any (x : Int) (w : World) (h0 : 0 ≤ x) (h1 : x ≤ 255) :
    Calls Tryd.prog 61 #[.int .u8 x] w fun e w' => e = .returned (.bool (letB x)) ∧ w = w' := by
  go_enter Tryd.func61, Tryd.ntmps61
  go_wp2
  all_goals
    go_ret
    refine ⟨ret_bool ?_, rfl⟩
    unfold letB
    rw [Bool.eq_iff_iff]
    simp only [decide_eq_true_eq, Bool.or_eq_true, Bool.false_eq_true, false_iff, true_iff]
    omega

theorem rdigit_any (x : Int) (w : World) (h0 : 0 ≤ x) (h1 : x ≤ 255) :
    Calls Tryd.prog 62 #[.int .u8 x] w fun e w' => e = .returned (.bool (digB x)) ∧ w = w' := by
  go_enter Tryd.func62, Tryd.ntmps62
  go_wp2
  all_goals
    go_ret
    refine ⟨ret_bool ?_, rfl⟩
    unfold digB
    rw [Bool.eq_iff_iff]
    simp only [decide_eq_true_eq, Bool.false_eq_true, false_iff]
    omega





def hasB (l : List UInt8) (x : Int) : Bool := l.any fun c => bv c == x
theorem hasB_take (l : List UInt8) (x : Int) (k : Nat) (h : k < l.length) : hasB (l.take (k + 1)) x = (hasB (l.take k) x || nth l k == x) := by
  unfold hasB nth
  rw [List.take_succ_eq_append_getElem h, List.any_append, List.getD_eq_getElem?_getD, List.getElem?_eq_getElem h]
  simp
theorem hasB_more {l : List UInt8} {x : Int} {k : Nat} (h : k < l.length) (hx : nth l k = x) : hasB l x = true := by
  unfold hasB
  rw [List.any_eq_true]
  refine ⟨l[k], List.getElem_mem h, ?_⟩
  rw [← hx]
  unfold nth
  rw [List.getD_eq_getElem?_getD, List.getElem?_eq_getElem h]
  simp

set_option maxHeartbeats 800000 in
theorem in_any (s : ByteArray) (x : Int) (w : World) (hs : s.size ≤ 65536) :
    Calls Tryd.prog 60 #[.string s, .int .u8 x] w fun e w' => e = .returned (.bool (hasB (bs s) x)) ∧ w = w' := by
  go_enter Tryd.func60, Tryd.ntmps60
  go_wp2
  go_loop [5] (fun i => ∃ k : Nat, k ≤ s.size ∧ i = .int .i64 k ∧ hasB ((bs s).take k) x = false) (fun i => s.size - (intOf i).toNat)
  case atStart => exact ⟨0, Nat.zero_le _, rfl, rfl⟩
  case round =>
    obtain ⟨k, hk, rfl, hr⟩ := hrel
    have HR := Lib.hid hr; clear hr
    by_cases hlt : k < s.size
    · have hsk := bs_nth s k hlt
      have HT := Lib.hid (hasB_take (bs s) x k (by rw [bs_length]; exact hlt))
      have HM := Lib.hid (fun h => hasB_more (l := bs s) (x := x) (k := k) (by rw [bs_length]; exact hlt) h)
      obtain ⟨y, hy⟩ : ∃ y, nth (bs s) k = y := ⟨_, rfl⟩
      rw [hy] at hsk HT HM
      clear hy
      cases hyx : (y == x) with
      | true =>
        go_wp2
        go_ret
        exact ⟨ret_bool (HM.out (by simpa using hyx)).symm, rfl⟩
      | false =>
        go_wp2
        go_round
        case rel => exact ⟨k + 1, by omega, by go_num, by rw [HT.out, HR.out, hyx]; rfl⟩
        case measure => simp [intOf]; omega
    · go_wp2
      go_ret
      refine ⟨ret_bool ?_, rfl⟩
      rw [← HR.out, List.take_of_length_le (by rw [bs_length]; omega)]

theorem has_blank (x : Int) : hasB (bs ⟨#[9, 10, 13, 32]⟩) x = blkB x := by
  show ((9 : Int) == x || ((10 : Int) == x || ((13 : Int) == x || ((32 : Int) == x || false)))) = blkB x
  unfold blkB
  rw [Bool.eq_iff_iff]
  simp only [Bool.or_eq_true, beq_iff_eq, Bool.false_eq_true, or_false]
  omega

/-- What skip tells: a place from which on it is the same, and that tells something. -/
def SkipOut (s : ByteArray) (a : Nat) (w : World) (e : Ending) (w' : World) : Prop :=
  ∃ k : Nat, e = .returned (.int .i64 k) ∧ w = w' ∧ a ≤ k ∧ k ≤ s.size ∧ lexS a ((bs s).drop a) = lexS k ((bs s).drop k) ∧ (k < s.size → blkB (nth (bs s) k) = false ∧ (nth (bs s) k == 35) = false)

theorem comm_step {l : List UInt8} {k : Nat} (h : k < l.length) : commL (l.drop k) = if (nth l k == 10) = true then 0 else commL (l.drop (k + 1)) + 1 := by
  rw [drop_cons h, commL_cons]
  by_cases e : l.getD k 0 = 10
  · rw [if_pos e, if_pos (by unfold nth; rw [e]; rfl)]
  · rw [if_neg e, if_neg]
    intro h'
    exact e (bv_inj (n := 10) (by simpa [nth] using h') (by decide))
theorem same_blank {l : List UInt8} {k : Nat} (hlt : k < l.length) (hb : blkB (nth l k) = true) : lexS k (l.drop k) = lexS (k + 1) (l.drop (k + 1)) := by
  rw [drop_cons hlt, lexS_blank hb]
theorem same_comm {l : List UInt8} {k : Nat} (hlt : k < l.length) (hc : (nth l k == 35) = true) : lexS k (l.drop k) = lexS (k + commL (l.drop k)) (l.drop (k + commL (l.drop k))) := by
  have h := go_comm (l := l) (k := k) (acc := []) hlt hc
  have e : l.getD k 0 = 35 := bv_inj (n := 35) (by simpa [nth] using hc) (by decide)
  have ed : l.drop k = 35 :: l.drop (k + 1) := by rw [drop_cons hlt, e]
  conv => lhs; rw [ed, lexS_comm, ← ed, List.drop_drop]

set_option maxHeartbeats 1600000 in
theorem skip_any (s : ByteArray) (a : Nat) (w : World) (hs : s.size ≤ 65536) (ha : a ≤ s.size) :
    Calls Tryd.prog 52 #[.string s, .int .i64 a] w (SkipOut s a w) := by
  go_enter Tryd.func52, Tryd.ntmps52
  go_wp2
  go_loop [1] (fun i => ∃ k : Nat, a ≤ k ∧ k ≤ s.size ∧ i = .int .i64 k ∧ lexS a ((bs s).drop a) = lexS k ((bs s).drop k)) (fun i => s.size - (intOf i).toNat)
  case atStart => exact ⟨a, Nat.le_refl _, ha, rfl, rfl⟩
  case round =>
    obtain ⟨k, hak, hk, rfl, hr⟩ := hrel
    have HR := Lib.hid hr; clear hr
    by_cases hlt : k < s.size
    · have hsk := bs_nth s k hlt
      have hkl : k < (bs s).length := by rw [bs_length]; exact hlt
      have HB := Lib.hid (same_blank hkl)
      have HC := Lib.hid (same_comm hkl)
      have hfin : blkB (nth (bs s) k) = false → (nth (bs s) k == 35) = false → SkipOut s a w (.returned (.int .i64 k)) w := fun h1 h2 => ⟨k, rfl, rfl, hak, hk, HR.out, fun _ => ⟨h1, h2⟩⟩
      have HF := Lib.hid hfin; clear hfin
      obtain ⟨y, hy⟩ : ∃ y, nth (bs s) k = y := ⟨_, rfl⟩
      rw [hy] at hsk HB HC HF
      have HY := Lib.hid hy; clear hy
      cases h35 : (y == 35) with
      | true =>
        have H35 := Lib.hid h35
        have hc1 : 1 ≤ commL ((bs s).drop k) := comm_pos hkl (by rw [HY.out]; exact h35)
        have hc2 := commL_le ((bs s).drop k)
        rw [List.length_drop, bs_length] at hc2
        obtain ⟨c, hc⟩ : ∃ c, commL ((bs s).drop k) = c := ⟨_, rfl⟩
        have HC2 := Lib.hid (HC.out h35)
        rw [hc] at hc1 hc2 HC2
        have HCC := Lib.hid hc; clear hc
        go_wp2
        go_loop [1] (fun i => ∃ k2 : Nat, k ≤ k2 ∧ k2 ≤ s.size ∧ i = .int .i64 k2 ∧ k2 + commL ((bs s).drop k2) = k + c) (fun i => s.size - (intOf i).toNat)
        case atStart => exact ⟨k, Nat.le_refl _, by omega, rfl, by rw [HCC.out]⟩
        case round =>
          obtain ⟨k2, hk2, hk2s, rfl, hr2⟩ := hrel
          have HR2 := Lib.hid hr2; clear hr2
          by_cases hlt2 : k2 < s.size
          · have hsk2 := bs_nth s k2 hlt2
            have HS2 := Lib.hid (comm_step (l := bs s) (k := k2) (by rw [bs_length]; exact hlt2))
            obtain ⟨z, hz⟩ : ∃ z, nth (bs s) k2 = z := ⟨_, rfl⟩
            rw [hz] at hsk2 HS2
            clear hz
            cases hz10 : (z == 10) with
            | true =>
              have hz11 : (z != 10) = false := by rw [bne, hz10]; rfl
              go_wp2
              go_round
              case rel => exact ⟨k2, by omega, by omega, rfl, by rw [HR.out, HC2.out, show k + c = k2 by have := HR2.out; rw [HS2.out, if_pos hz10] at this; omega]⟩
              case measure =>
                have := HR2.out
                rw [HS2.out, if_pos hz10] at this
                simp [intOf]; omega
            | false =>
              have hz11 : (z != 10) = true := by rw [bne, hz10]; rfl
              go_wp2
              go_round
              case rel => exact ⟨k2 + 1, by omega, by omega, by go_num, by have := HR2.out; rw [HS2.out, if_neg (by rw [hz10]; decide)] at this; omega⟩
              case measure => simp [intOf]; omega
          · go_wp2
            go_round
            case rel => exact ⟨k2, by omega, by omega, rfl, by rw [HR.out, HC2.out, show k + c = k2 by have := HR2.out; rw [List.drop_eq_nil_of_le (by rw [bs_length]; omega)] at this; exact this.symm]⟩
            case measure =>
              have := HR2.out
              rw [List.drop_eq_nil_of_le (by rw [bs_length]; omega)] at this
              have e0 : commL [] = 0 := rfl
              rw [e0] at this
              simp [intOf]; omega
      | false =>
        cases hbl : blkB y with
        | true =>
          go_wp2_with (go_at_call 60; ((with_reducible refine (in_any _ _ _ (by decide)).mono ?_); rintro e w1 ⟨rfl, rfl⟩; rw [has_blank]))
          go_round
          case rel => exact ⟨k + 1, by omega, by omega, by go_num, by rw [HR.out, HB.out hbl]⟩
          case measure => simp [intOf]; omega
        | false =>
          go_wp2_with (go_at_call 60; ((with_reducible refine (in_any _ _ _ (by decide)).mono ?_); rintro e w1 ⟨rfl, rfl⟩; rw [has_blank]))
          go_ret
          exact HF.out hbl h35
    · go_wp2
      go_ret
      exact ⟨k, rfl, rfl, hak, hk, HR.out, fun h => absurd h hlt⟩

end Go.Proofs.YtaedlhjjfmmpdaaDoor
