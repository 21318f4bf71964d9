/-
  The contracts of the document's own Text and Parse (package evenhandref01).
-/
import Derived.Test.YtnlljcbpjhhloaaDoorRef
import Derived.Test.YtnlljcbpjhhloaaDoorTextNums
import Derived.Test.YtnlljcbpjhhloaaDoorShown
namespace Go.Proofs.YtnlljcbpjhhloaaDoor
open Go Go.RowKit Go.Lib

/-- What holds at the head of a round of Text: what is told so far, and what is left. -/
def TextAt (N u j : Nat) (acc : List UInt8) : Prop := (j = 0 ∧ u = N ∧ acc = []) ∨ (1 ≤ j ∧ j + u ≤ N / 10 + 1 ∧ ((u = 0 ∧ acc = decDigits N) ∨ (0 < u ∧ decDigits u ++ acc = decDigits N)))
theorem text_step {N u j : Nat} {acc : List UInt8} (hc : j = 0 ∨ 0 < u) (h : TextAt N u j acc) : TextAt N (u / 10) (j + 1) (dig (u % 10) :: acc) := by
  right
  rcases h with ⟨rfl, rfl, rfl⟩ | ⟨h1, h2, h3⟩
  · refine ⟨by omega, by omega, ?_⟩
    by_cases hs : u < 10
    · left
      rw [dd_small hs, Nat.mod_eq_of_lt hs]
      exact ⟨by omega, rfl⟩
    · right
      refine ⟨by omega, ?_⟩
      rw [dd_big (m := u) (by omega)]
  · rcases h3 with ⟨h3, _⟩ | ⟨h3, h4⟩
    · omega
    · refine ⟨by omega, by omega, ?_⟩
      by_cases hs : u < 10
      · left
        rw [← h4, dd_small hs, Nat.mod_eq_of_lt hs]
        exact ⟨by omega, rfl⟩
      · right
        refine ⟨by omega, ?_⟩
        rw [← h4, dd_big (m := u) (by omega), List.append_assoc]; rfl
theorem text_end {N u j : Nat} {acc : List UInt8} (hc : ¬ (j = 0 ∨ 0 < u)) (h : TextAt N u j acc) : acc = decDigits N := by
  rcases h with ⟨rfl, _, _⟩ | ⟨_, _, ⟨_, h⟩ | ⟨h, _⟩⟩
  · omega
  · exact h
  · omega
theorem text_bounds {N u j : Nat} {acc : List UInt8} (hN : N ≤ 9223372036854775808) (h : TextAt N u j acc) : acc.length ≤ 19 ∧ u ≤ N ∧ j ≤ 922337203685477581 := by
  have hl : (decDigits N).length ≤ 19 := dd_len 19 N (by omega) (by omega)
  rcases h with ⟨rfl, rfl, rfl⟩ | ⟨_, _, ⟨_, rfl⟩ | ⟨_, h⟩⟩
  · exact ⟨by simp, Nat.le_refl _, by omega⟩
  · exact ⟨hl, by omega, by omega⟩
  · rw [← h, List.length_append] at hl
    exact ⟨by omega, by omega, by omega⟩

def TextRel (N : Nat) (w0 : World) (k s i : Value) (wr : World) : Prop :=
  ∃ (u j : Nat) (acc : List UInt8), k = .int .u64 u ∧ s = .string ⟨acc.toArray⟩ ∧ i = .int .i64 j ∧ TextAt N u j acc ∧ Fr w0 wr
def tmeas (k i : Value) : Nat := (RowKit.intOf k).toNat + (1 - (RowKit.intOf i).toNat)

theorem conv1 (wr : World) (z : Int) (c : UInt8) (hz : z = (c.toNat : Int)) :
    (convert 34 9 (.slice (some ⟨wr.heap.size, 0, none⟩) 1 1)).run Tryd.prog (wr.alloc (.cells #[.int .u8 z] 5)) = .ok (.string ⟨#[c]⟩) (wr.alloc (.cells #[.int .u8 z] 5)) := by
  have h := run_convert_bytes_back (P := Tryd.prog) (wr.alloc (.cells #[.int .u8 z] 5)) 34 9 5 ⟨wr.heap.size, 0, none⟩ 1 [c] Tryd.underlying34 Tryd.underlying5 Tryd.underlying9 (fun j hj => by
    have hj0 : j = 0 := by simpa using hj
    subst hj0
    subst hz
    simp [Addr.add])
  exact h
theorem Fr.alloc {w0 w : World} (h : Fr w0 w) (o : Obj) : Fr w0 (w.alloc o) := h.step ((Below.refl _ _).alloc (Nat.le_refl _) _)
theorem add_lists (x y : List UInt8) : ((⟨x.toArray⟩ : ByteArray) ++ ⟨y.toArray⟩) = ⟨(x ++ y).toArray⟩ := by rw [ByteArray.mk_append_mk]
theorem ret_str {x y : ByteArray} (h : x = y) : Ending.returned (.string x) = Ending.returned (.string y) := by rw [h]

set_option maxHeartbeats 2000000 in
set_option maxRecDepth 100000 in
theorem rtext_pos (a : Int) (w0 w : World) (ha : I64 a) (hs : decide (a < 0) = false) (hfr : Fr w0 w) :
    Calls Tryd.prog 29 #[.int .i64 a] w fun e w' => e = .returned (.string ⟨(decDigits a.natAbs).toArray⟩) ∧ Fr w0 w' := by
  have hN : a.natAbs ≤ 9223372036854775808 := by unfold I64 at ha; omega
  go_enter Tryd.func29, Tryd.ntmps29
  go_wp2_with (go_at_call 34; ((with_reducible refine (size_any _ _ (by assumption)).mono ?_); rintro e w1 ⟨rfl, rfl⟩))
  go_loopw [3, 5, 6] (fun k s i wr => TextRel a.natAbs w0 k s i wr) (fun k _ i _ => tmeas k i)
  case atStart => exact ⟨a.natAbs, 0, [], rfl, rfl, rfl, Or.inl ⟨rfl, rfl, rfl⟩, hfr⟩
  case round =>
    obtain ⟨u, j, acc, rfl, rfl, rfl, hat, hf⟩ := hrel
    obtain ⟨hl, hu, hj⟩ := text_bounds hN hat
    have HAT := Lib.hid hat; clear hat
    have hu' : (u : Int) < 18446744073709551616 := by omega
    have hsz : (⟨acc.toArray⟩ : ByteArray).size ≤ 19 := by simpa [ByteArray.size] using hl
    by_cases hlt : j = 0 ∨ 0 < u
    · have hcv := conv1 wr (48 + (u : Int) % 10) (dig (u % 10)) (by rw [dig_toNat (Nat.mod_lt u (by omega))]; omega)
      have hend : TextRel a.natAbs w0 (.int .u64 ((u : Int) / 10)) (.string (⟨#[dig (u % 10)]⟩ ++ ⟨acc.toArray⟩)) (.int .i64 ((j : Int) + 1)) (wr.alloc (.cells #[.int .u8 (48 + (u : Int) % 10)] 5)) :=
        ⟨u / 10, j + 1, dig (u % 10) :: acc, by go_num, congrArg Value.string (add_lists [dig (u % 10)] acc), by go_num, text_step hlt HAT.out, hf.alloc _⟩
      have HE := Lib.hid hend; clear hend
      by_cases h0 : 0 < u
      · have g1 : (0 : Int) < (u : Int) := by omega
        by_cases j0 : j = 0
        · have g2 : ((j : Int) == 0) = true := beq_iff_eq.2 (by omega)
          have J0 := Lib.hid j0
          clear hlt j0
          go_wp2
          exact ⟨HE.out, by have j0 := J0.out; simp [tmeas, RowKit.intOf]; omega⟩
        · have g2 : ((j : Int) == 0) = false := beq_eq_false_iff_ne.2 (by omega)
          clear hlt
          go_wp2
          exact ⟨HE.out, by simp [tmeas, RowKit.intOf]; omega⟩
      · have j0 : j = 0 := by omega
        have g2 : ((j : Int) == 0) = true := beq_iff_eq.2 (by omega)
        have J0 := Lib.hid j0
        clear hlt j0
        go_wp2
        exact ⟨HE.out, by have j0 := J0.out; simp [tmeas, RowKit.intOf]; omega⟩
    · have g1 : decide ((0 : Int) < (u : Int)) = false := decide_eq_false (by omega)
      have g1' : decide (0 < u) = false := decide_eq_false (by omega)
      have g1'' : ¬ 0 < u := by omega
      have g2 : ((j : Int) == 0) = false := beq_eq_false_iff_ne.2 (by omega)
      have HC := Lib.hid hlt; clear hlt
      go_wp2
      go_ret
      exact ⟨ret_str (by rw [← text_end HC.out HAT.out]), hf⟩

set_option maxHeartbeats 2000000 in
set_option maxRecDepth 100000 in
theorem rtext_neg (a : Int) (w0 w : World) (ha : I64 a) (hs : decide (a < 0) = true) (hfr : Fr w0 w) :
    Calls Tryd.prog 29 #[.int .i64 a] w fun e w' => e = .returned (.string ⟨(45 :: decDigits a.natAbs).toArray⟩) ∧ Fr w0 w' := by
  have hN : a.natAbs ≤ 9223372036854775808 := by unfold I64 at ha; omega
  go_enter Tryd.func29, Tryd.ntmps29
  go_wp2_with (go_at_call 34; ((with_reducible refine (size_any _ _ (by assumption)).mono ?_); rintro e w1 ⟨rfl, rfl⟩))
  go_loopw [3, 5, 6] (fun k s i wr => TextRel a.natAbs w0 k s i wr) (fun k _ i _ => tmeas k i)
  case atStart => exact ⟨a.natAbs, 0, [], rfl, rfl, rfl, Or.inl ⟨rfl, rfl, rfl⟩, hfr⟩
  case round =>
    obtain ⟨u, j, acc, rfl, rfl, rfl, hat, hf⟩ := hrel
    obtain ⟨hl, hu, hj⟩ := text_bounds hN hat
    have HAT := Lib.hid hat; clear hat
    have hu' : (u : Int) < 18446744073709551616 := by omega
    have hsz : (⟨acc.toArray⟩ : ByteArray).size ≤ 19 := by simpa [ByteArray.size] using hl
    by_cases hlt : j = 0 ∨ 0 < u
    · have hcv := conv1 wr (48 + (u : Int) % 10) (dig (u % 10)) (by rw [dig_toNat (Nat.mod_lt u (by omega))]; omega)
      have hend : TextRel a.natAbs w0 (.int .u64 ((u : Int) / 10)) (.string (⟨#[dig (u % 10)]⟩ ++ ⟨acc.toArray⟩)) (.int .i64 ((j : Int) + 1)) (wr.alloc (.cells #[.int .u8 (48 + (u : Int) % 10)] 5)) :=
        ⟨u / 10, j + 1, dig (u % 10) :: acc, by go_num, congrArg Value.string (add_lists [dig (u % 10)] acc), by go_num, text_step hlt HAT.out, hf.alloc _⟩
      have HE := Lib.hid hend; clear hend
      by_cases h0 : 0 < u
      · have g1 : (0 : Int) < (u : Int) := by omega
        by_cases j0 : j = 0
        · have g2 : ((j : Int) == 0) = true := beq_iff_eq.2 (by omega)
          have J0 := Lib.hid j0
          clear hlt j0
          go_wp2
          exact ⟨HE.out, by have j0 := J0.out; simp [tmeas, RowKit.intOf]; omega⟩
        · have g2 : ((j : Int) == 0) = false := beq_eq_false_iff_ne.2 (by omega)
          clear hlt
          go_wp2
          exact ⟨HE.out, by simp [tmeas, RowKit.intOf]; omega⟩
      · have j0 : j = 0 := by omega
        have g2 : ((j : Int) == 0) = true := beq_iff_eq.2 (by omega)
        have J0 := Lib.hid j0
        clear hlt j0
        go_wp2
        exact ⟨HE.out, by have j0 := J0.out; simp [tmeas, RowKit.intOf]; omega⟩
    · have g1 : decide ((0 : Int) < (u : Int)) = false := decide_eq_false (by omega)
      have g1' : decide (0 < u) = false := decide_eq_false (by omega)
      have g1'' : ¬ 0 < u := by omega
      have g2 : ((j : Int) == 0) = false := beq_eq_false_iff_ne.2 (by omega)
      have HC := Lib.hid hlt; clear hlt
      go_wp2
      go_ret
      exact ⟨ret_str (by rw [← text_end HC.out HAT.out]; exact add_lists [45] acc), hf⟩

/-- The document's own Text, from w0. -/
theorem rtext_fr (w0 : World) (a : Int) (w : World) (ha : I64 a) (hfr : Fr w0 w) :
    Calls Tryd.prog 29 #[.int .i64 a] w fun e w' => e = .returned (.string ⟨(Lib.itoa a).toArray⟩) ∧ Fr w0 w' := by
  by_cases h : a < 0
  · have e : Lib.itoa a = 45 :: decDigits a.natAbs := by unfold Lib.itoa; rw [if_pos h]
    rw [e]
    exact rtext_neg a w0 w ha (decide_eq_true h) hfr
  · have e : Lib.itoa a = decDigits a.natAbs := by unfold Lib.itoa; rw [if_neg h, show a.toNat = a.natAbs by omega]
    rw [e]
    exact rtext_pos a w0 w ha (decide_eq_false h) hfr

end Go.Proofs.YtnlljcbpjhhloaaDoor
