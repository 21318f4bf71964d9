/-
  The contract of the document's own Parse (package evenhandref01): it tells what 'parseL' tells.
-/
import Derived.Test.YtnlljcbpjhhloaaDoorRefText
namespace Go.Proofs.YtnlljcbpjhhloaaDoor
open Go Go.RowKit Go.Lib

/-- So far all are digits, and this is their number. -/
def RAt (l : List UInt8) (k : Nat) (n : Int) : Prop := (∀ c ∈ l.take k, 48 ≤ c.toNat ∧ c.toNat ≤ 57) ∧ n = ((dval (l.take k) 0 : Nat) : Int)
theorem ra_start (l : List UInt8) : RAt l 0 0 := ⟨fun c hc => by simp at hc, rfl⟩
theorem ra_bounds {l : List UInt8} {k : Nat} {n : Int} (h : RAt l k n) : 0 ≤ n ∧ (k ≤ 18 → n < 1000000000000000000) ∧ (k ≤ 19 → n < 10000000000000000000) := by
  obtain ⟨h1, h2⟩ := h
  have h3 := dval_lt (l.take k) 0 0 h1 (by decide)
  rw [Nat.zero_add] at h3
  have h4 : (l.take k).length ≤ k := List.length_take_le _ _
  refine ⟨by omega, fun hk => ?_, fun hk => ?_⟩
  · have : (10 : Nat) ^ (l.take k).length ≤ 10 ^ 18 := Nat.pow_le_pow_right (by decide) (by omega)
    omega
  · have : (10 : Nat) ^ (l.take k).length ≤ 10 ^ 19 := Nat.pow_le_pow_right (by decide) (by omega)
    omega
theorem take_at (s : ByteArray) (k : Nat) (h : k < s.size) : s.data.toList.take (k + 1) = s.data.toList.take k ++ [s[k]] := by
  rw [List.take_succ_eq_append_getElem (by simpa using h)]; rfl
theorem ra_step {s : ByteArray} {k : Nat} {n c : Int} (hk : k < s.size) (hc : c = ((s[k]'hk).toNat : Int)) (h1 : 48 ≤ c) (h2 : c ≤ 57) (h : RAt s.data.toList k n) : RAt s.data.toList (k + 1) (10 * n + (c - 48)) := by
  obtain ⟨h3, h4⟩ := h
  rw [RAt, take_at s k hk]
  refine ⟨fun x hx => ?_, ?_⟩
  · rw [List.mem_append] at hx
    rcases hx with hx | hx
    · exact h3 x hx
    · have : x = s[k] := by simpa using hx
      subst this
      omega
  · rw [dval_snoc]; omega
theorem ra_bad {s : ByteArray} {k : Nat} {c : Int} (hk : k < s.size) (hc : c = ((s[k]'hk).toNat : Int)) (h : c < 48 ∨ 57 < c) : parseL s.data.toList = none :=
  parse_none_of fun m _ e => by
    have hm : s[k] ∈ s.data.toList := by
      have : s.data.toList[k]'(by simpa using hk) = s[k] := rfl
      rw [← this]
      exact List.getElem_mem _
    rw [e] at hm
    have := dd_digits m m (Nat.le_refl _) _ hm
    omega
/-- Whoever is a number is wholly looked at. -/
theorem ra_whole {l : List UInt8} {k m : Nat} {n : Int} (hk : l.length ≤ k ∨ 19 ≤ k) (hm : m ≤ 9223372036854775807) (e : l = decDigits m) (h : RAt l k n) : n = m := by
  have hl : l.length ≤ 19 := by rw [e]; exact dd_19 hm
  have ht : l.take k = l := List.take_of_length_le (by omega)
  rw [h.2, ht, e, dval_dd m m (Nat.le_refl _)]
theorem ra_big {l : List UInt8} {k : Nat} {n : Int} (hk : l.length ≤ k ∨ 19 ≤ k) (h : RAt l k n) (hn : 9223372036854775808 ≤ n) : parseL l = none :=
  parse_none_of fun m hm e => by
    have := ra_whole hk hm e h
    omega
theorem itoa_pos {n : Int} (h : 0 ≤ n) : Lib.itoa n = decDigits n.toNat := by unfold Lib.itoa; rw [if_neg (by omega)]
theorem ra_other {l : List UInt8} {k : Nat} {n : Int} (hk : l.length ≤ k ∨ 19 ≤ k) (h : RAt l k n) (hn : Lib.itoa n ≠ l) : parseL l = none :=
  parse_none_of fun m hm e => by
    have := ra_whole hk hm e h
    subst this
    apply hn
    rw [itoa_pos (by omega), Int.toNat_natCast, e]
theorem ra_same {l : List UInt8} {n : Int} (h0 : 0 ≤ n) (h1 : n ≤ 9223372036854775807) (e : Lib.itoa n = l) : parseL l = some n := by
  rw [← e, itoa_pos h0, parse_dd _ (by omega)]
  congr 1; omega

def RRel (s : ByteArray) (v i : Value) : Prop := ∃ (k : Nat) (n : Int), v = .int .u64 n ∧ i = .int .i64 k ∧ k ≤ s.size ∧ k ≤ 19 ∧ RAt s.data.toList k n

set_option maxHeartbeats 2000000 in
set_option maxRecDepth 100000 in
theorem rparse_fr (w0 : World) (s : ByteArray) (w : World) (hs : s.size ≤ 9223372036854775807) (hfr : Fr w0 w) :
    Calls Tryd.prog 28 #[.string s] w fun e w' => e = told (parseL s.data.toList) ∧ Fr w0 w' := by
  have hlen : s.data.toList.length = s.size := rfl
  have HL := Lib.hid hlen; clear hlen
  go_enter Tryd.func28, Tryd.ntmps28
  go_wp2
  go_loop [4, 5] (fun v i => RRel s v i) (fun _ i => s.size - (RowKit.intOf i).toNat)
  case atStart => exact ⟨0, 0, rfl, rfl, by omega, by omega, ra_start _⟩
  case round =>
    obtain ⟨k, n, rfl, rfl, hk1, hk2, hat⟩ := hrel
    obtain ⟨n0, n1, n2⟩ := ra_bounds hat
    have n3 : n < 10000000000000000000 := n2 hk2
    have HAT := Lib.hid hat; clear hat n2
    by_cases hlt : k < s.size ∧ k < 19
    · obtain ⟨l1, l2⟩ := hlt
      have n4 : n < 1000000000000000000 := n1 (by omega)
      clear n1 n3
      by_cases hc : 48 ≤ (s[k].toNat : Int) ∧ (s[k].toNat : Int) ≤ 57
      · obtain ⟨c1, c2⟩ := hc
        have hend := ra_step l1 rfl c1 c2 HAT.out
        have HE := Lib.hid hend; clear hend
        go_wp2
        exact ⟨⟨k + 1, _, rfl, by go_num, by omega, by omega, HE.out⟩, by simp [RowKit.intOf]; omega⟩
      · have HB := Lib.hid (ra_bad l1 rfl (show ((s[k]'l1).toNat : Int) < 48 ∨ 57 < ((s[k]'l1).toNat : Int) by omega))
        go_wp2
        all_goals
          go_ret2
          exact ⟨by rw [HB.out]; rfl, hfr⟩
    · clear n1
      have HW : s.data.toList.length ≤ k ∨ 19 ≤ k := by rw [HL.out]; omega
      have HK := Lib.hid HW; clear HW
      by_cases hbig : 9223372036854775808 ≤ n
      · have HB := Lib.hid (ra_big HK.out HAT.out hbig)
        by_cases l1 : k < s.size
        · have l2 : ¬ k < 19 := by omega
          clear hlt
          go_wp2
          go_ret2
          exact ⟨by rw [HB.out]; rfl, hfr⟩
        · clear hlt
          go_wp2
          go_ret2
          exact ⟨by rw [HB.out]; rfl, hfr⟩
      · have b1 : n ≤ 9223372036854775807 := by omega
        have b2 : n < 9223372036854775808 := by omega
        have hn64 : I64 n := ⟨by omega, by omega⟩
        by_cases hsame : Lib.itoa n = s.data.toList
        · have HB := Lib.hid (ra_same n0 b1 hsame)
          have q1 : (Lib.itoa n != s.toList) = false := bne_eq_false_iff_eq.2 (by rw [ByteArray.toList_eq]; exact hsame)
          have q2 : (Lib.itoa n == s.toList) = true := beq_iff_eq.2 (by rw [ByteArray.toList_eq]; exact hsame)
          clear hsame
          by_cases l1 : k < s.size
          · have l2 : ¬ k < 19 := by omega
            clear hlt hbig
            go_wp2_with (go_at_call 29; ((with_reducible refine (rtext_fr w0 n _ hn64 hfr).mono ?_); rintro e w1 ⟨rfl, h1⟩))
            go_ret2
            exact ⟨by rw [HB.out]; rfl, h1⟩
          · clear hlt hbig
            go_wp2_with (go_at_call 29; ((with_reducible refine (rtext_fr w0 n _ hn64 hfr).mono ?_); rintro e w1 ⟨rfl, h1⟩))
            go_ret2
            exact ⟨by rw [HB.out]; rfl, h1⟩
        · have HB := Lib.hid (ra_other HK.out HAT.out hsame)
          have q1 : (Lib.itoa n != s.toList) = true := bne_iff_ne.2 (by rw [ByteArray.toList_eq]; exact hsame)
          have q2 : (Lib.itoa n == s.toList) = false := beq_eq_false_iff_ne.2 (by rw [ByteArray.toList_eq]; exact hsame)
          clear hsame
          by_cases l1 : k < s.size
          · have l2 : ¬ k < 19 := by omega
            clear hlt hbig
            go_wp2_with (go_at_call 29; ((with_reducible refine (rtext_fr w0 n _ hn64 hfr).mono ?_); rintro e w1 ⟨rfl, h1⟩))
            go_ret2
            exact ⟨by rw [HB.out]; rfl, h1⟩
          · clear hlt hbig
            go_wp2_with (go_at_call 29; ((with_reducible refine (rtext_fr w0 n _ hn64 hfr).mono ?_); rintro e w1 ⟨rfl, h1⟩))
            go_ret2
            exact ⟨by rw [HB.out]; rfl, h1⟩
end Go.Proofs.YtnlljcbpjhhloaaDoor
