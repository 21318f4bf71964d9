/-
  The document's own Digits (package evenhandref08).
-/
import Derived.Test.YtloimjmbbinnpaaDoorCoE
namespace Go.Proofs.YtloimjmbbinnpaaDoor
open Go Go.RowKit Go.Lib

def dig (d : Nat) : UInt8 := UInt8.ofNat (48 + d)
theorem dig_toNat {d : Nat} (h : d < 10) : (dig d).toNat = 48 + d := by
  unfold dig; rw [UInt8.toNat_ofNat']; omega
theorem dd_small {m : Nat} (h : m < 10) : decDigits m = [dig m] := by rw [decDigits, dif_pos h]; rfl
theorem dd_big {m : Nat} (h : 10 ≤ m) : decDigits m = decDigits (m / 10) ++ [dig (m % 10)] := by rw [decDigits, dif_neg (by omega)]; rfl
theorem itoa_nat (m : Nat) : itoa (m : Int) = decDigits m := by unfold itoa; rw [if_neg (by omega)]; rfl
theorem itoa_neg {m : Nat} (h : 0 < m) : itoa (-(m : Int)) = 45 :: decDigits m := by unfold itoa; rw [if_pos (by omega)]; simp
theorem conv1 (wr : World) (z : Int) (c : UInt8) (hz : z = (c.toNat : Int)) :
    (convert 43 9 (.slice (some ⟨wr.heap.size, 0, none⟩) 1 1)).run Tryd.prog (wr.alloc (.cells #[.int .u8 z] 5)) = .ok (.string ⟨#[c]⟩) (wr.alloc (.cells #[.int .u8 z] 5)) := by
  have h := run_convert_bytes_back (P := Tryd.prog) (wr.alloc (.cells #[.int .u8 z] 5)) 43 9 5 ⟨wr.heap.size, 0, none⟩ 1 [c] Tryd.underlying43 Tryd.underlying5 Tryd.underlying9 (fun j hj => by
    have hj0 : j = 0 := by simpa using hj
    subst hj0
    subst hz
    simp [Addr.add])
  exact h
theorem add_lists (x y : List UInt8) : ((⟨x.toArray⟩ : ByteArray) ++ ⟨y.toArray⟩) = ⟨(x ++ y).toArray⟩ := by rw [ByteArray.mk_append_mk]
theorem ret_str {x y : ByteArray} (h : x = y) : Ending.returned (.string x) = Ending.returned (.string y) := by rw [h]

set_option maxHeartbeats 2000000 in
set_option maxRecDepth 100000 in
theorem digits_nat (K : Nat) : ∀ (m : Nat) (w : World), m < K → m ≤ 9223372036854775807 →
    Calls Tryd.prog 18 #[.int .i64 m] w fun e w' => e = .returned (.string ⟨(itoa (m : Int)).toArray⟩) ∧ Below w.heap.size w w' := by
  induction K with
  | zero => intro m w h; omega
  | succ K ih =>
    intro m w hm hM
    rw [itoa_nat]
    have hd : m % 10 < 10 := Nat.mod_lt _ (by decide)
    have hcv := conv1 w (48 + (m : Int) % 10) (dig (m % 10)) (by rw [dig_toNat hd]; omega)
    have g0 : decide ((m : Int) < 0) = false := decide_eq_false (by omega)
    by_cases h10 : m < 10
    · have g1 : decide ((m : Int) < 10) = true := decide_eq_true (by omega)
      have e : m % 10 = m := Nat.mod_eq_of_lt h10
      have E := Lib.hid e; clear e
      go_enter Tryd.func18, Tryd.ntmps18
      go_wp2
      go_ret
      exact ⟨by
        rw [dd_small h10, ← E.out]
        have := E.out
        simp [this], (Below.refl _ _).alloc (Nat.le_refl _) _⟩
    · have g1 : decide ((m : Int) < 10) = false := decide_eq_false (by omega)
      have hq := ih (m / 10) (w.alloc (.cells #[.int .u8 (48 + (m : Int) % 10)] 5)) (by omega) (by omega)
      have hi := itoa_len (n := ((m / 10 : Nat) : Int)) ⟨by omega, by omega⟩
      rw [dd_big (m := m) (by omega), ← itoa_nat (m / 10)]
      have hcast : ((m / 10 : Nat) : Int) = (m : Int) / 10 := by omega
      rw [hcast] at hq hi ⊢
      obtain ⟨T, hT⟩ : ∃ T, itoa ((m : Int) / 10) = T := ⟨_, rfl⟩
      rw [hT] at hq hi ⊢
      have hs : (⟨T.toArray⟩ : ByteArray).size = T.length := rfl
      go_enter Tryd.func18, Tryd.ntmps18
      go_wp2_with (go_at_call 18; ((with_reducible refine hq.mono ?_); clear hq; rintro e w2 ⟨rfl, h2⟩))
      go_ret
      exact ⟨ret_str (by rw [← add_lists]), ((Below.refl _ _).alloc (Nat.le_refl _) _).trans (h2.mono (by simp))⟩

set_option maxHeartbeats 2000000 in
set_option maxRecDepth 100000 in
theorem digits_neg (K : Nat) : ∀ (m : Nat) (w : World), m < K → 0 < m → m ≤ 9223372036854775808 →
    Calls Tryd.prog 18 #[.int .i64 (-(m : Int))] w fun e w' => e = .returned (.string ⟨(itoa (-(m : Int))).toArray⟩) ∧ Below w.heap.size w w' := by
  induction K with
  | zero => intro m w h; omega
  | succ K ih =>
    intro m w hm h0 hM
    rw [itoa_neg h0]
    have hd : m % 10 < 10 := Nat.mod_lt _ (by decide)
    have hz : (-(m : Int)).tmod 10 = -((m : Int) % 10) := by rw [Int.neg_tmod, Int.tmod_eq_emod_of_nonneg (by omega)]
    have hcv := conv1 w (48 + (m : Int) % 10) (dig (m % 10)) (by rw [dig_toNat hd]; omega)
    have g0 : decide (-(m : Int) < 0) = true := decide_eq_true (by omega)
    by_cases h10 : m < 10
    · have g1 : decide ((m : Int) < 10) = true := decide_eq_true (by omega)
      have e : m % 10 = m := Nat.mod_eq_of_lt h10
      have E := Lib.hid e; clear e
      go_enter Tryd.func18, Tryd.ntmps18
      go_wp2
      go_ret
      exact ⟨ret_str (by rw [dd_small h10, E.out]; rfl), (Below.refl _ _).alloc (Nat.le_refl _) _⟩
    · have g1 : decide ((m : Int) < 10) = false := decide_eq_false (by omega)
      have hq := ih (m / 10) (w.alloc (.cells #[.int .u8 (48 + (m : Int) % 10)] 5)) (by omega) (by omega) (by omega)
      have hi := itoa_len (n := -((m / 10 : Nat) : Int)) ⟨by omega, by omega⟩
      rw [dd_big (m := m) (by omega), ← List.cons_append, ← itoa_neg (m := m / 10) (by omega)]
      have hcast : ((m / 10 : Nat) : Int) = (m : Int) / 10 := by omega
      have hdv : (-(m : Int)).tdiv 10 = -((m : Int) / 10) := by rw [Int.neg_tdiv, Int.tdiv_eq_ediv_of_nonneg (by omega)]
      rw [hcast] at hq hi ⊢
      obtain ⟨T, hT⟩ : ∃ T, itoa (-((m : Int) / 10)) = T := ⟨_, rfl⟩
      rw [hT] at hq hi ⊢
      have hs : (⟨T.toArray⟩ : ByteArray).size = T.length := rfl
      go_enter Tryd.func18, Tryd.ntmps18
      go_wp2_with (go_at_call 18; ((with_reducible refine hq.mono ?_); clear hq; rintro e w2 ⟨rfl, h2⟩))
      go_ret
      exact ⟨ret_str (by rw [← add_lists]), ((Below.refl _ _).alloc (Nat.le_refl _) _).trans (h2.mono (by simp))⟩

theorem digits_any (n : Int) (w : World) (h : I64 n) :
    Calls Tryd.prog 18 #[.int .i64 n] w fun e w' => e = .returned (.string ⟨(itoa n).toArray⟩) ∧ Below w.heap.size w w' := by
  by_cases h0 : 0 ≤ n
  · obtain ⟨m, rfl⟩ := Int.eq_ofNat_of_zero_le h0
    exact digits_nat (m + 1) m w (by omega) (by have := h.2; omega)
  · obtain ⟨m, hm⟩ := Int.eq_ofNat_of_zero_le (show 0 ≤ -n by omega)
    obtain rfl : n = -(m : Int) := by omega
    exact digits_neg (m + 1) m w (by omega) (by omega) (by have := h.1; omega)
end Go.Proofs.YtloimjmbbinnpaaDoor
