/-
  Plain facts on decimal texts: Parse tells a number just of that number's own digits. No program is named here.
-/
import Derived.Test.YtnlljcbpjhhloaaDoorPlain
import Derived.Lib.ItoaLen
namespace Go.Proofs.YtnlljcbpjhhloaaDoor
open Go Go.Lib

/-- A digit's byte. -/
def dig (d : Nat) : UInt8 := UInt8.ofNat (48 + d)
theorem dig_toNat {d : Nat} (h : d < 10) : (dig d).toNat = 48 + d := by
  unfold dig; rw [UInt8.toNat_ofNat']; exact Nat.mod_eq_of_lt (by omega)
theorem dig_of {c : UInt8} (h1 : 48 ≤ c.toNat) : c = dig (c.toNat - 48) := by
  apply UInt8.toNat_inj.1
  unfold dig
  have := c.toNat_lt
  rw [UInt8.toNat_ofNat', Nat.mod_eq_of_lt (by omega)]; omega

theorem dd_small {m : Nat} (h : m < 10) : decDigits m = [dig m] := by rw [decDigits, dif_pos h]; rfl
theorem dd_big {m : Nat} (h : 10 ≤ m) : decDigits m = decDigits (m / 10) ++ [dig (m % 10)] := by rw [decDigits, dif_neg (by omega)]; rfl
theorem dd_push {m d : Nat} (h : 1 ≤ m) (hd : d < 10) : decDigits (m * 10 + d) = decDigits m ++ [dig d] := by
  rw [dd_big (by omega), show (m * 10 + d) / 10 = m by omega, show (m * 10 + d) % 10 = d by omega]
theorem dd_ne (m : Nat) : decDigits m ≠ [] := by
  by_cases h : m < 10
  · rw [dd_small h]; simp
  · rw [dd_big (by omega)]; simp
theorem dd_head : ∀ (n m : Nat), m ≤ n → 1 ≤ m → (decDigits m).head? ≠ some 48
  | 0, m, h1, h2 => by omega
  | n + 1, m, h1, h2 => by
    by_cases h : m < 10
    · rw [dd_small h]
      intro e
      have e' : dig m = 48 := by simpa using e
      have := dig_toNat h
      rw [e'] at this
      have e48 : (48 : UInt8).toNat = 48 := rfl
      omega
    · have ih := dd_head n (m / 10) (by omega) (by omega)
      rw [dd_big (by omega)]
      cases e : decDigits (m / 10) with
      | nil => exact absurd e (dd_ne _)
      | cons x xs => rw [e] at ih; exact ih

theorem pgo_snoc : ∀ (l : List UInt8) (n : Int) (c : UInt8), pgo n (l ++ [c]) = (pgo n l).bind fun k => pgo k [c]
  | [], n, c => rfl
  | x :: l, n, c => by
    rw [List.cons_append, pgo_cons, pgo_cons]
    split
    · exact pgo_snoc l _ c
    · rfl

theorem pgo_dd : ∀ (n m : Nat), m ≤ n → m ≤ 9223372036854775807 → pgo 0 (decDigits m) = some (m : Int)
  | 0, m, h, _ => by
    have : m = 0 := by omega
    subst this
    rw [dd_small (by omega)]
    rfl
  | n + 1, m, h, hm => by
    by_cases hs : m < 10
    · rw [dd_small hs, pgo_cons, dig_toNat hs, if_pos (by omega)]
      unfold pgo
      congr 1; omega
    · rw [dd_big (by omega), pgo_snoc, pgo_dd n (m / 10) (by omega) (by omega)]
      show pgo _ [_] = _
      rw [pgo_cons, dig_toNat (Nat.mod_lt m (by omega)), if_pos (by omega)]
      unfold pgo
      congr 1; omega

/-- What Parse tells of a number's own digits. -/
theorem parse_dd (m : Nat) (hm : m ≤ 9223372036854775807) : parseL (decDigits m) = some (m : Int) := by
  unfold parseL
  rw [if_neg, pgo_dd m m (Nat.le_refl _) hm]
  rintro (h | ⟨h1, h2⟩)
  · exact dd_ne m h
  · by_cases h0 : m = 0
    · subst h0
      rw [dd_small (by omega)] at h1
      simp at h1
    · exact dd_head m m (Nat.le_refl _) (by omega) h2

theorem pgo_back : ∀ (l : List UInt8) (n : Nat) (v : Int), 1 ≤ n → pgo n l = some v → 0 ≤ v ∧ decDigits v.toNat = decDigits n ++ l
  | [], n, v, h, e => by
    have : (n : Int) = v := by simpa [pgo] using e
    subst this
    exact ⟨by omega, by simp⟩
  | c :: l, n, v, h, e => by
    rw [pgo_cons] at e
    split at e
    · rename_i hc
      have e2 : ((n : Int) * 10 + ((c.toNat : Int) - 48)) = ((n * 10 + (c.toNat - 48) : Nat) : Int) := by omega
      rw [e2] at e
      obtain ⟨h1, h2⟩ := pgo_back l (n * 10 + (c.toNat - 48)) v (by omega) e
      refine ⟨h1, ?_⟩
      rw [h2, dd_push h (by omega), List.append_assoc]
      congr 1
      have := dig_of (c := c) (by omega)
      rw [← this]; rfl
    · cases e

/-- What Parse tells is a number whose digits the text is. -/
theorem parse_back {l : List UInt8} {v : Int} (h : parseL l = some v) : 0 ≤ v ∧ v ≤ 9223372036854775807 ∧ l = decDigits v.toNat := by
  have hb := parseL_bounds h
  refine ⟨hb.1, hb.2, ?_⟩
  unfold parseL at h
  split at h
  · cases h
  · rename_i hn
    cases l with
    | nil => exact absurd (Or.inl rfl) hn
    | cons c l =>
      have h' := h
      rw [pgo_cons] at h
      split at h
      · rename_i hc
        by_cases h48 : c.toNat = 48
        · have hc48 : c = 48 := UInt8.toNat_inj.1 h48
          have hl : l = [] := by
            cases l with
            | nil => rfl
            | cons x l => exact absurd (Or.inr ⟨by simp, by rw [hc48]; rfl⟩) hn
          subst hl hc48
          have : v = 0 := by simpa [pgo] using h.symm
          subst this
          rw [dd_small (by decide)]
          rfl
        · have e2 : ((0 : Int) * 10 + ((c.toNat : Int) - 48)) = ((c.toNat - 48 : Nat) : Int) := by omega
          rw [e2] at h
          have := (pgo_back l (c.toNat - 48) v (by omega) h).2
          rw [this, dd_small (by omega), ← dig_of (by omega)]; rfl
      · cases h

theorem dd_len : ∀ (k m : Nat), 1 ≤ k → m < 10 ^ k → (decDigits m).length ≤ k
  | 0, m, h, _ => by omega
  | k + 1, m, _, h => by
    by_cases hs : m < 10
    · rw [dd_small hs]; simp
    · rw [dd_big (by omega), List.length_append]
      rw [Nat.pow_succ] at h
      have hk : 1 ≤ k := by
        cases k with
        | zero => omega
        | succ k => omega
      have := dd_len k (m / 10) hk (by omega)
      simp; omega
theorem dd_digits : ∀ (n m : Nat), m ≤ n → ∀ c ∈ decDigits m, 48 ≤ c.toNat ∧ c.toNat ≤ 57
  | 0, m, h, c, hc => by
    have : m = 0 := by omega
    subst this
    rw [dd_small (by omega)] at hc
    have : c = dig 0 := by simpa using hc
    rw [this, dig_toNat (by omega)]; omega
  | n + 1, m, h, c, hc => by
    by_cases hs : m < 10
    · rw [dd_small hs] at hc
      have : c = dig m := by simpa using hc
      rw [this, dig_toNat hs]; omega
    · rw [dd_big (by omega), List.mem_append] at hc
      rcases hc with hc | hc
      · exact dd_digits n (m / 10) (by omega) c hc
      · have : c = dig (m % 10) := by simpa using hc
        have hl := Nat.mod_lt m (show 10 > 0 by omega)
        rw [this, dig_toNat hl]; omega

/- Digits as a number, whatever they are. -/
def dval : List UInt8 → Nat → Nat
  | [], n => n
  | c :: l, n => dval l (10 * n + (c.toNat - 48))
theorem dval_snoc : ∀ (l : List UInt8) (n : Nat) (c : UInt8), dval (l ++ [c]) n = 10 * dval l n + (c.toNat - 48)
  | [], n, c => rfl
  | x :: l, n, c => by rw [List.cons_append]; exact dval_snoc l _ c
theorem dval_dd : ∀ (n m : Nat), m ≤ n → dval (decDigits m) 0 = m
  | 0, m, h => by
    have : m = 0 := by omega
    subst this
    rw [dd_small (by omega)]
    rfl
  | n + 1, m, h => by
    by_cases hs : m < 10
    · rw [dd_small hs]
      show 10 * 0 + ((dig m).toNat - 48) = m
      rw [dig_toNat hs]; omega
    · rw [dd_big (by omega), dval_snoc, dval_dd n (m / 10) (by omega), dig_toNat (Nat.mod_lt m (by omega))]; omega
theorem dval_lt : ∀ (l : List UInt8) (n k : Nat), (∀ c ∈ l, 48 ≤ c.toNat ∧ c.toNat ≤ 57) → n < 10 ^ k → dval l n < 10 ^ (k + l.length)
  | [], n, k, _, h => h
  | c :: l, n, k, hd, h => by
    have hc := hd c (by simp)
    have := dval_lt l (10 * n + (c.toNat - 48)) (k + 1) (fun x hx => hd x (by simp [hx])) (by rw [Nat.pow_succ]; omega)
    rw [List.length_cons, show k + (l.length + 1) = k + 1 + l.length by omega]
    exact this

/-- Beyond what the document's own Parse looks at, nothing is a number. -/
theorem parse_none_of {l : List UInt8} (h : ∀ m : Nat, m ≤ 9223372036854775807 → l ≠ decDigits m) : parseL l = none := by
  cases e : parseL l with
  | none => rfl
  | some v =>
    obtain ⟨h0, h1, h2⟩ := parse_back e
    exact absurd h2 (h v.toNat (by omega))
theorem dd_19 {m : Nat} (h : m ≤ 9223372036854775807) : (decDigits m).length ≤ 19 := dd_len 19 m (by omega) (by omega)

end Go.Proofs.YtnlljcbpjhhloaaDoor
