/-
  What parse tells of the tokens of a right expression: every one. Plain.
-/
import Derived.Test.YtppagjhmlgkamaaGreatDoorCq5
import Derived.Test.YtppagjhmlgkamaaGreatDoorCbEm
namespace Go.Proofs.YtppagjhmlgkamaaGreatDoor
open Go Go.RowKit Go.Lib

def dig (d : Nat) : UInt8 := UInt8.ofNat (48 + d)
theorem dig_toNat {d : Nat} (h : d < 10) : (dig d).toNat = 48 + d := by
  unfold dig; rw [UInt8.toNat_ofNat']; exact Nat.mod_eq_of_lt (by omega)
theorem dd_small {m : Nat} (h : m < 10) : decDigits m = [dig m] := by rw [decDigits, dif_pos h]; rfl
theorem dd_big {m : Nat} (h : 10 ≤ m) : decDigits m = decDigits (m / 10) ++ [dig (m % 10)] := by rw [decDigits, dif_neg (by omega)]; rfl
theorem dd_ne (m : Nat) : decDigits m ≠ [] := by
  by_cases h : m < 10
  · rw [dd_small h]; simp
  · rw [dd_big (by omega)]; simp
theorem dd_head : ∀ (n m : Nat), m ≤ n → 1 ≤ m → (decDigits m).head? ≠ some 48
  | 0, m, h1, h2 => by omega
  | n + 1, m, h1, h2 => by
    by_cases h : m < 10
    · rw [dd_small h]
      intro e
      have e' : dig m = 48 := by simpa using e
      have := dig_toNat h
      rw [e'] at this
      have e48 : (48 : UInt8).toNat = 48 := rfl
      omega
    · have ih := dd_head n (m / 10) (by omega) (by omega)
      rw [dd_big (by omega)]
      cases e : decDigits (m / 10) with
      | nil => exact absurd e (dd_ne _)
      | cons x xs => rw [e] at ih; exact ih
theorem pgo_snoc : ∀ (l : List UInt8) (n : Int) (c : UInt8), pgo n (l ++ [c]) = (pgo n l).bind fun k => pgo k [c]
  | [], n, c => rfl
  | x :: l, n, c => by
    rw [List.cons_append, pgo_cons, pgo_cons]
    split
    · exact pgo_snoc l _ c
    · rfl
theorem pgo_dd : ∀ (n m : Nat), m ≤ n → m ≤ 9223372036854775807 → pgo 0 (decDigits m) = some (m : Int)
  | 0, m, h, _ => by
    have : m = 0 := by omega
    subst this
    rw [dd_small (by omega)]
    rfl
  | n + 1, m, h, hm => by
    by_cases hs : m < 10
    · rw [dd_small hs, pgo_cons, dig_toNat hs, if_pos (by omega)]
      unfold pgo
      congr 1; omega
    · rw [dd_big (by omega), pgo_snoc, pgo_dd n (m / 10) (by omega) (by omega)]
      show pgo _ [_] = _
      rw [pgo_cons, dig_toNat (Nat.mod_lt m (by omega)), if_pos (by omega)]
      unfold pgo
      congr 1; omega
theorem parse_dd (m : Nat) (hm : m ≤ 9223372036854775807) : parseL (decDigits m) = some (m : Int) := by
  unfold parseL
  rw [if_neg, pgo_dd m m (Nat.le_refl _) hm]
  rintro (h | ⟨h1, h2⟩)
  · exact dd_ne m h
  · by_cases h0 : m = 0
    · subst h0
      rw [dd_small (by omega)] at h1
      simp at h1
    · exact dd_head m m (Nat.le_refl _) (by omega) h2
theorem parse_itoa {n : Int} (h0 : 0 ≤ n) (h1 : n ≤ 9223372036854775807) : parseL (itoa n) = some n := by
  have e : itoa n = decDigits n.toNat := by unfold itoa; rw [if_neg (by omega)]
  rw [e, parse_dd _ (by omega)]
  congr 1
  omega

theorem sok_step {op n : Int} {s : ByteArray} {l : ES} (h : fitP ⟨false, op, s, n, l, .nil, .nil⟩ = true) (hok : l.ok = true) (hl : l.sok) : SOK ⟨op, n, s, l⟩ (exK op n s.data.toList l.tks) (1 + l.dn) := by
  obtain ⟨m, rfl, h1, h16, hn, hlo, hhi, hle, hmo⟩ := fit_in h
  by_cases h8 : 8 ≤ m
  · have two : ∀ m : Fin 17, 8 ≤ m.val → (exprT.getD m.val sh0).name = false ∧ (exprT.getD m.val sh0).low = 0 ∧ (exprT.getD m.val sh0).high = 0 ∧ (exprT.getD m.val sh0).least = 2 ∧ (exprT.getD m.val sh0).most = 2 := by decide
    obtain ⟨t1, t2, t3, t4, t5⟩ := two ⟨m, by omega⟩ h8
    simp only at t1 t2 t3 t4 t5
    rw [t1] at hn
    rw [t2] at hlo
    rw [t3] at hhi
    rw [t4] at hle
    rw [t5] at hmo
    obtain rfl := named_nil hn
    obtain rfl : n = 0 := by omega
    obtain ⟨a, b, c, d, a', b', c', d', rfl⟩ := es_two hle hmo
    obtain ⟨s1, s2, _⟩ := hl
    rw [exK_two (by omega)]
    have := pair_ok s1 s2 m h8 h16 (1 + (ES.cons a b c d (.cons a' b' c' d' .nil)).dn) (by simp only [ES.dn]; omega) (by simp only [ES.dn]; omega)
    simpa [ES.tks, gapK, restK, toES] using this
  · match m, h1, h8, hn, hlo, hhi, hle, hmo with
    | 1, _, _, hn, hlo, hhi, _, hmo =>
      obtain rfl := named_nil hn
      obtain rfl := es_nil hmo
      refine ⟨1, fun n' q o te X _ hq _ ht _ => ?_⟩
      obtain ⟨t, y, rfl, hk, htx, hy⟩ := kts_cons (show kts te = (2, itoa n) :: [] from ht)
      obtain rfl := kts_nil hy
      obtain ⟨q, rfl⟩ : ∃ k, q = k + 1 := ⟨q - 1, by omega⟩
      exact single_num' _ hk htx hlo hhi (parse_itoa hlo hhi)
    | 2, _, _, hn, hlo, hhi, _, hmo =>
      obtain rfl : n = 0 := by
        have a : (0 : Int) ≤ n := hlo
        have b : n ≤ (0 : Int) := hhi
        omega
      obtain rfl := es_nil hmo
      refine ⟨1, fun n' q o te X _ hq _ ht hX => ?_⟩
      obtain ⟨t, y, rfl, hk, htx, hy⟩ := kts_cons (show kts te = (1, s.data.toList) :: [] from ht)
      obtain rfl := kts_nil hy
      obtain ⟨q, rfl⟩ : ∃ k, q = k + 1 := ⟨q - 1, by omega⟩
      show singleT _ _ _ (t :: X) = _
      rw [single_name _ hk htx hn]
      exact named_var _ htx hn hX
    | 3, _, _, hn, hlo, hhi, _, hmo =>
      obtain rfl := named_nil hn
      obtain rfl : n = 0 := by
        have a : (0 : Int) ≤ n := hlo
        have b : n ≤ (0 : Int) := hhi
        omega
      obtain rfl := es_nil hmo
      refine ⟨1, fun n' q o te X _ hq _ ht hX => ?_⟩
      obtain ⟨t, y, rfl, hk, htx, hy⟩ := kts_cons (show kts te = (1, [99, 108, 111, 99, 107]) :: [] from ht)
      obtain rfl := kts_nil hy
      obtain ⟨q, rfl⟩ : ∃ k, q = k + 1 := ⟨q - 1, by omega⟩
      exact single_clock _ htx
    | 4, _, _, hn, hlo, hhi, hle, hmo =>
      obtain rfl : n = 0 := by
        have a : (0 : Int) ≤ n := hlo
        have b : n ≤ (0 : Int) := hhi
        omega
      obtain ⟨a, b, c, d, rfl⟩ := es_one hle hmo
      obtain ⟨N, f⟩ := hl.1.e
      refine ⟨N + 1, fun n' q o te X hn' hq ho ht hX => ?_⟩
      have ht' : kts te = (1, s.data.toList) :: (3, [91]) :: (exK a b c.data.toList d.tks ++ (3, [93]) :: []) := by
        rw [ht]
        show (1, s.data.toList) :: (3, [91]) :: (gapK [(3, [44])] (ES.cons a b c d .nil).tks ++ [(3, [93])]) = _
        simp [ES.tks, gapK, restK]
      obtain ⟨t, y, rfl, hk, htx, hy⟩ := kts_cons ht'
      obtain ⟨t1, y1, rfl, _, ht1, hy1⟩ := kts_cons hy
      obtain ⟨x, z, rfl, hx, hz⟩ := kts_split hy1
      obtain ⟨t2, y2, rfl, _, ht2, hy2⟩ := kts_cons hz
      obtain rfl := kts_nil hy2
      obtain ⟨q, rfl⟩ : ∃ k, q = k + 1 := ⟨q - 1, by omega⟩
      simp only at hk htx ht1 ht2
      simp only [ES.dn] at ho
      have e : t :: t1 :: (x ++ [t2]) ++ X = t :: t1 :: (x ++ t2 :: X) := by simp
      rw [e, single_name _ hk htx hn]
      have := named_ix (exT n') (m := q + 1) (o := o) (e := ⟨a, b, c, d⟩) htx hn ht1 (by omega) ht2 (f n' 1 (o + 1) x (t2 :: X) (by omega) (by omega) hx (aft_of ht2 (by decide) (by decide)) (by show (opT t2.text).2 < 1; rw [ht2]; decide))
      exact this
    | 5, _, _, hn, hlo, hhi, _, hmo =>
      obtain rfl : n = 0 := by
        have a : (0 : Int) ≤ n := hlo
        have b : n ≤ (0 : Int) := hhi
        omega
      have h8' : l.len ≤ 8 := by
        have : (l.len : Int) ≤ 8 := hmo
        omega
      obtain ⟨N, f⟩ := args_ok l hok hl h8'
      refine ⟨N + 1, fun n' q o te X hn' hq ho ht hX => ?_⟩
      have ht' : kts te = (1, s.data.toList) :: (3, [40]) :: (gapK [(3, [44])] l.tks ++ (3, [41]) :: []) := ht
      obtain ⟨t, y, rfl, hk, htx, hy⟩ := kts_cons ht'
      obtain ⟨t1, y1, rfl, _, ht1, hy1⟩ := kts_cons hy
      obtain ⟨x, z, rfl, hx, hz⟩ := kts_split hy1
      obtain ⟨t2, y2, rfl, _, ht2, hy2⟩ := kts_cons hz
      obtain rfl := kts_nil hy2
      obtain ⟨q, rfl⟩ : ∃ k, q = k + 1 := ⟨q - 1, by omega⟩
      simp only at hk htx ht1 ht2
      have e : t :: t1 :: (x ++ [t2]) ++ X = t :: t1 :: (x ++ t2 :: X) := by simp
      rw [e, single_name _ hk htx hn]
      have := named_call (exT n') (m := q + 1) (o := o) htx hn ht1 (f n' (q + 1) o x t1 t2 X (by omega) (by omega) (by omega) hx ht1 ht2)
      rw [exES_exs] at this
      exact this
    | 6, _, _, hn, hlo, hhi, hle, hmo =>
      obtain rfl := named_nil hn
      obtain rfl : n = 0 := by
        have a : (0 : Int) ≤ n := hlo
        have b : n ≤ (0 : Int) := hhi
        omega
      obtain ⟨a, b, c, d, rfl⟩ := es_one hle hmo
      obtain ⟨N, f⟩ := hl.1
      refine ⟨N + 1, fun n' q o te X hn' hq ho ht hX => ?_⟩
      obtain ⟨t, y, rfl, _, ht1, hy⟩ := kts_cons (show kts te = (3, [45]) :: exK a b c.data.toList d.tks from ht)
      obtain ⟨q, rfl⟩ : ∃ k, q = k + 1 := ⟨q - 1, by omega⟩
      simp only [ES.dn] at ho
      exact single_neg _ ht1 (by omega) (f n' q (o + 1) y X (by omega) (by omega) (by omega) hy hX)
    | 7, _, _, hn, hlo, hhi, hle, hmo =>
      obtain rfl := named_nil hn
      obtain rfl : n = 0 := by
        have a : (0 : Int) ≤ n := hlo
        have b : n ≤ (0 : Int) := hhi
        omega
      obtain ⟨a, b, c, d, rfl⟩ := es_one hle hmo
      obtain ⟨N, f⟩ := hl.1
      refine ⟨N + 1, fun n' q o te X hn' hq ho ht hX => ?_⟩
      obtain ⟨t, y, rfl, _, ht1, hy⟩ := kts_cons (show kts te = (3, [33]) :: exK a b c.data.toList d.tks from ht)
      obtain ⟨q, rfl⟩ : ∃ k, q = k + 1 := ⟨q - 1, by omega⟩
      simp only [ES.dn] at ho
      exact single_not _ ht1 (by omega) (f n' q (o + 1) y X (by omega) (by omega) (by omega) hy hX)
    | m + 8, _, h, _, _, _, _, _ => exact absurd h (by omega)
theorem ES.sok_all : ∀ l : ES, l.ok = true → l.sok
  | .nil, _ => trivial
  | .cons op n s l r, h => by
    simp only [ES.ok, Bool.and_eq_true] at h
    exact ⟨sok_step h.1.1 h.1.2 (ES.sok_all l h.1.2), ES.sok_all r h.2⟩
end Go.Proofs.YtppagjhmlgkamaaGreatDoor
