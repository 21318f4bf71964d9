/-
  The document's own Deep, Deeper, many, more.
-/
import Derived.Test.YtaedlhjjfmmpdaaDoorTreeU
namespace Go.Proofs.YtaedlhjjfmmpdaaDoor
open Go Go.RowKit Go.Shelf

theorem wrap_in (n : Int) : -9223372036854775808 ≤ wrap64 n ∧ wrap64 n ≤ 9223372036854775807 := by rw [wrap_def]; omega
theorem ES.deep_in : ∀ l : ES, l.deep ≤ 9223372036854775807
  | .nil => by simp only [ES.deep]; omega
  | .cons _ _ _ l r => by have := ES.deep_in r; have := wrap_in (1 + l.deep); simp only [ES.deep]; omega
theorem SS.deep_in : ∀ l : SS, l.deep ≤ 9223372036854775807
  | .nil => by simp only [SS.deep]; omega
  | .cons _ _ _ l b e r => by have := SS.deep_in r; have := wrap_in (1 + max l.deep (max b.deep e.deep)); simp only [SS.deep]; omega

set_option maxHeartbeats 4000000 in
theorem rdeep_any (K : Nat) : ∀ (l : ES) (A : Option Addr) (cap B : Nat) (w : World), l.cnt ≤ K → EV B w (.slice A l.len cap) l →
    Calls Tryd.prog 46 #[.slice A l.len cap] w fun e w' => e = .returned (.int .i64 l.deep) ∧ w = w' := by
  induction K using Nat.strongRecOn with
  | ind K ih =>
    intro l A cap B w hK hv
    obtain ⟨A1, cap1, e1, hc1, hc2, hrow⟩ := hv
    injection e1 with e2 e3 e4
    subst e2 e4
    clear e3
    obtain ⟨len, hlen⟩ : ∃ len, l.len = len := ⟨_, rfl⟩
    rw [hlen] at hc1 hrow ⊢
    have HL := Lib.hid hlen; clear hlen
    have IH := fun (l' : ES) (A : Option Addr) (cap : Nat) (hl : l'.cnt < K) (h3 : EV B w (.slice A l'.len cap) l') => ih _ hl l' A cap B w (Nat.le_refl _) h3
    clear ih
    go_enter Tryd.func46, Tryd.ntmps46
    go_wp2
    go_loop [3, 4] (fun n i => ∃ (k : Nat) (r : ES) (m : Int), i = .int .i64 k ∧ n = .int .i64 m ∧ k + r.len = len ∧ max m r.deep = l.deep ∧ r.cnt ≤ K ∧ (0 < r.len → ∃ b o, A = some ⟨b, o, none⟩ ∧ b < B ∧ r.In B w b (o + k * 4)) ∧ 0 ≤ m) (fun _ i => len - (intOf i).toNat)
    case atStart => exact ⟨0, l, 0, rfl, rfl, by have := HL.out; omega, by have := ES.deep_nn l; omega, hK, by simpa [HL.out] using hrow, by omega⟩
    case round =>
      obtain ⟨k, r, m, rfl, rfl, hk, ho, hrK, hr1, hm⟩ := hrel
      have HO := Lib.hid ho; clear ho
      cases r with
      | nil =>
        have hk0 : k = len := by simpa [ES.len] using hk
        subst hk0
        clear hk hrow hr1
        go_wp2
        go_ret
        exact ⟨ret_int (by rw [← HO.out]; simp only [ES.deep]; omega), rfl⟩
      | cons op n s l1 r =>
        obtain ⟨b, o, rfl, hb, c0, c1, c2, ⟨v3, c3, h3⟩, h6, hr⟩ := hr1 (by simp [ES.len])
        clear hrow hr1
        obtain ⟨A6, cap6, rfl, _⟩ := id h3
        have hlt : k < len := by simp [ES.len] at hk; omega
        have HK := Lib.hid hk; clear hk
        have hcnt : l1.cnt < K ∧ r.cnt ≤ K := by simp only [ES.cnt] at hrK; omega
        have HI := IH l1 A6 cap6 hcnt.1 h3
        clear IH h3
        go_wp2_with (go_at_call 46; ((with_reducible refine HI.mono ?_); rintro e w1 ⟨rfl, rfl⟩))
        go_round
        case rel => exact ⟨k + 1, r, _, by go_num, rfl, by have := HK.out; simp [ES.len] at this; omega, by rw [← HO.out]; simp only [ES.deep]; omega, hcnt.2, fun _ => ⟨b, o, rfl, hb, by rw [show o + (k + 1) * 4 = o + k * 4 + 4 by omega]; exact hr⟩, by omega⟩
        case measure => simp [intOf]; omega

theorem wrap_add (a b : Int) : wrap64 (wrap64 a + wrap64 b) = wrap64 (a + b) := by simp only [wrap_def]; omega
def ES.inner : ES → Nat
  | .nil => 0
  | .cons _ _ _ l r => l.cnt + r.inner
theorem ES.cnt_inner : ∀ l : ES, l.cnt = l.len + l.inner
  | .nil => rfl
  | .cons _ _ _ l r => by simp only [ES.cnt, ES.len, ES.inner, ES.cnt_inner r]; omega
def SS.inner : SS → Nat
  | .nil => 0
  | .cons _ _ _ l b e r => l.cnt + (b.cnt + e.cnt) + r.inner
theorem SS.cnt_inner : ∀ l : SS, l.cnt = l.len + l.inner
  | .nil => rfl
  | .cons _ _ _ l b e r => by simp only [SS.cnt, SS.len, SS.inner, SS.cnt_inner r]; omega
theorem wrap_small (n : Nat) (h : n ≤ 9223372036854775807) : wrap64 (n : Int) = n := by simp only [wrap_def]; omega

set_option maxHeartbeats 4000000 in
theorem rmany_any (K : Nat) : ∀ (l : ES) (A : Option Addr) (cap B : Nat) (w : World), l.cnt ≤ K → EV B w (.slice A l.len cap) l →
    Calls Tryd.prog 47 #[.slice A l.len cap] w fun e w' => e = .returned (.int .i64 (wrap64 l.cnt)) ∧ w = w' := by
  induction K using Nat.strongRecOn with
  | ind K ih =>
    intro l A cap B w hK hv
    obtain ⟨A1, cap1, e1, hc1, hc2, hrow⟩ := hv
    injection e1 with e2 e3 e4
    subst e2 e4
    clear e3
    obtain ⟨len, hlen⟩ : ∃ len, l.len = len := ⟨_, rfl⟩
    rw [hlen] at hc1 hrow ⊢
    have HL := Lib.hid hlen; clear hlen
    have IH := fun (l' : ES) (A : Option Addr) (cap : Nat) (hl : l'.cnt < K) (h3 : EV B w (.slice A l'.len cap) l') => ih _ hl l' A cap B w (Nat.le_refl _) h3
    clear ih
    go_enter Tryd.func47, Tryd.ntmps47
    go_wp2
    go_loop [3, 4] (fun n i => ∃ (k : Nat) (r : ES) (m : Nat), i = .int .i64 k ∧ n = .int .i64 (wrap64 m) ∧ k + r.len = len ∧ m + r.inner = l.cnt ∧ r.cnt ≤ K ∧ (0 < r.len → ∃ b o, A = some ⟨b, o, none⟩ ∧ b < B ∧ r.In B w b (o + k * 4))) (fun _ i => len - (intOf i).toNat)
    case atStart => exact ⟨0, l, len, rfl, by rw [wrap_small _ (by omega)], by have := HL.out; omega, by rw [ES.cnt_inner l, HL.out], hK, by simpa [HL.out] using hrow⟩
    case round =>
      obtain ⟨k, r, m, rfl, rfl, hk, ho, hrK, hr1⟩ := hrel
      have HO := Lib.hid ho; clear ho
      cases r with
      | nil =>
        have hk0 : k = len := by simpa [ES.len] using hk
        subst hk0
        clear hk hrow hr1
        go_wp2
        go_ret
        exact ⟨by rw [← HO.out]; rfl, rfl⟩
      | cons op n s l1 r =>
        obtain ⟨b, o, rfl, hb, c0, c1, c2, ⟨v3, c3, h3⟩, h6, hr⟩ := hr1 (by simp [ES.len])
        clear hrow hr1
        obtain ⟨A6, cap6, rfl, _⟩ := id h3
        have hlt : k < len := by simp [ES.len] at hk; omega
        have HK := Lib.hid hk; clear hk
        have hcnt : l1.cnt < K ∧ r.cnt ≤ K := by simp only [ES.cnt] at hrK; omega
        have HI := IH l1 A6 cap6 hcnt.1 h3
        clear IH h3
        have HA := Lib.hid (wrap_add m l1.cnt)
        go_wp2_with (go_at_call 47; ((with_reducible refine HI.mono ?_); rintro e w1 ⟨rfl, rfl⟩))
        go_round
        case rel => exact ⟨k + 1, r, m + l1.cnt, by go_num, by rw [HA.out]; rfl, by have := HK.out; simp [ES.len] at this; omega, by rw [← HO.out]; simp only [ES.inner]; omega, hcnt.2, fun _ => ⟨b, o, rfl, hb, by rw [show o + (k + 1) * 4 = o + k * 4 + 4 by omega]; exact hr⟩⟩
        case measure => simp [intOf]; omega

end Go.Proofs.YtaedlhjjfmmpdaaDoor
