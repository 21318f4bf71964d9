/-
  Equal, of statements: slices.EqualFunc with sameStmt.
-/
import Derived.Test.YtppagjhmlgkamaaGreatDoorCq5
import Derived.Test.YtppagjhmlgkamaaGreatDoorTreeEm
namespace Go.Proofs.YtppagjhmlgkamaaGreatDoor
open Go Go.RowKit Go.Shelf

noncomputable def eqS (a b : SS) : Bool := @decide (a = b) (Classical.propDecidable _)
theorem eqS_iff (a b : SS) : eqS a b = true ↔ a = b := by unfold eqS; exact @decide_eq_true_iff _ (Classical.propDecidable _)
theorem eqS_cons (op : Int) (s : ByteArray) (n : Int) (l : ES) (x y r : SS) (op' : Int) (s' : ByteArray) (n' : Int) (l' : ES) (x' y' r' : SS) :
    eqS (.cons op s n l x y r) (.cons op' s' n' l' x' y' r') = (((op == op') && (eqT s s' && ((n == n') && (eqE l l' && (eqS x x' && eqS y y'))))) && eqS r r') := by
  apply bool_ext
  simp only [Bool.and_eq_true, eqS_iff, eqE_iff, eqT_iff, beq_iff_eq, SS.cons.injEq]
  constructor
  · rintro ⟨h1, h2, h3, h4, h5, h6, h7⟩; exact ⟨⟨h1, h2, h3, h4, h5, h6⟩, h7⟩
  · rintro ⟨⟨h1, h2, h3, h4, h5, h6⟩, h7⟩; exact ⟨h1, h2, h3, h4, h5, h6, h7⟩
theorem eqS_len {a b : SS} (h : a.len ≠ b.len) : eqS a b = false := by
  cases hh : eqS a b with
  | false => rfl
  | true => exact absurd (by rw [(eqS_iff a b).1 hh]) h

set_option maxRecDepth 100000 in
set_option maxHeartbeats 8000000 in
theorem sameStmt_any (op n : Int) (s : ByteArray) (A : Option Addr) (k cap : Nat) (X : Option Addr) (kx capx : Nat) (Y : Option Addr) (ky capy : Nat) (op' n' : Int) (s' : ByteArray) (A' : Option Addr) (k' cap' : Nat) (X' : Option Addr) (kx' capx' : Nat) (Y' : Option Addr) (ky' capy' : Nat) (bl bx by' : Bool) (w : World)
    (H : SameL 64 65 (.slice A k cap) (.slice A' k' cap') bl w)
    (HX : SameL 33 34 (.slice X kx capx) (.slice X' kx' capx') bx w)
    (HY : SameL 33 34 (.slice Y ky capy) (.slice Y' ky' capy') by' w) :
    Calls Tryz.prog 34 #[.agg #[.int .i64 op, .string s, .int .i64 n, .slice A k cap, .slice X kx capx, .slice Y ky capy], .agg #[.int .i64 op', .string s', .int .i64 n', .slice A' k' cap', .slice X' kx' capx', .slice Y' ky' capy']] w fun e w' =>
      e = .returned (.bool ((op == op') && (eqT s s' && ((n == n') && (bl && (bx && by')))))) ∧ Below w.heap.size w w' := by
  have hW : ∀ o o', Below w.heap.size w ((w.alloc o).alloc o') := fun o o' => ((Below.refl _ _).alloc (Nat.le_refl _) o).alloc (by simp) o'
  have H2 := fun o o' => H _ (hW o o')
  simp only [World.size_alloc] at H2
  have HW := Lib.hid hW
  clear hW H
  have HX2 := fun W h => HX W h
  have HY2 := fun W h => HY W h
  clear HX HY
  unfold eqT
  cases h1 : (op == op') with
  | false =>
    clear H2 HX2 HY2
    go_enter Tryz.func34, Tryz.ntmps34
    go_wp2
    go_ret
    exact ⟨rfl, HW.out _ _⟩
  | true =>
    cases h2 : (s.toList == s'.toList) with
    | false =>
      clear H2 HX2 HY2
      go_enter Tryz.func34, Tryz.ntmps34
      go_wp2
      go_ret
      exact ⟨rfl, HW.out _ _⟩
    | true =>
      cases h3 : (n == n') with
      | false =>
        clear H2 HX2 HY2
        go_enter Tryz.func34, Tryz.ntmps34
        go_wp2
        go_ret
        exact ⟨rfl, HW.out _ _⟩
      | true =>
        cases bl with
        | false =>
          clear HX2 HY2
          go_enter Tryz.func34, Tryz.ntmps34
          go_wp2_with (go_at_call 64; ((with_reducible refine (H2 _ _).mono ?_); rintro e w1 ⟨rfl, hb1⟩; obtain ⟨hc1, hf1⟩ := bcell hb1))
          go_ret
          exact ⟨rfl, (HW.out _ _).trans (hb1.mono (by omega))⟩
        | true =>
          cases bx with
          | false =>
            clear HY2
            go_enter Tryz.func34, Tryz.ntmps34
            go_wp2_with (first
              | (go_at_call 64; ((with_reducible refine (H2 _ _).mono ?_); rintro e w1 ⟨rfl, hb1⟩; obtain ⟨hc1, hf1⟩ := bcell hb1; have hq1 := (HW.out _ _).trans (hb1.mono (by omega)); have HX3 := HX2 w1 hq1))
              | (go_at_call 33; ((with_reducible refine HX3.mono ?_); rintro e w2 ⟨rfl, hb2⟩)))
            go_ret
            exact ⟨rfl, hq1.trans (hb2.mono hq1.size)⟩
          | true =>
            go_enter Tryz.func34, Tryz.ntmps34
            go_wp2_with (first
              | (go_at_call 64; ((with_reducible refine (H2 _ _).mono ?_); rintro e w1 ⟨rfl, hb1⟩; obtain ⟨hc1, hf1⟩ := bcell hb1; have hz1 : w.heap.size < w1.heap.size := (by have := hb1.size; simp at this; omega); have hz2 : w.heap.size + 1 < w1.heap.size := (by have := hb1.size; simp at this; omega); have hq1 := (HW.out _ _).trans (hb1.mono (by omega)); have HX3 := HX2 w1 hq1; clear HX2))
              | (go_at_call 33; ((with_reducible refine HX3.mono ?_); clear HX3; rintro e w2 ⟨rfl, hb2⟩; obtain ⟨hc2, hf2⟩ := bcell hb2; have hq2 := hq1.trans (hb2.mono hq1.size); have HY3 := HY2 w2 hq2; clear HY2))
              | (go_at_call 33; ((with_reducible refine HY3.mono ?_); rintro e w3 ⟨rfl, hb3⟩)))
            go_ret
            exact ⟨rfl, hq2.trans (hb3.mono hq2.size)⟩

set_option maxRecDepth 100000 in
set_option maxHeartbeats 8000000 in
theorem equalS_any (K : Nat) : ∀ (a a' : SS) (A A' : Option Addr) (cap cap' : Nat) (B : Nat) (w : World), a.cnt ≤ K → B ≤ w.heap.size → SV B w (.slice A a.len cap) a → SV B w (.slice A' a'.len cap') a' →
    Calls Tryz.prog 33 #[.slice A a.len cap, .slice A' a'.len cap', .func (.func 34) #[] #[]] w fun e w' => e = .returned (.bool (eqS a a')) ∧ Below w.heap.size w w' := by
  induction K using Nat.strongRecOn with
  | ind K ih =>
    intro a a' A A' cap cap' B w hK hB hv hv'
    obtain ⟨A1, cap1, e1, hc1, hc2, hrow⟩ := hv
    injection e1 with e2 e3 e4
    subst e2 e4
    clear e3
    obtain ⟨A1, cap1, e1, hc1', hc2', hrow'⟩ := hv'
    injection e1 with e2 e3 e4
    subst e2 e4
    clear e3
    obtain ⟨len, hlen⟩ : ∃ len, a.len = len := ⟨_, rfl⟩
    obtain ⟨len', hlen'⟩ : ∃ len, a'.len = len := ⟨_, rfl⟩
    by_cases hne : len = len'
    · subst hne
      rw [hlen] at hc1 hrow ⊢
      rw [hlen'] at hc1' hrow' ⊢
      have HL := Lib.hid hlen; clear hlen
      have HL' := Lib.hid hlen'; clear hlen'
      have IH := fun (l l' : SS) (A A' : Option Addr) (cap cap' : Nat) (hl : l.cnt < K) (h3 : SV B w (.slice A l.len cap) l) (h3' : SV B w (.slice A' l'.len cap') l') (W : World) (hb : Below w.heap.size w W) =>
        ih _ hl l l' A A' cap cap' B W (Nat.le_refl _) (Nat.le_trans hB hb.size) (h3.below (hb.mono hB) (Nat.le_refl _)) (h3'.below (hb.mono hB) (Nat.le_refl _))
      clear ih
      go_enter Tryz.func33, Tryz.ntmps33
      go_wp2
      go_loopw [17] (fun i wr => ∃ (k : Nat) (r r' : SS), i = .int .i64 k ∧ k + r.len = len ∧ k + r'.len = len ∧ eqS a a' = eqS r r' ∧ r.cnt ≤ K ∧ (0 < r.len → ∃ b o, A = some ⟨b, o, none⟩ ∧ b < B ∧ r.In B w b (o + k * 6)) ∧ (0 < r'.len → ∃ b o, A' = some ⟨b, o, none⟩ ∧ b < B ∧ r'.In B w b (o + k * 6)) ∧ Below w.heap.size w wr) (fun i _ => len - (intOf i).toNat)
      case atStart => exact ⟨0, a, a', rfl, by have := HL.out; omega, by have := HL'.out; omega, rfl, hK, by simpa [HL.out] using hrow, by simpa [HL'.out] using hrow', Below.refl _ _⟩
      case round =>
        obtain ⟨k, r, r', rfl, hk, hk', ho, hrK, hr1, hr2, hW⟩ := hrel
        have HO := Lib.hid ho; clear ho
        cases r with
        | nil =>
          have hk0 : k = len := by simpa [SS.len] using hk
          subst hk0
          cases r' with
          | cons op s n l x y r => simp [SS.len] at hk'
          | nil =>
            clear hk hk' hrow hrow' hr1 hr2
            go_wp2
            go_ret
            exact ⟨ret_bool (by rw [HO.out]; exact ((eqS_iff _ _).2 rfl).symm), hW⟩
        | cons op s n l x y r =>
          cases r' with
          | nil => simp [SS.len] at hk hk'; omega
          | cons op' s' n' l' x' y' r' =>
            obtain ⟨b, o, rfl, hb, c0, c1, c2, ⟨v3, c3, h3⟩, ⟨v4, c4, h4⟩, ⟨v5, c5, h5⟩, h6, hr⟩ := hr1 (by simp [SS.len])
            obtain ⟨b', o', rfl, hb', c0', c1', c2', ⟨v3', c3', h3'⟩, ⟨v4', c4', h4'⟩, ⟨v5', c5', h5'⟩, h6', hr'⟩ := hr2 (by simp [SS.len])
            clear hrow hrow' hr1 hr2
            obtain ⟨A6, cap6, rfl, _⟩ := id h3
            obtain ⟨A7, cap7, rfl, _⟩ := id h3'
            obtain ⟨A8, cap8, rfl, _⟩ := id h4
            obtain ⟨A9, cap9, rfl, _⟩ := id h4'
            obtain ⟨A10, cap10, rfl, _⟩ := id h5
            obtain ⟨A11, cap11, rfl, _⟩ := id h5'
            have hlt : k < len := by simp [SS.len] at hk; omega
            have HK := Lib.hid hk; clear hk
            have HK' := Lib.hid hk'; clear hk'
            have hbw : b < w.heap.size := by omega
            have hbw' : b' < w.heap.size := by omega
            have hz : b < wr.heap.size := by have := hW.size; omega
            have hz' : b' < wr.heap.size := by have := hW.size; omega
            have d0 := (hW.cell (p := ⟨b, o + k * 6, none⟩) hbw).trans c0
            have d1 := (hW.cell (p := ⟨b, o + k * 6 + 1, none⟩) hbw).trans c1
            have d2 := (hW.cell (p := ⟨b, o + k * 6 + 2, none⟩) hbw).trans c2
            have d3 := (hW.cell (p := ⟨b, o + k * 6 + 3, none⟩) hbw).trans c3
            have d0' := (hW.cell (p := ⟨b', o' + k * 6, none⟩) hbw').trans c0'
            have d1' := (hW.cell (p := ⟨b', o' + k * 6 + 1, none⟩) hbw').trans c1'
            have d2' := (hW.cell (p := ⟨b', o' + k * 6 + 2, none⟩) hbw').trans c2'
            have d3' := (hW.cell (p := ⟨b', o' + k * 6 + 3, none⟩) hbw').trans c3'
            have d4 := (hW.cell (p := ⟨b, o + k * 6 + 4, none⟩) hbw).trans c4
            have d5 := (hW.cell (p := ⟨b, o + k * 6 + 5, none⟩) hbw).trans c5
            have d4' := (hW.cell (p := ⟨b', o' + k * 6 + 4, none⟩) hbw').trans c4'
            have d5' := (hW.cell (p := ⟨b', o' + k * 6 + 5, none⟩) hbw').trans c5'
            clear c0 c1 c2 c3 c4 c5 c0' c1' c2' c3' c4' c5'
            have hcnt : (x.cnt < K ∧ y.cnt < K) ∧ r.cnt ≤ K := by simp only [SS.cnt] at hrK; omega
            have hW2 : ∀ o o', Below w.heap.size w ((wr.alloc o).alloc o') := fun o o' => (hW.alloc hW.size o).alloc (by have := hW.size; simp; omega) o'
            have HS := fun C C' => sameStmt_any op n s A6 l.len cap6 A8 x.len cap8 A10 y.len cap10 op' n' s' A7 l'.len cap7 A9 x'.len cap9 A11 y'.len cap11 (eqE l l') (eqS x x') (eqS y y') ((wr.alloc C).alloc C')
              (fun W hb => equalE_any _ l l' A6 A7 cap6 cap7 B W (Nat.le_refl _) (Nat.le_trans hB ((hW2 C C').trans (hb.mono (hW2 C C').size)).size) (EV.below h3 (((hW2 C C').trans (hb.mono (hW2 C C').size)).mono hB) (Nat.le_refl _)) (EV.below h3' (((hW2 C C').trans (hb.mono (hW2 C C').size)).mono hB) (Nat.le_refl _)))
              (fun W hb => IH x x' A8 A9 cap8 cap9 hcnt.1.1 h4 h4' W ((hW2 C C').trans (hb.mono (hW2 C C').size)))
              (fun W hb => IH y y' A10 A11 cap10 cap11 hcnt.1.2 h5 h5' W ((hW2 C C').trans (hb.mono (hW2 C C').size)))
            have HC := Lib.hid (eqS_cons op s n l x y r op' s' n' l' x' y' r')
            clear IH h3 h3' h4 h4' h5 h5'
            have HW2 := Lib.hid hW2
            clear hW2
            obtain ⟨bb, hbb⟩ : ∃ bb, ((op == op') && (eqT s s' && ((n == n') && (eqE l l' && (eqS x x' && eqS y y'))))) = bb := ⟨_, rfl⟩
            rw [hbb] at HS HC
            clear hbb
            cases bb with
            | false =>
              go_wp2_with (go_at_call 34; ((with_reducible refine (HS _ _).mono ?_); rintro e w1 ⟨rfl, hb1⟩))
              go_ret
              exact ⟨ret_bool (by rw [HO.out, HC.out]; rfl), (HW2.out _ _).trans (hb1.mono (HW2.out _ _).size)⟩
            | true =>
              go_wp2_with (go_at_call 34; ((with_reducible refine (HS _ _).mono ?_); rintro e w1 ⟨rfl, hb1⟩))
              go_roundw
              case rel => exact ⟨k + 1, r, r', by go_num, by have := HK.out; simp [SS.len] at this; omega, by have := HK'.out; simp [SS.len] at this; omega, by rw [HO.out, HC.out]; rfl, hcnt.2, fun _ => ⟨b, o, rfl, hb, by rw [show o + (k + 1) * 6 = o + k * 6 + 6 by omega]; exact hr⟩, fun _ => ⟨b', o', rfl, hb', by rw [show o' + (k + 1) * 6 = o' + k * 6 + 6 by omega]; exact hr'⟩, (HW2.out _ _).trans (hb1.mono (HW2.out _ _).size)⟩
              case measure => simp [intOf]; omega
    · have hE : eqS a a' = false := eqS_len (by omega)
      rw [hE, hlen, hlen']
      have hz : len ≤ 9223372036854775807 := by omega
      have hz' : len' ≤ 9223372036854775807 := by omega
      clear hrow hrow' ih hE
      go_enter Tryz.func33, Tryz.ntmps33
      go_wp2
      go_ret
      exact ⟨rfl, Below.refl _ _⟩

end Go.Proofs.YtppagjhmlgkamaaGreatDoor
