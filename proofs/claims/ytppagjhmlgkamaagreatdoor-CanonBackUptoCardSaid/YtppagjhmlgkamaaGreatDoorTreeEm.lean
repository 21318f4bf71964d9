/-
  Equal, of expressions: slices.EqualFunc with sameExpr.
-/
import Derived.Test.YtppagjhmlgkamaaGreatDoorCq5
namespace Go.Proofs.YtppagjhmlgkamaaGreatDoor
open Go Go.RowKit Go.Shelf

noncomputable def eqE (a b : ES) : Bool := @decide (a = b) (Classical.propDecidable _)
theorem eqE_iff (a b : ES) : eqE a b = true ↔ a = b := by unfold eqE; exact @decide_eq_true_iff _ (Classical.propDecidable _)
/-- Two texts, as a walk compares them. -/
def eqT (s t : ByteArray) : Bool := s.toList == t.toList
theorem eqT_iff (s t : ByteArray) : eqT s t = true ↔ s = t := by
  unfold eqT
  rw [ByteArray.toList_eq, ByteArray.toList_eq, beq_iff_eq]
  constructor
  · intro h
    cases s; cases t
    simp only [ByteArray.mk.injEq]
    exact Array.ext' h
  · intro h; rw [h]
theorem bool_ext {a b : Bool} (h : a = true ↔ b = true) : a = b := by cases a <;> cases b <;> simp_all
theorem eqE_cons (op n : Int) (s : ByteArray) (l r : ES) (op' n' : Int) (s' : ByteArray) (l' r' : ES) :
    eqE (.cons op n s l r) (.cons op' n' s' l' r') = (((op == op') && (eqT s s' && ((n == n') && eqE l l'))) && eqE r r') := by
  apply bool_ext
  simp only [Bool.and_eq_true, eqE_iff, eqT_iff, beq_iff_eq, ES.cons.injEq]
  constructor
  · rintro ⟨h1, h2, h3, h4, h5⟩; exact ⟨⟨h1, h3, h2, h4⟩, h5⟩
  · rintro ⟨⟨h1, h3, h2, h4⟩, h5⟩; exact ⟨h1, h2, h3, h4, h5⟩
theorem eqE_len {a b : ES} (h : a.len ≠ b.len) : eqE a b = false := by
  cases hh : eqE a b with
  | false => rfl
  | true => exact absurd (by rw [(eqE_iff a b).1 hh]) h

/-- A contract for the lists of parts, in every later world. -/
def SameL (f g : FuncId) (v v' : Value) (b : Bool) (w : World) : Prop :=
  ∀ W, Below w.heap.size w W → Calls Tryz.prog f #[v, v', .func (.func g) #[] #[]] W fun e w' => e = .returned (.bool b) ∧ Below W.heap.size W w'

set_option maxHeartbeats 4000000 in
theorem sameExpr_any (op n : Int) (s : ByteArray) (A : Option Addr) (k cap : Nat) (op' n' : Int) (s' : ByteArray) (A' : Option Addr) (k' cap' : Nat) (b : Bool) (w : World)
    (H : SameL 64 65 (.slice A k cap) (.slice A' k' cap') b w) :
    Calls Tryz.prog 65 #[.agg #[.int .i64 op, .int .i64 n, .string s, .slice A k cap], .agg #[.int .i64 op', .int .i64 n', .string s', .slice A' k' cap']] w fun e w' =>
      e = .returned (.bool ((op == op') && (eqT s s' && ((n == n') && b)))) ∧ Below w.heap.size w w' := by
  have hW : ∀ o o', Below w.heap.size w ((w.alloc o).alloc o') := fun o o' => ((Below.refl _ _).alloc (Nat.le_refl _) o).alloc (by simp) o'
  have H2 := fun o o' => H _ (hW o o')
  simp only [World.size_alloc] at H2
  have HW := Lib.hid hW
  clear hW H
  unfold eqT
  cases h1 : (op == op') with
  | false =>
    clear H2
    go_enter Tryz.func65, Tryz.ntmps65
    go_wp2
    go_ret
    exact ⟨rfl, HW.out _ _⟩
  | true =>
    cases h2 : (s.toList == s'.toList) with
    | false =>
      clear H2
      go_enter Tryz.func65, Tryz.ntmps65
      go_wp2
      go_ret
      exact ⟨rfl, HW.out _ _⟩
    | true =>
      cases h3 : (n == n') with
      | false =>
        clear H2
        go_enter Tryz.func65, Tryz.ntmps65
        go_wp2
        go_ret
        exact ⟨rfl, HW.out _ _⟩
      | true =>
        go_enter Tryz.func65, Tryz.ntmps65
        go_wp2_with (go_at_call 64; ((with_reducible refine (H2 _ _).mono ?_); rintro e w1 ⟨rfl, hb1⟩))
        go_ret
        exact ⟨rfl, (HW.out _ _).trans (hb1.mono (by omega))⟩

set_option maxRecDepth 100000 in
set_option maxHeartbeats 8000000 in
theorem equalE_any (K : Nat) : ∀ (a a' : ES) (A A' : Option Addr) (cap cap' : Nat) (B : Nat) (w : World), a.cnt ≤ K → B ≤ w.heap.size → EV B w (.slice A a.len cap) a → EV B w (.slice A' a'.len cap') a' →
    Calls Tryz.prog 64 #[.slice A a.len cap, .slice A' a'.len cap', .func (.func 65) #[] #[]] w fun e w' => e = .returned (.bool (eqE a a')) ∧ Below w.heap.size w w' := by
  induction K using Nat.strongRecOn with
  | ind K ih =>
    intro a a' A A' cap cap' B w hK hB hv hv'
    obtain ⟨A1, cap1, e1, hc1, hc2, hrow⟩ := hv
    injection e1 with e2 e3 e4
    subst e2 e4
    clear e3
    obtain ⟨A1, cap1, e1, hc1', hc2', hrow'⟩ := hv'
    injection e1 with e2 e3 e4
    subst e2 e4
    clear e3
    obtain ⟨len, hlen⟩ : ∃ len, a.len = len := ⟨_, rfl⟩
    obtain ⟨len', hlen'⟩ : ∃ len, a'.len = len := ⟨_, rfl⟩
    by_cases hne : len = len'
    · subst hne
      rw [hlen] at hc1 hrow ⊢
      rw [hlen'] at hc1' hrow' ⊢
      have HL := Lib.hid hlen; clear hlen
      have HL' := Lib.hid hlen'; clear hlen'
      have IH := fun (l l' : ES) (A A' : Option Addr) (cap cap' : Nat) (hl : l.cnt < K) (h3 : EV B w (.slice A l.len cap) l) (h3' : EV B w (.slice A' l'.len cap') l') (W : World) (hb : Below w.heap.size w W) =>
        ih _ hl l l' A A' cap cap' B W (Nat.le_refl _) (Nat.le_trans hB hb.size) (h3.below (hb.mono hB) (Nat.le_refl _)) (h3'.below (hb.mono hB) (Nat.le_refl _))
      clear ih
      go_enter Tryz.func64, Tryz.ntmps64
      go_wp2
      go_loopw [17] (fun i wr => ∃ (k : Nat) (r r' : ES), i = .int .i64 k ∧ k + r.len = len ∧ k + r'.len = len ∧ eqE a a' = eqE r r' ∧ r.cnt ≤ K ∧ (0 < r.len → ∃ b o, A = some ⟨b, o, none⟩ ∧ b < B ∧ r.In B w b (o + k * 4)) ∧ (0 < r'.len → ∃ b o, A' = some ⟨b, o, none⟩ ∧ b < B ∧ r'.In B w b (o + k * 4)) ∧ Below w.heap.size w wr) (fun i _ => len - (intOf i).toNat)
      case atStart => exact ⟨0, a, a', rfl, by have := HL.out; omega, by have := HL'.out; omega, rfl, hK, by simpa [HL.out] using hrow, by simpa [HL'.out] using hrow', Below.refl _ _⟩
      case round =>
        obtain ⟨k, r, r', rfl, hk, hk', ho, hrK, hr1, hr2, hW⟩ := hrel
        have HO := Lib.hid ho; clear ho
        cases r with
        | nil =>
          have hk0 : k = len := by simpa [ES.len] using hk
          subst hk0
          cases r' with
          | cons op n s l r => simp [ES.len] at hk'
          | nil =>
            clear hk hk' hrow hrow' hr1 hr2
            go_wp2
            go_ret
            exact ⟨ret_bool (by rw [HO.out]; exact ((eqE_iff _ _).2 rfl).symm), hW⟩
        | cons op n s l r =>
          cases r' with
          | nil => simp [ES.len] at hk hk'; omega
          | cons op' n' s' l' r' =>
            obtain ⟨b, o, rfl, hb, c0, c1, c2, ⟨v3, c3, h3⟩, h6, hr⟩ := hr1 (by simp [ES.len])
            obtain ⟨b', o', rfl, hb', c0', c1', c2', ⟨v3', c3', h3'⟩, h6', hr'⟩ := hr2 (by simp [ES.len])
            clear hrow hrow' hr1 hr2
            obtain ⟨A6, cap6, rfl, _⟩ := id h3
            obtain ⟨A7, cap7, rfl, _⟩ := id h3'
            have hlt : k < len := by simp [ES.len] at hk; omega
            have HK := Lib.hid hk; clear hk
            have HK' := Lib.hid hk'; clear hk'
            have hbw : b < w.heap.size := by omega
            have hbw' : b' < w.heap.size := by omega
            have hz : b < wr.heap.size := by have := hW.size; omega
            have hz' : b' < wr.heap.size := by have := hW.size; omega
            have d0 := (hW.cell (p := ⟨b, o + k * 4, none⟩) hbw).trans c0
            have d1 := (hW.cell (p := ⟨b, o + k * 4 + 1, none⟩) hbw).trans c1
            have d2 := (hW.cell (p := ⟨b, o + k * 4 + 2, none⟩) hbw).trans c2
            have d3 := (hW.cell (p := ⟨b, o + k * 4 + 3, none⟩) hbw).trans c3
            have d0' := (hW.cell (p := ⟨b', o' + k * 4, none⟩) hbw').trans c0'
            have d1' := (hW.cell (p := ⟨b', o' + k * 4 + 1, none⟩) hbw').trans c1'
            have d2' := (hW.cell (p := ⟨b', o' + k * 4 + 2, none⟩) hbw').trans c2'
            have d3' := (hW.cell (p := ⟨b', o' + k * 4 + 3, none⟩) hbw').trans c3'
            clear c0 c1 c2 c3 c0' c1' c2' c3'
            have hcnt : l.cnt < K ∧ r.cnt ≤ K := by simp only [ES.cnt] at hrK; omega
            have hW2 : ∀ o o', Below w.heap.size w ((wr.alloc o).alloc o') := fun o o' => (hW.alloc hW.size o).alloc (by have := hW.size; simp; omega) o'
            have HS := fun C C' => sameExpr_any op n s A6 l.len cap6 op' n' s' A7 l'.len cap7 (eqE l l') ((wr.alloc C).alloc C') (fun W hb => IH l l' A6 A7 cap6 cap7 hcnt.1 h3 h3' W ((hW2 C C').trans (hb.mono (hW2 C C').size)))
            have HC := Lib.hid (eqE_cons op n s l r op' n' s' l' r')
            clear IH h3 h3'
            have HW2 := Lib.hid hW2
            clear hW2
            obtain ⟨bb, hbb⟩ : ∃ bb, ((op == op') && (eqT s s' && ((n == n') && eqE l l'))) = bb := ⟨_, rfl⟩
            rw [hbb] at HS HC
            clear hbb
            cases bb with
            | false =>
              go_wp2_with (go_at_call 65; ((with_reducible refine (HS _ _).mono ?_); rintro e w1 ⟨rfl, hb1⟩))
              go_ret
              exact ⟨ret_bool (by rw [HO.out, HC.out]; rfl), (HW2.out _ _).trans (hb1.mono (HW2.out _ _).size)⟩
            | true =>
              go_wp2_with (go_at_call 65; ((with_reducible refine (HS _ _).mono ?_); rintro e w1 ⟨rfl, hb1⟩))
              go_roundw
              case rel => exact ⟨k + 1, r, r', by go_num, by have := HK.out; simp [ES.len] at this; omega, by have := HK'.out; simp [ES.len] at this; omega, by rw [HO.out, HC.out]; rfl, hcnt.2, fun _ => ⟨b, o, rfl, hb, by rw [show o + (k + 1) * 4 = o + k * 4 + 4 by omega]; exact hr⟩, fun _ => ⟨b', o', rfl, hb', by rw [show o' + (k + 1) * 4 = o' + k * 4 + 4 by omega]; exact hr'⟩, (HW2.out _ _).trans (hb1.mono (HW2.out _ _).size)⟩
              case measure => simp [intOf]; omega
    · have hE : eqE a a' = false := eqE_len (by omega)
      rw [hE, hlen, hlen']
      have hz : len ≤ 9223372036854775807 := by omega
      have hz' : len' ≤ 9223372036854775807 := by omega
      clear hrow hrow' ih hE
      go_enter Tryz.func64, Tryz.ntmps64
      go_wp2
      go_ret
      exact ⟨rfl, Below.refl _ _⟩

end Go.Proofs.YtppagjhmlgkamaaGreatDoor
