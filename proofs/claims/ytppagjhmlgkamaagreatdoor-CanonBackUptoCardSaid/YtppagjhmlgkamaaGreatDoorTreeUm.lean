/-
  Equal: names of parameters, functions, programs.
-/
import Derived.Test.YtppagjhmlgkamaaGreatDoorCq5
import Derived.Test.YtppagjhmlgkamaaGreatDoorTreeQm
import Derived.Deep.QuietTactic
import Derived.BigQuiet
namespace Go.Proofs.YtppagjhmlgkamaaGreatDoor
open Go Go.RowKit Go.Shelf

theorem drewN_below (w : World) (n : Nat) : Below w.heap.size w (w.drewN n) := ⟨rfl, rfl, rfl, Nat.le_refl _, fun _ _ => rfl⟩

noncomputable def eqP (a b : List ByteArray) : Bool := @decide (a = b) (Classical.propDecidable _)
theorem eqP_iff (a b : List ByteArray) : eqP a b = true ↔ a = b := by unfold eqP; exact @decide_eq_true_iff _ (Classical.propDecidable _)
theorem eqP_cons (s : ByteArray) (r : List ByteArray) (s' : ByteArray) (r' : List ByteArray) : eqP (s :: r) (s' :: r') = (eqT s s' && eqP r r') := by
  apply bool_ext
  simp only [Bool.and_eq_true, eqP_iff, eqT_iff, List.cons.injEq]
theorem eqP_len {a b : List ByteArray} (h : a.length ≠ b.length) : eqP a b = false := by
  cases hh : eqP a b with
  | false => rfl
  | true => exact absurd (by rw [(eqP_iff a b).1 hh]) h
noncomputable def eqF (a b : List Fn) : Bool := @decide (a = b) (Classical.propDecidable _)
theorem eqF_iff (a b : List Fn) : eqF a b = true ↔ a = b := by unfold eqF; exact @decide_eq_true_iff _ (Classical.propDecidable _)
theorem eqF_cons (f : Fn) (r : List Fn) (f' : Fn) (r' : List Fn) : eqF (f :: r) (f' :: r') = ((eqT f.s f'.s && (eqP f.ps f'.ps && eqS f.b f'.b)) && eqF r r') := by
  apply bool_ext
  cases f; cases f'
  simp only [Bool.and_eq_true, eqF_iff, eqP_iff, eqS_iff, eqT_iff, List.cons.injEq, Fn.mk.injEq]
theorem eqF_len {a b : List Fn} (h : a.length ≠ b.length) : eqF a b = false := by
  cases hh : eqF a b with
  | false => rfl
  | true => exact absurd (by rw [(eqF_iff a b).1 hh]) h

set_option maxRecDepth 100000 in
set_option maxHeartbeats 4000000 in
theorem equalP_any (a a' : List ByteArray) (A A' : Option Addr) (cap cap' : Nat) (B : Nat) (w : World) (hv : RowV (PsIn w a) B a.length (.slice A a.length cap)) (hv' : RowV (PsIn w a') B a'.length (.slice A' a'.length cap')) :
    Calls Tryz.prog 63 #[.slice A a.length cap, .slice A' a'.length cap'] w fun e w' => e = .returned (.bool (eqP a a')) ∧ Below w.heap.size w w' := by
  obtain ⟨A1, cap1, e1, hc1, hc2, hrow⟩ := hv
  injection e1 with e2 e3 e4
  subst e2 e4
  clear e3
  obtain ⟨A1, cap1, e1, hc1', hc2', hrow'⟩ := hv'
  injection e1 with e2 e3 e4
  subst e2 e4
  clear e3
  obtain ⟨len, hlen⟩ : ∃ len, a.length = len := ⟨_, rfl⟩
  obtain ⟨len', hlen'⟩ : ∃ len, a'.length = len := ⟨_, rfl⟩
  by_cases hne : len = len'
  · subst hne
    rw [hlen] at hc1 hrow ⊢
    rw [hlen'] at hc1' hrow' ⊢
    have HL := Lib.hid hlen; clear hlen
    have HL' := Lib.hid hlen'; clear hlen'
    go_enter Tryz.func63, Tryz.ntmps63
    go_wp2
    go_loopw [13] (fun i wr => ∃ (k : Nat) (r r' : List ByteArray), i = .int .i64 k ∧ k + r.length = len ∧ k + r'.length = len ∧ eqP a a' = eqP r r' ∧ (0 < r.length → ∃ b o, A = some ⟨b, o, none⟩ ∧ b < B ∧ PsIn w r b (o + k)) ∧ (0 < r'.length → ∃ b o, A' = some ⟨b, o, none⟩ ∧ b < B ∧ PsIn w r' b (o + k)) ∧ ∃ n, wr = w.drewN n) (fun i _ => len - (intOf i).toNat)
    case atStart => exact ⟨0, a, a', rfl, by have := HL.out; omega, by have := HL'.out; omega, rfl, by simpa [HL.out] using hrow, by simpa [HL'.out] using hrow', 0, rfl⟩
    case round =>
      obtain ⟨k, r, r', rfl, hk, hk', ho, hr1, hr2, n, rfl⟩ := hrel
      have HO := Lib.hid ho; clear ho
      cases r with
      | nil =>
        have hk0 : k = len := by simpa using hk
        subst hk0
        cases r' with
        | cons s r => simp at hk'
        | nil =>
          clear hk hk' hrow hrow' hr1 hr2
          go_wp2
          go_ret
          exact ⟨ret_bool (by rw [HO.out]; exact ((eqP_iff _ _).2 rfl).symm), drewN_below _ _⟩
      | cons s r =>
        cases r' with
        | nil => simp at hk hk'; omega
        | cons s' r' =>
          obtain ⟨b, o, rfl, hb, c0, hs, hr⟩ := hr1 (by simp)
          obtain ⟨b', o', rfl, hb', c0', hs', hr'⟩ := hr2 (by simp)
          clear hrow hrow' hr1 hr2
          have hlt : k < len := by simp at hk; omega
          have hltc : k < cap := by omega
          have HK := Lib.hid hk; clear hk
          have HK' := Lib.hid hk'; clear hk'
          have HC := Lib.hid (eqP_cons s r s' r')
          have i0 : (0 : Int) ≤ (k : Int) := by omega
          have i1 : (k : Int) < (len : Int) := by omega
          cases ht : eqT s s' with
          | true =>
            have ht2 : (s.toList == s'.toList) = true := ht
            have ht3 : (s.toList != s'.toList) = false := by rw [bne, ht2]; rfl
            have HT := Lib.hid ht; clear ht
            go_wp2
            go_quiet (fail)
            go_wp2
            go_roundw
            case rel => exact ⟨k + 1, r, r', by go_num, by have := HK.out; simp at this; omega, by have := HK'.out; simp at this; omega, by rw [HO.out, HC.out, HT.out]; rfl, fun _ => ⟨b, o, rfl, hb, by rw [show o + (k + 1) = o + k + 1 by omega]; exact hr⟩, fun _ => ⟨b', o', rfl, hb', by rw [show o' + (k + 1) = o' + k + 1 by omega]; exact hr'⟩, _, rfl⟩
            case measure => simp [intOf]; omega
          | false =>
            have ht2 : (s.toList == s'.toList) = false := ht
            have ht3 : (s.toList != s'.toList) = true := by rw [bne, ht2]; rfl
            have HT := Lib.hid ht; clear ht
            go_wp2
            go_quiet (fail)
            go_wp2
            go_ret
            exact ⟨ret_bool (by rw [HO.out, HC.out, HT.out]; rfl), by rw [World.drewN_drewN]; exact drewN_below _ _⟩
  · have hE : eqP a a' = false := eqP_len (by omega)
    rw [hE, hlen, hlen']
    have hz : len ≤ 9223372036854775807 := by omega
    have hz' : len' ≤ 9223372036854775807 := by omega
    clear hrow hrow' hE
    go_enter Tryz.func63, Tryz.ntmps63
    go_wp2
    go_ret
    exact ⟨rfl, Below.refl _ _⟩

set_option maxHeartbeats 4000000 in
theorem sameFunc_any (s : ByteArray) (A : Option Addr) (k cap : Nat) (X : Option Addr) (kx capx : Nat) (s' : ByteArray) (A' : Option Addr) (k' cap' : Nat) (X' : Option Addr) (kx' capx' : Nat) (bl bx : Bool) (w : World)
    (H : ∀ W, Below w.heap.size w W → Calls Tryz.prog 63 #[.slice A k cap, .slice A' k' cap'] W fun e w' => e = .returned (.bool bl) ∧ Below W.heap.size W w')
    (HX : SameL 33 34 (.slice X kx capx) (.slice X' kx' capx') bx w) :
    Calls Tryz.prog 32 #[.agg #[.string s, .slice A k cap, .slice X kx capx], .agg #[.string s', .slice A' k' cap', .slice X' kx' capx']] w fun e w' =>
      e = .returned (.bool (eqT s s' && (bl && bx))) ∧ Below w.heap.size w w' := by
  have hW : ∀ o o', Below w.heap.size w ((w.alloc o).alloc o') := fun o o' => ((Below.refl _ _).alloc (Nat.le_refl _) o).alloc (by simp) o'
  have H2 := fun o o' => H _ (hW o o')
  simp only [World.size_alloc] at H2
  have HW := Lib.hid hW
  clear hW H
  have HX2 := fun W h => HX W h
  clear HX
  unfold eqT
  cases h2 : (s.toList == s'.toList) with
  | false =>
    clear H2 HX2
    go_enter Tryz.func32, Tryz.ntmps32
    go_wp2
    go_ret
    exact ⟨rfl, HW.out _ _⟩
  | true =>
    cases bl with
    | false =>
      clear HX2
      go_enter Tryz.func32, Tryz.ntmps32
      go_wp2_with (go_at_call 63; ((with_reducible refine (H2 _ _).mono ?_); rintro e w1 ⟨rfl, hb1⟩; obtain ⟨hc1, hf1⟩ := bcell hb1))
      go_ret
      exact ⟨rfl, (HW.out _ _).trans (hb1.mono (by omega))⟩
    | true =>
      go_enter Tryz.func32, Tryz.ntmps32
      go_wp2_with (first
        | (go_at_call 63; ((with_reducible refine (H2 _ _).mono ?_); rintro e w1 ⟨rfl, hb1⟩; obtain ⟨hc1, hf1⟩ := bcell hb1; have hq1 := (HW.out _ _).trans (hb1.mono (by omega)); have HX3 := HX2 w1 hq1))
        | (go_at_call 33; ((with_reducible refine HX3.mono ?_); rintro e w2 ⟨rfl, hb2⟩)))
      go_ret
      exact ⟨rfl, hq1.trans (hb2.mono hq1.size)⟩

set_option maxRecDepth 100000 in
set_option maxHeartbeats 8000000 in
theorem equalF_any (a a' : List Fn) (A A' : Option Addr) (cap cap' : Nat) (B : Nat) (w : World) (hB : B ≤ w.heap.size) (hv : FV B w (.slice A a.length cap) a) (hv' : FV B w (.slice A' a'.length cap') a') :
    Calls Tryz.prog 31 #[.slice A a.length cap, .slice A' a'.length cap', .func (.func 32) #[] #[]] w fun e w' => e = .returned (.bool (eqF a a')) ∧ Below w.heap.size w w' := by
  obtain ⟨A1, cap1, e1, hc1, hc2, hrow⟩ := hv
  injection e1 with e2 e3 e4
  subst e2 e4
  clear e3
  obtain ⟨A1, cap1, e1, hc1', hc2', hrow'⟩ := hv'
  injection e1 with e2 e3 e4
  subst e2 e4
  clear e3
  obtain ⟨len, hlen⟩ : ∃ len, a.length = len := ⟨_, rfl⟩
  obtain ⟨len', hlen'⟩ : ∃ len, a'.length = len := ⟨_, rfl⟩
  by_cases hne : len = len'
  · subst hne
    rw [hlen] at hc1 hrow ⊢
    rw [hlen'] at hc1' hrow' ⊢
    have HL := Lib.hid hlen; clear hlen
    have HL' := Lib.hid hlen'; clear hlen'
    go_enter Tryz.func31, Tryz.ntmps31
    go_wp2
    go_loopw [17] (fun i wr => ∃ (k : Nat) (r r' : List Fn), i = .int .i64 k ∧ k + r.length = len ∧ k + r'.length = len ∧ eqF a a' = eqF r r' ∧ (0 < r.length → ∃ b o, A = some ⟨b, o, none⟩ ∧ b < B ∧ FsIn B w r b (o + k * 3)) ∧ (0 < r'.length → ∃ b o, A' = some ⟨b, o, none⟩ ∧ b < B ∧ FsIn B w r' b (o + k * 3)) ∧ Below w.heap.size w wr) (fun i _ => len - (intOf i).toNat)
    case atStart => exact ⟨0, a, a', rfl, by have := HL.out; omega, by have := HL'.out; omega, rfl, by simpa [HL.out] using hrow, by simpa [HL'.out] using hrow', Below.refl _ _⟩
    case round =>
      obtain ⟨k, r, r', rfl, hk, hk', ho, hr1, hr2, hW⟩ := hrel
      have HO := Lib.hid ho; clear ho
      cases r with
      | nil =>
        have hk0 : k = len := by simpa  using hk
        subst hk0
        cases r' with
        | cons f r => simp at hk'
        | nil =>
          clear hk hk' hrow hrow' hr1 hr2
          go_wp2
          go_ret
          exact ⟨ret_bool (by rw [HO.out]; exact ((eqF_iff _ _).2 rfl).symm), hW⟩
      | cons f r =>
        cases r' with
        | nil => simp  at hk hk'; omega
        | cons f' r' =>
          obtain ⟨b, o, rfl, hb, c0, ⟨v1, c1, h3⟩, ⟨v2, c2, h4⟩, h6, hr⟩ := hr1 (by simp)
          obtain ⟨b', o', rfl, hb', c0', ⟨v1', c1', h3'⟩, ⟨v2', c2', h4'⟩, h6', hr'⟩ := hr2 (by simp)
          clear hrow hrow' hr1 hr2
          obtain ⟨A6, cap6, rfl, _⟩ := id h3
          obtain ⟨A7, cap7, rfl, _⟩ := id h3'
          obtain ⟨A8, cap8, rfl, _⟩ := id h4
          obtain ⟨A9, cap9, rfl, _⟩ := id h4'
          have hlt : k < len := by simp  at hk; omega
          have HK := Lib.hid hk; clear hk
          have HK' := Lib.hid hk'; clear hk'
          have hbw : b < w.heap.size := by omega
          have hbw' : b' < w.heap.size := by omega
          have hz : b < wr.heap.size := by have := hW.size; omega
          have hz' : b' < wr.heap.size := by have := hW.size; omega
          have d0 := (hW.cell (p := ⟨b, o + k * 3, none⟩) hbw).trans c0
          have d1 := (hW.cell (p := ⟨b, o + k * 3 + 1, none⟩) hbw).trans c1
          have d2 := (hW.cell (p := ⟨b, o + k * 3 + 2, none⟩) hbw).trans c2
          have d0' := (hW.cell (p := ⟨b', o' + k * 3, none⟩) hbw').trans c0'
          have d1' := (hW.cell (p := ⟨b', o' + k * 3 + 1, none⟩) hbw').trans c1'
          have d2' := (hW.cell (p := ⟨b', o' + k * 3 + 2, none⟩) hbw').trans c2'
          clear c0 c1 c2 c0' c1' c2'
          have hW2 : ∀ o o', Below w.heap.size w ((wr.alloc o).alloc o') := fun o o' => (hW.alloc hW.size o).alloc (by have := hW.size; simp; omega) o'
          have HS := fun C C' => sameFunc_any f.s A6 f.ps.length cap6 A8 f.b.len cap8 f'.s A7 f'.ps.length cap7 A9 f'.b.len cap9 (eqP f.ps f'.ps) (eqS f.b f'.b) ((wr.alloc C).alloc C')
            (fun W hb => equalP_any f.ps f'.ps A6 A7 cap6 cap7 B W (h3.imp (Nat.le_refl _) fun b o hb' hp => PsIn.below (((hW2 C C').trans (hb.mono (hW2 C C').size)).mono hB) hb' hp) (h3'.imp (Nat.le_refl _) fun b o hb' hp => PsIn.below (((hW2 C C').trans (hb.mono (hW2 C C').size)).mono hB) hb' hp))
            (fun W hb => equalS_any _ f.b f'.b A8 A9 cap8 cap9 B W (Nat.le_refl _) (Nat.le_trans hB ((hW2 C C').trans (hb.mono (hW2 C C').size)).size) (SV.below h4 (((hW2 C C').trans (hb.mono (hW2 C C').size)).mono hB) (Nat.le_refl _)) (SV.below h4' (((hW2 C C').trans (hb.mono (hW2 C C').size)).mono hB) (Nat.le_refl _)))
          have HC := Lib.hid (eqF_cons f r f' r')
          clear h3 h3' h4 h4'
          have HW2 := Lib.hid hW2
          clear hW2
          obtain ⟨bb, hbb⟩ : ∃ bb, (eqT f.s f'.s && (eqP f.ps f'.ps && eqS f.b f'.b)) = bb := ⟨_, rfl⟩
          rw [hbb] at HC
          have HS := fun C C' => (HS C C')
          simp only [hbb] at HS
          clear hbb
          cases bb with
          | false =>
            go_wp2_with (go_at_call 32; ((with_reducible refine (HS _ _).mono ?_); rintro e w1 ⟨rfl, hb1⟩))
            go_ret
            exact ⟨ret_bool (by rw [HO.out, HC.out]; rfl), (HW2.out _ _).trans (hb1.mono (HW2.out _ _).size)⟩
          | true =>
            go_wp2_with (go_at_call 32; ((with_reducible refine (HS _ _).mono ?_); rintro e w1 ⟨rfl, hb1⟩))
            go_roundw
            case rel => exact ⟨k + 1, r, r', by go_num, by have := HK.out; simp  at this; omega, by have := HK'.out; simp  at this; omega, by rw [HO.out, HC.out]; rfl, fun _ => ⟨b, o, rfl, hb, by rw [show o + (k + 1) * 3 = o + k * 3 + 3 by omega]; exact hr⟩, fun _ => ⟨b', o', rfl, hb', by rw [show o' + (k + 1) * 3 = o' + k * 3 + 3 by omega]; exact hr'⟩, (HW2.out _ _).trans (hb1.mono (HW2.out _ _).size)⟩
            case measure => simp [intOf]; omega
  · have hE : eqF a a' = false := eqF_len (by omega)
    rw [hE, hlen, hlen']
    have hz : len ≤ 9223372036854775807 := by omega
    have hz' : len' ≤ 9223372036854775807 := by omega
    clear hrow hrow' hE
    go_enter Tryz.func31, Tryz.ntmps31
    go_wp2
    go_ret
    exact ⟨rfl, Below.refl _ _⟩


noncomputable def eqG (a b : Pg) : Bool := eqF a.fs b.fs && eqS a.m b.m
theorem eqG_iff (a b : Pg) : eqG a b = true ↔ a = b := by
  unfold eqG
  cases a; cases b
  simp only [Bool.and_eq_true, eqF_iff, eqS_iff, Pg.mk.injEq]

set_option maxHeartbeats 4000000 in
theorem equal_any (v v' : Value) (p p' : Pg) (w : World) (B : Nat) (hB : B ≤ w.heap.size) (hv : PgV B w v p) (hv' : PgV B w v' p') :
    Calls Tryz.prog 15 #[v, v'] w fun e w' => e = .returned (.bool (eqG p p')) ∧ Below w.heap.size w w' := by
  unfold eqG
  obtain ⟨A, cap, X, capx, rfl, h0, h1⟩ := hv
  obtain ⟨A', cap', X', capx', rfl, h0', h1'⟩ := hv'
  have hW : ∀ o o', Below w.heap.size w ((w.alloc o).alloc o') := fun o o' => ((Below.refl _ _).alloc (Nat.le_refl _) o).alloc (by simp) o'
  have H2 := fun o o' => equalF_any p.fs p'.fs A A' cap cap' B ((w.alloc o).alloc o') (Nat.le_trans hB (hW o o').size) (h0.below ((hW o o').mono hB) (Nat.le_refl _)) (h0'.below ((hW o o').mono hB) (Nat.le_refl _))
  have HX2 := fun W (hb : Below w.heap.size w W) => equalS_any _ p.m p'.m X X' capx capx' B W (Nat.le_refl _) (Nat.le_trans hB hb.size) (SV.below h1 (hb.mono hB) (Nat.le_refl _)) (SV.below h1' (hb.mono hB) (Nat.le_refl _))
  simp only [World.size_alloc] at H2
  have HW := Lib.hid hW
  clear hW h0 h0' h1 h1'
  cases hf : eqF p.fs p'.fs with
  | false =>
    clear HX2
    go_enter Tryz.func15, Tryz.ntmps15
    go_wp2_with (go_at_call 31; ((with_reducible refine (H2 _ _).mono ?_); rintro e w1 ⟨rfl, hb1⟩; obtain ⟨hc1, hf1⟩ := bcell hb1))
    go_ret
    exact ⟨rfl, (HW.out _ _).trans (hb1.mono (by omega))⟩
  | true =>
    go_enter Tryz.func15, Tryz.ntmps15
    go_wp2_with (first
      | (go_at_call 31; ((with_reducible refine (H2 _ _).mono ?_); rintro e w1 ⟨rfl, hb1⟩; obtain ⟨hc1, hf1⟩ := bcell hb1; have hq1 := (HW.out _ _).trans (hb1.mono (by omega)); have HX3 := HX2 w1 hq1))
      | (go_at_call 33; ((with_reducible refine HX3.mono ?_); rintro e w2 ⟨rfl, hb2⟩)))
    go_ret
    exact ⟨rfl, hq1.trans (hb2.mono hq1.size)⟩

end Go.Proofs.YtppagjhmlgkamaaGreatDoor
