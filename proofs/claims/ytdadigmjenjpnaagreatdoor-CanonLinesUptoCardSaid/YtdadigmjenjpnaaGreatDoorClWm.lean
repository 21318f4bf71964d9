/-
  CanonLines: how many lines statements have, walked.
-/
import Derived.Test.YtdadigmjenjpnaaGreatDoorCq5
import Derived.Test.YtdadigmjenjpnaaGreatDoorClPm
import Derived.BigQuiet
namespace Go.Proofs.YtdadigmjenjpnaaGreatDoor
open Go Go.RowKit Go.Lib

theorem SV.drewC {B : Nat} {w : World} {v : Value} {l : SS} (h : SV B w v l) (hB : B ≤ w.heap.size) (n : Nat) : SV B (w.drewN n) v l := SV.below h (((below_drew (Below.refl w.heap.size w) n)).mono hB) (Nat.le_refl _)
theorem drew_rowC {B : Nat} {w : World} {r : SS} {A : Option Addr} {k : Nat} {q : Nat} (hB : B ≤ w.heap.size) (h : 0 < r.len → ∃ b o, A = some ⟨b, o, none⟩ ∧ b < B ∧ r.In B w b (o + k * 6)) : 0 < r.len → ∃ b o, A = some ⟨b, o, none⟩ ∧ b < B ∧ r.In B (w.drewN q) b (o + k * 6) :=
  fun h0 => by
    obtain ⟨b, o, e, hb, hi⟩ := h h0
    exact ⟨b, o, e, hb, hi.below ((below_drew (Below.refl w.heap.size w) q).mono hB) (Nat.le_refl _) hb⟩

/-- What `lines` does, at one row of statements. -/
def LNok (x : SS) : Prop := ∀ (B : Nat) (W : World) (v : Value), B ≤ W.heap.size → SV B W v x → x.lns ≤ 1152921504606846976 →
  Calls Tryz.prog 18 #[v] W fun e w' => e = .returned (.int .i64 x.lns) ∧ ∃ q, w' = W.drewN q
def SS.lnok : SS → Prop
  | .nil => True
  | .cons _ _ _ _ x y r => LNok x ∧ LNok y ∧ r.lnok

set_option maxHeartbeats 4000000 in
set_option maxRecDepth 100000 in
theorem lines_at (l : SS) (hok : l.lnok) : LNok l := by
  intro B W v hB hv hmax
  obtain ⟨A, cap, rfl, hc1, hc2, hrow⟩ := hv
  obtain ⟨len, hl0⟩ : ∃ len, l.len = len := ⟨_, rfl⟩
  obtain ⟨M, hM⟩ : ∃ M, l.lns = M := ⟨_, rfl⟩
  rw [hl0] at hc1 hrow ⊢
  rw [hM] at hmax ⊢
  have HL := hid hl0; clear hl0
  go_enter Tryz.func18, Tryz.ntmps18
  go_wp2
  go_loopw [3, 4] (fun n i wr => ∃ (j : Nat) (r : SS) (m q : Nat), n = .int .i64 m ∧ i = .int .i64 j ∧ j + r.len = len ∧ r.lnok ∧ m + r.lns = M ∧
      (0 < r.len → ∃ b o, A = some ⟨b, o, none⟩ ∧ b < B ∧ r.In B wr b (o + j * 6)) ∧ B ≤ wr.heap.size ∧ wr = W.drewN q) (fun _ i _ => len - (RowKit.intOf i).toNat)
  case atStart => exact ⟨0, l, 0, 0, rfl, rfl, by have := HL.out; omega, hok, by omega, by simpa [HL.out] using hrow, hB, rfl⟩
  case round =>
    obtain ⟨j, r, m, q, rfl, rfl, hj, hr, hm, hr1, hBr, hwr⟩ := hrel
    have HWR := hid hwr; clear hwr
    cases r with
    | nil =>
      have hj0 : j = len := by simpa [SS.len] using hj
      subst hj0
      have hm0 : m = M := by simpa [SS.lns] using hm
      subst hm0
      clear hj hrow hr1 hm
      go_wp2
      go_ret
      exact ⟨rfl, q, HWR.out⟩
    | cons op1 s1 n1 l1 x1 y1 r1 =>
      obtain ⟨bo, o, rfl, hbo, c0, c1, c2, ⟨v3, c3, h3⟩, ⟨v4, c4, h4⟩, ⟨v5, c5, h5⟩, h6, hrr⟩ := hr1 (by simp [SS.len])
      clear hrow hr1
      have hlt : j < len := by simp [SS.len] at hj; omega
      have hltc : j < cap := by omega
      obtain ⟨hr1, hr2, hr3⟩ := hr
      obtain ⟨a, ha⟩ : ∃ a, x1.lns = a := ⟨_, rfl⟩
      obtain ⟨b, hb⟩ : ∃ b, y1.lns = b := ⟨_, rfl⟩
      simp only [SS.lns, ha, hb] at hm
      obtain ⟨A4, cap4, rfl, _⟩ := id h4
      obtain ⟨A5, cap5, rfl, _⟩ := id h5
      have HX := fun n => hr1 B (wr.drewN n) _ hBr (SV.drewC h4 hBr n) (by omega)
      have HY := fun n => hr2 B (wr.drewN n) _ hBr (SV.drewC h5 hBr n) (by omega)
      rw [ha] at HX
      rw [hb] at HY
      clear h3 h4 h5 c1 c2 c3 hr1 hr2 ha hb
      obtain ⟨kx, hkx⟩ : ∃ kx, x1.len = kx := ⟨_, rfl⟩
      obtain ⟨ky, hky⟩ : ∃ ky, y1.len = ky := ⟨_, rfl⟩
      rw [hkx] at c4 HX
      rw [hky] at c5 HY hm
      clear hkx hky
      have HJ := hid hj; clear hj
      have i0 : (0 : Int) ≤ (j : Int) := by omega
      have i1 : (j : Int) < (len : Int) := by omega
      rcases (show op1 = 7 ∨ op1 = 8 ∨ (op1 ≠ 7 ∧ op1 ≠ 8) by omega) with rfl | rfl | ⟨g7, g8⟩
      · by_cases hy : 0 < ky
        · have hyd : decide ((0 : Int) < (ky : Int)) = true := decide_eq_true (by omega)
          simp only [show (7 : Int) = 8 ↔ False by decide, hy, if_true, or_false] at hm
          have k1 : IntKind.i64.wrap (((m : Int) + 1 + 1 + 1) + (a : Int)) = ((m : Int) + 1 + 1 + 1) + (a : Int) := IntWalk.i64_in _ (by omega)
          have k2 : IntKind.i64.wrap (((m : Int) + 1 + 1 + 1) + (a : Int) + (b : Int)) = ((m : Int) + 1 + 1 + 1) + (a : Int) + (b : Int) := IntWalk.i64_in _ (by omega)
          go_wp2
          go_quiet (first
            | (go_at_call 18; with_reducible exact Calls.quiet_of (HX _))
            | (go_at_call 18; with_reducible exact Calls.quiet_of (HY _)))
          go_wp2
          go_roundw
          case rel => exact ⟨j + 1, r1, m + 3 + a + b, _, by go_num, by go_num, by have := HJ.out; simp [SS.len] at this; omega, hr3, by omega, drew_rowC hBr fun _ => ⟨bo, o, rfl, hbo, by rw [show o + (j + 1) * 6 = o + j * 6 + 6 by omega]; exact hrr⟩, hBr, by rw [HWR.out, World.drewN_drewN]⟩
          case measure => simp [RowKit.intOf]; omega
        · have hyd : decide ((0 : Int) < (ky : Int)) = false := decide_eq_false (by omega)
          simp only [show (7 : Int) = 8 ↔ False by decide, hy, if_true, if_false, or_false] at hm
          have k1 : IntKind.i64.wrap (((m : Int) + 1 + 1) + (a : Int)) = ((m : Int) + 1 + 1) + (a : Int) := IntWalk.i64_in _ (by omega)
          have k2 : IntKind.i64.wrap (((m : Int) + 1 + 1) + (a : Int) + (b : Int)) = ((m : Int) + 1 + 1) + (a : Int) + (b : Int) := IntWalk.i64_in _ (by omega)
          go_wp2
          go_quiet (first
            | (go_at_call 18; with_reducible exact Calls.quiet_of (HX _))
            | (go_at_call 18; with_reducible exact Calls.quiet_of (HY _)))
          go_wp2
          go_roundw
          case rel => exact ⟨j + 1, r1, m + 2 + a + b, _, by go_num, by go_num, by have := HJ.out; simp [SS.len] at this; omega, hr3, by omega, drew_rowC hBr fun _ => ⟨bo, o, rfl, hbo, by rw [show o + (j + 1) * 6 = o + j * 6 + 6 by omega]; exact hrr⟩, hBr, by rw [HWR.out, World.drewN_drewN]⟩
          case measure => simp [RowKit.intOf]; omega
      · by_cases hy : 0 < ky
        · have hyd : decide ((0 : Int) < (ky : Int)) = true := decide_eq_true (by omega)
          simp only [show (8 : Int) = 7 ↔ False by decide, hy, if_true, or_true] at hm
          have k1 : IntKind.i64.wrap (((m : Int) + 1 + 1 + 1) + (a : Int)) = ((m : Int) + 1 + 1 + 1) + (a : Int) := IntWalk.i64_in _ (by omega)
          have k2 : IntKind.i64.wrap (((m : Int) + 1 + 1 + 1) + (a : Int) + (b : Int)) = ((m : Int) + 1 + 1 + 1) + (a : Int) + (b : Int) := IntWalk.i64_in _ (by omega)
          go_wp2
          go_quiet (first
            | (go_at_call 18; with_reducible exact Calls.quiet_of (HX _))
            | (go_at_call 18; with_reducible exact Calls.quiet_of (HY _)))
          go_wp2
          go_roundw
          case rel => exact ⟨j + 1, r1, m + 3 + a + b, _, by go_num, by go_num, by have := HJ.out; simp [SS.len] at this; omega, hr3, by omega, drew_rowC hBr fun _ => ⟨bo, o, rfl, hbo, by rw [show o + (j + 1) * 6 = o + j * 6 + 6 by omega]; exact hrr⟩, hBr, by rw [HWR.out, World.drewN_drewN]⟩
          case measure => simp [RowKit.intOf]; omega
        · have hyd : decide ((0 : Int) < (ky : Int)) = false := decide_eq_false (by omega)
          simp only [show (8 : Int) = 7 ↔ False by decide, hy, if_true, if_false, or_true] at hm
          have k1 : IntKind.i64.wrap (((m : Int) + 1 + 1) + (a : Int)) = ((m : Int) + 1 + 1) + (a : Int) := IntWalk.i64_in _ (by omega)
          have k2 : IntKind.i64.wrap (((m : Int) + 1 + 1) + (a : Int) + (b : Int)) = ((m : Int) + 1 + 1) + (a : Int) + (b : Int) := IntWalk.i64_in _ (by omega)
          go_wp2
          go_quiet (first
            | (go_at_call 18; with_reducible exact Calls.quiet_of (HX _))
            | (go_at_call 18; with_reducible exact Calls.quiet_of (HY _)))
          go_wp2
          go_roundw
          case rel => exact ⟨j + 1, r1, m + 2 + a + b, _, by go_num, by go_num, by have := HJ.out; simp [SS.len] at this; omega, hr3, by omega, drew_rowC hBr fun _ => ⟨bo, o, rfl, hbo, by rw [show o + (j + 1) * 6 = o + j * 6 + 6 by omega]; exact hrr⟩, hBr, by rw [HWR.out, World.drewN_drewN]⟩
          case measure => simp [RowKit.intOf]; omega
      · have b7 : (op1 == 7) = false := by simpa using g7
        have b8 : (op1 == 8) = false := by simpa using g8
        by_cases hy : 0 < ky
        · have hyd : decide ((0 : Int) < (ky : Int)) = true := decide_eq_true (by omega)
          simp only [g7, g8, hy, if_true, if_false, or_self] at hm
          have k1 : IntKind.i64.wrap (((m : Int) + 1 + 1) + (a : Int)) = ((m : Int) + 1 + 1) + (a : Int) := IntWalk.i64_in _ (by omega)
          have k2 : IntKind.i64.wrap (((m : Int) + 1 + 1) + (a : Int) + (b : Int)) = ((m : Int) + 1 + 1) + (a : Int) + (b : Int) := IntWalk.i64_in _ (by omega)
          go_wp2
          go_quiet (first
            | (go_at_call 18; with_reducible exact Calls.quiet_of (HX _))
            | (go_at_call 18; with_reducible exact Calls.quiet_of (HY _)))
          go_wp2
          go_roundw
          case rel => exact ⟨j + 1, r1, m + 2 + a + b, _, by go_num, by go_num, by have := HJ.out; simp [SS.len] at this; omega, hr3, by omega, drew_rowC hBr fun _ => ⟨bo, o, rfl, hbo, by rw [show o + (j + 1) * 6 = o + j * 6 + 6 by omega]; exact hrr⟩, hBr, by rw [HWR.out, World.drewN_drewN]⟩
          case measure => simp [RowKit.intOf]; omega
        · have hyd : decide ((0 : Int) < (ky : Int)) = false := decide_eq_false (by omega)
          simp only [g7, g8, hy, if_false, or_self] at hm
          have k1 : IntKind.i64.wrap (((m : Int) + 1) + (a : Int)) = ((m : Int) + 1) + (a : Int) := IntWalk.i64_in _ (by omega)
          have k2 : IntKind.i64.wrap (((m : Int) + 1) + (a : Int) + (b : Int)) = ((m : Int) + 1) + (a : Int) + (b : Int) := IntWalk.i64_in _ (by omega)
          go_wp2
          go_quiet (first
            | (go_at_call 18; with_reducible exact Calls.quiet_of (HX _))
            | (go_at_call 18; with_reducible exact Calls.quiet_of (HY _)))
          go_wp2
          go_roundw
          case rel => exact ⟨j + 1, r1, m + 1 + a + b, _, by go_num, by go_num, by have := HJ.out; simp [SS.len] at this; omega, hr3, by omega, drew_rowC hBr fun _ => ⟨bo, o, rfl, hbo, by rw [show o + (j + 1) * 6 = o + j * 6 + 6 by omega]; exact hrr⟩, hBr, by rw [HWR.out, World.drewN_drewN]⟩
          case measure => simp [RowKit.intOf]; omega

theorem lines_any : ∀ l : SS, l.lnok
  | .nil => trivial
  | .cons _ _ _ _ x y r => ⟨lines_at x (lines_any x), lines_at y (lines_any y), lines_any r⟩

end Go.Proofs.YtdadigmjenjpnaaGreatDoor
