/-
  MeterParts's walk: charged in parts it is the same, as long as it lasts.
-/
import Derived.Test.YtpeblpaadpmceaaMtR
import Derived.Deep.RegionHeld3
namespace Go.Proofs.Ytpeblpaadpmceaa
open Go Go.RowKit Go.Lib

theorem and_20 (n : Int) : ∃ N : Nat, bits BinOp.and IntKind.u32 n 1048575 = (N : Int) ∧ N ≤ 1048575 := by
  refine ⟨(BitVec.ofInt 32 n &&& BitVec.ofInt 32 1048575).toNat, ?_, ?_⟩
  · show IntKind.u32.wrap ((BitVec.ofInt 32 n &&& BitVec.ofInt 32 1048575).toNat : Int) = _
    have h1 : (BitVec.ofInt 32 n &&& BitVec.ofInt 32 1048575).toNat ≤ 1048575 := by
      rw [BitVec.toNat_and]; exact Nat.and_le_right
    generalize (BitVec.ofInt 32 n &&& BitVec.ofInt 32 1048575).toNat = z at h1 ⊢
    have h2 : IntKind.u32.wrap (z : Int) = (z : Int) % 4294967296 := by unfold IntKind.wrap; simp [IntKind.bits, IntKind.signed]
    rw [h2]; omega
  · rw [BitVec.toNat_and]; exact Nat.and_le_right
def PRel (W : World) (g g2 n : Nat) (f : Int) (u i : Value) (wr : World) : Prop := ∃ (k S : Nat) (a : Int), i = .int .i64 k ∧ k ≤ n ∧ k ≤ 100 ∧ u = .int .i64 (S : Int) ∧ S ≤ 1048575 * k ∧ a ≤ S ∧ (a = S ∨ f < a) ∧ Mt W g g2 a 0 f wr
set_option maxRecDepth 100000 in
set_option maxHeartbeats 8000000 in
theorem parts_walk (x : Int) (X : Option Addr) (n cap : Nat) (l : List Int) (W : World) (hl : l.length = n) (_hnc : n ≤ cap) (_hcm : cap ≤ 9223372036854775807) (hrow : IRow .u32 W X l) :
    Calls Try.prog 5 #[.int .i64 x, .slice X n cap] W fun e W' => e = .returned (.bool true) ∧ Below W.heap.size W W' := by
  have HS := Lib.hid (shown_w W)
  have HR := Lib.hid hrow
  have HL := Lib.hid hl
  obtain ⟨f, hf⟩ : ∃ f, fuelOf x = f := ⟨_, rfl⟩
  clear hrow hl
  go_enter Try.func5, Try.ntmps5
  go_upto_region 2 with (go_at_call 9; ((with_reducible refine HS.out.mono ?_); rintro e w1 ⟨rfl, b1⟩))
  have N1 := ms_new x b1
  rw [hf] at N1
  have HN := Lib.hid N1
  clear N1 b1
  go_upto_region 3 with (go_at_call 10; ((with_reducible refine HN.out.mono ?_); clear HN; rintro e w2 ⟨rfl, h2⟩; obtain ⟨g, hg⟩ : ∃ g, w1.heap.size = g := ⟨_, rfl⟩; rw [hg] at h2 ⊢; clear hg))
  have HN2 := Lib.hid (h2.new2 hf)
  clear h2 hf
  go_upto_region 6 with (go_at_call 10; ((with_reducible refine HN2.out.mono ?_); clear HN2; rintro e w3 ⟨rfl, h3⟩; obtain ⟨g2, hg⟩ : ∃ g, w2.heap.size = g := ⟨_, rfl⟩; rw [hg] at h3 ⊢; clear hg))
  go_wp2
  go_loopw [8, 9] (fun u i wr => PRel W g g2 n f u i wr) (fun _ i _ => n - (RowKit.intOf i).toNat)
  case atStart => exact ⟨0, 0, 0, rfl, Nat.zero_le _, by decide, rfl, by decide, by decide, .inl rfl, h3⟩
  case round =>
    obtain ⟨k, S, a, rfl, hk, hk1, rfl, hS, ha, hor, hh⟩ := hrel
    clear h3
    by_cases hlt : k < n ∧ k < 100
    · obtain ⟨s, hs⟩ : ∃ s, l[k]? = some s := ⟨l[k]'(by have := HL.out; omega), List.getElem?_eq_getElem _⟩
      obtain ⟨b, o, rfl, hcell⟩ := HR.out.all hs
      have i0 : decide ((k : Int) < (n : Int)) = true := decide_eq_true (by omega)
      have i0' : decide (k < n) = true := decide_eq_true (by omega)
      have i1 : decide ((k : Int) < 100) = true := decide_eq_true (by omega)
      have i1' : decide (k < 100) = true := decide_eq_true (by omega)
      have hc0 := hcell _ hh.1.below
      have HC := Lib.hid hcell
      have HLT := Lib.hid hlt
      have hkn : k < n := hlt.1
      clear hcell hs hlt
      obtain ⟨C, hC, hC1⟩ := and_20 s
      have wC : IntKind.i64.wrap (C : Int) = (C : Int) := IntWalk.i64_in _ (by omega)
      have wS : IntKind.i64.wrap ((S : Int) + (C : Int)) = (S : Int) + (C : Int) := IntWalk.i64_in _ (by omega)
      have f2 := hh.1.2.2.1.f1
      obtain ⟨c, hc, hc1, hc2⟩ : ∃ c, chA a f (C : Int) = c ∧ c ≤ (S : Int) + C ∧ (c = (S : Int) + C ∨ f < c) := by
        refine ⟨_, rfl, ?_⟩
        unfold chA
        split <;> omega
      have C1 := hh.chargeA (C : Int)
      rw [hc] at C1
      have HC1 := Lib.hid C1
      have HI := Lib.hid (show c ≤ (S : Int) + C ∧ (c = (S : Int) + C ∨ f < c) ∧ S + C ≤ 1048575 * (k + 1) from ⟨hc1, hc2, by omega⟩)
      clear C1 hh hS ha hor f2 hc hc1 hc2 hC1
      go_wp2_with (go_at_call 12; ((with_reducible refine HC1.out.mono ?_); rintro e' w3 ⟨rfl, h3⟩))
      go_roundw
      case rel => exact ⟨k + 1, S + C, c, by go_num, HLT.out.1, HLT.out.2, by go_num, HI.out.2.2, by rw [Int.natCast_add]; exact HI.out.1, by rw [Int.natCast_add]; exact HI.out.2.1, h3⟩
      case measure => have := HLT.out; simp [RowKit.intOf]; omega
    · have f2 := hh.1.2.2.1.f1
      have f0 := hh.1.2.2.1.f0
      obtain ⟨ob, hoa, hos⟩ : ∃ ob, decide (f < a) = ob ∧ decide (f < (S : Int)) = ob := by
        by_cases h : f < a
        · exact ⟨true, decide_eq_true h, decide_eq_true (by omega)⟩
        · exact ⟨false, decide_eq_false h, decide_eq_false (by omega)⟩
      have hS2 : (S : Int) ≤ 104857500 := by omega
      have C1 := hh.chargeB (S : Int)
      have e2 : chA 0 f (S : Int) = (S : Int) := by unfold chA; rw [if_neg (by omega), Int.zero_add]
      have e1 : chE 0 f (S : Int) = if ob then 8 else 0 := by
        unfold chE
        rw [if_neg (by omega), Int.zero_add]
        cases ob
        · rw [if_neg (of_decide_eq_false hos)]; rfl
        · rw [if_pos (of_decide_eq_true hos)]; rfl
      rw [e1, e2] at C1
      have O1 := Lib.hid (fun (w : World) (h : Mt W g g2 a S f w) => h.1.over)
      have O2 := Lib.hid (fun (w : World) (h : Mt W g g2 a S f w) => h.2.1.over)
      rw [hoa] at O1
      rw [hos] at O2
      have W1 := Lib.hid (fun (w : World) (h : Mt W g g2 a S f w) => h.1.now)
      have W2 := Lib.hid (fun (w : World) (h : Mt W g g2 a S f w) => h.2.1.now)
      have HB := Lib.hid hh.1.below
      have g0 : decide (a ≤ (S : Int)) = true := decide_eq_true ha
      cases ob
      · have q0 : a = (S : Int) := hor.resolve_right (of_decide_eq_false hoa)
        subst q0
        rw [if_neg Bool.false_ne_true] at C1
        have HC1 := Lib.hid C1
        clear C1 hh hS ha hor f2 f0 hoa hos hS2 e1 e2 g0
        by_cases h1 : k < n
        · have i0 : decide ((k : Int) < (n : Int)) = true := decide_eq_true (by omega)
          have i0' : decide (k < n) = true := decide_eq_true (by omega)
          have i1 : decide ((k : Int) < 100) = false := decide_eq_false (by omega)
          have i1' : decide (k < 100) = false := decide_eq_false (by omega)
          clear hlt
          go_wp2_with (first
            | (go_at_call 12; ((with_reducible refine HC1.out.mono ?_); rintro e' w3 ⟨rfl, h3⟩; have HT := Lib.hid (fun m => h3.drewN m)))
            | (go_at_call 15; ((with_reducible refine (O1.out _ h3).mono ?_); rintro e' w4 ⟨rfl, n4, hq4⟩; rw [hq4]; clear hq4 w4))
            | (go_at_call 15; ((with_reducible refine (O2.out _ (HT.out _)).mono ?_); rintro e' w5 ⟨rfl, n5, hq5⟩; rw [hq5]; clear hq5 w5))
            | (go_at_call 14; ((with_reducible refine (W2.out _ (HT.out _)).mono ?_); rintro e' w7 ⟨rfl, hq7⟩; rw [hq7]; clear hq7 w7))
            | (go_at_call 14; ((with_reducible refine (W1.out _ (HT.out _)).mono ?_); rintro e' w9 ⟨rfl, hq9⟩; rw [hq9]; clear hq9 w9)))
          go_ret
          exact ⟨rfl, (HT.out _).1.below⟩
        · have i0 : decide ((k : Int) < (n : Int)) = false := decide_eq_false (by omega)
          have i0' : decide (k < n) = false := decide_eq_false (by omega)
          clear hlt
          go_wp2_with (first
            | (go_at_call 12; ((with_reducible refine HC1.out.mono ?_); rintro e' w3 ⟨rfl, h3⟩; have HT := Lib.hid (fun m => h3.drewN m)))
            | (go_at_call 15; ((with_reducible refine (O1.out _ h3).mono ?_); rintro e' w4 ⟨rfl, n4, hq4⟩; rw [hq4]; clear hq4 w4))
            | (go_at_call 15; ((with_reducible refine (O2.out _ (HT.out _)).mono ?_); rintro e' w5 ⟨rfl, n5, hq5⟩; rw [hq5]; clear hq5 w5))
            | (go_at_call 14; ((with_reducible refine (W2.out _ (HT.out _)).mono ?_); rintro e' w7 ⟨rfl, hq7⟩; rw [hq7]; clear hq7 w7))
            | (go_at_call 14; ((with_reducible refine (W1.out _ (HT.out _)).mono ?_); rintro e' w9 ⟨rfl, hq9⟩; rw [hq9]; clear hq9 w9)))
          go_ret
          exact ⟨rfl, (HT.out _).1.below⟩
      · have q1 := of_decide_eq_true hoa
        rw [if_pos rfl] at C1
        have HC1 := Lib.hid C1
        clear C1 hh hS ha hor f2 f0 hoa hos hS2 e1 e2 q1
        by_cases h1 : k < n
        · have i0 : decide ((k : Int) < (n : Int)) = true := decide_eq_true (by omega)
          have i0' : decide (k < n) = true := decide_eq_true (by omega)
          have i1 : decide ((k : Int) < 100) = false := decide_eq_false (by omega)
          have i1' : decide (k < 100) = false := decide_eq_false (by omega)
          clear hlt
          go_wp2_with (first
            | (go_at_call 12; ((with_reducible refine HC1.out.mono ?_); rintro e' w3 ⟨rfl, h3⟩; have HT := Lib.hid (fun m => h3.drewN m)))
            | (go_at_call 15; ((with_reducible refine (O1.out _ h3).mono ?_); rintro e' w4 ⟨rfl, n4, hq4⟩; rw [hq4]; clear hq4 w4))
            | (go_at_call 15; ((with_reducible refine (O2.out _ (HT.out _)).mono ?_); rintro e' w5 ⟨rfl, n5, hq5⟩; rw [hq5]; clear hq5 w5))
            | (go_at_call 14; ((with_reducible refine (W2.out _ (HT.out _)).mono ?_); rintro e' w7 ⟨rfl, hq7⟩; rw [hq7]; clear hq7 w7))
            | (go_at_call 14; ((with_reducible refine (W1.out _ (HT.out _)).mono ?_); rintro e' w9 ⟨rfl, hq9⟩; rw [hq9]; clear hq9 w9)))
          go_ret
          exact ⟨rfl, (HT.out _).1.below⟩
        · have i0 : decide ((k : Int) < (n : Int)) = false := decide_eq_false (by omega)
          have i0' : decide (k < n) = false := decide_eq_false (by omega)
          clear hlt
          go_wp2_with (first
            | (go_at_call 12; ((with_reducible refine HC1.out.mono ?_); rintro e' w3 ⟨rfl, h3⟩; have HT := Lib.hid (fun m => h3.drewN m)))
            | (go_at_call 15; ((with_reducible refine (O1.out _ h3).mono ?_); rintro e' w4 ⟨rfl, n4, hq4⟩; rw [hq4]; clear hq4 w4))
            | (go_at_call 15; ((with_reducible refine (O2.out _ (HT.out _)).mono ?_); rintro e' w5 ⟨rfl, n5, hq5⟩; rw [hq5]; clear hq5 w5))
            | (go_at_call 14; ((with_reducible refine (W2.out _ (HT.out _)).mono ?_); rintro e' w7 ⟨rfl, hq7⟩; rw [hq7]; clear hq7 w7))
            | (go_at_call 14; ((with_reducible refine (W1.out _ (HT.out _)).mono ?_); rintro e' w9 ⟨rfl, hq9⟩; rw [hq9]; clear hq9 w9)))
          go_ret
          exact ⟨rfl, (HT.out _).1.below⟩
end Go.Proofs.Ytpeblpaadpmceaa
