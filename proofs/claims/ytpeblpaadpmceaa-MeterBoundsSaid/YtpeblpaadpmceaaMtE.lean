/-
  MeterBounds's walk: the clock never goes back, nor above what it may be; behind the end it stands.
-/
import Derived.Test.YtpeblpaadpmceaaMtR
import Derived.Deep.RegionHeld3
namespace Go.Proofs.Ytpeblpaadpmceaa
open Go Go.RowKit Go.Lib

def BRel (W : World) (g n : Nat) (f : Int) (u v i : Value) (wr : World) : Prop := ∃ (k : Nat) (a : Int) (ob : Bool), i = .int .i64 k ∧ k ≤ n ∧ k ≤ 200 ∧ u = .int .i64 a ∧ v = .bool ob ∧ decide (f < a) = ob ∧ Ms W g a f wr
set_option maxRecDepth 100000 in
set_option maxHeartbeats 8000000 in
theorem bounds_walk (x : Int) (X : Option Addr) (n cap : Nat) (l : List Int) (W : World) (hl : l.length = n) (_hnc : n ≤ cap) (_hcm : cap ≤ 9223372036854775807) (hrow : IRow .i64 W X l) :
    Calls Try.prog 4 #[.int .i64 x, .slice X n cap] W fun e W' => e = .returned (.bool true) ∧ Below W.heap.size W W' := by
  have HS := Lib.hid (shown_w W)
  have HR := Lib.hid hrow
  have HL := Lib.hid hl
  obtain ⟨f, hf⟩ : ∃ f, fuelOf x = f := ⟨_, rfl⟩
  have hf' : min (max x 0) 1099511627776 = f := hf
  clear hrow hl
  go_enter Try.func4, Try.ntmps4
  go_upto_region 2 with (go_at_call 9; ((with_reducible refine HS.out.mono ?_); rintro e w1 ⟨rfl, b1⟩))
  have N1 := ms_new x b1
  rw [hf] at N1
  have HN := Lib.hid N1
  clear N1 b1 hf
  go_upto_region 6 with (go_at_call 10; ((with_reducible refine HN.out.mono ?_); clear HN; rintro e w2 ⟨rfl, h2⟩; obtain ⟨g, hg⟩ : ∃ g, w1.heap.size = g := ⟨_, rfl⟩; rw [hg] at h2 ⊢; clear hg))
  try rw [hf']
  clear hf'
  go_wp2
  go_loopw [8, 9, 10] (fun u v i wr => BRel W g n f u v i wr) (fun _ _ i _ => n - (RowKit.intOf i).toNat)
  case atStart => exact ⟨0, 0, false, rfl, Nat.zero_le _, by decide, rfl, rfl, decide_eq_false (by have := h2.2.2.1.f0; omega), h2⟩
  case round =>
    obtain ⟨k, a, ob, rfl, hk, hk1, rfl, rfl, hob, hh⟩ := hrel
    clear h2
    have f0 := hh.2.2.1.a0
    have f1 := hh.2.2.1.f0
    have f2 := hh.2.2.1.f1
    have f3 := hh.2.2.1.a1
    by_cases hlt : k < n ∧ k < 200
    · obtain ⟨s, hs⟩ : ∃ s, l[k]? = some s := ⟨l[k]'(by have := HL.out; omega), List.getElem?_eq_getElem _⟩
      obtain ⟨b, o, rfl, hcell⟩ := HR.out.all hs
      have i0 : decide ((k : Int) < (n : Int)) = true := decide_eq_true (by omega)
      have i0' : decide (k < n) = true := decide_eq_true (by omega)
      have i1 : decide ((k : Int) < 200) = true := decide_eq_true (by omega)
      have i1' : decide (k < 200) = true := decide_eq_true (by omega)
      have hc0 := hcell _ hh.below
      have HC := Lib.hid hcell
      have HLT := Lib.hid hlt
      have hkn : k < n := hlt.1
      clear hcell hs hlt
      by_cases hn0 : s < 0
      · by_cases ho : f < a
        · have q0 : ob = true := by rw [← hob]; exact decide_eq_true ho
          subst q0
          clear hob
          have s0 : decide (0 ≤ s) = false := decide_eq_false (by omega)
          obtain ⟨e1, e2⟩ := chE_bad (a := a) (f := f) (n := s) (.inl hn0)
          have C1 := hh.charge s
          rw [e1, e2] at C1

          have HC1 := Lib.hid C1
          have W1 := Lib.hid (fun (w : World) (h : Ms W g a f w) => h.now)
          have O1 := Lib.hid (fun (w : World) (h : Ms W g a f w) => h.over)
          rw [show decide (f < a) = true from decide_eq_true (by omega)] at O1
          have HO : Hid (decide (f < a) = true) := Lib.hid (decide_eq_true (by omega))
          have t1 : decide (a < a) = false := decide_eq_false (by omega)
          have t2 : decide (f + 1099511627776 < a) = false := decide_eq_false (by omega)
          have t3 : decide (a ≤ f) = false := decide_eq_false (by omega)
          have t4 : decide (f < a) = true := decide_eq_true (by omega)
          have wM : IntKind.i64.wrap (f + 1099511627776) = f + 1099511627776 := IntWalk.i64_in _ (by omega)

          clear C1 hh e1 e2 f0 f1 f2 f3
          go_upto_region 13 with (first
            | (go_at_call 12; ((with_reducible refine HC1.out.mono ?_); rintro e w3 ⟨rfl, h3⟩; have hc3 := HC.out _ h3.below))
            | (go_at_call 14; ((with_reducible refine (W1.out _ h3).mono ?_); rintro e w4 ⟨rfl, hq4⟩; rw [hq4]; clear hq4 w4)))
          go_wp2_with (first
            | (go_at_call 15; ((with_reducible refine (O1.out _ h3).mono ?_); rintro e w5 ⟨rfl, n5, hq5⟩; rw [hq5]; clear hq5 w5))
            | (go_at_call 15; ((with_reducible refine (O1.out _ (h3.drewN n5)).mono ?_); rintro e w6 ⟨rfl, n6, hq6⟩; rw [hq6]; clear hq6 w6)))
          go_roundw
          case rel => exact ⟨k + 1, a, true, by go_num, HLT.out.1, HLT.out.2, rfl, rfl, HO.out, by first | exact h3.drewN _ | exact (h3.drewN _).drewN _⟩
          case measure => have := HLT.out; simp [RowKit.intOf]; omega
        · have q0 : ob = false := by rw [← hob]; exact decide_eq_false ho
          subst q0
          clear hob
          have s0 : decide (0 ≤ s) = false := decide_eq_false (by omega)
          obtain ⟨e1, e2⟩ := chE_bad (a := a) (f := f) (n := s) (.inl hn0)
          have C1 := hh.charge s
          rw [e1, e2] at C1

          have HC1 := Lib.hid C1
          have W1 := Lib.hid (fun (w : World) (h : Ms W g a f w) => h.now)
          have O1 := Lib.hid (fun (w : World) (h : Ms W g a f w) => h.over)
          rw [show decide (f < a) = false from decide_eq_false (by omega)] at O1
          have HO : Hid (decide (f < a) = false) := Lib.hid (decide_eq_false (by omega))
          have t1 : decide (a < a) = false := decide_eq_false (by omega)
          have t2 : decide (f + 1099511627776 < a) = false := decide_eq_false (by omega)
          have t3 : decide (a ≤ f) = true := decide_eq_true (by omega)
          have t4 : decide (f < a) = false := decide_eq_false (by omega)
          have wM : IntKind.i64.wrap (f + 1099511627776) = f + 1099511627776 := IntWalk.i64_in _ (by omega)

          clear C1 hh e1 e2 f0 f1 f2 f3
          go_upto_region 13 with (first
            | (go_at_call 12; ((with_reducible refine HC1.out.mono ?_); rintro e w3 ⟨rfl, h3⟩; have hc3 := HC.out _ h3.below))
            | (go_at_call 14; ((with_reducible refine (W1.out _ h3).mono ?_); rintro e w4 ⟨rfl, hq4⟩; rw [hq4]; clear hq4 w4)))
          go_wp2_with (first
            | (go_at_call 15; ((with_reducible refine (O1.out _ h3).mono ?_); rintro e w5 ⟨rfl, n5, hq5⟩; rw [hq5]; clear hq5 w5))
            | (go_at_call 15; ((with_reducible refine (O1.out _ (h3.drewN n5)).mono ?_); rintro e w6 ⟨rfl, n6, hq6⟩; rw [hq6]; clear hq6 w6)))
          go_roundw
          case rel => exact ⟨k + 1, a, false, by go_num, HLT.out.1, HLT.out.2, rfl, rfl, HO.out, by first | exact h3.drewN _ | exact (h3.drewN _).drewN _⟩
          case measure => have := HLT.out; simp [RowKit.intOf]; omega
      by_cases hn1 : 1099511627776 < s
      · by_cases ho : f < a
        · have q0 : ob = true := by rw [← hob]; exact decide_eq_true ho
          subst q0
          clear hob
          have s0 : decide (0 ≤ s) = true := decide_eq_true (by omega)
          have s1 : decide (s ≤ 1099511627776) = false := decide_eq_false (by omega)
          obtain ⟨e1, e2⟩ := chE_bad (a := a) (f := f) (n := s) (.inr hn1)
          have C1 := hh.charge s
          rw [e1, e2] at C1

          have HC1 := Lib.hid C1
          have W1 := Lib.hid (fun (w : World) (h : Ms W g a f w) => h.now)
          have O1 := Lib.hid (fun (w : World) (h : Ms W g a f w) => h.over)
          rw [show decide (f < a) = true from decide_eq_true (by omega)] at O1
          have HO : Hid (decide (f < a) = true) := Lib.hid (decide_eq_true (by omega))
          have t1 : decide (a < a) = false := decide_eq_false (by omega)
          have t2 : decide (f + 1099511627776 < a) = false := decide_eq_false (by omega)
          have t3 : decide (a ≤ f) = false := decide_eq_false (by omega)
          have t4 : decide (f < a) = true := decide_eq_true (by omega)
          have wM : IntKind.i64.wrap (f + 1099511627776) = f + 1099511627776 := IntWalk.i64_in _ (by omega)

          clear C1 hh e1 e2 f0 f1 f2 f3
          go_upto_region 13 with (first
            | (go_at_call 12; ((with_reducible refine HC1.out.mono ?_); rintro e w3 ⟨rfl, h3⟩; have hc3 := HC.out _ h3.below))
            | (go_at_call 14; ((with_reducible refine (W1.out _ h3).mono ?_); rintro e w4 ⟨rfl, hq4⟩; rw [hq4]; clear hq4 w4)))
          go_wp2_with (first
            | (go_at_call 15; ((with_reducible refine (O1.out _ h3).mono ?_); rintro e w5 ⟨rfl, n5, hq5⟩; rw [hq5]; clear hq5 w5))
            | (go_at_call 15; ((with_reducible refine (O1.out _ (h3.drewN n5)).mono ?_); rintro e w6 ⟨rfl, n6, hq6⟩; rw [hq6]; clear hq6 w6)))
          go_roundw
          case rel => exact ⟨k + 1, a, true, by go_num, HLT.out.1, HLT.out.2, rfl, rfl, HO.out, by first | exact h3.drewN _ | exact (h3.drewN _).drewN _⟩
          case measure => have := HLT.out; simp [RowKit.intOf]; omega
        · have q0 : ob = false := by rw [← hob]; exact decide_eq_false ho
          subst q0
          clear hob
          have s0 : decide (0 ≤ s) = true := decide_eq_true (by omega)
          have s1 : decide (s ≤ 1099511627776) = false := decide_eq_false (by omega)
          obtain ⟨e1, e2⟩ := chE_bad (a := a) (f := f) (n := s) (.inr hn1)
          have C1 := hh.charge s
          rw [e1, e2] at C1

          have HC1 := Lib.hid C1
          have W1 := Lib.hid (fun (w : World) (h : Ms W g a f w) => h.now)
          have O1 := Lib.hid (fun (w : World) (h : Ms W g a f w) => h.over)
          rw [show decide (f < a) = false from decide_eq_false (by omega)] at O1
          have HO : Hid (decide (f < a) = false) := Lib.hid (decide_eq_false (by omega))
          have t1 : decide (a < a) = false := decide_eq_false (by omega)
          have t2 : decide (f + 1099511627776 < a) = false := decide_eq_false (by omega)
          have t3 : decide (a ≤ f) = true := decide_eq_true (by omega)
          have t4 : decide (f < a) = false := decide_eq_false (by omega)
          have wM : IntKind.i64.wrap (f + 1099511627776) = f + 1099511627776 := IntWalk.i64_in _ (by omega)

          clear C1 hh e1 e2 f0 f1 f2 f3
          go_upto_region 13 with (first
            | (go_at_call 12; ((with_reducible refine HC1.out.mono ?_); rintro e w3 ⟨rfl, h3⟩; have hc3 := HC.out _ h3.below))
            | (go_at_call 14; ((with_reducible refine (W1.out _ h3).mono ?_); rintro e w4 ⟨rfl, hq4⟩; rw [hq4]; clear hq4 w4)))
          go_wp2_with (first
            | (go_at_call 15; ((with_reducible refine (O1.out _ h3).mono ?_); rintro e w5 ⟨rfl, n5, hq5⟩; rw [hq5]; clear hq5 w5))
            | (go_at_call 15; ((with_reducible refine (O1.out _ (h3.drewN n5)).mono ?_); rintro e w6 ⟨rfl, n6, hq6⟩; rw [hq6]; clear hq6 w6)))
          go_roundw
          case rel => exact ⟨k + 1, a, false, by go_num, HLT.out.1, HLT.out.2, rfl, rfl, HO.out, by first | exact h3.drewN _ | exact (h3.drewN _).drewN _⟩
          case measure => have := HLT.out; simp [RowKit.intOf]; omega
      by_cases ho : f < a
      · have q0 : ob = true := by rw [← hob]; exact decide_eq_true ho
        subst q0
        clear hob
        have s0 : decide (0 ≤ s) = true := decide_eq_true (by omega)
        have s1 : decide (s ≤ 1099511627776) = true := decide_eq_true (by omega)
        obtain ⟨e1, e2⟩ := chE_over (a := a) (f := f) (n := s) (by omega) ho
        have C1 := hh.charge s
        rw [e1, e2] at C1

        have HC1 := Lib.hid C1
        have W1 := Lib.hid (fun (w : World) (h : Ms W g a f w) => h.now)
        have O1 := Lib.hid (fun (w : World) (h : Ms W g a f w) => h.over)
        rw [show decide (f < a) = true from decide_eq_true (by omega)] at O1
        have HO : Hid (decide (f < a) = true) := Lib.hid (decide_eq_true (by omega))
        have t1 : decide (a < a) = false := decide_eq_false (by omega)
        have t2 : decide (f + 1099511627776 < a) = false := decide_eq_false (by omega)
        have t3 : decide (a ≤ f) = false := decide_eq_false (by omega)
        have t4 : decide (f < a) = true := decide_eq_true (by omega)
        have wM : IntKind.i64.wrap (f + 1099511627776) = f + 1099511627776 := IntWalk.i64_in _ (by omega)

        clear C1 hh e1 e2 f0 f1 f2 f3
        go_upto_region 13 with (first
          | (go_at_call 12; ((with_reducible refine HC1.out.mono ?_); rintro e w3 ⟨rfl, h3⟩; have hc3 := HC.out _ h3.below))
          | (go_at_call 14; ((with_reducible refine (W1.out _ h3).mono ?_); rintro e w4 ⟨rfl, hq4⟩; rw [hq4]; clear hq4 w4)))
        go_wp2_with (first
          | (go_at_call 15; ((with_reducible refine (O1.out _ h3).mono ?_); rintro e w5 ⟨rfl, n5, hq5⟩; rw [hq5]; clear hq5 w5))
          | (go_at_call 15; ((with_reducible refine (O1.out _ (h3.drewN n5)).mono ?_); rintro e w6 ⟨rfl, n6, hq6⟩; rw [hq6]; clear hq6 w6)))
        go_roundw
        case rel => exact ⟨k + 1, a, true, by go_num, HLT.out.1, HLT.out.2, rfl, rfl, HO.out, by first | exact h3.drewN _ | exact (h3.drewN _).drewN _⟩
        case measure => have := HLT.out; simp [RowKit.intOf]; omega
      by_cases he : f < a + s
      · have q0 : ob = false := by rw [← hob]; exact decide_eq_false ho
        subst q0
        clear hob
        have s0 : decide (0 ≤ s) = true := decide_eq_true (by omega)
        have s1 : decide (s ≤ 1099511627776) = true := decide_eq_true (by omega)
        obtain ⟨e1, e2⟩ := chE_ends (a := a) (f := f) (n := s) (by omega) ho he
        have C1 := hh.charge s
        rw [e1, e2] at C1
        obtain ⟨c, hc⟩ : ∃ c, a + s = c := ⟨_, rfl⟩
        rw [hc] at C1
        have HC1 := Lib.hid C1
        have W1 := Lib.hid (fun (w : World) (h : Ms W g c f w) => h.now)
        have O1 := Lib.hid (fun (w : World) (h : Ms W g c f w) => h.over)
        rw [show decide (f < c) = true from decide_eq_true (by omega)] at O1
        have HO : Hid (decide (f < c) = true) := Lib.hid (decide_eq_true (by omega))
        have t1 : decide (c < a) = false := decide_eq_false (by omega)
        have t2 : decide (f + 1099511627776 < c) = false := decide_eq_false (by omega)
        have t3 : decide (c ≤ f) = false := decide_eq_false (by omega)
        have t4 : decide (f < c) = true := decide_eq_true (by omega)
        have wM : IntKind.i64.wrap (f + 1099511627776) = f + 1099511627776 := IntWalk.i64_in _ (by omega)
        clear hc
        clear C1 hh e1 e2 f0 f1 f2 f3
        go_upto_region 13 with (first
          | (go_at_call 12; ((with_reducible refine HC1.out.mono ?_); rintro e w3 ⟨rfl, h3⟩; have hc3 := HC.out _ h3.below))
          | (go_at_call 14; ((with_reducible refine (W1.out _ h3).mono ?_); rintro e w4 ⟨rfl, hq4⟩; rw [hq4]; clear hq4 w4)))
        go_wp2_with (first
          | (go_at_call 15; ((with_reducible refine (O1.out _ h3).mono ?_); rintro e w5 ⟨rfl, n5, hq5⟩; rw [hq5]; clear hq5 w5))
          | (go_at_call 15; ((with_reducible refine (O1.out _ (h3.drewN n5)).mono ?_); rintro e w6 ⟨rfl, n6, hq6⟩; rw [hq6]; clear hq6 w6)))
        go_roundw
        case rel => exact ⟨k + 1, c, true, by go_num, HLT.out.1, HLT.out.2, rfl, rfl, HO.out, by first | exact h3.drewN _ | exact (h3.drewN _).drewN _⟩
        case measure => have := HLT.out; simp [RowKit.intOf]; omega
      · have q0 : ob = false := by rw [← hob]; exact decide_eq_false ho
        subst q0
        clear hob
        have s0 : decide (0 ≤ s) = true := decide_eq_true (by omega)
        have s1 : decide (s ≤ 1099511627776) = true := decide_eq_true (by omega)
        obtain ⟨e1, e2⟩ := chE_ok (a := a) (f := f) (n := s) (by omega) he
        have C1 := hh.charge s
        rw [e1, e2] at C1
        obtain ⟨c, hc⟩ : ∃ c, a + s = c := ⟨_, rfl⟩
        rw [hc] at C1
        have HC1 := Lib.hid C1
        have W1 := Lib.hid (fun (w : World) (h : Ms W g c f w) => h.now)
        have O1 := Lib.hid (fun (w : World) (h : Ms W g c f w) => h.over)
        rw [show decide (f < c) = false from decide_eq_false (by omega)] at O1
        have HO : Hid (decide (f < c) = false) := Lib.hid (decide_eq_false (by omega))
        have t1 : decide (c < a) = false := decide_eq_false (by omega)
        have t2 : decide (f + 1099511627776 < c) = false := decide_eq_false (by omega)
        have t3 : decide (c ≤ f) = true := decide_eq_true (by omega)
        have t4 : decide (f < c) = false := decide_eq_false (by omega)
        have wM : IntKind.i64.wrap (f + 1099511627776) = f + 1099511627776 := IntWalk.i64_in _ (by omega)
        clear hc
        clear C1 hh e1 e2 f0 f1 f2 f3
        go_upto_region 13 with (first
          | (go_at_call 12; ((with_reducible refine HC1.out.mono ?_); rintro e w3 ⟨rfl, h3⟩; have hc3 := HC.out _ h3.below))
          | (go_at_call 14; ((with_reducible refine (W1.out _ h3).mono ?_); rintro e w4 ⟨rfl, hq4⟩; rw [hq4]; clear hq4 w4)))
        go_wp2_with (first
          | (go_at_call 15; ((with_reducible refine (O1.out _ h3).mono ?_); rintro e w5 ⟨rfl, n5, hq5⟩; rw [hq5]; clear hq5 w5))
          | (go_at_call 15; ((with_reducible refine (O1.out _ (h3.drewN n5)).mono ?_); rintro e w6 ⟨rfl, n6, hq6⟩; rw [hq6]; clear hq6 w6)))
        go_roundw
        case rel => exact ⟨k + 1, c, false, by go_num, HLT.out.1, HLT.out.2, rfl, rfl, HO.out, by first | exact h3.drewN _ | exact (h3.drewN _).drewN _⟩
        case measure => have := HLT.out; simp [RowKit.intOf]; omega
    · have HB := Lib.hid hh.below
      clear hh hob f0 f1 f2 f3
      by_cases h1 : k < n
      · have i0 : decide ((k : Int) < (n : Int)) = true := decide_eq_true (by omega)
        have i0' : decide (k < n) = true := decide_eq_true (by omega)
        have i1 : decide ((k : Int) < 200) = false := decide_eq_false (by omega)
        have i1' : decide (k < 200) = false := decide_eq_false (by omega)
        clear hlt
        go_wp2
        go_ret
        exact ⟨rfl, HB.out⟩
      · have i0 : decide ((k : Int) < (n : Int)) = false := decide_eq_false (by omega)
        have i0' : decide (k < n) = false := decide_eq_false (by omega)
        clear hlt
        go_wp2
        go_ret
        exact ⟨rfl, HB.out⟩
end Go.Proofs.Ytpeblpaadpmceaa
