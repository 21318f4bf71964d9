/-
  MeterAgain's walk: the same again goes the same; what is refused for its size changes nothing.
-/
import Derived.Test.YtpeblpaadpmceaaMtR
import Derived.Deep.RegionHeld3
namespace Go.Proofs.Ytpeblpaadpmceaa
open Go Go.RowKit Go.Lib

def ARel (W : World) (g g2 n : Nat) (f : Int) (i : Value) (wr : World) : Prop := ∃ (k : Nat) (a : Int), i = .int .i64 k ∧ k ≤ n ∧ k ≤ 100 ∧ Mt W g g2 a a f wr
theorem ch_one {a f n : Int} (h : chE a f n = 1) : chA a f n = a := by
  unfold chE at h
  split at h
  · rename_i h'; exact (chE_bad h').2
  · split at h <;> omega
set_option maxRecDepth 100000 in
set_option maxHeartbeats 8000000 in
theorem again_walk (x : Int) (X : Option Addr) (n cap : Nat) (l : List Int) (W : World) (hl : l.length = n) (_hnc : n ≤ cap) (_hcm : cap ≤ 9223372036854775807) (hrow : IRow .i64 W X l) :
    Calls Try.prog 7 #[.int .i64 x, .slice X n cap] W fun e W' => e = .returned (.bool true) ∧ Below W.heap.size W W' := by
  have HS := Lib.hid (shown_w W)
  have HR := Lib.hid hrow
  have HL := Lib.hid hl
  obtain ⟨f, hf⟩ : ∃ f, fuelOf x = f := ⟨_, rfl⟩
  clear hrow hl
  go_enter Try.func7, Try.ntmps7
  go_upto_region 2 with (go_at_call 9; ((with_reducible refine HS.out.mono ?_); rintro e w1 ⟨rfl, b1⟩))
  have N1 := ms_new x b1
  rw [hf] at N1
  have HN := Lib.hid N1
  clear N1 b1
  go_upto_region 3 with (go_at_call 10; ((with_reducible refine HN.out.mono ?_); clear HN; rintro e w2 ⟨rfl, h2⟩; obtain ⟨g, hg⟩ : ∃ g, w1.heap.size = g := ⟨_, rfl⟩; rw [hg] at h2 ⊢; clear hg))
  have HN2 := Lib.hid (h2.new2 hf)
  clear h2 hf
  go_upto_region 6 with (go_at_call 10; ((with_reducible refine HN2.out.mono ?_); clear HN2; rintro e w3 ⟨rfl, h3⟩; obtain ⟨g2, hg⟩ : ∃ g, w2.heap.size = g := ⟨_, rfl⟩; rw [hg] at h3 ⊢; clear hg))
  go_wp2
  go_loopw [8] (fun i wr => ARel W g g2 n f i wr) (fun i _ => n - (RowKit.intOf i).toNat)
  case atStart => exact ⟨0, 0, rfl, Nat.zero_le _, by decide, h3⟩
  case round =>
    obtain ⟨k, a, rfl, hk, hk1, hh⟩ := hrel
    clear h3
    by_cases hlt : k < n ∧ k < 100
    · obtain ⟨s, hs⟩ : ∃ s, l[k]? = some s := ⟨l[k]'(by have := HL.out; omega), List.getElem?_eq_getElem _⟩
      obtain ⟨b, o, rfl, hcell⟩ := HR.out.all hs
      have i0 : decide ((k : Int) < (n : Int)) = true := decide_eq_true (by omega)
      have i0' : decide (k < n) = true := decide_eq_true (by omega)
      have i1 : decide ((k : Int) < 100) = true := decide_eq_true (by omega)
      have i1' : decide (k < 100) = true := decide_eq_true (by omega)
      have hc0 := hcell _ hh.1.below
      have HC := Lib.hid hcell
      have HLT := Lib.hid hlt
      have hkn : k < n := hlt.1
      clear hcell hs hlt
      obtain ⟨z, he⟩ : ∃ z, chE a f s = z := ⟨_, rfl⟩
      obtain ⟨c, hc⟩ : ∃ c, chA a f s = c := ⟨_, rfl⟩
      by_cases he1 : z = 1
      · have hca : c = a := by rw [← hc]; exact ch_one (he.trans he1)
        have C1 := hh.chargeA s
        rw [he, hc] at C1
        subst he1 hca
        have HC1 := Lib.hid C1

        have W1 := Lib.hid (fun (w : World) (h : Mt W g g2 c c f w) => h.1.now)
        have W2 := Lib.hid (fun (w : World) (h : Mt W g g2 c c f w) => h.2.1.now)
        have O1 := Lib.hid (fun (w : World) (h : Mt W g g2 c c f w) => h.1.over)
        have O2 := Lib.hid (fun (w : World) (h : Mt W g g2 c c f w) => h.2.1.over)
        obtain ⟨ob, hob⟩ : ∃ ob, decide (f < c) = ob := ⟨_, rfl⟩
        rw [hob] at O1 O2



        clear C1 hh hob he hc
        go_upto_region 10 with (go_at_call 12; ((with_reducible refine HC1.out.mono ?_); rintro e' w3 ⟨rfl, h3⟩; have hc3 := HC.out _ h3.1.below))
        have HT := Lib.hid (fun m => h3.drewN m)
        clear h3
        go_quiet ((first
          | (go_at_call 14; with_reducible exact Calls.quiet_of_same (W1.out _ (HT.out _)))
          | (go_at_call 14; with_reducible exact Calls.quiet_of_same (W2.out _ (HT.out _)))
          | (go_at_call 15; with_reducible exact Calls.quiet_of (O1.out _ (HT.out _)))
          | (go_at_call 15; with_reducible exact Calls.quiet_of (O2.out _ (HT.out _)))))
        go_wp2
        go_roundw
        case rel => exact ⟨k + 1, c, by go_num, HLT.out.1, HLT.out.2, (HT.out _)⟩
        case measure => have := HLT.out; simp [RowKit.intOf]; omega
      · have hca := he1
        have C1 := hh.chargeA s
        rw [he, hc] at C1

        have HC1 := Lib.hid C1
        have HC2 := Lib.hid (fun (w : World) (h : Mt W g g2 c a f w) => (show Calls Try.prog 12 #[.pointer (some ⟨g2, 0, none⟩), .int .i64 s] w fun e w' => e = .returned (.int .i64 z) ∧ Mt W g g2 c c f w' by have := h.chargeB s; rwa [he, hc] at this))
        have W1 := Lib.hid (fun (w : World) (h : Mt W g g2 c c f w) => h.1.now)
        have W2 := Lib.hid (fun (w : World) (h : Mt W g g2 c c f w) => h.2.1.now)
        have O1 := Lib.hid (fun (w : World) (h : Mt W g g2 c c f w) => h.1.over)
        have O2 := Lib.hid (fun (w : World) (h : Mt W g g2 c c f w) => h.2.1.over)
        obtain ⟨ob, hob⟩ : ∃ ob, decide (f < c) = ob := ⟨_, rfl⟩
        rw [hob] at O1 O2
        have e1 : (z == 1) = false := by rw [beq_eq_false_iff_ne]; exact he1
        have e1' : (z != 1) = true := by rw [bne_iff_ne]; exact he1
        have e1'' : decide (z = 1) = false := decide_eq_false he1
        clear C1 hh hob hca he1 he hc
        go_upto_region 10 with (go_at_call 12; ((with_reducible refine HC1.out.mono ?_); rintro e' w3 ⟨rfl, h3⟩; have hc3 := HC.out _ h3.1.below))
        have hd3 : Mt W g g2 c a f w3.drew := h3.drewN 1
        go_region_held3 (fun w => w.cell? ⟨b, o + k, none⟩ = some (.int .i64 s)) (first | exact hc3 | exact HC.out _ hd3.1.below | exact HC.out _ h4.1.below | exact HC.out _ (h4.drewN _).1.below) (first
          | (go_at_call 12; ((with_reducible refine (HC2.out _ hd3).mono ?_); rintro e' w4 ⟨rfl, h4⟩))
          | (go_at_call 14; ((with_reducible refine (W1.out _ h4).mono ?_); rintro e' w5 ⟨rfl, hq5⟩; rw [hq5]; clear hq5 w5))
          | (go_at_call 14; ((with_reducible refine (W2.out _ h4).mono ?_); rintro e' w6 ⟨rfl, hq6⟩; rw [hq6]; clear hq6 w6))
          | (go_at_call 15; ((with_reducible refine (O1.out _ h4).mono ?_); rintro e' w7 ⟨rfl, n7, hq7⟩; rw [hq7]; clear hq7 w7; have h7 := h4.drewN n7))
          | (go_at_call 15; ((with_reducible refine (O2.out _ h7).mono ?_); rintro e' w8 ⟨rfl, n8, hq8⟩; rw [hq8]; clear hq8 w8; have h8 := h7.drewN n8)))
        go_wp2
        go_roundw
        case rel => exact ⟨k + 1, c, by go_num, HLT.out.1, HLT.out.2, (h4.drewN _)⟩
        case measure => have := HLT.out; simp [RowKit.intOf]; omega
    · have HB := Lib.hid hh.1.below
      clear hh
      by_cases h1 : k < n
      · have i0 : decide ((k : Int) < (n : Int)) = true := decide_eq_true (by omega)
        have i0' : decide (k < n) = true := decide_eq_true (by omega)
        have i1 : decide ((k : Int) < 100) = false := decide_eq_false (by omega)
        have i1' : decide (k < 100) = false := decide_eq_false (by omega)
        clear hlt
        go_wp2
        go_ret
        exact ⟨rfl, HB.out⟩
      · have i0 : decide ((k : Int) < (n : Int)) = false := decide_eq_false (by omega)
        have i0' : decide (k < n) = false := decide_eq_false (by omega)
        clear hlt
        go_wp2
        go_ret
        exact ⟨rfl, HB.out⟩
end Go.Proofs.Ytpeblpaadpmceaa
