/-
  HeapQuota's walk: never more cells are used than the quota.
-/
import Derived.Test.YtimpobfilihhmaaHqP
namespace Go.Proofs.Ytimpobfilihhmaa
open Go Go.RowKit Go.Lib

def QRel (W : World) (q g n : Nat) (u m i : Value) (wr : World) : Prop :=
  ∃ (k : Nat) (A : List (List Int)), i = .int .i64 k ∧ k ≤ n ∧ k ≤ 50 ∧ A.length ≤ k ∧ m = .int .i64 (A.length : Int) ∧ u = .int .i64 (A.flatten.length : Int) ∧ A.flatten.length ≤ q ∧ Hs W q g A wr
set_option maxRecDepth 100000 in
set_option maxHeartbeats 8000000 in
theorem quota_walk (x : Int) (X : Option Addr) (n cap : Nat) (l : List Int) (W : World) (hx : 0 ≤ x ∧ x ≤ 65535) (hl : l.length = n) (_hnc : n ≤ cap) (_hcm : cap ≤ 9223372036854775807) (hrow : IRow .i16 W X l) (hu : ∀ x ∈ l, -32768 ≤ x ∧ x ≤ 32767) :
    Calls Try.prog 5 #[.int .u16 x, .slice X n cap] W fun e W' => e = .returned (.bool true) ∧ Below W.heap.size W W' := by
  have HS := Lib.hid (shown_w W)
  have HR := Lib.hid hrow
  have HU := Lib.hid hu
  have HL := Lib.hid hl
  have hx0 := hx.1
  have hx1 := hx.2
  obtain ⟨q, hq⟩ : ∃ q : Nat, x % 10001 = (q : Int) := ⟨(x % 10001).toNat, by omega⟩
  have hq1 : q ≤ 10000 := by omega
  have HN := Lib.hid (fun (w : World) (hb : Below W.heap.size W w) => (show Calls Try.prog 10 #[.int .i64 (q : Int)] w fun e w' => e = .returned (.pointer (some ⟨w.heap.size, 0, none⟩)) ∧ Hs W q w.heap.size [] w' by
    have := hs_new' W (q : Int) w hb
    rwa [show (min (max (q : Int) 0) 1048576).toNat = q by omega] at this))
  clear hrow hu hl hx
  go_enter Try.func5, Try.ntmps5
  go_upto_region 3 with (go_at_call 9; ((with_reducible refine HS.out.mono ?_); rintro e w1 ⟨rfl, b1⟩))
  rw [hq]
  clear hx0 hx1 hq
  go_upto_region 9 with (go_at_call 10; ((with_reducible refine (HN.out _ b1).mono ?_); rintro e w2 ⟨rfl, h2⟩; obtain ⟨g, hg⟩ : ∃ g, w1.heap.size = g := ⟨_, rfl⟩; rw [hg] at h2 ⊢; clear hg b1))
  go_loopw [8, 9, 10] (fun u m i wr => QRel W q g n u m i wr) (fun _ _ i _ => n - (RowKit.intOf i).toNat)
  case atStart => exact ⟨0, [], rfl, Nat.zero_le _, by decide, Nat.le_refl _, rfl, rfl, Nat.zero_le _, h2⟩
  case round =>
    obtain ⟨k, A, rfl, hk, hk20, hAk, hA, hF, hfq, hh⟩ := hrel
    subst hA hF
    clear h2
    by_cases hlt : k < n ∧ k < 50
    · obtain ⟨s, hs⟩ : ∃ s, l[k]? = some s := ⟨l[k]'(by have := HL.out; omega), List.getElem?_eq_getElem _⟩
      obtain ⟨b, o, rfl, hcell⟩ := HR.out.at_ hh.below hs
      obtain ⟨hs0, hs1⟩ := HU.out s (List.mem_of_getElem? hs)
      have i0 : decide ((k : Int) < (n : Int)) = true := decide_eq_true (by omega)
      have i1 : decide ((k : Int) < 50) = true := decide_eq_true (by omega)
      go_upto_region 12 with fail
      have HH := Lib.hid hh
      have HLT := Lib.hid hlt
      clear i0 i1 hcell hs hlt hh
      generalize hF : A.flatten.length = F at *
      generalize hM : A.length = M at *
      have HF := Lib.hid hF
      have HM := Lib.hid hM
      clear hF hM
      have wr1 : IntKind.i64.wrap ((F : Int) + s) = (F : Int) + s := IntWalk.i64_in _ (by omega)
      by_cases hq : (q : Int) < (F : Int) + s
      · have q0 : decide ((q : Int) < (F : Int) + s) = true := decide_eq_true hq
        by_cases h1 : s < 1
        · have d0 : decide (s < 1) = true := decide_eq_true h1
          have he : mkE q A s = 1 := (mkE_small (.inl h1))
          obtain ⟨e1, e2⟩ := mk_bad he (by decide)
          have MK := hs_make HH.out s
          rw [e1, e2, he] at MK
          have HMK := Lib.hid MK
          have HUS := Lib.hid (fun (w' : World) (h : Hs W q g A w') => hs_used h)
          rw [HF.out] at HUS
          have j0 : decide (q < F) = false := decide_eq_false (by omega)
          have HFQ := Lib.hid hfq
          clear MK e1 e2 he hs0 hs1 h1 hq hfq
          go_wp2_with (first
            | (go_at_call 11; ((with_reducible refine HMK.out.mono ?_); rintro e w3 ⟨rfl, h3⟩))
            | (go_at_call 17; ((with_reducible refine (HUS.out _ h3).mono ?_); rintro e w4 ⟨rfl, h4⟩)))
          go_roundw
          case rel => exact ⟨k + 1, A, by go_num, HLT.out.1, HLT.out.2, by rw [HM.out]; have := HLT.out.1; omega, by rw [HM.out], by rw [HF.out], by rw [HF.out]; exact HFQ.out, h4⟩
          case measure => have := HLT.out; simp [RowKit.intOf]; omega
        · have d0 : decide (s < 1) = false := decide_eq_false h1
          by_cases h2 : 4096 < s
          · have d1 : decide (4096 < s) = true := decide_eq_true h2
            have he : mkE q A s = 1 := (mkE_small (.inr h2))
            obtain ⟨e1, e2⟩ := mk_bad he (by decide)
            have MK := hs_make HH.out s
            rw [e1, e2, he] at MK
            have HMK := Lib.hid MK
            have HUS := Lib.hid (fun (w' : World) (h : Hs W q g A w') => hs_used h)
            rw [HF.out] at HUS
            have j0 : decide (q < F) = false := decide_eq_false (by omega)
            have HFQ := Lib.hid hfq
            clear MK e1 e2 he hs0 hs1 h1 hq hfq h2
            go_wp2_with (first
              | (go_at_call 11; ((with_reducible refine HMK.out.mono ?_); rintro e w3 ⟨rfl, h3⟩))
              | (go_at_call 17; ((with_reducible refine (HUS.out _ h3).mono ?_); rintro e w4 ⟨rfl, h4⟩)))
            go_roundw
            case rel => exact ⟨k + 1, A, by go_num, HLT.out.1, HLT.out.2, by rw [HM.out]; have := HLT.out.1; omega, by rw [HM.out], by rw [HF.out], by rw [HF.out]; exact HFQ.out, h4⟩
            case measure => have := HLT.out; simp [RowKit.intOf]; omega
          · have d1 : decide (4096 < s) = false := decide_eq_false h2
            have he : mkE q A s = 9 := (mkE_full (by omega) (by rw [HF.out]; exact hq))
            obtain ⟨e1, e2⟩ := mk_bad he (by decide)
            have MK := hs_make HH.out s
            rw [e1, e2, he] at MK
            have HMK := Lib.hid MK
            have HUS := Lib.hid (fun (w' : World) (h : Hs W q g A w') => hs_used h)
            rw [HF.out] at HUS
            have j0 : decide (q < F) = false := decide_eq_false (by omega)
            have HFQ := Lib.hid hfq
            clear MK e1 e2 he hs0 hs1 h1 hq hfq h2
            go_wp2_with (first
              | (go_at_call 11; ((with_reducible refine HMK.out.mono ?_); rintro e w3 ⟨rfl, h3⟩))
              | (go_at_call 17; ((with_reducible refine (HUS.out _ h3).mono ?_); rintro e w4 ⟨rfl, h4⟩)))
            go_roundw
            case rel => exact ⟨k + 1, A, by go_num, HLT.out.1, HLT.out.2, by rw [HM.out]; have := HLT.out.1; omega, by rw [HM.out], by rw [HF.out], by rw [HF.out]; exact HFQ.out, h4⟩
            case measure => have := HLT.out; simp [RowKit.intOf]; omega
      · have q0 : decide ((q : Int) < (F : Int) + s) = false := decide_eq_false hq
        by_cases h1 : s < 1
        · have d0 : decide (s < 1) = true := decide_eq_true h1
          have he : mkE q A s = 1 := (mkE_small (.inl h1))
          obtain ⟨e1, e2⟩ := mk_bad he (by decide)
          have MK := hs_make HH.out s
          rw [e1, e2, he] at MK
          have HMK := Lib.hid MK
          have HUS := Lib.hid (fun (w' : World) (h : Hs W q g A w') => hs_used h)
          rw [HF.out] at HUS
          have j0 : decide (q < F) = false := decide_eq_false (by omega)
          have HFQ := Lib.hid hfq
          clear MK e1 e2 he hs0 hs1 h1 hq hfq
          go_wp2_with (first
            | (go_at_call 11; ((with_reducible refine HMK.out.mono ?_); rintro e w3 ⟨rfl, h3⟩))
            | (go_at_call 17; ((with_reducible refine (HUS.out _ h3).mono ?_); rintro e w4 ⟨rfl, h4⟩)))
          go_roundw
          case rel => exact ⟨k + 1, A, by go_num, HLT.out.1, HLT.out.2, by rw [HM.out]; have := HLT.out.1; omega, by rw [HM.out], by rw [HF.out], by rw [HF.out]; exact HFQ.out, h4⟩
          case measure => have := HLT.out; simp [RowKit.intOf]; omega
        · have d0 : decide (s < 1) = false := decide_eq_false h1
          by_cases h2 : 4096 < s
          · have d1 : decide (4096 < s) = true := decide_eq_true h2
            have he : mkE q A s = 1 := (mkE_small (.inr h2))
            obtain ⟨e1, e2⟩ := mk_bad he (by decide)
            have MK := hs_make HH.out s
            rw [e1, e2, he] at MK
            have HMK := Lib.hid MK
            have HUS := Lib.hid (fun (w' : World) (h : Hs W q g A w') => hs_used h)
            rw [HF.out] at HUS
            have j0 : decide (q < F) = false := decide_eq_false (by omega)
            have HFQ := Lib.hid hfq
            clear MK e1 e2 he hs0 hs1 h1 hq hfq h2
            go_wp2_with (first
              | (go_at_call 11; ((with_reducible refine HMK.out.mono ?_); rintro e w3 ⟨rfl, h3⟩))
              | (go_at_call 17; ((with_reducible refine (HUS.out _ h3).mono ?_); rintro e w4 ⟨rfl, h4⟩)))
            go_roundw
            case rel => exact ⟨k + 1, A, by go_num, HLT.out.1, HLT.out.2, by rw [HM.out]; have := HLT.out.1; omega, by rw [HM.out], by rw [HF.out], by rw [HF.out]; exact HFQ.out, h4⟩
            case measure => have := HLT.out; simp [RowKit.intOf]; omega
          · have d1 : decide (4096 < s) = false := decide_eq_false h2
            obtain ⟨z, rfl⟩ : ∃ z : Nat, s = (z : Int) := ⟨s.toNat, by omega⟩
            have he : mkE q A (z : Int) = 0 := mkE_ok (by omega) (by rw [HF.out]; exact hq)
            obtain ⟨e1, e2⟩ := mk_good he
            rw [HM.out] at e1
            rw [Int.toNat_natCast] at e2
            have MK := hs_make HH.out (z : Int)
            rw [e1, e2, he] at MK
            have HMK := Lib.hid MK
            have hfl : (A ++ [List.replicate z (0 : Int)]).flatten.length = F + z := by rw [List.flatten_append, List.length_append, HF.out]; simp
            have HUS := Lib.hid (fun (w' : World) (h : Hs W q g (A ++ [List.replicate z 0]) w') => hs_used h)
            rw [hfl] at HUS
            have GT : Hid (∀ w' : World, Hs W q g (A ++ [List.replicate z 0]) w' → Calls Try.prog 15 #[.pointer (some ⟨g, 0, none⟩), .int .i64 (M : Int), .int .i64 ((z : Int) - 1)] w' fun e w'' => e = .returned (.tuple #[.int .i64 0, .bool true]) ∧ Hs W q g (A ++ [List.replicate z 0]) w'') := Lib.hid fun w' h => by
              obtain ⟨g1, g2⟩ := gtV_last A (List.replicate z 0) (z - 1) (by rw [List.length_replicate]; omega)
              rw [HM.out, show ((z - 1 : Nat) : Int) = (z : Int) - 1 by omega] at g1 g2
              have := hs_get h (M : Int) ((z : Int) - 1)
              rw [g1, g2] at this
              rwa [show (List.replicate z (0 : Int)).getD (z - 1) 0 = 0 by rw [List.getD_eq_getElem?_getD, List.getElem?_replicate]; split <;> rfl] at this
            have HFL := Lib.hid hfl
            have HNQ := Lib.hid hq
            have j0 : decide (q < F + z) = false := decide_eq_false (by omega)
            have w2 : IntKind.i64.wrap ((z : Int) - 1) = (z : Int) - 1 := IntWalk.i64_in _ (by omega)
            clear MK e1 e2 he hfl hs0 hs1 h1 h2 hq hfq
            go_wp2_with (first
              | (go_at_call 11; ((with_reducible refine HMK.out.mono ?_); rintro e w3 ⟨rfl, h3⟩))
              | (go_at_call 15; ((with_reducible refine (GT.out _ h3).mono ?_); rintro e w4 ⟨rfl, h4⟩))
              | (go_at_call 17; ((with_reducible refine (HUS.out _ h4).mono ?_); rintro e w5 ⟨rfl, h5⟩)))
            go_roundw
            case rel => exact ⟨k + 1, A ++ [List.replicate z 0], by go_num, HLT.out.1, HLT.out.2, by rw [List.length_append, HM.out, List.length_singleton]; omega, by rw [List.length_append, HM.out]; go_num, by rw [HFL.out]; go_num, by rw [HFL.out]; have := HNQ.out; omega, h5⟩
            case measure => have := HLT.out; simp [RowKit.intOf]; omega
    · have HB := Lib.hid hh.below
      clear hh hfq
      generalize A.flatten.length = F at *
      generalize A.length = M at *
      by_cases h1 : k < n
      · have i0 : decide ((k : Int) < (n : Int)) = true := decide_eq_true (by omega)
        have i1 : decide ((k : Int) < 50) = false := decide_eq_false (by omega)
        clear hlt
        go_wp2
        go_ret
        exact ⟨rfl, HB.out⟩
      · have i0 : decide ((k : Int) < (n : Int)) = false := decide_eq_false (by omega)
        clear hlt
        go_wp2
        go_ret
        exact ⟨rfl, HB.out⟩
end Go.Proofs.Ytimpobfilihhmaa
