/-
  HeapAgain's walk: the same again goes the same.
-/
import Derived.Test.YtimpobfilihhmaaHqS
namespace Go.Proofs.Ytimpobfilihhmaa
open Go Go.RowKit Go.Lib

def GRel (W : World) (q g g' n : Nat) (i : Value) (wr : World) : Prop := ∃ (k : Nat) (A : List (List Int)), i = .int .i64 k ∧ k ≤ n ∧ k ≤ 150 ∧ T0 W q g g' A wr
set_option maxRecDepth 100000 in
set_option maxHeartbeats 8000000 in
theorem again_walk (x : Int) (X : Option Addr) (n cap : Nat) (l : List Stp) (W : World) (hl : l.length = n) (_hnc : n ≤ cap) (_hcm : cap ≤ 9223372036854775807) (hrow : SRow W X l) :
    Calls Try.prog 7 #[.int .i64 x, .slice X n cap] W fun e W' => e = .returned (.bool true) ∧ Below W.heap.size W W' := by
  have HS := Lib.hid (shown_w W)
  have HR := Lib.hid hrow
  have HL := Lib.hid hl
  obtain ⟨q, hq⟩ : ∃ q : Nat, (min (max x 0) 1048576).toNat = q := ⟨_, rfl⟩
  have HQ := Lib.hid hq
  have HN := Lib.hid (fun (w : World) (hb : Below W.heap.size W w) => hs_new' W x w hb)
  have HN2 := Lib.hid (fun (w : World) => new_w x w)
  rw [hq] at HN
  clear hrow hl hq
  go_enter Try.func7, Try.ntmps7
  go_upto_region 3 with (first
    | (go_at_call 9; ((with_reducible refine HS.out.mono ?_); rintro e w1 ⟨rfl, b1⟩))
    | (go_at_call 10; ((with_reducible refine (HN.out _ b1).mono ?_); rintro e w2 ⟨rfl, h2⟩; obtain ⟨g, hg⟩ : ∃ g, w1.heap.size = g := ⟨_, rfl⟩; rw [hg] at h2 ⊢; clear hg b1)))
  go_upto_region 7 with (go_at_call 10; ((with_reducible refine (HN2.out _).mono ?_); rintro e w3 ⟨rfl, h3, b3⟩; have hT := t0_new HQ.out h2 h3 b3; obtain ⟨g', hg'⟩ : ∃ g', w2.heap.size = g' := ⟨_, rfl⟩; rw [hg'] at hT ⊢; clear hg' h2 h3 b3))
  clear HS HN HN2
  go_loopw [8] (fun i wr => GRel W q g g' n i wr) (fun i _ => n - (RowKit.intOf i).toNat)
  case atStart => exact ⟨0, [], rfl, Nat.zero_le _, by decide, hT⟩
  case round =>
    obtain ⟨k, A, rfl, hk, hk1, hh⟩ := hrel
    clear hT
    by_cases hlt : k < n ∧ k < 150
    · obtain ⟨⟨kd, d, p, v⟩, hs⟩ : ∃ s, l[k]? = some s := ⟨l[k]'(by have := HL.out; omega), List.getElem?_eq_getElem _⟩
      obtain ⟨b, o, rfl, c0, c1, c2, c3⟩ := HR.out.at_ hh.below hs
      have i0 : decide ((k : Int) < (n : Int)) = true := decide_eq_true (by omega)
      have i1 : decide ((k : Int) < 150) = true := decide_eq_true (by omega)
      have HLT := Lib.hid hlt
      have HH := Lib.hid hh
      clear hs hh
      go_upto_region 10 with fail
      obtain ⟨W1, hW1⟩ : ∃ w, wr.alloc (stO kd d p v) = w := ⟨_, rfl⟩
      have hW := HH.out.box (stO kd d p v) ((Below.refl _ _).alloc (Nat.le_refl _) (stO kd d p v)) (heap_alloc_new wr _)
      obtain ⟨c, hc⟩ : ∃ c, wr.heap.size = c := ⟨_, rfl⟩
      rw [hW1, hc] at hW ⊢
      clear hW1 hc HH i0 i1 c0 c1 c2 c3 hlt
      obtain ⟨z0, z1, z2, z3⟩ := st_cells hW.box
      by_cases h1 : kd = 1
      · subst h1
        by_cases he : mkE q A p = 0
        · have HS1 := hW.make p
          rw [he] at HS1
          have HS2 := Lib.hid HS1
          have HS3 := Lib.hid (fun (w' : World) (h : Tw W q g g' (mkA q A p) A c (stO 1 d p v) w') => h.swap.make p)
          rw [he] at HS3
          clear HS1 he hW
          go_upto_region 21 with (first
            | (go_at_call 11; ((with_reducible refine HS2.out.mono ?_); rintro e w5 ⟨rfl, t5⟩; obtain ⟨z0, z1, z2, z3⟩ := st_cells t5.box))
            | (go_at_call 11; ((with_reducible refine (HS3.out _ t5).mono ?_); rintro e w6 ⟨rfl, t6⟩)))
          clear z0 z1 z2 z3 t5 HS2 HS3
          have t7 := t6.swap
          clear t6
          have hc4 := st_cells t7.box
          obtain ⟨z0, z1, z2, z3⟩ := hc4
          have HT := Lib.hid (fun m => t7.drewN m)
          have HT0 := Lib.hid t7
          clear t7
          go_upto_region 23 with (first
            | (go_at_call 15; ((with_reducible refine (HT0.out.get d p).mono ?_); rintro e w8 ⟨rfl, m8, rfl⟩))
            | (go_at_call 15; ((with_reducible refine ((HT.out _).swap.get d p).mono ?_); rintro e w9 ⟨rfl, m9, rfl⟩)))
          have tq := HT.out (m8 + m9)
          obtain ⟨wq, hwq⟩ : ∃ wq, w6.drewN (m8 + m9) = wq := ⟨_, rfl⟩
          rw [hwq] at tq ⊢
          clear hwq z0 z1 z2 z3 HT HT0
          obtain ⟨z0, z1, z2, z3⟩ := st_cells tq.box
          have HT2 := Lib.hid (fun m => tq.drewN m)
          clear tq
          go_quiet ((first
            | (go_at_call 17; with_reducible exact Calls.quiet_of_same (HT2.out _).used)
            | (go_at_call 17; with_reducible exact Calls.quiet_of_same (HT2.out _).swap.used)
            | (go_at_call 19; with_reducible exact Calls.quiet_of ((HT2.out _).len d))
            | (go_at_call 19; with_reducible exact Calls.quiet_of ((HT2.out _).swap.len d))))
          go_wp2
          go_roundw
          case rel => exact ⟨k + 1, mkA q A p, by go_num, HLT.out.1, HLT.out.2, (HT2.out _).t0⟩
          case measure => have := HLT.out; simp [RowKit.intOf]; omega
        · have HS1 := hW.make p
          have hst : mkA q A p = A := by unfold mkA; rw [if_neg he]
          rw [hst] at HS1
          have HS2 := Lib.hid HS1
          have he' : (mkE q A p == 0) = false := by simpa using he
          clear HS1 he hst hW
          go_upto_region 21 with (go_at_call 11; ((with_reducible refine HS2.out.mono ?_); rintro e w5 ⟨rfl, t5⟩))
          clear HS2
          have hc4 := st_cells t5.box
          obtain ⟨z0, z1, z2, z3⟩ := hc4
          have HT := Lib.hid (fun m => t5.drewN m)
          have HT0 := Lib.hid t5
          clear t5
          go_upto_region 23 with (first
            | (go_at_call 15; ((with_reducible refine (HT0.out.get d p).mono ?_); rintro e w8 ⟨rfl, m8, rfl⟩))
            | (go_at_call 15; ((with_reducible refine ((HT.out _).swap.get d p).mono ?_); rintro e w9 ⟨rfl, m9, rfl⟩)))
          have tq := HT.out (m8 + m9)
          obtain ⟨wq, hwq⟩ : ∃ wq, w5.drewN (m8 + m9) = wq := ⟨_, rfl⟩
          rw [hwq] at tq ⊢
          clear hwq z0 z1 z2 z3 HT HT0
          obtain ⟨z0, z1, z2, z3⟩ := st_cells tq.box
          have HT2 := Lib.hid (fun m => tq.drewN m)
          clear tq
          go_quiet ((first
            | (go_at_call 17; with_reducible exact Calls.quiet_of_same (HT2.out _).used)
            | (go_at_call 17; with_reducible exact Calls.quiet_of_same (HT2.out _).swap.used)
            | (go_at_call 19; with_reducible exact Calls.quiet_of ((HT2.out _).len d))
            | (go_at_call 19; with_reducible exact Calls.quiet_of ((HT2.out _).swap.len d))))
          go_wp2
          go_roundw
          case rel => exact ⟨k + 1, A, by go_num, HLT.out.1, HLT.out.2, (HT2.out _).t0⟩
          case measure => have := HLT.out; simp [RowKit.intOf]; omega
      · by_cases h2 : kd = 2
        · subst h2
          by_cases hin : inR A d p = true
          · have HS1 := hW.set d p v
            rw [hin] at HS1
            have HS2 := Lib.hid HS1
            have HS3 := Lib.hid (fun (w' : World) (h : Tw W q g g' (stA A d p v) A c (stO 2 d p v) w') => h.swap.set d p v)
            rw [hin] at HS3
            have HIN := Lib.hid hin
            clear HS1 hin hW
            go_upto_region 21 with (first
              | (go_at_call 13; ((with_reducible refine HS2.out.mono ?_); rintro e w5 ⟨rfl, t5⟩; obtain ⟨z0, z1, z2, z3⟩ := st_cells t5.box))
              | (go_at_call 13; ((with_reducible refine (HS3.out _ t5).mono ?_); rintro e w6 ⟨rfl, t6⟩)))
            clear z0 z1 z2 z3 t5 HS2 HS3
            have t7 := t6.swap
            clear t6
            have hc4 := st_cells t7.box
            obtain ⟨z0, z1, z2, z3⟩ := hc4
            have HT := Lib.hid (fun m => t7.drewN m)
            have HT0 := Lib.hid t7
            clear t7
            go_upto_region 23 with (first
              | (go_at_call 15; ((with_reducible refine (HT0.out.get d p).mono ?_); rintro e w8 ⟨rfl, m8, rfl⟩))
              | (go_at_call 15; ((with_reducible refine ((HT.out _).swap.get d p).mono ?_); rintro e w9 ⟨rfl, m9, rfl⟩)))
            have tq := HT.out (m8 + m9)
            obtain ⟨wq, hwq⟩ : ∃ wq, w6.drewN (m8 + m9) = wq := ⟨_, rfl⟩
            rw [hwq] at tq ⊢
            clear hwq z0 z1 z2 z3 HT HT0
            obtain ⟨z0, z1, z2, z3⟩ := st_cells tq.box
            have HT2 := Lib.hid (fun m => tq.drewN m)
            clear tq
            go_quiet ((first
              | (go_at_call 17; with_reducible exact Calls.quiet_of_same (HT2.out _).used)
              | (go_at_call 17; with_reducible exact Calls.quiet_of_same (HT2.out _).swap.used)
              | (go_at_call 19; with_reducible exact Calls.quiet_of ((HT2.out _).len d))
              | (go_at_call 19; with_reducible exact Calls.quiet_of ((HT2.out _).swap.len d))))
            go_wp2
            go_roundw
            case rel => exact ⟨k + 1, stA A d p v, by go_num, HLT.out.1, HLT.out.2, (HT2.out _).t0⟩
            case measure => have := HLT.out; simp [RowKit.intOf]; omega
          · have hin' : inR A d p = false := by simpa using hin
            have HS1 := hW.set d p v
            have hst : stA A d p v = A := by unfold stA; rw [if_neg hin]
            rw [hin', hst] at HS1
            have HS2 := Lib.hid HS1
            clear HS1 hin hin' hst hW
            go_upto_region 21 with (go_at_call 13; ((with_reducible refine HS2.out.mono ?_); rintro e w5 ⟨rfl, t5⟩))
            clear HS2
            have hc4 := st_cells t5.box
            obtain ⟨z0, z1, z2, z3⟩ := hc4
            have HT := Lib.hid (fun m => t5.drewN m)
            have HT0 := Lib.hid t5
            clear t5
            go_upto_region 23 with (first
              | (go_at_call 15; ((with_reducible refine (HT0.out.get d p).mono ?_); rintro e w8 ⟨rfl, m8, rfl⟩))
              | (go_at_call 15; ((with_reducible refine ((HT.out _).swap.get d p).mono ?_); rintro e w9 ⟨rfl, m9, rfl⟩)))
            have tq := HT.out (m8 + m9)
            obtain ⟨wq, hwq⟩ : ∃ wq, w5.drewN (m8 + m9) = wq := ⟨_, rfl⟩
            rw [hwq] at tq ⊢
            clear hwq z0 z1 z2 z3 HT HT0
            obtain ⟨z0, z1, z2, z3⟩ := st_cells tq.box
            have HT2 := Lib.hid (fun m => tq.drewN m)
            clear tq
            go_quiet ((first
              | (go_at_call 17; with_reducible exact Calls.quiet_of_same (HT2.out _).used)
              | (go_at_call 17; with_reducible exact Calls.quiet_of_same (HT2.out _).swap.used)
              | (go_at_call 19; with_reducible exact Calls.quiet_of ((HT2.out _).len d))
              | (go_at_call 19; with_reducible exact Calls.quiet_of ((HT2.out _).swap.len d))))
            go_wp2
            go_roundw
            case rel => exact ⟨k + 1, A, by go_num, HLT.out.1, HLT.out.2, (HT2.out _).t0⟩
            case measure => have := HLT.out; simp [RowKit.intOf]; omega
        · by_cases h3 : kd = 3
          · subst h3
            by_cases hin : inR A d p = true
            · have HS1 := hW.set d p v
              rw [hin] at HS1
              have HS2 := Lib.hid HS1
              have HS3 := Lib.hid (fun (w' : World) (h : Tw W q g g' (stA A d p v) A c (stO 3 d p v) w') => h.swap.set d p v)
              rw [hin] at HS3
              have HIN := Lib.hid hin
              clear HS1 hin hW
              go_upto_region 21 with (first
                | (go_at_call 13; ((with_reducible refine HS2.out.mono ?_); rintro e w5 ⟨rfl, t5⟩; obtain ⟨z0, z1, z2, z3⟩ := st_cells t5.box))
                | (go_at_call 13; ((with_reducible refine (HS3.out _ t5).mono ?_); rintro e w6 ⟨rfl, t6⟩)))
              clear z0 z1 z2 z3 t5 HS2 HS3
              have t7 := t6.swap
              clear t6
              have hc4 := st_cells t7.box
              obtain ⟨z0, z1, z2, z3⟩ := hc4
              have HT := Lib.hid (fun m => t7.drewN m)
              have HT0 := Lib.hid t7
              clear t7
              go_upto_region 23 with (first
                | (go_at_call 15; ((with_reducible refine (HT0.out.get d p).mono ?_); rintro e w8 ⟨rfl, m8, rfl⟩))
                | (go_at_call 15; ((with_reducible refine ((HT.out _).swap.get d p).mono ?_); rintro e w9 ⟨rfl, m9, rfl⟩)))
              have tq := HT.out (m8 + m9)
              obtain ⟨wq, hwq⟩ : ∃ wq, w6.drewN (m8 + m9) = wq := ⟨_, rfl⟩
              rw [hwq] at tq ⊢
              clear hwq z0 z1 z2 z3 HT HT0
              obtain ⟨z0, z1, z2, z3⟩ := st_cells tq.box
              have HT2 := Lib.hid (fun m => tq.drewN m)
              clear tq
              go_quiet ((first
                | (go_at_call 17; with_reducible exact Calls.quiet_of_same (HT2.out _).used)
                | (go_at_call 17; with_reducible exact Calls.quiet_of_same (HT2.out _).swap.used)
                | (go_at_call 19; with_reducible exact Calls.quiet_of ((HT2.out _).len d))
                | (go_at_call 19; with_reducible exact Calls.quiet_of ((HT2.out _).swap.len d))))
              go_wp2
              go_roundw
              case rel => exact ⟨k + 1, stA A d p v, by go_num, HLT.out.1, HLT.out.2, (HT2.out _).t0⟩
              case measure => have := HLT.out; simp [RowKit.intOf]; omega
            · have hin' : inR A d p = false := by simpa using hin
              have HS1 := hW.set d p v
              have hst : stA A d p v = A := by unfold stA; rw [if_neg hin]
              rw [hin', hst] at HS1
              have HS2 := Lib.hid HS1
              clear HS1 hin hin' hst hW
              go_upto_region 21 with (go_at_call 13; ((with_reducible refine HS2.out.mono ?_); rintro e w5 ⟨rfl, t5⟩))
              clear HS2
              have hc4 := st_cells t5.box
              obtain ⟨z0, z1, z2, z3⟩ := hc4
              have HT := Lib.hid (fun m => t5.drewN m)
              have HT0 := Lib.hid t5
              clear t5
              go_upto_region 23 with (first
                | (go_at_call 15; ((with_reducible refine (HT0.out.get d p).mono ?_); rintro e w8 ⟨rfl, m8, rfl⟩))
                | (go_at_call 15; ((with_reducible refine ((HT.out _).swap.get d p).mono ?_); rintro e w9 ⟨rfl, m9, rfl⟩)))
              have tq := HT.out (m8 + m9)
              obtain ⟨wq, hwq⟩ : ∃ wq, w5.drewN (m8 + m9) = wq := ⟨_, rfl⟩
              rw [hwq] at tq ⊢
              clear hwq z0 z1 z2 z3 HT HT0
              obtain ⟨z0, z1, z2, z3⟩ := st_cells tq.box
              have HT2 := Lib.hid (fun m => tq.drewN m)
              clear tq
              go_quiet ((first
                | (go_at_call 17; with_reducible exact Calls.quiet_of_same (HT2.out _).used)
                | (go_at_call 17; with_reducible exact Calls.quiet_of_same (HT2.out _).swap.used)
                | (go_at_call 19; with_reducible exact Calls.quiet_of ((HT2.out _).len d))
                | (go_at_call 19; with_reducible exact Calls.quiet_of ((HT2.out _).swap.len d))))
              go_wp2
              go_roundw
              case rel => exact ⟨k + 1, A, by go_num, HLT.out.1, HLT.out.2, (HT2.out _).t0⟩
              case measure => have := HLT.out; simp [RowKit.intOf]; omega
          · have e1 : (kd == 1) = false := by simpa using h1
            have e2 : (kd == 2) = false := by simpa using h2
            have e3 : (kd == 3) = false := by simpa using h3
            clear h1 h2 h3
            go_upto_region 21 with fail
            clear z0 z1 z2 z3
            have t5 := hW
            clear hW
            have hc4 := st_cells t5.box
            obtain ⟨z0, z1, z2, z3⟩ := hc4
            have HT := Lib.hid (fun m => t5.drewN m)
            have HT0 := Lib.hid t5
            clear t5
            go_upto_region 23 with (first
              | (go_at_call 15; ((with_reducible refine (HT0.out.get d p).mono ?_); rintro e w8 ⟨rfl, m8, rfl⟩))
              | (go_at_call 15; ((with_reducible refine ((HT.out _).swap.get d p).mono ?_); rintro e w9 ⟨rfl, m9, rfl⟩)))
            have tq := HT.out (m8 + m9)
            obtain ⟨wq, hwq⟩ : ∃ wq, W1.drewN (m8 + m9) = wq := ⟨_, rfl⟩
            rw [hwq] at tq ⊢
            clear hwq z0 z1 z2 z3 HT HT0
            obtain ⟨z0, z1, z2, z3⟩ := st_cells tq.box
            have HT2 := Lib.hid (fun m => tq.drewN m)
            clear tq
            go_quiet ((first
              | (go_at_call 17; with_reducible exact Calls.quiet_of_same (HT2.out _).used)
              | (go_at_call 17; with_reducible exact Calls.quiet_of_same (HT2.out _).swap.used)
              | (go_at_call 19; with_reducible exact Calls.quiet_of ((HT2.out _).len d))
              | (go_at_call 19; with_reducible exact Calls.quiet_of ((HT2.out _).swap.len d))))
            go_wp2
            go_roundw
            case rel => exact ⟨k + 1, A, by go_num, HLT.out.1, HLT.out.2, (HT2.out _).t0⟩
            case measure => have := HLT.out; simp [RowKit.intOf]; omega
    · have HB := Lib.hid hh.below
      clear hh
      by_cases h1 : k < n
      · have i0 : decide ((k : Int) < (n : Int)) = true := decide_eq_true (by omega)
        have i1 : decide ((k : Int) < 150) = false := decide_eq_false (by omega)
        clear hlt
        go_wp2
        go_ret
        exact ⟨rfl, HB.out⟩
      · have i0 : decide ((k : Int) < (n : Int)) = false := decide_eq_false (by omega)
        clear hlt
        go_wp2
        go_ret
        exact ⟨rfl, HB.out⟩
end Go.Proofs.Ytimpobfilihhmaa
