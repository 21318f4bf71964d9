/-
  VerifyJumps' walk.
-/
import Derived.Test.YtahclmofioiibaaDoorVyL
namespace Go.Proofs.YtahclmofioiibaaDoor
open Go Go.RowKit Go.Lib

def jmL (t k : Nat) : List (Int × Int × Int) := [(1, 0, 0), (16, (t : Int), 0)] ++ pushes k
theorem jm_err : ∀ p : Fin 11, ∀ t : Fin 15, t.val < p.val + 4 → codeErr [fvOf (jmL t.val p.val ++ [(1, 0, 0), (18, 0, 0)])] = if t.val = 0 ∨ t.val = 2 then 0 else 6 := by decide +kernel
theorem jm_at (P t : Nat) (h1 : P < 11) (h2 : t < P + 4) : codeErr [fvOf (jmL t P ++ [(1, 0, 0), (18, 0, 0)])] = if t = 0 ∨ t = 2 then 0 else 6 := jm_err ⟨P, h1⟩ ⟨t, by omega⟩ h2
theorem jm_ok (t k : Nat) (ht : t ≤ 20) : InsOk (jmL t k ++ [(1, 0, 0), (18, 0, 0)]) := by
  refine insOk_app (insOk_app ?_ (pushes_ok k)) ?_
  · intro x hx
    simp only [List.mem_cons, List.not_mem_nil, or_false] at hx
    rcases hx with rfl | rfl
    · exact ⟨⟨by decide, by decide⟩, ⟨by decide, by decide⟩, ⟨by decide, by decide⟩⟩
    · exact ⟨i64_small (by show -1000000 ≤ (16 : Int) ∧ (16 : Int) ≤ 1000000; omega), i64_small (by show -1000000 ≤ (t : Int) ∧ (t : Int) ≤ 1000000; omega), i64_small (by show -1000000 ≤ (0 : Int) ∧ (0 : Int) ≤ 1000000; omega)⟩
  · intro x hx
    simp only [List.mem_cons, List.not_mem_nil, or_false] at hx
    rcases hx with rfl | rfl <;> exact ⟨⟨by decide, by decide⟩, ⟨by decide, by decide⟩, ⟨by decide, by decide⟩⟩
def JmRel (B0 P t : Nat) (w : World) (l i : Value) (wr : World) : Prop :=
  ∃ k : Nat, i = .int .i64 k ∧ k ≤ P ∧ wr.ownsRow B0 37 3 l (2 + k) (rowI (jmL t k)) ∧ Below w.heap.size w wr ∧ B0 ≤ wr.heap.size

set_option maxRecDepth 100000 in
set_option maxHeartbeats 8000000 in
theorem jumps_walk (x y : Int) (lo : Nat) (w : World) (ht : CT lo w) : Calls Tryd.prog 5 #[.int .i64 x, .int .i64 y] w fun e w' => e = .returned (.bool true) ∧ Below w.heap.size w w' := by
  obtain ⟨D1, hD1, h16a⟩ := and_16 x
  obtain ⟨D2, hD2, h16b⟩ := and_16 y
  obtain ⟨P, hP⟩ : ∃ P, D1 % 11 = P := ⟨_, rfl⟩
  obtain ⟨t, hT⟩ : ∃ t, D2 % (P + 4) = t := ⟨_, rfl⟩
  have hP10 : P < 11 := by omega
  have hrP : (D1 : Int) % 11 = (P : Int) := by omega
  have htP : t < P + 4 := by rw [← hT]; exact Nat.mod_lt _ (by omega)
  have hrT : (D2 : Int) % ((P : Int) + 4) = (t : Int) := by rw [← hT]; push_cast; rfl
  have hrT' : (D2 : Int).tmod ((P : Int) + 4) = (t : Int) := by rw [Int.tmod_eq_emod_of_nonneg (by omega)]; exact hrT
  have hP4 : ¬ ((P : Int) + 4 = 0) := by omega
  have HE := Lib.hid (jm_at P t hP10 htP)
  have HS := Lib.hid (shown10_any lo w ht)
  have HT := Lib.hid ht
  obtain ⟨i0, hi, hz0, hz1, hz2⟩ := info_parts insInfo
  have HI := Lib.hid hi
  have HZ0 := Lib.hid hz0
  have wP : IntKind.i64.wrap ((P : Int) + 4) = (P : Int) + 4 := IntWalk.i64_in _ (by omega)
  clear ht hP hT hi hz0
  go_enter Tryd.func5, Tryd.ntmps5
  go_upto_region 3 with (go_at_call 7; ((with_reducible refine HS.out.mono ?_); rintro e w1 ⟨rfl, h1⟩))
  rw [hrP]
  go_wp2
  go_loopw [6, 7] (fun l i wr => JmRel w1.heap.size P t w l i wr) (fun _ i _ => P - (RowKit.intOf i).toNat)
  case atStart => exact ⟨0, rfl, Nat.zero_le _, own_lit (heap_alloc_new _ _) (Nat.le_refl _) rfl (by decide), h1.alloc h1.size _, by simp⟩
  case round =>
    obtain ⟨k, rfl, hk, hown, hbel, hB⟩ := hrel
    have HO := Lib.hid hown
    have HB := Lib.hid hbel
    have H1 := Lib.hid h1
    obtain ⟨X, cX, rfl⟩ := own_form hown
    clear hown hbel h1
    by_cases hkP : k < P
    · have hlt : decide ((k : Int) < (P : Int)) = true := by simp; omega
      have HKP := Lib.hid hkP
      go_wp2_with (at_builtin; refine wpl_app_own rfl _ _ 35 rfl w1.heap.size 37 i0 _ 3 24 Tryd.underlying35 HI.out HZ0.out hz1 hz2 rfl (by decide) _ (2 + k) _ rfl (HO.out.alloc _) (some ⟨wr.heap.size, 0, none⟩) 1 1 _ rfl (fun h => by cases h) rfl (blk_news (heap_alloc_new _ _)) (one3 1 0 0) (by unfold maxLen; omega) (by omega) (by simp only [World.size_alloc]; omega) ?_; intro v9 w9 hown9 hg9)
      go_roundw
      case rel =>
        have hba : Below wr.heap.size wr (wr.alloc (.cells #[.int .i64 1, .int .i64 0, .int .i64 0] 37)) := (Below.refl _ _).alloc (Nat.le_refl _) _
        have hb9 := (HB.out.trans (hba.mono HB.out.size)).grown hg9 (Nat.le_trans HB.out.size hba.size) (fun q hq => by have := (HO.out.alloc (.cells #[.int .i64 1, .int .i64 0, .int .i64 0] 37)).lt q hq; have := H1.out.size; omega)
        refine ⟨k + 1, by go_num, by have := HKP.out; omega, ?_, hb9, by have := hg9.size; simp only [World.size_alloc] at this; omega⟩
        rw [show jmL t (k + 1) = jmL t k ++ [(1, 0, 0)] by unfold jmL; rw [pushes_snoc, List.append_assoc], rowI_app]
        exact hown9
      case measure => simp [RowKit.intOf]; omega
    · obtain rfl : k = P := by omega
      have hlt : decide ((k : Int) < (k : Int)) = false := by simp
      have hok := jm_ok t k (by omega)
      have hlen : (jmL t k ++ [(1, 0, 0), (18, 0, 0)]).length = 2 + k + 2 := by simp [jmL, pushes_len]; omega
      have HOK := Lib.hid hok
      have HLN := Lib.hid hlen
      clear hkP hok hlen
      rcases (show t = 0 ∨ t = 2 ∨ (t ≠ 0 ∧ t ≠ 2) by omega) with rfl | rfl | ⟨n0, n2⟩
      · have hE := HE.out
        rw [if_pos (by omega)] at hE
        have HE := Lib.hid hE
        clear hE
        go_wp2_with (first
          | (at_builtin; refine wpl_app_own rfl _ _ 35 rfl w1.heap.size 37 i0 _ 3 24 Tryd.underlying35 HI.out HZ0.out hz1 hz2 rfl (by decide) _ (2 + k) _ rfl (HO.out.alloc _) (some ⟨wr.heap.size, 0, none⟩) 2 2 _ rfl (fun h => by cases h) rfl (blk_news (heap_alloc_new _ _)) (rowI_one [(1, 0, 0), (18, 0, 0)]) (by unfold maxLen; omega) (by omega) (by simp only [World.size_alloc]; omega) ?_; intro v9 w9 hown9 hg9; have hi9 := own_ins (l := jmL 0 k ++ [(1, 0, 0), (18, 0, 0)]) (by rw [rowI_app]; exact hown9) HLN.out.symm HOK.out; have hba : Below wr.heap.size wr (wr.alloc (.cells #[.int .i64 1, .int .i64 0, .int .i64 0, .int .i64 18, .int .i64 0, .int .i64 0] 37)) := (Below.refl _ _).alloc (Nat.le_refl _) _; have hb9 := (HB.out.trans (hba.mono HB.out.size)).grown hg9 (Nat.le_trans HB.out.size hba.size) (fun q hq => by have := (HO.out.alloc (.cells #[.int .i64 1, .int .i64 0, .int .i64 0, .int .i64 18, .int .i64 0, .int .i64 0] 37)).lt q hq; have := H1.out.size; omega); obtain ⟨X9, c9, rfl⟩ := own_form hown9; clear hown9 hg9 hba)
          | (go_at_call 12; ((with_reducible refine (of_any _ _ _ _ _ hi9).mono ?_); rintro e x0 ⟨v0, rfl, f0, c0⟩; have b1 := hb9.trans (c0.mono hb9.size)))
          | (go_at_call 9; ((with_reducible refine (code_t _ _ lo 0 HE.out _ f0 (short_of (by rw [HLN.out]; omega)) (HT.out.on (b1.mono HT.out.lw))).mono ?_); rintro e y0 ⟨rfl, d0⟩)))
        go_ret
        exact ⟨rfl, b1.trans (d0.mono b1.size)⟩
      · have hE := HE.out
        rw [if_pos (by omega)] at hE
        have HE := Lib.hid hE
        clear hE
        go_wp2_with (first
          | (at_builtin; refine wpl_app_own rfl _ _ 35 rfl w1.heap.size 37 i0 _ 3 24 Tryd.underlying35 HI.out HZ0.out hz1 hz2 rfl (by decide) _ (2 + k) _ rfl (HO.out.alloc _) (some ⟨wr.heap.size, 0, none⟩) 2 2 _ rfl (fun h => by cases h) rfl (blk_news (heap_alloc_new _ _)) (rowI_one [(1, 0, 0), (18, 0, 0)]) (by unfold maxLen; omega) (by omega) (by simp only [World.size_alloc]; omega) ?_; intro v9 w9 hown9 hg9; have hi9 := own_ins (l := jmL 2 k ++ [(1, 0, 0), (18, 0, 0)]) (by rw [rowI_app]; exact hown9) HLN.out.symm HOK.out; have hba : Below wr.heap.size wr (wr.alloc (.cells #[.int .i64 1, .int .i64 0, .int .i64 0, .int .i64 18, .int .i64 0, .int .i64 0] 37)) := (Below.refl _ _).alloc (Nat.le_refl _) _; have hb9 := (HB.out.trans (hba.mono HB.out.size)).grown hg9 (Nat.le_trans HB.out.size hba.size) (fun q hq => by have := (HO.out.alloc (.cells #[.int .i64 1, .int .i64 0, .int .i64 0, .int .i64 18, .int .i64 0, .int .i64 0] 37)).lt q hq; have := H1.out.size; omega); obtain ⟨X9, c9, rfl⟩ := own_form hown9; clear hown9 hg9 hba)
          | (go_at_call 12; ((with_reducible refine (of_any _ _ _ _ _ hi9).mono ?_); rintro e x0 ⟨v0, rfl, f0, c0⟩; have b1 := hb9.trans (c0.mono hb9.size)))
          | (go_at_call 9; ((with_reducible refine (code_t _ _ lo 0 HE.out _ f0 (short_of (by rw [HLN.out]; omega)) (HT.out.on (b1.mono HT.out.lw))).mono ?_); rintro e y0 ⟨rfl, d0⟩)))
        go_ret
        exact ⟨rfl, b1.trans (d0.mono b1.size)⟩
      · have g0 : ((t : Int) == 0) = false := by simp; omega
        have g2 : ((t : Int) == 2) = false := by simp; omega
        have hE := HE.out
        rw [if_neg (by omega)] at hE
        have HE := Lib.hid hE
        clear hE n0 n2
        go_wp2_with (first
          | (at_builtin; refine wpl_app_own rfl _ _ 35 rfl w1.heap.size 37 i0 _ 3 24 Tryd.underlying35 HI.out HZ0.out hz1 hz2 rfl (by decide) _ (2 + k) _ rfl (HO.out.alloc _) (some ⟨wr.heap.size, 0, none⟩) 2 2 _ rfl (fun h => by cases h) rfl (blk_news (heap_alloc_new _ _)) (rowI_one [(1, 0, 0), (18, 0, 0)]) (by unfold maxLen; omega) (by omega) (by simp only [World.size_alloc]; omega) ?_; intro v9 w9 hown9 hg9; have hi9 := own_ins (l := jmL t k ++ [(1, 0, 0), (18, 0, 0)]) (by rw [rowI_app]; exact hown9) HLN.out.symm HOK.out; have hba : Below wr.heap.size wr (wr.alloc (.cells #[.int .i64 1, .int .i64 0, .int .i64 0, .int .i64 18, .int .i64 0, .int .i64 0] 37)) := (Below.refl _ _).alloc (Nat.le_refl _) _; have hb9 := (HB.out.trans (hba.mono HB.out.size)).grown hg9 (Nat.le_trans HB.out.size hba.size) (fun q hq => by have := (HO.out.alloc (.cells #[.int .i64 1, .int .i64 0, .int .i64 0, .int .i64 18, .int .i64 0, .int .i64 0] 37)).lt q hq; have := H1.out.size; omega); obtain ⟨X9, c9, rfl⟩ := own_form hown9; clear hown9 hg9 hba)
          | (go_at_call 12; ((with_reducible refine (of_any _ _ _ _ _ hi9).mono ?_); rintro e x0 ⟨v0, rfl, f0, c0⟩; have b1 := hb9.trans (c0.mono hb9.size)))
          | (go_at_call 9; ((with_reducible refine (code_t _ _ lo 6 HE.out _ f0 (short_of (by rw [HLN.out]; omega)) (HT.out.on (b1.mono HT.out.lw))).mono ?_); rintro e y0 ⟨rfl, d0⟩)))
        go_ret
        exact ⟨rfl, b1.trans (d0.mono b1.size)⟩
end Go.Proofs.YtahclmofioiibaaDoor
