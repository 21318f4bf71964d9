/-
  A heap's calls that write.
-/
import Derived.Test.YtimpobfilihhmaaHpB
namespace Go.Proofs.Ytimpobfilihhmaa
open Go Go.RowKit Go.Lib

theorem stA_pos {A : List (List Int)} {id i v : Int} (h : ∀ a ∈ A, 1 ≤ a.length) : ∀ a ∈ stA A id i v, 1 ≤ a.length := by
  intro a ha
  unfold stA at ha
  split at ha
  · rename_i hin
    unfold inR at hin
    simp only [decide_eq_true_eq] at hin
    rcases List.mem_or_eq_of_mem_set ha with h1 | rfl
    · exact h a h1
    · rw [List.length_set]; omega
  · exact h a ha
set_option maxRecDepth 100000 in
set_option maxHeartbeats 2000000 in
/-- Set. -/
theorem set_w {F : List Nat} {g q : Nat} {A : List (List Int)} {W : World} (h : HpI F g q A W) (id i v : Int) :
    Calls Try.prog 13 #[.pointer (some ⟨g, 0, none⟩), .int .i64 id, .int .i64 i, .int .i64 v] W fun e W' => e = .returned (.bool (inR A id i)) ∧ HpI F g q (stA A id i v) W' ∧ Kf F W W' := by
  by_cases hi : 0 ≤ id ∧ id < (A.length : Int)
  · obtain ⟨k, a, rfl, ha⟩ := in_row hi
    obtain ⟨cb, cc, eb, ce, h1, hc1, hc2, -, -, hcF, hown, howne, -, hcell, -, -, hk, -, -, -⟩ := h.open_ ha
    have HC := Lib.hid (array_in h ha h1)
    by_cases hj : 0 ≤ i ∧ i < (a.length : Int)
    · obtain ⟨j, rfl⟩ : ∃ j : Nat, i = (j : Int) := ⟨i.toNat, by omega⟩
      have hin : inR A (k : Int) (j : Int) = true := by unfold inR; rw [arr_nat ha]; exact decide_eq_true hj
      have hb : decide (0 ≤ (j : Int) ∧ (j : Int) < (a.length : Int)) = true := decide_eq_true hj
      have hjl : j < a.length := by omega
      have hst : stA A (k : Int) (j : Int) v = A.set k (a.set j v) := by unfold stA; rw [if_pos hin, arr_nat ha, Int.toNat_natCast, Int.toNat_natCast]
      have hpos := stA_pos (id := (k : Int)) (i := (j : Int)) (v := v) h.pos
      rw [hst] at hpos ⊢
      rw [hin]
      have hfl := cel_set A k j a v ha hjl
      have hes := ens_set A 0 k a (a.set j v) ha (by simp)
      have hxl : (A.set k (a.set j v)).flatten.length = A.flatten.length := by rw [← hfl, List.length_set]
      have hat := cel_at A k j a ha hjl
      rw [List.getElem?_eq_getElem hjl] at hat
      have hoj : off A k + j < A.flatten.length := (List.getElem?_eq_some_iff.1 hat).1
      obtain ⟨hs1, hs2⟩ := hown.stored (off A k + j) (.int .i64 v)
      rw [i64V_set, hfl] at hs1
      have hv0 : W.cell? ⟨cb, off A k + j, none⟩ = some (.int .i64 a[j]) := hcell j _ (List.getElem?_eq_getElem hjl)
      have hf0 : W.frozen? ⟨cb, off A k + j, none⟩ = false := hown.frozenAt _
      have hend : HpI F g q (A.set k (a.set j v)) (W.setCell ⟨cb, off A k + j, none⟩ (.int .i64 v)) := by
        refine ⟨h.q1, hpos, by rw [hxl]; exact h.fit, h.gF, fun k hk => by simpa using h.lt k hk, .slice (some ⟨cb, 0, none⟩) A.flatten.length cc, .slice (some ⟨eb, 0, none⟩) A.length ce, ?_, ?_, ?_, fun k hk => ?_, fun k hk => ?_⟩
        · refine (Below.heap_setCell _ _ _ _ fun e => ?_).trans h1
          exact own_ne hown h1 (by decide) (by rw [e]; rfl)
        · rw [hxl]; exact hs1
        · rw [hes, List.length_set]
          exact own_set howne (fun e => by
            rcases own_disj howne hown (by decide) with h0 | h0
            · cases h0
            · exact h0 e.symm) _
        · injection hk with hk; exact hk ▸ hcF
        · obtain ⟨vc, ve, g1, g2, g3, g4, g5⟩ := h.row
          rw [h1] at g1
          simp [-List.length_flatten] at g1
          exact g5 k (by rw [← g1.2]; exact hk)
      have hkf : Kf F W (W.setCell ⟨cb, off A k + j, none⟩ (.int .i64 v)) := ⟨rfl, rfl, rfl, by simp, fun k' _ hk' => Below.heap_setCell _ _ _ _ fun e => hk' (by rw [e]; exact hcF)⟩
      have HE := Lib.hid hend
      have HK := Lib.hid hkf
      clear hend hkf hs1 hs2 hes hfl hpos hst hin hown howne h1 h hi hcell hcF hat hoj hxl hk
      generalize a[j] = x0 at *
      generalize off A k = o at *
      generalize a.length = n at *
      have HH := Lib.hid (fun X W => has_w X n n (j : Int) W)
      clear hj ha
      go_enter Try.func13, Try.ntmps13
      go_wp2_with (first | (go_at_call 21; ((with_reducible refine HC.out.mono ?_); rintro e w1 ⟨rfl, m1, rfl⟩)) | (go_at_call 22; ((with_reducible refine (HH.out _ _).mono ?_); rw [hb]; rintro e w1 ⟨rfl, rfl⟩)))
      go_ret
      exact ⟨rfl, HE.out.drewN m1, HK.out.trans (Kf.drewN [] _ m1) (fun _ h => by cases h)⟩
    · have hb : decide (0 ≤ i ∧ i < (a.length : Int)) = false := decide_eq_false hj
      have hin : inR A (k : Int) i = false := by unfold inR; rw [arr_nat ha]; exact hb
      have hst : stA A (k : Int) i v = A := by unfold stA; rw [if_neg (by rw [hin]; decide)]
      rw [hst, hin]
      have HE := Lib.hid h
      clear h hst hin h1 hi hcell hown howne
      generalize off A k = o at *
      generalize a.length = n at *
      have HH := Lib.hid (fun X W => has_w X n n i W)
      clear hj
      go_enter Try.func13, Try.ntmps13
      go_wp2_with (first | (go_at_call 21; ((with_reducible refine HC.out.mono ?_); rintro e w1 ⟨rfl, m1, rfl⟩)) | (go_at_call 22; ((with_reducible refine (HH.out _ _).mono ?_); rw [hb]; rintro e w1 ⟨rfl, rfl⟩)))
      go_ret
      exact ⟨rfl, HE.out.drewN m1, Kf.drewN F _ m1⟩
  · have HC := Lib.hid (array_out h hi)
    have hb : decide (0 ≤ i ∧ i < ((0 : Nat) : Int)) = false := decide_eq_false (by omega)
    have hin : inR A id i = false := by unfold inR; rw [arr_out hi]; exact hb
    have hst : stA A id i v = A := by unfold stA; rw [if_neg (by rw [hin]; decide)]
    rw [hst, hin]
    have HE := Lib.hid h
    clear h hi hst hin
    have HH := Lib.hid (fun X W => has_w X 0 0 i W)
    go_enter Try.func13, Try.ntmps13
    go_wp2_with (first | (go_at_call 21; ((with_reducible refine HC.out.mono ?_); rintro e w1 ⟨rfl, rfl⟩)) | (go_at_call 22; ((with_reducible refine (HH.out _ _).mono ?_); rw [hb]; rintro e w1 ⟨rfl, rfl⟩)))
    go_ret
    exact ⟨rfl, HE.out, Kf.refl F _⟩
end Go.Proofs.Ytimpobfilihhmaa
