/-
  VerifyDepths' walk.
-/
import Derived.Test.YtahclmofioiibaaDoorVyD
namespace Go.Proofs.YtahclmofioiibaaDoor
open Go Go.RowKit Go.Lib

def DpRel (B0 P : Nat) (w : World) (l i : Value) (wr : World) : Prop :=
  ∃ k : Nat, i = .int .i64 k ∧ k ≤ P ∧ wr.ownsRow B0 37 3 l k (rowI (pushes k)) ∧ Below w.heap.size w wr ∧ B0 ≤ wr.heap.size

set_option maxRecDepth 100000 in
set_option maxHeartbeats 8000000 in
theorem depths_walk (x y : Int) (lo : Nat) (w : World) (hx : I64 x) (ht : CT lo w) : Calls Tryd.prog 4 #[.int .i64 x, .int .i64 y] w fun e w' => e = .returned (.bool true) ∧ Below w.heap.size w w' := by
  obtain ⟨D2, hD2, h16b⟩ := and_16 y
  obtain ⟨P, hP⟩ : ∃ P, D2 % 6 = P := ⟨_, rfl⟩
  have hP6 : P < 6 := by omega
  have hrP : (D2 : Int) % 6 = (P : Int) := by omega
  have HS := Lib.hid (shown10_any lo w ht)
  have HT := Lib.hid ht
  have HX := Lib.hid hx
  obtain ⟨i0, hi, hz0, hz1, hz2⟩ := info_parts insInfo
  have HI := Lib.hid hi
  have HZ0 := Lib.hid hz0
  clear ht hP hi hz0 hx
  go_enter Tryd.func4, Tryd.ntmps4
  go_upto_region 3 with (go_at_call 7; ((with_reducible refine HS.out.mono ?_); rintro e w1 ⟨rfl, h1⟩))
  rw [hrP]
  go_wp2
  go_loopw [6, 7] (fun l i wr => DpRel w1.heap.size P w l i wr) (fun _ i _ => P - (RowKit.intOf i).toNat)
  case atStart => exact ⟨0, rfl, Nat.zero_le _, ⟨rfl, .inl ⟨rfl, rfl⟩⟩, h1, Nat.le_refl _⟩
  case round =>
    obtain ⟨k, rfl, hk, hown, hbel, hB⟩ := hrel
    have HO := Lib.hid hown
    have HB := Lib.hid hbel
    have H1 := Lib.hid h1
    obtain ⟨X, cX, rfl⟩ := own_form hown
    clear hown hbel h1
    by_cases hkP : k < P
    · have hlt : decide ((k : Int) < (P : Int)) = true := by simp; omega
      have HKP := Lib.hid hkP
      go_wp2_with (at_builtin; refine wpl_app_own rfl _ _ 35 rfl w1.heap.size 37 i0 _ 3 24 Tryd.underlying35 HI.out HZ0.out hz1 hz2 rfl (by decide) _ (k) _ rfl (HO.out.alloc _) (some ⟨wr.heap.size, 0, none⟩) 1 1 _ rfl (fun h => by cases h) rfl (blk_news (heap_alloc_new _ _)) (one3 1 0 0) (by unfold maxLen; omega) (by omega) (by simp only [World.size_alloc]; omega) ?_; intro v9 w9 hown9 hg9)
      go_roundw
      case rel =>
        have hba : Below wr.heap.size wr (wr.alloc (.cells #[.int .i64 1, .int .i64 0, .int .i64 0] 37)) := (Below.refl _ _).alloc (Nat.le_refl _) _
        have hb9 := (HB.out.trans (hba.mono HB.out.size)).grown hg9 (Nat.le_trans HB.out.size hba.size) (fun q hq => by have := (HO.out.alloc (.cells #[.int .i64 1, .int .i64 0, .int .i64 0] 37)).lt q hq; have := H1.out.size; omega)
        refine ⟨k + 1, by go_num, by have := HKP.out; omega, ?_, hb9, by have := hg9.size; simp only [World.size_alloc] at this; omega⟩
        rw [pushes_snoc, rowI_app]
        exact hown9
      case measure => simp [RowKit.intOf]; omega
    · obtain rfl : k = P := by omega
      have hlt : decide ((k : Int) < (k : Int)) = false := by simp
      have HOK := Lib.hid (dp_ok x k HX.out)
      have HLN : Hid ((dpL x k).length = k + 3) := hid (by simp [dpL, pushes_len])
      clear hkP
      go_upto_region 10 with (at_builtin; refine wpl_app_own rfl _ _ 35 rfl w1.heap.size 37 i0 _ 3 24 Tryd.underlying35 HI.out HZ0.out hz1 hz2 rfl (by decide) _ (k) _ rfl (HO.out.alloc _) (some ⟨wr.heap.size, 0, none⟩) 3 3 _ rfl (fun h => by cases h) rfl (blk_news (heap_alloc_new _ _)) (rowI_one [(x, 1, 1), (1, 0, 0), (18, 0, 0)]) (by unfold maxLen; omega) (by omega) (by simp only [World.size_alloc]; omega) ?_; intro v9 w9 hown9 hg9; have hi9 : InV w9.heap.size w9 v9 (dpL x k) := own_ins (by unfold dpL; rw [rowI_app]; exact hown9) HLN.out.symm HOK.out; have hba : Below wr.heap.size wr (wr.alloc (.cells #[.int .i64 x, .int .i64 1, .int .i64 1, .int .i64 1, .int .i64 0, .int .i64 0, .int .i64 18, .int .i64 0, .int .i64 0] 37)) := (Below.refl _ _).alloc (Nat.le_refl _) _; have hb9 := (HB.out.trans (hba.mono HB.out.size)).grown hg9 (Nat.le_trans HB.out.size hba.size) (fun q hq => by have := (HO.out.alloc (.cells #[.int .i64 x, .int .i64 1, .int .i64 1, .int .i64 1, .int .i64 0, .int .i64 0, .int .i64 18, .int .i64 0, .int .i64 0] 37)).lt q hq; have := H1.out.size; omega); obtain ⟨X9, c9, rfl⟩ := own_form hown9; clear hown9 hg9 hba)
      obtain ⟨W, hW⟩ : ∃ W, ((w9.alloc (.cells #[.int .i64 1, .int .i64 0, .int .i64 0, .int .i64 18, .int .i64 0, .int .i64 0] 37)).alloc (.cells #[.string ⟨#[]⟩, .int .i64 0, .int .i64 2, .int .i64 2, .slice X9 (k + 3) c9, .string ⟨#[]⟩, .int .i64 3, .int .i64 3, .int .i64 0, .slice (some ⟨w9.heap.size, 0, none⟩) 2 2] 39)).alloc (.cells #[.slice (some ⟨w9.heap.size + 1, 0, none⟩) 2 2] 29) = W := ⟨_, rfl⟩
      have hb3 : Below w9.heap.size w9 W := by rw [← hW]; exact (((Below.refl _ _).alloc (Nat.le_refl _) _).alloc (by simp only [World.size_alloc]; omega) _).alloc (by simp only [World.size_alloc]; omega) _
      have n0 : W.heap[w9.heap.size]? = some (.cells #[.int .i64 1, .int .i64 0, .int .i64 0, .int .i64 18, .int .i64 0, .int .i64 0] 37) := by rw [← hW]; exact blk_alloc (blk_alloc (heap_alloc_new _ _) _) _
      have n1 : W.heap[w9.heap.size + 1]? = some (.cells #[.string ⟨#[]⟩, .int .i64 0, .int .i64 2, .int .i64 2, .slice X9 (k + 3) c9, .string ⟨#[]⟩, .int .i64 3, .int .i64 3, .int .i64 0, .slice (some ⟨w9.heap.size, 0, none⟩) 2 2] 39) := by rw [← hW]; exact blk_alloc (blk_new (by simp)) _
      have n2 : W.heap[w9.heap.size + 2]? = some (.cells #[.slice (some ⟨w9.heap.size + 1, 0, none⟩) 2 2] 29) := by rw [← hW]; exact blk_new (by simp)
      have c0 : W.cell? ⟨w9.heap.size + 2, 0, none⟩ = some (.slice (some ⟨w9.heap.size + 1, 0, none⟩) 2 2) := (blk_cell n2 0).trans rfl
      have c0' : W.cell? ⟨w9.heap.size + 1 + 1, 0, none⟩ = some (.slice (some ⟨w9.heap.size + 1, 0, none⟩) 2 2) := (blk_cell n2 0).trans rfl
      have hI2 : InV W.heap.size W (.slice (some ⟨w9.heap.size, 0, none⟩) 2 2) [(1, 0, 0), (18, 0, 0)] := inv_blk n0 rfl (by intro z hz; simp only [List.mem_cons, List.not_mem_nil, or_false] at hz; rcases hz with rfl | rfl <;> exact ⟨⟨by decide, by decide⟩, ⟨by decide, by decide⟩, ⟨by decide, by decide⟩⟩) rfl (by decide)
      have hI1 : InV W.heap.size W (.slice X9 (k + 3) c9) (dpL x k) := hi9.below hb3 hb3.size
      have hFV : FvV W.heap.size W (.slice (some ⟨w9.heap.size + 1, 0, none⟩) 2 2) [dpM x k, dpF] :=
        ⟨_, 2, rfl, Nat.le_refl _, by decide, fun _ => ⟨_, 0, rfl, blk_lt n1, (blk_cell n1 0).trans rfl, (blk_cell n1 1).trans rfl, (blk_cell n1 2).trans rfl, (blk_cell n1 3).trans rfl, ⟨_, (blk_cell n1 4).trans rfl, hI1⟩, (blk_cell n1 5).trans rfl, (blk_cell n1 6).trans rfl, (blk_cell n1 7).trans rfl, (blk_cell n1 8).trans rfl, ⟨_, (blk_cell n1 9).trans rfl, hI2⟩, trivial⟩⟩
      have hbW := hb9.trans (hb3.mono hb9.size)
      have hsh : Short [dpM x k, dpF] := by
        intro f hf
        simp only [List.mem_cons, List.not_mem_nil, or_false] at hf
        rcases hf with rfl | rfl
        · show (dpL x k).length ≤ _; rw [HLN.out]; omega
        · show 2 ≤ _; decide
      obtain ⟨z, hz⟩ : ∃ z, dpErr x k = z := ⟨_, rfl⟩
      have HC := Lib.hid (code_t _ [dpM x k, dpF] lo z hz W hFV hsh (HT.out.on (hbW.mono HT.out.lw)))
      have HBW := Lib.hid hbW
      have hval : z = 0 ∨ z = 6 := by rw [← hz]; exact dp_val x k
      have HDE := Lib.hid (fun (h15 : x ≠ 15) (h16 : x ≠ 16) => by have := dp_err x k hP6 h15 h16; rw [hz] at this; exact this)
      rw [hW]
      clear hW hb3 n0 n1 n2 hI2 hI1 hFV hsh hz hi9 hb9 hbW
      by_cases h15 : x = 15
      · subst h15
        go_wp2_with (go_at_call 9; ((with_reducible refine HC.out.mono ?_); rintro e y0 ⟨rfl, d0⟩))
        go_ret
        exact ⟨rfl, HBW.out.trans (d0.mono HBW.out.size)⟩
      by_cases h16 : x = 16
      · subst h16
        go_wp2_with (go_at_call 9; ((with_reducible refine HC.out.mono ?_); rintro e y0 ⟨rfl, d0⟩))
        go_ret
        exact ⟨rfl, HBW.out.trans (d0.mono HBW.out.size)⟩
      have g15 : (x == 15) = false := by simpa using h15
      have g16 : (x == 16) = false := by simpa using h16
      have hde := HDE.out h15 h16
      obtain ⟨t, htk⟩ : ∃ t : Nat, (kdOf x).takes = t := ⟨_, rfl⟩
      have HTK := Lib.hid (fun W' (hb : Below W.heap.size W W') => by have := takes_any x lo W' (HT.out.on ((HBW.out.trans (hb.mono HBW.out.size)).mono HT.out.lw)); rw [htk] at this; exact this)
      by_cases h17 : x = 17
      · subst h17
        have hkn : knownB 17 = true := by decide
        have hdt : dpTakes 17 = 3 := rfl
        rw [hkn, hdt, Bool.true_and] at hde
        have HKN := Lib.hid hkn
        clear g15 g16 h15 h16 hkn hdt htk
        by_cases h3 : (3 : Int) ≤ (k : Int)
        · have q1 : decide ((3 : Int) ≤ (k : Int)) = true := by simpa using h3
          have q2 : decide (3 ≤ k) = true := by simp; omega
          have q3 : 3 ≤ k := by omega
          obtain rfl : z = 0 := by rw [q1] at hde; simpa using hde
          clear hde h3 hval
          go_wp2_with (first
            | (go_at_call 9; ((with_reducible refine HC.out.mono ?_); rintro e y0 ⟨rfl, d0⟩; have d1 := d0))
            | (go_at_call 10; ((with_reducible refine (HTK.out _ d1).mono ?_); rintro e y1 ⟨rfl, d2⟩; have d3 := d1.trans (d2.mono d1.size)))
            | (go_at_call 11; ((with_reducible refine (known_any _ _).mono ?_); rintro e y2 ⟨rfl, rfl⟩; rw [HKN.out])))
          go_ret
          exact ⟨rfl, HBW.out.trans (d3.mono HBW.out.size)⟩
        · have q1 : decide ((3 : Int) ≤ (k : Int)) = false := by simpa using h3
          have q2 : decide (3 ≤ k) = false := by simp; omega
          have q3 : ¬ 3 ≤ k := by omega
          obtain rfl : z = 6 := by rw [q1] at hde; rcases hval with rfl | rfl <;> simp at hde ⊢
          clear hde h3 hval
          go_wp2_with (first
            | (go_at_call 9; ((with_reducible refine HC.out.mono ?_); rintro e y0 ⟨rfl, d0⟩; have d1 := d0))
            | (go_at_call 10; ((with_reducible refine (HTK.out _ d1).mono ?_); rintro e y1 ⟨rfl, d2⟩; have d3 := d1.trans (d2.mono d1.size)))
            | (go_at_call 11; ((with_reducible refine (known_any _ _).mono ?_); rintro e y2 ⟨rfl, rfl⟩; rw [HKN.out])))
          go_ret
          exact ⟨rfl, HBW.out.trans (d3.mono HBW.out.size)⟩
      · have g17 : (x == 17) = false := by simpa using h17
        have hdt : dpTakes x = (t : Int) := by unfold dpTakes; rw [if_neg h17, htk]
        rw [hdt] at hde
        clear h15 h16 h17 hdt htk
        cases hkn : knownB x with
        | false =>
          have HKN := Lib.hid hkn
          obtain rfl : z = 6 := by rw [hkn] at hde; rcases hval with rfl | rfl <;> simp at hde ⊢
          clear hde hval hkn
          go_wp2_with (first
            | (go_at_call 9; ((with_reducible refine HC.out.mono ?_); rintro e y0 ⟨rfl, d0⟩; have d1 := d0))
            | (go_at_call 10; ((with_reducible refine (HTK.out _ d1).mono ?_); rintro e y1 ⟨rfl, d2⟩; have d3 := d1.trans (d2.mono d1.size)))
            | (go_at_call 11; ((with_reducible refine (known_any _ _).mono ?_); rintro e y2 ⟨rfl, rfl⟩; rw [HKN.out])))
          go_ret
          exact ⟨rfl, HBW.out.trans (d3.mono HBW.out.size)⟩
        | true =>
          have HKN := Lib.hid hkn
          rw [hkn, Bool.true_and] at hde
          by_cases h3 : t ≤ k
          · have q1 : decide ((t : Int) ≤ (k : Int)) = true := by simp; omega
            have q2 : decide (t ≤ k) = true := by simp; omega
            obtain rfl : z = 0 := by rw [q1] at hde; simpa using hde
            clear hde hval hkn
            go_wp2_with (first
              | (go_at_call 9; ((with_reducible refine HC.out.mono ?_); rintro e y0 ⟨rfl, d0⟩; have d1 := d0))
              | (go_at_call 10; ((with_reducible refine (HTK.out _ d1).mono ?_); rintro e y1 ⟨rfl, d2⟩; have d3 := d1.trans (d2.mono d1.size)))
              | (go_at_call 11; ((with_reducible refine (known_any _ _).mono ?_); rintro e y2 ⟨rfl, rfl⟩; rw [HKN.out])))
            go_ret
            exact ⟨rfl, HBW.out.trans (d3.mono HBW.out.size)⟩
          · have q1 : decide ((t : Int) ≤ (k : Int)) = false := by simp; omega
            have q2 : decide (t ≤ k) = false := by simp; omega
            obtain rfl : z = 6 := by rw [q1] at hde; rcases hval with rfl | rfl <;> simp at hde ⊢
            clear hde hval hkn
            go_wp2_with (first
              | (go_at_call 9; ((with_reducible refine HC.out.mono ?_); rintro e y0 ⟨rfl, d0⟩; have d1 := d0))
              | (go_at_call 10; ((with_reducible refine (HTK.out _ d1).mono ?_); rintro e y1 ⟨rfl, d2⟩; have d3 := d1.trans (d2.mono d1.size)))
              | (go_at_call 11; ((with_reducible refine (known_any _ _).mono ?_); rintro e y2 ⟨rfl, rfl⟩; rw [HKN.out])))
            go_ret
            exact ⟨rfl, HBW.out.trans (d3.mono HBW.out.size)⟩
end Go.Proofs.YtahclmofioiibaaDoor
