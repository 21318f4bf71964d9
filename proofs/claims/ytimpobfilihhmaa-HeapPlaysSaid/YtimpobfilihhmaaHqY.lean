/-
  The document's own heap: Make.
-/
import Derived.Test.YtimpobfilihhmaaHqX
namespace Go.Proofs.Ytimpobfilihhmaa
open Go Go.RowKit Go.Lib

theorem made_fnd {A : List (List Int)} {P : List Pt} {k : Nat} (hn : ∀ d i : Int, (A.length : Int) ≤ d → fnd P d i P.length = 0) (hf : ∀ d i : Int, 0 ≤ i → i < ((arr A d).length : Int) → fnd P d i P.length = (arr A d).getD i.toNat 0) :
    ∀ d i : Int, 0 ≤ i → i < ((arr (A ++ [List.replicate k (0 : Int)]) d).length : Int) → fnd P d i P.length = (arr (A ++ [List.replicate k (0 : Int)]) d).getD i.toNat 0 := by
  intro d i h0 h1
  rcases Int.lt_or_le d 0 with h2 | h2
  · have e : arr (A ++ [List.replicate k (0 : Int)]) d = [] := by unfold arr; rw [if_neg (by omega)]
    rw [e] at h1; simp at h1; omega
  · obtain ⟨m, rfl⟩ : ∃ m : Nat, d = (m : Int) := ⟨d.toNat, by omega⟩
    rcases Nat.lt_trichotomy m A.length with h3 | h3 | h3
    · have e : arr (A ++ [List.replicate k (0 : Int)]) (m : Int) = arr A (m : Int) := by
        unfold arr
        rw [if_pos h2, if_pos h2, Int.toNat_natCast, List.getD_eq_getElem?_getD, List.getD_eq_getElem?_getD, List.getElem?_append_left h3]
      rw [e] at h1 ⊢
      exact hf _ i h0 h1
    · subst h3
      rw [arr_last, hn _ i (Int.le_refl _), List.getD_eq_getElem?_getD, List.getElem?_replicate]
      split <;> rfl
    · have e : arr (A ++ [List.replicate k (0 : Int)]) (m : Int) = [] := arr_out (by rw [List.length_append, List.length_singleton]; omega)
      rw [e] at h1; simp at h1; omega
abbrev RmPost (F : List Nat) (g N q : Nat) (x : Int) (A : List (List Int)) (n : Int) (W : World) (e : Ending) (W' : World) : Prop :=
  e = .returned (.tuple #[.int .i64 (mkI q A n), .int .i64 (mkE q A n)]) ∧ ∃ F', RpI F' g x N (mkA q A n) W' ∧ Kf F W W' ∧ ∀ k ∈ F', k ∈ F ∨ W.heap.size ≤ k
set_option maxRecDepth 100000 in
set_option maxHeartbeats 4000000 in
theorem rmake_w {F : List Nat} {g N q : Nat} {x : Int} {A : List (List Int)} {W : World} (h : RpI F g x N A W) (hq : (min (max x 0) 1048576).toNat = q) (n : Int) :
    Calls Try.prog 12 #[.pointer (some ⟨g, 0, none⟩), .int .i64 n] W (RmPost F g N q x A n W) := by
  have HU := Lib.hid (fun m => rused_w (h.drewN m))
  by_cases hs : n < 1 ∨ 4096 < n
  · have he := mkE_small (q := q) (A := A) hs
    obtain ⟨e1, e2⟩ := mk_bad he (by decide)
    have HP : Hid (RmPost F g N q x A n W (.returned (.tuple #[.int .i64 0, .int .i64 1])) W) := Lib.hid ⟨by rw [e1, he], F, by rw [e2]; exact h, Kf.refl F W, fun k hk => .inl hk⟩
    clear h he e1 e2 HU hq
    by_cases h0 : n < 1
    · have b0 : decide (n < 1) = true := decide_eq_true h0
      go_enter Try.func12, Try.ntmps12
      go_wp2
      go_ret2
      exact HP.out
    · have b0 : decide (n < 1) = false := decide_eq_false h0
      have b1 : decide (4096 < n) = true := decide_eq_true (by omega)
      go_enter Try.func12, Try.ntmps12
      go_wp2
      go_ret2
      exact HP.out
  · have b0 : decide (n < 1) = false := decide_eq_false (by omega)
    have b1 : decide (4096 < n) = false := decide_eq_false (by omega)
    obtain ⟨vz, vp, P, g1, g2, g3, g4, g5, hP, hnw, hf⟩ := h.row
    obtain ⟨Xz, cz, rfl⟩ := own_form g2
    have htot := h.tot
    have hlt := len_tot A h.pos
    have c0 : W.cell? ⟨g, 0, none⟩ = some (.int .i64 x) := (blk_cell g1 0).trans rfl
    have c1 : W.cell? ⟨g, 1, none⟩ = some (.slice Xz A.length cz) := (blk_cell g1 1).trans rfl
    have hxq : min (max x 0) 1048576 = (q : Int) := by omega
    have HXQ := Lib.hid hxq
    obtain ⟨X, hX⟩ : ∃ X, min (max x 0) 1048576 = X := ⟨_, rfl⟩
    have HX := Lib.hid hX
    by_cases hfu : (q : Int) < (A.flatten.length : Int) + n
    · have he := mkE_full hs hfu
      obtain ⟨e1, e2⟩ := mk_bad he (by decide)
      have HP : Hid (∀ m, RmPost F g N q x A n W (.returned (.tuple #[.int .i64 0, .int .i64 9])) (W.drewN m)) := Lib.hid fun m => ⟨by rw [e1, he], F, by rw [e2]; exact h.drewN m, Kf.drewN F W m, fun k hk => .inl hk⟩
      clear h he e1 e2 g1 g2 g3 g4 g5 hf hnw hP
      generalize A.flatten.length = T at *
      generalize A.length = M at *
      have w1 : IntKind.i64.wrap ((T : Int) + n) = (T : Int) + n := IntWalk.i64_in _ (by omega)
      have b2 : decide ((q : Int) < (T : Int) + n) = true := decide_eq_true hfu
      clear hs hX hfu hq
      go_enter Try.func12, Try.ntmps12
      go_wp2
      go_quiet ((go_at_call 18; with_reducible exact Calls.quiet_of_same (HU.out _)))
      go_wp2
      go_ret2
      exact HP.out _
    · have he := mkE_ok hs hfu
      obtain ⟨e1, e2⟩ := mk_good he
      obtain ⟨k, rfl⟩ : ∃ k : Nat, n = (k : Int) := ⟨n.toNat, by omega⟩
      rw [Int.toNat_natCast] at e2
      have hk1 : 0 < k := by omega
      have hp := h.pos
      have hgF := h.gF
      have hF := h.lt
      unfold RmPost
      rw [e1, e2, he]
      have hlen : (List.replicate k (0 : Int)).length = k := List.length_replicate
      have HPOS : Hid (∀ a ∈ A ++ [List.replicate k (0 : Int)], 1 ≤ a.length) := Lib.hid fun a ha => by
        rcases List.mem_append.1 ha with h' | h'
        · exact hp a h'
        · rw [List.mem_singleton.1 h', hlen]; omega
      have HTOT : Hid ((A ++ [List.replicate k (0 : Int)]).flatten.length ≤ 1048576) := Lib.hid (by
        rw [List.flatten_append, List.length_append]
        simp only [List.flatten_cons, List.flatten_nil, List.append_nil, hlen]
        omega)
      have HSZ : Hid (sizes (A ++ [List.replicate k (0 : Int)]) = sizes A ++ [(k : Int)]) := Lib.hid (by unfold sizes; rw [List.map_append, List.map_cons, hlen]; rfl)
      have HFN : Hid (∀ d i : Int, 0 ≤ i → i < ((arr (A ++ [List.replicate k (0 : Int)]) d).length : Int) → fnd P d i P.length = (arr (A ++ [List.replicate k (0 : Int)]) d).getD i.toNat 0) := Lib.hid (made_fnd hnw hf)
      have HNW : Hid (∀ d i : Int, ((A ++ [List.replicate k (0 : Int)]).length : Int) ≤ d → fnd P d i P.length = 0) := Lib.hid fun d i h1 => hnw d i (by rw [List.length_append, List.length_singleton] at h1; omega)
      obtain ⟨i0, hi, hz0, hz1, hz2⟩ := info_parts i64Info
      have HI := Lib.hid hi
      have HZ0 := Lib.hid hz0
      have HB := Lib.hid g1
      have HZ := Lib.hid g2
      have HO := Lib.hid g3
      have HG := Lib.hid g4
      have HG2 := Lib.hid g5
      have HF := Lib.hid hF
      have HNP := Lib.hid hP
      have hAA : A.length ≤ 1048576 := by omega
      have w1 : IntKind.i64.wrap ((A.flatten.length : Int) + (k : Int)) = (A.flatten.length : Int) + (k : Int) := IntWalk.i64_in _ (by omega)
      have b2 : decide ((q : Int) < (A.flatten.length : Int) + (k : Int)) = false := decide_eq_false (by omega)
      have b3 : decide (q < A.flatten.length + k) = false := decide_eq_false (by omega)
      clear h he e1 e2 g1 g2 g3 g4 g5 hf hnw hP hp hs hi hz0 hF hX hfu hq hlen
      generalize A.flatten.length = T at *
      obtain ⟨M, hM⟩ : ∃ M, A.length = M := ⟨_, rfl⟩
      have HM := Lib.hid hM
      rw [hM] at c1 hlt HB HZ hAA HG ⊢
      clear hM
      go_enter Try.func12, Try.ntmps12
      go_wp2
      go_quiet ((go_at_call 18; with_reducible exact Calls.quiet_of_same (HU.out _)))
      have hB : (W.drewN nq).heap[g]? = some (rfO x (.slice Xz M cz) vp) := HB.out
      have hZ : (W.drewN nq).ownsRow 0 2 1 (.slice Xz M cz) M (i64V (sizes A)) := HZ.out
      have hO : (W.drewN nq).ownsRow 0 57 3 vp P.length (ptV P) := HO.out
      have hK : Kf F W (W.drewN nq) := Kf.drewN F W nq
      obtain ⟨Wq, hWq⟩ : ∃ Wq, W.drewN nq = Wq := ⟨_, rfl⟩
      rw [hWq] at hB hZ hO hK ⊢
      obtain ⟨Wa, hWa⟩ : ∃ Wa, Wq.alloc (.cells #[.int .i64 (k : Int)] 2) = Wa := ⟨_, rfl⟩
      obtain ⟨z, hz⟩ : ∃ z, Wq.heap.size = z := ⟨_, rfl⟩
      have hb1 : Below Wq.heap.size Wq Wa := by rw [← hWa]; exact (Below.refl _ _).alloc (Nat.le_refl _) _
      have HX1 : Hid (Wa.heap[z]? = some (.cells #[.int .i64 (k : Int)] 2)) := Lib.hid (by rw [← hWa, ← hz]; exact heap_alloc_new Wq _)
      have HO1 : Hid (Wa.ownsRow 0 57 3 vp P.length (ptV P)) := Lib.hid (by rw [← hWa]; exact hO.alloc _)
      have HZ1 : Hid (Wa.ownsRow 0 2 1 (.slice Xz M cz) M (i64V (sizes A))) := Lib.hid (by rw [← hWa]; exact hZ.alloc _)
      have HB1 : Hid (Wa.heap[g]? = some (rfO x (.slice Xz M cz) vp)) := Lib.hid (by rw [← hWa]; exact blk_alloc hB _)
      have HK1 : Hid (Kf F W Wa) := Lib.hid (hK.trans (Kf.of_below hb1 []) fun _ h => by cases h)
      have HZS : Hid (W.heap.size ≤ Wa.heap.size) := Lib.hid HK1.out.size
      have d1 : Wq.cell? ⟨g, 1, none⟩ = some (.slice Xz M cz) := (blk_cell hB 1).trans rfl
      have HWQ := Lib.hid hWq
      clear c0 c1 hB hZ hO hK hWq hb1
      go_upto_region 6 with (at_builtin; refine wpList_append_own_at _ rfl _ _ 27 rfl 0 2 i0 _ 1 8 Try.underlying27 HI.out HZ0.out hz1 hz2 rfl (by decide) (.slice Xz M cz) M (i64V (sizes A)) rfl HZ1.out ⟨z, 0, none⟩ 1 1 [.int .i64 (k : Int)] rfl rfl ?_ (fun u hu => by rw [List.mem_singleton.1 hu]; rfl) (by unfold maxLen; omega) (by omega) (Nat.zero_le _) ?_)
      · intro j u hu
        rw [show (⟨z, 0, none⟩ : Addr).add j = ⟨z, j, none⟩ by unfold Addr.add; split <;> simp_all, blk_cell HX1.out j]
        simpa using hu
      · intro v2 w2 hown2 hg2 _ hat2
        obtain ⟨X2, p2, rfl⟩ := own_form hown2
        have hb2 : w2.heap[g]? = some (rfO x (.slice Xz M cz) vp) := blk_grown HB1.out hg2 (own_ne HZ1.out HB1.out (by decide))
        have y2 : w2.cell? ⟨g, 1, none⟩ = some (.slice Xz M cz) := (blk_cell hb2 1).trans rfl
        have f2 := blk_frozen hb2 1
        have HO2 := Lib.hid (HO1.out.kept hg2 (own_disj HO1.out HZ1.out (by decide)))
        have HOW := Lib.hid hown2
        have HGR := Lib.hid hg2
        have HB2 := Lib.hid hb2
        have HAT := Lib.hid hat2
        have e6 : IntKind.i64.wrap (((M + 1 : Nat) : Int) - 1) = (M : Int) := by rw [IntWalk.i64_in _ (by omega)]; omega
        obtain ⟨w3, hw3⟩ : ∃ w3, w2.setCell ⟨g, 1, none⟩ (.slice X2 (M + 1) p2) = w3 := ⟨_, rfl⟩
        have hb3 : w3.heap[g]? = some (rfO x (.slice X2 (M + 1) p2) vp) := by rw [← hw3]; exact (blk_set HB2.out 1 _).trans rfl
        have y3 : w3.cell? ⟨g, 1, none⟩ = some (.slice X2 (M + 1) p2) := (blk_cell hb3 1).trans rfl
        have HO3 : Hid (w3.ownsRow 0 57 3 vp P.length (ptV P)) := Lib.hid (by rw [← hw3]; exact own_set HO2.out (own_ne HO2.out HB2.out (by decide)) _)
        have HZ3 : Hid (w3.ownsRow 0 2 1 (.slice X2 (M + 1) p2) (M + 1) (i64V (sizes A ++ [(k : Int)]))) := Lib.hid (by rw [← hw3, i64V_app]; exact own_set HOW.out (own_ne HOW.out HB2.out (by decide)) _)
        have HK3 : Hid (Kf F W w3) := Lib.hid (by
          have hk2 : Kf F Wa w3 := by
            rw [← hw3]
            refine ⟨HGR.out.os, HGR.out.tape, HGR.out.output, by rw [World.size_setCell]; exact HGR.out.size, fun j hj hn => ?_⟩
            exact (Below.heap_setCell _ _ _ _ fun e => hn (by rw [e]; exact hgF)).trans (HGR.out.block j hj fun e => hn (HG.out j e.symm))
          exact HK1.out.trans hk2 fun k hk => .inl hk)
        have HB3 := Lib.hid hb3
        clear hown2 hg2 hb2 hat2 hb3
        go_wp2
        go_ret2
        have hmem : ∀ j, j ∈ g :: ((Value.slice X2 (M + 1) p2).ownBlock.toList ++ vp.ownBlock.toList) ↔ j = g ∨ (Value.slice X2 (M + 1) p2).ownBlock = some j ∨ vp.ownBlock = some j := fun j => by
          rw [List.mem_cons, List.mem_append, Option.mem_toList, Option.mem_toList]
        refine ⟨rfl, g :: ((Value.slice X2 (M + 1) p2).ownBlock.toList ++ vp.ownBlock.toList), ⟨HPOS.out, HTOT.out, List.mem_cons_self .., fun j hj => ?_, .slice X2 (M + 1) p2, vp, P, HB3.out, ?_, HO3.out, fun j hj => (hmem j).2 (.inr (.inl hj)), fun j hj => (hmem j).2 (.inr (.inr hj)), HNP.out, HNW.out, HFN.out⟩, HK3.out, fun j hj => ?_⟩
        · rcases (hmem j).1 hj with rfl | e | e
          · exact blk_lt HB3.out
          · exact (HZ3.out.lt j e).2
          · exact (HO3.out.lt j e).2
        · rw [HSZ.out, List.length_append, List.length_singleton, HM.out]; exact HZ3.out
        · rcases (hmem j).1 hj with rfl | e | e
          · exact .inl hgF
          · rcases HAT.out with e1 | e1
            · exact .inl (HG.out j (e1 ▸ e))
            · rw [e1] at e
              injection e with e
              have := HZS.out
              exact .inr (by omega)
          · exact .inl (HG2.out j e)
end Go.Proofs.Ytimpobfilihhmaa
