/-
  The document's own heap: Set, Make.
-/
import Derived.Test.YtimpobfilihhmaaHqV
namespace Go.Proofs.Ytimpobfilihhmaa
open Go Go.RowKit Go.Lib

theorem grown_none0 {W W' : World} (hb : Below W.heap.size W W') : W.grownBy W' none := ⟨hb.os, hb.tape, hb.output, hb.size, fun k hk _ => hb.block k hk⟩
theorem arr_put {A : List (List Int)} {d i v : Int} (h : inR A d i = true) (d' : Int) : (arr (stA A d i v) d').length = (arr A d').length ∧ ∀ i' : Int, 0 ≤ i' → i' < ((arr A d').length : Int) → (arr (stA A d i v) d').getD i'.toNat 0 = if d = d' ∧ i = i' then v else (arr A d').getD i'.toNat 0 := by
  have hst : stA A d i v = A.set d.toNat ((arr A d).set i.toNat v) := by unfold stA; rw [if_pos h]
  have h1 : 0 ≤ i ∧ i < ((arr A d).length : Int) := of_decide_eq_true h
  have hd : 0 ≤ d := by
    rcases Int.lt_or_le d 0 with h2 | h2
    · have : arr A d = [] := by unfold arr; rw [if_neg (by omega)]
      rw [this] at h1; simp at h1; omega
    · exact h2
  have hdl : d.toNat < A.length := by
    rcases Nat.lt_or_ge d.toNat A.length with h2 | h2
    · exact h2
    · have : arr A d = [] := arr_out (by omega)
      rw [this] at h1; simp at h1; omega
  rw [hst]
  by_cases hd' : 0 ≤ d'
  · by_cases e : d = d'
    · subst e
      have ha : arr (A.set d.toNat ((arr A d).set i.toNat v)) d = (arr A d).set i.toNat v := by
        conv => lhs; unfold arr
        rw [if_pos hd, List.getD_eq_getElem?_getD, List.getElem?_set, if_pos rfl, if_pos hdl]
        rfl
      rw [ha]
      refine ⟨by simp, fun i' h2 h3 => ?_⟩
      rw [List.getD_eq_getElem?_getD, List.getD_eq_getElem?_getD, List.getElem?_set]
      by_cases e : i = i'
      · subst e
        rw [if_pos rfl, if_pos (by omega), if_pos ⟨rfl, rfl⟩]
        rfl
      · rw [if_neg (by omega), if_neg fun h => e h.2]
    · have ha : arr (A.set d.toNat ((arr A d).set i.toNat v)) d' = arr A d' := by
        conv => lhs; unfold arr
        conv => rhs; unfold arr
        rw [if_pos hd', if_pos hd', List.getD_eq_getElem?_getD, List.getD_eq_getElem?_getD, List.getElem?_set, if_neg (by omega), ← List.getD_eq_getElem?_getD]
      rw [ha]
      exact ⟨rfl, fun i' _ _ => by rw [if_neg fun h => e h.1]⟩
  · have ha : ∀ B : List (List Int), arr B d' = [] := fun B => by unfold arr; rw [if_neg hd']
    rw [ha, ha]
    exact ⟨rfl, fun i' h2 h3 => by simp at h3; omega⟩
theorem sizes_put {A : List (List Int)} {d i v : Int} (h : inR A d i = true) : sizes (stA A d i v) = sizes A ∧ (stA A d i v).length = A.length ∧ (stA A d i v).flatten.length = A.flatten.length := by
  have h1 : 0 ≤ i ∧ i < ((arr A d).length : Int) := of_decide_eq_true h
  have hi : 0 ≤ d ∧ d < (A.length : Int) := by
    rcases Classical.em (0 ≤ d ∧ d < (A.length : Int)) with h2 | h2
    · exact h2
    · rw [arr_out h2] at h1; simp at h1; omega
  obtain ⟨k, a, rfl, ha⟩ := in_row hi
  rw [arr_nat ha] at h1
  have hst : stA A (k : Int) i v = A.set k (a.set i.toNat v) := by unfold stA; rw [if_pos h, arr_nat ha, Int.toNat_natCast]
  rw [hst]
  have hfl := cel_set A k i.toNat a v ha (by omega)
  refine ⟨?_, by simp, by rw [← hfl, List.length_set]⟩
  unfold sizes
  rw [List.map_set, List.length_set]
  apply List.ext_getElem?
  intro j
  rw [List.getElem?_set]
  by_cases e : k = j
  · subst e
    have hk : k < A.length := (List.getElem?_eq_some_iff.1 ha).1
    rw [if_pos rfl, if_pos (by simpa using hk), List.getElem?_map, ha]
    rfl
  · rw [if_neg e]
set_option maxRecDepth 100000 in
set_option maxHeartbeats 4000000 in
theorem rset_w {F : List Nat} {g N : Nat} {x : Int} {A : List (List Int)} {W : World} (h : RpI F g x N A W) (hN : N ≤ 1000) (d i v : Int) :
    Calls Try.prog 14 #[.pointer (some ⟨g, 0, none⟩), .int .i64 d, .int .i64 i, .int .i64 v] W fun e W' => e = .returned (.bool (inR A d i)) ∧ ∃ F', RpI F' g x (N + 1) (stA A d i v) W' ∧ Kf F W W' ∧ ∀ k ∈ F', k ∈ F ∨ W.heap.size ≤ k := by
  have HLN := Lib.hid (rlen_w h d)
  by_cases hin : inR A d i = true
  · obtain ⟨vz, vp, P, g1, g2, g3, g4, g5, hP, hnw, hf⟩ := h.row
    obtain ⟨Xp, cp, rfl⟩ := own_form g3
    obtain ⟨s1, s2, s3⟩ := sizes_put (v := v) hin
    have hcon := of_decide_eq_true hin
    have b0 : decide (i < 0) = false := decide_eq_false (by omega)
    have b1 : decide (((arr A d).length : Int) ≤ i) = false := decide_eq_false (by omega)
    have HPOS := Lib.hid (stA_pos (id := d) (i := i) (v := v) h.pos)
    have HTOT : Hid ((stA A d i v).flatten.length ≤ 1048576) := Lib.hid (by rw [s3]; exact h.tot)
    have hgF := h.gF
    have HF := Lib.hid h.lt
    have HFN : Hid (∀ d' i' : Int, 0 ≤ i' → i' < ((arr (stA A d i v) d').length : Int) → fnd (P ++ [(d, i, v)]) d' i' (P.length + 1) = (arr (stA A d i v) d').getD i'.toNat 0) := Lib.hid fun d' i' h1 h2 => by
      obtain ⟨k1, k2⟩ := arr_put (v := v) hin d'
      rw [k1] at h2
      rw [fnd_put, k2 i' h1 h2, hf d' i' h1 h2]
    have hdA : d < (A.length : Int) := by
      rcases Int.lt_or_le d (A.length : Int) with h2 | h2
      · exact h2
      · rw [arr_out (by omega)] at hcon; simp at hcon; omega
    have HNW : Hid (∀ d' i' : Int, ((stA A d i v).length : Int) ≤ d' → fnd (P ++ [(d, i, v)]) d' i' (P.length + 1) = 0) := Lib.hid fun d' i' h1 => by
      rw [s2] at h1
      rw [fnd_put, if_neg fun h => by omega]
      exact hnw d' i' h1
    have HS1 := Lib.hid s1
    have HS2 := Lib.hid s2
    have HB := Lib.hid g1
    have HZ := Lib.hid g2
    have HO := Lib.hid g3
    have HG := Lib.hid g4
    have HG2 := Lib.hid g5
    obtain ⟨i0, hi, hz0, hz1, hz2⟩ := info_parts ptInfo
    have HI := Lib.hid hi
    have HZ0 := Lib.hid hz0
    rw [hin]
    clear h s1 s2 s3 hcon hf hnw hdA g1 g2 g3 g4 g5 hi hz0 hin
    generalize hAD : stA A d i v = A2 at *
    clear hAD
    generalize (arr A d).length = n at *
    obtain ⟨m, hm⟩ : ∃ m, P.length = m := ⟨_, rfl⟩
    have HM := Lib.hid hm
    rw [hm] at HB HO HFN HNW hP HG2
    have c2 : W.cell? ⟨g, 2, none⟩ = some (.slice Xp m cp) := (blk_cell HB.out 2).trans rfl
    obtain ⟨Wa, hWa⟩ : ∃ Wa, W.alloc (.cells #[.int .i64 d, .int .i64 i, .int .i64 v] 57) = Wa := ⟨_, rfl⟩
    obtain ⟨z, hz⟩ : ∃ z, W.heap.size = z := ⟨_, rfl⟩
    have hb1 : Below W.heap.size W Wa := by rw [← hWa]; exact (Below.refl _ _).alloc (Nat.le_refl _) _
    have hx1 : Wa.heap[z]? = some (.cells #[.int .i64 d, .int .i64 i, .int .i64 v] 57) := by rw [← hWa, ← hz]; exact heap_alloc_new W _
    have ho1 : Wa.ownsRow 0 57 3 (.slice Xp m cp) m (ptV P) := by rw [← hWa]; exact HO.out.alloc _
    have hg1 : Wa.heap[g]? = some (rfO x vz (.slice Xp m cp)) := by rw [← hWa]; exact blk_alloc HB.out _
    have HB1 := Lib.hid hb1
    have HX1 := Lib.hid hx1
    have HO1 := Lib.hid ho1
    have HG1 := Lib.hid hg1
    have HZW := Lib.hid hz
    have hsz : Wa.heap.size = z + 1 := by rw [← hWa, World.size_alloc, hz]
    have HSZ := Lib.hid hsz
    clear hm hb1 hx1 ho1 hg1 hsz
    go_enter Try.func14, Try.ntmps14
    go_wp2_with (first
      | (go_at_call 20; ((with_reducible refine HLN.out.mono ?_); rintro e w1 ⟨rfl, hq⟩; rw [hq]; clear hq w1))
      | (at_builtin; refine wpList_append_own_at _ rfl _ _ 28 rfl 0 57 i0 _ 3 24 Try.underlying28 HI.out HZ0.out hz1 hz2 rfl (by decide) (.slice Xp m cp) m (ptV P) rfl HO1.out ⟨z, 0, none⟩ 1 1 (ptV [(d, i, v)]) rfl rfl ?_ (ptV_one _) (by unfold maxLen; omega) (by omega) (Nat.zero_le _) ?_))
    · intro j u hu
      rw [show (⟨z, 0, none⟩ : Addr).add j = ⟨z, j, none⟩ by unfold Addr.add; split <;> simp_all, blk_cell HX1.out j]
      simpa [ptV] using hu
    · intro v2 w2 hown2 hg2 _ hat2
      obtain ⟨X2, p2, rfl⟩ := own_form hown2
      have hb2 : w2.heap[g]? = some (rfO x vz (.slice Xp m cp)) := blk_grown HG1.out hg2 (own_ne HO1.out HG1.out (by decide))
      have y2 : w2.cell? ⟨g, 2, none⟩ = some (.slice Xp m cp) := (blk_cell hb2 2).trans rfl
      have f2 := blk_frozen hb2 2
      have hz2 : w2.ownsRow 0 2 1 vz A.length (i64V (sizes A)) := (HZ.out.kept (grown_none0 HB1.out) (Classical.em _)).kept hg2 (own_disj (HZ.out.kept (grown_none0 HB1.out) (Classical.em _)) HO1.out (by decide))
      have HOW := Lib.hid hown2
      have HZ2 := Lib.hid hz2
      have HGR := Lib.hid hg2
      have HB2 := Lib.hid hb2
      have HAT := Lib.hid hat2
      clear hown2 hz2 hg2 hb2 hat2
      go_wp2
      obtain ⟨w3, hw3⟩ : ∃ w3, w2.setCell ⟨g, 2, none⟩ (.slice X2 (m + 1) p2) = w3 := ⟨_, rfl⟩
      rw [hw3]
      have hb3 : w3.heap[g]? = some (rfO x vz (.slice X2 (m + 1) p2)) := by rw [← hw3]; exact (blk_set HB2.out 2 _).trans rfl
      have ho3 : w3.ownsRow 0 57 3 (.slice X2 (m + 1) p2) (m + 1) (ptV (P ++ [(d, i, v)])) := by rw [← hw3, ptV_app]; exact own_set HOW.out (own_ne HOW.out HB2.out (by decide)) _
      have hz3 : w3.ownsRow 0 2 1 vz A.length (i64V (sizes A)) := by rw [← hw3]; exact own_set HZ2.out (own_ne HZ2.out HB2.out (by decide)) _
      have hk3 : Kf F W w3 := by
        have hk2 : Kf F Wa w3 := by
          rw [← hw3]
          refine ⟨HGR.out.os, HGR.out.tape, HGR.out.output, by rw [World.size_setCell]; exact HGR.out.size, fun j hj hn => ?_⟩
          exact (Below.heap_setCell _ _ _ _ fun e => hn (by rw [e]; exact hgF)).trans (HGR.out.block j hj fun e => hn (HG2.out j e.symm))
        exact (Kf.of_below HB1.out F).trans hk2 fun k hk => .inl hk
      clear hw3
      go_ret
      have hmem : ∀ j, j ∈ g :: (vz.ownBlock.toList ++ (Value.slice X2 (m + 1) p2).ownBlock.toList) ↔ j = g ∨ vz.ownBlock = some j ∨ (Value.slice X2 (m + 1) p2).ownBlock = some j := fun j => by
        rw [List.mem_cons, List.mem_append, Option.mem_toList, Option.mem_toList]
      refine ⟨rfl, g :: (vz.ownBlock.toList ++ (Value.slice X2 (m + 1) p2).ownBlock.toList), ⟨HPOS.out, HTOT.out, List.mem_cons_self .., fun j hj => ?_, vz, .slice X2 (m + 1) p2, P ++ [(d, i, v)], hb3, ?_, ?_, fun j hj => (hmem j).2 (.inr (.inl hj)), fun j hj => (hmem j).2 (.inr (.inr hj)), ?_, ?_, ?_⟩, hk3, fun j hj => ?_⟩
      · rcases (hmem j).1 hj with rfl | e | e
        · exact blk_lt hb3
        · exact (hz3.lt j e).2
        · exact (ho3.lt j e).2
      · rw [HS1.out, HS2.out]; exact hz3
      · rw [List.length_append, HM.out]; exact ho3
      · rw [List.length_append, HM.out]; simp; omega
      · rw [List.length_append, HM.out]; exact HNW.out
      · rw [List.length_append, HM.out]; exact HFN.out
      · rcases (hmem j).1 hj with rfl | e | e
        · exact .inl hgF
        · exact .inl (HG.out j e)
        · rcases HAT.out with e1 | e1
          · exact .inl (HG2.out j (e1 ▸ e))
          · rw [e1] at e
            injection e with e
            have := HSZ.out
            have := HZW.out
            exact .inr (by omega)
  · have hin' : inR A d i = false := by simpa using hin
    have hst : stA A d i v = A := by unfold stA; rw [if_neg hin]
    have HE : Hid (∃ F', RpI F' g x (N + 1) (stA A d i v) W ∧ Kf F W W ∧ ∀ k ∈ F', k ∈ F ∨ W.heap.size ≤ k) := Lib.hid (by
      rw [hst]
      obtain ⟨vz, vp, P, g1, g2, g3, g4, g5, hP, hnw, hf⟩ := h.row
      exact ⟨F, ⟨h.pos, h.tot, h.gF, h.lt, vz, vp, P, g1, g2, g3, g4, g5, by omega, hnw, hf⟩, Kf.refl _ _, fun k hk => .inl hk⟩)
    rw [hin']
    have hno : ¬ (0 ≤ i ∧ i < ((arr A d).length : Int)) := of_decide_eq_false hin'
    clear h hin hst hin'
    by_cases h0 : i < 0
    · have b0 : decide (i < 0) = true := decide_eq_true h0
      go_enter Try.func14, Try.ntmps14
      go_wp2
      go_ret
      exact ⟨rfl, HE.out⟩
    · have b0 : decide (i < 0) = false := decide_eq_false h0
      have b1 : decide (((arr A d).length : Int) ≤ i) = true := decide_eq_true (by omega)
      clear hno
      generalize hAD : stA A d i v = A2 at *
      clear hAD
      generalize (arr A d).length = n at *
      go_enter Try.func14, Try.ntmps14
      go_wp2_with (go_at_call 20; ((with_reducible refine HLN.out.mono ?_); rintro e w1 ⟨rfl, hq⟩; rw [hq]; clear hq w1))
      go_ret
      exact ⟨rfl, HE.out⟩
end Go.Proofs.Ytimpobfilihhmaa
