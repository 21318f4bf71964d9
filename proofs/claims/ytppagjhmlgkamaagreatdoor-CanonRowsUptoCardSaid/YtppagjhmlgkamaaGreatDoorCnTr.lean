/-
  canon.Text, at every program that is not too great.
-/
import Derived.Test.YtppagjhmlgkamaaGreatDoorCz5
import Derived.Test.YtppagjhmlgkamaaGreatDoorCnFr
import Derived.Test.YtppagjhmlgkamaaGreatDoorCnRr
namespace Go.Proofs.YtppagjhmlgkamaaGreatDoor
open Go Go.RowKit Go.Lib

/-- What Text tells. -/
def textP (p : Pg) : List UInt8 := if rightN p = 0 then p.txt else []

theorem kept2 {w w' : World} {e T : TypeId} {b g : Nat} {x0 x1 : Value} {fr : Nat × Nat} (h : OthersKept e (some b) w w') (hg : w.heap[g]? = some (.cells #[x0, x1] T fr)) (hb : g ≠ b) (hT : T ≠ e := by decide) :
    w'.cell? ⟨g, 0, none⟩ = some x0 ∧ w'.cell? ⟨g, 1, none⟩ = some x1 :=
  have hb' : some g ≠ some b := fun e => hb (by injection e)
  ⟨kept_cell (o := 0) h hg hb' hT, kept_cell (o := 1) h hg hb' hT⟩
theorem WS.new (lo : Nat) (w : World) (hlo : lo ≤ w.heap.size) : WS lo (w.alloc (.cells #[.pointer none, .slice none 0 0, .int .i64 0] 55)) w.heap.size [] 0 :=
  .inl ⟨hlo, .slice none 0 0, heap_alloc_new w _, World.ownsRow_nil _ _ _ _, fun _ => rfl⟩
theorem rightN_cases (p : Pg) : rightN p = 0 ∨ rightN p = 1 ∨ rightN p = 3 := by
  unfold rightN
  split
  · split
    · exact .inr (.inr rfl)
    · exact .inl rfl
  · exact .inr (.inl rfl)

set_option maxHeartbeats 4000000 in
set_option maxRecDepth 100000 in
theorem text_no (p : Pg) (v : Value) (W : World) (B : Nat) (hB : B ≤ W.heap.size) (hv : PgV B W v p) (ht : Tab W) (hr : rightN p ≠ 0) :
    Calls Tryz.prog 11 #[v] W fun e w' => e = .returned (.string ⟨#[]⟩) ∧ Below W.heap.size W w' := by
  obtain ⟨A, cap, A', cap', rfl, hF, hM⟩ := id hv
  obtain ⟨w2, hw2e⟩ : ∃ w2, W.alloc (.cells #[.slice A p.fs.length cap, .slice A' p.m.len cap'] 25) = w2 := ⟨_, rfl⟩
  have hb2 : Below W.heap.size W w2 := by rw [← hw2e]; exact (Below.refl _ _).alloc (Nat.le_refl _) _
  have hR := right_any _ p w2 B (Nat.le_trans hB hb2.size) (hv.below (hb2.mono hB) (Nat.le_refl _)) (ht.below hb2 ht.1)
  have hg2 : w2.heap[W.heap.size]? = some (.cells #[.slice A p.fs.length cap, .slice A' p.m.len cap'] 25 (0, 0)) := by rw [← hw2e]; exact heap_alloc_new W _
  have d0 : w2.cell? ⟨W.heap.size, 0, none⟩ = some (.slice A p.fs.length cap) := by rw [cell_of_heap hg2]; rfl
  have d1 : w2.cell? ⟨W.heap.size, 1, none⟩ = some (.slice A' p.m.len cap') := by rw [cell_of_heap hg2]; rfl
  rcases rightN_cases p with h | h | h
  · exact absurd h hr
  · rw [h] at hR
    go_enter Tryz.func11, Tryz.ntmps11
    go_wp2_with (go_at_call 13; ((with_reducible refine hR.mono ?_); rintro e w3 ⟨rfl, h3⟩))
    go_ret
    exact ⟨rfl, hb2.trans (h3.mono hb2.size)⟩
  · rw [h] at hR
    go_enter Tryz.func11, Tryz.ntmps11
    go_wp2_with (go_at_call 13; ((with_reducible refine hR.mono ?_); rintro e w3 ⟨rfl, h3⟩))
    go_ret
    exact ⟨rfl, hb2.trans (h3.mono hb2.size)⟩

set_option maxHeartbeats 4000000 in
set_option maxRecDepth 100000 in
theorem text_yes (p : Pg) (v : Value) (W : World) (B : Nat) (hB : B ≤ W.heap.size) (hv : PgV B W v p) (ht : Tab W) (hct : CT W.heap.size W) (hr : rightN p = 0) (hcnt : cntL p.pts ≤ 3200000) :
    Calls Tryz.prog 11 #[v] W fun e w' => e = .returned (.string ⟨p.txt.toArray⟩) ∧ Below W.heap.size W w' := by
  have hlen := txt_le hr hv hcnt
  obtain ⟨q1, q2, _⟩ := rightN_ok' hr
  simp only [Pg.pts, okL_append, Bool.and_eq_true, SS.okL] at q2
  unfold funcsB at q1
  simp only [Bool.and_eq_true, decide_eq_true_eq] at q1
  have hmok := SS.stok_of _ (SS.ok_wr q2.2)
  have htx : p.txt = fsX p.fs ++ p.m.txt 0 := rfl
  rw [htx] at hlen ⊢
  rw [List.length_append] at hlen
  obtain ⟨A, cap, A', cap', rfl, hF, hM⟩ := id hv
  obtain ⟨w2, hw2e⟩ : ∃ w2, W.alloc (.cells #[.slice A p.fs.length cap, .slice A' p.m.len cap'] 25) = w2 := ⟨_, rfl⟩
  have hb2 : Below W.heap.size W w2 := by rw [← hw2e]; exact (Below.refl _ _).alloc (Nat.le_refl _) _
  have hz2 : w2.heap.size = W.heap.size + 1 := by rw [← hw2e]; simp
  have hR := right_any _ p w2 B (Nat.le_trans hB hb2.size) (hv.below (hb2.mono hB) (Nat.le_refl _)) (ht.below hb2 ht.1)
  rw [hr] at hR
  have hg2 : w2.heap[W.heap.size]? = some (.cells #[.slice A p.fs.length cap, .slice A' p.m.len cap'] 25 (0, 0)) := by rw [← hw2e]; exact heap_alloc_new W _
  have d0 : w2.cell? ⟨W.heap.size, 0, none⟩ = some (.slice A p.fs.length cap) := by rw [cell_of_heap hg2]; rfl
  have d1 : w2.cell? ⟨W.heap.size, 1, none⟩ = some (.slice A' p.m.len cap') := by rw [cell_of_heap hg2]; rfl
  obtain ⟨lo, hlo⟩ : ∃ lo, W.heap.size = lo := ⟨_, rfl⟩
  have hF' : FV lo W (.slice A p.fs.length cap) p.fs := by rw [← hlo]; exact FV.below hF (Below.refl _ _) hB
  have hM' : SV lo W (.slice A' p.m.len cap') p.m := by rw [← hlo]; exact SV.below hM (Below.refl _ _) hB
  rw [hlo] at hct hb2 hz2 hg2 d0 d1 ⊢
  obtain ⟨A1, cap1, e1, hc1, hc2, hrow⟩ := id hF'
  injection e1 with e2 e3 e4
  subst e2 e4
  clear e3
  obtain ⟨nf, hnf⟩ : ∃ nf, p.fs.length = nf := ⟨_, rfl⟩
  rw [hnf] at d0 hg2 hw2e hR hc1 hrow ⊢
  have hmst := fun w3 (hb : Below lo W w3) (b : Nat) (h : WS lo w3 b (fsX p.fs) (0 : Nat)) (hl : lo ≤ w3.heap.size) => statements_any p.m hmok lo b (fsX p.fs) 0 w3 A' cap' (hct.on hb) h hl (SV.below hM' hb (Nat.le_refl _)) (by decide) (by omega)
  have HM := hid hmst
  clear hmst hM hM' hF' hv htx
  go_enter Tryz.func11, Tryz.ntmps11
  go_upto_region 3 with (go_at_call 13; ((with_reducible refine hR.mono ?_); rintro e w3 ⟨rfl, h3⟩))
  have hlo3 : lo ≤ w3.heap.size := by have := h3.size; omega
  have hws := WS.new lo w3 hlo3
  have hb3 : Below lo W w3 := hb2.trans (h3.mono (by omega))
  have hg3 : w3.heap[lo]? = some (.cells #[.slice A nf cap, .slice A' p.m.len cap'] 25 (0, 0)) := (h3.block lo (by omega)).trans hg2
  have hg4 := (alloc_old w3 (.cells #[.pointer none, .slice none 0 0, .int .i64 0] 55) lo (Array.getElem?_eq_some_iff.1 hg3).1).trans hg3
  have hb4 : Below lo W (w3.alloc (.cells #[.pointer none, .slice none 0 0, .int .i64 0] 55)) := hb3.alloc hlo3 _
  have hbg : lo ≠ w3.heap.size := by have := h3.size; omega
  obtain ⟨w4, hw4e⟩ : ∃ w4, w3.alloc (.cells #[.pointer none, .slice none 0 0, .int .i64 0] 55) = w4 := ⟨_, rfl⟩
  rw [hw4e] at hws hg4 hb4
  obtain ⟨b, hb⟩ : ∃ b, w3.heap.size = b := ⟨_, rfl⟩
  rw [hb] at hws hbg
  have hR4 := Wrote.refl hws
  have hlo4 : lo ≤ w4.heap.size := Nat.le_trans hlo3 (by rw [← hw4e]; simp)
  obtain ⟨d0', d1'⟩ := kept2 hR4.ok hg4 hbg
  clear d0 d1 hR h3 hw2e
  go_upto_region 4 with fail
  go_wp2_with fail
  go_loopw [12] (fun i wr => ∃ (j : Nat) (r : List Fn) (x : List UInt8), i = .int .i64 j ∧ j + r.length = nf ∧ fsOk r = true ∧ okL (fsPts r) = true ∧ x ++ fsX r = fsX p.fs ∧
      (0 < r.length → ∃ bo o, A = some ⟨bo, o, none⟩ ∧ bo < lo ∧ FsIn lo W r bo (o + j * 3)) ∧ Wrote lo b w4 x (0 : Nat) wr) (fun i _ => nf - (RowKit.intOf i).toNat)
  case atStart => exact ⟨0, p.fs, [], rfl, by omega, q1.2, q2.1, rfl, by simpa [hnf] using hrow, hR4⟩
  case round =>
    obtain ⟨j, r, x, rfl, hj, hr1, hr2, hx, hrow', hw⟩ := hrel
    have hlow := hw.lo hlo4
    have hbW : Below lo W wr := hb4.trans hw.bl
    have hxl := congrArg List.length hx
    rw [List.length_append] at hxl
    cases r with
    | nil =>
      have hj0 : j = nf := by simpa using hj
      subst hj0
      have hx0 : x = fsX p.fs := by rw [← hx]; simp only [fsX, List.append_nil]
      subst hx0
      obtain ⟨e0, e1⟩ := kept2 hw.ok hg4 hbg
      have hq := HM.out wr hbW b hw.ws hlow
      clear d0' d1' hrow hrow' hx hxl
      go_upto_region 10 with (go_at_call 21; ((with_reducible refine hq.mono ?_); clear hq; rintro e w5 ⟨rfl, h5⟩))
      have hs := string_any lo b _ _ w5 h5.ws
      go_wp2_with (go_at_call 22; ((with_reducible refine hs.mono ?_); rintro e w6 ⟨rfl, h6⟩))
      go_ret
      exact ⟨rfl, (hbW.trans h5.bl).trans h6⟩
    | cons f r =>
      obtain ⟨bo, o, rfl, hbo, c0, ⟨v1, c1, h1⟩, ⟨v2, c2, h2⟩, hs, hrr⟩ := hrow' (by simp)
      clear hrow hrow'
      have hlt : j < nf := by simp at hj; omega
      have e0 := (hbW.cell (p := ⟨bo, o + j * 3, none⟩) hbo).trans c0
      have e1 := (hbW.cell (p := ⟨bo, o + j * 3 + 1, none⟩) hbo).trans c1
      have e2 := (hbW.cell (p := ⟨bo, o + j * 3 + 2, none⟩) hbo).trans c2
      obtain ⟨A6, cap6, rfl, _⟩ := id h1
      obtain ⟨A7, cap7, rfl, _⟩ := id h2
      have hboz : bo < wr.heap.size := Nat.lt_of_lt_of_le hbo hlow
      clear c0 c1 c2
      have HJ := hid hj; clear hj
      have hsz : o + (j + 1) * 3 = o + j * 3 + 3 := by omega
      simp only [fsOk, Bool.and_eq_true] at hr1
      simp only [fsPts, okL_append, Bool.and_eq_true, SS.okL] at hr2
      have hps : f.ps.length ≤ 140737488355328 := by
        have := hr1.1.2
        unfold paramsB at this
        simp only [Bool.and_eq_true, decide_eq_true_eq] at this
        omega
      obtain ⟨C, hC⟩ : ∃ C : Obj, Obj.cells #[.string f.s, .slice A6 f.ps.length cap6, .slice A7 f.b.len cap7] 47 = C := ⟨_, rfl⟩
      have hw2 := hw.below ((Below.refl _ _).alloc (Nat.le_refl _) C) hlow
      have hbW2 := hb4.trans hw2.bl
      simp only [fsX, List.length_append] at hx hxl
      have hq := function_any f (SS.stok_of _ (SS.ok_wr hr2.1)) lo b x (wr.alloc C) _ _ (hct.on hbW2) hw2.ws (hw2.lo hlo4) (h1.imp (Nat.le_refl _) fun _ _ hb' hq => PsIn.below hbW2 hb' hq) (SV.below h2 hbW2 (Nat.le_refl _)) hps (by omega)
      clear h1 h2
      subst hC
      obtain ⟨np, hnp⟩ : ∃ np, f.ps.length = np := ⟨_, rfl⟩
      rw [hnp] at e1 hq
      go_wp2_with (go_at_call 20; ((with_reducible refine hq.mono ?_); rintro e w5 ⟨rfl, h5⟩))
      go_roundw
      case rel =>
        rw [hnp] at hw2
        exact ⟨j + 1, r, x ++ fnX f, by go_num, by have := HJ.out; simp at this; omega, hr1.2, hr2.2, by rw [List.append_assoc]; exact hx, fun _ => ⟨bo, o, rfl, hbo, by rw [hsz]; exact hrr⟩, hw2.trans h5⟩
      case measure => simp [RowKit.intOf]; omega

theorem text_any_p (p : Pg) (v : Value) (W : World) (B : Nat) (hB : B ≤ W.heap.size) (hv : PgV B W v p) (ht : Tab W) (hct : CT W.heap.size W) (hcnt : cntL p.pts ≤ 3200000) :
    Calls Tryz.prog 11 #[v] W fun e w' => e = .returned (.string ⟨(textP p).toArray⟩) ∧ Below W.heap.size W w' := by
  unfold textP
  by_cases hr : rightN p = 0
  · rw [if_pos hr]
    exact text_yes p v W B hB hv ht hct hr hcnt
  · rw [if_neg hr]
    exact text_no p v W B hB hv ht hr

end Go.Proofs.YtppagjhmlgkamaaGreatDoor
