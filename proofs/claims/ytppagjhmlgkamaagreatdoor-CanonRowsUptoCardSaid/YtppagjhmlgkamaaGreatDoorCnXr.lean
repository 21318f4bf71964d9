/-
  canon.Expr, at every expression that is not too great.
-/
import Derived.Test.YtppagjhmlgkamaaGreatDoorCz5
import Derived.Test.YtppagjhmlgkamaaGreatDoorCnTr
namespace Go.Proofs.YtppagjhmlgkamaaGreatDoor
open Go Go.RowKit Go.Lib

/-- A Print of one expression, alone. -/
def prE (op n : Int) (s : ByteArray) (l : ES) : Pg := ⟨[], .cons 5 ⟨#[]⟩ 0 (.cons op n s l .nil) .nil .nil .nil⟩
/-- What Expr tells. -/
def exprP (op n : Int) (s : ByteArray) (l : ES) : List UInt8 := if rightN (prE op n s l) = 0 then exX op n s.data.toList l.txs else []

theorem sv_nil' (B : Nat) (w : World) : SV B w (.slice none 0 0) .nil := ⟨none, 0, rfl, Nat.le_refl _, by decide, fun h => by simp [SS.len] at h⟩
theorem ev_nil' (B : Nat) (w : World) : EV B w (.slice none 0 0) .nil := ⟨none, 0, rfl, Nat.le_refl _, by decide, fun h => by simp [ES.len] at h⟩
theorem fv_nil' (B : Nat) (w : World) : FV B w (.slice none 0 0) [] := ⟨none, 0, rfl, Nat.le_refl _, by decide, fun h => by simp at h⟩
theorem cells_at {w : World} {g : Nat} {cs : Array Value} {T : TypeId} {fr : Nat × Nat} (h : w.heap[g]? = some (.cells cs T fr)) (i : Nat) {v : Value} (hi : cs[i]? = some v) : w.cell? ⟨g, i, none⟩ = some v := by
  rw [cell_of_heap h]; exact hi
theorem ev_one' {w : World} {g cap : Nat} {op n : Int} {s : ByteArray} {v : Value} {l : ES} {T : TypeId} {fr : Nat × Nat} (hg : w.heap[g]? = some (.cells #[.int .i64 op, .int .i64 n, .string s, v] T fr)) (B : Nat) (hB : g < B) (hv : EV B w v l) (h4 : I64 op ∧ I64 n ∧ s.size ≤ 9223372036854775807) (h1 : 1 ≤ cap) (h2 : cap ≤ 9223372036854775807) :
    EV B w (.slice (some ⟨g, 0, none⟩) 1 cap) (.cons op n s l .nil) :=
  ⟨some ⟨g, 0, none⟩, cap, rfl, h1, h2, fun _ => ⟨g, 0, rfl, hB, cells_at hg 0 rfl, cells_at hg 1 rfl, cells_at hg 2 rfl, ⟨v, cells_at hg 3 rfl, hv⟩, h4, trivial⟩⟩
theorem sv_one' {w : World} {g cap : Nat} {op n : Int} {s : ByteArray} {vl vx vy : Value} {l : ES} {x y : SS} {T : TypeId} {fr : Nat × Nat} (hg : w.heap[g]? = some (.cells #[.int .i64 op, .string s, .int .i64 n, vl, vx, vy] T fr)) (B : Nat) (hB : g < B) (hl : EV B w vl l) (hx : SV B w vx x) (hy : SV B w vy y) (h4 : I64 op ∧ I64 n ∧ s.size ≤ 9223372036854775807) (h1 : 1 ≤ cap) (h2 : cap ≤ 9223372036854775807) :
    SV B w (.slice (some ⟨g, 0, none⟩) 1 cap) (.cons op s n l x y .nil) :=
  ⟨some ⟨g, 0, none⟩, cap, rfl, h1, h2, fun _ => ⟨g, 0, rfl, hB, cells_at hg 0 rfl, cells_at hg 1 rfl, cells_at hg 2 rfl, ⟨vl, cells_at hg 3 rfl, hl⟩, ⟨vx, cells_at hg 4 rfl, hx⟩, ⟨vy, cells_at hg 5 rfl, hy⟩, h4, trivial⟩⟩

/-- Tree's Right at a Print of one expression, the last but one block that of the expression, the last that of the statement. -/
theorem could_right {op n : Int} {s : ByteArray} {l : ES} {v : Value} (w : World) (B : Nat) (hB : B ≤ w.heap.size) (hv : EV B w v l) (h4 : I64 op ∧ I64 n ∧ s.size ≤ 9223372036854775807) (ht : Tab w) (C : Obj) :
    Calls Tryz.prog 13 #[.agg #[.slice none 0 0, .slice (some ⟨w.heap.size + 1 + 1, 0, none⟩) 1 1]] (((w.alloc (.cells #[.int .i64 op, .int .i64 n, .string s, v] 38)).alloc C).alloc (.cells #[.int .i64 5, .string ⟨#[]⟩, .int .i64 0, .slice (some ⟨w.heap.size, 0, none⟩) 1 1, .slice none 0 0, .slice none 0 0] 41))
      fun e w' => e = .returned (.int .i64 (rightN (prE op n s l))) ∧ Below w.heap.size w w' := by
  have hb1 : Below w.heap.size w (w.alloc (.cells #[.int .i64 op, .int .i64 n, .string s, v] 38)) := (Below.refl _ _).alloc (Nat.le_refl _) _
  have hg1 := heap_alloc_new w (.cells #[.int .i64 op, .int .i64 n, .string s, v] 38)
  obtain ⟨w1, hw1⟩ : ∃ w1, w.alloc (.cells #[.int .i64 op, .int .i64 n, .string s, v] 38) = w1 := ⟨_, rfl⟩
  have hz1 : w1.heap.size = w.heap.size + 1 := by rw [← hw1]; simp
  rw [hw1] at hb1 hg1 ⊢
  have hb2 : Below w1.heap.size w1 (w1.alloc C) := (Below.refl _ _).alloc (Nat.le_refl _) _
  obtain ⟨w2, hw2⟩ : ∃ w2, w1.alloc C = w2 := ⟨_, rfl⟩
  have hz2 : w2.heap.size = w.heap.size + 1 + 1 := by rw [← hw2]; simp [hz1]
  rw [hw2] at hb2 ⊢
  obtain ⟨D, hD⟩ : ∃ D : Obj, Obj.cells #[.int .i64 5, .string ⟨#[]⟩, .int .i64 0, .slice (some ⟨w.heap.size, 0, none⟩) 1 1, .slice none 0 0, .slice none 0 0] 41 = D := ⟨_, rfl⟩
  have hb3 : Below w2.heap.size w2 (w2.alloc D) := (Below.refl _ _).alloc (Nat.le_refl _) _
  have hg3 := heap_alloc_new w2 (.cells #[.int .i64 5, .string ⟨#[]⟩, .int .i64 0, .slice (some ⟨w.heap.size, 0, none⟩) 1 1, .slice none 0 0, .slice none 0 0] 41)
  rw [hD] at hg3 ⊢
  obtain ⟨w3, hw3⟩ : ∃ w3, w2.alloc D = w3 := ⟨_, rfl⟩
  have hz3 : w3.heap.size = w.heap.size + 1 + 1 + 1 := by rw [← hw3]; simp [hz2]
  rw [hw3] at hb3 hg3 ⊢
  rw [hz2, ← hD] at hg3
  have hg1' : w3.heap[w.heap.size]? = some (.cells #[.int .i64 op, .int .i64 n, .string s, v] 38 (0, 0)) := (hb3.block _ (by omega)).trans ((hb2.block _ (by omega)).trans hg1)
  have hbw : Below w.heap.size w w3 := hb1.trans ((hb2.mono (by omega)).trans (hb3.mono (by omega)))
  have hE := ev_one' hg1' w3.heap.size (by omega) (EV.below hv (hbw.mono hB) (by omega)) h4 (Nat.le_refl 1) (by decide)
  have hS := sv_one' hg3 w3.heap.size (by omega) hE (sv_nil' _ _) (sv_nil' _ _) ⟨⟨by decide, by decide⟩, ⟨by decide, by decide⟩, by decide⟩ (Nat.le_refl 1) (by decide)
  have hP : PgV w3.heap.size w3 (.agg #[.slice none 0 0, .slice (some ⟨w.heap.size + 1 + 1, 0, none⟩) 1 1]) (prE op n s l) := ⟨none, 0, _, _, rfl, fv_nil' _ _, hS⟩
  refine (right_any _ _ w3 _ (Nat.le_refl _) hP (ht.below hbw ht.1)).mono ?_
  rintro e w' ⟨rfl, hb⟩
  exact ⟨rfl, hbw.trans (hb.mono (by omega))⟩

set_option maxHeartbeats 2000000 in
set_option maxRecDepth 100000 in
theorem could_any (op n : Int) (s : ByteArray) (l : ES) (v : Value) (W : World) (B : Nat) (hB : B ≤ W.heap.size) (hv : EV B W v l) (h4 : I64 op ∧ I64 n ∧ s.size ≤ 9223372036854775807) (ht : Tab W) :
    Calls Tryz.prog 35 #[exV op n s v] W fun e w' => e = .returned (.bool (decide (rightN (prE op n s l) = 0))) ∧ Below W.heap.size W w' := by
  obtain ⟨A, cap, rfl, _⟩ := id hv
  obtain ⟨len, hln⟩ : ∃ len, l.len = len := ⟨_, rfl⟩
  rw [hln] at hv ⊢
  obtain ⟨w2, hw2e⟩ : ∃ w2, W.alloc (.cells #[.int .i64 op, .int .i64 n, .string s, .slice A len cap] 38) = w2 := ⟨_, rfl⟩
  have hb2 : Below W.heap.size W w2 := by rw [← hw2e]; exact (Below.refl _ _).alloc (Nat.le_refl _) _
  have hg2 : w2.heap[W.heap.size]? = some (.cells #[.int .i64 op, .int .i64 n, .string s, .slice A len cap] 38 (0, 0)) := by rw [← hw2e]; exact heap_alloc_new W _
  have d0 := cells_at hg2 0 rfl
  have d1 := cells_at hg2 1 rfl
  have d2 := cells_at hg2 2 rfl
  have d3 := cells_at hg2 3 rfl
  have hR := fun C => could_right w2 B (Nat.le_trans hB hb2.size) (EV.below hv (hb2.mono hB) (Nat.le_refl _)) h4 (ht.below hb2 ht.1) C
  clear hv
  rcases rightN_cases (prE op n s l) with h | h | h
  all_goals
    rw [h] at hR ⊢
    go_enter Tryz.func35, Tryz.ntmps35
    go_wp2_with (go_at_call 13; ((with_reducible refine (hR _).mono ?_); rintro e w3 ⟨rfl, h3⟩))
    go_ret
    exact ⟨rfl, hb2.trans (h3.mono hb2.size)⟩

set_option maxHeartbeats 2000000 in
set_option maxRecDepth 100000 in
theorem expr_any_p (op n : Int) (s : ByteArray) (l : ES) (v : Value) (W : World) (B : Nat) (hB : B ≤ W.heap.size) (hv : EV B W v l) (h4 : I64 op ∧ I64 n ∧ s.size ≤ 9223372036854775807) (ht : Tab W) (hct : CT W.heap.size W) (hcnt : l.cnt ≤ 4000000) :
    Calls Tryz.prog 16 #[exV op n s v] W fun e w' => e = .returned (.string ⟨(exprP op n s l).toArray⟩) ∧ Below W.heap.size W w' := by
  unfold exprP
  obtain ⟨A, cap, rfl, _⟩ := id hv
  have hv' : EV W.heap.size W (.slice A l.len cap) l := EV.below hv (Below.refl _ _) hB
  have hE : rightN (prE op n s l) = 0 → EXok op n s l ∧ (exX op n s.data.toList l.txs).length ≤ 200000000 := by
    intro h
    obtain ⟨_, q2, _⟩ := rightN_ok' h
    have q3 : (SS.cons 5 ⟨#[]⟩ 0 (.cons op n s l .nil) .nil .nil .nil).ok = true := by rw [← SS.okL]; exact q2
    simp only [SS.ok, Bool.and_eq_true] at q3
    have q4 := q3.1.2.1
    refine ⟨(ES.exok_of _ (ES.ok_wr q4)).1, ?_⟩
    simp only [ES.ok, Bool.and_eq_true] at q4
    have i1 := ES.txs_leV q4.1.2 hv
    have i2 := exX_le op n s.data.toList l.txs h4.2.1 (by have := (fit_e q4.1.1).2; rw [Array.length_toList]; exact this)
    omega
  obtain ⟨lo, hlo⟩ : ∃ lo, W.heap.size = lo := ⟨_, rfl⟩
  obtain ⟨len, hln⟩ : ∃ len, l.len = len := ⟨_, rfl⟩
  have hvl : EV lo W (.slice A len cap) l := by rw [← hlo, ← hln]; exact hv'
  rw [hln] at hv ⊢
  obtain ⟨w2, hw2e⟩ : ∃ w2, W.alloc (.cells #[.int .i64 op, .int .i64 n, .string s, .slice A len cap] 38) = w2 := ⟨_, rfl⟩
  have hb2 : Below W.heap.size W w2 := by rw [← hw2e]; exact (Below.refl _ _).alloc (Nat.le_refl _) _
  have hz2 : w2.heap.size = W.heap.size + 1 := by rw [← hw2e]; simp
  have hg2 : w2.heap[W.heap.size]? = some (.cells #[.int .i64 op, .int .i64 n, .string s, .slice A len cap] 38 (0, 0)) := by rw [← hw2e]; exact heap_alloc_new W _
  have hR := could_any op n s l _ w2 B (Nat.le_trans hB hb2.size) (EV.below hv (hb2.mono hB) (Nat.le_refl _)) h4 (ht.below hb2 ht.1)
  rw [hlo] at hct hb2 hz2 hg2 ⊢
  have d0 := cells_at hg2 0 rfl
  have d1 := cells_at hg2 1 rfl
  have d2 := cells_at hg2 2 rfl
  have d3 := cells_at hg2 3 rfl
  clear hv hv'
  by_cases hr : rightN (prE op n s l) = 0
  · obtain ⟨hE1, hE2⟩ := hE hr
    rw [if_pos hr]
    rw [decide_eq_true hr] at hR
    obtain ⟨X, hX⟩ : ∃ X, exX op n s.data.toList l.txs = X := ⟨_, rfl⟩
    unfold EXok at hE1
    rw [hX] at hE1 hE2 ⊢
    have HE := hid (fun w3 (hb : Below lo W w3) (b : Nat) (h : WS lo w3 b [] 0) (hl : lo ≤ w3.heap.size) => hE1 lo b [] 0 w3 _ (hct.on hb) h hl (EV.below hvl hb (Nat.le_refl _)) h4 (by simp only [List.length_nil]; omega))
    clear hE hE1 hr hvl hX
    go_enter Tryz.func16, Tryz.ntmps16
    go_upto_region 3 with (go_at_call 35; ((with_reducible refine hR.mono ?_); rintro e w3 ⟨rfl, h3⟩))
    have hlo3 : lo ≤ w3.heap.size := by have := h3.size; omega
    have hws := WS.new lo w3 hlo3
    have hb3 : Below lo W w3 := hb2.trans (h3.mono (by omega))
    have hg3 : w3.heap[lo]? = some (.cells #[.int .i64 op, .int .i64 n, .string s, .slice A len cap] 38 (0, 0)) := (h3.block lo (by omega)).trans hg2
    have hg4 := (alloc_old w3 (.cells #[.pointer none, .slice none 0 0, .int .i64 0] 55) lo (Array.getElem?_eq_some_iff.1 hg3).1).trans hg3
    have hb4 : Below lo W (w3.alloc (.cells #[.pointer none, .slice none 0 0, .int .i64 0] 55)) := hb3.alloc hlo3 _
    obtain ⟨w4, hw4e⟩ : ∃ w4, w3.alloc (.cells #[.pointer none, .slice none 0 0, .int .i64 0] 55) = w4 := ⟨_, rfl⟩
    rw [hw4e] at hws hg4 hb4
    obtain ⟨b, hb⟩ : ∃ b, w3.heap.size = b := ⟨_, rfl⟩
    rw [hb] at hws
    have hlo4 : lo ≤ w4.heap.size := Nat.le_trans hlo3 (by rw [← hw4e]; simp)
    have hq := HE.out w4 hb4 b hws hlo4
    clear d0 d1 d2 d3
    have d0 := cells_at hg4 0 rfl
    have d1 := cells_at hg4 1 rfl
    have d2 := cells_at hg4 2 rfl
    have d3 := cells_at hg4 3 rfl
    clear hw2e hR
    go_upto_region 5 with (go_at_call 36; ((with_reducible refine hq.mono ?_); clear hq; rintro e w5 ⟨rfl, h5⟩))
    have hs := string_any lo b _ _ w5 h5.ws
    go_wp2_with (go_at_call 22; ((with_reducible refine hs.mono ?_); rintro e w6 ⟨rfl, h6⟩))
    go_ret
    exact ⟨rfl, (hb4.trans h5.bl).trans h6⟩
  · rw [if_neg hr]
    rw [decide_eq_false hr] at hR
    clear hE hvl hr
    go_enter Tryz.func16, Tryz.ntmps16
    go_wp2_with (go_at_call 35; ((with_reducible refine hR.mono ?_); rintro e w3 ⟨rfl, h3⟩))
    go_ret
    exact ⟨rfl, hb2.trans (h3.mono (by omega))⟩

end Go.Proofs.YtppagjhmlgkamaaGreatDoor
