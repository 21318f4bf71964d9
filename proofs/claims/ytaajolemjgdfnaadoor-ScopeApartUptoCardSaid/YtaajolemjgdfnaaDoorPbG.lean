/-
  Texts PbE PbF PbG: put together.
-/
import Derived.Test.YtaajolemjgdfnaaDoorPbD
import Derived.Test.YtaajolemjgdfnaaDoorReg
/-
  Package parse: while, and if, where all is right.
-/
namespace Go.Proofs.YtaajolemjgdfnaaDoor
open Go Go.RowKit Go.Lib

theorem set6_at {W : World} {n : Nat} {p q r s u v x : Value} {t : TypeId} (h : W.heap[n]? = some (.cells #[p, q, r, s, u, v] t)) :
    (W.setCell ⟨n, 0, none⟩ x).heap[n]? = some (.cells #[x, q, r, s, u, v] t) ∧ (W.setCell ⟨n, 2, none⟩ x).heap[n]? = some (.cells #[p, q, x, s, u, v] t) ∧ (W.setCell ⟨n, 3, none⟩ x).heap[n]? = some (.cells #[p, q, r, x, u, v] t) ∧
    (W.setCell ⟨n, 4, none⟩ x).heap[n]? = some (.cells #[p, q, r, s, x, v] t) ∧ (W.setCell ⟨n, 5, none⟩ x).heap[n]? = some (.cells #[p, q, r, s, u, x] t) := by
  refine ⟨?_, ?_, ?_, ?_, ?_⟩ <;> simp [World.setCell, Array.getElem?_modify, h]

set_option maxRecDepth 100000 in
theorem loop_ok {W : World} {rb g N cT i o : Nat} {T : List Tok} (h : Rd W rb g N cT T i o) (t : Sm) (l : List Sm) (r1 r : List Tok)
    (HS : ∀ W2, Rd W2 rb g N cT T i o → Calls Tryd.prog 79 #[.pointer (some ⟨rb, 0, none⟩), .int .i64 8] W2 (TP rb g N cT o T W2 (.ok t r1)))
    (HB : ∀ W2 i', Rd W2 rb g N cT T i' o → T.drop i' = r1 → Calls Tryd.prog 71 #[.pointer (some ⟨rb, 0, none⟩), .func (.func 72) #[.pointer (some ⟨rb, 0, none⟩)] #[]] W2 (BP rb g N cT o T W2 (.ok l r))) :
    Calls Tryd.prog 81 #[.pointer (some ⟨rb, 0, none⟩)] W (TP rb g N cT o T W (.ok ⟨t.op, t.s, t.n, t.l, smSS l, t.y⟩ r)) := by
  have HSS := Lib.hid HS
  have HBB := Lib.hid HB
  have hrl := h.rlt
  have hgl := h.tok.1
  have h0 := h.alloc (.cells #[.int .i64 0, .string ⟨#[]⟩, .int .i64 0, .slice none 0 0, .slice none 0 0, .slice none 0 0] 45)
  have B6 := heap_alloc_new W (.cells #[.int .i64 0, .string ⟨#[]⟩, .int .i64 0, .slice none 0 0, .slice none 0 0, .slice none 0 0] 45)
  have g0 := (Gr.refl rb W).alloc (.cells #[.int .i64 0, .string ⟨#[]⟩, .int .i64 0, .slice none 0 0, .slice none 0 0, .slice none 0 0] 45)
  have z0 : (W.alloc (.cells #[.int .i64 0, .string ⟨#[]⟩, .int .i64 0, .slice none 0 0, .slice none 0 0, .slice none 0 0] 45)).heap.size = W.heap.size + 1 := by simp
  clear h HS HB
  go_enter Tryd.func81, Tryd.ntmps81
  go_upto_region 1 with fail
  obtain ⟨w0, hw0⟩ : ∃ W1, W.alloc (.cells #[.int .i64 0, .string ⟨#[]⟩, .int .i64 0, .slice none 0 0, .slice none 0 0, .slice none 0 0] 45) = W1 := ⟨_, rfl⟩
  rw [hw0] at h0 B6 g0 z0 ⊢
  clear hw0
  go_upto_region 2 with (go_at_call 79; ((with_reducible refine (HSS.out _ h0).mono ?_); rintro e1 w1 ⟨⟨vv, rfl, vl, vx, vy, rfl, hvl, hvx, hvy, hok⟩, ⟨i1, h1, hd1⟩, g1⟩; obtain ⟨A1, k1, el1, _⟩ := id hvl; obtain ⟨A2, k2, el2, _⟩ := id hvx; obtain ⟨A3, k3, el3, _⟩ := id hvy; subst el1; subst el2; subst el3))
  have z1 := g1.size
  have h2 := h1.alloc (.cells #[.int .i64 t.op, .string t.s, .int .i64 t.n, .slice A1 t.l.len k1, .slice A2 t.x.len k2, .slice A3 t.y.len k3] 45)
  have B7 := heap_alloc_new w1 (.cells #[.int .i64 t.op, .string t.s, .int .i64 t.n, .slice A1 t.l.len k1, .slice A2 t.x.len k2, .slice A3 t.y.len k3] 45)
  have g2 := (g0.trans g1).alloc (.cells #[.int .i64 t.op, .string t.s, .int .i64 t.n, .slice A1 t.l.len k1, .slice A2 t.x.len k2, .slice A3 t.y.len k3] 45)
  have z2 : (w1.alloc (.cells #[.int .i64 t.op, .string t.s, .int .i64 t.n, .slice A1 t.l.len k1, .slice A2 t.x.len k2, .slice A3 t.y.len k3] 45)).heap.size = w1.heap.size + 1 := by simp
  have HA := Lib.hid (fun k hk => Below.heap_alloc w1 (.cells #[.int .i64 t.op, .string t.s, .int .i64 t.n, .slice A1 t.l.len k1, .slice A2 t.x.len k2, .slice A3 t.y.len k3] 45) k hk)
  have B8 := (Below.heap_alloc w1 (.cells #[.int .i64 t.op, .string t.s, .int .i64 t.n, .slice A1 t.l.len k1, .slice A2 t.x.len k2, .slice A3 t.y.len k3] 45) W.heap.size (by omega)).trans ((g1.block (k := W.heap.size) (by omega) (by omega)).trans B6)
  obtain ⟨w2, hw2⟩ : ∃ W1, w1.alloc (.cells #[.int .i64 t.op, .string t.s, .int .i64 t.n, .slice A1 t.l.len k1, .slice A2 t.x.len k2, .slice A3 t.y.len k3] 45) = W1 := ⟨_, rfl⟩
  rw [hw2] at h2 B7 g2 HA B8 z2 ⊢
  clear hw2
  obtain ⟨n3, hn3⟩ : ∃ n3, w1.heap.size = n3 := ⟨_, rfl⟩
  rw [hn3] at B7 z2 z1 HA ⊢
  have HB7 := Lib.hid (fun w5 (g5 : Gr rb w2 w5) => (g5.block (lt_heap B7) (by omega)).trans B7)
  have HB8 := Lib.hid (fun w5 (g5 : Gr rb w2 w5) => (g5.block (lt_heap B8) (by omega)).trans B8)
  have HC7 := Lib.hid (fun w5 (g5 : Gr rb w2 w5) (j : Nat) => box_cell (HB7.out w5 g5) j)
  have HF7 := Lib.hid (fun w5 (g5 : Gr rb w2 w5) (j : Nat) => box_frozen (HB7.out w5 g5) j)
  go_upto_region 3 with (go_at_call 71; ((with_reducible refine (HBB.out _ i1 h2 hd1).mono ?_); rintro e2 w5 ⟨⟨vv, rfl, hv5⟩, ⟨i5, h5, hd5⟩, g5⟩; obtain ⟨Al, cl, el, _⟩ := id hv5; subst el; have c4 := HC7.out w5 g5 4; have f4 := HF7.out w5 g5 4; simp only [List.getElem?_toArray, List.getElem?_cons_succ, List.getElem?_cons_zero] at c4))
  have z5 := g5.size
  have hl7 := lt_heap (HB7.out w5 g5)
  have hl8 := lt_heap (HB8.out w5 g5)
  have h6 := h5.set (b := n3) (j := 4) (.slice Al (smSS l).len cl) (by omega) (by omega)
  have g6 := (g2.trans g5).setNew (j := 4) (.slice Al (smSS l).len cl) (show W.heap.size ≤ n3 by omega)
  have B7 := (set6_at (x := .slice Al (smSS l).len cl) (HB7.out w5 g5)).2.2.2.1
  have B8 := (Below.heap_setCell w5 ⟨n3, 4, none⟩ (.slice Al (smSS l).len cl) W.heap.size (show W.heap.size ≠ n3 by omega)).trans (HB8.out w5 g5)
  have HK := Lib.hid (fun k (hk : k ≠ n3) => Below.heap_setCell w5 ⟨n3, 4, none⟩ (.slice Al (smSS l).len cl) k hk)
  have zz : (w5.setCell ⟨n3, 4, none⟩ (.slice Al (smSS l).len cl)).heap.size = w5.heap.size := by simp
  obtain ⟨w6, hw6⟩ : ∃ W1, (w5.setCell ⟨n3, 4, none⟩ (.slice Al (smSS l).len cl)) = W1 := ⟨_, rfl⟩
  rw [hw6] at h6 g6 B7 B8 HK zz ⊢
  clear hw6
  clear c4 f4
  have hK1 : Kp w0.heap.size w1 w6 := ⟨by omega, fun k hk hl => (HK.out k (by omega)).trans ((g5.block (by omega) (by omega)).trans (HA.out k (by omega)))⟩
  have hK5 : Kp w2.heap.size w5 w6 := ⟨by omega, fun k hk hl => HK.out k (by omega)⟩
  have hL := hvl.kp hK1 (Nat.le_refl _)
  have hY := hvy.kp hK1 (Nat.le_refl _)
  have hX := hv5.kp hK5 (show w0.heap.size ≤ w2.heap.size by omega)
  have c0 := box_cell B8 0
  have f0 := box_frozen B8 0
  have d0 := box_cell B7 0
  have c1 := box_cell B8 1
  have f1 := box_frozen B8 1
  have d1 := box_cell B7 1
  have c2 := box_cell B8 2
  have f2 := box_frozen B8 2
  have d2 := box_cell B7 2
  have c3 := box_cell B8 3
  have f3 := box_frozen B8 3
  have d3 := box_cell B7 3
  have c4 := box_cell B8 4
  have f4 := box_frozen B8 4
  have d4 := box_cell B7 4
  have c5 := box_cell B8 5
  have f5 := box_frozen B8 5
  have d5 := box_cell B7 5
  simp only [List.getElem?_toArray, List.getElem?_cons_succ, List.getElem?_cons_zero] at c0 d0 c1 d1 c2 d2 c3 d3 c4 d4 c5 d5
  have hP := put6_heap (a := .int .i64 t.op) (b := .string t.s) (c := .int .i64 t.n) (d := .slice A1 t.l.len k1) (x := .slice Al (smSS l).len cl) (y := .slice A3 t.y.len k3) B8
  have hfin : TP rb g N cT o T W (.ok ⟨t.op, t.s, t.n, t.l, smSS l, t.y⟩ r) (.returned (.agg #[.int .i64 t.op, .string t.s, .int .i64 t.n, .slice A1 t.l.len k1, .slice Al (smSS l).len cl, .slice A3 t.y.len k3])) (Proofs.YtaajolemjgdfnaaDoor.put6 w6 W.heap.size (.int .i64 t.op) (.string t.s) (.int .i64 t.n) (.slice A1 t.l.len k1) (.slice Al (smSS l).len cl) (.slice A3 t.y.len k3)) :=
    ⟨⟨_, rfl, _, _, _, rfl, hL.kp (Kp.put6 (by omega)) (by omega), hX.kp (Kp.put6 (by omega)) (by omega), hY.kp (Kp.put6 (by omega)) (by omega), hok⟩, ⟨i5, h6.put6 (by omega) (by omega), hd5⟩, g6.put6 (Nat.le_refl _)⟩
  go_wp2
  obtain ⟨wz, hwz⟩ : ∃ W5, (Proofs.YtaajolemjgdfnaaDoor.put6 w6 W.heap.size (.int .i64 t.op) (.string t.s) (.int .i64 t.n) (.slice A1 t.l.len k1) (.slice Al (smSS l).len cl) (.slice A3 t.y.len k3)) = W5 := ⟨_, rfl⟩
  show bodyPost _ _ _ _ _ (Proofs.YtaajolemjgdfnaaDoor.put6 w6 W.heap.size (.int .i64 t.op) (.string t.s) (.int .i64 t.n) (.slice A1 t.l.len k1) (.slice Al (smSS l).len cl) (.slice A3 t.y.len k3))
  rw [hwz] at hP hfin ⊢
  have p0 := box_cell hP 0
  have p1 := box_cell hP 1
  have p2 := box_cell hP 2
  have p3 := box_cell hP 3
  have p4 := box_cell hP 4
  have p5 := box_cell hP 5
  simp only [List.getElem?_toArray, List.getElem?_cons_succ, List.getElem?_cons_zero] at p0 p1 p2 p3 p4 p5
  exact bodyPost_ret (v := .agg #[.int .i64 t.op, .string t.s, .int .i64 t.n, .slice A1 t.l.len k1, .slice Al (smSS l).len cl, .slice A3 t.y.len k3]) (by simp [results, Tryd.results81, go_sem, p0, p1, p2, p3, p4, p5]) rfl hfin
set_option maxRecDepth 100000 in
theorem choice_bad1 {W : World} {rb g N cT i o : Nat} {T : List Tok} (h : Rd W rb g N cT T i o) (p c : Nat)
    (HS : ∀ W2, Rd W2 rb g N cT T i o → Calls Tryd.prog 79 #[.pointer (some ⟨rb, 0, none⟩), .int .i64 7] W2 (TP rb g N cT o T W2 (.bad p c))) :
    Calls Tryd.prog 80 #[.pointer (some ⟨rb, 0, none⟩)] W (TP rb g N cT o T W (.bad p c)) := by
  have HSS := Lib.hid HS
  have HR := Lib.hid h
  clear HS h
  go_enter Tryd.func80, Tryd.ntmps80
  go_wp2_with (go_at_call 79; ((with_reducible refine (HSS.out _ (HR.out.alloc _)).mono ?_); rintro e w2 ⟨rfl, g2⟩))
  exact ⟨rfl, rfl, ((Gr.refl rb W).alloc _).trans g2⟩

set_option maxRecDepth 100000 in
theorem choice_bad2 {W : World} {rb g N cT i o : Nat} {T : List Tok} (h : Rd W rb g N cT T i o) (t : Sm) (p c : Nat) (r1 : List Tok)
    (HS : ∀ W2, Rd W2 rb g N cT T i o → Calls Tryd.prog 79 #[.pointer (some ⟨rb, 0, none⟩), .int .i64 7] W2 (TP rb g N cT o T W2 (.ok t r1)))
    (HB : ∀ W2 i', Rd W2 rb g N cT T i' o → T.drop i' = r1 → Calls Tryd.prog 71 #[.pointer (some ⟨rb, 0, none⟩), .func (.func 72) #[.pointer (some ⟨rb, 0, none⟩)] #[]] W2 (BP rb g N cT o T W2 (.bad p c))) :
    Calls Tryd.prog 80 #[.pointer (some ⟨rb, 0, none⟩)] W (TP rb g N cT o T W (.bad p c)) := by
  have HSS := Lib.hid HS
  have HBB := Lib.hid HB
  have hrl := h.rlt
  have hgl := h.tok.1
  have h0 := h.alloc (.cells #[.int .i64 0, .string ⟨#[]⟩, .int .i64 0, .slice none 0 0, .slice none 0 0, .slice none 0 0] 45)
  have B6 := heap_alloc_new W (.cells #[.int .i64 0, .string ⟨#[]⟩, .int .i64 0, .slice none 0 0, .slice none 0 0, .slice none 0 0] 45)
  have g0 := (Gr.refl rb W).alloc (.cells #[.int .i64 0, .string ⟨#[]⟩, .int .i64 0, .slice none 0 0, .slice none 0 0, .slice none 0 0] 45)
  have z0 : (W.alloc (.cells #[.int .i64 0, .string ⟨#[]⟩, .int .i64 0, .slice none 0 0, .slice none 0 0, .slice none 0 0] 45)).heap.size = W.heap.size + 1 := by simp
  clear h HS HB
  go_enter Tryd.func80, Tryd.ntmps80
  go_upto_region 1 with fail
  obtain ⟨w0, hw0⟩ : ∃ W1, W.alloc (.cells #[.int .i64 0, .string ⟨#[]⟩, .int .i64 0, .slice none 0 0, .slice none 0 0, .slice none 0 0] 45) = W1 := ⟨_, rfl⟩
  rw [hw0] at h0 B6 g0 z0 ⊢
  clear hw0
  go_upto_region 2 with (go_at_call 79; ((with_reducible refine (HSS.out _ h0).mono ?_); rintro e1 w1 ⟨⟨vv, rfl, vl, vx, vy, rfl, hvl, hvx, hvy, hok⟩, ⟨i1, h1, hd1⟩, g1⟩; obtain ⟨A1, k1, el1, _⟩ := id hvl; obtain ⟨A2, k2, el2, _⟩ := id hvx; obtain ⟨A3, k3, el3, _⟩ := id hvy; subst el1; subst el2; subst el3))
  have z1 := g1.size
  have h2 := h1.alloc (.cells #[.int .i64 t.op, .string t.s, .int .i64 t.n, .slice A1 t.l.len k1, .slice A2 t.x.len k2, .slice A3 t.y.len k3] 45)
  have B7 := heap_alloc_new w1 (.cells #[.int .i64 t.op, .string t.s, .int .i64 t.n, .slice A1 t.l.len k1, .slice A2 t.x.len k2, .slice A3 t.y.len k3] 45)
  have g2 := (g0.trans g1).alloc (.cells #[.int .i64 t.op, .string t.s, .int .i64 t.n, .slice A1 t.l.len k1, .slice A2 t.x.len k2, .slice A3 t.y.len k3] 45)
  have z2 : (w1.alloc (.cells #[.int .i64 t.op, .string t.s, .int .i64 t.n, .slice A1 t.l.len k1, .slice A2 t.x.len k2, .slice A3 t.y.len k3] 45)).heap.size = w1.heap.size + 1 := by simp
  have HA := Lib.hid (fun k hk => Below.heap_alloc w1 (.cells #[.int .i64 t.op, .string t.s, .int .i64 t.n, .slice A1 t.l.len k1, .slice A2 t.x.len k2, .slice A3 t.y.len k3] 45) k hk)
  have B8 := (Below.heap_alloc w1 (.cells #[.int .i64 t.op, .string t.s, .int .i64 t.n, .slice A1 t.l.len k1, .slice A2 t.x.len k2, .slice A3 t.y.len k3] 45) W.heap.size (by omega)).trans ((g1.block (k := W.heap.size) (by omega) (by omega)).trans B6)
  obtain ⟨w2, hw2⟩ : ∃ W1, w1.alloc (.cells #[.int .i64 t.op, .string t.s, .int .i64 t.n, .slice A1 t.l.len k1, .slice A2 t.x.len k2, .slice A3 t.y.len k3] 45) = W1 := ⟨_, rfl⟩
  rw [hw2] at h2 B7 g2 HA B8 z2 ⊢
  clear hw2
  obtain ⟨n3, hn3⟩ : ∃ n3, w1.heap.size = n3 := ⟨_, rfl⟩
  rw [hn3] at B7 z2 z1 HA ⊢
  go_wp2_with (go_at_call 71; ((with_reducible refine (HBB.out _ i1 h2 hd1).mono ?_); rintro e2 w5 ⟨rfl, g5⟩))
  exact ⟨rfl, rfl, g2.trans g5⟩

set_option maxRecDepth 100000 in
theorem choice_bad3 {W : World} {rb g N cT i o : Nat} {T : List Tok} (h : Rd W rb g N cT T i o) (t : Sm) (p c : Nat) (l : List Sm) (r1 r : List Tok) (be : isT r [101, 108, 115, 101] = true)
    (HS : ∀ W2, Rd W2 rb g N cT T i o → Calls Tryd.prog 79 #[.pointer (some ⟨rb, 0, none⟩), .int .i64 7] W2 (TP rb g N cT o T W2 (.ok t r1)))
    (HB : ∀ W2 i', Rd W2 rb g N cT T i' o → T.drop i' = r1 → Calls Tryd.prog 71 #[.pointer (some ⟨rb, 0, none⟩), .func (.func 72) #[.pointer (some ⟨rb, 0, none⟩)] #[]] W2 (BP rb g N cT o T W2 (.ok l r)))
    (HB2 : ∀ W2 i', Rd W2 rb g N cT T i' o → T.drop i' = r.tail → Calls Tryd.prog 71 #[.pointer (some ⟨rb, 0, none⟩), .func (.func 72) #[.pointer (some ⟨rb, 0, none⟩)] #[]] W2 (BP rb g N cT o T W2 (.bad p c))) :
    Calls Tryd.prog 80 #[.pointer (some ⟨rb, 0, none⟩)] W (TP rb g N cT o T W (.bad p c)) := by
  have HSS := Lib.hid HS
  have HBB := Lib.hid HB
  have HBB2 := Lib.hid HB2
  have HT := Lib.hid (fun w7 i7 (h7 : Rd w7 rb g N cT T i7 o) (hd : T.drop i7 = r) => (show Calls Tryd.prog 75 #[.pointer (some ⟨rb, 0, none⟩), .string ⟨#[101, 108, 115, 101]⟩] w7 fun e w' => e = .returned (.bool true) ∧ Rd w' rb g N cT T (i7 + 1) o ∧ Gr rb w7 w' from take_yes h7 [101, 108, 115, 101] (by decide) (by rw [hd]; exact be)))
  have hrl := h.rlt
  have hgl := h.tok.1
  have h0 := h.alloc (.cells #[.int .i64 0, .string ⟨#[]⟩, .int .i64 0, .slice none 0 0, .slice none 0 0, .slice none 0 0] 45)
  have B6 := heap_alloc_new W (.cells #[.int .i64 0, .string ⟨#[]⟩, .int .i64 0, .slice none 0 0, .slice none 0 0, .slice none 0 0] 45)
  have g0 := (Gr.refl rb W).alloc (.cells #[.int .i64 0, .string ⟨#[]⟩, .int .i64 0, .slice none 0 0, .slice none 0 0, .slice none 0 0] 45)
  have z0 : (W.alloc (.cells #[.int .i64 0, .string ⟨#[]⟩, .int .i64 0, .slice none 0 0, .slice none 0 0, .slice none 0 0] 45)).heap.size = W.heap.size + 1 := by simp
  clear h HS HB HB2
  go_enter Tryd.func80, Tryd.ntmps80
  go_upto_region 1 with fail
  obtain ⟨w0, hw0⟩ : ∃ W1, W.alloc (.cells #[.int .i64 0, .string ⟨#[]⟩, .int .i64 0, .slice none 0 0, .slice none 0 0, .slice none 0 0] 45) = W1 := ⟨_, rfl⟩
  rw [hw0] at h0 B6 g0 z0 ⊢
  clear hw0
  go_upto_region 2 with (go_at_call 79; ((with_reducible refine (HSS.out _ h0).mono ?_); rintro e1 w1 ⟨⟨vv, rfl, vl, vx, vy, rfl, hvl, hvx, hvy, hok⟩, ⟨i1, h1, hd1⟩, g1⟩; obtain ⟨A1, k1, el1, _⟩ := id hvl; obtain ⟨A2, k2, el2, _⟩ := id hvx; obtain ⟨A3, k3, el3, _⟩ := id hvy; subst el1; subst el2; subst el3))
  have z1 := g1.size
  have h2 := h1.alloc (.cells #[.int .i64 t.op, .string t.s, .int .i64 t.n, .slice A1 t.l.len k1, .slice A2 t.x.len k2, .slice A3 t.y.len k3] 45)
  have B7 := heap_alloc_new w1 (.cells #[.int .i64 t.op, .string t.s, .int .i64 t.n, .slice A1 t.l.len k1, .slice A2 t.x.len k2, .slice A3 t.y.len k3] 45)
  have g2 := (g0.trans g1).alloc (.cells #[.int .i64 t.op, .string t.s, .int .i64 t.n, .slice A1 t.l.len k1, .slice A2 t.x.len k2, .slice A3 t.y.len k3] 45)
  have z2 : (w1.alloc (.cells #[.int .i64 t.op, .string t.s, .int .i64 t.n, .slice A1 t.l.len k1, .slice A2 t.x.len k2, .slice A3 t.y.len k3] 45)).heap.size = w1.heap.size + 1 := by simp
  have HA := Lib.hid (fun k hk => Below.heap_alloc w1 (.cells #[.int .i64 t.op, .string t.s, .int .i64 t.n, .slice A1 t.l.len k1, .slice A2 t.x.len k2, .slice A3 t.y.len k3] 45) k hk)
  have B8 := (Below.heap_alloc w1 (.cells #[.int .i64 t.op, .string t.s, .int .i64 t.n, .slice A1 t.l.len k1, .slice A2 t.x.len k2, .slice A3 t.y.len k3] 45) W.heap.size (by omega)).trans ((g1.block (k := W.heap.size) (by omega) (by omega)).trans B6)
  obtain ⟨w2, hw2⟩ : ∃ W1, w1.alloc (.cells #[.int .i64 t.op, .string t.s, .int .i64 t.n, .slice A1 t.l.len k1, .slice A2 t.x.len k2, .slice A3 t.y.len k3] 45) = W1 := ⟨_, rfl⟩
  rw [hw2] at h2 B7 g2 HA B8 z2 ⊢
  clear hw2
  obtain ⟨n3, hn3⟩ : ∃ n3, w1.heap.size = n3 := ⟨_, rfl⟩
  rw [hn3] at B7 z2 z1 HA ⊢
  have HB7 := Lib.hid (fun w5 (g5 : Gr rb w2 w5) => (g5.block (lt_heap B7) (by omega)).trans B7)
  have HB8 := Lib.hid (fun w5 (g5 : Gr rb w2 w5) => (g5.block (lt_heap B8) (by omega)).trans B8)
  have HC7 := Lib.hid (fun w5 (g5 : Gr rb w2 w5) (j : Nat) => box_cell (HB7.out w5 g5) j)
  have HF7 := Lib.hid (fun w5 (g5 : Gr rb w2 w5) (j : Nat) => box_frozen (HB7.out w5 g5) j)
  go_upto_region 3 with (go_at_call 71; ((with_reducible refine (HBB.out _ i1 h2 hd1).mono ?_); rintro e2 w5 ⟨⟨vv, rfl, hv5⟩, ⟨i5, h5, hd5⟩, g5⟩; obtain ⟨Al, cl, el, _⟩ := id hv5; subst el; have c4 := HC7.out w5 g5 4; have f4 := HF7.out w5 g5 4; simp only [List.getElem?_toArray, List.getElem?_cons_succ, List.getElem?_cons_zero] at c4))
  have z5 := g5.size
  have hl7 := lt_heap (HB7.out w5 g5)
  have hl8 := lt_heap (HB8.out w5 g5)
  have h6 := h5.set (b := n3) (j := 4) (.slice Al (smSS l).len cl) (by omega) (by omega)
  have g6 := (g2.trans g5).setNew (j := 4) (.slice Al (smSS l).len cl) (show W.heap.size ≤ n3 by omega)
  have B7 := (set6_at (x := .slice Al (smSS l).len cl) (HB7.out w5 g5)).2.2.2.1
  have B8 := (Below.heap_setCell w5 ⟨n3, 4, none⟩ (.slice Al (smSS l).len cl) W.heap.size (show W.heap.size ≠ n3 by omega)).trans (HB8.out w5 g5)
  have HK := Lib.hid (fun k (hk : k ≠ n3) => Below.heap_setCell w5 ⟨n3, 4, none⟩ (.slice Al (smSS l).len cl) k hk)
  have zz : (w5.setCell ⟨n3, 4, none⟩ (.slice Al (smSS l).len cl)).heap.size = w5.heap.size := by simp
  obtain ⟨w6, hw6⟩ : ∃ W1, (w5.setCell ⟨n3, 4, none⟩ (.slice Al (smSS l).len cl)) = W1 := ⟨_, rfl⟩
  rw [hw6] at h6 g6 B7 B8 HK zz ⊢
  clear hw6
  clear c4 f4
  have hK1 : Kp w0.heap.size w1 w6 := ⟨by omega, fun k hk hl => (HK.out k (by omega)).trans ((g5.block (by omega) (by omega)).trans (HA.out k (by omega)))⟩
  have hK5 : Kp w2.heap.size w5 w6 := ⟨by omega, fun k hk hl => HK.out k (by omega)⟩
  have hL := hvl.kp hK1 (Nat.le_refl _)
  have hY := hvy.kp hK1 (Nat.le_refl _)
  have hX := hv5.kp hK5 (show w0.heap.size ≤ w2.heap.size by omega)
  clear hK1 hK5 HB7 HB8 HC7 HF7 HK hvl hvx hvy hv5 HA
  have hd7 : T.drop (i5 + 1) = r.tail := by rw [← hd5, drop_tail]
  go_wp2_with (first
    | (go_at_call 75; ((with_reducible refine (HT.out _ i5 h6 hd5).mono ?_); rintro e2 w7 ⟨rfl, h7, g7⟩))
    | (go_at_call 71; ((with_reducible refine (HBB2.out _ _ h7 hd7).mono ?_); rintro e2 w8 ⟨rfl, g8⟩)))
  exact ⟨rfl, rfl, g6.trans (g7.trans g8)⟩

set_option maxRecDepth 100000 in
theorem choice_ok1 {W : World} {rb g N cT i o : Nat} {T : List Tok} (h : Rd W rb g N cT T i o) (t : Sm) (l : List Sm) (r1 r : List Tok) (be : isT r [101, 108, 115, 101] = false)
    (HS : ∀ W2, Rd W2 rb g N cT T i o → Calls Tryd.prog 79 #[.pointer (some ⟨rb, 0, none⟩), .int .i64 7] W2 (TP rb g N cT o T W2 (.ok t r1)))
    (HB : ∀ W2 i', Rd W2 rb g N cT T i' o → T.drop i' = r1 → Calls Tryd.prog 71 #[.pointer (some ⟨rb, 0, none⟩), .func (.func 72) #[.pointer (some ⟨rb, 0, none⟩)] #[]] W2 (BP rb g N cT o T W2 (.ok l r))) :
    Calls Tryd.prog 80 #[.pointer (some ⟨rb, 0, none⟩)] W (TP rb g N cT o T W (.ok ⟨t.op, t.s, t.n, t.l, smSS l, t.y⟩ r)) := by
  have HSS := Lib.hid HS
  have HBB := Lib.hid HB
  have HT := Lib.hid (fun w7 i7 (h7 : Rd w7 rb g N cT T i7 o) (hd : T.drop i7 = r) => (show Calls Tryd.prog 75 #[.pointer (some ⟨rb, 0, none⟩), .string ⟨#[101, 108, 115, 101]⟩] w7 fun e w' => e = .returned (.bool false) ∧ Below w7.heap.size w7 w' from take_no h7 [101, 108, 115, 101] (by rw [hd]; exact be)))
  have hrl := h.rlt
  have hgl := h.tok.1
  have h0 := h.alloc (.cells #[.int .i64 0, .string ⟨#[]⟩, .int .i64 0, .slice none 0 0, .slice none 0 0, .slice none 0 0] 45)
  have B6 := heap_alloc_new W (.cells #[.int .i64 0, .string ⟨#[]⟩, .int .i64 0, .slice none 0 0, .slice none 0 0, .slice none 0 0] 45)
  have g0 := (Gr.refl rb W).alloc (.cells #[.int .i64 0, .string ⟨#[]⟩, .int .i64 0, .slice none 0 0, .slice none 0 0, .slice none 0 0] 45)
  have z0 : (W.alloc (.cells #[.int .i64 0, .string ⟨#[]⟩, .int .i64 0, .slice none 0 0, .slice none 0 0, .slice none 0 0] 45)).heap.size = W.heap.size + 1 := by simp
  clear h HS HB
  go_enter Tryd.func80, Tryd.ntmps80
  go_upto_region 1 with fail
  obtain ⟨w0, hw0⟩ : ∃ W1, W.alloc (.cells #[.int .i64 0, .string ⟨#[]⟩, .int .i64 0, .slice none 0 0, .slice none 0 0, .slice none 0 0] 45) = W1 := ⟨_, rfl⟩
  rw [hw0] at h0 B6 g0 z0 ⊢
  clear hw0
  go_upto_region 2 with (go_at_call 79; ((with_reducible refine (HSS.out _ h0).mono ?_); rintro e1 w1 ⟨⟨vv, rfl, vl, vx, vy, rfl, hvl, hvx, hvy, hok⟩, ⟨i1, h1, hd1⟩, g1⟩; obtain ⟨A1, k1, el1, _⟩ := id hvl; obtain ⟨A2, k2, el2, _⟩ := id hvx; obtain ⟨A3, k3, el3, _⟩ := id hvy; subst el1; subst el2; subst el3))
  have z1 := g1.size
  have h2 := h1.alloc (.cells #[.int .i64 t.op, .string t.s, .int .i64 t.n, .slice A1 t.l.len k1, .slice A2 t.x.len k2, .slice A3 t.y.len k3] 45)
  have B7 := heap_alloc_new w1 (.cells #[.int .i64 t.op, .string t.s, .int .i64 t.n, .slice A1 t.l.len k1, .slice A2 t.x.len k2, .slice A3 t.y.len k3] 45)
  have g2 := (g0.trans g1).alloc (.cells #[.int .i64 t.op, .string t.s, .int .i64 t.n, .slice A1 t.l.len k1, .slice A2 t.x.len k2, .slice A3 t.y.len k3] 45)
  have z2 : (w1.alloc (.cells #[.int .i64 t.op, .string t.s, .int .i64 t.n, .slice A1 t.l.len k1, .slice A2 t.x.len k2, .slice A3 t.y.len k3] 45)).heap.size = w1.heap.size + 1 := by simp
  have HA := Lib.hid (fun k hk => Below.heap_alloc w1 (.cells #[.int .i64 t.op, .string t.s, .int .i64 t.n, .slice A1 t.l.len k1, .slice A2 t.x.len k2, .slice A3 t.y.len k3] 45) k hk)
  have B8 := (Below.heap_alloc w1 (.cells #[.int .i64 t.op, .string t.s, .int .i64 t.n, .slice A1 t.l.len k1, .slice A2 t.x.len k2, .slice A3 t.y.len k3] 45) W.heap.size (by omega)).trans ((g1.block (k := W.heap.size) (by omega) (by omega)).trans B6)
  obtain ⟨w2, hw2⟩ : ∃ W1, w1.alloc (.cells #[.int .i64 t.op, .string t.s, .int .i64 t.n, .slice A1 t.l.len k1, .slice A2 t.x.len k2, .slice A3 t.y.len k3] 45) = W1 := ⟨_, rfl⟩
  rw [hw2] at h2 B7 g2 HA B8 z2 ⊢
  clear hw2
  obtain ⟨n3, hn3⟩ : ∃ n3, w1.heap.size = n3 := ⟨_, rfl⟩
  rw [hn3] at B7 z2 z1 HA ⊢
  have HB7 := Lib.hid (fun w5 (g5 : Gr rb w2 w5) => (g5.block (lt_heap B7) (by omega)).trans B7)
  have HB8 := Lib.hid (fun w5 (g5 : Gr rb w2 w5) => (g5.block (lt_heap B8) (by omega)).trans B8)
  have HC7 := Lib.hid (fun w5 (g5 : Gr rb w2 w5) (j : Nat) => box_cell (HB7.out w5 g5) j)
  have HF7 := Lib.hid (fun w5 (g5 : Gr rb w2 w5) (j : Nat) => box_frozen (HB7.out w5 g5) j)
  go_upto_region 3 with (go_at_call 71; ((with_reducible refine (HBB.out _ i1 h2 hd1).mono ?_); rintro e2 w5 ⟨⟨vv, rfl, hv5⟩, ⟨i5, h5, hd5⟩, g5⟩; obtain ⟨Al, cl, el, _⟩ := id hv5; subst el; have c4 := HC7.out w5 g5 4; have f4 := HF7.out w5 g5 4; simp only [List.getElem?_toArray, List.getElem?_cons_succ, List.getElem?_cons_zero] at c4))
  have z5 := g5.size
  have hl7 := lt_heap (HB7.out w5 g5)
  have hl8 := lt_heap (HB8.out w5 g5)
  have h6 := h5.set (b := n3) (j := 4) (.slice Al (smSS l).len cl) (by omega) (by omega)
  have g6 := (g2.trans g5).setNew (j := 4) (.slice Al (smSS l).len cl) (show W.heap.size ≤ n3 by omega)
  have B7 := (set6_at (x := .slice Al (smSS l).len cl) (HB7.out w5 g5)).2.2.2.1
  have B8 := (Below.heap_setCell w5 ⟨n3, 4, none⟩ (.slice Al (smSS l).len cl) W.heap.size (show W.heap.size ≠ n3 by omega)).trans (HB8.out w5 g5)
  have HK := Lib.hid (fun k (hk : k ≠ n3) => Below.heap_setCell w5 ⟨n3, 4, none⟩ (.slice Al (smSS l).len cl) k hk)
  have zz : (w5.setCell ⟨n3, 4, none⟩ (.slice Al (smSS l).len cl)).heap.size = w5.heap.size := by simp
  obtain ⟨w6, hw6⟩ : ∃ W1, (w5.setCell ⟨n3, 4, none⟩ (.slice Al (smSS l).len cl)) = W1 := ⟨_, rfl⟩
  rw [hw6] at h6 g6 B7 B8 HK zz ⊢
  clear hw6
  clear c4 f4
  have hK1 : Kp w0.heap.size w1 w6 := ⟨by omega, fun k hk hl => (HK.out k (by omega)).trans ((g5.block (by omega) (by omega)).trans (HA.out k (by omega)))⟩
  have hK5 : Kp w2.heap.size w5 w6 := ⟨by omega, fun k hk hl => HK.out k (by omega)⟩
  have hL := hvl.kp hK1 (Nat.le_refl _)
  have hY := hvy.kp hK1 (Nat.le_refl _)
  have hX := hv5.kp hK5 (show w0.heap.size ≤ w2.heap.size by omega)
  clear hK1 hK5 HB7 HB8 HC7 HF7 HK hvl hvx hvy hv5 HA
  go_upto_region 5 with (go_at_call 75; ((with_reducible refine (HT.out _ i5 h6 hd5).mono ?_); rintro e2 w7 ⟨rfl, e7⟩))
  have z7 := e7.size
  have h7 := h6.below e7
  have g7 := g6.trans (Gr.of e7)
  have B7 := (e7.block _ (lt_heap B7)).trans B7
  have B8 := (e7.block _ (lt_heap B8)).trans B8
  have hL := hL.kp (Kp.below e7) (Nat.le_refl _)
  have hX := hX.kp (Kp.below e7) (Nat.le_refl _)
  have hY := hY.kp (Kp.below e7) (Nat.le_refl _)
  have c0 := box_cell B8 0
  have f0 := box_frozen B8 0
  have d0 := box_cell B7 0
  have c1 := box_cell B8 1
  have f1 := box_frozen B8 1
  have d1 := box_cell B7 1
  have c2 := box_cell B8 2
  have f2 := box_frozen B8 2
  have d2 := box_cell B7 2
  have c3 := box_cell B8 3
  have f3 := box_frozen B8 3
  have d3 := box_cell B7 3
  have c4 := box_cell B8 4
  have f4 := box_frozen B8 4
  have d4 := box_cell B7 4
  have c5 := box_cell B8 5
  have f5 := box_frozen B8 5
  have d5 := box_cell B7 5
  simp only [List.getElem?_toArray, List.getElem?_cons_succ, List.getElem?_cons_zero] at c0 d0 c1 d1 c2 d2 c3 d3 c4 d4 c5 d5
  have hP := put6_heap (a := .int .i64 t.op) (b := .string t.s) (c := .int .i64 t.n) (d := .slice A1 t.l.len k1) (x := .slice Al (smSS l).len cl) (y := .slice A3 t.y.len k3) B8
  have hfin : TP rb g N cT o T W (.ok ⟨t.op, t.s, t.n, t.l, smSS l, t.y⟩ r) (.returned (.agg #[.int .i64 t.op, .string t.s, .int .i64 t.n, .slice A1 t.l.len k1, .slice Al (smSS l).len cl, .slice A3 t.y.len k3])) (Proofs.YtaajolemjgdfnaaDoor.put6 w7 W.heap.size (.int .i64 t.op) (.string t.s) (.int .i64 t.n) (.slice A1 t.l.len k1) (.slice Al (smSS l).len cl) (.slice A3 t.y.len k3)) :=
    ⟨⟨_, rfl, _, _, _, rfl, hL.kp (Kp.put6 (by omega)) (by omega), hX.kp (Kp.put6 (by omega)) (by omega), hY.kp (Kp.put6 (by omega)) (by omega), hok⟩, ⟨i5, h7.put6 (by omega) (by omega), hd5⟩, g7.put6 (Nat.le_refl _)⟩
  go_wp2
  obtain ⟨wz, hwz⟩ : ∃ W5, (Proofs.YtaajolemjgdfnaaDoor.put6 w7 W.heap.size (.int .i64 t.op) (.string t.s) (.int .i64 t.n) (.slice A1 t.l.len k1) (.slice Al (smSS l).len cl) (.slice A3 t.y.len k3)) = W5 := ⟨_, rfl⟩
  show bodyPost _ _ _ _ _ (Proofs.YtaajolemjgdfnaaDoor.put6 w7 W.heap.size (.int .i64 t.op) (.string t.s) (.int .i64 t.n) (.slice A1 t.l.len k1) (.slice Al (smSS l).len cl) (.slice A3 t.y.len k3))
  rw [hwz] at hP hfin ⊢
  have p0 := box_cell hP 0
  have p1 := box_cell hP 1
  have p2 := box_cell hP 2
  have p3 := box_cell hP 3
  have p4 := box_cell hP 4
  have p5 := box_cell hP 5
  simp only [List.getElem?_toArray, List.getElem?_cons_succ, List.getElem?_cons_zero] at p0 p1 p2 p3 p4 p5
  exact bodyPost_ret (v := .agg #[.int .i64 t.op, .string t.s, .int .i64 t.n, .slice A1 t.l.len k1, .slice Al (smSS l).len cl, .slice A3 t.y.len k3]) (by simp [results, Tryd.results80, go_sem, p0, p1, p2, p3, p4, p5]) rfl hfin

set_option maxRecDepth 100000 in
theorem choice_ok2 {W : World} {rb g N cT i o : Nat} {T : List Tok} (h : Rd W rb g N cT T i o) (t : Sm) (l l2 : List Sm) (r1 r r2 : List Tok) (be : isT r [101, 108, 115, 101] = true)
    (HS : ∀ W2, Rd W2 rb g N cT T i o → Calls Tryd.prog 79 #[.pointer (some ⟨rb, 0, none⟩), .int .i64 7] W2 (TP rb g N cT o T W2 (.ok t r1)))
    (HB : ∀ W2 i', Rd W2 rb g N cT T i' o → T.drop i' = r1 → Calls Tryd.prog 71 #[.pointer (some ⟨rb, 0, none⟩), .func (.func 72) #[.pointer (some ⟨rb, 0, none⟩)] #[]] W2 (BP rb g N cT o T W2 (.ok l r)))
    (HB2 : ∀ W2 i', Rd W2 rb g N cT T i' o → T.drop i' = r.tail → Calls Tryd.prog 71 #[.pointer (some ⟨rb, 0, none⟩), .func (.func 72) #[.pointer (some ⟨rb, 0, none⟩)] #[]] W2 (BP rb g N cT o T W2 (.ok l2 r2))) :
    Calls Tryd.prog 80 #[.pointer (some ⟨rb, 0, none⟩)] W (TP rb g N cT o T W (.ok ⟨t.op, t.s, t.n, t.l, smSS l, smSS l2⟩ r2)) := by
  have HSS := Lib.hid HS
  have HBB := Lib.hid HB
  have HBB2 := Lib.hid HB2
  have HT := Lib.hid (fun w7 i7 (h7 : Rd w7 rb g N cT T i7 o) (hd : T.drop i7 = r) => (show Calls Tryd.prog 75 #[.pointer (some ⟨rb, 0, none⟩), .string ⟨#[101, 108, 115, 101]⟩] w7 fun e w' => e = .returned (.bool true) ∧ Rd w' rb g N cT T (i7 + 1) o ∧ Gr rb w7 w' from take_yes h7 [101, 108, 115, 101] (by decide) (by rw [hd]; exact be)))
  have hrl := h.rlt
  have hgl := h.tok.1
  have h0 := h.alloc (.cells #[.int .i64 0, .string ⟨#[]⟩, .int .i64 0, .slice none 0 0, .slice none 0 0, .slice none 0 0] 45)
  have B6 := heap_alloc_new W (.cells #[.int .i64 0, .string ⟨#[]⟩, .int .i64 0, .slice none 0 0, .slice none 0 0, .slice none 0 0] 45)
  have g0 := (Gr.refl rb W).alloc (.cells #[.int .i64 0, .string ⟨#[]⟩, .int .i64 0, .slice none 0 0, .slice none 0 0, .slice none 0 0] 45)
  have z0 : (W.alloc (.cells #[.int .i64 0, .string ⟨#[]⟩, .int .i64 0, .slice none 0 0, .slice none 0 0, .slice none 0 0] 45)).heap.size = W.heap.size + 1 := by simp
  clear h HS HB HB2
  go_enter Tryd.func80, Tryd.ntmps80
  go_upto_region 1 with fail
  obtain ⟨w0, hw0⟩ : ∃ W1, W.alloc (.cells #[.int .i64 0, .string ⟨#[]⟩, .int .i64 0, .slice none 0 0, .slice none 0 0, .slice none 0 0] 45) = W1 := ⟨_, rfl⟩
  rw [hw0] at h0 B6 g0 z0 ⊢
  clear hw0
  go_upto_region 2 with (go_at_call 79; ((with_reducible refine (HSS.out _ h0).mono ?_); rintro e1 w1 ⟨⟨vv, rfl, vl, vx, vy, rfl, hvl, hvx, hvy, hok⟩, ⟨i1, h1, hd1⟩, g1⟩; obtain ⟨A1, k1, el1, _⟩ := id hvl; obtain ⟨A2, k2, el2, _⟩ := id hvx; obtain ⟨A3, k3, el3, _⟩ := id hvy; subst el1; subst el2; subst el3))
  have z1 := g1.size
  have h2 := h1.alloc (.cells #[.int .i64 t.op, .string t.s, .int .i64 t.n, .slice A1 t.l.len k1, .slice A2 t.x.len k2, .slice A3 t.y.len k3] 45)
  have B7 := heap_alloc_new w1 (.cells #[.int .i64 t.op, .string t.s, .int .i64 t.n, .slice A1 t.l.len k1, .slice A2 t.x.len k2, .slice A3 t.y.len k3] 45)
  have g2 := (g0.trans g1).alloc (.cells #[.int .i64 t.op, .string t.s, .int .i64 t.n, .slice A1 t.l.len k1, .slice A2 t.x.len k2, .slice A3 t.y.len k3] 45)
  have z2 : (w1.alloc (.cells #[.int .i64 t.op, .string t.s, .int .i64 t.n, .slice A1 t.l.len k1, .slice A2 t.x.len k2, .slice A3 t.y.len k3] 45)).heap.size = w1.heap.size + 1 := by simp
  have HA := Lib.hid (fun k hk => Below.heap_alloc w1 (.cells #[.int .i64 t.op, .string t.s, .int .i64 t.n, .slice A1 t.l.len k1, .slice A2 t.x.len k2, .slice A3 t.y.len k3] 45) k hk)
  have B8 := (Below.heap_alloc w1 (.cells #[.int .i64 t.op, .string t.s, .int .i64 t.n, .slice A1 t.l.len k1, .slice A2 t.x.len k2, .slice A3 t.y.len k3] 45) W.heap.size (by omega)).trans ((g1.block (k := W.heap.size) (by omega) (by omega)).trans B6)
  obtain ⟨w2, hw2⟩ : ∃ W1, w1.alloc (.cells #[.int .i64 t.op, .string t.s, .int .i64 t.n, .slice A1 t.l.len k1, .slice A2 t.x.len k2, .slice A3 t.y.len k3] 45) = W1 := ⟨_, rfl⟩
  rw [hw2] at h2 B7 g2 HA B8 z2 ⊢
  clear hw2
  obtain ⟨n3, hn3⟩ : ∃ n3, w1.heap.size = n3 := ⟨_, rfl⟩
  rw [hn3] at B7 z2 z1 HA ⊢
  have HB7 := Lib.hid (fun w5 (g5 : Gr rb w2 w5) => (g5.block (lt_heap B7) (by omega)).trans B7)
  have HB8 := Lib.hid (fun w5 (g5 : Gr rb w2 w5) => (g5.block (lt_heap B8) (by omega)).trans B8)
  have HC7 := Lib.hid (fun w5 (g5 : Gr rb w2 w5) (j : Nat) => box_cell (HB7.out w5 g5) j)
  have HF7 := Lib.hid (fun w5 (g5 : Gr rb w2 w5) (j : Nat) => box_frozen (HB7.out w5 g5) j)
  go_upto_region 3 with (go_at_call 71; ((with_reducible refine (HBB.out _ i1 h2 hd1).mono ?_); rintro e2 w5 ⟨⟨vv, rfl, hv5⟩, ⟨i5, h5, hd5⟩, g5⟩; obtain ⟨Al, cl, el, _⟩ := id hv5; subst el; have c4 := HC7.out w5 g5 4; have f4 := HF7.out w5 g5 4; simp only [List.getElem?_toArray, List.getElem?_cons_succ, List.getElem?_cons_zero] at c4))
  have z5 := g5.size
  have hl7 := lt_heap (HB7.out w5 g5)
  have hl8 := lt_heap (HB8.out w5 g5)
  have h6 := h5.set (b := n3) (j := 4) (.slice Al (smSS l).len cl) (by omega) (by omega)
  have g6 := (g2.trans g5).setNew (j := 4) (.slice Al (smSS l).len cl) (show W.heap.size ≤ n3 by omega)
  have B7 := (set6_at (x := .slice Al (smSS l).len cl) (HB7.out w5 g5)).2.2.2.1
  have B8 := (Below.heap_setCell w5 ⟨n3, 4, none⟩ (.slice Al (smSS l).len cl) W.heap.size (show W.heap.size ≠ n3 by omega)).trans (HB8.out w5 g5)
  have HK := Lib.hid (fun k (hk : k ≠ n3) => Below.heap_setCell w5 ⟨n3, 4, none⟩ (.slice Al (smSS l).len cl) k hk)
  have zz : (w5.setCell ⟨n3, 4, none⟩ (.slice Al (smSS l).len cl)).heap.size = w5.heap.size := by simp
  obtain ⟨w6, hw6⟩ : ∃ W1, (w5.setCell ⟨n3, 4, none⟩ (.slice Al (smSS l).len cl)) = W1 := ⟨_, rfl⟩
  rw [hw6] at h6 g6 B7 B8 HK zz ⊢
  clear hw6
  clear c4 f4 HB7 HB8 HC7 HF7
  have hK1 := Lib.hid (show Kp w0.heap.size w1 w6 from ⟨by omega, fun k hk hl => (HK.out k (by omega)).trans ((g5.block (by omega) (by omega)).trans (HA.out k (by omega)))⟩)
  have hK5 := Lib.hid (show Kp w2.heap.size w5 w6 from ⟨by omega, fun k hk hl => HK.out k (by omega)⟩)
  clear HK HA
  have zz6 := zz
  clear zz
  go_upto_region 4 with (go_at_call 75; ((with_reducible refine (HT.out _ i5 h6 hd5).mono ?_); rintro e2 w7 ⟨rfl, h7, g7⟩))
  have hd7 : T.drop (i5 + 1) = r.tail := by rw [← hd5, drop_tail]
  have z7 := g7.size
  have HB7 := Lib.hid (fun w8 (g8 : Gr rb w7 w8) => (g8.block (by have := lt_heap B7; omega) (by omega)).trans ((g7.block (lt_heap B7) (by omega)).trans B7))
  have HB8 := Lib.hid (fun w8 (g8 : Gr rb w7 w8) => (g8.block (by have := lt_heap B8; omega) (by omega)).trans ((g7.block (lt_heap B8) (by omega)).trans B8))
  have HC7 := Lib.hid (fun w8 (g8 : Gr rb w7 w8) (j : Nat) => box_cell (HB7.out w8 g8) j)
  have HF7 := Lib.hid (fun w8 (g8 : Gr rb w7 w8) (j : Nat) => box_frozen (HB7.out w8 g8) j)
  go_upto_region 5 with (go_at_call 71; ((with_reducible refine (HBB2.out _ (i5 + 1) h7 hd7).mono ?_); rintro e2 w8 ⟨⟨vv, rfl, hv8⟩, ⟨i8, h8, hd8⟩, g8⟩; obtain ⟨Am, cm, el, _⟩ := id hv8; subst el; have c5 := HC7.out w8 g8 5; have f5 := HF7.out w8 g8 5; simp only [List.getElem?_toArray, List.getElem?_cons_succ, List.getElem?_cons_zero] at c5))
  have z8 := g8.size
  have hl7 := lt_heap B7
  have hl8 := lt_heap B8
  have h9 := h8.set (b := n3) (j := 5) (.slice Am (smSS l2).len cm) (by omega) (by omega)
  have g9 := (g6.trans (g7.trans g8)).setNew (j := 5) (.slice Am (smSS l2).len cm) (show W.heap.size ≤ n3 by omega)
  have B7 := (set6_at (x := .slice Am (smSS l2).len cm) (HB7.out w8 g8)).2.2.2.2
  have B8 := (Below.heap_setCell w8 ⟨n3, 5, none⟩ (.slice Am (smSS l2).len cm) W.heap.size (show W.heap.size ≠ n3 by omega)).trans (HB8.out w8 g8)
  have HK := Lib.hid (fun k (hk : k ≠ n3) => Below.heap_setCell w8 ⟨n3, 5, none⟩ (.slice Am (smSS l2).len cm) k hk)
  have zz : (w8.setCell ⟨n3, 5, none⟩ (.slice Am (smSS l2).len cm)).heap.size = w8.heap.size := by simp
  obtain ⟨w9, hw6⟩ : ∃ W1, (w8.setCell ⟨n3, 5, none⟩ (.slice Am (smSS l2).len cm)) = W1 := ⟨_, rfl⟩
  rw [hw6] at h9 g9 B7 B8 HK zz ⊢
  clear hw6
  clear c5 f5
  have g78 := g7.trans g8
  have hK9 : ∀ k, W.heap.size < k → k < w6.heap.size → k ≠ n3 → w9.heap[k]? = w6.heap[k]? := fun k h1 h2 h3 => (HK.out k h3).trans (g78.block h2 (by omega))
  have hL := hvl.kp (lo' := w0.heap.size) (W' := w9) ⟨by omega, fun k hk hl => (hK9 k (by omega) (by omega) (by omega)).trans (hK1.out.block k hk hl)⟩ (Nat.le_refl _)
  have hX := hv5.kp (lo' := w0.heap.size) (W' := w9) ⟨by omega, fun k hk hl => (hK9 k (by omega) (by omega) (by omega)).trans (hK5.out.block k hk hl)⟩ (by omega)
  have hY := hv8.kp (lo' := w0.heap.size) (W' := w9) ⟨by omega, fun k hk hl => HK.out k (by omega)⟩ (by omega)
  have c0 := box_cell B8 0
  have f0 := box_frozen B8 0
  have d0 := box_cell B7 0
  have c1 := box_cell B8 1
  have f1 := box_frozen B8 1
  have d1 := box_cell B7 1
  have c2 := box_cell B8 2
  have f2 := box_frozen B8 2
  have d2 := box_cell B7 2
  have c3 := box_cell B8 3
  have f3 := box_frozen B8 3
  have d3 := box_cell B7 3
  have c4 := box_cell B8 4
  have f4 := box_frozen B8 4
  have d4 := box_cell B7 4
  have c5 := box_cell B8 5
  have f5 := box_frozen B8 5
  have d5 := box_cell B7 5
  simp only [List.getElem?_toArray, List.getElem?_cons_succ, List.getElem?_cons_zero] at c0 d0 c1 d1 c2 d2 c3 d3 c4 d4 c5 d5
  have hP := put6_heap (a := .int .i64 t.op) (b := .string t.s) (c := .int .i64 t.n) (d := .slice A1 t.l.len k1) (x := .slice Al (smSS l).len cl) (y := .slice Am (smSS l2).len cm) B8
  have hfin : TP rb g N cT o T W (.ok ⟨t.op, t.s, t.n, t.l, smSS l, smSS l2⟩ r2) (.returned (.agg #[.int .i64 t.op, .string t.s, .int .i64 t.n, .slice A1 t.l.len k1, .slice Al (smSS l).len cl, .slice Am (smSS l2).len cm])) (Proofs.YtaajolemjgdfnaaDoor.put6 w9 W.heap.size (.int .i64 t.op) (.string t.s) (.int .i64 t.n) (.slice A1 t.l.len k1) (.slice Al (smSS l).len cl) (.slice Am (smSS l2).len cm)) :=
    ⟨⟨_, rfl, _, _, _, rfl, hL.kp (Kp.put6 (by omega)) (by omega), hX.kp (Kp.put6 (by omega)) (by omega), hY.kp (Kp.put6 (by omega)) (by omega), hok⟩, ⟨i8, h9.put6 (by omega) (by omega), hd8⟩, g9.put6 (Nat.le_refl _)⟩
  go_wp2
  obtain ⟨wz, hwz⟩ : ∃ W5, (Proofs.YtaajolemjgdfnaaDoor.put6 w9 W.heap.size (.int .i64 t.op) (.string t.s) (.int .i64 t.n) (.slice A1 t.l.len k1) (.slice Al (smSS l).len cl) (.slice Am (smSS l2).len cm)) = W5 := ⟨_, rfl⟩
  show bodyPost _ _ _ _ _ (Proofs.YtaajolemjgdfnaaDoor.put6 w9 W.heap.size (.int .i64 t.op) (.string t.s) (.int .i64 t.n) (.slice A1 t.l.len k1) (.slice Al (smSS l).len cl) (.slice Am (smSS l2).len cm))
  rw [hwz] at hP hfin ⊢
  have p0 := box_cell hP 0
  have p1 := box_cell hP 1
  have p2 := box_cell hP 2
  have p3 := box_cell hP 3
  have p4 := box_cell hP 4
  have p5 := box_cell hP 5
  simp only [List.getElem?_toArray, List.getElem?_cons_succ, List.getElem?_cons_zero] at p0 p1 p2 p3 p4 p5
  exact bodyPost_ret (v := .agg #[.int .i64 t.op, .string t.s, .int .i64 t.n, .slice A1 t.l.len k1, .slice Al (smSS l).len cl, .slice Am (smSS l2).len cm]) (by simp [results, Tryd.results80, go_sem, p0, p1, p2, p3, p4, p5]) rfl hfin


end Go.Proofs.YtaajolemjgdfnaaDoor

/-
  Package parse: what begins with a name (store).
-/
namespace Go.Proofs.YtaajolemjgdfnaaDoor
open Go Go.RowKit Go.Lib

/-- append in a region that draws its order. -/
theorem oper_append_at {P : Program} {w : World} {ops : Array Oper} {o : Oper} {a : Act} {Q : Exit → Act → World → Prop} {K : Act → World → Prop} (hwa : Region.wanted o (yielded ops a.tmps) = true) (s x : Operand) (t : TypeId)
    (ho : o.op = .call { callee := .builtin .append, args := #[s, x], argTypes := #[t, t] })
    (base : Nat) (e : TypeId) (i : TypeInfo) (z : Value) (size bytes : Nat) (ht : P.underlying t = some (.slice e)) (hi : P.info? e = some i) (hz : i.zero = some z)
    (hsize : i.size = size) (hby : i.bytes = bytes) (hzs : z.cells.size = size) (hsz : 0 < size)
    (v : Value) (n : Nat) (xs : List Value) (hs : a.eval s = v) (hown : w.ownsRow base e size v n xs)
    (ad : Addr) (m c : Nat) (news : List Value) (hx : a.eval x = .slice (some ad) m c) (hl : news.length = m * size) (hnews : ∀ j u, news[j]? = some u → w.cell? (ad.add j) = some u) (h1 : ∀ u ∈ news, u.oneCell' = true)
    (h63 : n + m ≤ maxLen) (hbytes : (n + m) * bytes ≤ 140737488355328) (hbase : base ≤ w.heap.size)
    (h : ∀ v' w', w'.ownsRow base e size v' (n + m) (xs ++ news) → w.grownBy w' v.ownBlock → (v' = .slice none 0 0 ↔ v = .slice none 0 0 ∧ m = 0) → (∀ k, v'.ownBlock = some k → v.ownBlock = some k ∨ w.heap.size ≤ k) → K (a.put o.dst v') w') :
    if Region.wanted o (yielded ops a.tmps) = true then Oper.wp P o a w K Q else K (a.put o.dst undef) w := by
  rw [if_pos hwa]
  obtain ⟨v', w', hr, h2, h3, h4, h5⟩ := append_at (P := P) w base t o.type e i z size bytes ht hi hz hsize hby hzs hsz v n xs hown ad m c news hl hnews h1 h63 hbytes hbase
  unfold Oper.wp execOp
  simp only [ho, resolve, invoke, builtin, Sem.run_bind, Sem.run_pure, Result.andThen_ok, List.map_toArray, List.map_cons, List.map_nil, hs, hx, hr]
  exact h v' w' h2 h3 h4 h5

/-- A world's first blocks alone. -/
def low (L : Nat) (W : World) : World := { W with heap := W.heap.extract 0 L }
theorem low_size {L : Nat} {W : World} (h : L ≤ W.heap.size) : (low L W).heap.size = L := by simp [low]; omega
theorem low_block {L k : Nat} {W : World} (h : L ≤ W.heap.size) (hk : k < L) : (low L W).heap[k]? = W.heap[k]? := by
  unfold low
  rw [Array.getElem?_extract, if_pos (by omega), Nat.zero_add]
theorem gr_low {L rb : Nat} {W : World} (h : L ≤ W.heap.size) : Gr rb (low L W) W := ⟨rfl, rfl, rfl, by rw [low_size h]; exact h, fun k hk _ => (low_block h (by rw [low_size h] at hk; exact hk)).symm⟩
theorem Gr.low {L rb : Nat} {W wr w4 : World} (h : L ≤ wr.heap.size) (hG : Gr rb W wr) (hW : W.heap.size ≤ L) (h4 : Gr rb (Proofs.YtaajolemjgdfnaaDoor.low L wr) w4) : Gr rb W w4 :=
  ⟨(by have e1 := World.grownBy.os h4; have e2 := World.grownBy.os hG; exact e1.trans e2), (by have e1 := World.grownBy.tape h4; have e2 := World.grownBy.tape hG; exact e1.trans e2), (by have e1 := World.grownBy.output h4; have e2 := World.grownBy.output hG; exact e1.trans e2), Nat.le_trans hW (by have := h4.size; rw [low_size h] at this; exact this),
    fun k hk hne => ((World.grownBy.block h4 k (by rw [low_size h]; omega) hne).trans (low_block h (by omega))).trans (World.grownBy.block hG k hk hne)⟩
/-- One more expression behind a row from block L on. -/
theorem sv_low {wr w3 w4 : World} {O : Obj} {rb g N cT i o c n L : Nat} {T : List Tok} {E : TypeId} {l : List Ex} {e : Ex} {cs : List Value} {vv v1 : Value} {Al : Option Addr}
    (hL : L ≤ wr.heap.size) (hown : wr.ownsRow L E 4 vv n cs) (hx : xCs (rowp L vv) wr l cs) (g3 : Gr rb wr w3) (hv : EX wr.heap.size w3 (.slice Al e.l.len c) e.l) (hok : okE e) (h3 : Rd w3 rb g N cT T i o)
    (hgrow : (w3.alloc O).grownBy w4 vv.ownBlock) (hat : ∀ k, v1.ownBlock = some k → vv.ownBlock = some k ∨ (w3.alloc O).heap.size ≤ k) (hrl : rb < L) (hgl : g < L) :
    Rd w4 rb g N cT T i o ∧ (∀ W, Gr rb W wr → W.heap.size ≤ L → Gr rb W w4) ∧ (∀ k, k < L → k ≠ rb → w4.heap[k]? = wr.heap[k]?) ∧ wr.heap.size ≤ w4.heap.size ∧ xCs (rowp L v1) w4 (l ++ [e]) (cs ++ news e Al c) := by
  have hs := low_size hL
  obtain ⟨a, b, d⟩ := sv_step (W := low L wr) (gr_low hL) (by rw [hs]; exact hown) (by rw [hs]; exact hx) g3 hv hok h3 hgrow hat (by rw [hs]; exact hrl) (by rw [hs]; exact hgl)
  rw [hs] at d
  exact ⟨a, fun W hG hW => Gr.low hL hG hW b, fun k hk hne => (b.block (by rw [hs]; exact hk) hne).trans (low_block hL hk), by have := g3.size; have := World.grownBy.size hgrow; simp at this; omega, d⟩
theorem own_slice {W : World} {base n size : Nat} {e : TypeId} {v : Value} {cs : List Value} (h : W.ownsRow base e size v n cs) : ∃ A cap, v = .slice A n cap := by
  rcases h.2 with ⟨rfl, h0⟩ | ⟨g, cap, cur, rfl, _⟩
  · subst h0
    exact ⟨_, _, rfl⟩
  · exact ⟨_, _, rfl⟩

set_option maxRecDepth 100000 in
theorem store_name {W : World} {rb g N cT i o : Nat} {T : List Tok} (h : Rd W rb g N cT T i o) (p c : Nat) (hv : nameT (T.drop i) = .bad p c) :
    Calls Tryd.prog 82 #[.pointer (some ⟨rb, 0, none⟩)] W (TP rb g N cT o T W (.bad p c)) := by
  have HSS := Lib.hid (fun W1 (h1 : Rd W1 rb g N cT T i o) => (show Calls Tryd.prog 69 #[.pointer (some ⟨rb, 0, none⟩)] W1 (NP rb g N cT o T W1 (.bad p c)) from hv ▸ nam_any h1))
  have HR := Lib.hid h
  clear h hv
  go_enter Tryd.func82, Tryd.ntmps82
  go_wp2_with (go_at_call 69; ((with_reducible refine (HSS.out _ (HR.out.alloc _)).mono ?_); rintro e w2 ⟨rfl, g2⟩))
  exact ⟨rfl, rfl, ((Gr.refl rb W).alloc _).trans g2⟩

set_option maxRecDepth 100000 in
theorem store_B1 {W : World} {rb g N cT i o : Nat} {T : List Tok} (h : Rd W rb g N cT T i o) (s : ByteArray) (r1 : List Tok) (hv : nameT (T.drop i) = .ok s r1) (b1 : isT r1 [91] = false) (b2 : isT r1 [61] = false) :
    Calls Tryd.prog 82 #[.pointer (some ⟨rb, 0, none⟩)] W (TP rb g N cT o T W (.bad (hdT r1).at_ 2)) := by
  have HSS := Lib.hid (fun W1 (h1 : Rd W1 rb g N cT T i o) => (show Calls Tryd.prog 69 #[.pointer (some ⟨rb, 0, none⟩)] W1 (NP rb g N cT o T W1 (.ok s r1)) from hv ▸ nam_any h1))
  have HI := Lib.hid (fun w2 i2 (h2 : Rd w2 rb g N cT T i2 o) (hd : T.drop i2 = r1) => (show Calls Tryd.prog 53 #[.pointer (some ⟨rb, 0, none⟩), .string ⟨#[91]⟩] w2 (fun e w' => e = .returned (.bool false) ∧ Below w2.heap.size w2 w') from is_any h2 [91] false (by rw [hd]; exact b1)))
  have HW := Lib.hid (fun w2 i2 (h2 : Rd w2 rb g N cT T i2 o) (hd : T.drop i2 = r1) => (show Calls Tryd.prog 68 #[.pointer (some ⟨rb, 0, none⟩), .string ⟨#[61]⟩] w2 (fun e w' => e = flt (hdT r1).at_ 2 ∧ Below w2.heap.size w2 w') from want_no h2 [61] (by rw [hd]; exact b2) _ (by rw [hd])))
  have hrl := h.rlt
  have hgl := h.tok.1
  have h0 := h.alloc (.cells #[.int .i64 0, .string ⟨#[]⟩, .int .i64 0, .slice none 0 0, .slice none 0 0, .slice none 0 0] 45)
  have B6 := heap_alloc_new W (.cells #[.int .i64 0, .string ⟨#[]⟩, .int .i64 0, .slice none 0 0, .slice none 0 0, .slice none 0 0] 45)
  have g0 := (Gr.refl rb W).alloc (.cells #[.int .i64 0, .string ⟨#[]⟩, .int .i64 0, .slice none 0 0, .slice none 0 0, .slice none 0 0] 45)
  have z0 : (W.alloc (.cells #[.int .i64 0, .string ⟨#[]⟩, .int .i64 0, .slice none 0 0, .slice none 0 0, .slice none 0 0] 45)).heap.size = W.heap.size + 1 := by simp
  clear h hv b1 b2
  go_enter Tryd.func82, Tryd.ntmps82
  go_upto_region 1 with fail
  obtain ⟨w0, hw0⟩ : ∃ W1, W.alloc (.cells #[.int .i64 0, .string ⟨#[]⟩, .int .i64 0, .slice none 0 0, .slice none 0 0, .slice none 0 0] 45) = W1 := ⟨_, rfl⟩
  rw [hw0] at h0 B6 g0 z0 ⊢
  clear hw0
  go_upto_region 2 with (go_at_call 69; ((with_reducible refine (HSS.out _ h0).mono ?_); rintro e1 w1 ⟨rfl, ⟨i1, h1, hd1⟩, g1, hsz⟩))
  have z1 := g1.size
  have h2 := h1.alloc (.cells #[.int .i64 1, .string s, .int .i64 0, .slice none 0 0, .slice none 0 0, .slice none 0 0] 45)
  have B7 := heap_alloc_new w1 (.cells #[.int .i64 1, .string s, .int .i64 0, .slice none 0 0, .slice none 0 0, .slice none 0 0] 45)
  have g2 := (g0.trans g1).alloc (.cells #[.int .i64 1, .string s, .int .i64 0, .slice none 0 0, .slice none 0 0, .slice none 0 0] 45)
  have z2 : (w1.alloc (.cells #[.int .i64 1, .string s, .int .i64 0, .slice none 0 0, .slice none 0 0, .slice none 0 0] 45)).heap.size = w1.heap.size + 1 := by simp
  have HA := Lib.hid (fun k hk => Below.heap_alloc w1 (.cells #[.int .i64 1, .string s, .int .i64 0, .slice none 0 0, .slice none 0 0, .slice none 0 0] 45) k hk)
  have B8 := (Below.heap_alloc w1 (.cells #[.int .i64 1, .string s, .int .i64 0, .slice none 0 0, .slice none 0 0, .slice none 0 0] 45) W.heap.size (by omega)).trans ((g1.block (k := W.heap.size) (by omega) (by omega)).trans B6)
  obtain ⟨w2, hw2⟩ : ∃ W1, w1.alloc (.cells #[.int .i64 1, .string s, .int .i64 0, .slice none 0 0, .slice none 0 0, .slice none 0 0] 45) = W1 := ⟨_, rfl⟩
  rw [hw2] at h2 B7 g2 HA B8 z2 ⊢
  clear hw2
  obtain ⟨n3, hn3⟩ : ∃ n3, w1.heap.size = n3 := ⟨_, rfl⟩
  rw [hn3] at B7 z2 z1 HA ⊢
  go_wp2_with (first
    | (go_at_call 53; ((with_reducible refine (HI.out _ i1 h2 hd1).mono ?_); rintro e2 w3 ⟨rfl, e3⟩; have h3 := h2.below e3))
    | (go_at_call 68; ((with_reducible refine (HW.out _ i1 h3 hd1).mono ?_); rintro e2 w4 ⟨rfl, e4⟩)))
  exact ⟨rfl, rfl, g2.trans ((Gr.of e3).trans (Gr.of e4))⟩

set_option maxRecDepth 100000 in
theorem store_B2 {W : World} {rb g N cT i o : Nat} {T : List Tok} (h : Rd W rb g N cT T i o) (s : ByteArray) (r1 : List Tok) (hv : nameT (T.drop i) = .ok s r1) (b1 : isT r1 [91] = false) (b2 : isT r1 [61] = true) (p c : Nat)
    (HE : ∀ W2 i', Rd W2 rb g N cT T i' o → T.drop i' = r1.tail → Calls Tryd.prog 85 #[.pointer (some ⟨rb, 0, none⟩)] W2 (XP rb g N cT o T W2 (.bad p c))) :
    Calls Tryd.prog 82 #[.pointer (some ⟨rb, 0, none⟩)] W (TP rb g N cT o T W (.bad p c)) := by
  have HSS := Lib.hid (fun W1 (h1 : Rd W1 rb g N cT T i o) => (show Calls Tryd.prog 69 #[.pointer (some ⟨rb, 0, none⟩)] W1 (NP rb g N cT o T W1 (.ok s r1)) from hv ▸ nam_any h1))
  have HI := Lib.hid (fun w2 i2 (h2 : Rd w2 rb g N cT T i2 o) (hd : T.drop i2 = r1) => (show Calls Tryd.prog 53 #[.pointer (some ⟨rb, 0, none⟩), .string ⟨#[91]⟩] w2 (fun e w' => e = .returned (.bool false) ∧ Below w2.heap.size w2 w') from is_any h2 [91] false (by rw [hd]; exact b1)))
  have HW := Lib.hid (fun w2 i2 (h2 : Rd w2 rb g N cT T i2 o) (hd : T.drop i2 = r1) => (show Calls Tryd.prog 68 #[.pointer (some ⟨rb, 0, none⟩), .string ⟨#[61]⟩] w2 (fun e w' => e = .returned (.tuple #[]) ∧ Rd w' rb g N cT T (i2 + 1) o ∧ Gr rb w2 w') from want_yes h2 [61] (by decide) (by rw [hd]; exact b2)))
  have HEE := Lib.hid HE
  have hrl := h.rlt
  have hgl := h.tok.1
  have h0 := h.alloc (.cells #[.int .i64 0, .string ⟨#[]⟩, .int .i64 0, .slice none 0 0, .slice none 0 0, .slice none 0 0] 45)
  have B6 := heap_alloc_new W (.cells #[.int .i64 0, .string ⟨#[]⟩, .int .i64 0, .slice none 0 0, .slice none 0 0, .slice none 0 0] 45)
  have g0 := (Gr.refl rb W).alloc (.cells #[.int .i64 0, .string ⟨#[]⟩, .int .i64 0, .slice none 0 0, .slice none 0 0, .slice none 0 0] 45)
  have z0 : (W.alloc (.cells #[.int .i64 0, .string ⟨#[]⟩, .int .i64 0, .slice none 0 0, .slice none 0 0, .slice none 0 0] 45)).heap.size = W.heap.size + 1 := by simp
  clear h hv b1 b2 HE
  go_enter Tryd.func82, Tryd.ntmps82
  go_upto_region 1 with fail
  obtain ⟨w0, hw0⟩ : ∃ W1, W.alloc (.cells #[.int .i64 0, .string ⟨#[]⟩, .int .i64 0, .slice none 0 0, .slice none 0 0, .slice none 0 0] 45) = W1 := ⟨_, rfl⟩
  rw [hw0] at h0 B6 g0 z0 ⊢
  clear hw0
  go_upto_region 2 with (go_at_call 69; ((with_reducible refine (HSS.out _ h0).mono ?_); rintro e1 w1 ⟨rfl, ⟨i1, h1, hd1⟩, g1, hsz⟩))
  have z1 := g1.size
  have h2 := h1.alloc (.cells #[.int .i64 1, .string s, .int .i64 0, .slice none 0 0, .slice none 0 0, .slice none 0 0] 45)
  have B7 := heap_alloc_new w1 (.cells #[.int .i64 1, .string s, .int .i64 0, .slice none 0 0, .slice none 0 0, .slice none 0 0] 45)
  have g2 := (g0.trans g1).alloc (.cells #[.int .i64 1, .string s, .int .i64 0, .slice none 0 0, .slice none 0 0, .slice none 0 0] 45)
  have z2 : (w1.alloc (.cells #[.int .i64 1, .string s, .int .i64 0, .slice none 0 0, .slice none 0 0, .slice none 0 0] 45)).heap.size = w1.heap.size + 1 := by simp
  have HA := Lib.hid (fun k hk => Below.heap_alloc w1 (.cells #[.int .i64 1, .string s, .int .i64 0, .slice none 0 0, .slice none 0 0, .slice none 0 0] 45) k hk)
  have B8 := (Below.heap_alloc w1 (.cells #[.int .i64 1, .string s, .int .i64 0, .slice none 0 0, .slice none 0 0, .slice none 0 0] 45) W.heap.size (by omega)).trans ((g1.block (k := W.heap.size) (by omega) (by omega)).trans B6)
  obtain ⟨w2, hw2⟩ : ∃ W1, w1.alloc (.cells #[.int .i64 1, .string s, .int .i64 0, .slice none 0 0, .slice none 0 0, .slice none 0 0] 45) = W1 := ⟨_, rfl⟩
  rw [hw2] at h2 B7 g2 HA B8 z2 ⊢
  clear hw2
  obtain ⟨n3, hn3⟩ : ∃ n3, w1.heap.size = n3 := ⟨_, rfl⟩
  rw [hn3] at B7 z2 z1 HA ⊢
  have HB7 := Lib.hid (fun w5 (g5 : Gr rb w2 w5) => (g5.block (lt_heap B7) (by omega)).trans B7)
  have HB8 := Lib.hid (fun w5 (g5 : Gr rb w2 w5) => (g5.block (lt_heap B8) (by omega)).trans B8)
  have HC7 := Lib.hid (fun w5 (g5 : Gr rb w2 w5) (j : Nat) => box_cell (HB7.out w5 g5) j)
  have HF7 := Lib.hid (fun w5 (g5 : Gr rb w2 w5) (j : Nat) => box_frozen (HB7.out w5 g5) j)
  go_upto_region 6 with (first
    | (go_at_call 53; ((with_reducible refine (HI.out _ i1 h2 hd1).mono ?_); rintro e2 w3 ⟨rfl, e3⟩; have h3 := h2.below e3))
    | (go_at_call 68; ((with_reducible refine (HW.out _ i1 h3 hd1).mono ?_); rintro e2 w4 ⟨rfl, h4, g4⟩)))
  have g24 := (Gr.of e3).trans g4
  have gA := g2.trans g24
  have hd4 : T.drop (i1 + 1) = r1.tail := by rw [← hd1, drop_tail]
  have B7 := HB7.out w4 g24
  have B8 := HB8.out w4 g24
  have c3 := HC7.out w4 g24 3
  simp only [List.getElem?_toArray, List.getElem?_cons_succ, List.getElem?_cons_zero] at c3
  have z4 := g24.size
  clear HB7 HB8 HC7 HF7 e3 g4 h3 h2 HA g24
  have hS : w4.drew.cell? ⟨n3, 3, none⟩ = some (.slice none 0 0) := c3
  refine wp_region_late (fun w' => w'.cell? ⟨n3, 3, none⟩ = some (.slice none 0 0)) 7 (by kernel_rfl) ?_
  refine AnyL.take 0 (.pointer (some ⟨n3, 3, none⟩)) rfl (by kernel_rfl) (by kernel_rfl) (by kernel_rfl) (by kernel_rfl) (fun _ _ _ h => h) (Or.inl ⟨by rfl, ?_⟩) (by assumption) ?_
  · intro W' hSw
    go_simp
  try simp only [Act.put, List.getElem_toArray, List.getElem_cons_zero, List.setIfInBounds_toArray, List.set_cons_zero, List.set_cons_succ]
  refine AnyL.take 1 (.slice none 0 0) rfl (by kernel_rfl) (by kernel_rfl) (by kernel_rfl) (by kernel_rfl) (fun _ _ _ h => h) (Or.inl ⟨by rfl, ?_⟩) (by assumption) ?_
  · intro W' hSw
    go_simp
  try simp only [Act.put, List.getElem_toArray, List.getElem_cons_zero, List.getElem_cons_succ, List.setIfInBounds_toArray, List.set_cons_zero, List.set_cons_succ]
  refine AnyL.take 2 (.pointer (some ⟨rb, 0, none⟩)) rfl (by kernel_rfl) (by kernel_rfl) (by kernel_rfl) (by kernel_rfl) (fun _ _ _ h => h) (Or.inl ⟨by rfl, ?_⟩) (by assumption) ?_
  · intro W' hSw
    go_simp
  try simp only [Act.put, List.getElem_toArray, List.getElem_cons_zero, List.getElem_cons_succ, List.setIfInBounds_toArray, List.set_cons_zero, List.set_cons_succ]
  refine AnyL.next 3 (by kernel_rfl) rfl (fun K hK => ?_)
  go_simp
  go_at_call 85
  refine (HEE.out _ (i1 + 1) h4.drew hd4).mono ?_
  rintro e2 w6 ⟨rfl, g6⟩
  go_wp2_with fail
  exact ⟨rfl, rfl, gA.trans ((Gr.drew (Gr.refl rb w4)).trans g6)⟩

set_option maxRecDepth 100000 in
theorem store_B3 {W : World} {rb g N cT i o : Nat} {T : List Tok} (h : Rd W rb g N cT T i o) (s : ByteArray) (r1 : List Tok) (hv : nameT (T.drop i) = .ok s r1) (b1 : isT r1 [91] = false) (b2 : isT r1 [61] = true) (v : Ex) (r3 : List Tok)
    (HE : ∀ W2 i', Rd W2 rb g N cT T i' o → T.drop i' = r1.tail → Calls Tryd.prog 85 #[.pointer (some ⟨rb, 0, none⟩)] W2 (XP rb g N cT o T W2 (.ok v r3))) :
    Calls Tryd.prog 82 #[.pointer (some ⟨rb, 0, none⟩)] W (TP rb g N cT o T W (.ok ⟨1, s, 0, toES v .nil, .nil, .nil⟩ r3)) := by
  have HSS := Lib.hid (fun W1 (h1 : Rd W1 rb g N cT T i o) => (show Calls Tryd.prog 69 #[.pointer (some ⟨rb, 0, none⟩)] W1 (NP rb g N cT o T W1 (.ok s r1)) from hv ▸ nam_any h1))
  have HI := Lib.hid (fun w2 i2 (h2 : Rd w2 rb g N cT T i2 o) (hd : T.drop i2 = r1) => (show Calls Tryd.prog 53 #[.pointer (some ⟨rb, 0, none⟩), .string ⟨#[91]⟩] w2 (fun e w' => e = .returned (.bool false) ∧ Below w2.heap.size w2 w') from is_any h2 [91] false (by rw [hd]; exact b1)))
  have HW := Lib.hid (fun w2 i2 (h2 : Rd w2 rb g N cT T i2 o) (hd : T.drop i2 = r1) => (show Calls Tryd.prog 68 #[.pointer (some ⟨rb, 0, none⟩), .string ⟨#[61]⟩] w2 (fun e w' => e = .returned (.tuple #[]) ∧ Rd w' rb g N cT T (i2 + 1) o ∧ Gr rb w2 w') from want_yes h2 [61] (by decide) (by rw [hd]; exact b2)))
  have HEE := Lib.hid HE
  obtain ⟨i0, hi, hz0, hz1, hz2⟩ := info_parts exInfo
  have hrl := h.rlt
  have hgl := h.tok.1
  have h0 := h.alloc (.cells #[.int .i64 0, .string ⟨#[]⟩, .int .i64 0, .slice none 0 0, .slice none 0 0, .slice none 0 0] 45)
  have B6 := heap_alloc_new W (.cells #[.int .i64 0, .string ⟨#[]⟩, .int .i64 0, .slice none 0 0, .slice none 0 0, .slice none 0 0] 45)
  have g0 := (Gr.refl rb W).alloc (.cells #[.int .i64 0, .string ⟨#[]⟩, .int .i64 0, .slice none 0 0, .slice none 0 0, .slice none 0 0] 45)
  have z0 : (W.alloc (.cells #[.int .i64 0, .string ⟨#[]⟩, .int .i64 0, .slice none 0 0, .slice none 0 0, .slice none 0 0] 45)).heap.size = W.heap.size + 1 := by simp
  clear h hv b1 b2 HE
  go_enter Tryd.func82, Tryd.ntmps82
  go_upto_region 1 with fail
  obtain ⟨w0, hw0⟩ : ∃ W1, W.alloc (.cells #[.int .i64 0, .string ⟨#[]⟩, .int .i64 0, .slice none 0 0, .slice none 0 0, .slice none 0 0] 45) = W1 := ⟨_, rfl⟩
  rw [hw0] at h0 B6 g0 z0 ⊢
  clear hw0
  go_upto_region 2 with (go_at_call 69; ((with_reducible refine (HSS.out _ h0).mono ?_); rintro e1 w1 ⟨rfl, ⟨i1, h1, hd1⟩, g1, hsz⟩))
  have z1 := g1.size
  have h2 := h1.alloc (.cells #[.int .i64 1, .string s, .int .i64 0, .slice none 0 0, .slice none 0 0, .slice none 0 0] 45)
  have B7 := heap_alloc_new w1 (.cells #[.int .i64 1, .string s, .int .i64 0, .slice none 0 0, .slice none 0 0, .slice none 0 0] 45)
  have g2 := (g0.trans g1).alloc (.cells #[.int .i64 1, .string s, .int .i64 0, .slice none 0 0, .slice none 0 0, .slice none 0 0] 45)
  have z2 : (w1.alloc (.cells #[.int .i64 1, .string s, .int .i64 0, .slice none 0 0, .slice none 0 0, .slice none 0 0] 45)).heap.size = w1.heap.size + 1 := by simp
  have HA := Lib.hid (fun k hk => Below.heap_alloc w1 (.cells #[.int .i64 1, .string s, .int .i64 0, .slice none 0 0, .slice none 0 0, .slice none 0 0] 45) k hk)
  have B8 := (Below.heap_alloc w1 (.cells #[.int .i64 1, .string s, .int .i64 0, .slice none 0 0, .slice none 0 0, .slice none 0 0] 45) W.heap.size (by omega)).trans ((g1.block (k := W.heap.size) (by omega) (by omega)).trans B6)
  obtain ⟨w2, hw2⟩ : ∃ W1, w1.alloc (.cells #[.int .i64 1, .string s, .int .i64 0, .slice none 0 0, .slice none 0 0, .slice none 0 0] 45) = W1 := ⟨_, rfl⟩
  rw [hw2] at h2 B7 g2 HA B8 z2 ⊢
  clear hw2
  obtain ⟨n3, hn3⟩ : ∃ n3, w1.heap.size = n3 := ⟨_, rfl⟩
  rw [hn3] at B7 z2 z1 HA ⊢
  have HB7 := Lib.hid (fun w5 (g5 : Gr rb w2 w5) => (g5.block (lt_heap B7) (by omega)).trans B7)
  have HB8 := Lib.hid (fun w5 (g5 : Gr rb w2 w5) => (g5.block (lt_heap B8) (by omega)).trans B8)
  have HC7 := Lib.hid (fun w5 (g5 : Gr rb w2 w5) (j : Nat) => box_cell (HB7.out w5 g5) j)
  have HF7 := Lib.hid (fun w5 (g5 : Gr rb w2 w5) (j : Nat) => box_frozen (HB7.out w5 g5) j)
  go_upto_region 6 with (first
    | (go_at_call 53; ((with_reducible refine (HI.out _ i1 h2 hd1).mono ?_); rintro e2 w3 ⟨rfl, e3⟩; have h3 := h2.below e3))
    | (go_at_call 68; ((with_reducible refine (HW.out _ i1 h3 hd1).mono ?_); rintro e2 w4 ⟨rfl, h4, g4⟩)))
  have g24 := (Gr.of e3).trans g4
  have gA := g2.trans g24
  have hd4 : T.drop (i1 + 1) = r1.tail := by rw [← hd1, drop_tail]
  have B7 := HB7.out w4 g24
  have B8 := HB8.out w4 g24
  have c3 := HC7.out w4 g24 3
  simp only [List.getElem?_toArray, List.getElem?_cons_succ, List.getElem?_cons_zero] at c3
  have z4 := g24.size
  clear HB7 HB8 HC7 HF7 e3 g4 h3 h2 HA g24
  have hne0 : (Value.slice none 0 0).ownBlock ≠ some rb := by simp [Value.ownBlock]
  have hl7 := lt_heap B7
  have hl8 := lt_heap B8
  have hS : w4.drew.cell? ⟨n3, 3, none⟩ = some (.slice none 0 0) := c3
  refine wp_region_late (fun w' => w'.cell? ⟨n3, 3, none⟩ = some (.slice none 0 0)) 7 (by kernel_rfl) ?_
  refine AnyL.take 0 (.pointer (some ⟨n3, 3, none⟩)) rfl (by kernel_rfl) (by kernel_rfl) (by kernel_rfl) (by kernel_rfl) (fun _ _ _ h => h) (Or.inl ⟨by rfl, ?_⟩) (by assumption) ?_
  · intro W' hSw
    go_simp
  try simp only [Act.put, List.getElem_toArray, List.getElem_cons_zero, List.setIfInBounds_toArray, List.set_cons_zero, List.set_cons_succ]
  refine AnyL.take 1 (.slice none 0 0) rfl (by kernel_rfl) (by kernel_rfl) (by kernel_rfl) (by kernel_rfl) (fun _ _ _ h => h) (Or.inl ⟨by rfl, ?_⟩) (by assumption) ?_
  · intro W' hSw
    go_simp
  try simp only [Act.put, List.getElem_toArray, List.getElem_cons_zero, List.getElem_cons_succ, List.setIfInBounds_toArray, List.set_cons_zero, List.set_cons_succ]
  refine AnyL.take 2 (.pointer (some ⟨rb, 0, none⟩)) rfl (by kernel_rfl) (by kernel_rfl) (by kernel_rfl) (by kernel_rfl) (fun _ _ _ h => h) (Or.inl ⟨by rfl, ?_⟩) (by assumption) ?_
  · intro W' hSw
    go_simp
  try simp only [Act.put, List.getElem_toArray, List.getElem_cons_zero, List.getElem_cons_succ, List.setIfInBounds_toArray, List.set_cons_zero, List.set_cons_succ]
  refine AnyL.next 3 (by kernel_rfl) rfl (fun K hK => ?_)
  go_simp
  go_at_call 85
  refine (HEE.out _ (i1 + 1) h4.drew hd4).mono ?_
  rintro e2 w6 ⟨⟨vv, rfl, vl, rfl, hve, hoke⟩, ⟨i6, h6, hd6⟩, g6⟩
  obtain ⟨Al, cl, el, _⟩ := id hve
  subst el
  go_wp2_with fail
  have B76 := (g6.block (k := n3) (lt_heap B7) (by omega)).trans B7
  have s6 : w6.cell? ⟨n3, 3, none⟩ = some (.slice none 0 0) := box_cell B76 3
  refine hK.out _ _ (fun _ => s6) ?_
  clear hK K
  try simp only [Act.put, List.getElem_toArray, List.getElem_cons_zero, List.getElem_cons_succ, List.setIfInBounds_toArray, List.set_cons_zero, List.set_cons_succ]
  refine AnyL.next 4 (by kernel_rfl) rfl (fun K hK => ?_)
  go_simp
  have s6a : (w6.alloc (.cells #[.int .i64 v.op, .int .i64 v.n, .string v.s, .slice Al v.l.len cl] 43)).cell? ⟨n3, 3, none⟩ = some (.slice none 0 0) := box_cell ((Below.heap_alloc w6 (.cells #[.int .i64 v.op, .int .i64 v.n, .string v.s, .slice Al v.l.len cl] 43) n3 (lt_heap B76)).trans B76) 3
  refine hK.out _ _ (fun _ => s6a) ?_
  clear hK K
  try simp only [Act.put, List.getElem_toArray, List.getElem_cons_zero, List.getElem_cons_succ, List.setIfInBounds_toArray, List.set_cons_zero, List.set_cons_succ]
  refine AnyL.next 5 (by kernel_rfl) rfl (fun K hK => ?_)
  have zw6 := g6.size
  have zw6' : w4.drew.heap.size = w4.heap.size := rfl
  refine oper_append_at (by rfl) (.tmp 20) (.tmp 23) 41 rfl w4.heap.size 43 i0 _ 4 56 Tryd.underlying41 hi hz0 hz1 hz2 rfl (by decide) (.slice none 0 0) 0 ([]) rfl (((World.ownsRow_nil w4 w4.heap.size 43 4).kept ((Gr.drew (Gr.refl rb w4)).trans g6) (.inr hne0)).alloc _) ⟨w6.heap.size, 0, none⟩ 1 1 (news v Al cl) rfl rfl (news_cells w6 v Al cl) (news_one v Al cl) (by unfold maxLen; omega) (by omega) (by simp; omega) ?_
  intro v7 w7 hown7 hgrow7 _ hat7
  obtain ⟨h7, G7, K7, z7, hx7⟩ := sv_low (l := []) (wr := w4.drew) (L := w4.heap.size) (by omega) ((World.ownsRow_nil w4 w4.heap.size 43 4).kept (Gr.drew (Gr.refl rb w4)) (.inr hne0)) rfl g6 hve hoke h6 hgrow7 hat7 (by omega) (by omega)
  obtain ⟨A7, c7, e7⟩ := own_slice hown7
  subst e7
  have B77 := (K7 n3 (by omega) (by omega)).trans (show w4.drew.heap[n3]? = _ from B7)
  have s7 : w7.cell? ⟨n3, 3, none⟩ = some (.slice none 0 0) := box_cell B77 3
  have f7 := box_frozen B77 3
  refine hK.out _ _ (fun _ => s7) ?_
  clear hK K s6 s6a
  try simp only [Act.put, List.getElem_toArray, List.getElem_cons_zero, List.getElem_cons_succ, List.setIfInBounds_toArray, List.set_cons_zero, List.set_cons_succ]
  refine AnyL.take 6 (.pointer (some ⟨n3, 3, none⟩)) rfl (by kernel_rfl) (by kernel_rfl) (by kernel_rfl) (by kernel_rfl) (fun _ _ _ h => h) (Or.inl ⟨by rfl, ?_⟩) (by assumption) ?_
  · intro W' hSw
    go_simp
  try simp only [Act.put, List.getElem_toArray, List.getElem_cons_zero, List.getElem_cons_succ, List.setIfInBounds_toArray, List.set_cons_zero, List.set_cons_succ]
  refine AnyL.next 7 (by kernel_rfl) rfl (fun K hK => ?_)
  go_simp
  refine hK.out _ _ (fun e => absurd rfl e) ?_
  clear hK K
  try simp only [Act.put, List.getElem_toArray, List.getElem_cons_zero, List.getElem_cons_succ, List.setIfInBounds_toArray, List.set_cons_zero, List.set_cons_succ]
  refine AnyL.done (by kernel_rfl) ?_
  have hne7 : (Value.slice A7 (0 + 1) c7).ownBlock ≠ some n3 := fun e => by have := (hown7.lt n3 e).1; omega
  have hown8 := hown7.kept (Gr.set (rb := n3) (W := w7) 3 (.slice A7 (0 + 1) c7)) (.inr hne7)
  have hx8 := hx7.kp (W' := w7.setCell ⟨n3, 3, none⟩ (.slice A7 (0 + 1) c7)) (q := rowp w4.heap.size (.slice A7 (0 + 1) c7)) (by simp) (fun k hk hl => Below.heap_setCell w7 ⟨n3, 3, none⟩ _ k (show k ≠ n3 by have := hk.1; omega)) (fun k hk _ => hk)
  have h8 := h7.set (b := n3) (j := 3) (.slice A7 (0 + 1) c7) (by omega) (by omega)
  have G8 := Lib.hid (fun W' (hg : Gr rb W' w4.drew) (hw : W'.heap.size ≤ n3) => (G7 W' hg (by omega)).setNew (j := 3) (.slice A7 (0 + 1) c7) hw)
  have B7 := (set6_at (x := .slice A7 (0 + 1) c7) B77).2.2.1
  have K8 := Lib.hid (fun k (hk : k < w4.heap.size) (hr : k ≠ rb) (hn : k ≠ n3) => (Below.heap_setCell w7 ⟨n3, 3, none⟩ (.slice A7 (0 + 1) c7) k hn).trans (K7 k hk hr))
  have z8 : (w7.setCell ⟨n3, 3, none⟩ (.slice A7 (0 + 1) c7)).heap.size = w7.heap.size := by simp
  obtain ⟨w8, hw8⟩ : ∃ W1, w7.setCell ⟨n3, 3, none⟩ (.slice A7 (0 + 1) c7) = W1 := ⟨_, rfl⟩
  rw [hw8] at hown8 hx8 h8 G8 B7 K8 z8 ⊢
  clear hw8 f7 s7 hgrow7 hat7 hown7 hx7 B77 B76 G7 K7
  have B8 := (K8.out W.heap.size (by omega) (by omega) (by omega)).trans B8
  have g8 := G8.out W gA.drew (by omega)
  have hL : EX w4.heap.size w8 (.slice A7 (0 + 1) c7) (toES v .nil) := row_ex (l := [v]) hown8 (Nat.le_refl _) hx8 (fun k hk => hk.1) rfl
  have c0 := box_cell B8 0
  have f0 := box_frozen B8 0
  have d0 := box_cell B7 0
  have c1 := box_cell B8 1
  have f1 := box_frozen B8 1
  have d1 := box_cell B7 1
  have c2 := box_cell B8 2
  have f2 := box_frozen B8 2
  have d2 := box_cell B7 2
  have c3 := box_cell B8 3
  have f3 := box_frozen B8 3
  have d3 := box_cell B7 3
  have c4 := box_cell B8 4
  have f4 := box_frozen B8 4
  have d4 := box_cell B7 4
  have c5 := box_cell B8 5
  have f5 := box_frozen B8 5
  have d5 := box_cell B7 5
  simp only [List.getElem?_toArray, List.getElem?_cons_succ, List.getElem?_cons_zero] at c0 d0 c1 d1 c2 d2 c3 d3 c4 d4 c5 d5
  have hP := put6_heap (a := .int .i64 1) (b := .string s) (c := .int .i64 0) (d := .slice A7 (0 + 1) c7) (x := .slice none 0 0) (y := .slice none 0 0) B8
  have hfin : TP rb g N cT o T W (.ok ⟨1, s, 0, toES v .nil, .nil, .nil⟩ r3) (.returned (.agg #[.int .i64 1, .string s, .int .i64 0, .slice A7 (0 + 1) c7, .slice none 0 0, .slice none 0 0])) (Proofs.YtaajolemjgdfnaaDoor.put6 w8 W.heap.size (.int .i64 1) (.string s) (.int .i64 0) (.slice A7 (0 + 1) c7) (.slice none 0 0) (.slice none 0 0)) :=
    ⟨⟨_, rfl, _, _, _, rfl, hL.kp (Kp.put6 (by omega)) (by omega), sx_nil _ _, sx_nil _ _, (show I64 1 by unfold I64; omega), i64_0, hsz⟩, ⟨i6, h8.put6 (by omega) (by omega), hd6⟩, g8.put6 (Nat.le_refl _)⟩
  go_wp2
  obtain ⟨wz, hwz⟩ : ∃ W5, (Proofs.YtaajolemjgdfnaaDoor.put6 w8 W.heap.size (.int .i64 1) (.string s) (.int .i64 0) (.slice A7 (0 + 1) c7) (.slice none 0 0) (.slice none 0 0)) = W5 := ⟨_, rfl⟩
  show bodyPost _ _ _ _ _ (Proofs.YtaajolemjgdfnaaDoor.put6 w8 W.heap.size (.int .i64 1) (.string s) (.int .i64 0) (.slice A7 (0 + 1) c7) (.slice none 0 0) (.slice none 0 0))
  rw [hwz] at hP hfin ⊢
  have p0 := box_cell hP 0
  have p1 := box_cell hP 1
  have p2 := box_cell hP 2
  have p3 := box_cell hP 3
  have p4 := box_cell hP 4
  have p5 := box_cell hP 5
  simp only [List.getElem?_toArray, List.getElem?_cons_succ, List.getElem?_cons_zero] at p0 p1 p2 p3 p4 p5
  exact bodyPost_ret (v := .agg #[.int .i64 1, .string s, .int .i64 0, .slice A7 (0 + 1) c7, .slice none 0 0, .slice none 0 0]) (by simp [results, Tryd.results82, go_sem, p0, p1, p2, p3, p4, p5]) rfl hfin

set_option maxRecDepth 100000 in
theorem store_C0 {W : World} {rb g N cT i o : Nat} {T : List Tok} (h : Rd W rb g N cT T i o) (s : ByteArray) (r1 : List Tok) (hv : nameT (T.drop i) = .ok s r1) (b1 : isT r1 [91] = true) (p c : Nat)
    (HI2 : ∀ W2 i', Rd W2 rb g N cT T i' o → T.drop i' = r1 → Calls Tryd.prog 86 #[.pointer (some ⟨rb, 0, none⟩), .string ⟨#[91]⟩, .string ⟨#[93]⟩] W2 (XP rb g N cT o T W2 (.bad p c))) :
    Calls Tryd.prog 82 #[.pointer (some ⟨rb, 0, none⟩)] W (TP rb g N cT o T W (.bad p c)) := by
  have HSS := Lib.hid (fun W1 (h1 : Rd W1 rb g N cT T i o) => (show Calls Tryd.prog 69 #[.pointer (some ⟨rb, 0, none⟩)] W1 (NP rb g N cT o T W1 (.ok s r1)) from hv ▸ nam_any h1))
  have HI := Lib.hid (fun w2 i2 (h2 : Rd w2 rb g N cT T i2 o) (hd : T.drop i2 = r1) => (show Calls Tryd.prog 53 #[.pointer (some ⟨rb, 0, none⟩), .string ⟨#[91]⟩] w2 (fun e w' => e = .returned (.bool true) ∧ Below w2.heap.size w2 w') from is_any h2 [91] true (by rw [hd]; exact b1)))
  have HII := Lib.hid HI2
  have hrl := h.rlt
  have hgl := h.tok.1
  have h0 := h.alloc (.cells #[.int .i64 0, .string ⟨#[]⟩, .int .i64 0, .slice none 0 0, .slice none 0 0, .slice none 0 0] 45)
  have B6 := heap_alloc_new W (.cells #[.int .i64 0, .string ⟨#[]⟩, .int .i64 0, .slice none 0 0, .slice none 0 0, .slice none 0 0] 45)
  have g0 := (Gr.refl rb W).alloc (.cells #[.int .i64 0, .string ⟨#[]⟩, .int .i64 0, .slice none 0 0, .slice none 0 0, .slice none 0 0] 45)
  have z0 : (W.alloc (.cells #[.int .i64 0, .string ⟨#[]⟩, .int .i64 0, .slice none 0 0, .slice none 0 0, .slice none 0 0] 45)).heap.size = W.heap.size + 1 := by simp
  clear h hv b1 HI2
  go_enter Tryd.func82, Tryd.ntmps82
  go_upto_region 1 with fail
  obtain ⟨w0, hw0⟩ : ∃ W1, W.alloc (.cells #[.int .i64 0, .string ⟨#[]⟩, .int .i64 0, .slice none 0 0, .slice none 0 0, .slice none 0 0] 45) = W1 := ⟨_, rfl⟩
  rw [hw0] at h0 B6 g0 z0 ⊢
  clear hw0
  go_upto_region 2 with (go_at_call 69; ((with_reducible refine (HSS.out _ h0).mono ?_); rintro e1 w1 ⟨rfl, ⟨i1, h1, hd1⟩, g1, hsz⟩))
  have z1 := g1.size
  have h2 := h1.alloc (.cells #[.int .i64 1, .string s, .int .i64 0, .slice none 0 0, .slice none 0 0, .slice none 0 0] 45)
  have B7 := heap_alloc_new w1 (.cells #[.int .i64 1, .string s, .int .i64 0, .slice none 0 0, .slice none 0 0, .slice none 0 0] 45)
  have g2 := (g0.trans g1).alloc (.cells #[.int .i64 1, .string s, .int .i64 0, .slice none 0 0, .slice none 0 0, .slice none 0 0] 45)
  have z2 : (w1.alloc (.cells #[.int .i64 1, .string s, .int .i64 0, .slice none 0 0, .slice none 0 0, .slice none 0 0] 45)).heap.size = w1.heap.size + 1 := by simp
  have HA := Lib.hid (fun k hk => Below.heap_alloc w1 (.cells #[.int .i64 1, .string s, .int .i64 0, .slice none 0 0, .slice none 0 0, .slice none 0 0] 45) k hk)
  have B8 := (Below.heap_alloc w1 (.cells #[.int .i64 1, .string s, .int .i64 0, .slice none 0 0, .slice none 0 0, .slice none 0 0] 45) W.heap.size (by omega)).trans ((g1.block (k := W.heap.size) (by omega) (by omega)).trans B6)
  obtain ⟨w2, hw2⟩ : ∃ W1, w1.alloc (.cells #[.int .i64 1, .string s, .int .i64 0, .slice none 0 0, .slice none 0 0, .slice none 0 0] 45) = W1 := ⟨_, rfl⟩
  rw [hw2] at h2 B7 g2 HA B8 z2 ⊢
  clear hw2
  obtain ⟨n3, hn3⟩ : ∃ n3, w1.heap.size = n3 := ⟨_, rfl⟩
  rw [hn3] at B7 z2 z1 HA ⊢
  have HB7 := Lib.hid (fun w5 (g5 : Gr rb w2 w5) => (g5.block (lt_heap B7) (by omega)).trans B7)
  have HB8 := Lib.hid (fun w5 (g5 : Gr rb w2 w5) => (g5.block (lt_heap B8) (by omega)).trans B8)
  have HC7 := Lib.hid (fun w5 (g5 : Gr rb w2 w5) (j : Nat) => box_cell (HB7.out w5 g5) j)
  have HF7 := Lib.hid (fun w5 (g5 : Gr rb w2 w5) (j : Nat) => box_frozen (HB7.out w5 g5) j)
  go_upto_region 4 with (go_at_call 53; ((with_reducible refine (HI.out _ i1 h2 hd1).mono ?_); rintro e2 w3 ⟨rfl, e3⟩; have h3 := h2.below e3; have c0 := HC7.out w3 (Gr.of e3) 0; have f0 := HF7.out w3 (Gr.of e3) 0; simp only [List.getElem?_toArray, List.getElem?_cons_zero] at c0))
  have z3 := e3.size
  have hl7 := lt_heap (HB7.out w3 (Gr.of e3))
  have hl8 := lt_heap (HB8.out w3 (Gr.of e3))
  have h4 := h3.set (b := n3) (j := 0) (.int .i64 2) (by omega) (by omega)
  have g4 := (g2.trans (Gr.of e3)).setNew (j := 0) (.int .i64 2) (show W.heap.size ≤ n3 by omega)
  have B7 := (set6_at (x := .int .i64 2) (HB7.out w3 (Gr.of e3))).1
  have B8 := (Below.heap_setCell w3 ⟨n3, 0, none⟩ (.int .i64 2) W.heap.size (show W.heap.size ≠ n3 by omega)).trans (HB8.out w3 (Gr.of e3))
  have HK := Lib.hid (fun k (hk : k ≠ n3) => Below.heap_setCell w3 ⟨n3, 0, none⟩ (.int .i64 2) k hk)
  have zz : (w3.setCell ⟨n3, 0, none⟩ (.int .i64 2)).heap.size = w3.heap.size := by simp
  obtain ⟨w4, hw6⟩ : ∃ W1, (w3.setCell ⟨n3, 0, none⟩ (.int .i64 2)) = W1 := ⟨_, rfl⟩
  rw [hw6] at h4 g4 B7 B8 HK zz ⊢
  clear hw6
  clear c0 f0 HB7 HB8 HC7 HF7 HK HA h3 h2
  have c3 := box_cell B7 3
  simp only [List.getElem?_toArray, List.getElem?_cons_succ, List.getElem?_cons_zero] at c3
  have hne0 : (Value.slice none 0 0).ownBlock ≠ some rb := by simp [Value.ownBlock]
  have hl7 := lt_heap B7
  have hl8 := lt_heap B8
  have hS : w4.drew.cell? ⟨n3, 3, none⟩ = some (.slice none 0 0) := c3
  refine wp_region_late (fun w' => w'.cell? ⟨n3, 3, none⟩ = some (.slice none 0 0)) 7 (by kernel_rfl) ?_
  refine AnyL.take 0 (.pointer (some ⟨n3, 3, none⟩)) rfl (by kernel_rfl) (by kernel_rfl) (by kernel_rfl) (by kernel_rfl) (fun _ _ _ h => h) (Or.inl ⟨by rfl, ?_⟩) (by assumption) ?_
  · intro W' hSw
    go_simp
  try simp only [Act.put, List.getElem_toArray, List.getElem_cons_zero, List.setIfInBounds_toArray, List.set_cons_zero, List.set_cons_succ]
  refine AnyL.take 1 (.slice none 0 0) rfl (by kernel_rfl) (by kernel_rfl) (by kernel_rfl) (by kernel_rfl) (fun _ _ _ h => h) (Or.inl ⟨by rfl, ?_⟩) (by assumption) ?_
  · intro W' hSw
    go_simp
  try simp only [Act.put, List.getElem_toArray, List.getElem_cons_zero, List.getElem_cons_succ, List.setIfInBounds_toArray, List.set_cons_zero, List.set_cons_succ]
  refine AnyL.take 2 (.pointer (some ⟨rb, 0, none⟩)) rfl (by kernel_rfl) (by kernel_rfl) (by kernel_rfl) (by kernel_rfl) (fun _ _ _ h => h) (Or.inl ⟨by rfl, ?_⟩) (by assumption) ?_
  · intro W' hSw
    go_simp
  try simp only [Act.put, List.getElem_toArray, List.getElem_cons_zero, List.getElem_cons_succ, List.setIfInBounds_toArray, List.set_cons_zero, List.set_cons_succ]
  refine AnyL.next 3 (by kernel_rfl) rfl (fun K hK => ?_)
  go_simp
  go_at_call 86
  refine (HII.out _ i1 h4.drew hd1).mono ?_
  rintro e2 w6 ⟨rfl, g6⟩
  go_wp2_with fail
  exact ⟨rfl, rfl, g4.trans ((Gr.drew (Gr.refl rb w4)).trans g6)⟩

set_option maxRecDepth 100000 in
theorem store_C1 {W : World} {rb g N cT i o : Nat} {T : List Tok} (h : Rd W rb g N cT T i o) (s : ByteArray) (r1 : List Tok) (hv : nameT (T.drop i) = .ok s r1) (b1 : isT r1 [91] = true) (v1 : Ex) (r2 : List Tok)
    (HI2 : ∀ W2 i', Rd W2 rb g N cT T i' o → T.drop i' = r1 → Calls Tryd.prog 86 #[.pointer (some ⟨rb, 0, none⟩), .string ⟨#[91]⟩, .string ⟨#[93]⟩] W2 (XP rb g N cT o T W2 (.ok v1 r2))) (b2 : isT r2 [61] = false) :
    Calls Tryd.prog 82 #[.pointer (some ⟨rb, 0, none⟩)] W (TP rb g N cT o T W (.bad (hdT r2).at_ 2)) := by
  have HSS := Lib.hid (fun W1 (h1 : Rd W1 rb g N cT T i o) => (show Calls Tryd.prog 69 #[.pointer (some ⟨rb, 0, none⟩)] W1 (NP rb g N cT o T W1 (.ok s r1)) from hv ▸ nam_any h1))
  have HI := Lib.hid (fun w2 i2 (h2 : Rd w2 rb g N cT T i2 o) (hd : T.drop i2 = r1) => (show Calls Tryd.prog 53 #[.pointer (some ⟨rb, 0, none⟩), .string ⟨#[91]⟩] w2 (fun e w' => e = .returned (.bool true) ∧ Below w2.heap.size w2 w') from is_any h2 [91] true (by rw [hd]; exact b1)))
  have HII := Lib.hid HI2
  have HW := Lib.hid (fun w2 i2 (h2 : Rd w2 rb g N cT T i2 o) (hd : T.drop i2 = r2) => (show Calls Tryd.prog 68 #[.pointer (some ⟨rb, 0, none⟩), .string ⟨#[61]⟩] w2 (fun e w' => e = flt (hdT r2).at_ 2 ∧ Below w2.heap.size w2 w') from want_no h2 [61] (by rw [hd]; exact b2) _ (by rw [hd])))
  obtain ⟨i0, hi, hz0, hz1, hz2⟩ := info_parts exInfo
  have hrl := h.rlt
  have hgl := h.tok.1
  have h0 := h.alloc (.cells #[.int .i64 0, .string ⟨#[]⟩, .int .i64 0, .slice none 0 0, .slice none 0 0, .slice none 0 0] 45)
  have B6 := heap_alloc_new W (.cells #[.int .i64 0, .string ⟨#[]⟩, .int .i64 0, .slice none 0 0, .slice none 0 0, .slice none 0 0] 45)
  have g0 := (Gr.refl rb W).alloc (.cells #[.int .i64 0, .string ⟨#[]⟩, .int .i64 0, .slice none 0 0, .slice none 0 0, .slice none 0 0] 45)
  have z0 : (W.alloc (.cells #[.int .i64 0, .string ⟨#[]⟩, .int .i64 0, .slice none 0 0, .slice none 0 0, .slice none 0 0] 45)).heap.size = W.heap.size + 1 := by simp
  clear h hv b1 HI2 b2
  go_enter Tryd.func82, Tryd.ntmps82
  go_upto_region 1 with fail
  obtain ⟨w0, hw0⟩ : ∃ W1, W.alloc (.cells #[.int .i64 0, .string ⟨#[]⟩, .int .i64 0, .slice none 0 0, .slice none 0 0, .slice none 0 0] 45) = W1 := ⟨_, rfl⟩
  rw [hw0] at h0 B6 g0 z0 ⊢
  clear hw0
  go_upto_region 2 with (go_at_call 69; ((with_reducible refine (HSS.out _ h0).mono ?_); rintro e1 w1 ⟨rfl, ⟨i1, h1, hd1⟩, g1, hsz⟩))
  have z1 := g1.size
  have h2 := h1.alloc (.cells #[.int .i64 1, .string s, .int .i64 0, .slice none 0 0, .slice none 0 0, .slice none 0 0] 45)
  have B7 := heap_alloc_new w1 (.cells #[.int .i64 1, .string s, .int .i64 0, .slice none 0 0, .slice none 0 0, .slice none 0 0] 45)
  have g2 := (g0.trans g1).alloc (.cells #[.int .i64 1, .string s, .int .i64 0, .slice none 0 0, .slice none 0 0, .slice none 0 0] 45)
  have z2 : (w1.alloc (.cells #[.int .i64 1, .string s, .int .i64 0, .slice none 0 0, .slice none 0 0, .slice none 0 0] 45)).heap.size = w1.heap.size + 1 := by simp
  have HA := Lib.hid (fun k hk => Below.heap_alloc w1 (.cells #[.int .i64 1, .string s, .int .i64 0, .slice none 0 0, .slice none 0 0, .slice none 0 0] 45) k hk)
  have B8 := (Below.heap_alloc w1 (.cells #[.int .i64 1, .string s, .int .i64 0, .slice none 0 0, .slice none 0 0, .slice none 0 0] 45) W.heap.size (by omega)).trans ((g1.block (k := W.heap.size) (by omega) (by omega)).trans B6)
  obtain ⟨w2, hw2⟩ : ∃ W1, w1.alloc (.cells #[.int .i64 1, .string s, .int .i64 0, .slice none 0 0, .slice none 0 0, .slice none 0 0] 45) = W1 := ⟨_, rfl⟩
  rw [hw2] at h2 B7 g2 HA B8 z2 ⊢
  clear hw2
  obtain ⟨n3, hn3⟩ : ∃ n3, w1.heap.size = n3 := ⟨_, rfl⟩
  rw [hn3] at B7 z2 z1 HA ⊢
  have HB7 := Lib.hid (fun w5 (g5 : Gr rb w2 w5) => (g5.block (lt_heap B7) (by omega)).trans B7)
  have HB8 := Lib.hid (fun w5 (g5 : Gr rb w2 w5) => (g5.block (lt_heap B8) (by omega)).trans B8)
  have HC7 := Lib.hid (fun w5 (g5 : Gr rb w2 w5) (j : Nat) => box_cell (HB7.out w5 g5) j)
  have HF7 := Lib.hid (fun w5 (g5 : Gr rb w2 w5) (j : Nat) => box_frozen (HB7.out w5 g5) j)
  go_upto_region 4 with (go_at_call 53; ((with_reducible refine (HI.out _ i1 h2 hd1).mono ?_); rintro e2 w3 ⟨rfl, e3⟩; have h3 := h2.below e3; have c0 := HC7.out w3 (Gr.of e3) 0; have f0 := HF7.out w3 (Gr.of e3) 0; simp only [List.getElem?_toArray, List.getElem?_cons_zero] at c0))
  have z3 := e3.size
  have hl7 := lt_heap (HB7.out w3 (Gr.of e3))
  have hl8 := lt_heap (HB8.out w3 (Gr.of e3))
  have h4 := h3.set (b := n3) (j := 0) (.int .i64 2) (by omega) (by omega)
  have g4 := (g2.trans (Gr.of e3)).setNew (j := 0) (.int .i64 2) (show W.heap.size ≤ n3 by omega)
  have B7 := (set6_at (x := .int .i64 2) (HB7.out w3 (Gr.of e3))).1
  have B8 := (Below.heap_setCell w3 ⟨n3, 0, none⟩ (.int .i64 2) W.heap.size (show W.heap.size ≠ n3 by omega)).trans (HB8.out w3 (Gr.of e3))
  have HK := Lib.hid (fun k (hk : k ≠ n3) => Below.heap_setCell w3 ⟨n3, 0, none⟩ (.int .i64 2) k hk)
  have zz : (w3.setCell ⟨n3, 0, none⟩ (.int .i64 2)).heap.size = w3.heap.size := by simp
  obtain ⟨w4, hw6⟩ : ∃ W1, (w3.setCell ⟨n3, 0, none⟩ (.int .i64 2)) = W1 := ⟨_, rfl⟩
  rw [hw6] at h4 g4 B7 B8 HK zz ⊢
  clear hw6
  clear c0 f0 HB7 HB8 HC7 HF7 HK HA h3 h2
  have c3 := box_cell B7 3
  simp only [List.getElem?_toArray, List.getElem?_cons_succ, List.getElem?_cons_zero] at c3
  have hne0 : (Value.slice none 0 0).ownBlock ≠ some rb := by simp [Value.ownBlock]
  have hl7 := lt_heap B7
  have hl8 := lt_heap B8
  have hS : w4.drew.cell? ⟨n3, 3, none⟩ = some (.slice none 0 0) := c3
  refine wp_region_late (fun w' => w'.cell? ⟨n3, 3, none⟩ = some (.slice none 0 0)) 7 (by kernel_rfl) ?_
  refine AnyL.take 0 (.pointer (some ⟨n3, 3, none⟩)) rfl (by kernel_rfl) (by kernel_rfl) (by kernel_rfl) (by kernel_rfl) (fun _ _ _ h => h) (Or.inl ⟨by rfl, ?_⟩) (by assumption) ?_
  · intro W' hSw
    go_simp
  try simp only [Act.put, List.getElem_toArray, List.getElem_cons_zero, List.setIfInBounds_toArray, List.set_cons_zero, List.set_cons_succ]
  refine AnyL.take 1 (.slice none 0 0) rfl (by kernel_rfl) (by kernel_rfl) (by kernel_rfl) (by kernel_rfl) (fun _ _ _ h => h) (Or.inl ⟨by rfl, ?_⟩) (by assumption) ?_
  · intro W' hSw
    go_simp
  try simp only [Act.put, List.getElem_toArray, List.getElem_cons_zero, List.getElem_cons_succ, List.setIfInBounds_toArray, List.set_cons_zero, List.set_cons_succ]
  refine AnyL.take 2 (.pointer (some ⟨rb, 0, none⟩)) rfl (by kernel_rfl) (by kernel_rfl) (by kernel_rfl) (by kernel_rfl) (fun _ _ _ h => h) (Or.inl ⟨by rfl, ?_⟩) (by assumption) ?_
  · intro W' hSw
    go_simp
  try simp only [Act.put, List.getElem_toArray, List.getElem_cons_zero, List.getElem_cons_succ, List.setIfInBounds_toArray, List.set_cons_zero, List.set_cons_succ]
  refine AnyL.next 3 (by kernel_rfl) rfl (fun K hK => ?_)
  go_simp
  go_at_call 86
  refine (HII.out _ i1 h4.drew hd1).mono ?_
  rintro e2 w6 ⟨⟨vv, rfl, vl, rfl, hve, hoke⟩, ⟨i6, h6, hd6⟩, g6⟩
  obtain ⟨Al, cl, el, _⟩ := id hve
  subst el
  go_wp2_with fail
  have B76 := (g6.block (k := n3) (lt_heap B7) (by omega)).trans B7
  have s6 : w6.cell? ⟨n3, 3, none⟩ = some (.slice none 0 0) := box_cell B76 3
  refine hK.out _ _ (fun _ => s6) ?_
  clear hK K
  try simp only [Act.put, List.getElem_toArray, List.getElem_cons_zero, List.getElem_cons_succ, List.setIfInBounds_toArray, List.set_cons_zero, List.set_cons_succ]
  refine AnyL.next 4 (by kernel_rfl) rfl (fun K hK => ?_)
  go_simp
  have s6a : (w6.alloc (.cells #[.int .i64 v1.op, .int .i64 v1.n, .string v1.s, .slice Al v1.l.len cl] 43)).cell? ⟨n3, 3, none⟩ = some (.slice none 0 0) := box_cell ((Below.heap_alloc w6 (.cells #[.int .i64 v1.op, .int .i64 v1.n, .string v1.s, .slice Al v1.l.len cl] 43) n3 (lt_heap B76)).trans B76) 3
  refine hK.out _ _ (fun _ => s6a) ?_
  clear hK K
  try simp only [Act.put, List.getElem_toArray, List.getElem_cons_zero, List.getElem_cons_succ, List.setIfInBounds_toArray, List.set_cons_zero, List.set_cons_succ]
  refine AnyL.next 5 (by kernel_rfl) rfl (fun K hK => ?_)
  have zw6 := g6.size
  have zw6' : w4.drew.heap.size = w4.heap.size := rfl
  refine oper_append_at (by rfl) (.tmp 11) (.tmp 14) 41 rfl w4.heap.size 43 i0 _ 4 56 Tryd.underlying41 hi hz0 hz1 hz2 rfl (by decide) (.slice none 0 0) 0 ([]) rfl (((World.ownsRow_nil w4 w4.heap.size 43 4).kept ((Gr.drew (Gr.refl rb w4)).trans g6) (.inr hne0)).alloc _) ⟨w6.heap.size, 0, none⟩ 1 1 (news v1 Al cl) rfl rfl (news_cells w6 v1 Al cl) (news_one v1 Al cl) (by unfold maxLen; omega) (by omega) (by simp; omega) ?_
  intro v7 w7 hown7 hgrow7 _ hat7
  obtain ⟨h7, G7, K7, z7, hx7⟩ := sv_low (l := []) (wr := w4.drew) (L := w4.heap.size) (by omega) ((World.ownsRow_nil w4 w4.heap.size 43 4).kept (Gr.drew (Gr.refl rb w4)) (.inr hne0)) rfl g6 hve hoke h6 hgrow7 hat7 (by omega) (by omega)
  obtain ⟨A7, c7, e7⟩ := own_slice hown7
  subst e7
  have B77 := (K7 n3 (by omega) (by omega)).trans (show w4.drew.heap[n3]? = _ from B7)
  have s7 : w7.cell? ⟨n3, 3, none⟩ = some (.slice none 0 0) := box_cell B77 3
  have f7 := box_frozen B77 3
  refine hK.out _ _ (fun _ => s7) ?_
  clear hK K s6 s6a
  try simp only [Act.put, List.getElem_toArray, List.getElem_cons_zero, List.getElem_cons_succ, List.setIfInBounds_toArray, List.set_cons_zero, List.set_cons_succ]
  refine AnyL.take 6 (.pointer (some ⟨n3, 3, none⟩)) rfl (by kernel_rfl) (by kernel_rfl) (by kernel_rfl) (by kernel_rfl) (fun _ _ _ h => h) (Or.inl ⟨by rfl, ?_⟩) (by assumption) ?_
  · intro W' hSw
    go_simp
  try simp only [Act.put, List.getElem_toArray, List.getElem_cons_zero, List.getElem_cons_succ, List.setIfInBounds_toArray, List.set_cons_zero, List.set_cons_succ]
  refine AnyL.next 7 (by kernel_rfl) rfl (fun K hK => ?_)
  go_simp
  refine hK.out _ _ (fun e => absurd rfl e) ?_
  clear hK K
  try simp only [Act.put, List.getElem_toArray, List.getElem_cons_zero, List.getElem_cons_succ, List.setIfInBounds_toArray, List.set_cons_zero, List.set_cons_succ]
  refine AnyL.done (by kernel_rfl) ?_
  have hne7 : (Value.slice A7 (0 + 1) c7).ownBlock ≠ some n3 := fun e => by have := (hown7.lt n3 e).1; omega
  have hown8 := hown7.kept (Gr.set (rb := n3) (W := w7) 3 (.slice A7 (0 + 1) c7)) (.inr hne7)
  have hx8 := hx7.kp (W' := w7.setCell ⟨n3, 3, none⟩ (.slice A7 (0 + 1) c7)) (q := rowp w4.heap.size (.slice A7 (0 + 1) c7)) (by simp) (fun k hk hl => Below.heap_setCell w7 ⟨n3, 3, none⟩ _ k (show k ≠ n3 by have := hk.1; omega)) (fun k hk _ => hk)
  have h8 := h7.set (b := n3) (j := 3) (.slice A7 (0 + 1) c7) (by omega) (by omega)
  have G8 := Lib.hid (fun W' (hg : Gr rb W' w4.drew) (hw : W'.heap.size ≤ n3) => (G7 W' hg (by omega)).setNew (j := 3) (.slice A7 (0 + 1) c7) hw)
  have B7 := (set6_at (x := .slice A7 (0 + 1) c7) B77).2.2.1
  have K8 := Lib.hid (fun k (hk : k < w4.heap.size) (hr : k ≠ rb) (hn : k ≠ n3) => (Below.heap_setCell w7 ⟨n3, 3, none⟩ (.slice A7 (0 + 1) c7) k hn).trans (K7 k hk hr))
  have z8 : (w7.setCell ⟨n3, 3, none⟩ (.slice A7 (0 + 1) c7)).heap.size = w7.heap.size := by simp
  obtain ⟨w8, hw8⟩ : ∃ W1, w7.setCell ⟨n3, 3, none⟩ (.slice A7 (0 + 1) c7) = W1 := ⟨_, rfl⟩
  rw [hw8] at hown8 hx8 h8 G8 B7 K8 z8 ⊢
  clear hw8 f7 s7 hgrow7 hat7 hown7 hx7 B77 B76 G7 K7
  have B8 := (K8.out W.heap.size (by omega) (by omega) (by omega)).trans B8
  have g8 := G8.out W g4.drew (by omega)
  have hne8 : (Value.slice A7 (0 + 1) c7).ownBlock ≠ some rb := fun e => by have := (hown8.lt rb e).1; omega
  have zd : w4.drew.heap.size = w4.heap.size := rfl
  clear G8 K8 hne0 hS c3
  go_wp2_with (go_at_call 68; ((with_reducible refine (HW.out _ i6 h8 hd6).mono ?_); rintro e2 w9 ⟨rfl, e9⟩))
  exact ⟨rfl, rfl, g8.trans (Gr.of e9)⟩

set_option maxRecDepth 100000 in
theorem store_C2 {W : World} {rb g N cT i o : Nat} {T : List Tok} (h : Rd W rb g N cT T i o) (s : ByteArray) (r1 : List Tok) (hv : nameT (T.drop i) = .ok s r1) (b1 : isT r1 [91] = true) (v1 : Ex) (r2 : List Tok)
    (HI2 : ∀ W2 i', Rd W2 rb g N cT T i' o → T.drop i' = r1 → Calls Tryd.prog 86 #[.pointer (some ⟨rb, 0, none⟩), .string ⟨#[91]⟩, .string ⟨#[93]⟩] W2 (XP rb g N cT o T W2 (.ok v1 r2))) (b2 : isT r2 [61] = true) (p c : Nat)
    (HE : ∀ W2 i', Rd W2 rb g N cT T i' o → T.drop i' = r2.tail → Calls Tryd.prog 85 #[.pointer (some ⟨rb, 0, none⟩)] W2 (XP rb g N cT o T W2 (.bad p c))) :
    Calls Tryd.prog 82 #[.pointer (some ⟨rb, 0, none⟩)] W (TP rb g N cT o T W (.bad p c)) := by
  have HSS := Lib.hid (fun W1 (h1 : Rd W1 rb g N cT T i o) => (show Calls Tryd.prog 69 #[.pointer (some ⟨rb, 0, none⟩)] W1 (NP rb g N cT o T W1 (.ok s r1)) from hv ▸ nam_any h1))
  have HI := Lib.hid (fun w2 i2 (h2 : Rd w2 rb g N cT T i2 o) (hd : T.drop i2 = r1) => (show Calls Tryd.prog 53 #[.pointer (some ⟨rb, 0, none⟩), .string ⟨#[91]⟩] w2 (fun e w' => e = .returned (.bool true) ∧ Below w2.heap.size w2 w') from is_any h2 [91] true (by rw [hd]; exact b1)))
  have HII := Lib.hid HI2
  have HW := Lib.hid (fun w2 i2 (h2 : Rd w2 rb g N cT T i2 o) (hd : T.drop i2 = r2) => (show Calls Tryd.prog 68 #[.pointer (some ⟨rb, 0, none⟩), .string ⟨#[61]⟩] w2 (fun e w' => e = .returned (.tuple #[]) ∧ Rd w' rb g N cT T (i2 + 1) o ∧ Gr rb w2 w') from want_yes h2 [61] (by decide) (by rw [hd]; exact b2)))
  have HEE := Lib.hid HE
  obtain ⟨i0, hi, hz0, hz1, hz2⟩ := info_parts exInfo
  have hrl := h.rlt
  have hgl := h.tok.1
  have h0 := h.alloc (.cells #[.int .i64 0, .string ⟨#[]⟩, .int .i64 0, .slice none 0 0, .slice none 0 0, .slice none 0 0] 45)
  have B6 := heap_alloc_new W (.cells #[.int .i64 0, .string ⟨#[]⟩, .int .i64 0, .slice none 0 0, .slice none 0 0, .slice none 0 0] 45)
  have g0 := (Gr.refl rb W).alloc (.cells #[.int .i64 0, .string ⟨#[]⟩, .int .i64 0, .slice none 0 0, .slice none 0 0, .slice none 0 0] 45)
  have z0 : (W.alloc (.cells #[.int .i64 0, .string ⟨#[]⟩, .int .i64 0, .slice none 0 0, .slice none 0 0, .slice none 0 0] 45)).heap.size = W.heap.size + 1 := by simp
  clear h hv b1 HI2 b2 HE
  go_enter Tryd.func82, Tryd.ntmps82
  go_upto_region 1 with fail
  obtain ⟨w0, hw0⟩ : ∃ W1, W.alloc (.cells #[.int .i64 0, .string ⟨#[]⟩, .int .i64 0, .slice none 0 0, .slice none 0 0, .slice none 0 0] 45) = W1 := ⟨_, rfl⟩
  rw [hw0] at h0 B6 g0 z0 ⊢
  clear hw0
  go_upto_region 2 with (go_at_call 69; ((with_reducible refine (HSS.out _ h0).mono ?_); rintro e1 w1 ⟨rfl, ⟨i1, h1, hd1⟩, g1, hsz⟩))
  have z1 := g1.size
  have h2 := h1.alloc (.cells #[.int .i64 1, .string s, .int .i64 0, .slice none 0 0, .slice none 0 0, .slice none 0 0] 45)
  have B7 := heap_alloc_new w1 (.cells #[.int .i64 1, .string s, .int .i64 0, .slice none 0 0, .slice none 0 0, .slice none 0 0] 45)
  have g2 := (g0.trans g1).alloc (.cells #[.int .i64 1, .string s, .int .i64 0, .slice none 0 0, .slice none 0 0, .slice none 0 0] 45)
  have z2 : (w1.alloc (.cells #[.int .i64 1, .string s, .int .i64 0, .slice none 0 0, .slice none 0 0, .slice none 0 0] 45)).heap.size = w1.heap.size + 1 := by simp
  have HA := Lib.hid (fun k hk => Below.heap_alloc w1 (.cells #[.int .i64 1, .string s, .int .i64 0, .slice none 0 0, .slice none 0 0, .slice none 0 0] 45) k hk)
  have B8 := (Below.heap_alloc w1 (.cells #[.int .i64 1, .string s, .int .i64 0, .slice none 0 0, .slice none 0 0, .slice none 0 0] 45) W.heap.size (by omega)).trans ((g1.block (k := W.heap.size) (by omega) (by omega)).trans B6)
  obtain ⟨w2, hw2⟩ : ∃ W1, w1.alloc (.cells #[.int .i64 1, .string s, .int .i64 0, .slice none 0 0, .slice none 0 0, .slice none 0 0] 45) = W1 := ⟨_, rfl⟩
  rw [hw2] at h2 B7 g2 HA B8 z2 ⊢
  clear hw2
  obtain ⟨n3, hn3⟩ : ∃ n3, w1.heap.size = n3 := ⟨_, rfl⟩
  rw [hn3] at B7 z2 z1 HA ⊢
  have HB7 := Lib.hid (fun w5 (g5 : Gr rb w2 w5) => (g5.block (lt_heap B7) (by omega)).trans B7)
  have HB8 := Lib.hid (fun w5 (g5 : Gr rb w2 w5) => (g5.block (lt_heap B8) (by omega)).trans B8)
  have HC7 := Lib.hid (fun w5 (g5 : Gr rb w2 w5) (j : Nat) => box_cell (HB7.out w5 g5) j)
  have HF7 := Lib.hid (fun w5 (g5 : Gr rb w2 w5) (j : Nat) => box_frozen (HB7.out w5 g5) j)
  go_upto_region 4 with (go_at_call 53; ((with_reducible refine (HI.out _ i1 h2 hd1).mono ?_); rintro e2 w3 ⟨rfl, e3⟩; have h3 := h2.below e3; have c0 := HC7.out w3 (Gr.of e3) 0; have f0 := HF7.out w3 (Gr.of e3) 0; simp only [List.getElem?_toArray, List.getElem?_cons_zero] at c0))
  have z3 := e3.size
  have hl7 := lt_heap (HB7.out w3 (Gr.of e3))
  have hl8 := lt_heap (HB8.out w3 (Gr.of e3))
  have h4 := h3.set (b := n3) (j := 0) (.int .i64 2) (by omega) (by omega)
  have g4 := (g2.trans (Gr.of e3)).setNew (j := 0) (.int .i64 2) (show W.heap.size ≤ n3 by omega)
  have B7 := (set6_at (x := .int .i64 2) (HB7.out w3 (Gr.of e3))).1
  have B8 := (Below.heap_setCell w3 ⟨n3, 0, none⟩ (.int .i64 2) W.heap.size (show W.heap.size ≠ n3 by omega)).trans (HB8.out w3 (Gr.of e3))
  have HK := Lib.hid (fun k (hk : k ≠ n3) => Below.heap_setCell w3 ⟨n3, 0, none⟩ (.int .i64 2) k hk)
  have zz : (w3.setCell ⟨n3, 0, none⟩ (.int .i64 2)).heap.size = w3.heap.size := by simp
  obtain ⟨w4, hw6⟩ : ∃ W1, (w3.setCell ⟨n3, 0, none⟩ (.int .i64 2)) = W1 := ⟨_, rfl⟩
  rw [hw6] at h4 g4 B7 B8 HK zz ⊢
  clear hw6
  clear c0 f0 HB7 HB8 HC7 HF7 HK HA h3 h2
  have c3 := box_cell B7 3
  simp only [List.getElem?_toArray, List.getElem?_cons_succ, List.getElem?_cons_zero] at c3
  have hne0 : (Value.slice none 0 0).ownBlock ≠ some rb := by simp [Value.ownBlock]
  have hl7 := lt_heap B7
  have hl8 := lt_heap B8
  have hS : w4.drew.cell? ⟨n3, 3, none⟩ = some (.slice none 0 0) := c3
  refine wp_region_late (fun w' => w'.cell? ⟨n3, 3, none⟩ = some (.slice none 0 0)) 7 (by kernel_rfl) ?_
  refine AnyL.take 0 (.pointer (some ⟨n3, 3, none⟩)) rfl (by kernel_rfl) (by kernel_rfl) (by kernel_rfl) (by kernel_rfl) (fun _ _ _ h => h) (Or.inl ⟨by rfl, ?_⟩) (by assumption) ?_
  · intro W' hSw
    go_simp
  try simp only [Act.put, List.getElem_toArray, List.getElem_cons_zero, List.setIfInBounds_toArray, List.set_cons_zero, List.set_cons_succ]
  refine AnyL.take 1 (.slice none 0 0) rfl (by kernel_rfl) (by kernel_rfl) (by kernel_rfl) (by kernel_rfl) (fun _ _ _ h => h) (Or.inl ⟨by rfl, ?_⟩) (by assumption) ?_
  · intro W' hSw
    go_simp
  try simp only [Act.put, List.getElem_toArray, List.getElem_cons_zero, List.getElem_cons_succ, List.setIfInBounds_toArray, List.set_cons_zero, List.set_cons_succ]
  refine AnyL.take 2 (.pointer (some ⟨rb, 0, none⟩)) rfl (by kernel_rfl) (by kernel_rfl) (by kernel_rfl) (by kernel_rfl) (fun _ _ _ h => h) (Or.inl ⟨by rfl, ?_⟩) (by assumption) ?_
  · intro W' hSw
    go_simp
  try simp only [Act.put, List.getElem_toArray, List.getElem_cons_zero, List.getElem_cons_succ, List.setIfInBounds_toArray, List.set_cons_zero, List.set_cons_succ]
  refine AnyL.next 3 (by kernel_rfl) rfl (fun K hK => ?_)
  go_simp
  go_at_call 86
  refine (HII.out _ i1 h4.drew hd1).mono ?_
  rintro e2 w6 ⟨⟨vv, rfl, vl, rfl, hve, hoke⟩, ⟨i6, h6, hd6⟩, g6⟩
  obtain ⟨Al, cl, el, _⟩ := id hve
  subst el
  go_wp2_with fail
  have B76 := (g6.block (k := n3) (lt_heap B7) (by omega)).trans B7
  have s6 : w6.cell? ⟨n3, 3, none⟩ = some (.slice none 0 0) := box_cell B76 3
  refine hK.out _ _ (fun _ => s6) ?_
  clear hK K
  try simp only [Act.put, List.getElem_toArray, List.getElem_cons_zero, List.getElem_cons_succ, List.setIfInBounds_toArray, List.set_cons_zero, List.set_cons_succ]
  refine AnyL.next 4 (by kernel_rfl) rfl (fun K hK => ?_)
  go_simp
  have s6a : (w6.alloc (.cells #[.int .i64 v1.op, .int .i64 v1.n, .string v1.s, .slice Al v1.l.len cl] 43)).cell? ⟨n3, 3, none⟩ = some (.slice none 0 0) := box_cell ((Below.heap_alloc w6 (.cells #[.int .i64 v1.op, .int .i64 v1.n, .string v1.s, .slice Al v1.l.len cl] 43) n3 (lt_heap B76)).trans B76) 3
  refine hK.out _ _ (fun _ => s6a) ?_
  clear hK K
  try simp only [Act.put, List.getElem_toArray, List.getElem_cons_zero, List.getElem_cons_succ, List.setIfInBounds_toArray, List.set_cons_zero, List.set_cons_succ]
  refine AnyL.next 5 (by kernel_rfl) rfl (fun K hK => ?_)
  have zw6 := g6.size
  have zw6' : w4.drew.heap.size = w4.heap.size := rfl
  refine oper_append_at (by rfl) (.tmp 11) (.tmp 14) 41 rfl w4.heap.size 43 i0 _ 4 56 Tryd.underlying41 hi hz0 hz1 hz2 rfl (by decide) (.slice none 0 0) 0 ([]) rfl (((World.ownsRow_nil w4 w4.heap.size 43 4).kept ((Gr.drew (Gr.refl rb w4)).trans g6) (.inr hne0)).alloc _) ⟨w6.heap.size, 0, none⟩ 1 1 (news v1 Al cl) rfl rfl (news_cells w6 v1 Al cl) (news_one v1 Al cl) (by unfold maxLen; omega) (by omega) (by simp; omega) ?_
  intro v7 w7 hown7 hgrow7 _ hat7
  obtain ⟨h7, G7, K7, z7, hx7⟩ := sv_low (l := []) (wr := w4.drew) (L := w4.heap.size) (by omega) ((World.ownsRow_nil w4 w4.heap.size 43 4).kept (Gr.drew (Gr.refl rb w4)) (.inr hne0)) rfl g6 hve hoke h6 hgrow7 hat7 (by omega) (by omega)
  obtain ⟨A7, c7, e7⟩ := own_slice hown7
  subst e7
  have B77 := (K7 n3 (by omega) (by omega)).trans (show w4.drew.heap[n3]? = _ from B7)
  have s7 : w7.cell? ⟨n3, 3, none⟩ = some (.slice none 0 0) := box_cell B77 3
  have f7 := box_frozen B77 3
  refine hK.out _ _ (fun _ => s7) ?_
  clear hK K s6 s6a
  try simp only [Act.put, List.getElem_toArray, List.getElem_cons_zero, List.getElem_cons_succ, List.setIfInBounds_toArray, List.set_cons_zero, List.set_cons_succ]
  refine AnyL.take 6 (.pointer (some ⟨n3, 3, none⟩)) rfl (by kernel_rfl) (by kernel_rfl) (by kernel_rfl) (by kernel_rfl) (fun _ _ _ h => h) (Or.inl ⟨by rfl, ?_⟩) (by assumption) ?_
  · intro W' hSw
    go_simp
  try simp only [Act.put, List.getElem_toArray, List.getElem_cons_zero, List.getElem_cons_succ, List.setIfInBounds_toArray, List.set_cons_zero, List.set_cons_succ]
  refine AnyL.next 7 (by kernel_rfl) rfl (fun K hK => ?_)
  go_simp
  refine hK.out _ _ (fun e => absurd rfl e) ?_
  clear hK K
  try simp only [Act.put, List.getElem_toArray, List.getElem_cons_zero, List.getElem_cons_succ, List.setIfInBounds_toArray, List.set_cons_zero, List.set_cons_succ]
  refine AnyL.done (by kernel_rfl) ?_
  have hne7 : (Value.slice A7 (0 + 1) c7).ownBlock ≠ some n3 := fun e => by have := (hown7.lt n3 e).1; omega
  have hown8 := hown7.kept (Gr.set (rb := n3) (W := w7) 3 (.slice A7 (0 + 1) c7)) (.inr hne7)
  have hx8 := hx7.kp (W' := w7.setCell ⟨n3, 3, none⟩ (.slice A7 (0 + 1) c7)) (q := rowp w4.heap.size (.slice A7 (0 + 1) c7)) (by simp) (fun k hk hl => Below.heap_setCell w7 ⟨n3, 3, none⟩ _ k (show k ≠ n3 by have := hk.1; omega)) (fun k hk _ => hk)
  have h8 := h7.set (b := n3) (j := 3) (.slice A7 (0 + 1) c7) (by omega) (by omega)
  have G8 := Lib.hid (fun W' (hg : Gr rb W' w4.drew) (hw : W'.heap.size ≤ n3) => (G7 W' hg (by omega)).setNew (j := 3) (.slice A7 (0 + 1) c7) hw)
  have B7 := (set6_at (x := .slice A7 (0 + 1) c7) B77).2.2.1
  have K8 := Lib.hid (fun k (hk : k < w4.heap.size) (hr : k ≠ rb) (hn : k ≠ n3) => (Below.heap_setCell w7 ⟨n3, 3, none⟩ (.slice A7 (0 + 1) c7) k hn).trans (K7 k hk hr))
  have z8 : (w7.setCell ⟨n3, 3, none⟩ (.slice A7 (0 + 1) c7)).heap.size = w7.heap.size := by simp
  obtain ⟨w8, hw8⟩ : ∃ W1, w7.setCell ⟨n3, 3, none⟩ (.slice A7 (0 + 1) c7) = W1 := ⟨_, rfl⟩
  rw [hw8] at hown8 hx8 h8 G8 B7 K8 z8 ⊢
  clear hw8 f7 s7 hgrow7 hat7 hown7 hx7 B77 B76 G7 K7
  have B8 := (K8.out W.heap.size (by omega) (by omega) (by omega)).trans B8
  have g8 := G8.out W g4.drew (by omega)
  have hne8 : (Value.slice A7 (0 + 1) c7).ownBlock ≠ some rb := fun e => by have := (hown8.lt rb e).1; omega
  have zd : w4.drew.heap.size = w4.heap.size := rfl
  clear G8 K8 hne0 hS c3
  go_upto_region 6 with (go_at_call 68; ((with_reducible refine (HW.out _ i6 h8 hd6).mono ?_); rintro e2 w9 ⟨rfl, h9, g9⟩))
  have hd9 : T.drop (i6 + 1) = r2.tail := by rw [← hd6, drop_tail]
  have z9 := g9.size
  have B7 := (g9.block (lt_heap B7) (by omega)).trans B7
  have B8 := (g9.block (lt_heap B8) (by omega)).trans B8
  have hown9 := hown8.kept g9 (.inr hne8)
  have hx9 := hx8.kp (q := rowp w4.heap.size (.slice A7 (0 + 1) c7)) z9 (fun k hk hl => g9.block hl (by have := hk.1; omega)) (fun k hk _ => hk)
  have gA := g8.trans g9
  have c3 := box_cell B7 3
  simp only [List.getElem?_toArray, List.getElem?_cons_succ, List.getElem?_cons_zero] at c3
  have hne0 := hne8
  have hl7 := lt_heap B7
  have hl8 := lt_heap B8
  clear hown8 hx8 h8 g8 g9 g6 h6 h7 hve hoke
  have hS : w9.drew.cell? ⟨n3, 3, none⟩ = some (.slice A7 (0 + 1) c7) := c3
  refine wp_region_late (fun w' => w'.cell? ⟨n3, 3, none⟩ = some (.slice A7 (0 + 1) c7)) 7 (by kernel_rfl) ?_
  refine AnyL.take 0 (.pointer (some ⟨n3, 3, none⟩)) rfl (by kernel_rfl) (by kernel_rfl) (by kernel_rfl) (by kernel_rfl) (fun _ _ _ h => h) (Or.inl ⟨by rfl, ?_⟩) (by assumption) ?_
  · intro W' hSw
    go_simp
  try simp only [Act.put, List.getElem_toArray, List.getElem_cons_zero, List.setIfInBounds_toArray, List.set_cons_zero, List.set_cons_succ]
  refine AnyL.take 1 (.slice A7 (0 + 1) c7) rfl (by kernel_rfl) (by kernel_rfl) (by kernel_rfl) (by kernel_rfl) (fun _ _ _ h => h) (Or.inl ⟨by rfl, ?_⟩) (by assumption) ?_
  · intro W' hSw
    go_simp
  try simp only [Act.put, List.getElem_toArray, List.getElem_cons_zero, List.getElem_cons_succ, List.setIfInBounds_toArray, List.set_cons_zero, List.set_cons_succ]
  refine AnyL.take 2 (.pointer (some ⟨rb, 0, none⟩)) rfl (by kernel_rfl) (by kernel_rfl) (by kernel_rfl) (by kernel_rfl) (fun _ _ _ h => h) (Or.inl ⟨by rfl, ?_⟩) (by assumption) ?_
  · intro W' hSw
    go_simp
  try simp only [Act.put, List.getElem_toArray, List.getElem_cons_zero, List.getElem_cons_succ, List.setIfInBounds_toArray, List.set_cons_zero, List.set_cons_succ]
  refine AnyL.next 3 (by kernel_rfl) rfl (fun K hK => ?_)
  go_simp
  go_at_call 85
  refine (HEE.out _ (i6 + 1) h9.drew hd9).mono ?_
  rintro e2 x6 ⟨rfl, g6⟩
  go_wp2_with fail
  exact ⟨rfl, rfl, gA.trans ((Gr.drew (Gr.refl rb w9)).trans g6)⟩

set_option maxRecDepth 100000 in
theorem store_C3 {W : World} {rb g N cT i o : Nat} {T : List Tok} (h : Rd W rb g N cT T i o) (s : ByteArray) (r1 : List Tok) (hv : nameT (T.drop i) = .ok s r1) (b1 : isT r1 [91] = true) (v1 : Ex) (r2 : List Tok)
    (HI2 : ∀ W2 i', Rd W2 rb g N cT T i' o → T.drop i' = r1 → Calls Tryd.prog 86 #[.pointer (some ⟨rb, 0, none⟩), .string ⟨#[91]⟩, .string ⟨#[93]⟩] W2 (XP rb g N cT o T W2 (.ok v1 r2))) (b2 : isT r2 [61] = true) (v : Ex) (r3 : List Tok)
    (HE : ∀ W2 i', Rd W2 rb g N cT T i' o → T.drop i' = r2.tail → Calls Tryd.prog 85 #[.pointer (some ⟨rb, 0, none⟩)] W2 (XP rb g N cT o T W2 (.ok v r3))) :
    Calls Tryd.prog 82 #[.pointer (some ⟨rb, 0, none⟩)] W (TP rb g N cT o T W (.ok ⟨2, s, 0, toES v1 (toES v .nil), .nil, .nil⟩ r3)) := by
  have HSS := Lib.hid (fun W1 (h1 : Rd W1 rb g N cT T i o) => (show Calls Tryd.prog 69 #[.pointer (some ⟨rb, 0, none⟩)] W1 (NP rb g N cT o T W1 (.ok s r1)) from hv ▸ nam_any h1))
  have HI := Lib.hid (fun w2 i2 (h2 : Rd w2 rb g N cT T i2 o) (hd : T.drop i2 = r1) => (show Calls Tryd.prog 53 #[.pointer (some ⟨rb, 0, none⟩), .string ⟨#[91]⟩] w2 (fun e w' => e = .returned (.bool true) ∧ Below w2.heap.size w2 w') from is_any h2 [91] true (by rw [hd]; exact b1)))
  have HII := Lib.hid HI2
  have HW := Lib.hid (fun w2 i2 (h2 : Rd w2 rb g N cT T i2 o) (hd : T.drop i2 = r2) => (show Calls Tryd.prog 68 #[.pointer (some ⟨rb, 0, none⟩), .string ⟨#[61]⟩] w2 (fun e w' => e = .returned (.tuple #[]) ∧ Rd w' rb g N cT T (i2 + 1) o ∧ Gr rb w2 w') from want_yes h2 [61] (by decide) (by rw [hd]; exact b2)))
  have HEE := Lib.hid HE
  obtain ⟨i0, hi, hz0, hz1, hz2⟩ := info_parts exInfo
  have hrl := h.rlt
  have hgl := h.tok.1
  have h0 := h.alloc (.cells #[.int .i64 0, .string ⟨#[]⟩, .int .i64 0, .slice none 0 0, .slice none 0 0, .slice none 0 0] 45)
  have B6 := heap_alloc_new W (.cells #[.int .i64 0, .string ⟨#[]⟩, .int .i64 0, .slice none 0 0, .slice none 0 0, .slice none 0 0] 45)
  have g0 := (Gr.refl rb W).alloc (.cells #[.int .i64 0, .string ⟨#[]⟩, .int .i64 0, .slice none 0 0, .slice none 0 0, .slice none 0 0] 45)
  have z0 : (W.alloc (.cells #[.int .i64 0, .string ⟨#[]⟩, .int .i64 0, .slice none 0 0, .slice none 0 0, .slice none 0 0] 45)).heap.size = W.heap.size + 1 := by simp
  clear h hv b1 HI2 b2 HE
  go_enter Tryd.func82, Tryd.ntmps82
  go_upto_region 1 with fail
  obtain ⟨w0, hw0⟩ : ∃ W1, W.alloc (.cells #[.int .i64 0, .string ⟨#[]⟩, .int .i64 0, .slice none 0 0, .slice none 0 0, .slice none 0 0] 45) = W1 := ⟨_, rfl⟩
  rw [hw0] at h0 B6 g0 z0 ⊢
  clear hw0
  go_upto_region 2 with (go_at_call 69; ((with_reducible refine (HSS.out _ h0).mono ?_); rintro e1 w1 ⟨rfl, ⟨i1, h1, hd1⟩, g1, hsz⟩))
  have z1 := g1.size
  have h2 := h1.alloc (.cells #[.int .i64 1, .string s, .int .i64 0, .slice none 0 0, .slice none 0 0, .slice none 0 0] 45)
  have B7 := heap_alloc_new w1 (.cells #[.int .i64 1, .string s, .int .i64 0, .slice none 0 0, .slice none 0 0, .slice none 0 0] 45)
  have g2 := (g0.trans g1).alloc (.cells #[.int .i64 1, .string s, .int .i64 0, .slice none 0 0, .slice none 0 0, .slice none 0 0] 45)
  have z2 : (w1.alloc (.cells #[.int .i64 1, .string s, .int .i64 0, .slice none 0 0, .slice none 0 0, .slice none 0 0] 45)).heap.size = w1.heap.size + 1 := by simp
  have HA := Lib.hid (fun k hk => Below.heap_alloc w1 (.cells #[.int .i64 1, .string s, .int .i64 0, .slice none 0 0, .slice none 0 0, .slice none 0 0] 45) k hk)
  have B8 := (Below.heap_alloc w1 (.cells #[.int .i64 1, .string s, .int .i64 0, .slice none 0 0, .slice none 0 0, .slice none 0 0] 45) W.heap.size (by omega)).trans ((g1.block (k := W.heap.size) (by omega) (by omega)).trans B6)
  obtain ⟨w2, hw2⟩ : ∃ W1, w1.alloc (.cells #[.int .i64 1, .string s, .int .i64 0, .slice none 0 0, .slice none 0 0, .slice none 0 0] 45) = W1 := ⟨_, rfl⟩
  rw [hw2] at h2 B7 g2 HA B8 z2 ⊢
  clear hw2
  obtain ⟨n3, hn3⟩ : ∃ n3, w1.heap.size = n3 := ⟨_, rfl⟩
  rw [hn3] at B7 z2 z1 HA ⊢
  have HB7 := Lib.hid (fun w5 (g5 : Gr rb w2 w5) => (g5.block (lt_heap B7) (by omega)).trans B7)
  have HB8 := Lib.hid (fun w5 (g5 : Gr rb w2 w5) => (g5.block (lt_heap B8) (by omega)).trans B8)
  have HC7 := Lib.hid (fun w5 (g5 : Gr rb w2 w5) (j : Nat) => box_cell (HB7.out w5 g5) j)
  have HF7 := Lib.hid (fun w5 (g5 : Gr rb w2 w5) (j : Nat) => box_frozen (HB7.out w5 g5) j)
  go_upto_region 4 with (go_at_call 53; ((with_reducible refine (HI.out _ i1 h2 hd1).mono ?_); rintro e2 w3 ⟨rfl, e3⟩; have h3 := h2.below e3; have c0 := HC7.out w3 (Gr.of e3) 0; have f0 := HF7.out w3 (Gr.of e3) 0; simp only [List.getElem?_toArray, List.getElem?_cons_zero] at c0))
  have z3 := e3.size
  have hl7 := lt_heap (HB7.out w3 (Gr.of e3))
  have hl8 := lt_heap (HB8.out w3 (Gr.of e3))
  have h4 := h3.set (b := n3) (j := 0) (.int .i64 2) (by omega) (by omega)
  have g4 := (g2.trans (Gr.of e3)).setNew (j := 0) (.int .i64 2) (show W.heap.size ≤ n3 by omega)
  have B7 := (set6_at (x := .int .i64 2) (HB7.out w3 (Gr.of e3))).1
  have B8 := (Below.heap_setCell w3 ⟨n3, 0, none⟩ (.int .i64 2) W.heap.size (show W.heap.size ≠ n3 by omega)).trans (HB8.out w3 (Gr.of e3))
  have HK := Lib.hid (fun k (hk : k ≠ n3) => Below.heap_setCell w3 ⟨n3, 0, none⟩ (.int .i64 2) k hk)
  have zz : (w3.setCell ⟨n3, 0, none⟩ (.int .i64 2)).heap.size = w3.heap.size := by simp
  obtain ⟨w4, hw6⟩ : ∃ W1, (w3.setCell ⟨n3, 0, none⟩ (.int .i64 2)) = W1 := ⟨_, rfl⟩
  rw [hw6] at h4 g4 B7 B8 HK zz ⊢
  clear hw6
  clear c0 f0 HB7 HB8 HC7 HF7 HK HA h3 h2
  have c3 := box_cell B7 3
  simp only [List.getElem?_toArray, List.getElem?_cons_succ, List.getElem?_cons_zero] at c3
  have hne0 : (Value.slice none 0 0).ownBlock ≠ some rb := by simp [Value.ownBlock]
  have hl7 := lt_heap B7
  have hl8 := lt_heap B8
  have hS : w4.drew.cell? ⟨n3, 3, none⟩ = some (.slice none 0 0) := c3
  refine wp_region_late (fun w' => w'.cell? ⟨n3, 3, none⟩ = some (.slice none 0 0)) 7 (by kernel_rfl) ?_
  refine AnyL.take 0 (.pointer (some ⟨n3, 3, none⟩)) rfl (by kernel_rfl) (by kernel_rfl) (by kernel_rfl) (by kernel_rfl) (fun _ _ _ h => h) (Or.inl ⟨by rfl, ?_⟩) (by assumption) ?_
  · intro W' hSw
    go_simp
  try simp only [Act.put, List.getElem_toArray, List.getElem_cons_zero, List.setIfInBounds_toArray, List.set_cons_zero, List.set_cons_succ]
  refine AnyL.take 1 (.slice none 0 0) rfl (by kernel_rfl) (by kernel_rfl) (by kernel_rfl) (by kernel_rfl) (fun _ _ _ h => h) (Or.inl ⟨by rfl, ?_⟩) (by assumption) ?_
  · intro W' hSw
    go_simp
  try simp only [Act.put, List.getElem_toArray, List.getElem_cons_zero, List.getElem_cons_succ, List.setIfInBounds_toArray, List.set_cons_zero, List.set_cons_succ]
  refine AnyL.take 2 (.pointer (some ⟨rb, 0, none⟩)) rfl (by kernel_rfl) (by kernel_rfl) (by kernel_rfl) (by kernel_rfl) (fun _ _ _ h => h) (Or.inl ⟨by rfl, ?_⟩) (by assumption) ?_
  · intro W' hSw
    go_simp
  try simp only [Act.put, List.getElem_toArray, List.getElem_cons_zero, List.getElem_cons_succ, List.setIfInBounds_toArray, List.set_cons_zero, List.set_cons_succ]
  refine AnyL.next 3 (by kernel_rfl) rfl (fun K hK => ?_)
  go_simp
  go_at_call 86
  refine (HII.out _ i1 h4.drew hd1).mono ?_
  rintro e2 w6 ⟨⟨vv, rfl, vl, rfl, hve, hoke⟩, ⟨i6, h6, hd6⟩, g6⟩
  obtain ⟨Al, cl, el, _⟩ := id hve
  subst el
  go_wp2_with fail
  have B76 := (g6.block (k := n3) (lt_heap B7) (by omega)).trans B7
  have s6 : w6.cell? ⟨n3, 3, none⟩ = some (.slice none 0 0) := box_cell B76 3
  refine hK.out _ _ (fun _ => s6) ?_
  clear hK K
  try simp only [Act.put, List.getElem_toArray, List.getElem_cons_zero, List.getElem_cons_succ, List.setIfInBounds_toArray, List.set_cons_zero, List.set_cons_succ]
  refine AnyL.next 4 (by kernel_rfl) rfl (fun K hK => ?_)
  go_simp
  have s6a : (w6.alloc (.cells #[.int .i64 v1.op, .int .i64 v1.n, .string v1.s, .slice Al v1.l.len cl] 43)).cell? ⟨n3, 3, none⟩ = some (.slice none 0 0) := box_cell ((Below.heap_alloc w6 (.cells #[.int .i64 v1.op, .int .i64 v1.n, .string v1.s, .slice Al v1.l.len cl] 43) n3 (lt_heap B76)).trans B76) 3
  refine hK.out _ _ (fun _ => s6a) ?_
  clear hK K
  try simp only [Act.put, List.getElem_toArray, List.getElem_cons_zero, List.getElem_cons_succ, List.setIfInBounds_toArray, List.set_cons_zero, List.set_cons_succ]
  refine AnyL.next 5 (by kernel_rfl) rfl (fun K hK => ?_)
  have zw6 := g6.size
  have zw6' : w4.drew.heap.size = w4.heap.size := rfl
  refine oper_append_at (by rfl) (.tmp 11) (.tmp 14) 41 rfl w4.heap.size 43 i0 _ 4 56 Tryd.underlying41 hi hz0 hz1 hz2 rfl (by decide) (.slice none 0 0) 0 ([]) rfl (((World.ownsRow_nil w4 w4.heap.size 43 4).kept ((Gr.drew (Gr.refl rb w4)).trans g6) (.inr hne0)).alloc _) ⟨w6.heap.size, 0, none⟩ 1 1 (news v1 Al cl) rfl rfl (news_cells w6 v1 Al cl) (news_one v1 Al cl) (by unfold maxLen; omega) (by omega) (by simp; omega) ?_
  intro v7 w7 hown7 hgrow7 _ hat7
  obtain ⟨h7, G7, K7, z7, hx7⟩ := sv_low (l := []) (wr := w4.drew) (L := w4.heap.size) (by omega) ((World.ownsRow_nil w4 w4.heap.size 43 4).kept (Gr.drew (Gr.refl rb w4)) (.inr hne0)) rfl g6 hve hoke h6 hgrow7 hat7 (by omega) (by omega)
  obtain ⟨A7, c7, e7⟩ := own_slice hown7
  subst e7
  have B77 := (K7 n3 (by omega) (by omega)).trans (show w4.drew.heap[n3]? = _ from B7)
  have s7 : w7.cell? ⟨n3, 3, none⟩ = some (.slice none 0 0) := box_cell B77 3
  have f7 := box_frozen B77 3
  refine hK.out _ _ (fun _ => s7) ?_
  clear hK K s6 s6a
  try simp only [Act.put, List.getElem_toArray, List.getElem_cons_zero, List.getElem_cons_succ, List.setIfInBounds_toArray, List.set_cons_zero, List.set_cons_succ]
  refine AnyL.take 6 (.pointer (some ⟨n3, 3, none⟩)) rfl (by kernel_rfl) (by kernel_rfl) (by kernel_rfl) (by kernel_rfl) (fun _ _ _ h => h) (Or.inl ⟨by rfl, ?_⟩) (by assumption) ?_
  · intro W' hSw
    go_simp
  try simp only [Act.put, List.getElem_toArray, List.getElem_cons_zero, List.getElem_cons_succ, List.setIfInBounds_toArray, List.set_cons_zero, List.set_cons_succ]
  refine AnyL.next 7 (by kernel_rfl) rfl (fun K hK => ?_)
  go_simp
  refine hK.out _ _ (fun e => absurd rfl e) ?_
  clear hK K
  try simp only [Act.put, List.getElem_toArray, List.getElem_cons_zero, List.getElem_cons_succ, List.setIfInBounds_toArray, List.set_cons_zero, List.set_cons_succ]
  refine AnyL.done (by kernel_rfl) ?_
  have hne7 : (Value.slice A7 (0 + 1) c7).ownBlock ≠ some n3 := fun e => by have := (hown7.lt n3 e).1; omega
  have hown8 := hown7.kept (Gr.set (rb := n3) (W := w7) 3 (.slice A7 (0 + 1) c7)) (.inr hne7)
  have hx8 := hx7.kp (W' := w7.setCell ⟨n3, 3, none⟩ (.slice A7 (0 + 1) c7)) (q := rowp w4.heap.size (.slice A7 (0 + 1) c7)) (by simp) (fun k hk hl => Below.heap_setCell w7 ⟨n3, 3, none⟩ _ k (show k ≠ n3 by have := hk.1; omega)) (fun k hk _ => hk)
  have h8 := h7.set (b := n3) (j := 3) (.slice A7 (0 + 1) c7) (by omega) (by omega)
  have G8 := Lib.hid (fun W' (hg : Gr rb W' w4.drew) (hw : W'.heap.size ≤ n3) => (G7 W' hg (by omega)).setNew (j := 3) (.slice A7 (0 + 1) c7) hw)
  have B7 := (set6_at (x := .slice A7 (0 + 1) c7) B77).2.2.1
  have K8 := Lib.hid (fun k (hk : k < w4.heap.size) (hr : k ≠ rb) (hn : k ≠ n3) => (Below.heap_setCell w7 ⟨n3, 3, none⟩ (.slice A7 (0 + 1) c7) k hn).trans (K7 k hk hr))
  have z8 : (w7.setCell ⟨n3, 3, none⟩ (.slice A7 (0 + 1) c7)).heap.size = w7.heap.size := by simp
  obtain ⟨w8, hw8⟩ : ∃ W1, w7.setCell ⟨n3, 3, none⟩ (.slice A7 (0 + 1) c7) = W1 := ⟨_, rfl⟩
  rw [hw8] at hown8 hx8 h8 G8 B7 K8 z8 ⊢
  clear hw8 f7 s7 hgrow7 hat7 hown7 hx7 B77 B76 G7 K7
  have B8 := (K8.out W.heap.size (by omega) (by omega) (by omega)).trans B8
  have g8 := G8.out W g4.drew (by omega)
  have hne8 : (Value.slice A7 (0 + 1) c7).ownBlock ≠ some rb := fun e => by have := (hown8.lt rb e).1; omega
  have zd : w4.drew.heap.size = w4.heap.size := rfl
  clear G8 K8 hne0 hS c3
  go_upto_region 6 with (go_at_call 68; ((with_reducible refine (HW.out _ i6 h8 hd6).mono ?_); rintro e2 w9 ⟨rfl, h9, g9⟩))
  have hd9 : T.drop (i6 + 1) = r2.tail := by rw [← hd6, drop_tail]
  have z9 := g9.size
  have B7 := (g9.block (lt_heap B7) (by omega)).trans B7
  have B8 := (g9.block (lt_heap B8) (by omega)).trans B8
  have hown9 := hown8.kept g9 (.inr hne8)
  have hx9 := hx8.kp (q := rowp w4.heap.size (.slice A7 (0 + 1) c7)) z9 (fun k hk hl => g9.block hl (by have := hk.1; omega)) (fun k hk _ => hk)
  have gA := g8.trans g9
  have c3 := box_cell B7 3
  simp only [List.getElem?_toArray, List.getElem?_cons_succ, List.getElem?_cons_zero] at c3
  have hne0 := hne8
  have hl7 := lt_heap B7
  have hl8 := lt_heap B8
  clear hown8 hx8 h8 g8 g9 g6 h6 h7 hve hoke
  have hS : w9.drew.cell? ⟨n3, 3, none⟩ = some (.slice A7 (0 + 1) c7) := c3
  refine wp_region_late (fun w' => w'.cell? ⟨n3, 3, none⟩ = some (.slice A7 (0 + 1) c7)) 7 (by kernel_rfl) ?_
  refine AnyL.take 0 (.pointer (some ⟨n3, 3, none⟩)) rfl (by kernel_rfl) (by kernel_rfl) (by kernel_rfl) (by kernel_rfl) (fun _ _ _ h => h) (Or.inl ⟨by rfl, ?_⟩) (by assumption) ?_
  · intro W' hSw
    go_simp
  try simp only [Act.put, List.getElem_toArray, List.getElem_cons_zero, List.setIfInBounds_toArray, List.set_cons_zero, List.set_cons_succ]
  refine AnyL.take 1 (.slice A7 (0 + 1) c7) rfl (by kernel_rfl) (by kernel_rfl) (by kernel_rfl) (by kernel_rfl) (fun _ _ _ h => h) (Or.inl ⟨by rfl, ?_⟩) (by assumption) ?_
  · intro W' hSw
    go_simp
  try simp only [Act.put, List.getElem_toArray, List.getElem_cons_zero, List.getElem_cons_succ, List.setIfInBounds_toArray, List.set_cons_zero, List.set_cons_succ]
  refine AnyL.take 2 (.pointer (some ⟨rb, 0, none⟩)) rfl (by kernel_rfl) (by kernel_rfl) (by kernel_rfl) (by kernel_rfl) (fun _ _ _ h => h) (Or.inl ⟨by rfl, ?_⟩) (by assumption) ?_
  · intro W' hSw
    go_simp
  try simp only [Act.put, List.getElem_toArray, List.getElem_cons_zero, List.getElem_cons_succ, List.setIfInBounds_toArray, List.set_cons_zero, List.set_cons_succ]
  refine AnyL.next 3 (by kernel_rfl) rfl (fun K hK => ?_)
  go_simp
  go_at_call 85
  refine (HEE.out _ (i6 + 1) h9.drew hd9).mono ?_
  rintro e2 x6 ⟨⟨vv, rfl, vl, rfl, hveb, hokeb⟩, ⟨i6b, h6b, hd6b⟩, g6b⟩
  obtain ⟨Alb, clb, el, _⟩ := id hveb
  subst el
  go_wp2_with fail
  have B76 := (g6b.block (k := n3) (lt_heap B7) (by omega)).trans B7
  have s6 : x6.cell? ⟨n3, 3, none⟩ = some (.slice A7 (0 + 1) c7) := box_cell B76 3
  refine hK.out _ _ (fun _ => s6) ?_
  clear hK K
  try simp only [Act.put, List.getElem_toArray, List.getElem_cons_zero, List.getElem_cons_succ, List.setIfInBounds_toArray, List.set_cons_zero, List.set_cons_succ]
  refine AnyL.next 4 (by kernel_rfl) rfl (fun K hK => ?_)
  go_simp
  have s6a : (x6.alloc (.cells #[.int .i64 v.op, .int .i64 v.n, .string v.s, .slice Alb v.l.len clb] 43)).cell? ⟨n3, 3, none⟩ = some (.slice A7 (0 + 1) c7) := box_cell ((Below.heap_alloc x6 (.cells #[.int .i64 v.op, .int .i64 v.n, .string v.s, .slice Alb v.l.len clb] 43) n3 (lt_heap B76)).trans B76) 3
  refine hK.out _ _ (fun _ => s6a) ?_
  clear hK K
  try simp only [Act.put, List.getElem_toArray, List.getElem_cons_zero, List.getElem_cons_succ, List.setIfInBounds_toArray, List.set_cons_zero, List.set_cons_succ]
  refine AnyL.next 5 (by kernel_rfl) rfl (fun K hK => ?_)
  have zw6 := g6b.size
  have zw6' : w9.drew.heap.size = w9.heap.size := rfl
  refine oper_append_at (by rfl) (.tmp 20) (.tmp 23) 41 rfl w4.heap.size 43 i0 _ 4 56 Tryd.underlying41 hi hz0 hz1 hz2 rfl (by decide) (.slice A7 (0 + 1) c7) (0 + 1) ([] ++ news v1 Al cl) rfl ((hown9.kept ((Gr.drew (Gr.refl rb w9)).trans g6b) (.inr hne0)).alloc _) ⟨x6.heap.size, 0, none⟩ 1 1 (news v Alb clb) rfl rfl (news_cells x6 v Alb clb) (news_one v Alb clb) (by unfold maxLen; omega) (by omega) (by simp; omega) ?_
  intro v7 x7 hown7 hgrow7 _ hat7
  obtain ⟨h7, G7, K7, z7, hx7⟩ := sv_low (l := [v1]) (wr := w9.drew) (L := w4.heap.size) (by omega) (hown9.kept (Gr.drew (Gr.refl rb w9)) (.inr hne0)) (xCs.kp (p := rowp w4.heap.size (.slice A7 (0 + 1) c7)) (W := w9) (W' := w9.drew) (q := rowp w4.heap.size (.slice A7 (0 + 1) c7)) (Nat.le_refl _) (fun _ _ _ => rfl) (fun _ h _ => h) hx9) g6b hveb hokeb h6b hgrow7 hat7 (by omega) (by omega)
  obtain ⟨A7b, c7b, e7⟩ := own_slice hown7
  subst e7
  have B77 := (K7 n3 (by omega) (by omega)).trans (show w9.drew.heap[n3]? = _ from B7)
  have s7 : x7.cell? ⟨n3, 3, none⟩ = some (.slice A7 (0 + 1) c7) := box_cell B77 3
  have f7 := box_frozen B77 3
  refine hK.out _ _ (fun _ => s7) ?_
  clear hK K s6 s6a
  try simp only [Act.put, List.getElem_toArray, List.getElem_cons_zero, List.getElem_cons_succ, List.setIfInBounds_toArray, List.set_cons_zero, List.set_cons_succ]
  refine AnyL.take 6 (.pointer (some ⟨n3, 3, none⟩)) rfl (by kernel_rfl) (by kernel_rfl) (by kernel_rfl) (by kernel_rfl) (fun _ _ _ h => h) (Or.inl ⟨by rfl, ?_⟩) (by assumption) ?_
  · intro W' hSw
    go_simp
  try simp only [Act.put, List.getElem_toArray, List.getElem_cons_zero, List.getElem_cons_succ, List.setIfInBounds_toArray, List.set_cons_zero, List.set_cons_succ]
  refine AnyL.next 7 (by kernel_rfl) rfl (fun K hK => ?_)
  go_simp
  refine hK.out _ _ (fun e => absurd rfl e) ?_
  clear hK K
  try simp only [Act.put, List.getElem_toArray, List.getElem_cons_zero, List.getElem_cons_succ, List.setIfInBounds_toArray, List.set_cons_zero, List.set_cons_succ]
  refine AnyL.done (by kernel_rfl) ?_
  have hne7 : (Value.slice A7b ((0 + 1) + 1) c7b).ownBlock ≠ some n3 := fun e => by have := (hown7.lt n3 e).1; omega
  have hown8b := hown7.kept (Gr.set (rb := n3) (W := x7) 3 (.slice A7b ((0 + 1) + 1) c7b)) (.inr hne7)
  have hx8b := hx7.kp (W' := x7.setCell ⟨n3, 3, none⟩ (.slice A7b ((0 + 1) + 1) c7b)) (q := rowp w4.heap.size (.slice A7b ((0 + 1) + 1) c7b)) (by simp) (fun k hk hl => Below.heap_setCell x7 ⟨n3, 3, none⟩ _ k (show k ≠ n3 by have := hk.1; omega)) (fun k hk _ => hk)
  have h8b := h7.set (b := n3) (j := 3) (.slice A7b ((0 + 1) + 1) c7b) (by omega) (by omega)
  have G8b := Lib.hid (fun W' (hg : Gr rb W' w9.drew) (hw : W'.heap.size ≤ n3) => (G7 W' hg (by omega)).setNew (j := 3) (.slice A7b ((0 + 1) + 1) c7b) hw)
  have B7 := (set6_at (x := .slice A7b ((0 + 1) + 1) c7b) B77).2.2.1
  have K8b := Lib.hid (fun k (hk : k < w4.heap.size) (hr : k ≠ rb) (hn : k ≠ n3) => (Below.heap_setCell x7 ⟨n3, 3, none⟩ (.slice A7b ((0 + 1) + 1) c7b) k hn).trans (K7 k hk hr))
  have z8b : (x7.setCell ⟨n3, 3, none⟩ (.slice A7b ((0 + 1) + 1) c7b)).heap.size = x7.heap.size := by simp
  obtain ⟨x8, hw8⟩ : ∃ W1, x7.setCell ⟨n3, 3, none⟩ (.slice A7b ((0 + 1) + 1) c7b) = W1 := ⟨_, rfl⟩
  rw [hw8] at hown8b hx8b h8b G8b B7 K8b z8b ⊢
  clear hw8 f7 s7 hgrow7 hat7 hown7 hx7 B77 B76 G7 K7
  have B8 := (K8b.out W.heap.size (by omega) (by omega) (by omega)).trans B8
  have g8 := G8b.out W gA.drew (by omega)
  have hL : EX w4.heap.size x8 (.slice A7b (0 + 1 + 1) c7b) (toES v1 (toES v .nil)) := row_ex (l := [v1, v]) hown8b (Nat.le_refl _) hx8b (fun k hk => hk.1) rfl
  have c0 := box_cell B8 0
  have f0 := box_frozen B8 0
  have d0 := box_cell B7 0
  have c1 := box_cell B8 1
  have f1 := box_frozen B8 1
  have d1 := box_cell B7 1
  have c2 := box_cell B8 2
  have f2 := box_frozen B8 2
  have d2 := box_cell B7 2
  have c3 := box_cell B8 3
  have f3 := box_frozen B8 3
  have d3 := box_cell B7 3
  have c4 := box_cell B8 4
  have f4 := box_frozen B8 4
  have d4 := box_cell B7 4
  have c5 := box_cell B8 5
  have f5 := box_frozen B8 5
  have d5 := box_cell B7 5
  simp only [List.getElem?_toArray, List.getElem?_cons_succ, List.getElem?_cons_zero] at c0 d0 c1 d1 c2 d2 c3 d3 c4 d4 c5 d5
  have hP := put6_heap (a := .int .i64 2) (b := .string s) (c := .int .i64 0) (d := .slice A7b (0 + 1 + 1) c7b) (x := .slice none 0 0) (y := .slice none 0 0) B8
  have hfin : TP rb g N cT o T W (.ok ⟨2, s, 0, toES v1 (toES v .nil), .nil, .nil⟩ r3) (.returned (.agg #[.int .i64 2, .string s, .int .i64 0, .slice A7b (0 + 1 + 1) c7b, .slice none 0 0, .slice none 0 0])) (Proofs.YtaajolemjgdfnaaDoor.put6 x8 W.heap.size (.int .i64 2) (.string s) (.int .i64 0) (.slice A7b (0 + 1 + 1) c7b) (.slice none 0 0) (.slice none 0 0)) :=
    ⟨⟨_, rfl, _, _, _, rfl, hL.kp (Kp.put6 (by omega)) (by omega), sx_nil _ _, sx_nil _ _, (show I64 2 by unfold I64; omega), i64_0, hsz⟩, ⟨i6b, h8b.put6 (by omega) (by omega), hd6b⟩, g8.put6 (Nat.le_refl _)⟩
  go_wp2
  obtain ⟨wz, hwz⟩ : ∃ W5, (Proofs.YtaajolemjgdfnaaDoor.put6 x8 W.heap.size (.int .i64 2) (.string s) (.int .i64 0) (.slice A7b (0 + 1 + 1) c7b) (.slice none 0 0) (.slice none 0 0)) = W5 := ⟨_, rfl⟩
  show bodyPost _ _ _ _ _ (Proofs.YtaajolemjgdfnaaDoor.put6 x8 W.heap.size (.int .i64 2) (.string s) (.int .i64 0) (.slice A7b (0 + 1 + 1) c7b) (.slice none 0 0) (.slice none 0 0))
  rw [hwz] at hP hfin ⊢
  have p0 := box_cell hP 0
  have p1 := box_cell hP 1
  have p2 := box_cell hP 2
  have p3 := box_cell hP 3
  have p4 := box_cell hP 4
  have p5 := box_cell hP 5
  simp only [List.getElem?_toArray, List.getElem?_cons_succ, List.getElem?_cons_zero] at p0 p1 p2 p3 p4 p5
  exact bodyPost_ret (v := .agg #[.int .i64 2, .string s, .int .i64 0, .slice A7b (0 + 1 + 1) c7b, .slice none 0 0, .slice none 0 0]) (by simp [results, Tryd.results82, go_sem, p0, p1, p2, p3, p4, p5]) rfl hfin


end Go.Proofs.YtaajolemjgdfnaaDoor

/-
  Package parse: numbers, store, while and if, each whole; a statement leaves fewer tokens.
-/
namespace Go.Proofs.YtaajolemjgdfnaaDoor
open Go Go.RowKit Go.Lib

section
variable {α β : Type}
/-- If it is told, what is left is shorter than k. -/
def Ls (k : Nat) (x : PR α) : Prop := match x with | .ok _ r => r.length < k | .bad _ _ => True | .out => True
theorem Ls.of {j k : Nat} {x : PR α} (h : Lq j x) (hk : j < k) : Ls k x := by
  cases x with
  | ok v r => exact Nat.lt_of_le_of_lt h hk
  | bad p c => trivial
  | out => trivial
theorem Ls.le {k : Nat} {x : PR α} (h : Ls k x) : Lq k x := by
  cases x with
  | ok v r => exact Nat.le_of_lt h
  | bad p c => trivial
  | out => trivial
theorem Fn'.ls {k : Nat} {x : PR α} (h : Fn' k x) : Ls k x := by
  cases x with
  | ok v r => exact h
  | bad p c => trivial
  | out => trivial
theorem Ls.bind {k : Nat} {x : PR α} {f : α → List Tok → PR β} (h : Ls k x) (hf : ∀ v r, r.length < k → Ls k (f v r)) : Ls k (x.bind f) := by
  cases x with
  | ok v r => exact hf v r h
  | bad p c => trivial
  | out => trivial
end
theorem tell_lq (n : Nat) (op : Int) (o : Nat) (ts : List Tok) : Lq ts.length (tellT n op o ts) := (expr_lq n 1 o ts).bind fun _ _ hr => hr
theorem semi_lq {k : Nat} {x : PR Sm} (h : Lq k x) : Lq k (semiT x) := h.bind fun _ r hr => ((want_lq _ r).mono hr).bind fun _ _ hr => hr
theorem body_lq {one : List Tok → PR Sm} (h1 : ∀ ts, Lq ts.length (one ts)) : ∀ m l ts, Lq ts.length (bodyT one m l ts)
  | 0, _, _ => trivial
  | m + 1, l, ts => by
    unfold bodyT
    split
    · exact (want_lq _ ts).bind fun _ _ hr => hr
    · exact (h1 ts).bind fun _ r hr => (body_lq h1 m _ r).mono hr
theorem block_lq {one : List Tok → PR Sm} (h1 : ∀ ts, Lq ts.length (one ts)) (m o : Nat) (ts : List Tok) : Lq ts.length (blockT one m o ts) := (enter_lq _ o ts).bind fun _ r hr => (body_lq h1 m [] r).mono hr
theorem store_ls (n o : Nat) (ts : List Tok) : Ls ts.length (storeT n o ts) := by
  unfold storeT
  refine (name_fn ts).ls.bind fun s r hr => ?_
  split
  · exact Ls.of ((within_lq (expr_lq n) [91] [93] o r).bind fun i r' h' => ((want_lq _ r').mono h').bind fun _ r2 h2 => ((expr_lq n 1 o r2).mono h2).bind fun _ _ h3 => h3) hr
  · exact Ls.of ((want_lq _ r).bind fun _ r2 h2 => ((expr_lq n 1 o r2).mono h2).bind fun _ _ h3 => h3) hr
theorem stmt_ls : ∀ n o ts, Ls ts.length (smT n o ts)
  | 0, _, _ => trivial
  | n + 1, o, ts => by
    have IH : ∀ ts, Lq ts.length (smT n (o + 1) ts) := fun ts => (stmt_ls n (o + 1) ts).le
    unfold smT
    split
    · exact Ls.of (semi_lq ((name_lq ts.tail).bind fun s r hr => ((num_lq _ _ r).mono hr).bind fun _ _ h => h)) (tail_lt (ts_ne (ts := ts) (by assumption) (by decide)))
    · split
      · exact Ls.of (semi_lq ((name_lq ts.tail).bind fun s r hr => hr)) (tail_lt (ts_ne (ts := ts) (by assumption) (by decide)))
      · split
        · exact Ls.of (semi_lq (tell_lq _ _ _ _)) (tail_lt (ts_ne (ts := ts) (by assumption) (by decide)))
        · split
          · exact Ls.of (semi_lq (tell_lq _ _ _ _)) (tail_lt (ts_ne (ts := ts) (by assumption) (by decide)))
          · split
            · exact Ls.of (semi_lq (tell_lq _ _ _ _)) (tail_lt (ts_ne (ts := ts) (by assumption) (by decide)))
            · split
              · refine Ls.of (k := ts.length) ((tell_lq _ _ _ ts.tail).bind fun t r hr => ((block_lq IH _ _ r).mono hr).bind fun b r hr => ?_) (tail_lt (ts_ne (ts := ts) (by assumption) (by decide)))
                split
                · exact ((block_lq IH _ _ r.tail).mono (Nat.le_trans (by simp) hr)).bind fun _ _ h => h
                · exact hr
              · split
                · exact Ls.of ((tell_lq _ _ _ ts.tail).bind fun t r hr => ((block_lq IH _ _ r).mono hr).bind fun b r hr => hr) (tail_lt (ts_ne (ts := ts) (by assumption) (by decide)))
                · exact (store_ls (n + 1) o ts).bind fun t r hr => Ls.of ((want_lq _ r).bind fun _ _ h => h) hr
theorem stmt_left {n o : Nat} {ts : List Tok} {v : Sm} {r : List Tok} (h : smT n o ts = .ok v r) : r.length < ts.length := by
  have h1 := stmt_ls n o ts
  rw [h] at h1
  exact h1
theorem outer_left {n o : Nat} {ts : List Tok} {v : Sm} {r : List Tok} (h : outerT n o ts = .ok v r) : r.length < ts.length := by
  have h1 : Ls ts.length (outerT n o ts) := (stmt_ls n o ts).bind fun t r hr => by
    split
    · trivial
    · exact hr
  rw [h] at h1
  exact h1

/-- What a call that reads a number has done. -/
def UP (rb g N cT o : Nat) (T : List Tok) (W : World) (x : PR Int) (e : Ending) (W' : World) : Prop :=
  match x with
  | .ok n r => e = .returned (.int .i64 n) ∧ (∃ i, Rd W' rb g N cT T i o ∧ T.drop i = r) ∧ Gr rb W W'
  | .bad p c => e = flt p c ∧ Gr rb W W'
  | .out => True
theorem numb_any {W : World} {rb g N cT i o : Nat} {T : List Tok} (h : Rd W rb g N cT T i o) (low high : Int) :
    Calls Tryd.prog 78 #[.pointer (some ⟨rb, 0, none⟩), .int .i64 low, .int .i64 high] W (UP rb g N cT o T W (numT low high (T.drop i))) := by
  unfold numT
  by_cases hk : (hdT (T.drop i)).kind = 2
  · rw [if_pos hk]
    cases hn : parseL (hdT (T.drop i)).text with
    | none => exact (num_none h low high hk hn _ rfl).mono fun e w1 ⟨h1, h2⟩ => ⟨h1, Gr.of h2⟩
    | some n =>
      by_cases hr : n < low ∨ high < n
      · simp only [if_pos hr]
        exact (num_out h low high n hk hn hr _ rfl).mono fun e w1 ⟨h1, h2⟩ => ⟨h1, Gr.of h2⟩
      · simp only [if_neg hr]
        exact (num_yes h low high n hk hn (by omega)).mono fun e w1 ⟨h1, h2, h3⟩ => ⟨h1, ⟨i + 1, h2, (drop_tail T i).symm⟩, h3⟩
  · rw [if_neg hk]
    exact (num_kind h low high hk _ rfl).mono fun e w1 ⟨h1, h2⟩ => ⟨h1, Gr.of h2⟩

theorem want_is (s : List UInt8) (ts : List Tok) (h : isT ts s = true) : wantT s ts = .ok () ts.tail := by rw [wantT, if_pos h]
theorem want_isnt (s : List UInt8) (ts : List Tok) (h : isT ts s = false) : wantT s ts = .bad (hdT ts).at_ 2 := by rw [wantT, if_neg (by rw [h]; decide)]

section
variable {W : World} {rb g N cT i o : Nat} {T : List Tok}
/-- The method store, whole. -/
theorem store_any (h : Rd W rb g N cT T i o) (n : Nat) (hx : storeT n o (T.drop i) ≠ .out) :
    Calls Tryd.prog 82 #[.pointer (some ⟨rb, 0, none⟩)] W (TP rb g N cT o T W (storeT n o (T.drop i))) := by
  have HEX : ∀ (r : List Tok) (x : PR Ex), exT n 1 o r = x → x ≠ .out → ∀ W2 i', Rd W2 rb g N cT T i' o → T.drop i' = r → Calls Tryd.prog 85 #[.pointer (some ⟨rb, 0, none⟩)] W2 (XP rb g N cT o T W2 x) := by
    intro r x hr hne W2 i' h2 hd
    have := expression_any h2 n (by rw [hd, hr]; exact hne)
    rw [hd, hr] at this
    exact this
  unfold storeT at hx ⊢
  cases hv : nameT (T.drop i) with
  | out => exact absurd hv (nam_ne _)
  | bad p c => exact store_name h p c hv
  | ok s r1 =>
    rw [hv] at hx
    simp only [PR.bind] at hx ⊢
    cases b1 : isT r1 [91] with
    | false =>
      rw [b1, if_neg (by decide)] at hx
      rw [if_neg (by decide)]
      cases b2 : isT r1 [61] with
      | false =>
        rw [want_isnt _ _ b2]
        exact store_B1 h s r1 hv b1 b2
      | true =>
        rw [want_is _ _ b2] at hx ⊢
        simp only at hx ⊢
        cases hxv : exT n 1 o r1.tail with
        | out => rw [hxv] at hx; exact absurd rfl hx
        | bad p c => exact store_B2 h s r1 hv b1 b2 p c (HEX _ _ hxv (fun e => by cases e))
        | ok v r3 => exact store_B3 h s r1 hv b1 b2 v r3 (HEX _ _ hxv (fun e => by cases e))
    | true =>
      rw [b1, if_pos rfl] at hx
      rw [if_pos rfl]
      have hw : withinT (exT n) [91] [93] o r1 ≠ .out := fun e => by rw [e] at hx; exact absurd rfl hx
      have HW : ∀ W2 i', Rd W2 rb g N cT T i' o → T.drop i' = r1 → Calls Tryd.prog 86 #[.pointer (some ⟨rb, 0, none⟩), .string ⟨#[91]⟩, .string ⟨#[93]⟩] W2 (XP rb g N cT o T W2 (withinT (exT n) [91] [93] o r1)) := by
        intro W2 i' h2 hd
        have := inside_any h2 [91] [93] (by decide) (by decide) (by rw [hd]; exact b1) n (fun ho e => hw (by
          rw [← drop_tail, hd] at e
          simp [withinT, enterT, b1, PR.bind, show o ≠ 256 by omega, e]))
        rw [hd] at this
        exact this
      cases hwv : withinT (exT n) [91] [93] o r1 with
      | out => exact absurd hwv hw
      | bad p c =>
        rw [hwv] at HW
        exact store_C0 h s r1 hv b1 p c HW
      | ok v1 r2 =>
        rw [hwv] at HW hx
        simp only at hx ⊢
        cases b2 : isT r2 [61] with
        | false =>
          rw [want_isnt _ _ b2]
          exact store_C1 h s r1 hv b1 v1 r2 HW b2
        | true =>
          rw [want_is _ _ b2] at hx ⊢
          simp only at hx ⊢
          cases hxv : exT n 1 o r2.tail with
          | out => rw [hxv] at hx; exact absurd rfl hx
          | bad p c => exact store_C2 h s r1 hv b1 v1 r2 HW b2 p c (HEX _ _ hxv (fun e => by cases e))
          | ok v r3 => exact store_C3 h s r1 hv b1 v1 r2 HW b2 v r3 (HEX _ _ hxv (fun e => by cases e))

/-- What while and if tell behind their keyword. -/
def loopS (n o : Nat) (ts : List Tok) : PR Sm := (tellT (n + 1) 8 o ts).bind fun t r => (blockT (smT n (o + 1)) (n + 1) o r).bind fun b r => .ok ⟨8, nilS, 0, t.l, smSS b, .nil⟩ r
def choiceS (n o : Nat) (ts : List Tok) : PR Sm :=
  (tellT (n + 1) 7 o ts).bind fun t r => (blockT (smT n (o + 1)) (n + 1) o r).bind fun b r =>
    if isT r [101, 108, 115, 101] then (blockT (smT n (o + 1)) (n + 1) o r.tail).bind fun c r => .ok ⟨7, nilS, 0, t.l, smSS b, smSS c⟩ r
    else .ok ⟨7, nilS, 0, t.l, smSS b, .nil⟩ r
theorem tell_form {n : Nat} {op : Int} {ts r : List Tok} {t : Sm} (h : tellT n op o ts = .ok t r) : ∃ e, t = ⟨op, nilS, 0, toES e .nil, .nil, .nil⟩ := by
  unfold tellT at h
  cases hv : exT n 1 o ts with
  | out => rw [hv] at h; cases h
  | bad p c => rw [hv] at h; cases h
  | ok v r2 =>
    rw [hv] at h
    simp only [PR.bind] at h
    injection h with h1 h2
    exact ⟨v, h1.symm⟩

section
variable (n : Nat) (HST : ∀ W2 i', Rd W2 rb g N cT T i' (o + 1) → smT n (o + 1) (T.drop i') ≠ .out → Calls Tryd.prog 72 #[.pointer (some ⟨rb, 0, none⟩)] W2 (TP rb g N cT (o + 1) T W2 (smT n (o + 1) (T.drop i'))))
include HST
theorem blk_at (r : List Tok) (x : PR (List Sm)) (hr : blockT (smT n (o + 1)) (n + 1) o r = x) (hne : x ≠ .out) : ∀ W2 i', Rd W2 rb g N cT T i' o → T.drop i' = r →
    Calls Tryd.prog 71 #[.pointer (some ⟨rb, 0, none⟩), .func (.func 72) #[.pointer (some ⟨rb, 0, none⟩)] #[]] W2 (BP rb g N cT o T W2 x) := by
  intro W2 i' h2 hd
  have := block_any h2 (smT n (o + 1)) (n + 1) (by rw [hd, hr]; exact hne) (fun j v r h => stmt_left h) HST
  rw [hd, hr] at this
  exact this
theorem loop_any (h : Rd W rb g N cT T i o) (hx : loopS n o (T.drop i) ≠ .out) :
    Calls Tryd.prog 81 #[.pointer (some ⟨rb, 0, none⟩)] W (TP rb g N cT o T W (loopS n o (T.drop i))) := by
  unfold loopS at hx ⊢
  have HT : tellT (n + 1) 8 o (T.drop i) ≠ .out → ∀ W2, Rd W2 rb g N cT T i o → Calls Tryd.prog 79 #[.pointer (some ⟨rb, 0, none⟩), .int .i64 8] W2 (TP rb g N cT o T W2 (tellT (n + 1) 8 o (T.drop i))) :=
    fun hne W2 h2 => tell_any h2 8 (by unfold I64; omega) (n + 1) (fun e => hne (by rw [tellT, e]; rfl))
  cases hv : tellT (n + 1) 8 o (T.drop i) with
  | out => rw [hv] at hx; exact absurd rfl hx
  | bad p c =>
    rw [hv] at HT
    exact loop_bad1 h p c (HT (fun e => by cases e))
  | ok t r1 =>
    rw [hv] at HT hx
    simp only [PR.bind] at hx ⊢
    have HT := HT (fun e => by cases e)
    obtain ⟨e, rfl⟩ := tell_form hv
    cases hb : blockT (smT n (o + 1)) (n + 1) o r1 with
    | out => rw [hb] at hx; exact absurd rfl hx
    | bad p c => exact loop_bad2' h _ r1 p c HT (blk_at n HST _ _ hb (fun e => by cases e))
    | ok l r => exact loop_ok h _ l r1 r HT (blk_at n HST _ _ hb (fun e => by cases e))
theorem choice_any (h : Rd W rb g N cT T i o) (hx : choiceS n o (T.drop i) ≠ .out) :
    Calls Tryd.prog 80 #[.pointer (some ⟨rb, 0, none⟩)] W (TP rb g N cT o T W (choiceS n o (T.drop i))) := by
  unfold choiceS at hx ⊢
  have HT : tellT (n + 1) 7 o (T.drop i) ≠ .out → ∀ W2, Rd W2 rb g N cT T i o → Calls Tryd.prog 79 #[.pointer (some ⟨rb, 0, none⟩), .int .i64 7] W2 (TP rb g N cT o T W2 (tellT (n + 1) 7 o (T.drop i))) :=
    fun hne W2 h2 => tell_any h2 7 (by unfold I64; omega) (n + 1) (fun e => hne (by rw [tellT, e]; rfl))
  cases hv : tellT (n + 1) 7 o (T.drop i) with
  | out => rw [hv] at hx; exact absurd rfl hx
  | bad p c =>
    rw [hv] at HT
    exact choice_bad1 h p c (HT (fun e => by cases e))
  | ok t r1 =>
    rw [hv] at HT hx
    simp only [PR.bind] at hx ⊢
    have HT := HT (fun e => by cases e)
    obtain ⟨e, rfl⟩ := tell_form hv
    cases hb : blockT (smT n (o + 1)) (n + 1) o r1 with
    | out => rw [hb] at hx; exact absurd rfl hx
    | bad p c => exact choice_bad2 h _ p c r1 HT (blk_at n HST _ _ hb (fun e => by cases e))
    | ok l r =>
      have HB := blk_at n HST _ _ hb (fun e => by cases e)
      rw [hb] at hx
      simp only at hx ⊢
      cases be : isT r [101, 108, 115, 101] with
      | false =>
        rw [if_neg (by decide)]
        exact choice_ok1 h _ l r1 r be HT HB
      | true =>
        rw [be, if_pos rfl] at hx
        rw [if_pos rfl]
        cases hb2 : blockT (smT n (o + 1)) (n + 1) o r.tail with
        | out => rw [hb2] at hx; exact absurd rfl hx
        | bad p c => exact choice_bad3 h _ p c l r1 r be HT HB (blk_at n HST _ _ hb2 (fun e => by cases e))
        | ok l2 r2 => exact choice_ok2 h _ l l2 r1 r r2 be HT HB (blk_at n HST _ _ hb2 (fun e => by cases e))
end
end

end Go.Proofs.YtaajolemjgdfnaaDoor

