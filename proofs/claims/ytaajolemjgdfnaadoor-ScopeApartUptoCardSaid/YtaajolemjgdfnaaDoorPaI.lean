/-
  Texts PaH PaI: put together.
-/
import Derived.Test.YtaajolemjgdfnaaDoorPaG
/-
  Package parse: what operations of two stand between (single), way by way.
-/
namespace Go.Proofs.YtaajolemjgdfnaaDoor
open Go Go.RowKit Go.Lib
attribute [local go_sem high] run_tok0 run_tok1 run_tok2

set_option maxRecDepth 100000 in
theorem sg_neg_ok {W : World} {rb g N cT i o : Nat} {T : List Tok} (h : Rd W rb g N cT T i o) (b0 : isT (T.drop i) [45] = true) (v : Ex) (r : List Tok)
    (HS : ∀ W2, Rd W2 rb g N cT T i o → Calls Tryd.prog 90 #[.pointer (some ⟨rb, 0, none⟩), .int .i64 6, .string ⟨#[45]⟩] W2 (XP rb g N cT o T W2 (.ok v r))) :
    Calls Tryd.prog 88 #[.pointer (some ⟨rb, 0, none⟩)] W (XP rb g N cT o T W (.ok v r)) := by
  have HI0 := Lib.hid (fun w1 (h1 : Below W.heap.size W w1) => (show Calls Tryd.prog 53 #[.pointer (some ⟨rb, 0, none⟩), .string ⟨#[45]⟩] w1 fun e w' => e = .returned (.bool true) ∧ Below w1.heap.size w1 w' from is_any (h.below h1) [45] true b0))
  have HSS := Lib.hid HS
  have HR := Lib.hid (fun w1 (h1 : Below W.heap.size W w1) => h.below h1)
  have hrl := h.rlt
  have hgl := h.tok.1
  have q0 : Below W.heap.size W (W.alloc (.cells #[.int .i64 0, .int .i64 0, .string ⟨#[]⟩, .slice none 0 0] 43)) := (Below.refl _ _).alloc (Nat.le_refl _) _
  have B6 := heap_alloc_new W (.cells #[.int .i64 0, .int .i64 0, .string ⟨#[]⟩, .slice none 0 0] 43)
  have z0 : (W.alloc (.cells #[.int .i64 0, .int .i64 0, .string ⟨#[]⟩, .slice none 0 0] 43)).heap.size = W.heap.size + 1 := by simp
  clear HS h b0
  go_enter Tryd.func88, Tryd.ntmps88
  go_upto_region 1 with fail
  obtain ⟨w0, hw0⟩ : ∃ W1, W.alloc (.cells #[.int .i64 0, .int .i64 0, .string ⟨#[]⟩, .slice none 0 0] 43) = W1 := ⟨_, rfl⟩
  rw [hw0] at B6 q0 z0 ⊢
  clear hw0
  have t0 : Below w0.heap.size w0 w0 := Below.refl _ _
  go_wp2_with (first
    | (go_at_call 53; ((with_reducible refine (HI0.out _ q0).mono ?_); rintro e w1 ⟨rfl, e1⟩; have q1 := q0.trans (e1.mono q0.size); have t1 := t0.trans (e1.mono t0.size)))
    | (go_at_call 90; ((with_reducible refine (HSS.out _ (HR.out _ q1)).mono ?_); rintro e w9 ⟨⟨vv, rfl, vl, rfl, hv, hok⟩, ⟨i', h9, hd⟩, g9⟩; obtain ⟨Al, cl, el, _⟩ := id hv; subst el; have y9 := t1.size; have B9 := (g9.block (k := W.heap.size) (by omega) (by omega)).trans ((t1.block W.heap.size (by omega)).trans B6); have c0 := box_cell B9 0; have c1 := box_cell B9 1; have c2 := box_cell B9 2; have c3 := box_cell B9 3; have f0 := box_frozen B9 0; have f1 := box_frozen B9 1; have f2 := box_frozen B9 2; have f3 := box_frozen B9 3; simp at c0 c1 c2 c3)))
  have hP := ret4 (a := .int .i64 v.op) (b := .int .i64 v.n) (c := .string v.s) (d := .slice Al v.l.len cl) B9
  have hz := q1.size
  have hz9 := g9.size
  have hfin : XP rb g N cT o T W (.ok v r) (.returned (.agg #[.int .i64 v.op, .int .i64 v.n, .string v.s, .slice Al v.l.len cl])) (put4 w9 W.heap.size (.int .i64 v.op) (.int .i64 v.n) (.string v.s) (.slice Al v.l.len cl)) :=
    ⟨⟨_, rfl, _, rfl, hv.kp (Kp.put4 (by omega)) (by omega), hok⟩, ⟨i', h9.put4 (by omega) (by omega), hd⟩, ((Gr.of q1).trans g9).put4 (Nat.le_refl _)⟩
  obtain ⟨w5, hw5⟩ : ∃ W5, put4 w9 W.heap.size (.int .i64 v.op) (.int .i64 v.n) (.string v.s) (.slice Al v.l.len cl) = W5 := ⟨_, rfl⟩
  show bodyPost _ _ _ _ _ (put4 w9 W.heap.size (.int .i64 v.op) (.int .i64 v.n) (.string v.s) (.slice Al v.l.len cl))
  rw [hw5] at hP hfin ⊢
  have p0 := hP 0 (by decide)
  have p1 := hP 1 (by decide)
  have p2 := hP 2 (by decide)
  have p3 := hP 3 (by decide)
  exact bodyPost_ret (v := .agg #[.int .i64 v.op, .int .i64 v.n, .string v.s, .slice Al v.l.len cl]) (by simp [results, Tryd.results88, go_sem, p0, p1, p2, p3]) rfl hfin

set_option maxRecDepth 100000 in
theorem sg_neg_bad {W : World} {rb g N cT i o : Nat} {T : List Tok} (h : Rd W rb g N cT T i o) (b0 : isT (T.drop i) [45] = true) (p c : Nat)
    (HS : ∀ W2, Rd W2 rb g N cT T i o → Calls Tryd.prog 90 #[.pointer (some ⟨rb, 0, none⟩), .int .i64 6, .string ⟨#[45]⟩] W2 (XP rb g N cT o T W2 (.bad p c))) :
    Calls Tryd.prog 88 #[.pointer (some ⟨rb, 0, none⟩)] W (XP rb g N cT o T W (.bad p c)) := by
  have HI0 := Lib.hid (fun w1 (h1 : Below W.heap.size W w1) => (show Calls Tryd.prog 53 #[.pointer (some ⟨rb, 0, none⟩), .string ⟨#[45]⟩] w1 fun e w' => e = .returned (.bool true) ∧ Below w1.heap.size w1 w' from is_any (h.below h1) [45] true b0))
  have HSS := Lib.hid HS
  have HR := Lib.hid (fun w1 (h1 : Below W.heap.size W w1) => h.below h1)
  have hrl := h.rlt
  have hgl := h.tok.1
  have q0 : Below W.heap.size W (W.alloc (.cells #[.int .i64 0, .int .i64 0, .string ⟨#[]⟩, .slice none 0 0] 43)) := (Below.refl _ _).alloc (Nat.le_refl _) _
  have B6 := heap_alloc_new W (.cells #[.int .i64 0, .int .i64 0, .string ⟨#[]⟩, .slice none 0 0] 43)
  have z0 : (W.alloc (.cells #[.int .i64 0, .int .i64 0, .string ⟨#[]⟩, .slice none 0 0] 43)).heap.size = W.heap.size + 1 := by simp
  clear HS h b0
  go_enter Tryd.func88, Tryd.ntmps88
  go_upto_region 1 with fail
  obtain ⟨w0, hw0⟩ : ∃ W1, W.alloc (.cells #[.int .i64 0, .int .i64 0, .string ⟨#[]⟩, .slice none 0 0] 43) = W1 := ⟨_, rfl⟩
  rw [hw0] at B6 q0 z0 ⊢
  clear hw0
  have t0 : Below w0.heap.size w0 w0 := Below.refl _ _
  go_wp2_with (first
    | (go_at_call 53; ((with_reducible refine (HI0.out _ q0).mono ?_); rintro e w1 ⟨rfl, e1⟩; have q1 := q0.trans (e1.mono q0.size); have t1 := t0.trans (e1.mono t0.size)))
    | (go_at_call 90; ((with_reducible refine (HSS.out _ (HR.out _ q1)).mono ?_); rintro e w9 ⟨rfl, g9⟩)))
  exact ⟨rfl, rfl, (Gr.of q1).trans g9⟩

set_option maxRecDepth 100000 in
theorem sg_not_ok {W : World} {rb g N cT i o : Nat} {T : List Tok} (h : Rd W rb g N cT T i o) (b0 : isT (T.drop i) [45] = false) (b1 : isT (T.drop i) [33] = true) (v : Ex) (r : List Tok)
    (HS : ∀ W2, Rd W2 rb g N cT T i o → Calls Tryd.prog 90 #[.pointer (some ⟨rb, 0, none⟩), .int .i64 7, .string ⟨#[33]⟩] W2 (XP rb g N cT o T W2 (.ok v r))) :
    Calls Tryd.prog 88 #[.pointer (some ⟨rb, 0, none⟩)] W (XP rb g N cT o T W (.ok v r)) := by
  have HI0 := Lib.hid (fun w1 (h1 : Below W.heap.size W w1) => (show Calls Tryd.prog 53 #[.pointer (some ⟨rb, 0, none⟩), .string ⟨#[45]⟩] w1 fun e w' => e = .returned (.bool false) ∧ Below w1.heap.size w1 w' from is_any (h.below h1) [45] false b0))
  have HI1 := Lib.hid (fun w1 (h1 : Below W.heap.size W w1) => (show Calls Tryd.prog 53 #[.pointer (some ⟨rb, 0, none⟩), .string ⟨#[33]⟩] w1 fun e w' => e = .returned (.bool true) ∧ Below w1.heap.size w1 w' from is_any (h.below h1) [33] true b1))
  have HSS := Lib.hid HS
  have HR := Lib.hid (fun w1 (h1 : Below W.heap.size W w1) => h.below h1)
  have hrl := h.rlt
  have hgl := h.tok.1
  have q0 : Below W.heap.size W (W.alloc (.cells #[.int .i64 0, .int .i64 0, .string ⟨#[]⟩, .slice none 0 0] 43)) := (Below.refl _ _).alloc (Nat.le_refl _) _
  have B6 := heap_alloc_new W (.cells #[.int .i64 0, .int .i64 0, .string ⟨#[]⟩, .slice none 0 0] 43)
  have z0 : (W.alloc (.cells #[.int .i64 0, .int .i64 0, .string ⟨#[]⟩, .slice none 0 0] 43)).heap.size = W.heap.size + 1 := by simp
  clear HS h b0 b1
  go_enter Tryd.func88, Tryd.ntmps88
  go_upto_region 1 with fail
  obtain ⟨w0, hw0⟩ : ∃ W1, W.alloc (.cells #[.int .i64 0, .int .i64 0, .string ⟨#[]⟩, .slice none 0 0] 43) = W1 := ⟨_, rfl⟩
  rw [hw0] at B6 q0 z0 ⊢
  clear hw0
  have t0 : Below w0.heap.size w0 w0 := Below.refl _ _
  go_wp2_with (first
    | (go_at_call 53; ((with_reducible refine (HI0.out _ q0).mono ?_); rintro e w1 ⟨rfl, e1⟩; have q1 := q0.trans (e1.mono q0.size); have t1 := t0.trans (e1.mono t0.size)))
    | (go_at_call 53; ((with_reducible refine (HI1.out _ q1).mono ?_); rintro e w2 ⟨rfl, e2⟩; have q2 := q1.trans (e2.mono q1.size); have t2 := t1.trans (e2.mono t1.size)))
    | (go_at_call 90; ((with_reducible refine (HSS.out _ (HR.out _ q2)).mono ?_); rintro e w9 ⟨⟨vv, rfl, vl, rfl, hv, hok⟩, ⟨i', h9, hd⟩, g9⟩; obtain ⟨Al, cl, el, _⟩ := id hv; subst el; have y9 := t2.size; have B9 := (g9.block (k := W.heap.size) (by omega) (by omega)).trans ((t2.block W.heap.size (by omega)).trans B6); have c0 := box_cell B9 0; have c1 := box_cell B9 1; have c2 := box_cell B9 2; have c3 := box_cell B9 3; have f0 := box_frozen B9 0; have f1 := box_frozen B9 1; have f2 := box_frozen B9 2; have f3 := box_frozen B9 3; simp at c0 c1 c2 c3)))
  have hP := ret4 (a := .int .i64 v.op) (b := .int .i64 v.n) (c := .string v.s) (d := .slice Al v.l.len cl) B9
  have hz := q2.size
  have hz9 := g9.size
  have hfin : XP rb g N cT o T W (.ok v r) (.returned (.agg #[.int .i64 v.op, .int .i64 v.n, .string v.s, .slice Al v.l.len cl])) (put4 w9 W.heap.size (.int .i64 v.op) (.int .i64 v.n) (.string v.s) (.slice Al v.l.len cl)) :=
    ⟨⟨_, rfl, _, rfl, hv.kp (Kp.put4 (by omega)) (by omega), hok⟩, ⟨i', h9.put4 (by omega) (by omega), hd⟩, ((Gr.of q2).trans g9).put4 (Nat.le_refl _)⟩
  obtain ⟨w5, hw5⟩ : ∃ W5, put4 w9 W.heap.size (.int .i64 v.op) (.int .i64 v.n) (.string v.s) (.slice Al v.l.len cl) = W5 := ⟨_, rfl⟩
  show bodyPost _ _ _ _ _ (put4 w9 W.heap.size (.int .i64 v.op) (.int .i64 v.n) (.string v.s) (.slice Al v.l.len cl))
  rw [hw5] at hP hfin ⊢
  have p0 := hP 0 (by decide)
  have p1 := hP 1 (by decide)
  have p2 := hP 2 (by decide)
  have p3 := hP 3 (by decide)
  exact bodyPost_ret (v := .agg #[.int .i64 v.op, .int .i64 v.n, .string v.s, .slice Al v.l.len cl]) (by simp [results, Tryd.results88, go_sem, p0, p1, p2, p3]) rfl hfin

set_option maxRecDepth 100000 in
theorem sg_not_bad {W : World} {rb g N cT i o : Nat} {T : List Tok} (h : Rd W rb g N cT T i o) (b0 : isT (T.drop i) [45] = false) (b1 : isT (T.drop i) [33] = true) (p c : Nat)
    (HS : ∀ W2, Rd W2 rb g N cT T i o → Calls Tryd.prog 90 #[.pointer (some ⟨rb, 0, none⟩), .int .i64 7, .string ⟨#[33]⟩] W2 (XP rb g N cT o T W2 (.bad p c))) :
    Calls Tryd.prog 88 #[.pointer (some ⟨rb, 0, none⟩)] W (XP rb g N cT o T W (.bad p c)) := by
  have HI0 := Lib.hid (fun w1 (h1 : Below W.heap.size W w1) => (show Calls Tryd.prog 53 #[.pointer (some ⟨rb, 0, none⟩), .string ⟨#[45]⟩] w1 fun e w' => e = .returned (.bool false) ∧ Below w1.heap.size w1 w' from is_any (h.below h1) [45] false b0))
  have HI1 := Lib.hid (fun w1 (h1 : Below W.heap.size W w1) => (show Calls Tryd.prog 53 #[.pointer (some ⟨rb, 0, none⟩), .string ⟨#[33]⟩] w1 fun e w' => e = .returned (.bool true) ∧ Below w1.heap.size w1 w' from is_any (h.below h1) [33] true b1))
  have HSS := Lib.hid HS
  have HR := Lib.hid (fun w1 (h1 : Below W.heap.size W w1) => h.below h1)
  have hrl := h.rlt
  have hgl := h.tok.1
  have q0 : Below W.heap.size W (W.alloc (.cells #[.int .i64 0, .int .i64 0, .string ⟨#[]⟩, .slice none 0 0] 43)) := (Below.refl _ _).alloc (Nat.le_refl _) _
  have B6 := heap_alloc_new W (.cells #[.int .i64 0, .int .i64 0, .string ⟨#[]⟩, .slice none 0 0] 43)
  have z0 : (W.alloc (.cells #[.int .i64 0, .int .i64 0, .string ⟨#[]⟩, .slice none 0 0] 43)).heap.size = W.heap.size + 1 := by simp
  clear HS h b0 b1
  go_enter Tryd.func88, Tryd.ntmps88
  go_upto_region 1 with fail
  obtain ⟨w0, hw0⟩ : ∃ W1, W.alloc (.cells #[.int .i64 0, .int .i64 0, .string ⟨#[]⟩, .slice none 0 0] 43) = W1 := ⟨_, rfl⟩
  rw [hw0] at B6 q0 z0 ⊢
  clear hw0
  have t0 : Below w0.heap.size w0 w0 := Below.refl _ _
  go_wp2_with (first
    | (go_at_call 53; ((with_reducible refine (HI0.out _ q0).mono ?_); rintro e w1 ⟨rfl, e1⟩; have q1 := q0.trans (e1.mono q0.size); have t1 := t0.trans (e1.mono t0.size)))
    | (go_at_call 53; ((with_reducible refine (HI1.out _ q1).mono ?_); rintro e w2 ⟨rfl, e2⟩; have q2 := q1.trans (e2.mono q1.size); have t2 := t1.trans (e2.mono t1.size)))
    | (go_at_call 90; ((with_reducible refine (HSS.out _ (HR.out _ q2)).mono ?_); rintro e w9 ⟨rfl, g9⟩)))
  exact ⟨rfl, rfl, (Gr.of q2).trans g9⟩

set_option maxRecDepth 100000 in
theorem sg_par_ok {W : World} {rb g N cT i o : Nat} {T : List Tok} (h : Rd W rb g N cT T i o) (b0 : isT (T.drop i) [45] = false) (b1 : isT (T.drop i) [33] = false) (b2 : isT (T.drop i) [40] = true) (v : Ex) (r : List Tok)
    (HS : ∀ W2, Rd W2 rb g N cT T i o → Calls Tryd.prog 86 #[.pointer (some ⟨rb, 0, none⟩), .string ⟨#[40]⟩, .string ⟨#[41]⟩] W2 (XP rb g N cT o T W2 (.ok v r))) :
    Calls Tryd.prog 88 #[.pointer (some ⟨rb, 0, none⟩)] W (XP rb g N cT o T W (.ok v r)) := by
  have HI0 := Lib.hid (fun w1 (h1 : Below W.heap.size W w1) => (show Calls Tryd.prog 53 #[.pointer (some ⟨rb, 0, none⟩), .string ⟨#[45]⟩] w1 fun e w' => e = .returned (.bool false) ∧ Below w1.heap.size w1 w' from is_any (h.below h1) [45] false b0))
  have HI1 := Lib.hid (fun w1 (h1 : Below W.heap.size W w1) => (show Calls Tryd.prog 53 #[.pointer (some ⟨rb, 0, none⟩), .string ⟨#[33]⟩] w1 fun e w' => e = .returned (.bool false) ∧ Below w1.heap.size w1 w' from is_any (h.below h1) [33] false b1))
  have HI2 := Lib.hid (fun w1 (h1 : Below W.heap.size W w1) => (show Calls Tryd.prog 53 #[.pointer (some ⟨rb, 0, none⟩), .string ⟨#[40]⟩] w1 fun e w' => e = .returned (.bool true) ∧ Below w1.heap.size w1 w' from is_any (h.below h1) [40] true b2))
  have HSS := Lib.hid HS
  have HR := Lib.hid (fun w1 (h1 : Below W.heap.size W w1) => h.below h1)
  have hrl := h.rlt
  have hgl := h.tok.1
  have q0 : Below W.heap.size W (W.alloc (.cells #[.int .i64 0, .int .i64 0, .string ⟨#[]⟩, .slice none 0 0] 43)) := (Below.refl _ _).alloc (Nat.le_refl _) _
  have B6 := heap_alloc_new W (.cells #[.int .i64 0, .int .i64 0, .string ⟨#[]⟩, .slice none 0 0] 43)
  have z0 : (W.alloc (.cells #[.int .i64 0, .int .i64 0, .string ⟨#[]⟩, .slice none 0 0] 43)).heap.size = W.heap.size + 1 := by simp
  clear HS h b0 b1 b2
  go_enter Tryd.func88, Tryd.ntmps88
  go_upto_region 1 with fail
  obtain ⟨w0, hw0⟩ : ∃ W1, W.alloc (.cells #[.int .i64 0, .int .i64 0, .string ⟨#[]⟩, .slice none 0 0] 43) = W1 := ⟨_, rfl⟩
  rw [hw0] at B6 q0 z0 ⊢
  clear hw0
  have t0 : Below w0.heap.size w0 w0 := Below.refl _ _
  go_wp2_with (first
    | (go_at_call 53; ((with_reducible refine (HI0.out _ q0).mono ?_); rintro e w1 ⟨rfl, e1⟩; have q1 := q0.trans (e1.mono q0.size); have t1 := t0.trans (e1.mono t0.size)))
    | (go_at_call 53; ((with_reducible refine (HI1.out _ q1).mono ?_); rintro e w2 ⟨rfl, e2⟩; have q2 := q1.trans (e2.mono q1.size); have t2 := t1.trans (e2.mono t1.size)))
    | (go_at_call 53; ((with_reducible refine (HI2.out _ q2).mono ?_); rintro e w3 ⟨rfl, e3⟩; have q3 := q2.trans (e3.mono q2.size); have t3 := t2.trans (e3.mono t2.size)))
    | (go_at_call 86; ((with_reducible refine (HSS.out _ (HR.out _ q3)).mono ?_); rintro e w9 ⟨⟨vv, rfl, vl, rfl, hv, hok⟩, ⟨i', h9, hd⟩, g9⟩; obtain ⟨Al, cl, el, _⟩ := id hv; subst el; have y9 := t3.size; have B9 := (g9.block (k := W.heap.size) (by omega) (by omega)).trans ((t3.block W.heap.size (by omega)).trans B6); have c0 := box_cell B9 0; have c1 := box_cell B9 1; have c2 := box_cell B9 2; have c3 := box_cell B9 3; have f0 := box_frozen B9 0; have f1 := box_frozen B9 1; have f2 := box_frozen B9 2; have f3 := box_frozen B9 3; simp at c0 c1 c2 c3)))
  have hP := ret4 (a := .int .i64 v.op) (b := .int .i64 v.n) (c := .string v.s) (d := .slice Al v.l.len cl) B9
  have hz := q3.size
  have hz9 := g9.size
  have hfin : XP rb g N cT o T W (.ok v r) (.returned (.agg #[.int .i64 v.op, .int .i64 v.n, .string v.s, .slice Al v.l.len cl])) (put4 w9 W.heap.size (.int .i64 v.op) (.int .i64 v.n) (.string v.s) (.slice Al v.l.len cl)) :=
    ⟨⟨_, rfl, _, rfl, hv.kp (Kp.put4 (by omega)) (by omega), hok⟩, ⟨i', h9.put4 (by omega) (by omega), hd⟩, ((Gr.of q3).trans g9).put4 (Nat.le_refl _)⟩
  obtain ⟨w5, hw5⟩ : ∃ W5, put4 w9 W.heap.size (.int .i64 v.op) (.int .i64 v.n) (.string v.s) (.slice Al v.l.len cl) = W5 := ⟨_, rfl⟩
  show bodyPost _ _ _ _ _ (put4 w9 W.heap.size (.int .i64 v.op) (.int .i64 v.n) (.string v.s) (.slice Al v.l.len cl))
  rw [hw5] at hP hfin ⊢
  have p0 := hP 0 (by decide)
  have p1 := hP 1 (by decide)
  have p2 := hP 2 (by decide)
  have p3 := hP 3 (by decide)
  exact bodyPost_ret (v := .agg #[.int .i64 v.op, .int .i64 v.n, .string v.s, .slice Al v.l.len cl]) (by simp [results, Tryd.results88, go_sem, p0, p1, p2, p3]) rfl hfin

set_option maxRecDepth 100000 in
theorem sg_par_bad {W : World} {rb g N cT i o : Nat} {T : List Tok} (h : Rd W rb g N cT T i o) (b0 : isT (T.drop i) [45] = false) (b1 : isT (T.drop i) [33] = false) (b2 : isT (T.drop i) [40] = true) (p c : Nat)
    (HS : ∀ W2, Rd W2 rb g N cT T i o → Calls Tryd.prog 86 #[.pointer (some ⟨rb, 0, none⟩), .string ⟨#[40]⟩, .string ⟨#[41]⟩] W2 (XP rb g N cT o T W2 (.bad p c))) :
    Calls Tryd.prog 88 #[.pointer (some ⟨rb, 0, none⟩)] W (XP rb g N cT o T W (.bad p c)) := by
  have HI0 := Lib.hid (fun w1 (h1 : Below W.heap.size W w1) => (show Calls Tryd.prog 53 #[.pointer (some ⟨rb, 0, none⟩), .string ⟨#[45]⟩] w1 fun e w' => e = .returned (.bool false) ∧ Below w1.heap.size w1 w' from is_any (h.below h1) [45] false b0))
  have HI1 := Lib.hid (fun w1 (h1 : Below W.heap.size W w1) => (show Calls Tryd.prog 53 #[.pointer (some ⟨rb, 0, none⟩), .string ⟨#[33]⟩] w1 fun e w' => e = .returned (.bool false) ∧ Below w1.heap.size w1 w' from is_any (h.below h1) [33] false b1))
  have HI2 := Lib.hid (fun w1 (h1 : Below W.heap.size W w1) => (show Calls Tryd.prog 53 #[.pointer (some ⟨rb, 0, none⟩), .string ⟨#[40]⟩] w1 fun e w' => e = .returned (.bool true) ∧ Below w1.heap.size w1 w' from is_any (h.below h1) [40] true b2))
  have HSS := Lib.hid HS
  have HR := Lib.hid (fun w1 (h1 : Below W.heap.size W w1) => h.below h1)
  have hrl := h.rlt
  have hgl := h.tok.1
  have q0 : Below W.heap.size W (W.alloc (.cells #[.int .i64 0, .int .i64 0, .string ⟨#[]⟩, .slice none 0 0] 43)) := (Below.refl _ _).alloc (Nat.le_refl _) _
  have B6 := heap_alloc_new W (.cells #[.int .i64 0, .int .i64 0, .string ⟨#[]⟩, .slice none 0 0] 43)
  have z0 : (W.alloc (.cells #[.int .i64 0, .int .i64 0, .string ⟨#[]⟩, .slice none 0 0] 43)).heap.size = W.heap.size + 1 := by simp
  clear HS h b0 b1 b2
  go_enter Tryd.func88, Tryd.ntmps88
  go_upto_region 1 with fail
  obtain ⟨w0, hw0⟩ : ∃ W1, W.alloc (.cells #[.int .i64 0, .int .i64 0, .string ⟨#[]⟩, .slice none 0 0] 43) = W1 := ⟨_, rfl⟩
  rw [hw0] at B6 q0 z0 ⊢
  clear hw0
  have t0 : Below w0.heap.size w0 w0 := Below.refl _ _
  go_wp2_with (first
    | (go_at_call 53; ((with_reducible refine (HI0.out _ q0).mono ?_); rintro e w1 ⟨rfl, e1⟩; have q1 := q0.trans (e1.mono q0.size); have t1 := t0.trans (e1.mono t0.size)))
    | (go_at_call 53; ((with_reducible refine (HI1.out _ q1).mono ?_); rintro e w2 ⟨rfl, e2⟩; have q2 := q1.trans (e2.mono q1.size); have t2 := t1.trans (e2.mono t1.size)))
    | (go_at_call 53; ((with_reducible refine (HI2.out _ q2).mono ?_); rintro e w3 ⟨rfl, e3⟩; have q3 := q2.trans (e3.mono q2.size); have t3 := t2.trans (e3.mono t2.size)))
    | (go_at_call 86; ((with_reducible refine (HSS.out _ (HR.out _ q3)).mono ?_); rintro e w9 ⟨rfl, g9⟩)))
  exact ⟨rfl, rfl, (Gr.of q3).trans g9⟩

set_option maxRecDepth 100000 in
theorem sg_name_ok {W : World} {rb g N cT i o : Nat} {T : List Tok} (h : Rd W rb g N cT T i o) (b0 : isT (T.drop i) [45] = false) (b1 : isT (T.drop i) [33] = false) (b2 : isT (T.drop i) [40] = false) (b3 : isT (T.drop i) [99, 108, 111, 99, 107] = false) (hk : (hdT (T.drop i)).kind ≠ 2) (v : Ex) (r : List Tok)
    (HS : ∀ W2, Rd W2 rb g N cT T i o → Calls Tryd.prog 91 #[.pointer (some ⟨rb, 0, none⟩)] W2 (XP rb g N cT o T W2 (.ok v r))) :
    Calls Tryd.prog 88 #[.pointer (some ⟨rb, 0, none⟩)] W (XP rb g N cT o T W (.ok v r)) := by
  have HI0 := Lib.hid (fun w1 (h1 : Below W.heap.size W w1) => (show Calls Tryd.prog 53 #[.pointer (some ⟨rb, 0, none⟩), .string ⟨#[45]⟩] w1 fun e w' => e = .returned (.bool false) ∧ Below w1.heap.size w1 w' from is_any (h.below h1) [45] false b0))
  have HI1 := Lib.hid (fun w1 (h1 : Below W.heap.size W w1) => (show Calls Tryd.prog 53 #[.pointer (some ⟨rb, 0, none⟩), .string ⟨#[33]⟩] w1 fun e w' => e = .returned (.bool false) ∧ Below w1.heap.size w1 w' from is_any (h.below h1) [33] false b1))
  have HI2 := Lib.hid (fun w1 (h1 : Below W.heap.size W w1) => (show Calls Tryd.prog 53 #[.pointer (some ⟨rb, 0, none⟩), .string ⟨#[40]⟩] w1 fun e w' => e = .returned (.bool false) ∧ Below w1.heap.size w1 w' from is_any (h.below h1) [40] false b2))
  have HI3 := Lib.hid (fun w1 (h1 : Below W.heap.size W w1) => (show Calls Tryd.prog 75 #[.pointer (some ⟨rb, 0, none⟩), .string ⟨#[99, 108, 111, 99, 107]⟩] w1 fun e w' => e = .returned (.bool false) ∧ Below w1.heap.size w1 w' from take_no (h.below h1) [99, 108, 111, 99, 107] b3))
  obtain ⟨tk, htk⟩ : ∃ tk, hdT (T.drop i) = tk := ⟨_, rfl⟩
  have HN := Lib.hid (fun w1 (h1 : Below W.heap.size W w1) => now_any (h.below h1) tk htk)
  rw [htk] at hk
  have k1 : ((tk.kind : Int) == 2) = false := by rw [beq_eq_false_iff_ne]; omega
  clear htk hk
  have HSS := Lib.hid HS
  have HR := Lib.hid (fun w1 (h1 : Below W.heap.size W w1) => h.below h1)
  have hrl := h.rlt
  have hgl := h.tok.1
  have q0 : Below W.heap.size W (W.alloc (.cells #[.int .i64 0, .int .i64 0, .string ⟨#[]⟩, .slice none 0 0] 43)) := (Below.refl _ _).alloc (Nat.le_refl _) _
  have B6 := heap_alloc_new W (.cells #[.int .i64 0, .int .i64 0, .string ⟨#[]⟩, .slice none 0 0] 43)
  have z0 : (W.alloc (.cells #[.int .i64 0, .int .i64 0, .string ⟨#[]⟩, .slice none 0 0] 43)).heap.size = W.heap.size + 1 := by simp
  clear HS h b0 b1 b2 b3
  go_enter Tryd.func88, Tryd.ntmps88
  go_upto_region 1 with fail
  obtain ⟨w0, hw0⟩ : ∃ W1, W.alloc (.cells #[.int .i64 0, .int .i64 0, .string ⟨#[]⟩, .slice none 0 0] 43) = W1 := ⟨_, rfl⟩
  rw [hw0] at B6 q0 z0 ⊢
  clear hw0
  have t0 : Below w0.heap.size w0 w0 := Below.refl _ _
  go_wp2_with (first
    | (go_at_call 53; ((with_reducible refine (HI0.out _ q0).mono ?_); rintro e w1 ⟨rfl, e1⟩; have q1 := q0.trans (e1.mono q0.size); have t1 := t0.trans (e1.mono t0.size)))
    | (go_at_call 53; ((with_reducible refine (HI1.out _ q1).mono ?_); rintro e w2 ⟨rfl, e2⟩; have q2 := q1.trans (e2.mono q1.size); have t2 := t1.trans (e2.mono t1.size)))
    | (go_at_call 53; ((with_reducible refine (HI2.out _ q2).mono ?_); rintro e w3 ⟨rfl, e3⟩; have q3 := q2.trans (e3.mono q2.size); have t3 := t2.trans (e3.mono t2.size)))
    | (go_at_call 75; ((with_reducible refine (HI3.out _ q3).mono ?_); rintro e w4 ⟨rfl, e4⟩; have q4 := q3.trans (e4.mono q3.size); have t4 := t3.trans (e4.mono t3.size)))
    | (go_at_call 56; ((with_reducible refine (HN.out _ q4).mono ?_); rintro e wn ⟨rfl, en⟩; have qn := q4.trans (en.mono q4.size); have tn := t4.trans (en.mono t4.size)))
    | (go_at_call 91; ((with_reducible refine (HSS.out _ (HR.out _ qn)).mono ?_); rintro e w9 ⟨⟨vv, rfl, vl, rfl, hv, hok⟩, ⟨i', h9, hd⟩, g9⟩; obtain ⟨Al, cl, el, _⟩ := id hv; subst el; have y9 := tn.size; have B9 := (g9.block (k := W.heap.size) (by omega) (by omega)).trans ((tn.block W.heap.size (by omega)).trans B6); have c0 := box_cell B9 0; have c1 := box_cell B9 1; have c2 := box_cell B9 2; have c3 := box_cell B9 3; have f0 := box_frozen B9 0; have f1 := box_frozen B9 1; have f2 := box_frozen B9 2; have f3 := box_frozen B9 3; simp at c0 c1 c2 c3)))
  have hP := ret4 (a := .int .i64 v.op) (b := .int .i64 v.n) (c := .string v.s) (d := .slice Al v.l.len cl) B9
  have hz := qn.size
  have hz9 := g9.size
  have hfin : XP rb g N cT o T W (.ok v r) (.returned (.agg #[.int .i64 v.op, .int .i64 v.n, .string v.s, .slice Al v.l.len cl])) (put4 w9 W.heap.size (.int .i64 v.op) (.int .i64 v.n) (.string v.s) (.slice Al v.l.len cl)) :=
    ⟨⟨_, rfl, _, rfl, hv.kp (Kp.put4 (by omega)) (by omega), hok⟩, ⟨i', h9.put4 (by omega) (by omega), hd⟩, ((Gr.of qn).trans g9).put4 (Nat.le_refl _)⟩
  obtain ⟨w5, hw5⟩ : ∃ W5, put4 w9 W.heap.size (.int .i64 v.op) (.int .i64 v.n) (.string v.s) (.slice Al v.l.len cl) = W5 := ⟨_, rfl⟩
  show bodyPost _ _ _ _ _ (put4 w9 W.heap.size (.int .i64 v.op) (.int .i64 v.n) (.string v.s) (.slice Al v.l.len cl))
  rw [hw5] at hP hfin ⊢
  have p0 := hP 0 (by decide)
  have p1 := hP 1 (by decide)
  have p2 := hP 2 (by decide)
  have p3 := hP 3 (by decide)
  exact bodyPost_ret (v := .agg #[.int .i64 v.op, .int .i64 v.n, .string v.s, .slice Al v.l.len cl]) (by simp [results, Tryd.results88, go_sem, p0, p1, p2, p3]) rfl hfin

set_option maxRecDepth 100000 in
theorem sg_name_bad {W : World} {rb g N cT i o : Nat} {T : List Tok} (h : Rd W rb g N cT T i o) (b0 : isT (T.drop i) [45] = false) (b1 : isT (T.drop i) [33] = false) (b2 : isT (T.drop i) [40] = false) (b3 : isT (T.drop i) [99, 108, 111, 99, 107] = false) (hk : (hdT (T.drop i)).kind ≠ 2) (p c : Nat)
    (HS : ∀ W2, Rd W2 rb g N cT T i o → Calls Tryd.prog 91 #[.pointer (some ⟨rb, 0, none⟩)] W2 (XP rb g N cT o T W2 (.bad p c))) :
    Calls Tryd.prog 88 #[.pointer (some ⟨rb, 0, none⟩)] W (XP rb g N cT o T W (.bad p c)) := by
  have HI0 := Lib.hid (fun w1 (h1 : Below W.heap.size W w1) => (show Calls Tryd.prog 53 #[.pointer (some ⟨rb, 0, none⟩), .string ⟨#[45]⟩] w1 fun e w' => e = .returned (.bool false) ∧ Below w1.heap.size w1 w' from is_any (h.below h1) [45] false b0))
  have HI1 := Lib.hid (fun w1 (h1 : Below W.heap.size W w1) => (show Calls Tryd.prog 53 #[.pointer (some ⟨rb, 0, none⟩), .string ⟨#[33]⟩] w1 fun e w' => e = .returned (.bool false) ∧ Below w1.heap.size w1 w' from is_any (h.below h1) [33] false b1))
  have HI2 := Lib.hid (fun w1 (h1 : Below W.heap.size W w1) => (show Calls Tryd.prog 53 #[.pointer (some ⟨rb, 0, none⟩), .string ⟨#[40]⟩] w1 fun e w' => e = .returned (.bool false) ∧ Below w1.heap.size w1 w' from is_any (h.below h1) [40] false b2))
  have HI3 := Lib.hid (fun w1 (h1 : Below W.heap.size W w1) => (show Calls Tryd.prog 75 #[.pointer (some ⟨rb, 0, none⟩), .string ⟨#[99, 108, 111, 99, 107]⟩] w1 fun e w' => e = .returned (.bool false) ∧ Below w1.heap.size w1 w' from take_no (h.below h1) [99, 108, 111, 99, 107] b3))
  obtain ⟨tk, htk⟩ : ∃ tk, hdT (T.drop i) = tk := ⟨_, rfl⟩
  have HN := Lib.hid (fun w1 (h1 : Below W.heap.size W w1) => now_any (h.below h1) tk htk)
  rw [htk] at hk
  have k1 : ((tk.kind : Int) == 2) = false := by rw [beq_eq_false_iff_ne]; omega
  clear htk hk
  have HSS := Lib.hid HS
  have HR := Lib.hid (fun w1 (h1 : Below W.heap.size W w1) => h.below h1)
  have hrl := h.rlt
  have hgl := h.tok.1
  have q0 : Below W.heap.size W (W.alloc (.cells #[.int .i64 0, .int .i64 0, .string ⟨#[]⟩, .slice none 0 0] 43)) := (Below.refl _ _).alloc (Nat.le_refl _) _
  have B6 := heap_alloc_new W (.cells #[.int .i64 0, .int .i64 0, .string ⟨#[]⟩, .slice none 0 0] 43)
  have z0 : (W.alloc (.cells #[.int .i64 0, .int .i64 0, .string ⟨#[]⟩, .slice none 0 0] 43)).heap.size = W.heap.size + 1 := by simp
  clear HS h b0 b1 b2 b3
  go_enter Tryd.func88, Tryd.ntmps88
  go_upto_region 1 with fail
  obtain ⟨w0, hw0⟩ : ∃ W1, W.alloc (.cells #[.int .i64 0, .int .i64 0, .string ⟨#[]⟩, .slice none 0 0] 43) = W1 := ⟨_, rfl⟩
  rw [hw0] at B6 q0 z0 ⊢
  clear hw0
  have t0 : Below w0.heap.size w0 w0 := Below.refl _ _
  go_wp2_with (first
    | (go_at_call 53; ((with_reducible refine (HI0.out _ q0).mono ?_); rintro e w1 ⟨rfl, e1⟩; have q1 := q0.trans (e1.mono q0.size); have t1 := t0.trans (e1.mono t0.size)))
    | (go_at_call 53; ((with_reducible refine (HI1.out _ q1).mono ?_); rintro e w2 ⟨rfl, e2⟩; have q2 := q1.trans (e2.mono q1.size); have t2 := t1.trans (e2.mono t1.size)))
    | (go_at_call 53; ((with_reducible refine (HI2.out _ q2).mono ?_); rintro e w3 ⟨rfl, e3⟩; have q3 := q2.trans (e3.mono q2.size); have t3 := t2.trans (e3.mono t2.size)))
    | (go_at_call 75; ((with_reducible refine (HI3.out _ q3).mono ?_); rintro e w4 ⟨rfl, e4⟩; have q4 := q3.trans (e4.mono q3.size); have t4 := t3.trans (e4.mono t3.size)))
    | (go_at_call 56; ((with_reducible refine (HN.out _ q4).mono ?_); rintro e wn ⟨rfl, en⟩; have qn := q4.trans (en.mono q4.size); have tn := t4.trans (en.mono t4.size)))
    | (go_at_call 91; ((with_reducible refine (HSS.out _ (HR.out _ qn)).mono ?_); rintro e w9 ⟨rfl, g9⟩)))
  exact ⟨rfl, rfl, (Gr.of qn).trans g9⟩

set_option maxRecDepth 100000 in
theorem sg_clock {W : World} {rb g N cT i o : Nat} {T : List Tok} (h : Rd W rb g N cT T i o) (b0 : isT (T.drop i) [45] = false) (b1 : isT (T.drop i) [33] = false) (b2 : isT (T.drop i) [40] = false) (b3 : isT (T.drop i) [99, 108, 111, 99, 107] = true) :
    Calls Tryd.prog 88 #[.pointer (some ⟨rb, 0, none⟩)] W (XP rb g N cT o T W (.ok ⟨3, 0, nilS, .nil⟩ (T.drop i).tail)) := by
  have HI0 := Lib.hid (fun w1 (h1 : Below W.heap.size W w1) => (show Calls Tryd.prog 53 #[.pointer (some ⟨rb, 0, none⟩), .string ⟨#[45]⟩] w1 fun e w' => e = .returned (.bool false) ∧ Below w1.heap.size w1 w' from is_any (h.below h1) [45] false b0))
  have HI1 := Lib.hid (fun w1 (h1 : Below W.heap.size W w1) => (show Calls Tryd.prog 53 #[.pointer (some ⟨rb, 0, none⟩), .string ⟨#[33]⟩] w1 fun e w' => e = .returned (.bool false) ∧ Below w1.heap.size w1 w' from is_any (h.below h1) [33] false b1))
  have HI2 := Lib.hid (fun w1 (h1 : Below W.heap.size W w1) => (show Calls Tryd.prog 53 #[.pointer (some ⟨rb, 0, none⟩), .string ⟨#[40]⟩] w1 fun e w' => e = .returned (.bool false) ∧ Below w1.heap.size w1 w' from is_any (h.below h1) [40] false b2))
  have HI3 := Lib.hid (fun w1 (h1 : Below W.heap.size W w1) => (show Calls Tryd.prog 75 #[.pointer (some ⟨rb, 0, none⟩), .string ⟨#[99, 108, 111, 99, 107]⟩] w1 fun e w' => e = .returned (.bool true) ∧ Rd w' rb g N cT T (i + 1) o ∧ Gr rb w1 w' from take_yes (h.below h1) [99, 108, 111, 99, 107] (by decide) b3))
  have hrl := h.rlt
  have hgl := h.tok.1
  have q0 : Below W.heap.size W (W.alloc (.cells #[.int .i64 0, .int .i64 0, .string ⟨#[]⟩, .slice none 0 0] 43)) := (Below.refl _ _).alloc (Nat.le_refl _) _
  have B6 := heap_alloc_new W (.cells #[.int .i64 0, .int .i64 0, .string ⟨#[]⟩, .slice none 0 0] 43)
  have z0 : (W.alloc (.cells #[.int .i64 0, .int .i64 0, .string ⟨#[]⟩, .slice none 0 0] 43)).heap.size = W.heap.size + 1 := by simp
  clear h b0 b1 b2 b3
  go_enter Tryd.func88, Tryd.ntmps88
  go_upto_region 1 with fail
  obtain ⟨w0, hw0⟩ : ∃ W1, W.alloc (.cells #[.int .i64 0, .int .i64 0, .string ⟨#[]⟩, .slice none 0 0] 43) = W1 := ⟨_, rfl⟩
  rw [hw0] at B6 q0 z0 ⊢
  clear hw0
  have t0 : Below w0.heap.size w0 w0 := Below.refl _ _
  go_wp2_with (first
    | (go_at_call 53; ((with_reducible refine (HI0.out _ q0).mono ?_); rintro e w1 ⟨rfl, e1⟩; have q1 := q0.trans (e1.mono q0.size); have t1 := t0.trans (e1.mono t0.size)))
    | (go_at_call 53; ((with_reducible refine (HI1.out _ q1).mono ?_); rintro e w2 ⟨rfl, e2⟩; have q2 := q1.trans (e2.mono q1.size); have t2 := t1.trans (e2.mono t1.size)))
    | (go_at_call 53; ((with_reducible refine (HI2.out _ q2).mono ?_); rintro e w3 ⟨rfl, e3⟩; have q3 := q2.trans (e3.mono q2.size); have t3 := t2.trans (e3.mono t2.size)))
    | (go_at_call 75; ((with_reducible refine (HI3.out _ q3).mono ?_); rintro e w4 ⟨rfl, hy, gy⟩; have y9 := t3.size; have B9 := (gy.block (k := W.heap.size) (by omega) (by omega)).trans ((t3.block W.heap.size (by omega)).trans B6); have c0 := box_cell B9 0; have c1 := box_cell B9 1; have c2 := box_cell B9 2; have c3 := box_cell B9 3; have f0 := box_frozen B9 0; have f1 := box_frozen B9 1; have f2 := box_frozen B9 2; have f3 := box_frozen B9 3; simp at c0 c1 c2 c3)))
  have hP := ret4 (a := .int .i64 3) (b := .int .i64 0) (c := .string ⟨#[]⟩) (d := .slice none 0 0) B9
  have hz := q3.size
  have hz9 := gy.size
  have hfin : XP rb g N cT o T W (.ok ⟨3, 0, nilS, .nil⟩ (T.drop i).tail) (.returned (.agg #[.int .i64 3, .int .i64 0, .string ⟨#[]⟩, .slice none 0 0])) (put4 w4 W.heap.size (.int .i64 3) (.int .i64 0) (.string ⟨#[]⟩) (.slice none 0 0)) :=
    ⟨⟨_, rfl, _, rfl, ex_nil _ _, okE_of (by unfold I64; omega)⟩, ⟨i + 1, hy.put4 (by omega) (by omega), by rw [drop_tail]⟩, ((Gr.of q3).trans gy).put4 (Nat.le_refl _)⟩
  obtain ⟨w5, hw5⟩ : ∃ W5, put4 w4 W.heap.size (.int .i64 3) (.int .i64 0) (.string ⟨#[]⟩) (.slice none 0 0) = W5 := ⟨_, rfl⟩
  show bodyPost _ _ _ _ _ (put4 w4 W.heap.size (.int .i64 3) (.int .i64 0) (.string ⟨#[]⟩) (.slice none 0 0))
  rw [hw5] at hP hfin ⊢
  have p0 := hP 0 (by decide)
  have p1 := hP 1 (by decide)
  have p2 := hP 2 (by decide)
  have p3 := hP 3 (by decide)
  exact bodyPost_ret (v := .agg #[.int .i64 3, .int .i64 0, .string ⟨#[]⟩, .slice none 0 0]) (by simp [results, Tryd.results88, go_sem, p0, p1, p2, p3]) rfl hfin

set_option maxRecDepth 100000 in
theorem sg_num_ok {W : World} {rb g N cT i o : Nat} {T : List Tok} (h : Rd W rb g N cT T i o) (b0 : isT (T.drop i) [45] = false) (b1 : isT (T.drop i) [33] = false) (b2 : isT (T.drop i) [40] = false) (b3 : isT (T.drop i) [99, 108, 111, 99, 107] = false) (hk : (hdT (T.drop i)).kind = 2) (n : Int) (hn : I64 n)
    (HS : ∀ W2, Rd W2 rb g N cT T i o → Calls Tryd.prog 78 #[.pointer (some ⟨rb, 0, none⟩), .int .i64 0, .int .i64 9223372036854775807] W2 fun e w' => e = .returned (.int .i64 n) ∧ Rd w' rb g N cT T (i + 1) o ∧ Gr rb W2 w') :
    Calls Tryd.prog 88 #[.pointer (some ⟨rb, 0, none⟩)] W (XP rb g N cT o T W (.ok ⟨1, n, nilS, .nil⟩ (T.drop i).tail)) := by
  have HI0 := Lib.hid (fun w1 (h1 : Below W.heap.size W w1) => (show Calls Tryd.prog 53 #[.pointer (some ⟨rb, 0, none⟩), .string ⟨#[45]⟩] w1 fun e w' => e = .returned (.bool false) ∧ Below w1.heap.size w1 w' from is_any (h.below h1) [45] false b0))
  have HI1 := Lib.hid (fun w1 (h1 : Below W.heap.size W w1) => (show Calls Tryd.prog 53 #[.pointer (some ⟨rb, 0, none⟩), .string ⟨#[33]⟩] w1 fun e w' => e = .returned (.bool false) ∧ Below w1.heap.size w1 w' from is_any (h.below h1) [33] false b1))
  have HI2 := Lib.hid (fun w1 (h1 : Below W.heap.size W w1) => (show Calls Tryd.prog 53 #[.pointer (some ⟨rb, 0, none⟩), .string ⟨#[40]⟩] w1 fun e w' => e = .returned (.bool false) ∧ Below w1.heap.size w1 w' from is_any (h.below h1) [40] false b2))
  have HI3 := Lib.hid (fun w1 (h1 : Below W.heap.size W w1) => (show Calls Tryd.prog 75 #[.pointer (some ⟨rb, 0, none⟩), .string ⟨#[99, 108, 111, 99, 107]⟩] w1 fun e w' => e = .returned (.bool false) ∧ Below w1.heap.size w1 w' from take_no (h.below h1) [99, 108, 111, 99, 107] b3))
  obtain ⟨tk, htk⟩ : ∃ tk, hdT (T.drop i) = tk := ⟨_, rfl⟩
  have HN := Lib.hid (fun w1 (h1 : Below W.heap.size W w1) => now_any (h.below h1) tk htk)
  rw [htk] at hk
  have k1 : ((tk.kind : Int) == 2) = true := by rw [hk]; rfl
  clear htk hk
  have HSS := Lib.hid HS
  have HR := Lib.hid (fun w1 (h1 : Below W.heap.size W w1) => h.below h1)
  have hrl := h.rlt
  have hgl := h.tok.1
  have q0 : Below W.heap.size W (W.alloc (.cells #[.int .i64 0, .int .i64 0, .string ⟨#[]⟩, .slice none 0 0] 43)) := (Below.refl _ _).alloc (Nat.le_refl _) _
  have B6 := heap_alloc_new W (.cells #[.int .i64 0, .int .i64 0, .string ⟨#[]⟩, .slice none 0 0] 43)
  have z0 : (W.alloc (.cells #[.int .i64 0, .int .i64 0, .string ⟨#[]⟩, .slice none 0 0] 43)).heap.size = W.heap.size + 1 := by simp
  clear HS h b0 b1 b2 b3
  go_enter Tryd.func88, Tryd.ntmps88
  go_upto_region 1 with fail
  obtain ⟨w0, hw0⟩ : ∃ W1, W.alloc (.cells #[.int .i64 0, .int .i64 0, .string ⟨#[]⟩, .slice none 0 0] 43) = W1 := ⟨_, rfl⟩
  rw [hw0] at B6 q0 z0 ⊢
  clear hw0
  have t0 : Below w0.heap.size w0 w0 := Below.refl _ _
  go_wp2_with (first
    | (go_at_call 53; ((with_reducible refine (HI0.out _ q0).mono ?_); rintro e w1 ⟨rfl, e1⟩; have q1 := q0.trans (e1.mono q0.size); have t1 := t0.trans (e1.mono t0.size)))
    | (go_at_call 53; ((with_reducible refine (HI1.out _ q1).mono ?_); rintro e w2 ⟨rfl, e2⟩; have q2 := q1.trans (e2.mono q1.size); have t2 := t1.trans (e2.mono t1.size)))
    | (go_at_call 53; ((with_reducible refine (HI2.out _ q2).mono ?_); rintro e w3 ⟨rfl, e3⟩; have q3 := q2.trans (e3.mono q2.size); have t3 := t2.trans (e3.mono t2.size)))
    | (go_at_call 75; ((with_reducible refine (HI3.out _ q3).mono ?_); rintro e w4 ⟨rfl, e4⟩; have q4 := q3.trans (e4.mono q3.size); have t4 := t3.trans (e4.mono t3.size)))
    | (go_at_call 56; ((with_reducible refine (HN.out _ q4).mono ?_); rintro e wn ⟨rfl, en⟩; have qn := q4.trans (en.mono q4.size); have tn := t4.trans (en.mono t4.size)))
    | (go_at_call 78; ((with_reducible refine (HSS.out _ (HR.out _ qn)).mono ?_); rintro e w9 ⟨rfl, hy, gy⟩; have y9 := tn.size; have B9 := (gy.block (k := W.heap.size) (by omega) (by omega)).trans ((tn.block W.heap.size (by omega)).trans B6); have c0 := box_cell B9 0; have c1 := box_cell B9 1; have c2 := box_cell B9 2; have c3 := box_cell B9 3; have f0 := box_frozen B9 0; have f1 := box_frozen B9 1; have f2 := box_frozen B9 2; have f3 := box_frozen B9 3; simp at c0 c1 c2 c3)))
  have hP := ret4 (a := .int .i64 1) (b := .int .i64 n) (c := .string ⟨#[]⟩) (d := .slice none 0 0) B9
  have hz := qn.size
  have hz9 := gy.size
  have hfin : XP rb g N cT o T W (.ok ⟨1, n, nilS, .nil⟩ (T.drop i).tail) (.returned (.agg #[.int .i64 1, .int .i64 n, .string ⟨#[]⟩, .slice none 0 0])) (put4 w9 W.heap.size (.int .i64 1) (.int .i64 n) (.string ⟨#[]⟩) (.slice none 0 0)) :=
    ⟨⟨_, rfl, _, rfl, ex_nil _ _, (show I64 1 by unfold I64; omega), hn, by show nilS.size ≤ _; decide⟩, ⟨i + 1, hy.put4 (by omega) (by omega), by rw [drop_tail]⟩, ((Gr.of qn).trans gy).put4 (Nat.le_refl _)⟩
  obtain ⟨w5, hw5⟩ : ∃ W5, put4 w9 W.heap.size (.int .i64 1) (.int .i64 n) (.string ⟨#[]⟩) (.slice none 0 0) = W5 := ⟨_, rfl⟩
  show bodyPost _ _ _ _ _ (put4 w9 W.heap.size (.int .i64 1) (.int .i64 n) (.string ⟨#[]⟩) (.slice none 0 0))
  rw [hw5] at hP hfin ⊢
  have p0 := hP 0 (by decide)
  have p1 := hP 1 (by decide)
  have p2 := hP 2 (by decide)
  have p3 := hP 3 (by decide)
  exact bodyPost_ret (v := .agg #[.int .i64 1, .int .i64 n, .string ⟨#[]⟩, .slice none 0 0]) (by simp [results, Tryd.results88, go_sem, p0, p1, p2, p3]) rfl hfin

set_option maxRecDepth 100000 in
theorem sg_num_bad {W : World} {rb g N cT i o : Nat} {T : List Tok} (h : Rd W rb g N cT T i o) (b0 : isT (T.drop i) [45] = false) (b1 : isT (T.drop i) [33] = false) (b2 : isT (T.drop i) [40] = false) (b3 : isT (T.drop i) [99, 108, 111, 99, 107] = false) (hk : (hdT (T.drop i)).kind = 2) (p c : Nat)
    (HS : ∀ W2, Rd W2 rb g N cT T i o → Calls Tryd.prog 78 #[.pointer (some ⟨rb, 0, none⟩), .int .i64 0, .int .i64 9223372036854775807] W2 fun e w' => e = flt p c ∧ Below W2.heap.size W2 w') :
    Calls Tryd.prog 88 #[.pointer (some ⟨rb, 0, none⟩)] W (XP rb g N cT o T W (.bad p c)) := by
  have HI0 := Lib.hid (fun w1 (h1 : Below W.heap.size W w1) => (show Calls Tryd.prog 53 #[.pointer (some ⟨rb, 0, none⟩), .string ⟨#[45]⟩] w1 fun e w' => e = .returned (.bool false) ∧ Below w1.heap.size w1 w' from is_any (h.below h1) [45] false b0))
  have HI1 := Lib.hid (fun w1 (h1 : Below W.heap.size W w1) => (show Calls Tryd.prog 53 #[.pointer (some ⟨rb, 0, none⟩), .string ⟨#[33]⟩] w1 fun e w' => e = .returned (.bool false) ∧ Below w1.heap.size w1 w' from is_any (h.below h1) [33] false b1))
  have HI2 := Lib.hid (fun w1 (h1 : Below W.heap.size W w1) => (show Calls Tryd.prog 53 #[.pointer (some ⟨rb, 0, none⟩), .string ⟨#[40]⟩] w1 fun e w' => e = .returned (.bool false) ∧ Below w1.heap.size w1 w' from is_any (h.below h1) [40] false b2))
  have HI3 := Lib.hid (fun w1 (h1 : Below W.heap.size W w1) => (show Calls Tryd.prog 75 #[.pointer (some ⟨rb, 0, none⟩), .string ⟨#[99, 108, 111, 99, 107]⟩] w1 fun e w' => e = .returned (.bool false) ∧ Below w1.heap.size w1 w' from take_no (h.below h1) [99, 108, 111, 99, 107] b3))
  obtain ⟨tk, htk⟩ : ∃ tk, hdT (T.drop i) = tk := ⟨_, rfl⟩
  have HN := Lib.hid (fun w1 (h1 : Below W.heap.size W w1) => now_any (h.below h1) tk htk)
  rw [htk] at hk
  have k1 : ((tk.kind : Int) == 2) = true := by rw [hk]; rfl
  clear htk hk
  have HSS := Lib.hid HS
  have HR := Lib.hid (fun w1 (h1 : Below W.heap.size W w1) => h.below h1)
  have hrl := h.rlt
  have hgl := h.tok.1
  have q0 : Below W.heap.size W (W.alloc (.cells #[.int .i64 0, .int .i64 0, .string ⟨#[]⟩, .slice none 0 0] 43)) := (Below.refl _ _).alloc (Nat.le_refl _) _
  have B6 := heap_alloc_new W (.cells #[.int .i64 0, .int .i64 0, .string ⟨#[]⟩, .slice none 0 0] 43)
  have z0 : (W.alloc (.cells #[.int .i64 0, .int .i64 0, .string ⟨#[]⟩, .slice none 0 0] 43)).heap.size = W.heap.size + 1 := by simp
  clear HS h b0 b1 b2 b3 hrl hgl
  go_enter Tryd.func88, Tryd.ntmps88
  go_upto_region 1 with fail
  obtain ⟨w0, hw0⟩ : ∃ W1, W.alloc (.cells #[.int .i64 0, .int .i64 0, .string ⟨#[]⟩, .slice none 0 0] 43) = W1 := ⟨_, rfl⟩
  rw [hw0] at B6 q0 z0 ⊢
  clear hw0
  have t0 : Below w0.heap.size w0 w0 := Below.refl _ _
  go_wp2_with (first
    | (go_at_call 53; ((with_reducible refine (HI0.out _ q0).mono ?_); rintro e w1 ⟨rfl, e1⟩; have q1 := q0.trans (e1.mono q0.size); have t1 := t0.trans (e1.mono t0.size)))
    | (go_at_call 53; ((with_reducible refine (HI1.out _ q1).mono ?_); rintro e w2 ⟨rfl, e2⟩; have q2 := q1.trans (e2.mono q1.size); have t2 := t1.trans (e2.mono t1.size)))
    | (go_at_call 53; ((with_reducible refine (HI2.out _ q2).mono ?_); rintro e w3 ⟨rfl, e3⟩; have q3 := q2.trans (e3.mono q2.size); have t3 := t2.trans (e3.mono t2.size)))
    | (go_at_call 75; ((with_reducible refine (HI3.out _ q3).mono ?_); rintro e w4 ⟨rfl, e4⟩; have q4 := q3.trans (e4.mono q3.size); have t4 := t3.trans (e4.mono t3.size)))
    | (go_at_call 56; ((with_reducible refine (HN.out _ q4).mono ?_); rintro e wn ⟨rfl, en⟩; have qn := q4.trans (en.mono q4.size); have tn := t4.trans (en.mono t4.size)))
    | (go_at_call 78; ((with_reducible refine (HSS.out _ (HR.out _ qn)).mono ?_); rintro e w9 ⟨rfl, hy⟩)))
  exact ⟨rfl, rfl, (Gr.of qn).trans (Gr.of hy)⟩

end Go.Proofs.YtaajolemjgdfnaaDoor

/-
  Package parse: what operations of two stand between, whole.
-/
namespace Go.Proofs.YtaajolemjgdfnaaDoor
open Go Go.RowKit Go.Lib

theorem enter_bind {α : Type} (s : List UInt8) (o : Nat) (ts : List Tok) (f : List Tok → PR α) : ((enterT s o ts).bind fun _ r => f r) = (enterT s o ts).bind fun _ _ => f ts.tail := by
  unfold enterT
  split
  · split <;> rfl
  · rfl

section
variable {rb g N cT : Nat} {T : List Tok} (ex : Nat → Nat → List Tok → PR Ex)
    (HEX : ∀ W i o, Rd W rb g N cT T i o → ex 1 o (T.drop i) ≠ .out → Calls Tryd.prog 85 #[.pointer (some ⟨rb, 0, none⟩)] W (XP rb g N cT o T W (ex 1 o (T.drop i))))
    (HNM : ∀ m W i o, Rd W rb g N cT T i o → namedT ex m o (T.drop i) ≠ .out → Calls Tryd.prog 91 #[.pointer (some ⟨rb, 0, none⟩)] W (XP rb g N cT o T W (namedT ex m o (T.drop i))))
include HEX HNM

theorem single_any : ∀ m W i o, Rd W rb g N cT T i o → singleT ex m o (T.drop i) ≠ .out → Calls Tryd.prog 88 #[.pointer (some ⟨rb, 0, none⟩)] W (XP rb g N cT o T W (singleT ex m o (T.drop i)))
  | 0, _, _, _, _, hx => absurd rfl hx
  | m + 1, W, i, o, h, hx => by
    have IH := single_any m
    rw [singleT] at hx ⊢
    by_cases b0 : isT (T.drop i) [45] = true
    · rw [if_pos b0] at hx ⊢
      rw [enter_bind, drop_tail] at hx ⊢
      have HO : ∀ W2, Rd W2 rb g N cT T i o → Calls Tryd.prog 90 #[.pointer (some ⟨rb, 0, none⟩), .int .i64 6, .string ⟨#[45]⟩] W2 (XP rb g N cT o T W2 ((enterT [45] o (T.drop i)).bind fun _ _ => (singleT ex m (o + 1) (T.drop (i + 1))).bind fun e r => .ok ⟨6, 0, nilS, toES e .nil⟩ r)) := by
        intro W2 h2
        have hq : o < 256 → singleT ex m (o + 1) (T.drop (i + 1)) ≠ .out := by
          intro ho e
          rw [e] at hx
          unfold enterT at hx
          rw [if_pos b0, if_neg (by omega)] at hx
          exact hx rfl
        refine on_any h2 6 (by unfold I64; omega) [45] (by decide) b0 _ hq (fun W3 h3 => ?_)
        exact IH W3 (i + 1) (o + 1) h3 (hq (by have := h3.small; omega))
      generalize ((enterT [45] o (T.drop i)).bind fun _ _ => (singleT ex m (o + 1) (T.drop (i + 1))).bind fun e r => (PR.ok ⟨6, 0, nilS, toES e .nil⟩ r : PR Ex)) = y at HO hx ⊢
      cases y with
      | ok v r => exact sg_neg_ok h b0 v r HO
      | bad p c => exact sg_neg_bad h b0 p c HO
      | out => exact absurd rfl hx
    · have b0 : isT (T.drop i) [45] = false := by simpa using b0
      rw [if_neg (by rw [b0]; decide)] at hx ⊢
      by_cases b1 : isT (T.drop i) [33] = true
      · rw [if_pos b1] at hx ⊢
        rw [enter_bind, drop_tail] at hx ⊢
        have HO : ∀ W2, Rd W2 rb g N cT T i o → Calls Tryd.prog 90 #[.pointer (some ⟨rb, 0, none⟩), .int .i64 7, .string ⟨#[33]⟩] W2 (XP rb g N cT o T W2 ((enterT [33] o (T.drop i)).bind fun _ _ => (singleT ex m (o + 1) (T.drop (i + 1))).bind fun e r => .ok ⟨7, 0, nilS, toES e .nil⟩ r)) := by
          intro W2 h2
          have hq : o < 256 → singleT ex m (o + 1) (T.drop (i + 1)) ≠ .out := by
            intro ho e
            rw [e] at hx
            unfold enterT at hx
            rw [if_pos b1, if_neg (by omega)] at hx
            exact hx rfl
          refine on_any h2 7 (by unfold I64; omega) [33] (by decide) b1 _ hq (fun W3 h3 => ?_)
          exact IH W3 (i + 1) (o + 1) h3 (hq (by have := h3.small; omega))
        generalize ((enterT [33] o (T.drop i)).bind fun _ _ => (singleT ex m (o + 1) (T.drop (i + 1))).bind fun e r => (PR.ok ⟨7, 0, nilS, toES e .nil⟩ r : PR Ex)) = y at HO hx ⊢
        cases y with
        | ok v r => exact sg_not_ok h b0 b1 v r HO
        | bad p c => exact sg_not_bad h b0 b1 p c HO
        | out => exact absurd rfl hx
      · have b1 : isT (T.drop i) [33] = false := by simpa using b1
        rw [if_neg (by rw [b1]; decide)] at hx ⊢
        by_cases b2 : isT (T.drop i) [40] = true
        · rw [if_pos b2] at hx ⊢
          have HO : ∀ W2, Rd W2 rb g N cT T i o → Calls Tryd.prog 86 #[.pointer (some ⟨rb, 0, none⟩), .string ⟨#[40]⟩, .string ⟨#[41]⟩] W2 (XP rb g N cT o T W2 (withinT ex [40] [41] o (T.drop i))) := by
            intro W2 h2
            have hq : o < 256 → ex 1 (o + 1) (T.drop (i + 1)) ≠ .out := by
              intro ho e
              unfold withinT at hx
              rw [enter_bind (f := fun r => (ex 1 (o + 1) r).bind fun e r => (wantT [41] r).bind fun _ r => PR.ok e r), drop_tail, e] at hx
              unfold enterT at hx
              rw [if_pos b2, if_neg (by omega)] at hx
              exact hx rfl
            refine within_any h2 [40] [41] (by decide) (by decide) b2 ex hq (fun W3 h3 => ?_)
            exact HEX W3 (i + 1) (o + 1) h3 (hq (by have := h3.small; omega))
          generalize withinT ex [40] [41] o (T.drop i) = y at HO hx ⊢
          cases y with
          | ok v r => exact sg_par_ok h b0 b1 b2 v r HO
          | bad p c => exact sg_par_bad h b0 b1 b2 p c HO
          | out => exact absurd rfl hx
        · have b2 : isT (T.drop i) [40] = false := by simpa using b2
          rw [if_neg (by rw [b2]; decide)] at hx ⊢
          by_cases b3 : isT (T.drop i) [99, 108, 111, 99, 107] = true
          · rw [if_pos b3]
            exact sg_clock h b0 b1 b2 b3
          · have b3 : isT (T.drop i) [99, 108, 111, 99, 107] = false := by simpa using b3
            rw [if_neg (by rw [b3]; decide)] at hx ⊢
            by_cases hk : (hdT (T.drop i)).kind = 2
            · rw [if_pos hk] at hx ⊢
              unfold numT
              rw [if_pos hk]
              cases hn : parseL (hdT (T.drop i)).text with
              | none => exact sg_num_bad h b0 b1 b2 b3 hk _ 1 (fun W2 h2 => num_none h2 _ _ hk hn _ rfl)
              | some n =>
                by_cases hr : n < 0 ∨ 9223372036854775807 < n
                · simp only [if_pos hr]
                  exact sg_num_bad h b0 b1 b2 b3 hk _ 1 (fun W2 h2 => num_out h2 _ _ n hk hn hr _ rfl)
                · simp only [if_neg hr]
                  exact sg_num_ok h b0 b1 b2 b3 hk n (by unfold I64; omega) (fun W2 h2 => num_yes h2 _ _ n hk hn (by omega))
            · rw [if_neg hk] at hx ⊢
              have HO : ∀ W2, Rd W2 rb g N cT T i o → Calls Tryd.prog 91 #[.pointer (some ⟨rb, 0, none⟩)] W2 (XP rb g N cT o T W2 (namedT ex (m + 1) o (T.drop i))) := fun W2 h2 => HNM (m + 1) W2 i o h2 hx
              generalize namedT ex (m + 1) o (T.drop i) = y at HO hx ⊢
              cases y with
              | ok v r => exact sg_name_ok h b0 b1 b2 b3 hk v r HO
              | bad p c => exact sg_name_bad h b0 b1 b2 b3 hk p c HO
              | out => exact absurd rfl hx
end

end Go.Proofs.YtaajolemjgdfnaaDoor

