/-
  Texts PbH PbI: put together.
-/
import Derived.Test.YtaajolemjgdfnaaDoorPbG
/-
  Package parse: a statement, way by way.
-/
namespace Go.Proofs.YtaajolemjgdfnaaDoor
open Go Go.RowKit Go.Lib

theorem put6_block {W : World} {n k : Nat} {a b c d x y : Value} (h : k ≠ n) : (put6 W n a b c d x y).heap[k]? = W.heap[k]? := by
  unfold put6
  rw [Below.heap_setCell _ _ _ _ h, Below.heap_setCell _ _ _ _ h]
  exact put4_block h
theorem put6_size {W : World} {n : Nat} {a b c d x y : Value} : (put6 W n a b c d x y).heap.size = W.heap.size := by simp [put6, put4]
theorem num_i64 {ts r : List Tok} {k : Int} (h : numT 1 4096 ts = .ok k r) : I64 k := by
  unfold numT at h
  split at h
  · split at h
    · split at h
      · cases h
      · rename_i n _ hn
        injection h with h1 h2
        subst h1
        unfold I64
        omega
    · cases h
  · cases h

set_option maxRecDepth 100000 in
theorem st5_bad {W : World} {rb g N cT i o : Nat} {T : List Tok} (h : Rd W rb g N cT T i o) (b0 : isT (T.drop i) [97, 114, 114, 97, 121] = false) (b1 : isT (T.drop i) [105, 110, 112, 117, 116] = false) (b2 : isT (T.drop i) [112, 114, 105, 110, 116] = false) (b3 : isT (T.drop i) [107, 101, 101, 112] = false) (b4 : isT (T.drop i) [114, 101, 116, 117, 114, 110] = false) (b5 : isT (T.drop i) [105, 102] = true) (p c : Nat)
    (HX : ∀ W2, Rd W2 rb g N cT T (i + 1) o → Calls Tryd.prog 80 #[.pointer (some ⟨rb, 0, none⟩)] W2 (TP rb g N cT o T W2 (.bad p c))) :
    Calls Tryd.prog 72 #[.pointer (some ⟨rb, 0, none⟩)] W (TP rb g N cT o T W (.bad p c)) := by
  have HXX := Lib.hid HX
  clear HX
  have HT0 := Lib.hid (fun w1 (h1 : Rd w1 rb g N cT T i o) => (show Calls Tryd.prog 75 #[.pointer (some ⟨rb, 0, none⟩), .string ⟨#[97, 114, 114, 97, 121]⟩] w1 (fun e w' => e = .returned (.bool false) ∧ Below w1.heap.size w1 w') from take_no h1 [97, 114, 114, 97, 121] b0))
  have HT1 := Lib.hid (fun w1 (h1 : Rd w1 rb g N cT T i o) => (show Calls Tryd.prog 75 #[.pointer (some ⟨rb, 0, none⟩), .string ⟨#[105, 110, 112, 117, 116]⟩] w1 (fun e w' => e = .returned (.bool false) ∧ Below w1.heap.size w1 w') from take_no h1 [105, 110, 112, 117, 116] b1))
  have HT2 := Lib.hid (fun w1 (h1 : Rd w1 rb g N cT T i o) => (show Calls Tryd.prog 75 #[.pointer (some ⟨rb, 0, none⟩), .string ⟨#[112, 114, 105, 110, 116]⟩] w1 (fun e w' => e = .returned (.bool false) ∧ Below w1.heap.size w1 w') from take_no h1 [112, 114, 105, 110, 116] b2))
  have HT3 := Lib.hid (fun w1 (h1 : Rd w1 rb g N cT T i o) => (show Calls Tryd.prog 75 #[.pointer (some ⟨rb, 0, none⟩), .string ⟨#[107, 101, 101, 112]⟩] w1 (fun e w' => e = .returned (.bool false) ∧ Below w1.heap.size w1 w') from take_no h1 [107, 101, 101, 112] b3))
  have HT4 := Lib.hid (fun w1 (h1 : Rd w1 rb g N cT T i o) => (show Calls Tryd.prog 75 #[.pointer (some ⟨rb, 0, none⟩), .string ⟨#[114, 101, 116, 117, 114, 110]⟩] w1 (fun e w' => e = .returned (.bool false) ∧ Below w1.heap.size w1 w') from take_no h1 [114, 101, 116, 117, 114, 110] b4))
  have HT5 := Lib.hid (fun w1 (h1 : Rd w1 rb g N cT T i o) => (show Calls Tryd.prog 75 #[.pointer (some ⟨rb, 0, none⟩), .string ⟨#[105, 102]⟩] w1 (fun e w' => e = .returned (.bool true) ∧ Rd w' rb g N cT T (i + 1) o ∧ Gr rb w1 w') from take_yes h1 [105, 102] (by decide) b5))
  have hrl := h.rlt
  have hgl := h.tok.1
  have h0 := (h.alloc (.cells #[.int .i64 0, .string ⟨#[]⟩, .int .i64 0, .slice none 0 0, .slice none 0 0, .slice none 0 0] 45)).alloc (.cells #[.int .i64 0, .string ⟨#[]⟩, .int .i64 0, .slice none 0 0, .slice none 0 0, .slice none 0 0] 45)
  have B8 := (Below.heap_alloc (W.alloc (.cells #[.int .i64 0, .string ⟨#[]⟩, .int .i64 0, .slice none 0 0, .slice none 0 0, .slice none 0 0] 45)) (.cells #[.int .i64 0, .string ⟨#[]⟩, .int .i64 0, .slice none 0 0, .slice none 0 0, .slice none 0 0] 45) W.heap.size (by simp)).trans (heap_alloc_new W (.cells #[.int .i64 0, .string ⟨#[]⟩, .int .i64 0, .slice none 0 0, .slice none 0 0, .slice none 0 0] 45))
  have B7 := heap_alloc_new (W.alloc (.cells #[.int .i64 0, .string ⟨#[]⟩, .int .i64 0, .slice none 0 0, .slice none 0 0, .slice none 0 0] 45)) (.cells #[.int .i64 0, .string ⟨#[]⟩, .int .i64 0, .slice none 0 0, .slice none 0 0, .slice none 0 0] 45)
  rw [World.size_alloc] at B7
  have g0 := ((Gr.refl rb W).alloc (.cells #[.int .i64 0, .string ⟨#[]⟩, .int .i64 0, .slice none 0 0, .slice none 0 0, .slice none 0 0] 45)).alloc (.cells #[.int .i64 0, .string ⟨#[]⟩, .int .i64 0, .slice none 0 0, .slice none 0 0, .slice none 0 0] 45)
  have z0 : ((W.alloc (.cells #[.int .i64 0, .string ⟨#[]⟩, .int .i64 0, .slice none 0 0, .slice none 0 0, .slice none 0 0] 45)).alloc (.cells #[.int .i64 0, .string ⟨#[]⟩, .int .i64 0, .slice none 0 0, .slice none 0 0, .slice none 0 0] 45)).heap.size = W.heap.size + 2 := by simp
  clear h b0 b1 b2 b3 b4 b5
  go_enter Tryd.func72, Tryd.ntmps72
  go_upto_region 3 with fail
  obtain ⟨w0, hw0⟩ : ∃ W1, (W.alloc (.cells #[.int .i64 0, .string ⟨#[]⟩, .int .i64 0, .slice none 0 0, .slice none 0 0, .slice none 0 0] 45)).alloc (.cells #[.int .i64 0, .string ⟨#[]⟩, .int .i64 0, .slice none 0 0, .slice none 0 0, .slice none 0 0] 45) = W1 := ⟨_, rfl⟩
  rw [hw0] at h0 B8 B7 g0 z0 ⊢
  clear hw0
  obtain ⟨n3, hn3⟩ : ∃ n3, W.heap.size + 1 = n3 := ⟨_, rfl⟩
  rw [hn3] at B7 ⊢
  go_upto_region 15 with (first
    | (go_at_call 75; ((with_reducible refine (HT0.out _ h0).mono ?_); rintro e x0 ⟨rfl, e0⟩; have t0 := h0.below e0; have ee0 := e0))
    | (go_at_call 75; ((with_reducible refine (HT1.out _ t0).mono ?_); rintro e x1 ⟨rfl, e1⟩; have t1 := t0.below e1; have ee1 := ee0.trans (e1.mono ee0.size)))
    | (go_at_call 75; ((with_reducible refine (HT2.out _ t1).mono ?_); rintro e x2 ⟨rfl, e2⟩; have t2 := t1.below e2; have ee2 := ee1.trans (e2.mono ee1.size)))
    | (go_at_call 75; ((with_reducible refine (HT3.out _ t2).mono ?_); rintro e x3 ⟨rfl, e3⟩; have t3 := t2.below e3; have ee3 := ee2.trans (e3.mono ee2.size)))
    | (go_at_call 75; ((with_reducible refine (HT4.out _ t3).mono ?_); rintro e x4 ⟨rfl, e4⟩; have t4 := t3.below e4; have ee4 := ee3.trans (e4.mono ee3.size)))
    | (go_at_call 75; ((with_reducible refine (HT5.out _ t4).mono ?_); rintro e w2 ⟨rfl, h2, gq⟩; have gg := (Gr.of ee4).trans gq)))
  have z2 := gg.size
  have B7 := (gg.block (lt_heap B7) (by omega)).trans B7
  have B8 := (gg.block (lt_heap B8) (by omega)).trans B8
  have g2 := g0.trans gg
  clear gg
  clear h0 g0 HT0 HT1 HT2 HT3 HT4 HT5
  go_wp2_with (go_at_call 80; ((with_reducible refine (HXX.out _ h2).mono ?_); rintro e w5 ⟨rfl, g5⟩))
  exact ⟨rfl, rfl, g2.trans g5⟩

set_option maxRecDepth 100000 in
theorem st5_ok {W : World} {rb g N cT i o : Nat} {T : List Tok} (h : Rd W rb g N cT T i o) (b0 : isT (T.drop i) [97, 114, 114, 97, 121] = false) (b1 : isT (T.drop i) [105, 110, 112, 117, 116] = false) (b2 : isT (T.drop i) [112, 114, 105, 110, 116] = false) (b3 : isT (T.drop i) [107, 101, 101, 112] = false) (b4 : isT (T.drop i) [114, 101, 116, 117, 114, 110] = false) (b5 : isT (T.drop i) [105, 102] = true) (t : Sm) (r : List Tok)
    (HX : ∀ W2, Rd W2 rb g N cT T (i + 1) o → Calls Tryd.prog 80 #[.pointer (some ⟨rb, 0, none⟩)] W2 (TP rb g N cT o T W2 (.ok t r))) :
    Calls Tryd.prog 72 #[.pointer (some ⟨rb, 0, none⟩)] W (TP rb g N cT o T W (.ok t r)) := by
  have HXX := Lib.hid HX
  clear HX
  have HT0 := Lib.hid (fun w1 (h1 : Rd w1 rb g N cT T i o) => (show Calls Tryd.prog 75 #[.pointer (some ⟨rb, 0, none⟩), .string ⟨#[97, 114, 114, 97, 121]⟩] w1 (fun e w' => e = .returned (.bool false) ∧ Below w1.heap.size w1 w') from take_no h1 [97, 114, 114, 97, 121] b0))
  have HT1 := Lib.hid (fun w1 (h1 : Rd w1 rb g N cT T i o) => (show Calls Tryd.prog 75 #[.pointer (some ⟨rb, 0, none⟩), .string ⟨#[105, 110, 112, 117, 116]⟩] w1 (fun e w' => e = .returned (.bool false) ∧ Below w1.heap.size w1 w') from take_no h1 [105, 110, 112, 117, 116] b1))
  have HT2 := Lib.hid (fun w1 (h1 : Rd w1 rb g N cT T i o) => (show Calls Tryd.prog 75 #[.pointer (some ⟨rb, 0, none⟩), .string ⟨#[112, 114, 105, 110, 116]⟩] w1 (fun e w' => e = .returned (.bool false) ∧ Below w1.heap.size w1 w') from take_no h1 [112, 114, 105, 110, 116] b2))
  have HT3 := Lib.hid (fun w1 (h1 : Rd w1 rb g N cT T i o) => (show Calls Tryd.prog 75 #[.pointer (some ⟨rb, 0, none⟩), .string ⟨#[107, 101, 101, 112]⟩] w1 (fun e w' => e = .returned (.bool false) ∧ Below w1.heap.size w1 w') from take_no h1 [107, 101, 101, 112] b3))
  have HT4 := Lib.hid (fun w1 (h1 : Rd w1 rb g N cT T i o) => (show Calls Tryd.prog 75 #[.pointer (some ⟨rb, 0, none⟩), .string ⟨#[114, 101, 116, 117, 114, 110]⟩] w1 (fun e w' => e = .returned (.bool false) ∧ Below w1.heap.size w1 w') from take_no h1 [114, 101, 116, 117, 114, 110] b4))
  have HT5 := Lib.hid (fun w1 (h1 : Rd w1 rb g N cT T i o) => (show Calls Tryd.prog 75 #[.pointer (some ⟨rb, 0, none⟩), .string ⟨#[105, 102]⟩] w1 (fun e w' => e = .returned (.bool true) ∧ Rd w' rb g N cT T (i + 1) o ∧ Gr rb w1 w') from take_yes h1 [105, 102] (by decide) b5))
  have hrl := h.rlt
  have hgl := h.tok.1
  have h0 := (h.alloc (.cells #[.int .i64 0, .string ⟨#[]⟩, .int .i64 0, .slice none 0 0, .slice none 0 0, .slice none 0 0] 45)).alloc (.cells #[.int .i64 0, .string ⟨#[]⟩, .int .i64 0, .slice none 0 0, .slice none 0 0, .slice none 0 0] 45)
  have B8 := (Below.heap_alloc (W.alloc (.cells #[.int .i64 0, .string ⟨#[]⟩, .int .i64 0, .slice none 0 0, .slice none 0 0, .slice none 0 0] 45)) (.cells #[.int .i64 0, .string ⟨#[]⟩, .int .i64 0, .slice none 0 0, .slice none 0 0, .slice none 0 0] 45) W.heap.size (by simp)).trans (heap_alloc_new W (.cells #[.int .i64 0, .string ⟨#[]⟩, .int .i64 0, .slice none 0 0, .slice none 0 0, .slice none 0 0] 45))
  have B7 := heap_alloc_new (W.alloc (.cells #[.int .i64 0, .string ⟨#[]⟩, .int .i64 0, .slice none 0 0, .slice none 0 0, .slice none 0 0] 45)) (.cells #[.int .i64 0, .string ⟨#[]⟩, .int .i64 0, .slice none 0 0, .slice none 0 0, .slice none 0 0] 45)
  rw [World.size_alloc] at B7
  have g0 := ((Gr.refl rb W).alloc (.cells #[.int .i64 0, .string ⟨#[]⟩, .int .i64 0, .slice none 0 0, .slice none 0 0, .slice none 0 0] 45)).alloc (.cells #[.int .i64 0, .string ⟨#[]⟩, .int .i64 0, .slice none 0 0, .slice none 0 0, .slice none 0 0] 45)
  have z0 : ((W.alloc (.cells #[.int .i64 0, .string ⟨#[]⟩, .int .i64 0, .slice none 0 0, .slice none 0 0, .slice none 0 0] 45)).alloc (.cells #[.int .i64 0, .string ⟨#[]⟩, .int .i64 0, .slice none 0 0, .slice none 0 0, .slice none 0 0] 45)).heap.size = W.heap.size + 2 := by simp
  clear h b0 b1 b2 b3 b4 b5
  go_enter Tryd.func72, Tryd.ntmps72
  go_upto_region 3 with fail
  obtain ⟨w0, hw0⟩ : ∃ W1, (W.alloc (.cells #[.int .i64 0, .string ⟨#[]⟩, .int .i64 0, .slice none 0 0, .slice none 0 0, .slice none 0 0] 45)).alloc (.cells #[.int .i64 0, .string ⟨#[]⟩, .int .i64 0, .slice none 0 0, .slice none 0 0, .slice none 0 0] 45) = W1 := ⟨_, rfl⟩
  rw [hw0] at h0 B8 B7 g0 z0 ⊢
  clear hw0
  obtain ⟨n3, hn3⟩ : ∃ n3, W.heap.size + 1 = n3 := ⟨_, rfl⟩
  rw [hn3] at B7 ⊢
  go_upto_region 15 with (first
    | (go_at_call 75; ((with_reducible refine (HT0.out _ h0).mono ?_); rintro e x0 ⟨rfl, e0⟩; have t0 := h0.below e0; have ee0 := e0))
    | (go_at_call 75; ((with_reducible refine (HT1.out _ t0).mono ?_); rintro e x1 ⟨rfl, e1⟩; have t1 := t0.below e1; have ee1 := ee0.trans (e1.mono ee0.size)))
    | (go_at_call 75; ((with_reducible refine (HT2.out _ t1).mono ?_); rintro e x2 ⟨rfl, e2⟩; have t2 := t1.below e2; have ee2 := ee1.trans (e2.mono ee1.size)))
    | (go_at_call 75; ((with_reducible refine (HT3.out _ t2).mono ?_); rintro e x3 ⟨rfl, e3⟩; have t3 := t2.below e3; have ee3 := ee2.trans (e3.mono ee2.size)))
    | (go_at_call 75; ((with_reducible refine (HT4.out _ t3).mono ?_); rintro e x4 ⟨rfl, e4⟩; have t4 := t3.below e4; have ee4 := ee3.trans (e4.mono ee3.size)))
    | (go_at_call 75; ((with_reducible refine (HT5.out _ t4).mono ?_); rintro e w2 ⟨rfl, h2, gq⟩; have gg := (Gr.of ee4).trans gq)))
  have z2 := gg.size
  have B7 := (gg.block (lt_heap B7) (by omega)).trans B7
  have B8 := (gg.block (lt_heap B8) (by omega)).trans B8
  have g2 := g0.trans gg
  clear gg
  clear h0 g0 HT0 HT1 HT2 HT3 HT4 HT5
  have HB7 := Lib.hid (fun w5 (g5 : Gr rb w2 w5) => (g5.block (lt_heap B7) (by omega)).trans B7)
  have HB8 := Lib.hid (fun w5 (g5 : Gr rb w2 w5) => (g5.block (lt_heap B8) (by omega)).trans B8)
  go_wp2_with (go_at_call 80; ((with_reducible refine (HXX.out _ h2).mono ?_); rintro e w5 ⟨⟨vv, rfl, vl, vx, vy, rfl, hvl, hvx, hvy, hok⟩, ⟨i5, h5, hd5⟩, g5⟩; obtain ⟨A1, k1, el1, _⟩ := id hvl; obtain ⟨A2, k2, el2, _⟩ := id hvx; obtain ⟨A3, k3, el3, _⟩ := id hvy; subst el1; subst el2; subst el3; have B8 := HB8.out w5 g5; have c0 := box_cell B8 0; have f0 := box_frozen B8 0; have c1 := box_cell B8 1; have f1 := box_frozen B8 1; have c2 := box_cell B8 2; have f2 := box_frozen B8 2; have c3 := box_cell B8 3; have f3 := box_frozen B8 3; have c4 := box_cell B8 4; have f4 := box_frozen B8 4; have c5 := box_cell B8 5; have f5 := box_frozen B8 5; simp only [List.getElem?_toArray, List.getElem?_cons_succ, List.getElem?_cons_zero] at c0 c1 c2 c3 c4 c5))
  have z5 := g5.size
  have hP := put6_heap (a := .int .i64 t.op) (b := .string t.s) (c := .int .i64 t.n) (d := .slice A1 t.l.len k1) (x := .slice A2 t.x.len k2) (y := .slice A3 t.y.len k3) B8
  have hfin : TP rb g N cT o T W (.ok t r) (.returned (.agg #[.int .i64 t.op, .string t.s, .int .i64 t.n, .slice A1 t.l.len k1, .slice A2 t.x.len k2, .slice A3 t.y.len k3])) (Proofs.YtaajolemjgdfnaaDoor.put6 w5 W.heap.size (.int .i64 t.op) (.string t.s) (.int .i64 t.n) (.slice A1 t.l.len k1) (.slice A2 t.x.len k2) (.slice A3 t.y.len k3)) := ⟨⟨_, rfl, _, _, _, rfl, hvl.kp (Kp.put6 (by omega)) (by omega), hvx.kp (Kp.put6 (by omega)) (by omega), hvy.kp (Kp.put6 (by omega)) (by omega), hok⟩, ⟨i5, h5.put6 (by omega) (by omega), hd5⟩, (g2.trans g5).put6 (Nat.le_refl _)⟩
  obtain ⟨wz, hwz⟩ : ∃ W5, (Proofs.YtaajolemjgdfnaaDoor.put6 w5 W.heap.size (.int .i64 t.op) (.string t.s) (.int .i64 t.n) (.slice A1 t.l.len k1) (.slice A2 t.x.len k2) (.slice A3 t.y.len k3)) = W5 := ⟨_, rfl⟩
  show bodyPost _ _ _ _ _ (Proofs.YtaajolemjgdfnaaDoor.put6 w5 W.heap.size (.int .i64 t.op) (.string t.s) (.int .i64 t.n) (.slice A1 t.l.len k1) (.slice A2 t.x.len k2) (.slice A3 t.y.len k3))
  rw [hwz] at hP hfin ⊢
  have p0 := box_cell hP 0
  have p1 := box_cell hP 1
  have p2 := box_cell hP 2
  have p3 := box_cell hP 3
  have p4 := box_cell hP 4
  have p5 := box_cell hP 5
  simp only [List.getElem?_toArray, List.getElem?_cons_succ, List.getElem?_cons_zero] at p0 p1 p2 p3 p4 p5
  exact bodyPost_ret (v := .agg #[.int .i64 t.op, .string t.s, .int .i64 t.n, .slice A1 t.l.len k1, .slice A2 t.x.len k2, .slice A3 t.y.len k3]) (by simp [results, Tryd.results72, go_sem, p0, p1, p2, p3, p4, p5]) rfl hfin

set_option maxRecDepth 100000 in
theorem st6_bad {W : World} {rb g N cT i o : Nat} {T : List Tok} (h : Rd W rb g N cT T i o) (b0 : isT (T.drop i) [97, 114, 114, 97, 121] = false) (b1 : isT (T.drop i) [105, 110, 112, 117, 116] = false) (b2 : isT (T.drop i) [112, 114, 105, 110, 116] = false) (b3 : isT (T.drop i) [107, 101, 101, 112] = false) (b4 : isT (T.drop i) [114, 101, 116, 117, 114, 110] = false) (b5 : isT (T.drop i) [105, 102] = false) (b6 : isT (T.drop i) [119, 104, 105, 108, 101] = true) (p c : Nat)
    (HX : ∀ W2, Rd W2 rb g N cT T (i + 1) o → Calls Tryd.prog 81 #[.pointer (some ⟨rb, 0, none⟩)] W2 (TP rb g N cT o T W2 (.bad p c))) :
    Calls Tryd.prog 72 #[.pointer (some ⟨rb, 0, none⟩)] W (TP rb g N cT o T W (.bad p c)) := by
  have HXX := Lib.hid HX
  clear HX
  have HT0 := Lib.hid (fun w1 (h1 : Rd w1 rb g N cT T i o) => (show Calls Tryd.prog 75 #[.pointer (some ⟨rb, 0, none⟩), .string ⟨#[97, 114, 114, 97, 121]⟩] w1 (fun e w' => e = .returned (.bool false) ∧ Below w1.heap.size w1 w') from take_no h1 [97, 114, 114, 97, 121] b0))
  have HT1 := Lib.hid (fun w1 (h1 : Rd w1 rb g N cT T i o) => (show Calls Tryd.prog 75 #[.pointer (some ⟨rb, 0, none⟩), .string ⟨#[105, 110, 112, 117, 116]⟩] w1 (fun e w' => e = .returned (.bool false) ∧ Below w1.heap.size w1 w') from take_no h1 [105, 110, 112, 117, 116] b1))
  have HT2 := Lib.hid (fun w1 (h1 : Rd w1 rb g N cT T i o) => (show Calls Tryd.prog 75 #[.pointer (some ⟨rb, 0, none⟩), .string ⟨#[112, 114, 105, 110, 116]⟩] w1 (fun e w' => e = .returned (.bool false) ∧ Below w1.heap.size w1 w') from take_no h1 [112, 114, 105, 110, 116] b2))
  have HT3 := Lib.hid (fun w1 (h1 : Rd w1 rb g N cT T i o) => (show Calls Tryd.prog 75 #[.pointer (some ⟨rb, 0, none⟩), .string ⟨#[107, 101, 101, 112]⟩] w1 (fun e w' => e = .returned (.bool false) ∧ Below w1.heap.size w1 w') from take_no h1 [107, 101, 101, 112] b3))
  have HT4 := Lib.hid (fun w1 (h1 : Rd w1 rb g N cT T i o) => (show Calls Tryd.prog 75 #[.pointer (some ⟨rb, 0, none⟩), .string ⟨#[114, 101, 116, 117, 114, 110]⟩] w1 (fun e w' => e = .returned (.bool false) ∧ Below w1.heap.size w1 w') from take_no h1 [114, 101, 116, 117, 114, 110] b4))
  have HT5 := Lib.hid (fun w1 (h1 : Rd w1 rb g N cT T i o) => (show Calls Tryd.prog 75 #[.pointer (some ⟨rb, 0, none⟩), .string ⟨#[105, 102]⟩] w1 (fun e w' => e = .returned (.bool false) ∧ Below w1.heap.size w1 w') from take_no h1 [105, 102] b5))
  have HT6 := Lib.hid (fun w1 (h1 : Rd w1 rb g N cT T i o) => (show Calls Tryd.prog 75 #[.pointer (some ⟨rb, 0, none⟩), .string ⟨#[119, 104, 105, 108, 101]⟩] w1 (fun e w' => e = .returned (.bool true) ∧ Rd w' rb g N cT T (i + 1) o ∧ Gr rb w1 w') from take_yes h1 [119, 104, 105, 108, 101] (by decide) b6))
  have hrl := h.rlt
  have hgl := h.tok.1
  have h0 := (h.alloc (.cells #[.int .i64 0, .string ⟨#[]⟩, .int .i64 0, .slice none 0 0, .slice none 0 0, .slice none 0 0] 45)).alloc (.cells #[.int .i64 0, .string ⟨#[]⟩, .int .i64 0, .slice none 0 0, .slice none 0 0, .slice none 0 0] 45)
  have B8 := (Below.heap_alloc (W.alloc (.cells #[.int .i64 0, .string ⟨#[]⟩, .int .i64 0, .slice none 0 0, .slice none 0 0, .slice none 0 0] 45)) (.cells #[.int .i64 0, .string ⟨#[]⟩, .int .i64 0, .slice none 0 0, .slice none 0 0, .slice none 0 0] 45) W.heap.size (by simp)).trans (heap_alloc_new W (.cells #[.int .i64 0, .string ⟨#[]⟩, .int .i64 0, .slice none 0 0, .slice none 0 0, .slice none 0 0] 45))
  have B7 := heap_alloc_new (W.alloc (.cells #[.int .i64 0, .string ⟨#[]⟩, .int .i64 0, .slice none 0 0, .slice none 0 0, .slice none 0 0] 45)) (.cells #[.int .i64 0, .string ⟨#[]⟩, .int .i64 0, .slice none 0 0, .slice none 0 0, .slice none 0 0] 45)
  rw [World.size_alloc] at B7
  have g0 := ((Gr.refl rb W).alloc (.cells #[.int .i64 0, .string ⟨#[]⟩, .int .i64 0, .slice none 0 0, .slice none 0 0, .slice none 0 0] 45)).alloc (.cells #[.int .i64 0, .string ⟨#[]⟩, .int .i64 0, .slice none 0 0, .slice none 0 0, .slice none 0 0] 45)
  have z0 : ((W.alloc (.cells #[.int .i64 0, .string ⟨#[]⟩, .int .i64 0, .slice none 0 0, .slice none 0 0, .slice none 0 0] 45)).alloc (.cells #[.int .i64 0, .string ⟨#[]⟩, .int .i64 0, .slice none 0 0, .slice none 0 0, .slice none 0 0] 45)).heap.size = W.heap.size + 2 := by simp
  clear h b0 b1 b2 b3 b4 b5 b6
  go_enter Tryd.func72, Tryd.ntmps72
  go_upto_region 3 with fail
  obtain ⟨w0, hw0⟩ : ∃ W1, (W.alloc (.cells #[.int .i64 0, .string ⟨#[]⟩, .int .i64 0, .slice none 0 0, .slice none 0 0, .slice none 0 0] 45)).alloc (.cells #[.int .i64 0, .string ⟨#[]⟩, .int .i64 0, .slice none 0 0, .slice none 0 0, .slice none 0 0] 45) = W1 := ⟨_, rfl⟩
  rw [hw0] at h0 B8 B7 g0 z0 ⊢
  clear hw0
  obtain ⟨n3, hn3⟩ : ∃ n3, W.heap.size + 1 = n3 := ⟨_, rfl⟩
  rw [hn3] at B7 ⊢
  go_upto_region 17 with (first
    | (go_at_call 75; ((with_reducible refine (HT0.out _ h0).mono ?_); rintro e x0 ⟨rfl, e0⟩; have t0 := h0.below e0; have ee0 := e0))
    | (go_at_call 75; ((with_reducible refine (HT1.out _ t0).mono ?_); rintro e x1 ⟨rfl, e1⟩; have t1 := t0.below e1; have ee1 := ee0.trans (e1.mono ee0.size)))
    | (go_at_call 75; ((with_reducible refine (HT2.out _ t1).mono ?_); rintro e x2 ⟨rfl, e2⟩; have t2 := t1.below e2; have ee2 := ee1.trans (e2.mono ee1.size)))
    | (go_at_call 75; ((with_reducible refine (HT3.out _ t2).mono ?_); rintro e x3 ⟨rfl, e3⟩; have t3 := t2.below e3; have ee3 := ee2.trans (e3.mono ee2.size)))
    | (go_at_call 75; ((with_reducible refine (HT4.out _ t3).mono ?_); rintro e x4 ⟨rfl, e4⟩; have t4 := t3.below e4; have ee4 := ee3.trans (e4.mono ee3.size)))
    | (go_at_call 75; ((with_reducible refine (HT5.out _ t4).mono ?_); rintro e x5 ⟨rfl, e5⟩; have t5 := t4.below e5; have ee5 := ee4.trans (e5.mono ee4.size)))
    | (go_at_call 75; ((with_reducible refine (HT6.out _ t5).mono ?_); rintro e w2 ⟨rfl, h2, gq⟩; have gg := (Gr.of ee5).trans gq)))
  have z2 := gg.size
  have B7 := (gg.block (lt_heap B7) (by omega)).trans B7
  have B8 := (gg.block (lt_heap B8) (by omega)).trans B8
  have g2 := g0.trans gg
  clear gg
  clear h0 g0 HT0 HT1 HT2 HT3 HT4 HT5 HT6
  go_wp2_with (go_at_call 81; ((with_reducible refine (HXX.out _ h2).mono ?_); rintro e w5 ⟨rfl, g5⟩))
  exact ⟨rfl, rfl, g2.trans g5⟩

set_option maxRecDepth 100000 in
theorem st6_ok {W : World} {rb g N cT i o : Nat} {T : List Tok} (h : Rd W rb g N cT T i o) (b0 : isT (T.drop i) [97, 114, 114, 97, 121] = false) (b1 : isT (T.drop i) [105, 110, 112, 117, 116] = false) (b2 : isT (T.drop i) [112, 114, 105, 110, 116] = false) (b3 : isT (T.drop i) [107, 101, 101, 112] = false) (b4 : isT (T.drop i) [114, 101, 116, 117, 114, 110] = false) (b5 : isT (T.drop i) [105, 102] = false) (b6 : isT (T.drop i) [119, 104, 105, 108, 101] = true) (t : Sm) (r : List Tok)
    (HX : ∀ W2, Rd W2 rb g N cT T (i + 1) o → Calls Tryd.prog 81 #[.pointer (some ⟨rb, 0, none⟩)] W2 (TP rb g N cT o T W2 (.ok t r))) :
    Calls Tryd.prog 72 #[.pointer (some ⟨rb, 0, none⟩)] W (TP rb g N cT o T W (.ok t r)) := by
  have HXX := Lib.hid HX
  clear HX
  have HT0 := Lib.hid (fun w1 (h1 : Rd w1 rb g N cT T i o) => (show Calls Tryd.prog 75 #[.pointer (some ⟨rb, 0, none⟩), .string ⟨#[97, 114, 114, 97, 121]⟩] w1 (fun e w' => e = .returned (.bool false) ∧ Below w1.heap.size w1 w') from take_no h1 [97, 114, 114, 97, 121] b0))
  have HT1 := Lib.hid (fun w1 (h1 : Rd w1 rb g N cT T i o) => (show Calls Tryd.prog 75 #[.pointer (some ⟨rb, 0, none⟩), .string ⟨#[105, 110, 112, 117, 116]⟩] w1 (fun e w' => e = .returned (.bool false) ∧ Below w1.heap.size w1 w') from take_no h1 [105, 110, 112, 117, 116] b1))
  have HT2 := Lib.hid (fun w1 (h1 : Rd w1 rb g N cT T i o) => (show Calls Tryd.prog 75 #[.pointer (some ⟨rb, 0, none⟩), .string ⟨#[112, 114, 105, 110, 116]⟩] w1 (fun e w' => e = .returned (.bool false) ∧ Below w1.heap.size w1 w') from take_no h1 [112, 114, 105, 110, 116] b2))
  have HT3 := Lib.hid (fun w1 (h1 : Rd w1 rb g N cT T i o) => (show Calls Tryd.prog 75 #[.pointer (some ⟨rb, 0, none⟩), .string ⟨#[107, 101, 101, 112]⟩] w1 (fun e w' => e = .returned (.bool false) ∧ Below w1.heap.size w1 w') from take_no h1 [107, 101, 101, 112] b3))
  have HT4 := Lib.hid (fun w1 (h1 : Rd w1 rb g N cT T i o) => (show Calls Tryd.prog 75 #[.pointer (some ⟨rb, 0, none⟩), .string ⟨#[114, 101, 116, 117, 114, 110]⟩] w1 (fun e w' => e = .returned (.bool false) ∧ Below w1.heap.size w1 w') from take_no h1 [114, 101, 116, 117, 114, 110] b4))
  have HT5 := Lib.hid (fun w1 (h1 : Rd w1 rb g N cT T i o) => (show Calls Tryd.prog 75 #[.pointer (some ⟨rb, 0, none⟩), .string ⟨#[105, 102]⟩] w1 (fun e w' => e = .returned (.bool false) ∧ Below w1.heap.size w1 w') from take_no h1 [105, 102] b5))
  have HT6 := Lib.hid (fun w1 (h1 : Rd w1 rb g N cT T i o) => (show Calls Tryd.prog 75 #[.pointer (some ⟨rb, 0, none⟩), .string ⟨#[119, 104, 105, 108, 101]⟩] w1 (fun e w' => e = .returned (.bool true) ∧ Rd w' rb g N cT T (i + 1) o ∧ Gr rb w1 w') from take_yes h1 [119, 104, 105, 108, 101] (by decide) b6))
  have hrl := h.rlt
  have hgl := h.tok.1
  have h0 := (h.alloc (.cells #[.int .i64 0, .string ⟨#[]⟩, .int .i64 0, .slice none 0 0, .slice none 0 0, .slice none 0 0] 45)).alloc (.cells #[.int .i64 0, .string ⟨#[]⟩, .int .i64 0, .slice none 0 0, .slice none 0 0, .slice none 0 0] 45)
  have B8 := (Below.heap_alloc (W.alloc (.cells #[.int .i64 0, .string ⟨#[]⟩, .int .i64 0, .slice none 0 0, .slice none 0 0, .slice none 0 0] 45)) (.cells #[.int .i64 0, .string ⟨#[]⟩, .int .i64 0, .slice none 0 0, .slice none 0 0, .slice none 0 0] 45) W.heap.size (by simp)).trans (heap_alloc_new W (.cells #[.int .i64 0, .string ⟨#[]⟩, .int .i64 0, .slice none 0 0, .slice none 0 0, .slice none 0 0] 45))
  have B7 := heap_alloc_new (W.alloc (.cells #[.int .i64 0, .string ⟨#[]⟩, .int .i64 0, .slice none 0 0, .slice none 0 0, .slice none 0 0] 45)) (.cells #[.int .i64 0, .string ⟨#[]⟩, .int .i64 0, .slice none 0 0, .slice none 0 0, .slice none 0 0] 45)
  rw [World.size_alloc] at B7
  have g0 := ((Gr.refl rb W).alloc (.cells #[.int .i64 0, .string ⟨#[]⟩, .int .i64 0, .slice none 0 0, .slice none 0 0, .slice none 0 0] 45)).alloc (.cells #[.int .i64 0, .string ⟨#[]⟩, .int .i64 0, .slice none 0 0, .slice none 0 0, .slice none 0 0] 45)
  have z0 : ((W.alloc (.cells #[.int .i64 0, .string ⟨#[]⟩, .int .i64 0, .slice none 0 0, .slice none 0 0, .slice none 0 0] 45)).alloc (.cells #[.int .i64 0, .string ⟨#[]⟩, .int .i64 0, .slice none 0 0, .slice none 0 0, .slice none 0 0] 45)).heap.size = W.heap.size + 2 := by simp
  clear h b0 b1 b2 b3 b4 b5 b6
  go_enter Tryd.func72, Tryd.ntmps72
  go_upto_region 3 with fail
  obtain ⟨w0, hw0⟩ : ∃ W1, (W.alloc (.cells #[.int .i64 0, .string ⟨#[]⟩, .int .i64 0, .slice none 0 0, .slice none 0 0, .slice none 0 0] 45)).alloc (.cells #[.int .i64 0, .string ⟨#[]⟩, .int .i64 0, .slice none 0 0, .slice none 0 0, .slice none 0 0] 45) = W1 := ⟨_, rfl⟩
  rw [hw0] at h0 B8 B7 g0 z0 ⊢
  clear hw0
  obtain ⟨n3, hn3⟩ : ∃ n3, W.heap.size + 1 = n3 := ⟨_, rfl⟩
  rw [hn3] at B7 ⊢
  go_upto_region 17 with (first
    | (go_at_call 75; ((with_reducible refine (HT0.out _ h0).mono ?_); rintro e x0 ⟨rfl, e0⟩; have t0 := h0.below e0; have ee0 := e0))
    | (go_at_call 75; ((with_reducible refine (HT1.out _ t0).mono ?_); rintro e x1 ⟨rfl, e1⟩; have t1 := t0.below e1; have ee1 := ee0.trans (e1.mono ee0.size)))
    | (go_at_call 75; ((with_reducible refine (HT2.out _ t1).mono ?_); rintro e x2 ⟨rfl, e2⟩; have t2 := t1.below e2; have ee2 := ee1.trans (e2.mono ee1.size)))
    | (go_at_call 75; ((with_reducible refine (HT3.out _ t2).mono ?_); rintro e x3 ⟨rfl, e3⟩; have t3 := t2.below e3; have ee3 := ee2.trans (e3.mono ee2.size)))
    | (go_at_call 75; ((with_reducible refine (HT4.out _ t3).mono ?_); rintro e x4 ⟨rfl, e4⟩; have t4 := t3.below e4; have ee4 := ee3.trans (e4.mono ee3.size)))
    | (go_at_call 75; ((with_reducible refine (HT5.out _ t4).mono ?_); rintro e x5 ⟨rfl, e5⟩; have t5 := t4.below e5; have ee5 := ee4.trans (e5.mono ee4.size)))
    | (go_at_call 75; ((with_reducible refine (HT6.out _ t5).mono ?_); rintro e w2 ⟨rfl, h2, gq⟩; have gg := (Gr.of ee5).trans gq)))
  have z2 := gg.size
  have B7 := (gg.block (lt_heap B7) (by omega)).trans B7
  have B8 := (gg.block (lt_heap B8) (by omega)).trans B8
  have g2 := g0.trans gg
  clear gg
  clear h0 g0 HT0 HT1 HT2 HT3 HT4 HT5 HT6
  have HB7 := Lib.hid (fun w5 (g5 : Gr rb w2 w5) => (g5.block (lt_heap B7) (by omega)).trans B7)
  have HB8 := Lib.hid (fun w5 (g5 : Gr rb w2 w5) => (g5.block (lt_heap B8) (by omega)).trans B8)
  go_wp2_with (go_at_call 81; ((with_reducible refine (HXX.out _ h2).mono ?_); rintro e w5 ⟨⟨vv, rfl, vl, vx, vy, rfl, hvl, hvx, hvy, hok⟩, ⟨i5, h5, hd5⟩, g5⟩; obtain ⟨A1, k1, el1, _⟩ := id hvl; obtain ⟨A2, k2, el2, _⟩ := id hvx; obtain ⟨A3, k3, el3, _⟩ := id hvy; subst el1; subst el2; subst el3; have B8 := HB8.out w5 g5; have c0 := box_cell B8 0; have f0 := box_frozen B8 0; have c1 := box_cell B8 1; have f1 := box_frozen B8 1; have c2 := box_cell B8 2; have f2 := box_frozen B8 2; have c3 := box_cell B8 3; have f3 := box_frozen B8 3; have c4 := box_cell B8 4; have f4 := box_frozen B8 4; have c5 := box_cell B8 5; have f5 := box_frozen B8 5; simp only [List.getElem?_toArray, List.getElem?_cons_succ, List.getElem?_cons_zero] at c0 c1 c2 c3 c4 c5))
  have z5 := g5.size
  have hP := put6_heap (a := .int .i64 t.op) (b := .string t.s) (c := .int .i64 t.n) (d := .slice A1 t.l.len k1) (x := .slice A2 t.x.len k2) (y := .slice A3 t.y.len k3) B8
  have hfin : TP rb g N cT o T W (.ok t r) (.returned (.agg #[.int .i64 t.op, .string t.s, .int .i64 t.n, .slice A1 t.l.len k1, .slice A2 t.x.len k2, .slice A3 t.y.len k3])) (Proofs.YtaajolemjgdfnaaDoor.put6 w5 W.heap.size (.int .i64 t.op) (.string t.s) (.int .i64 t.n) (.slice A1 t.l.len k1) (.slice A2 t.x.len k2) (.slice A3 t.y.len k3)) := ⟨⟨_, rfl, _, _, _, rfl, hvl.kp (Kp.put6 (by omega)) (by omega), hvx.kp (Kp.put6 (by omega)) (by omega), hvy.kp (Kp.put6 (by omega)) (by omega), hok⟩, ⟨i5, h5.put6 (by omega) (by omega), hd5⟩, (g2.trans g5).put6 (Nat.le_refl _)⟩
  obtain ⟨wz, hwz⟩ : ∃ W5, (Proofs.YtaajolemjgdfnaaDoor.put6 w5 W.heap.size (.int .i64 t.op) (.string t.s) (.int .i64 t.n) (.slice A1 t.l.len k1) (.slice A2 t.x.len k2) (.slice A3 t.y.len k3)) = W5 := ⟨_, rfl⟩
  show bodyPost _ _ _ _ _ (Proofs.YtaajolemjgdfnaaDoor.put6 w5 W.heap.size (.int .i64 t.op) (.string t.s) (.int .i64 t.n) (.slice A1 t.l.len k1) (.slice A2 t.x.len k2) (.slice A3 t.y.len k3))
  rw [hwz] at hP hfin ⊢
  have p0 := box_cell hP 0
  have p1 := box_cell hP 1
  have p2 := box_cell hP 2
  have p3 := box_cell hP 3
  have p4 := box_cell hP 4
  have p5 := box_cell hP 5
  simp only [List.getElem?_toArray, List.getElem?_cons_succ, List.getElem?_cons_zero] at p0 p1 p2 p3 p4 p5
  exact bodyPost_ret (v := .agg #[.int .i64 t.op, .string t.s, .int .i64 t.n, .slice A1 t.l.len k1, .slice A2 t.x.len k2, .slice A3 t.y.len k3]) (by simp [results, Tryd.results72, go_sem, p0, p1, p2, p3, p4, p5]) rfl hfin

set_option maxRecDepth 100000 in
theorem st2_bad {W : World} {rb g N cT i o : Nat} {T : List Tok} (h : Rd W rb g N cT T i o) (b0 : isT (T.drop i) [97, 114, 114, 97, 121] = false) (b1 : isT (T.drop i) [105, 110, 112, 117, 116] = false) (b2 : isT (T.drop i) [112, 114, 105, 110, 116] = true) (p c : Nat)
    (HX : ∀ W2, Rd W2 rb g N cT T (i + 1) o → Calls Tryd.prog 79 #[.pointer (some ⟨rb, 0, none⟩), .int .i64 5] W2 (TP rb g N cT o T W2 (.bad p c))) :
    Calls Tryd.prog 72 #[.pointer (some ⟨rb, 0, none⟩)] W (TP rb g N cT o T W (.bad p c)) := by
  have HXX := Lib.hid HX
  clear HX
  have HT0 := Lib.hid (fun w1 (h1 : Rd w1 rb g N cT T i o) => (show Calls Tryd.prog 75 #[.pointer (some ⟨rb, 0, none⟩), .string ⟨#[97, 114, 114, 97, 121]⟩] w1 (fun e w' => e = .returned (.bool false) ∧ Below w1.heap.size w1 w') from take_no h1 [97, 114, 114, 97, 121] b0))
  have HT1 := Lib.hid (fun w1 (h1 : Rd w1 rb g N cT T i o) => (show Calls Tryd.prog 75 #[.pointer (some ⟨rb, 0, none⟩), .string ⟨#[105, 110, 112, 117, 116]⟩] w1 (fun e w' => e = .returned (.bool false) ∧ Below w1.heap.size w1 w') from take_no h1 [105, 110, 112, 117, 116] b1))
  have HT2 := Lib.hid (fun w1 (h1 : Rd w1 rb g N cT T i o) => (show Calls Tryd.prog 75 #[.pointer (some ⟨rb, 0, none⟩), .string ⟨#[112, 114, 105, 110, 116]⟩] w1 (fun e w' => e = .returned (.bool true) ∧ Rd w' rb g N cT T (i + 1) o ∧ Gr rb w1 w') from take_yes h1 [112, 114, 105, 110, 116] (by decide) b2))
  have hrl := h.rlt
  have hgl := h.tok.1
  have h0 := (h.alloc (.cells #[.int .i64 0, .string ⟨#[]⟩, .int .i64 0, .slice none 0 0, .slice none 0 0, .slice none 0 0] 45)).alloc (.cells #[.int .i64 0, .string ⟨#[]⟩, .int .i64 0, .slice none 0 0, .slice none 0 0, .slice none 0 0] 45)
  have B8 := (Below.heap_alloc (W.alloc (.cells #[.int .i64 0, .string ⟨#[]⟩, .int .i64 0, .slice none 0 0, .slice none 0 0, .slice none 0 0] 45)) (.cells #[.int .i64 0, .string ⟨#[]⟩, .int .i64 0, .slice none 0 0, .slice none 0 0, .slice none 0 0] 45) W.heap.size (by simp)).trans (heap_alloc_new W (.cells #[.int .i64 0, .string ⟨#[]⟩, .int .i64 0, .slice none 0 0, .slice none 0 0, .slice none 0 0] 45))
  have B7 := heap_alloc_new (W.alloc (.cells #[.int .i64 0, .string ⟨#[]⟩, .int .i64 0, .slice none 0 0, .slice none 0 0, .slice none 0 0] 45)) (.cells #[.int .i64 0, .string ⟨#[]⟩, .int .i64 0, .slice none 0 0, .slice none 0 0, .slice none 0 0] 45)
  rw [World.size_alloc] at B7
  have g0 := ((Gr.refl rb W).alloc (.cells #[.int .i64 0, .string ⟨#[]⟩, .int .i64 0, .slice none 0 0, .slice none 0 0, .slice none 0 0] 45)).alloc (.cells #[.int .i64 0, .string ⟨#[]⟩, .int .i64 0, .slice none 0 0, .slice none 0 0, .slice none 0 0] 45)
  have z0 : ((W.alloc (.cells #[.int .i64 0, .string ⟨#[]⟩, .int .i64 0, .slice none 0 0, .slice none 0 0, .slice none 0 0] 45)).alloc (.cells #[.int .i64 0, .string ⟨#[]⟩, .int .i64 0, .slice none 0 0, .slice none 0 0, .slice none 0 0] 45)).heap.size = W.heap.size + 2 := by simp
  clear h b0 b1 b2
  go_enter Tryd.func72, Tryd.ntmps72
  go_upto_region 3 with fail
  obtain ⟨w0, hw0⟩ : ∃ W1, (W.alloc (.cells #[.int .i64 0, .string ⟨#[]⟩, .int .i64 0, .slice none 0 0, .slice none 0 0, .slice none 0 0] 45)).alloc (.cells #[.int .i64 0, .string ⟨#[]⟩, .int .i64 0, .slice none 0 0, .slice none 0 0, .slice none 0 0] 45) = W1 := ⟨_, rfl⟩
  rw [hw0] at h0 B8 B7 g0 z0 ⊢
  clear hw0
  obtain ⟨n3, hn3⟩ : ∃ n3, W.heap.size + 1 = n3 := ⟨_, rfl⟩
  rw [hn3] at B7 ⊢
  go_upto_region 9 with (first
    | (go_at_call 75; ((with_reducible refine (HT0.out _ h0).mono ?_); rintro e x0 ⟨rfl, e0⟩; have t0 := h0.below e0; have ee0 := e0))
    | (go_at_call 75; ((with_reducible refine (HT1.out _ t0).mono ?_); rintro e x1 ⟨rfl, e1⟩; have t1 := t0.below e1; have ee1 := ee0.trans (e1.mono ee0.size)))
    | (go_at_call 75; ((with_reducible refine (HT2.out _ t1).mono ?_); rintro e w2 ⟨rfl, h2, gq⟩; have gg := (Gr.of ee1).trans gq)))
  have z2 := gg.size
  have B7 := (gg.block (lt_heap B7) (by omega)).trans B7
  have B8 := (gg.block (lt_heap B8) (by omega)).trans B8
  have g2 := g0.trans gg
  clear gg
  clear h0 g0 HT0 HT1 HT2
  go_wp2_with (go_at_call 79; ((with_reducible refine (HXX.out _ h2).mono ?_); rintro e w5 ⟨rfl, g5⟩))
  exact ⟨rfl, rfl, g2.trans g5⟩

set_option maxRecDepth 100000 in
theorem st2_no {W : World} {rb g N cT i o : Nat} {T : List Tok} (h : Rd W rb g N cT T i o) (b0 : isT (T.drop i) [97, 114, 114, 97, 121] = false) (b1 : isT (T.drop i) [105, 110, 112, 117, 116] = false) (b2 : isT (T.drop i) [112, 114, 105, 110, 116] = true) (t : Sm) (r : List Tok) (bs : isT r [59] = false)
    (HX : ∀ W2, Rd W2 rb g N cT T (i + 1) o → Calls Tryd.prog 79 #[.pointer (some ⟨rb, 0, none⟩), .int .i64 5] W2 (TP rb g N cT o T W2 (.ok t r))) :
    Calls Tryd.prog 72 #[.pointer (some ⟨rb, 0, none⟩)] W (TP rb g N cT o T W (.bad (hdT r).at_ 2)) := by
  have HXX := Lib.hid HX
  have HW := Lib.hid (fun w2 i2 (h2 : Rd w2 rb g N cT T i2 o) (hd : T.drop i2 = r) => (show Calls Tryd.prog 68 #[.pointer (some ⟨rb, 0, none⟩), .string ⟨#[59]⟩] w2 (fun e w' => e = flt (hdT r).at_ 2 ∧ Below w2.heap.size w2 w') from want_no h2 [59] (by rw [hd]; exact bs) _ (by rw [hd])))
  clear HX bs
  have HT0 := Lib.hid (fun w1 (h1 : Rd w1 rb g N cT T i o) => (show Calls Tryd.prog 75 #[.pointer (some ⟨rb, 0, none⟩), .string ⟨#[97, 114, 114, 97, 121]⟩] w1 (fun e w' => e = .returned (.bool false) ∧ Below w1.heap.size w1 w') from take_no h1 [97, 114, 114, 97, 121] b0))
  have HT1 := Lib.hid (fun w1 (h1 : Rd w1 rb g N cT T i o) => (show Calls Tryd.prog 75 #[.pointer (some ⟨rb, 0, none⟩), .string ⟨#[105, 110, 112, 117, 116]⟩] w1 (fun e w' => e = .returned (.bool false) ∧ Below w1.heap.size w1 w') from take_no h1 [105, 110, 112, 117, 116] b1))
  have HT2 := Lib.hid (fun w1 (h1 : Rd w1 rb g N cT T i o) => (show Calls Tryd.prog 75 #[.pointer (some ⟨rb, 0, none⟩), .string ⟨#[112, 114, 105, 110, 116]⟩] w1 (fun e w' => e = .returned (.bool true) ∧ Rd w' rb g N cT T (i + 1) o ∧ Gr rb w1 w') from take_yes h1 [112, 114, 105, 110, 116] (by decide) b2))
  have hrl := h.rlt
  have hgl := h.tok.1
  have h0 := (h.alloc (.cells #[.int .i64 0, .string ⟨#[]⟩, .int .i64 0, .slice none 0 0, .slice none 0 0, .slice none 0 0] 45)).alloc (.cells #[.int .i64 0, .string ⟨#[]⟩, .int .i64 0, .slice none 0 0, .slice none 0 0, .slice none 0 0] 45)
  have B8 := (Below.heap_alloc (W.alloc (.cells #[.int .i64 0, .string ⟨#[]⟩, .int .i64 0, .slice none 0 0, .slice none 0 0, .slice none 0 0] 45)) (.cells #[.int .i64 0, .string ⟨#[]⟩, .int .i64 0, .slice none 0 0, .slice none 0 0, .slice none 0 0] 45) W.heap.size (by simp)).trans (heap_alloc_new W (.cells #[.int .i64 0, .string ⟨#[]⟩, .int .i64 0, .slice none 0 0, .slice none 0 0, .slice none 0 0] 45))
  have B7 := heap_alloc_new (W.alloc (.cells #[.int .i64 0, .string ⟨#[]⟩, .int .i64 0, .slice none 0 0, .slice none 0 0, .slice none 0 0] 45)) (.cells #[.int .i64 0, .string ⟨#[]⟩, .int .i64 0, .slice none 0 0, .slice none 0 0, .slice none 0 0] 45)
  rw [World.size_alloc] at B7
  have g0 := ((Gr.refl rb W).alloc (.cells #[.int .i64 0, .string ⟨#[]⟩, .int .i64 0, .slice none 0 0, .slice none 0 0, .slice none 0 0] 45)).alloc (.cells #[.int .i64 0, .string ⟨#[]⟩, .int .i64 0, .slice none 0 0, .slice none 0 0, .slice none 0 0] 45)
  have z0 : ((W.alloc (.cells #[.int .i64 0, .string ⟨#[]⟩, .int .i64 0, .slice none 0 0, .slice none 0 0, .slice none 0 0] 45)).alloc (.cells #[.int .i64 0, .string ⟨#[]⟩, .int .i64 0, .slice none 0 0, .slice none 0 0, .slice none 0 0] 45)).heap.size = W.heap.size + 2 := by simp
  clear h b0 b1 b2
  go_enter Tryd.func72, Tryd.ntmps72
  go_upto_region 3 with fail
  obtain ⟨w0, hw0⟩ : ∃ W1, (W.alloc (.cells #[.int .i64 0, .string ⟨#[]⟩, .int .i64 0, .slice none 0 0, .slice none 0 0, .slice none 0 0] 45)).alloc (.cells #[.int .i64 0, .string ⟨#[]⟩, .int .i64 0, .slice none 0 0, .slice none 0 0, .slice none 0 0] 45) = W1 := ⟨_, rfl⟩
  rw [hw0] at h0 B8 B7 g0 z0 ⊢
  clear hw0
  obtain ⟨n3, hn3⟩ : ∃ n3, W.heap.size + 1 = n3 := ⟨_, rfl⟩
  rw [hn3] at B7 ⊢
  go_upto_region 9 with (first
    | (go_at_call 75; ((with_reducible refine (HT0.out _ h0).mono ?_); rintro e x0 ⟨rfl, e0⟩; have t0 := h0.below e0; have ee0 := e0))
    | (go_at_call 75; ((with_reducible refine (HT1.out _ t0).mono ?_); rintro e x1 ⟨rfl, e1⟩; have t1 := t0.below e1; have ee1 := ee0.trans (e1.mono ee0.size)))
    | (go_at_call 75; ((with_reducible refine (HT2.out _ t1).mono ?_); rintro e w2 ⟨rfl, h2, gq⟩; have gg := (Gr.of ee1).trans gq)))
  have z2 := gg.size
  have B7 := (gg.block (lt_heap B7) (by omega)).trans B7
  have B8 := (gg.block (lt_heap B8) (by omega)).trans B8
  have g2 := g0.trans gg
  clear gg
  clear h0 g0 HT0 HT1 HT2
  have HB7 := Lib.hid (fun w5 (g5 : Gr rb w2 w5) => (g5.block (lt_heap B7) (by omega)).trans B7)
  have HB8 := Lib.hid (fun w5 (g5 : Gr rb w2 w5) => (g5.block (lt_heap B8) (by omega)).trans B8)
  go_upto_region 18 with (go_at_call 79; ((with_reducible refine (HXX.out _ h2).mono ?_); rintro e w5 ⟨⟨vv, rfl, vl, vx, vy, rfl, hvl, hvx, hvy, hok⟩, ⟨i5, h5, hd5⟩, g5⟩; obtain ⟨A1, k1, el1, _⟩ := id hvl; obtain ⟨A2, k2, el2, _⟩ := id hvx; obtain ⟨A3, k3, el3, _⟩ := id hvy; subst el1; subst el2; subst el3; have B7 := HB7.out w5 g5; have c0 := box_cell B7 0; have f0 := box_frozen B7 0; have c1 := box_cell B7 1; have f1 := box_frozen B7 1; have c2 := box_cell B7 2; have f2 := box_frozen B7 2; have c3 := box_cell B7 3; have f3 := box_frozen B7 3; have c4 := box_cell B7 4; have f4 := box_frozen B7 4; have c5 := box_cell B7 5; have f5 := box_frozen B7 5; simp only [List.getElem?_toArray, List.getElem?_cons_succ, List.getElem?_cons_zero] at c0 c1 c2 c3 c4 c5))
  have z5 := g5.size
  have hl7 := lt_heap B7
  have h6 : Rd (Proofs.YtaajolemjgdfnaaDoor.put6 w5 n3 (.int .i64 t.op) (.string t.s) (.int .i64 t.n) (.slice A1 t.l.len k1) (.slice A2 t.x.len k2) (.slice A3 t.y.len k3)) rb g N cT T i5 o := h5.put6 (by omega) (by omega)
  have g6 : Gr rb W (Proofs.YtaajolemjgdfnaaDoor.put6 w5 n3 (.int .i64 t.op) (.string t.s) (.int .i64 t.n) (.slice A1 t.l.len k1) (.slice A2 t.x.len k2) (.slice A3 t.y.len k3)) := (g2.trans g5).put6 (by omega)
  have B7 := put6_heap (a := .int .i64 t.op) (b := .string t.s) (c := .int .i64 t.n) (d := .slice A1 t.l.len k1) (x := .slice A2 t.x.len k2) (y := .slice A3 t.y.len k3) B7
  have B8 : (Proofs.YtaajolemjgdfnaaDoor.put6 w5 n3 (.int .i64 t.op) (.string t.s) (.int .i64 t.n) (.slice A1 t.l.len k1) (.slice A2 t.x.len k2) (.slice A3 t.y.len k3)).heap[W.heap.size]? = _ := (put6_block (show W.heap.size ≠ n3 by omega)).trans (HB8.out w5 g5)
  have hL : EX w2.heap.size (Proofs.YtaajolemjgdfnaaDoor.put6 w5 n3 (.int .i64 t.op) (.string t.s) (.int .i64 t.n) (.slice A1 t.l.len k1) (.slice A2 t.x.len k2) (.slice A3 t.y.len k3)) _ _ := hvl.kp (Kp.put6 (by omega)) (Nat.le_refl _)
  have hX : SX w2.heap.size (Proofs.YtaajolemjgdfnaaDoor.put6 w5 n3 (.int .i64 t.op) (.string t.s) (.int .i64 t.n) (.slice A1 t.l.len k1) (.slice A2 t.x.len k2) (.slice A3 t.y.len k3)) _ _ := hvx.kp (Kp.put6 (by omega)) (Nat.le_refl _)
  have hY : SX w2.heap.size (Proofs.YtaajolemjgdfnaaDoor.put6 w5 n3 (.int .i64 t.op) (.string t.s) (.int .i64 t.n) (.slice A1 t.l.len k1) (.slice A2 t.x.len k2) (.slice A3 t.y.len k3)) _ _ := hvy.kp (Kp.put6 (by omega)) (Nat.le_refl _)
  have zp : (Proofs.YtaajolemjgdfnaaDoor.put6 w5 n3 (.int .i64 t.op) (.string t.s) (.int .i64 t.n) (.slice A1 t.l.len k1) (.slice A2 t.x.len k2) (.slice A3 t.y.len k3)).heap.size = w5.heap.size := put6_size
  obtain ⟨w6, hw6⟩ : ∃ W5, (Proofs.YtaajolemjgdfnaaDoor.put6 w5 n3 (.int .i64 t.op) (.string t.s) (.int .i64 t.n) (.slice A1 t.l.len k1) (.slice A2 t.x.len k2) (.slice A3 t.y.len k3)) = W5 := ⟨_, rfl⟩
  show Code.wp _ _ _ _ (Proofs.YtaajolemjgdfnaaDoor.put6 w5 n3 (.int .i64 t.op) (.string t.s) (.int .i64 t.n) (.slice A1 t.l.len k1) (.slice A2 t.x.len k2) (.slice A3 t.y.len k3))
  rw [hw6] at h6 g6 B7 B8 hL hX hY zp ⊢
  clear hw6 c0 c1 c2 c3 c4 c5 f0 f1 f2 f3 f4 f5 HB7 HB8 h5
  go_wp2_with (go_at_call 68; ((with_reducible refine (HW.out _ i5 h6 hd5).mono ?_); rintro e w7 ⟨rfl, e7⟩))
  exact ⟨rfl, rfl, g6.trans (Gr.of e7)⟩

set_option maxRecDepth 100000 in
theorem st2_yes {W : World} {rb g N cT i o : Nat} {T : List Tok} (h : Rd W rb g N cT T i o) (b0 : isT (T.drop i) [97, 114, 114, 97, 121] = false) (b1 : isT (T.drop i) [105, 110, 112, 117, 116] = false) (b2 : isT (T.drop i) [112, 114, 105, 110, 116] = true) (t : Sm) (r : List Tok) (bs : isT r [59] = true)
    (HX : ∀ W2, Rd W2 rb g N cT T (i + 1) o → Calls Tryd.prog 79 #[.pointer (some ⟨rb, 0, none⟩), .int .i64 5] W2 (TP rb g N cT o T W2 (.ok t r))) :
    Calls Tryd.prog 72 #[.pointer (some ⟨rb, 0, none⟩)] W (TP rb g N cT o T W (.ok t r.tail)) := by
  have HXX := Lib.hid HX
  have HW := Lib.hid (fun w2 i2 (h2 : Rd w2 rb g N cT T i2 o) (hd : T.drop i2 = r) => (show Calls Tryd.prog 68 #[.pointer (some ⟨rb, 0, none⟩), .string ⟨#[59]⟩] w2 (fun e w' => e = .returned (.tuple #[]) ∧ Rd w' rb g N cT T (i2 + 1) o ∧ Gr rb w2 w') from want_yes h2 [59] (by decide) (by rw [hd]; exact bs)))
  clear HX bs
  have HT0 := Lib.hid (fun w1 (h1 : Rd w1 rb g N cT T i o) => (show Calls Tryd.prog 75 #[.pointer (some ⟨rb, 0, none⟩), .string ⟨#[97, 114, 114, 97, 121]⟩] w1 (fun e w' => e = .returned (.bool false) ∧ Below w1.heap.size w1 w') from take_no h1 [97, 114, 114, 97, 121] b0))
  have HT1 := Lib.hid (fun w1 (h1 : Rd w1 rb g N cT T i o) => (show Calls Tryd.prog 75 #[.pointer (some ⟨rb, 0, none⟩), .string ⟨#[105, 110, 112, 117, 116]⟩] w1 (fun e w' => e = .returned (.bool false) ∧ Below w1.heap.size w1 w') from take_no h1 [105, 110, 112, 117, 116] b1))
  have HT2 := Lib.hid (fun w1 (h1 : Rd w1 rb g N cT T i o) => (show Calls Tryd.prog 75 #[.pointer (some ⟨rb, 0, none⟩), .string ⟨#[112, 114, 105, 110, 116]⟩] w1 (fun e w' => e = .returned (.bool true) ∧ Rd w' rb g N cT T (i + 1) o ∧ Gr rb w1 w') from take_yes h1 [112, 114, 105, 110, 116] (by decide) b2))
  have hrl := h.rlt
  have hgl := h.tok.1
  have h0 := (h.alloc (.cells #[.int .i64 0, .string ⟨#[]⟩, .int .i64 0, .slice none 0 0, .slice none 0 0, .slice none 0 0] 45)).alloc (.cells #[.int .i64 0, .string ⟨#[]⟩, .int .i64 0, .slice none 0 0, .slice none 0 0, .slice none 0 0] 45)
  have B8 := (Below.heap_alloc (W.alloc (.cells #[.int .i64 0, .string ⟨#[]⟩, .int .i64 0, .slice none 0 0, .slice none 0 0, .slice none 0 0] 45)) (.cells #[.int .i64 0, .string ⟨#[]⟩, .int .i64 0, .slice none 0 0, .slice none 0 0, .slice none 0 0] 45) W.heap.size (by simp)).trans (heap_alloc_new W (.cells #[.int .i64 0, .string ⟨#[]⟩, .int .i64 0, .slice none 0 0, .slice none 0 0, .slice none 0 0] 45))
  have B7 := heap_alloc_new (W.alloc (.cells #[.int .i64 0, .string ⟨#[]⟩, .int .i64 0, .slice none 0 0, .slice none 0 0, .slice none 0 0] 45)) (.cells #[.int .i64 0, .string ⟨#[]⟩, .int .i64 0, .slice none 0 0, .slice none 0 0, .slice none 0 0] 45)
  rw [World.size_alloc] at B7
  have g0 := ((Gr.refl rb W).alloc (.cells #[.int .i64 0, .string ⟨#[]⟩, .int .i64 0, .slice none 0 0, .slice none 0 0, .slice none 0 0] 45)).alloc (.cells #[.int .i64 0, .string ⟨#[]⟩, .int .i64 0, .slice none 0 0, .slice none 0 0, .slice none 0 0] 45)
  have z0 : ((W.alloc (.cells #[.int .i64 0, .string ⟨#[]⟩, .int .i64 0, .slice none 0 0, .slice none 0 0, .slice none 0 0] 45)).alloc (.cells #[.int .i64 0, .string ⟨#[]⟩, .int .i64 0, .slice none 0 0, .slice none 0 0, .slice none 0 0] 45)).heap.size = W.heap.size + 2 := by simp
  clear h b0 b1 b2
  go_enter Tryd.func72, Tryd.ntmps72
  go_upto_region 3 with fail
  obtain ⟨w0, hw0⟩ : ∃ W1, (W.alloc (.cells #[.int .i64 0, .string ⟨#[]⟩, .int .i64 0, .slice none 0 0, .slice none 0 0, .slice none 0 0] 45)).alloc (.cells #[.int .i64 0, .string ⟨#[]⟩, .int .i64 0, .slice none 0 0, .slice none 0 0, .slice none 0 0] 45) = W1 := ⟨_, rfl⟩
  rw [hw0] at h0 B8 B7 g0 z0 ⊢
  clear hw0
  obtain ⟨n3, hn3⟩ : ∃ n3, W.heap.size + 1 = n3 := ⟨_, rfl⟩
  rw [hn3] at B7 ⊢
  go_upto_region 9 with (first
    | (go_at_call 75; ((with_reducible refine (HT0.out _ h0).mono ?_); rintro e x0 ⟨rfl, e0⟩; have t0 := h0.below e0; have ee0 := e0))
    | (go_at_call 75; ((with_reducible refine (HT1.out _ t0).mono ?_); rintro e x1 ⟨rfl, e1⟩; have t1 := t0.below e1; have ee1 := ee0.trans (e1.mono ee0.size)))
    | (go_at_call 75; ((with_reducible refine (HT2.out _ t1).mono ?_); rintro e w2 ⟨rfl, h2, gq⟩; have gg := (Gr.of ee1).trans gq)))
  have z2 := gg.size
  have B7 := (gg.block (lt_heap B7) (by omega)).trans B7
  have B8 := (gg.block (lt_heap B8) (by omega)).trans B8
  have g2 := g0.trans gg
  clear gg
  clear h0 g0 HT0 HT1 HT2
  have HB7 := Lib.hid (fun w5 (g5 : Gr rb w2 w5) => (g5.block (lt_heap B7) (by omega)).trans B7)
  have HB8 := Lib.hid (fun w5 (g5 : Gr rb w2 w5) => (g5.block (lt_heap B8) (by omega)).trans B8)
  go_upto_region 18 with (go_at_call 79; ((with_reducible refine (HXX.out _ h2).mono ?_); rintro e w5 ⟨⟨vv, rfl, vl, vx, vy, rfl, hvl, hvx, hvy, hok⟩, ⟨i5, h5, hd5⟩, g5⟩; obtain ⟨A1, k1, el1, _⟩ := id hvl; obtain ⟨A2, k2, el2, _⟩ := id hvx; obtain ⟨A3, k3, el3, _⟩ := id hvy; subst el1; subst el2; subst el3; have B7 := HB7.out w5 g5; have c0 := box_cell B7 0; have f0 := box_frozen B7 0; have c1 := box_cell B7 1; have f1 := box_frozen B7 1; have c2 := box_cell B7 2; have f2 := box_frozen B7 2; have c3 := box_cell B7 3; have f3 := box_frozen B7 3; have c4 := box_cell B7 4; have f4 := box_frozen B7 4; have c5 := box_cell B7 5; have f5 := box_frozen B7 5; simp only [List.getElem?_toArray, List.getElem?_cons_succ, List.getElem?_cons_zero] at c0 c1 c2 c3 c4 c5))
  have z5 := g5.size
  have hl7 := lt_heap B7
  have h6 : Rd (Proofs.YtaajolemjgdfnaaDoor.put6 w5 n3 (.int .i64 t.op) (.string t.s) (.int .i64 t.n) (.slice A1 t.l.len k1) (.slice A2 t.x.len k2) (.slice A3 t.y.len k3)) rb g N cT T i5 o := h5.put6 (by omega) (by omega)
  have g6 : Gr rb W (Proofs.YtaajolemjgdfnaaDoor.put6 w5 n3 (.int .i64 t.op) (.string t.s) (.int .i64 t.n) (.slice A1 t.l.len k1) (.slice A2 t.x.len k2) (.slice A3 t.y.len k3)) := (g2.trans g5).put6 (by omega)
  have B7 := put6_heap (a := .int .i64 t.op) (b := .string t.s) (c := .int .i64 t.n) (d := .slice A1 t.l.len k1) (x := .slice A2 t.x.len k2) (y := .slice A3 t.y.len k3) B7
  have B8 : (Proofs.YtaajolemjgdfnaaDoor.put6 w5 n3 (.int .i64 t.op) (.string t.s) (.int .i64 t.n) (.slice A1 t.l.len k1) (.slice A2 t.x.len k2) (.slice A3 t.y.len k3)).heap[W.heap.size]? = _ := (put6_block (show W.heap.size ≠ n3 by omega)).trans (HB8.out w5 g5)
  have hL : EX w2.heap.size (Proofs.YtaajolemjgdfnaaDoor.put6 w5 n3 (.int .i64 t.op) (.string t.s) (.int .i64 t.n) (.slice A1 t.l.len k1) (.slice A2 t.x.len k2) (.slice A3 t.y.len k3)) _ _ := hvl.kp (Kp.put6 (by omega)) (Nat.le_refl _)
  have hX : SX w2.heap.size (Proofs.YtaajolemjgdfnaaDoor.put6 w5 n3 (.int .i64 t.op) (.string t.s) (.int .i64 t.n) (.slice A1 t.l.len k1) (.slice A2 t.x.len k2) (.slice A3 t.y.len k3)) _ _ := hvx.kp (Kp.put6 (by omega)) (Nat.le_refl _)
  have hY : SX w2.heap.size (Proofs.YtaajolemjgdfnaaDoor.put6 w5 n3 (.int .i64 t.op) (.string t.s) (.int .i64 t.n) (.slice A1 t.l.len k1) (.slice A2 t.x.len k2) (.slice A3 t.y.len k3)) _ _ := hvy.kp (Kp.put6 (by omega)) (Nat.le_refl _)
  have zp : (Proofs.YtaajolemjgdfnaaDoor.put6 w5 n3 (.int .i64 t.op) (.string t.s) (.int .i64 t.n) (.slice A1 t.l.len k1) (.slice A2 t.x.len k2) (.slice A3 t.y.len k3)).heap.size = w5.heap.size := put6_size
  obtain ⟨w6, hw6⟩ : ∃ W5, (Proofs.YtaajolemjgdfnaaDoor.put6 w5 n3 (.int .i64 t.op) (.string t.s) (.int .i64 t.n) (.slice A1 t.l.len k1) (.slice A2 t.x.len k2) (.slice A3 t.y.len k3)) = W5 := ⟨_, rfl⟩
  show Code.wp _ _ _ _ (Proofs.YtaajolemjgdfnaaDoor.put6 w5 n3 (.int .i64 t.op) (.string t.s) (.int .i64 t.n) (.slice A1 t.l.len k1) (.slice A2 t.x.len k2) (.slice A3 t.y.len k3))
  rw [hw6] at h6 g6 B7 B8 hL hX hY zp ⊢
  clear hw6 c0 c1 c2 c3 c4 c5 f0 f1 f2 f3 f4 f5 HB7 HB8 h5
  go_upto_region 19 with (go_at_call 68; ((with_reducible refine (HW.out _ i5 h6 hd5).mono ?_); rintro e w7 ⟨rfl, h7, g7⟩))
  have z7 := g7.size
  have hl7 := lt_heap B7
  have hl8 := lt_heap B8
  have B7 := (g7.block (lt_heap B7) (by omega)).trans B7
  have B8 := (g7.block (lt_heap B8) (by omega)).trans B8
  have g8 := g6.trans g7
  have hd7 : T.drop (i5 + 1) = r.tail := by rw [← hd5, drop_tail]
  have hL := hL.kp (Kp.gr g7 (show rb < w2.heap.size by omega)) (Nat.le_refl _)
  have hX := hX.kp (Kp.gr g7 (show rb < w2.heap.size by omega)) (Nat.le_refl _)
  have hY := hY.kp (Kp.gr g7 (show rb < w2.heap.size by omega)) (Nat.le_refl _)
  have c0 := box_cell B8 0
  have f0 := box_frozen B8 0
  have d0 := box_cell B7 0
  have c1 := box_cell B8 1
  have f1 := box_frozen B8 1
  have d1 := box_cell B7 1
  have c2 := box_cell B8 2
  have f2 := box_frozen B8 2
  have d2 := box_cell B7 2
  have c3 := box_cell B8 3
  have f3 := box_frozen B8 3
  have d3 := box_cell B7 3
  have c4 := box_cell B8 4
  have f4 := box_frozen B8 4
  have d4 := box_cell B7 4
  have c5 := box_cell B8 5
  have f5 := box_frozen B8 5
  have d5 := box_cell B7 5
  simp only [List.getElem?_toArray, List.getElem?_cons_succ, List.getElem?_cons_zero] at c0 d0 c1 d1 c2 d2 c3 d3 c4 d4 c5 d5
  have hP := put6_heap (a := .int .i64 t.op) (b := .string t.s) (c := .int .i64 t.n) (d := .slice A1 t.l.len k1) (x := .slice A2 t.x.len k2) (y := .slice A3 t.y.len k3) B8
  have hfin : TP rb g N cT o T W (.ok t r.tail) (.returned (.agg #[.int .i64 t.op, .string t.s, .int .i64 t.n, .slice A1 t.l.len k1, .slice A2 t.x.len k2, .slice A3 t.y.len k3])) (Proofs.YtaajolemjgdfnaaDoor.put6 w7 W.heap.size (.int .i64 t.op) (.string t.s) (.int .i64 t.n) (.slice A1 t.l.len k1) (.slice A2 t.x.len k2) (.slice A3 t.y.len k3)) :=
    ⟨⟨_, rfl, _, _, _, rfl, hL.kp (Kp.put6 (by omega)) (by omega), hX.kp (Kp.put6 (by omega)) (by omega), hY.kp (Kp.put6 (by omega)) (by omega), hok⟩, ⟨i5 + 1, h7.put6 (by omega) (by omega), hd7⟩, g8.put6 (Nat.le_refl _)⟩
  go_wp2
  obtain ⟨wz, hwz⟩ : ∃ W5, (Proofs.YtaajolemjgdfnaaDoor.put6 w7 W.heap.size (.int .i64 t.op) (.string t.s) (.int .i64 t.n) (.slice A1 t.l.len k1) (.slice A2 t.x.len k2) (.slice A3 t.y.len k3)) = W5 := ⟨_, rfl⟩
  show bodyPost _ _ _ _ _ (Proofs.YtaajolemjgdfnaaDoor.put6 w7 W.heap.size (.int .i64 t.op) (.string t.s) (.int .i64 t.n) (.slice A1 t.l.len k1) (.slice A2 t.x.len k2) (.slice A3 t.y.len k3))
  rw [hwz] at hP hfin ⊢
  have p0 := box_cell hP 0
  have p1 := box_cell hP 1
  have p2 := box_cell hP 2
  have p3 := box_cell hP 3
  have p4 := box_cell hP 4
  have p5 := box_cell hP 5
  simp only [List.getElem?_toArray, List.getElem?_cons_succ, List.getElem?_cons_zero] at p0 p1 p2 p3 p4 p5
  exact bodyPost_ret (v := .agg #[.int .i64 t.op, .string t.s, .int .i64 t.n, .slice A1 t.l.len k1, .slice A2 t.x.len k2, .slice A3 t.y.len k3]) (by simp [results, Tryd.results72, go_sem, p0, p1, p2, p3, p4, p5]) rfl hfin

set_option maxRecDepth 100000 in
theorem st3_bad {W : World} {rb g N cT i o : Nat} {T : List Tok} (h : Rd W rb g N cT T i o) (b0 : isT (T.drop i) [97, 114, 114, 97, 121] = false) (b1 : isT (T.drop i) [105, 110, 112, 117, 116] = false) (b2 : isT (T.drop i) [112, 114, 105, 110, 116] = false) (b3 : isT (T.drop i) [107, 101, 101, 112] = true) (p c : Nat)
    (HX : ∀ W2, Rd W2 rb g N cT T (i + 1) o → Calls Tryd.prog 79 #[.pointer (some ⟨rb, 0, none⟩), .int .i64 6] W2 (TP rb g N cT o T W2 (.bad p c))) :
    Calls Tryd.prog 72 #[.pointer (some ⟨rb, 0, none⟩)] W (TP rb g N cT o T W (.bad p c)) := by
  have HXX := Lib.hid HX
  clear HX
  have HT0 := Lib.hid (fun w1 (h1 : Rd w1 rb g N cT T i o) => (show Calls Tryd.prog 75 #[.pointer (some ⟨rb, 0, none⟩), .string ⟨#[97, 114, 114, 97, 121]⟩] w1 (fun e w' => e = .returned (.bool false) ∧ Below w1.heap.size w1 w') from take_no h1 [97, 114, 114, 97, 121] b0))
  have HT1 := Lib.hid (fun w1 (h1 : Rd w1 rb g N cT T i o) => (show Calls Tryd.prog 75 #[.pointer (some ⟨rb, 0, none⟩), .string ⟨#[105, 110, 112, 117, 116]⟩] w1 (fun e w' => e = .returned (.bool false) ∧ Below w1.heap.size w1 w') from take_no h1 [105, 110, 112, 117, 116] b1))
  have HT2 := Lib.hid (fun w1 (h1 : Rd w1 rb g N cT T i o) => (show Calls Tryd.prog 75 #[.pointer (some ⟨rb, 0, none⟩), .string ⟨#[112, 114, 105, 110, 116]⟩] w1 (fun e w' => e = .returned (.bool false) ∧ Below w1.heap.size w1 w') from take_no h1 [112, 114, 105, 110, 116] b2))
  have HT3 := Lib.hid (fun w1 (h1 : Rd w1 rb g N cT T i o) => (show Calls Tryd.prog 75 #[.pointer (some ⟨rb, 0, none⟩), .string ⟨#[107, 101, 101, 112]⟩] w1 (fun e w' => e = .returned (.bool true) ∧ Rd w' rb g N cT T (i + 1) o ∧ Gr rb w1 w') from take_yes h1 [107, 101, 101, 112] (by decide) b3))
  have hrl := h.rlt
  have hgl := h.tok.1
  have h0 := (h.alloc (.cells #[.int .i64 0, .string ⟨#[]⟩, .int .i64 0, .slice none 0 0, .slice none 0 0, .slice none 0 0] 45)).alloc (.cells #[.int .i64 0, .string ⟨#[]⟩, .int .i64 0, .slice none 0 0, .slice none 0 0, .slice none 0 0] 45)
  have B8 := (Below.heap_alloc (W.alloc (.cells #[.int .i64 0, .string ⟨#[]⟩, .int .i64 0, .slice none 0 0, .slice none 0 0, .slice none 0 0] 45)) (.cells #[.int .i64 0, .string ⟨#[]⟩, .int .i64 0, .slice none 0 0, .slice none 0 0, .slice none 0 0] 45) W.heap.size (by simp)).trans (heap_alloc_new W (.cells #[.int .i64 0, .string ⟨#[]⟩, .int .i64 0, .slice none 0 0, .slice none 0 0, .slice none 0 0] 45))
  have B7 := heap_alloc_new (W.alloc (.cells #[.int .i64 0, .string ⟨#[]⟩, .int .i64 0, .slice none 0 0, .slice none 0 0, .slice none 0 0] 45)) (.cells #[.int .i64 0, .string ⟨#[]⟩, .int .i64 0, .slice none 0 0, .slice none 0 0, .slice none 0 0] 45)
  rw [World.size_alloc] at B7
  have g0 := ((Gr.refl rb W).alloc (.cells #[.int .i64 0, .string ⟨#[]⟩, .int .i64 0, .slice none 0 0, .slice none 0 0, .slice none 0 0] 45)).alloc (.cells #[.int .i64 0, .string ⟨#[]⟩, .int .i64 0, .slice none 0 0, .slice none 0 0, .slice none 0 0] 45)
  have z0 : ((W.alloc (.cells #[.int .i64 0, .string ⟨#[]⟩, .int .i64 0, .slice none 0 0, .slice none 0 0, .slice none 0 0] 45)).alloc (.cells #[.int .i64 0, .string ⟨#[]⟩, .int .i64 0, .slice none 0 0, .slice none 0 0, .slice none 0 0] 45)).heap.size = W.heap.size + 2 := by simp
  clear h b0 b1 b2 b3
  go_enter Tryd.func72, Tryd.ntmps72
  go_upto_region 3 with fail
  obtain ⟨w0, hw0⟩ : ∃ W1, (W.alloc (.cells #[.int .i64 0, .string ⟨#[]⟩, .int .i64 0, .slice none 0 0, .slice none 0 0, .slice none 0 0] 45)).alloc (.cells #[.int .i64 0, .string ⟨#[]⟩, .int .i64 0, .slice none 0 0, .slice none 0 0, .slice none 0 0] 45) = W1 := ⟨_, rfl⟩
  rw [hw0] at h0 B8 B7 g0 z0 ⊢
  clear hw0
  obtain ⟨n3, hn3⟩ : ∃ n3, W.heap.size + 1 = n3 := ⟨_, rfl⟩
  rw [hn3] at B7 ⊢
  go_upto_region 11 with (first
    | (go_at_call 75; ((with_reducible refine (HT0.out _ h0).mono ?_); rintro e x0 ⟨rfl, e0⟩; have t0 := h0.below e0; have ee0 := e0))
    | (go_at_call 75; ((with_reducible refine (HT1.out _ t0).mono ?_); rintro e x1 ⟨rfl, e1⟩; have t1 := t0.below e1; have ee1 := ee0.trans (e1.mono ee0.size)))
    | (go_at_call 75; ((with_reducible refine (HT2.out _ t1).mono ?_); rintro e x2 ⟨rfl, e2⟩; have t2 := t1.below e2; have ee2 := ee1.trans (e2.mono ee1.size)))
    | (go_at_call 75; ((with_reducible refine (HT3.out _ t2).mono ?_); rintro e w2 ⟨rfl, h2, gq⟩; have gg := (Gr.of ee2).trans gq)))
  have z2 := gg.size
  have B7 := (gg.block (lt_heap B7) (by omega)).trans B7
  have B8 := (gg.block (lt_heap B8) (by omega)).trans B8
  have g2 := g0.trans gg
  clear gg
  clear h0 g0 HT0 HT1 HT2 HT3
  go_wp2_with (go_at_call 79; ((with_reducible refine (HXX.out _ h2).mono ?_); rintro e w5 ⟨rfl, g5⟩))
  exact ⟨rfl, rfl, g2.trans g5⟩

set_option maxRecDepth 100000 in
theorem st3_no {W : World} {rb g N cT i o : Nat} {T : List Tok} (h : Rd W rb g N cT T i o) (b0 : isT (T.drop i) [97, 114, 114, 97, 121] = false) (b1 : isT (T.drop i) [105, 110, 112, 117, 116] = false) (b2 : isT (T.drop i) [112, 114, 105, 110, 116] = false) (b3 : isT (T.drop i) [107, 101, 101, 112] = true) (t : Sm) (r : List Tok) (bs : isT r [59] = false)
    (HX : ∀ W2, Rd W2 rb g N cT T (i + 1) o → Calls Tryd.prog 79 #[.pointer (some ⟨rb, 0, none⟩), .int .i64 6] W2 (TP rb g N cT o T W2 (.ok t r))) :
    Calls Tryd.prog 72 #[.pointer (some ⟨rb, 0, none⟩)] W (TP rb g N cT o T W (.bad (hdT r).at_ 2)) := by
  have HXX := Lib.hid HX
  have HW := Lib.hid (fun w2 i2 (h2 : Rd w2 rb g N cT T i2 o) (hd : T.drop i2 = r) => (show Calls Tryd.prog 68 #[.pointer (some ⟨rb, 0, none⟩), .string ⟨#[59]⟩] w2 (fun e w' => e = flt (hdT r).at_ 2 ∧ Below w2.heap.size w2 w') from want_no h2 [59] (by rw [hd]; exact bs) _ (by rw [hd])))
  clear HX bs
  have HT0 := Lib.hid (fun w1 (h1 : Rd w1 rb g N cT T i o) => (show Calls Tryd.prog 75 #[.pointer (some ⟨rb, 0, none⟩), .string ⟨#[97, 114, 114, 97, 121]⟩] w1 (fun e w' => e = .returned (.bool false) ∧ Below w1.heap.size w1 w') from take_no h1 [97, 114, 114, 97, 121] b0))
  have HT1 := Lib.hid (fun w1 (h1 : Rd w1 rb g N cT T i o) => (show Calls Tryd.prog 75 #[.pointer (some ⟨rb, 0, none⟩), .string ⟨#[105, 110, 112, 117, 116]⟩] w1 (fun e w' => e = .returned (.bool false) ∧ Below w1.heap.size w1 w') from take_no h1 [105, 110, 112, 117, 116] b1))
  have HT2 := Lib.hid (fun w1 (h1 : Rd w1 rb g N cT T i o) => (show Calls Tryd.prog 75 #[.pointer (some ⟨rb, 0, none⟩), .string ⟨#[112, 114, 105, 110, 116]⟩] w1 (fun e w' => e = .returned (.bool false) ∧ Below w1.heap.size w1 w') from take_no h1 [112, 114, 105, 110, 116] b2))
  have HT3 := Lib.hid (fun w1 (h1 : Rd w1 rb g N cT T i o) => (show Calls Tryd.prog 75 #[.pointer (some ⟨rb, 0, none⟩), .string ⟨#[107, 101, 101, 112]⟩] w1 (fun e w' => e = .returned (.bool true) ∧ Rd w' rb g N cT T (i + 1) o ∧ Gr rb w1 w') from take_yes h1 [107, 101, 101, 112] (by decide) b3))
  have hrl := h.rlt
  have hgl := h.tok.1
  have h0 := (h.alloc (.cells #[.int .i64 0, .string ⟨#[]⟩, .int .i64 0, .slice none 0 0, .slice none 0 0, .slice none 0 0] 45)).alloc (.cells #[.int .i64 0, .string ⟨#[]⟩, .int .i64 0, .slice none 0 0, .slice none 0 0, .slice none 0 0] 45)
  have B8 := (Below.heap_alloc (W.alloc (.cells #[.int .i64 0, .string ⟨#[]⟩, .int .i64 0, .slice none 0 0, .slice none 0 0, .slice none 0 0] 45)) (.cells #[.int .i64 0, .string ⟨#[]⟩, .int .i64 0, .slice none 0 0, .slice none 0 0, .slice none 0 0] 45) W.heap.size (by simp)).trans (heap_alloc_new W (.cells #[.int .i64 0, .string ⟨#[]⟩, .int .i64 0, .slice none 0 0, .slice none 0 0, .slice none 0 0] 45))
  have B7 := heap_alloc_new (W.alloc (.cells #[.int .i64 0, .string ⟨#[]⟩, .int .i64 0, .slice none 0 0, .slice none 0 0, .slice none 0 0] 45)) (.cells #[.int .i64 0, .string ⟨#[]⟩, .int .i64 0, .slice none 0 0, .slice none 0 0, .slice none 0 0] 45)
  rw [World.size_alloc] at B7
  have g0 := ((Gr.refl rb W).alloc (.cells #[.int .i64 0, .string ⟨#[]⟩, .int .i64 0, .slice none 0 0, .slice none 0 0, .slice none 0 0] 45)).alloc (.cells #[.int .i64 0, .string ⟨#[]⟩, .int .i64 0, .slice none 0 0, .slice none 0 0, .slice none 0 0] 45)
  have z0 : ((W.alloc (.cells #[.int .i64 0, .string ⟨#[]⟩, .int .i64 0, .slice none 0 0, .slice none 0 0, .slice none 0 0] 45)).alloc (.cells #[.int .i64 0, .string ⟨#[]⟩, .int .i64 0, .slice none 0 0, .slice none 0 0, .slice none 0 0] 45)).heap.size = W.heap.size + 2 := by simp
  clear h b0 b1 b2 b3
  go_enter Tryd.func72, Tryd.ntmps72
  go_upto_region 3 with fail
  obtain ⟨w0, hw0⟩ : ∃ W1, (W.alloc (.cells #[.int .i64 0, .string ⟨#[]⟩, .int .i64 0, .slice none 0 0, .slice none 0 0, .slice none 0 0] 45)).alloc (.cells #[.int .i64 0, .string ⟨#[]⟩, .int .i64 0, .slice none 0 0, .slice none 0 0, .slice none 0 0] 45) = W1 := ⟨_, rfl⟩
  rw [hw0] at h0 B8 B7 g0 z0 ⊢
  clear hw0
  obtain ⟨n3, hn3⟩ : ∃ n3, W.heap.size + 1 = n3 := ⟨_, rfl⟩
  rw [hn3] at B7 ⊢
  go_upto_region 11 with (first
    | (go_at_call 75; ((with_reducible refine (HT0.out _ h0).mono ?_); rintro e x0 ⟨rfl, e0⟩; have t0 := h0.below e0; have ee0 := e0))
    | (go_at_call 75; ((with_reducible refine (HT1.out _ t0).mono ?_); rintro e x1 ⟨rfl, e1⟩; have t1 := t0.below e1; have ee1 := ee0.trans (e1.mono ee0.size)))
    | (go_at_call 75; ((with_reducible refine (HT2.out _ t1).mono ?_); rintro e x2 ⟨rfl, e2⟩; have t2 := t1.below e2; have ee2 := ee1.trans (e2.mono ee1.size)))
    | (go_at_call 75; ((with_reducible refine (HT3.out _ t2).mono ?_); rintro e w2 ⟨rfl, h2, gq⟩; have gg := (Gr.of ee2).trans gq)))
  have z2 := gg.size
  have B7 := (gg.block (lt_heap B7) (by omega)).trans B7
  have B8 := (gg.block (lt_heap B8) (by omega)).trans B8
  have g2 := g0.trans gg
  clear gg
  clear h0 g0 HT0 HT1 HT2 HT3
  have HB7 := Lib.hid (fun w5 (g5 : Gr rb w2 w5) => (g5.block (lt_heap B7) (by omega)).trans B7)
  have HB8 := Lib.hid (fun w5 (g5 : Gr rb w2 w5) => (g5.block (lt_heap B8) (by omega)).trans B8)
  go_upto_region 18 with (go_at_call 79; ((with_reducible refine (HXX.out _ h2).mono ?_); rintro e w5 ⟨⟨vv, rfl, vl, vx, vy, rfl, hvl, hvx, hvy, hok⟩, ⟨i5, h5, hd5⟩, g5⟩; obtain ⟨A1, k1, el1, _⟩ := id hvl; obtain ⟨A2, k2, el2, _⟩ := id hvx; obtain ⟨A3, k3, el3, _⟩ := id hvy; subst el1; subst el2; subst el3; have B7 := HB7.out w5 g5; have c0 := box_cell B7 0; have f0 := box_frozen B7 0; have c1 := box_cell B7 1; have f1 := box_frozen B7 1; have c2 := box_cell B7 2; have f2 := box_frozen B7 2; have c3 := box_cell B7 3; have f3 := box_frozen B7 3; have c4 := box_cell B7 4; have f4 := box_frozen B7 4; have c5 := box_cell B7 5; have f5 := box_frozen B7 5; simp only [List.getElem?_toArray, List.getElem?_cons_succ, List.getElem?_cons_zero] at c0 c1 c2 c3 c4 c5))
  have z5 := g5.size
  have hl7 := lt_heap B7
  have h6 : Rd (Proofs.YtaajolemjgdfnaaDoor.put6 w5 n3 (.int .i64 t.op) (.string t.s) (.int .i64 t.n) (.slice A1 t.l.len k1) (.slice A2 t.x.len k2) (.slice A3 t.y.len k3)) rb g N cT T i5 o := h5.put6 (by omega) (by omega)
  have g6 : Gr rb W (Proofs.YtaajolemjgdfnaaDoor.put6 w5 n3 (.int .i64 t.op) (.string t.s) (.int .i64 t.n) (.slice A1 t.l.len k1) (.slice A2 t.x.len k2) (.slice A3 t.y.len k3)) := (g2.trans g5).put6 (by omega)
  have B7 := put6_heap (a := .int .i64 t.op) (b := .string t.s) (c := .int .i64 t.n) (d := .slice A1 t.l.len k1) (x := .slice A2 t.x.len k2) (y := .slice A3 t.y.len k3) B7
  have B8 : (Proofs.YtaajolemjgdfnaaDoor.put6 w5 n3 (.int .i64 t.op) (.string t.s) (.int .i64 t.n) (.slice A1 t.l.len k1) (.slice A2 t.x.len k2) (.slice A3 t.y.len k3)).heap[W.heap.size]? = _ := (put6_block (show W.heap.size ≠ n3 by omega)).trans (HB8.out w5 g5)
  have hL : EX w2.heap.size (Proofs.YtaajolemjgdfnaaDoor.put6 w5 n3 (.int .i64 t.op) (.string t.s) (.int .i64 t.n) (.slice A1 t.l.len k1) (.slice A2 t.x.len k2) (.slice A3 t.y.len k3)) _ _ := hvl.kp (Kp.put6 (by omega)) (Nat.le_refl _)
  have hX : SX w2.heap.size (Proofs.YtaajolemjgdfnaaDoor.put6 w5 n3 (.int .i64 t.op) (.string t.s) (.int .i64 t.n) (.slice A1 t.l.len k1) (.slice A2 t.x.len k2) (.slice A3 t.y.len k3)) _ _ := hvx.kp (Kp.put6 (by omega)) (Nat.le_refl _)
  have hY : SX w2.heap.size (Proofs.YtaajolemjgdfnaaDoor.put6 w5 n3 (.int .i64 t.op) (.string t.s) (.int .i64 t.n) (.slice A1 t.l.len k1) (.slice A2 t.x.len k2) (.slice A3 t.y.len k3)) _ _ := hvy.kp (Kp.put6 (by omega)) (Nat.le_refl _)
  have zp : (Proofs.YtaajolemjgdfnaaDoor.put6 w5 n3 (.int .i64 t.op) (.string t.s) (.int .i64 t.n) (.slice A1 t.l.len k1) (.slice A2 t.x.len k2) (.slice A3 t.y.len k3)).heap.size = w5.heap.size := put6_size
  obtain ⟨w6, hw6⟩ : ∃ W5, (Proofs.YtaajolemjgdfnaaDoor.put6 w5 n3 (.int .i64 t.op) (.string t.s) (.int .i64 t.n) (.slice A1 t.l.len k1) (.slice A2 t.x.len k2) (.slice A3 t.y.len k3)) = W5 := ⟨_, rfl⟩
  show Code.wp _ _ _ _ (Proofs.YtaajolemjgdfnaaDoor.put6 w5 n3 (.int .i64 t.op) (.string t.s) (.int .i64 t.n) (.slice A1 t.l.len k1) (.slice A2 t.x.len k2) (.slice A3 t.y.len k3))
  rw [hw6] at h6 g6 B7 B8 hL hX hY zp ⊢
  clear hw6 c0 c1 c2 c3 c4 c5 f0 f1 f2 f3 f4 f5 HB7 HB8 h5
  go_wp2_with (go_at_call 68; ((with_reducible refine (HW.out _ i5 h6 hd5).mono ?_); rintro e w7 ⟨rfl, e7⟩))
  exact ⟨rfl, rfl, g6.trans (Gr.of e7)⟩

set_option maxRecDepth 100000 in
theorem st3_yes {W : World} {rb g N cT i o : Nat} {T : List Tok} (h : Rd W rb g N cT T i o) (b0 : isT (T.drop i) [97, 114, 114, 97, 121] = false) (b1 : isT (T.drop i) [105, 110, 112, 117, 116] = false) (b2 : isT (T.drop i) [112, 114, 105, 110, 116] = false) (b3 : isT (T.drop i) [107, 101, 101, 112] = true) (t : Sm) (r : List Tok) (bs : isT r [59] = true)
    (HX : ∀ W2, Rd W2 rb g N cT T (i + 1) o → Calls Tryd.prog 79 #[.pointer (some ⟨rb, 0, none⟩), .int .i64 6] W2 (TP rb g N cT o T W2 (.ok t r))) :
    Calls Tryd.prog 72 #[.pointer (some ⟨rb, 0, none⟩)] W (TP rb g N cT o T W (.ok t r.tail)) := by
  have HXX := Lib.hid HX
  have HW := Lib.hid (fun w2 i2 (h2 : Rd w2 rb g N cT T i2 o) (hd : T.drop i2 = r) => (show Calls Tryd.prog 68 #[.pointer (some ⟨rb, 0, none⟩), .string ⟨#[59]⟩] w2 (fun e w' => e = .returned (.tuple #[]) ∧ Rd w' rb g N cT T (i2 + 1) o ∧ Gr rb w2 w') from want_yes h2 [59] (by decide) (by rw [hd]; exact bs)))
  clear HX bs
  have HT0 := Lib.hid (fun w1 (h1 : Rd w1 rb g N cT T i o) => (show Calls Tryd.prog 75 #[.pointer (some ⟨rb, 0, none⟩), .string ⟨#[97, 114, 114, 97, 121]⟩] w1 (fun e w' => e = .returned (.bool false) ∧ Below w1.heap.size w1 w') from take_no h1 [97, 114, 114, 97, 121] b0))
  have HT1 := Lib.hid (fun w1 (h1 : Rd w1 rb g N cT T i o) => (show Calls Tryd.prog 75 #[.pointer (some ⟨rb, 0, none⟩), .string ⟨#[105, 110, 112, 117, 116]⟩] w1 (fun e w' => e = .returned (.bool false) ∧ Below w1.heap.size w1 w') from take_no h1 [105, 110, 112, 117, 116] b1))
  have HT2 := Lib.hid (fun w1 (h1 : Rd w1 rb g N cT T i o) => (show Calls Tryd.prog 75 #[.pointer (some ⟨rb, 0, none⟩), .string ⟨#[112, 114, 105, 110, 116]⟩] w1 (fun e w' => e = .returned (.bool false) ∧ Below w1.heap.size w1 w') from take_no h1 [112, 114, 105, 110, 116] b2))
  have HT3 := Lib.hid (fun w1 (h1 : Rd w1 rb g N cT T i o) => (show Calls Tryd.prog 75 #[.pointer (some ⟨rb, 0, none⟩), .string ⟨#[107, 101, 101, 112]⟩] w1 (fun e w' => e = .returned (.bool true) ∧ Rd w' rb g N cT T (i + 1) o ∧ Gr rb w1 w') from take_yes h1 [107, 101, 101, 112] (by decide) b3))
  have hrl := h.rlt
  have hgl := h.tok.1
  have h0 := (h.alloc (.cells #[.int .i64 0, .string ⟨#[]⟩, .int .i64 0, .slice none 0 0, .slice none 0 0, .slice none 0 0] 45)).alloc (.cells #[.int .i64 0, .string ⟨#[]⟩, .int .i64 0, .slice none 0 0, .slice none 0 0, .slice none 0 0] 45)
  have B8 := (Below.heap_alloc (W.alloc (.cells #[.int .i64 0, .string ⟨#[]⟩, .int .i64 0, .slice none 0 0, .slice none 0 0, .slice none 0 0] 45)) (.cells #[.int .i64 0, .string ⟨#[]⟩, .int .i64 0, .slice none 0 0, .slice none 0 0, .slice none 0 0] 45) W.heap.size (by simp)).trans (heap_alloc_new W (.cells #[.int .i64 0, .string ⟨#[]⟩, .int .i64 0, .slice none 0 0, .slice none 0 0, .slice none 0 0] 45))
  have B7 := heap_alloc_new (W.alloc (.cells #[.int .i64 0, .string ⟨#[]⟩, .int .i64 0, .slice none 0 0, .slice none 0 0, .slice none 0 0] 45)) (.cells #[.int .i64 0, .string ⟨#[]⟩, .int .i64 0, .slice none 0 0, .slice none 0 0, .slice none 0 0] 45)
  rw [World.size_alloc] at B7
  have g0 := ((Gr.refl rb W).alloc (.cells #[.int .i64 0, .string ⟨#[]⟩, .int .i64 0, .slice none 0 0, .slice none 0 0, .slice none 0 0] 45)).alloc (.cells #[.int .i64 0, .string ⟨#[]⟩, .int .i64 0, .slice none 0 0, .slice none 0 0, .slice none 0 0] 45)
  have z0 : ((W.alloc (.cells #[.int .i64 0, .string ⟨#[]⟩, .int .i64 0, .slice none 0 0, .slice none 0 0, .slice none 0 0] 45)).alloc (.cells #[.int .i64 0, .string ⟨#[]⟩, .int .i64 0, .slice none 0 0, .slice none 0 0, .slice none 0 0] 45)).heap.size = W.heap.size + 2 := by simp
  clear h b0 b1 b2 b3
  go_enter Tryd.func72, Tryd.ntmps72
  go_upto_region 3 with fail
  obtain ⟨w0, hw0⟩ : ∃ W1, (W.alloc (.cells #[.int .i64 0, .string ⟨#[]⟩, .int .i64 0, .slice none 0 0, .slice none 0 0, .slice none 0 0] 45)).alloc (.cells #[.int .i64 0, .string ⟨#[]⟩, .int .i64 0, .slice none 0 0, .slice none 0 0, .slice none 0 0] 45) = W1 := ⟨_, rfl⟩
  rw [hw0] at h0 B8 B7 g0 z0 ⊢
  clear hw0
  obtain ⟨n3, hn3⟩ : ∃ n3, W.heap.size + 1 = n3 := ⟨_, rfl⟩
  rw [hn3] at B7 ⊢
  go_upto_region 11 with (first
    | (go_at_call 75; ((with_reducible refine (HT0.out _ h0).mono ?_); rintro e x0 ⟨rfl, e0⟩; have t0 := h0.below e0; have ee0 := e0))
    | (go_at_call 75; ((with_reducible refine (HT1.out _ t0).mono ?_); rintro e x1 ⟨rfl, e1⟩; have t1 := t0.below e1; have ee1 := ee0.trans (e1.mono ee0.size)))
    | (go_at_call 75; ((with_reducible refine (HT2.out _ t1).mono ?_); rintro e x2 ⟨rfl, e2⟩; have t2 := t1.below e2; have ee2 := ee1.trans (e2.mono ee1.size)))
    | (go_at_call 75; ((with_reducible refine (HT3.out _ t2).mono ?_); rintro e w2 ⟨rfl, h2, gq⟩; have gg := (Gr.of ee2).trans gq)))
  have z2 := gg.size
  have B7 := (gg.block (lt_heap B7) (by omega)).trans B7
  have B8 := (gg.block (lt_heap B8) (by omega)).trans B8
  have g2 := g0.trans gg
  clear gg
  clear h0 g0 HT0 HT1 HT2 HT3
  have HB7 := Lib.hid (fun w5 (g5 : Gr rb w2 w5) => (g5.block (lt_heap B7) (by omega)).trans B7)
  have HB8 := Lib.hid (fun w5 (g5 : Gr rb w2 w5) => (g5.block (lt_heap B8) (by omega)).trans B8)
  go_upto_region 18 with (go_at_call 79; ((with_reducible refine (HXX.out _ h2).mono ?_); rintro e w5 ⟨⟨vv, rfl, vl, vx, vy, rfl, hvl, hvx, hvy, hok⟩, ⟨i5, h5, hd5⟩, g5⟩; obtain ⟨A1, k1, el1, _⟩ := id hvl; obtain ⟨A2, k2, el2, _⟩ := id hvx; obtain ⟨A3, k3, el3, _⟩ := id hvy; subst el1; subst el2; subst el3; have B7 := HB7.out w5 g5; have c0 := box_cell B7 0; have f0 := box_frozen B7 0; have c1 := box_cell B7 1; have f1 := box_frozen B7 1; have c2 := box_cell B7 2; have f2 := box_frozen B7 2; have c3 := box_cell B7 3; have f3 := box_frozen B7 3; have c4 := box_cell B7 4; have f4 := box_frozen B7 4; have c5 := box_cell B7 5; have f5 := box_frozen B7 5; simp only [List.getElem?_toArray, List.getElem?_cons_succ, List.getElem?_cons_zero] at c0 c1 c2 c3 c4 c5))
  have z5 := g5.size
  have hl7 := lt_heap B7
  have h6 : Rd (Proofs.YtaajolemjgdfnaaDoor.put6 w5 n3 (.int .i64 t.op) (.string t.s) (.int .i64 t.n) (.slice A1 t.l.len k1) (.slice A2 t.x.len k2) (.slice A3 t.y.len k3)) rb g N cT T i5 o := h5.put6 (by omega) (by omega)
  have g6 : Gr rb W (Proofs.YtaajolemjgdfnaaDoor.put6 w5 n3 (.int .i64 t.op) (.string t.s) (.int .i64 t.n) (.slice A1 t.l.len k1) (.slice A2 t.x.len k2) (.slice A3 t.y.len k3)) := (g2.trans g5).put6 (by omega)
  have B7 := put6_heap (a := .int .i64 t.op) (b := .string t.s) (c := .int .i64 t.n) (d := .slice A1 t.l.len k1) (x := .slice A2 t.x.len k2) (y := .slice A3 t.y.len k3) B7
  have B8 : (Proofs.YtaajolemjgdfnaaDoor.put6 w5 n3 (.int .i64 t.op) (.string t.s) (.int .i64 t.n) (.slice A1 t.l.len k1) (.slice A2 t.x.len k2) (.slice A3 t.y.len k3)).heap[W.heap.size]? = _ := (put6_block (show W.heap.size ≠ n3 by omega)).trans (HB8.out w5 g5)
  have hL : EX w2.heap.size (Proofs.YtaajolemjgdfnaaDoor.put6 w5 n3 (.int .i64 t.op) (.string t.s) (.int .i64 t.n) (.slice A1 t.l.len k1) (.slice A2 t.x.len k2) (.slice A3 t.y.len k3)) _ _ := hvl.kp (Kp.put6 (by omega)) (Nat.le_refl _)
  have hX : SX w2.heap.size (Proofs.YtaajolemjgdfnaaDoor.put6 w5 n3 (.int .i64 t.op) (.string t.s) (.int .i64 t.n) (.slice A1 t.l.len k1) (.slice A2 t.x.len k2) (.slice A3 t.y.len k3)) _ _ := hvx.kp (Kp.put6 (by omega)) (Nat.le_refl _)
  have hY : SX w2.heap.size (Proofs.YtaajolemjgdfnaaDoor.put6 w5 n3 (.int .i64 t.op) (.string t.s) (.int .i64 t.n) (.slice A1 t.l.len k1) (.slice A2 t.x.len k2) (.slice A3 t.y.len k3)) _ _ := hvy.kp (Kp.put6 (by omega)) (Nat.le_refl _)
  have zp : (Proofs.YtaajolemjgdfnaaDoor.put6 w5 n3 (.int .i64 t.op) (.string t.s) (.int .i64 t.n) (.slice A1 t.l.len k1) (.slice A2 t.x.len k2) (.slice A3 t.y.len k3)).heap.size = w5.heap.size := put6_size
  obtain ⟨w6, hw6⟩ : ∃ W5, (Proofs.YtaajolemjgdfnaaDoor.put6 w5 n3 (.int .i64 t.op) (.string t.s) (.int .i64 t.n) (.slice A1 t.l.len k1) (.slice A2 t.x.len k2) (.slice A3 t.y.len k3)) = W5 := ⟨_, rfl⟩
  show Code.wp _ _ _ _ (Proofs.YtaajolemjgdfnaaDoor.put6 w5 n3 (.int .i64 t.op) (.string t.s) (.int .i64 t.n) (.slice A1 t.l.len k1) (.slice A2 t.x.len k2) (.slice A3 t.y.len k3))
  rw [hw6] at h6 g6 B7 B8 hL hX hY zp ⊢
  clear hw6 c0 c1 c2 c3 c4 c5 f0 f1 f2 f3 f4 f5 HB7 HB8 h5
  go_upto_region 19 with (go_at_call 68; ((with_reducible refine (HW.out _ i5 h6 hd5).mono ?_); rintro e w7 ⟨rfl, h7, g7⟩))
  have z7 := g7.size
  have hl7 := lt_heap B7
  have hl8 := lt_heap B8
  have B7 := (g7.block (lt_heap B7) (by omega)).trans B7
  have B8 := (g7.block (lt_heap B8) (by omega)).trans B8
  have g8 := g6.trans g7
  have hd7 : T.drop (i5 + 1) = r.tail := by rw [← hd5, drop_tail]
  have hL := hL.kp (Kp.gr g7 (show rb < w2.heap.size by omega)) (Nat.le_refl _)
  have hX := hX.kp (Kp.gr g7 (show rb < w2.heap.size by omega)) (Nat.le_refl _)
  have hY := hY.kp (Kp.gr g7 (show rb < w2.heap.size by omega)) (Nat.le_refl _)
  have c0 := box_cell B8 0
  have f0 := box_frozen B8 0
  have d0 := box_cell B7 0
  have c1 := box_cell B8 1
  have f1 := box_frozen B8 1
  have d1 := box_cell B7 1
  have c2 := box_cell B8 2
  have f2 := box_frozen B8 2
  have d2 := box_cell B7 2
  have c3 := box_cell B8 3
  have f3 := box_frozen B8 3
  have d3 := box_cell B7 3
  have c4 := box_cell B8 4
  have f4 := box_frozen B8 4
  have d4 := box_cell B7 4
  have c5 := box_cell B8 5
  have f5 := box_frozen B8 5
  have d5 := box_cell B7 5
  simp only [List.getElem?_toArray, List.getElem?_cons_succ, List.getElem?_cons_zero] at c0 d0 c1 d1 c2 d2 c3 d3 c4 d4 c5 d5
  have hP := put6_heap (a := .int .i64 t.op) (b := .string t.s) (c := .int .i64 t.n) (d := .slice A1 t.l.len k1) (x := .slice A2 t.x.len k2) (y := .slice A3 t.y.len k3) B8
  have hfin : TP rb g N cT o T W (.ok t r.tail) (.returned (.agg #[.int .i64 t.op, .string t.s, .int .i64 t.n, .slice A1 t.l.len k1, .slice A2 t.x.len k2, .slice A3 t.y.len k3])) (Proofs.YtaajolemjgdfnaaDoor.put6 w7 W.heap.size (.int .i64 t.op) (.string t.s) (.int .i64 t.n) (.slice A1 t.l.len k1) (.slice A2 t.x.len k2) (.slice A3 t.y.len k3)) :=
    ⟨⟨_, rfl, _, _, _, rfl, hL.kp (Kp.put6 (by omega)) (by omega), hX.kp (Kp.put6 (by omega)) (by omega), hY.kp (Kp.put6 (by omega)) (by omega), hok⟩, ⟨i5 + 1, h7.put6 (by omega) (by omega), hd7⟩, g8.put6 (Nat.le_refl _)⟩
  go_wp2
  obtain ⟨wz, hwz⟩ : ∃ W5, (Proofs.YtaajolemjgdfnaaDoor.put6 w7 W.heap.size (.int .i64 t.op) (.string t.s) (.int .i64 t.n) (.slice A1 t.l.len k1) (.slice A2 t.x.len k2) (.slice A3 t.y.len k3)) = W5 := ⟨_, rfl⟩
  show bodyPost _ _ _ _ _ (Proofs.YtaajolemjgdfnaaDoor.put6 w7 W.heap.size (.int .i64 t.op) (.string t.s) (.int .i64 t.n) (.slice A1 t.l.len k1) (.slice A2 t.x.len k2) (.slice A3 t.y.len k3))
  rw [hwz] at hP hfin ⊢
  have p0 := box_cell hP 0
  have p1 := box_cell hP 1
  have p2 := box_cell hP 2
  have p3 := box_cell hP 3
  have p4 := box_cell hP 4
  have p5 := box_cell hP 5
  simp only [List.getElem?_toArray, List.getElem?_cons_succ, List.getElem?_cons_zero] at p0 p1 p2 p3 p4 p5
  exact bodyPost_ret (v := .agg #[.int .i64 t.op, .string t.s, .int .i64 t.n, .slice A1 t.l.len k1, .slice A2 t.x.len k2, .slice A3 t.y.len k3]) (by simp [results, Tryd.results72, go_sem, p0, p1, p2, p3, p4, p5]) rfl hfin

set_option maxRecDepth 100000 in
theorem st4_bad {W : World} {rb g N cT i o : Nat} {T : List Tok} (h : Rd W rb g N cT T i o) (b0 : isT (T.drop i) [97, 114, 114, 97, 121] = false) (b1 : isT (T.drop i) [105, 110, 112, 117, 116] = false) (b2 : isT (T.drop i) [112, 114, 105, 110, 116] = false) (b3 : isT (T.drop i) [107, 101, 101, 112] = false) (b4 : isT (T.drop i) [114, 101, 116, 117, 114, 110] = true) (p c : Nat)
    (HX : ∀ W2, Rd W2 rb g N cT T (i + 1) o → Calls Tryd.prog 79 #[.pointer (some ⟨rb, 0, none⟩), .int .i64 9] W2 (TP rb g N cT o T W2 (.bad p c))) :
    Calls Tryd.prog 72 #[.pointer (some ⟨rb, 0, none⟩)] W (TP rb g N cT o T W (.bad p c)) := by
  have HXX := Lib.hid HX
  clear HX
  have HT0 := Lib.hid (fun w1 (h1 : Rd w1 rb g N cT T i o) => (show Calls Tryd.prog 75 #[.pointer (some ⟨rb, 0, none⟩), .string ⟨#[97, 114, 114, 97, 121]⟩] w1 (fun e w' => e = .returned (.bool false) ∧ Below w1.heap.size w1 w') from take_no h1 [97, 114, 114, 97, 121] b0))
  have HT1 := Lib.hid (fun w1 (h1 : Rd w1 rb g N cT T i o) => (show Calls Tryd.prog 75 #[.pointer (some ⟨rb, 0, none⟩), .string ⟨#[105, 110, 112, 117, 116]⟩] w1 (fun e w' => e = .returned (.bool false) ∧ Below w1.heap.size w1 w') from take_no h1 [105, 110, 112, 117, 116] b1))
  have HT2 := Lib.hid (fun w1 (h1 : Rd w1 rb g N cT T i o) => (show Calls Tryd.prog 75 #[.pointer (some ⟨rb, 0, none⟩), .string ⟨#[112, 114, 105, 110, 116]⟩] w1 (fun e w' => e = .returned (.bool false) ∧ Below w1.heap.size w1 w') from take_no h1 [112, 114, 105, 110, 116] b2))
  have HT3 := Lib.hid (fun w1 (h1 : Rd w1 rb g N cT T i o) => (show Calls Tryd.prog 75 #[.pointer (some ⟨rb, 0, none⟩), .string ⟨#[107, 101, 101, 112]⟩] w1 (fun e w' => e = .returned (.bool false) ∧ Below w1.heap.size w1 w') from take_no h1 [107, 101, 101, 112] b3))
  have HT4 := Lib.hid (fun w1 (h1 : Rd w1 rb g N cT T i o) => (show Calls Tryd.prog 75 #[.pointer (some ⟨rb, 0, none⟩), .string ⟨#[114, 101, 116, 117, 114, 110]⟩] w1 (fun e w' => e = .returned (.bool true) ∧ Rd w' rb g N cT T (i + 1) o ∧ Gr rb w1 w') from take_yes h1 [114, 101, 116, 117, 114, 110] (by decide) b4))
  have hrl := h.rlt
  have hgl := h.tok.1
  have h0 := (h.alloc (.cells #[.int .i64 0, .string ⟨#[]⟩, .int .i64 0, .slice none 0 0, .slice none 0 0, .slice none 0 0] 45)).alloc (.cells #[.int .i64 0, .string ⟨#[]⟩, .int .i64 0, .slice none 0 0, .slice none 0 0, .slice none 0 0] 45)
  have B8 := (Below.heap_alloc (W.alloc (.cells #[.int .i64 0, .string ⟨#[]⟩, .int .i64 0, .slice none 0 0, .slice none 0 0, .slice none 0 0] 45)) (.cells #[.int .i64 0, .string ⟨#[]⟩, .int .i64 0, .slice none 0 0, .slice none 0 0, .slice none 0 0] 45) W.heap.size (by simp)).trans (heap_alloc_new W (.cells #[.int .i64 0, .string ⟨#[]⟩, .int .i64 0, .slice none 0 0, .slice none 0 0, .slice none 0 0] 45))
  have B7 := heap_alloc_new (W.alloc (.cells #[.int .i64 0, .string ⟨#[]⟩, .int .i64 0, .slice none 0 0, .slice none 0 0, .slice none 0 0] 45)) (.cells #[.int .i64 0, .string ⟨#[]⟩, .int .i64 0, .slice none 0 0, .slice none 0 0, .slice none 0 0] 45)
  rw [World.size_alloc] at B7
  have g0 := ((Gr.refl rb W).alloc (.cells #[.int .i64 0, .string ⟨#[]⟩, .int .i64 0, .slice none 0 0, .slice none 0 0, .slice none 0 0] 45)).alloc (.cells #[.int .i64 0, .string ⟨#[]⟩, .int .i64 0, .slice none 0 0, .slice none 0 0, .slice none 0 0] 45)
  have z0 : ((W.alloc (.cells #[.int .i64 0, .string ⟨#[]⟩, .int .i64 0, .slice none 0 0, .slice none 0 0, .slice none 0 0] 45)).alloc (.cells #[.int .i64 0, .string ⟨#[]⟩, .int .i64 0, .slice none 0 0, .slice none 0 0, .slice none 0 0] 45)).heap.size = W.heap.size + 2 := by simp
  clear h b0 b1 b2 b3 b4
  go_enter Tryd.func72, Tryd.ntmps72
  go_upto_region 3 with fail
  obtain ⟨w0, hw0⟩ : ∃ W1, (W.alloc (.cells #[.int .i64 0, .string ⟨#[]⟩, .int .i64 0, .slice none 0 0, .slice none 0 0, .slice none 0 0] 45)).alloc (.cells #[.int .i64 0, .string ⟨#[]⟩, .int .i64 0, .slice none 0 0, .slice none 0 0, .slice none 0 0] 45) = W1 := ⟨_, rfl⟩
  rw [hw0] at h0 B8 B7 g0 z0 ⊢
  clear hw0
  obtain ⟨n3, hn3⟩ : ∃ n3, W.heap.size + 1 = n3 := ⟨_, rfl⟩
  rw [hn3] at B7 ⊢
  go_upto_region 13 with (first
    | (go_at_call 75; ((with_reducible refine (HT0.out _ h0).mono ?_); rintro e x0 ⟨rfl, e0⟩; have t0 := h0.below e0; have ee0 := e0))
    | (go_at_call 75; ((with_reducible refine (HT1.out _ t0).mono ?_); rintro e x1 ⟨rfl, e1⟩; have t1 := t0.below e1; have ee1 := ee0.trans (e1.mono ee0.size)))
    | (go_at_call 75; ((with_reducible refine (HT2.out _ t1).mono ?_); rintro e x2 ⟨rfl, e2⟩; have t2 := t1.below e2; have ee2 := ee1.trans (e2.mono ee1.size)))
    | (go_at_call 75; ((with_reducible refine (HT3.out _ t2).mono ?_); rintro e x3 ⟨rfl, e3⟩; have t3 := t2.below e3; have ee3 := ee2.trans (e3.mono ee2.size)))
    | (go_at_call 75; ((with_reducible refine (HT4.out _ t3).mono ?_); rintro e w2 ⟨rfl, h2, gq⟩; have gg := (Gr.of ee3).trans gq)))
  have z2 := gg.size
  have B7 := (gg.block (lt_heap B7) (by omega)).trans B7
  have B8 := (gg.block (lt_heap B8) (by omega)).trans B8
  have g2 := g0.trans gg
  clear gg
  clear h0 g0 HT0 HT1 HT2 HT3 HT4
  go_wp2_with (go_at_call 79; ((with_reducible refine (HXX.out _ h2).mono ?_); rintro e w5 ⟨rfl, g5⟩))
  exact ⟨rfl, rfl, g2.trans g5⟩

set_option maxRecDepth 100000 in
theorem st4_no {W : World} {rb g N cT i o : Nat} {T : List Tok} (h : Rd W rb g N cT T i o) (b0 : isT (T.drop i) [97, 114, 114, 97, 121] = false) (b1 : isT (T.drop i) [105, 110, 112, 117, 116] = false) (b2 : isT (T.drop i) [112, 114, 105, 110, 116] = false) (b3 : isT (T.drop i) [107, 101, 101, 112] = false) (b4 : isT (T.drop i) [114, 101, 116, 117, 114, 110] = true) (t : Sm) (r : List Tok) (bs : isT r [59] = false)
    (HX : ∀ W2, Rd W2 rb g N cT T (i + 1) o → Calls Tryd.prog 79 #[.pointer (some ⟨rb, 0, none⟩), .int .i64 9] W2 (TP rb g N cT o T W2 (.ok t r))) :
    Calls Tryd.prog 72 #[.pointer (some ⟨rb, 0, none⟩)] W (TP rb g N cT o T W (.bad (hdT r).at_ 2)) := by
  have HXX := Lib.hid HX
  have HW := Lib.hid (fun w2 i2 (h2 : Rd w2 rb g N cT T i2 o) (hd : T.drop i2 = r) => (show Calls Tryd.prog 68 #[.pointer (some ⟨rb, 0, none⟩), .string ⟨#[59]⟩] w2 (fun e w' => e = flt (hdT r).at_ 2 ∧ Below w2.heap.size w2 w') from want_no h2 [59] (by rw [hd]; exact bs) _ (by rw [hd])))
  clear HX bs
  have HT0 := Lib.hid (fun w1 (h1 : Rd w1 rb g N cT T i o) => (show Calls Tryd.prog 75 #[.pointer (some ⟨rb, 0, none⟩), .string ⟨#[97, 114, 114, 97, 121]⟩] w1 (fun e w' => e = .returned (.bool false) ∧ Below w1.heap.size w1 w') from take_no h1 [97, 114, 114, 97, 121] b0))
  have HT1 := Lib.hid (fun w1 (h1 : Rd w1 rb g N cT T i o) => (show Calls Tryd.prog 75 #[.pointer (some ⟨rb, 0, none⟩), .string ⟨#[105, 110, 112, 117, 116]⟩] w1 (fun e w' => e = .returned (.bool false) ∧ Below w1.heap.size w1 w') from take_no h1 [105, 110, 112, 117, 116] b1))
  have HT2 := Lib.hid (fun w1 (h1 : Rd w1 rb g N cT T i o) => (show Calls Tryd.prog 75 #[.pointer (some ⟨rb, 0, none⟩), .string ⟨#[112, 114, 105, 110, 116]⟩] w1 (fun e w' => e = .returned (.bool false) ∧ Below w1.heap.size w1 w') from take_no h1 [112, 114, 105, 110, 116] b2))
  have HT3 := Lib.hid (fun w1 (h1 : Rd w1 rb g N cT T i o) => (show Calls Tryd.prog 75 #[.pointer (some ⟨rb, 0, none⟩), .string ⟨#[107, 101, 101, 112]⟩] w1 (fun e w' => e = .returned (.bool false) ∧ Below w1.heap.size w1 w') from take_no h1 [107, 101, 101, 112] b3))
  have HT4 := Lib.hid (fun w1 (h1 : Rd w1 rb g N cT T i o) => (show Calls Tryd.prog 75 #[.pointer (some ⟨rb, 0, none⟩), .string ⟨#[114, 101, 116, 117, 114, 110]⟩] w1 (fun e w' => e = .returned (.bool true) ∧ Rd w' rb g N cT T (i + 1) o ∧ Gr rb w1 w') from take_yes h1 [114, 101, 116, 117, 114, 110] (by decide) b4))
  have hrl := h.rlt
  have hgl := h.tok.1
  have h0 := (h.alloc (.cells #[.int .i64 0, .string ⟨#[]⟩, .int .i64 0, .slice none 0 0, .slice none 0 0, .slice none 0 0] 45)).alloc (.cells #[.int .i64 0, .string ⟨#[]⟩, .int .i64 0, .slice none 0 0, .slice none 0 0, .slice none 0 0] 45)
  have B8 := (Below.heap_alloc (W.alloc (.cells #[.int .i64 0, .string ⟨#[]⟩, .int .i64 0, .slice none 0 0, .slice none 0 0, .slice none 0 0] 45)) (.cells #[.int .i64 0, .string ⟨#[]⟩, .int .i64 0, .slice none 0 0, .slice none 0 0, .slice none 0 0] 45) W.heap.size (by simp)).trans (heap_alloc_new W (.cells #[.int .i64 0, .string ⟨#[]⟩, .int .i64 0, .slice none 0 0, .slice none 0 0, .slice none 0 0] 45))
  have B7 := heap_alloc_new (W.alloc (.cells #[.int .i64 0, .string ⟨#[]⟩, .int .i64 0, .slice none 0 0, .slice none 0 0, .slice none 0 0] 45)) (.cells #[.int .i64 0, .string ⟨#[]⟩, .int .i64 0, .slice none 0 0, .slice none 0 0, .slice none 0 0] 45)
  rw [World.size_alloc] at B7
  have g0 := ((Gr.refl rb W).alloc (.cells #[.int .i64 0, .string ⟨#[]⟩, .int .i64 0, .slice none 0 0, .slice none 0 0, .slice none 0 0] 45)).alloc (.cells #[.int .i64 0, .string ⟨#[]⟩, .int .i64 0, .slice none 0 0, .slice none 0 0, .slice none 0 0] 45)
  have z0 : ((W.alloc (.cells #[.int .i64 0, .string ⟨#[]⟩, .int .i64 0, .slice none 0 0, .slice none 0 0, .slice none 0 0] 45)).alloc (.cells #[.int .i64 0, .string ⟨#[]⟩, .int .i64 0, .slice none 0 0, .slice none 0 0, .slice none 0 0] 45)).heap.size = W.heap.size + 2 := by simp
  clear h b0 b1 b2 b3 b4
  go_enter Tryd.func72, Tryd.ntmps72
  go_upto_region 3 with fail
  obtain ⟨w0, hw0⟩ : ∃ W1, (W.alloc (.cells #[.int .i64 0, .string ⟨#[]⟩, .int .i64 0, .slice none 0 0, .slice none 0 0, .slice none 0 0] 45)).alloc (.cells #[.int .i64 0, .string ⟨#[]⟩, .int .i64 0, .slice none 0 0, .slice none 0 0, .slice none 0 0] 45) = W1 := ⟨_, rfl⟩
  rw [hw0] at h0 B8 B7 g0 z0 ⊢
  clear hw0
  obtain ⟨n3, hn3⟩ : ∃ n3, W.heap.size + 1 = n3 := ⟨_, rfl⟩
  rw [hn3] at B7 ⊢
  go_upto_region 13 with (first
    | (go_at_call 75; ((with_reducible refine (HT0.out _ h0).mono ?_); rintro e x0 ⟨rfl, e0⟩; have t0 := h0.below e0; have ee0 := e0))
    | (go_at_call 75; ((with_reducible refine (HT1.out _ t0).mono ?_); rintro e x1 ⟨rfl, e1⟩; have t1 := t0.below e1; have ee1 := ee0.trans (e1.mono ee0.size)))
    | (go_at_call 75; ((with_reducible refine (HT2.out _ t1).mono ?_); rintro e x2 ⟨rfl, e2⟩; have t2 := t1.below e2; have ee2 := ee1.trans (e2.mono ee1.size)))
    | (go_at_call 75; ((with_reducible refine (HT3.out _ t2).mono ?_); rintro e x3 ⟨rfl, e3⟩; have t3 := t2.below e3; have ee3 := ee2.trans (e3.mono ee2.size)))
    | (go_at_call 75; ((with_reducible refine (HT4.out _ t3).mono ?_); rintro e w2 ⟨rfl, h2, gq⟩; have gg := (Gr.of ee3).trans gq)))
  have z2 := gg.size
  have B7 := (gg.block (lt_heap B7) (by omega)).trans B7
  have B8 := (gg.block (lt_heap B8) (by omega)).trans B8
  have g2 := g0.trans gg
  clear gg
  clear h0 g0 HT0 HT1 HT2 HT3 HT4
  have HB7 := Lib.hid (fun w5 (g5 : Gr rb w2 w5) => (g5.block (lt_heap B7) (by omega)).trans B7)
  have HB8 := Lib.hid (fun w5 (g5 : Gr rb w2 w5) => (g5.block (lt_heap B8) (by omega)).trans B8)
  go_upto_region 18 with (go_at_call 79; ((with_reducible refine (HXX.out _ h2).mono ?_); rintro e w5 ⟨⟨vv, rfl, vl, vx, vy, rfl, hvl, hvx, hvy, hok⟩, ⟨i5, h5, hd5⟩, g5⟩; obtain ⟨A1, k1, el1, _⟩ := id hvl; obtain ⟨A2, k2, el2, _⟩ := id hvx; obtain ⟨A3, k3, el3, _⟩ := id hvy; subst el1; subst el2; subst el3; have B7 := HB7.out w5 g5; have c0 := box_cell B7 0; have f0 := box_frozen B7 0; have c1 := box_cell B7 1; have f1 := box_frozen B7 1; have c2 := box_cell B7 2; have f2 := box_frozen B7 2; have c3 := box_cell B7 3; have f3 := box_frozen B7 3; have c4 := box_cell B7 4; have f4 := box_frozen B7 4; have c5 := box_cell B7 5; have f5 := box_frozen B7 5; simp only [List.getElem?_toArray, List.getElem?_cons_succ, List.getElem?_cons_zero] at c0 c1 c2 c3 c4 c5))
  have z5 := g5.size
  have hl7 := lt_heap B7
  have h6 : Rd (Proofs.YtaajolemjgdfnaaDoor.put6 w5 n3 (.int .i64 t.op) (.string t.s) (.int .i64 t.n) (.slice A1 t.l.len k1) (.slice A2 t.x.len k2) (.slice A3 t.y.len k3)) rb g N cT T i5 o := h5.put6 (by omega) (by omega)
  have g6 : Gr rb W (Proofs.YtaajolemjgdfnaaDoor.put6 w5 n3 (.int .i64 t.op) (.string t.s) (.int .i64 t.n) (.slice A1 t.l.len k1) (.slice A2 t.x.len k2) (.slice A3 t.y.len k3)) := (g2.trans g5).put6 (by omega)
  have B7 := put6_heap (a := .int .i64 t.op) (b := .string t.s) (c := .int .i64 t.n) (d := .slice A1 t.l.len k1) (x := .slice A2 t.x.len k2) (y := .slice A3 t.y.len k3) B7
  have B8 : (Proofs.YtaajolemjgdfnaaDoor.put6 w5 n3 (.int .i64 t.op) (.string t.s) (.int .i64 t.n) (.slice A1 t.l.len k1) (.slice A2 t.x.len k2) (.slice A3 t.y.len k3)).heap[W.heap.size]? = _ := (put6_block (show W.heap.size ≠ n3 by omega)).trans (HB8.out w5 g5)
  have hL : EX w2.heap.size (Proofs.YtaajolemjgdfnaaDoor.put6 w5 n3 (.int .i64 t.op) (.string t.s) (.int .i64 t.n) (.slice A1 t.l.len k1) (.slice A2 t.x.len k2) (.slice A3 t.y.len k3)) _ _ := hvl.kp (Kp.put6 (by omega)) (Nat.le_refl _)
  have hX : SX w2.heap.size (Proofs.YtaajolemjgdfnaaDoor.put6 w5 n3 (.int .i64 t.op) (.string t.s) (.int .i64 t.n) (.slice A1 t.l.len k1) (.slice A2 t.x.len k2) (.slice A3 t.y.len k3)) _ _ := hvx.kp (Kp.put6 (by omega)) (Nat.le_refl _)
  have hY : SX w2.heap.size (Proofs.YtaajolemjgdfnaaDoor.put6 w5 n3 (.int .i64 t.op) (.string t.s) (.int .i64 t.n) (.slice A1 t.l.len k1) (.slice A2 t.x.len k2) (.slice A3 t.y.len k3)) _ _ := hvy.kp (Kp.put6 (by omega)) (Nat.le_refl _)
  have zp : (Proofs.YtaajolemjgdfnaaDoor.put6 w5 n3 (.int .i64 t.op) (.string t.s) (.int .i64 t.n) (.slice A1 t.l.len k1) (.slice A2 t.x.len k2) (.slice A3 t.y.len k3)).heap.size = w5.heap.size := put6_size
  obtain ⟨w6, hw6⟩ : ∃ W5, (Proofs.YtaajolemjgdfnaaDoor.put6 w5 n3 (.int .i64 t.op) (.string t.s) (.int .i64 t.n) (.slice A1 t.l.len k1) (.slice A2 t.x.len k2) (.slice A3 t.y.len k3)) = W5 := ⟨_, rfl⟩
  show Code.wp _ _ _ _ (Proofs.YtaajolemjgdfnaaDoor.put6 w5 n3 (.int .i64 t.op) (.string t.s) (.int .i64 t.n) (.slice A1 t.l.len k1) (.slice A2 t.x.len k2) (.slice A3 t.y.len k3))
  rw [hw6] at h6 g6 B7 B8 hL hX hY zp ⊢
  clear hw6 c0 c1 c2 c3 c4 c5 f0 f1 f2 f3 f4 f5 HB7 HB8 h5
  go_wp2_with (go_at_call 68; ((with_reducible refine (HW.out _ i5 h6 hd5).mono ?_); rintro e w7 ⟨rfl, e7⟩))
  exact ⟨rfl, rfl, g6.trans (Gr.of e7)⟩

set_option maxRecDepth 100000 in
theorem st4_yes {W : World} {rb g N cT i o : Nat} {T : List Tok} (h : Rd W rb g N cT T i o) (b0 : isT (T.drop i) [97, 114, 114, 97, 121] = false) (b1 : isT (T.drop i) [105, 110, 112, 117, 116] = false) (b2 : isT (T.drop i) [112, 114, 105, 110, 116] = false) (b3 : isT (T.drop i) [107, 101, 101, 112] = false) (b4 : isT (T.drop i) [114, 101, 116, 117, 114, 110] = true) (t : Sm) (r : List Tok) (bs : isT r [59] = true)
    (HX : ∀ W2, Rd W2 rb g N cT T (i + 1) o → Calls Tryd.prog 79 #[.pointer (some ⟨rb, 0, none⟩), .int .i64 9] W2 (TP rb g N cT o T W2 (.ok t r))) :
    Calls Tryd.prog 72 #[.pointer (some ⟨rb, 0, none⟩)] W (TP rb g N cT o T W (.ok t r.tail)) := by
  have HXX := Lib.hid HX
  have HW := Lib.hid (fun w2 i2 (h2 : Rd w2 rb g N cT T i2 o) (hd : T.drop i2 = r) => (show Calls Tryd.prog 68 #[.pointer (some ⟨rb, 0, none⟩), .string ⟨#[59]⟩] w2 (fun e w' => e = .returned (.tuple #[]) ∧ Rd w' rb g N cT T (i2 + 1) o ∧ Gr rb w2 w') from want_yes h2 [59] (by decide) (by rw [hd]; exact bs)))
  clear HX bs
  have HT0 := Lib.hid (fun w1 (h1 : Rd w1 rb g N cT T i o) => (show Calls Tryd.prog 75 #[.pointer (some ⟨rb, 0, none⟩), .string ⟨#[97, 114, 114, 97, 121]⟩] w1 (fun e w' => e = .returned (.bool false) ∧ Below w1.heap.size w1 w') from take_no h1 [97, 114, 114, 97, 121] b0))
  have HT1 := Lib.hid (fun w1 (h1 : Rd w1 rb g N cT T i o) => (show Calls Tryd.prog 75 #[.pointer (some ⟨rb, 0, none⟩), .string ⟨#[105, 110, 112, 117, 116]⟩] w1 (fun e w' => e = .returned (.bool false) ∧ Below w1.heap.size w1 w') from take_no h1 [105, 110, 112, 117, 116] b1))
  have HT2 := Lib.hid (fun w1 (h1 : Rd w1 rb g N cT T i o) => (show Calls Tryd.prog 75 #[.pointer (some ⟨rb, 0, none⟩), .string ⟨#[112, 114, 105, 110, 116]⟩] w1 (fun e w' => e = .returned (.bool false) ∧ Below w1.heap.size w1 w') from take_no h1 [112, 114, 105, 110, 116] b2))
  have HT3 := Lib.hid (fun w1 (h1 : Rd w1 rb g N cT T i o) => (show Calls Tryd.prog 75 #[.pointer (some ⟨rb, 0, none⟩), .string ⟨#[107, 101, 101, 112]⟩] w1 (fun e w' => e = .returned (.bool false) ∧ Below w1.heap.size w1 w') from take_no h1 [107, 101, 101, 112] b3))
  have HT4 := Lib.hid (fun w1 (h1 : Rd w1 rb g N cT T i o) => (show Calls Tryd.prog 75 #[.pointer (some ⟨rb, 0, none⟩), .string ⟨#[114, 101, 116, 117, 114, 110]⟩] w1 (fun e w' => e = .returned (.bool true) ∧ Rd w' rb g N cT T (i + 1) o ∧ Gr rb w1 w') from take_yes h1 [114, 101, 116, 117, 114, 110] (by decide) b4))
  have hrl := h.rlt
  have hgl := h.tok.1
  have h0 := (h.alloc (.cells #[.int .i64 0, .string ⟨#[]⟩, .int .i64 0, .slice none 0 0, .slice none 0 0, .slice none 0 0] 45)).alloc (.cells #[.int .i64 0, .string ⟨#[]⟩, .int .i64 0, .slice none 0 0, .slice none 0 0, .slice none 0 0] 45)
  have B8 := (Below.heap_alloc (W.alloc (.cells #[.int .i64 0, .string ⟨#[]⟩, .int .i64 0, .slice none 0 0, .slice none 0 0, .slice none 0 0] 45)) (.cells #[.int .i64 0, .string ⟨#[]⟩, .int .i64 0, .slice none 0 0, .slice none 0 0, .slice none 0 0] 45) W.heap.size (by simp)).trans (heap_alloc_new W (.cells #[.int .i64 0, .string ⟨#[]⟩, .int .i64 0, .slice none 0 0, .slice none 0 0, .slice none 0 0] 45))
  have B7 := heap_alloc_new (W.alloc (.cells #[.int .i64 0, .string ⟨#[]⟩, .int .i64 0, .slice none 0 0, .slice none 0 0, .slice none 0 0] 45)) (.cells #[.int .i64 0, .string ⟨#[]⟩, .int .i64 0, .slice none 0 0, .slice none 0 0, .slice none 0 0] 45)
  rw [World.size_alloc] at B7
  have g0 := ((Gr.refl rb W).alloc (.cells #[.int .i64 0, .string ⟨#[]⟩, .int .i64 0, .slice none 0 0, .slice none 0 0, .slice none 0 0] 45)).alloc (.cells #[.int .i64 0, .string ⟨#[]⟩, .int .i64 0, .slice none 0 0, .slice none 0 0, .slice none 0 0] 45)
  have z0 : ((W.alloc (.cells #[.int .i64 0, .string ⟨#[]⟩, .int .i64 0, .slice none 0 0, .slice none 0 0, .slice none 0 0] 45)).alloc (.cells #[.int .i64 0, .string ⟨#[]⟩, .int .i64 0, .slice none 0 0, .slice none 0 0, .slice none 0 0] 45)).heap.size = W.heap.size + 2 := by simp
  clear h b0 b1 b2 b3 b4
  go_enter Tryd.func72, Tryd.ntmps72
  go_upto_region 3 with fail
  obtain ⟨w0, hw0⟩ : ∃ W1, (W.alloc (.cells #[.int .i64 0, .string ⟨#[]⟩, .int .i64 0, .slice none 0 0, .slice none 0 0, .slice none 0 0] 45)).alloc (.cells #[.int .i64 0, .string ⟨#[]⟩, .int .i64 0, .slice none 0 0, .slice none 0 0, .slice none 0 0] 45) = W1 := ⟨_, rfl⟩
  rw [hw0] at h0 B8 B7 g0 z0 ⊢
  clear hw0
  obtain ⟨n3, hn3⟩ : ∃ n3, W.heap.size + 1 = n3 := ⟨_, rfl⟩
  rw [hn3] at B7 ⊢
  go_upto_region 13 with (first
    | (go_at_call 75; ((with_reducible refine (HT0.out _ h0).mono ?_); rintro e x0 ⟨rfl, e0⟩; have t0 := h0.below e0; have ee0 := e0))
    | (go_at_call 75; ((with_reducible refine (HT1.out _ t0).mono ?_); rintro e x1 ⟨rfl, e1⟩; have t1 := t0.below e1; have ee1 := ee0.trans (e1.mono ee0.size)))
    | (go_at_call 75; ((with_reducible refine (HT2.out _ t1).mono ?_); rintro e x2 ⟨rfl, e2⟩; have t2 := t1.below e2; have ee2 := ee1.trans (e2.mono ee1.size)))
    | (go_at_call 75; ((with_reducible refine (HT3.out _ t2).mono ?_); rintro e x3 ⟨rfl, e3⟩; have t3 := t2.below e3; have ee3 := ee2.trans (e3.mono ee2.size)))
    | (go_at_call 75; ((with_reducible refine (HT4.out _ t3).mono ?_); rintro e w2 ⟨rfl, h2, gq⟩; have gg := (Gr.of ee3).trans gq)))
  have z2 := gg.size
  have B7 := (gg.block (lt_heap B7) (by omega)).trans B7
  have B8 := (gg.block (lt_heap B8) (by omega)).trans B8
  have g2 := g0.trans gg
  clear gg
  clear h0 g0 HT0 HT1 HT2 HT3 HT4
  have HB7 := Lib.hid (fun w5 (g5 : Gr rb w2 w5) => (g5.block (lt_heap B7) (by omega)).trans B7)
  have HB8 := Lib.hid (fun w5 (g5 : Gr rb w2 w5) => (g5.block (lt_heap B8) (by omega)).trans B8)
  go_upto_region 18 with (go_at_call 79; ((with_reducible refine (HXX.out _ h2).mono ?_); rintro e w5 ⟨⟨vv, rfl, vl, vx, vy, rfl, hvl, hvx, hvy, hok⟩, ⟨i5, h5, hd5⟩, g5⟩; obtain ⟨A1, k1, el1, _⟩ := id hvl; obtain ⟨A2, k2, el2, _⟩ := id hvx; obtain ⟨A3, k3, el3, _⟩ := id hvy; subst el1; subst el2; subst el3; have B7 := HB7.out w5 g5; have c0 := box_cell B7 0; have f0 := box_frozen B7 0; have c1 := box_cell B7 1; have f1 := box_frozen B7 1; have c2 := box_cell B7 2; have f2 := box_frozen B7 2; have c3 := box_cell B7 3; have f3 := box_frozen B7 3; have c4 := box_cell B7 4; have f4 := box_frozen B7 4; have c5 := box_cell B7 5; have f5 := box_frozen B7 5; simp only [List.getElem?_toArray, List.getElem?_cons_succ, List.getElem?_cons_zero] at c0 c1 c2 c3 c4 c5))
  have z5 := g5.size
  have hl7 := lt_heap B7
  have h6 : Rd (Proofs.YtaajolemjgdfnaaDoor.put6 w5 n3 (.int .i64 t.op) (.string t.s) (.int .i64 t.n) (.slice A1 t.l.len k1) (.slice A2 t.x.len k2) (.slice A3 t.y.len k3)) rb g N cT T i5 o := h5.put6 (by omega) (by omega)
  have g6 : Gr rb W (Proofs.YtaajolemjgdfnaaDoor.put6 w5 n3 (.int .i64 t.op) (.string t.s) (.int .i64 t.n) (.slice A1 t.l.len k1) (.slice A2 t.x.len k2) (.slice A3 t.y.len k3)) := (g2.trans g5).put6 (by omega)
  have B7 := put6_heap (a := .int .i64 t.op) (b := .string t.s) (c := .int .i64 t.n) (d := .slice A1 t.l.len k1) (x := .slice A2 t.x.len k2) (y := .slice A3 t.y.len k3) B7
  have B8 : (Proofs.YtaajolemjgdfnaaDoor.put6 w5 n3 (.int .i64 t.op) (.string t.s) (.int .i64 t.n) (.slice A1 t.l.len k1) (.slice A2 t.x.len k2) (.slice A3 t.y.len k3)).heap[W.heap.size]? = _ := (put6_block (show W.heap.size ≠ n3 by omega)).trans (HB8.out w5 g5)
  have hL : EX w2.heap.size (Proofs.YtaajolemjgdfnaaDoor.put6 w5 n3 (.int .i64 t.op) (.string t.s) (.int .i64 t.n) (.slice A1 t.l.len k1) (.slice A2 t.x.len k2) (.slice A3 t.y.len k3)) _ _ := hvl.kp (Kp.put6 (by omega)) (Nat.le_refl _)
  have hX : SX w2.heap.size (Proofs.YtaajolemjgdfnaaDoor.put6 w5 n3 (.int .i64 t.op) (.string t.s) (.int .i64 t.n) (.slice A1 t.l.len k1) (.slice A2 t.x.len k2) (.slice A3 t.y.len k3)) _ _ := hvx.kp (Kp.put6 (by omega)) (Nat.le_refl _)
  have hY : SX w2.heap.size (Proofs.YtaajolemjgdfnaaDoor.put6 w5 n3 (.int .i64 t.op) (.string t.s) (.int .i64 t.n) (.slice A1 t.l.len k1) (.slice A2 t.x.len k2) (.slice A3 t.y.len k3)) _ _ := hvy.kp (Kp.put6 (by omega)) (Nat.le_refl _)
  have zp : (Proofs.YtaajolemjgdfnaaDoor.put6 w5 n3 (.int .i64 t.op) (.string t.s) (.int .i64 t.n) (.slice A1 t.l.len k1) (.slice A2 t.x.len k2) (.slice A3 t.y.len k3)).heap.size = w5.heap.size := put6_size
  obtain ⟨w6, hw6⟩ : ∃ W5, (Proofs.YtaajolemjgdfnaaDoor.put6 w5 n3 (.int .i64 t.op) (.string t.s) (.int .i64 t.n) (.slice A1 t.l.len k1) (.slice A2 t.x.len k2) (.slice A3 t.y.len k3)) = W5 := ⟨_, rfl⟩
  show Code.wp _ _ _ _ (Proofs.YtaajolemjgdfnaaDoor.put6 w5 n3 (.int .i64 t.op) (.string t.s) (.int .i64 t.n) (.slice A1 t.l.len k1) (.slice A2 t.x.len k2) (.slice A3 t.y.len k3))
  rw [hw6] at h6 g6 B7 B8 hL hX hY zp ⊢
  clear hw6 c0 c1 c2 c3 c4 c5 f0 f1 f2 f3 f4 f5 HB7 HB8 h5
  go_upto_region 19 with (go_at_call 68; ((with_reducible refine (HW.out _ i5 h6 hd5).mono ?_); rintro e w7 ⟨rfl, h7, g7⟩))
  have z7 := g7.size
  have hl7 := lt_heap B7
  have hl8 := lt_heap B8
  have B7 := (g7.block (lt_heap B7) (by omega)).trans B7
  have B8 := (g7.block (lt_heap B8) (by omega)).trans B8
  have g8 := g6.trans g7
  have hd7 : T.drop (i5 + 1) = r.tail := by rw [← hd5, drop_tail]
  have hL := hL.kp (Kp.gr g7 (show rb < w2.heap.size by omega)) (Nat.le_refl _)
  have hX := hX.kp (Kp.gr g7 (show rb < w2.heap.size by omega)) (Nat.le_refl _)
  have hY := hY.kp (Kp.gr g7 (show rb < w2.heap.size by omega)) (Nat.le_refl _)
  have c0 := box_cell B8 0
  have f0 := box_frozen B8 0
  have d0 := box_cell B7 0
  have c1 := box_cell B8 1
  have f1 := box_frozen B8 1
  have d1 := box_cell B7 1
  have c2 := box_cell B8 2
  have f2 := box_frozen B8 2
  have d2 := box_cell B7 2
  have c3 := box_cell B8 3
  have f3 := box_frozen B8 3
  have d3 := box_cell B7 3
  have c4 := box_cell B8 4
  have f4 := box_frozen B8 4
  have d4 := box_cell B7 4
  have c5 := box_cell B8 5
  have f5 := box_frozen B8 5
  have d5 := box_cell B7 5
  simp only [List.getElem?_toArray, List.getElem?_cons_succ, List.getElem?_cons_zero] at c0 d0 c1 d1 c2 d2 c3 d3 c4 d4 c5 d5
  have hP := put6_heap (a := .int .i64 t.op) (b := .string t.s) (c := .int .i64 t.n) (d := .slice A1 t.l.len k1) (x := .slice A2 t.x.len k2) (y := .slice A3 t.y.len k3) B8
  have hfin : TP rb g N cT o T W (.ok t r.tail) (.returned (.agg #[.int .i64 t.op, .string t.s, .int .i64 t.n, .slice A1 t.l.len k1, .slice A2 t.x.len k2, .slice A3 t.y.len k3])) (Proofs.YtaajolemjgdfnaaDoor.put6 w7 W.heap.size (.int .i64 t.op) (.string t.s) (.int .i64 t.n) (.slice A1 t.l.len k1) (.slice A2 t.x.len k2) (.slice A3 t.y.len k3)) :=
    ⟨⟨_, rfl, _, _, _, rfl, hL.kp (Kp.put6 (by omega)) (by omega), hX.kp (Kp.put6 (by omega)) (by omega), hY.kp (Kp.put6 (by omega)) (by omega), hok⟩, ⟨i5 + 1, h7.put6 (by omega) (by omega), hd7⟩, g8.put6 (Nat.le_refl _)⟩
  go_wp2
  obtain ⟨wz, hwz⟩ : ∃ W5, (Proofs.YtaajolemjgdfnaaDoor.put6 w7 W.heap.size (.int .i64 t.op) (.string t.s) (.int .i64 t.n) (.slice A1 t.l.len k1) (.slice A2 t.x.len k2) (.slice A3 t.y.len k3)) = W5 := ⟨_, rfl⟩
  show bodyPost _ _ _ _ _ (Proofs.YtaajolemjgdfnaaDoor.put6 w7 W.heap.size (.int .i64 t.op) (.string t.s) (.int .i64 t.n) (.slice A1 t.l.len k1) (.slice A2 t.x.len k2) (.slice A3 t.y.len k3))
  rw [hwz] at hP hfin ⊢
  have p0 := box_cell hP 0
  have p1 := box_cell hP 1
  have p2 := box_cell hP 2
  have p3 := box_cell hP 3
  have p4 := box_cell hP 4
  have p5 := box_cell hP 5
  simp only [List.getElem?_toArray, List.getElem?_cons_succ, List.getElem?_cons_zero] at p0 p1 p2 p3 p4 p5
  exact bodyPost_ret (v := .agg #[.int .i64 t.op, .string t.s, .int .i64 t.n, .slice A1 t.l.len k1, .slice A2 t.x.len k2, .slice A3 t.y.len k3]) (by simp [results, Tryd.results72, go_sem, p0, p1, p2, p3, p4, p5]) rfl hfin

set_option maxRecDepth 100000 in
theorem st7_bad {W : World} {rb g N cT i o : Nat} {T : List Tok} (h : Rd W rb g N cT T i o) (b0 : isT (T.drop i) [97, 114, 114, 97, 121] = false) (b1 : isT (T.drop i) [105, 110, 112, 117, 116] = false) (b2 : isT (T.drop i) [112, 114, 105, 110, 116] = false) (b3 : isT (T.drop i) [107, 101, 101, 112] = false) (b4 : isT (T.drop i) [114, 101, 116, 117, 114, 110] = false) (b5 : isT (T.drop i) [105, 102] = false) (b6 : isT (T.drop i) [119, 104, 105, 108, 101] = false) (p c : Nat)
    (HX : ∀ W2, Rd W2 rb g N cT T i o → Calls Tryd.prog 82 #[.pointer (some ⟨rb, 0, none⟩)] W2 (TP rb g N cT o T W2 (.bad p c))) :
    Calls Tryd.prog 72 #[.pointer (some ⟨rb, 0, none⟩)] W (TP rb g N cT o T W (.bad p c)) := by
  have HXX := Lib.hid HX
  clear HX
  have HT0 := Lib.hid (fun w1 (h1 : Rd w1 rb g N cT T i o) => (show Calls Tryd.prog 75 #[.pointer (some ⟨rb, 0, none⟩), .string ⟨#[97, 114, 114, 97, 121]⟩] w1 (fun e w' => e = .returned (.bool false) ∧ Below w1.heap.size w1 w') from take_no h1 [97, 114, 114, 97, 121] b0))
  have HT1 := Lib.hid (fun w1 (h1 : Rd w1 rb g N cT T i o) => (show Calls Tryd.prog 75 #[.pointer (some ⟨rb, 0, none⟩), .string ⟨#[105, 110, 112, 117, 116]⟩] w1 (fun e w' => e = .returned (.bool false) ∧ Below w1.heap.size w1 w') from take_no h1 [105, 110, 112, 117, 116] b1))
  have HT2 := Lib.hid (fun w1 (h1 : Rd w1 rb g N cT T i o) => (show Calls Tryd.prog 75 #[.pointer (some ⟨rb, 0, none⟩), .string ⟨#[112, 114, 105, 110, 116]⟩] w1 (fun e w' => e = .returned (.bool false) ∧ Below w1.heap.size w1 w') from take_no h1 [112, 114, 105, 110, 116] b2))
  have HT3 := Lib.hid (fun w1 (h1 : Rd w1 rb g N cT T i o) => (show Calls Tryd.prog 75 #[.pointer (some ⟨rb, 0, none⟩), .string ⟨#[107, 101, 101, 112]⟩] w1 (fun e w' => e = .returned (.bool false) ∧ Below w1.heap.size w1 w') from take_no h1 [107, 101, 101, 112] b3))
  have HT4 := Lib.hid (fun w1 (h1 : Rd w1 rb g N cT T i o) => (show Calls Tryd.prog 75 #[.pointer (some ⟨rb, 0, none⟩), .string ⟨#[114, 101, 116, 117, 114, 110]⟩] w1 (fun e w' => e = .returned (.bool false) ∧ Below w1.heap.size w1 w') from take_no h1 [114, 101, 116, 117, 114, 110] b4))
  have HT5 := Lib.hid (fun w1 (h1 : Rd w1 rb g N cT T i o) => (show Calls Tryd.prog 75 #[.pointer (some ⟨rb, 0, none⟩), .string ⟨#[105, 102]⟩] w1 (fun e w' => e = .returned (.bool false) ∧ Below w1.heap.size w1 w') from take_no h1 [105, 102] b5))
  have HT6 := Lib.hid (fun w1 (h1 : Rd w1 rb g N cT T i o) => (show Calls Tryd.prog 75 #[.pointer (some ⟨rb, 0, none⟩), .string ⟨#[119, 104, 105, 108, 101]⟩] w1 (fun e w' => e = .returned (.bool false) ∧ Below w1.heap.size w1 w') from take_no h1 [119, 104, 105, 108, 101] b6))
  have hrl := h.rlt
  have hgl := h.tok.1
  have h0 := (h.alloc (.cells #[.int .i64 0, .string ⟨#[]⟩, .int .i64 0, .slice none 0 0, .slice none 0 0, .slice none 0 0] 45)).alloc (.cells #[.int .i64 0, .string ⟨#[]⟩, .int .i64 0, .slice none 0 0, .slice none 0 0, .slice none 0 0] 45)
  have B8 := (Below.heap_alloc (W.alloc (.cells #[.int .i64 0, .string ⟨#[]⟩, .int .i64 0, .slice none 0 0, .slice none 0 0, .slice none 0 0] 45)) (.cells #[.int .i64 0, .string ⟨#[]⟩, .int .i64 0, .slice none 0 0, .slice none 0 0, .slice none 0 0] 45) W.heap.size (by simp)).trans (heap_alloc_new W (.cells #[.int .i64 0, .string ⟨#[]⟩, .int .i64 0, .slice none 0 0, .slice none 0 0, .slice none 0 0] 45))
  have B7 := heap_alloc_new (W.alloc (.cells #[.int .i64 0, .string ⟨#[]⟩, .int .i64 0, .slice none 0 0, .slice none 0 0, .slice none 0 0] 45)) (.cells #[.int .i64 0, .string ⟨#[]⟩, .int .i64 0, .slice none 0 0, .slice none 0 0, .slice none 0 0] 45)
  rw [World.size_alloc] at B7
  have g0 := ((Gr.refl rb W).alloc (.cells #[.int .i64 0, .string ⟨#[]⟩, .int .i64 0, .slice none 0 0, .slice none 0 0, .slice none 0 0] 45)).alloc (.cells #[.int .i64 0, .string ⟨#[]⟩, .int .i64 0, .slice none 0 0, .slice none 0 0, .slice none 0 0] 45)
  have z0 : ((W.alloc (.cells #[.int .i64 0, .string ⟨#[]⟩, .int .i64 0, .slice none 0 0, .slice none 0 0, .slice none 0 0] 45)).alloc (.cells #[.int .i64 0, .string ⟨#[]⟩, .int .i64 0, .slice none 0 0, .slice none 0 0, .slice none 0 0] 45)).heap.size = W.heap.size + 2 := by simp
  clear h b0 b1 b2 b3 b4 b5 b6
  go_enter Tryd.func72, Tryd.ntmps72
  go_upto_region 3 with fail
  obtain ⟨w0, hw0⟩ : ∃ W1, (W.alloc (.cells #[.int .i64 0, .string ⟨#[]⟩, .int .i64 0, .slice none 0 0, .slice none 0 0, .slice none 0 0] 45)).alloc (.cells #[.int .i64 0, .string ⟨#[]⟩, .int .i64 0, .slice none 0 0, .slice none 0 0, .slice none 0 0] 45) = W1 := ⟨_, rfl⟩
  rw [hw0] at h0 B8 B7 g0 z0 ⊢
  clear hw0
  obtain ⟨n3, hn3⟩ : ∃ n3, W.heap.size + 1 = n3 := ⟨_, rfl⟩
  rw [hn3] at B7 ⊢
  go_upto_region 2 with (first
    | (go_at_call 75; ((with_reducible refine (HT0.out _ h0).mono ?_); rintro e x0 ⟨rfl, e0⟩; have t0 := h0.below e0; have ee0 := e0))
    | (go_at_call 75; ((with_reducible refine (HT1.out _ t0).mono ?_); rintro e x1 ⟨rfl, e1⟩; have t1 := t0.below e1; have ee1 := ee0.trans (e1.mono ee0.size)))
    | (go_at_call 75; ((with_reducible refine (HT2.out _ t1).mono ?_); rintro e x2 ⟨rfl, e2⟩; have t2 := t1.below e2; have ee2 := ee1.trans (e2.mono ee1.size)))
    | (go_at_call 75; ((with_reducible refine (HT3.out _ t2).mono ?_); rintro e x3 ⟨rfl, e3⟩; have t3 := t2.below e3; have ee3 := ee2.trans (e3.mono ee2.size)))
    | (go_at_call 75; ((with_reducible refine (HT4.out _ t3).mono ?_); rintro e x4 ⟨rfl, e4⟩; have t4 := t3.below e4; have ee4 := ee3.trans (e4.mono ee3.size)))
    | (go_at_call 75; ((with_reducible refine (HT5.out _ t4).mono ?_); rintro e x5 ⟨rfl, e5⟩; have t5 := t4.below e5; have ee5 := ee4.trans (e5.mono ee4.size)))
    | (go_at_call 75; ((with_reducible refine (HT6.out _ t5).mono ?_); rintro e x6 ⟨rfl, e6⟩; have t6 := t5.below e6; have ee6 := ee5.trans (e6.mono ee5.size))))
  have gg := Gr.of (rb := rb) ee6
  have h2 := t6
  obtain ⟨w2, hw2⟩ : ∃ w2, x6 = w2 := ⟨_, rfl⟩
  rw [hw2] at gg h2 ⊢
  clear hw2
  have z2 := gg.size
  have B7 := (gg.block (lt_heap B7) (by omega)).trans B7
  have B8 := (gg.block (lt_heap B8) (by omega)).trans B8
  have g2 := g0.trans gg
  clear gg
  clear h0 g0 HT0 HT1 HT2 HT3 HT4 HT5 HT6
  go_wp2_with (go_at_call 82; ((with_reducible refine (HXX.out _ h2).mono ?_); rintro e w5 ⟨rfl, g5⟩))
  exact ⟨rfl, rfl, g2.trans g5⟩

set_option maxRecDepth 100000 in
theorem st7_no {W : World} {rb g N cT i o : Nat} {T : List Tok} (h : Rd W rb g N cT T i o) (b0 : isT (T.drop i) [97, 114, 114, 97, 121] = false) (b1 : isT (T.drop i) [105, 110, 112, 117, 116] = false) (b2 : isT (T.drop i) [112, 114, 105, 110, 116] = false) (b3 : isT (T.drop i) [107, 101, 101, 112] = false) (b4 : isT (T.drop i) [114, 101, 116, 117, 114, 110] = false) (b5 : isT (T.drop i) [105, 102] = false) (b6 : isT (T.drop i) [119, 104, 105, 108, 101] = false) (t : Sm) (r : List Tok) (bs : isT r [59] = false)
    (HX : ∀ W2, Rd W2 rb g N cT T i o → Calls Tryd.prog 82 #[.pointer (some ⟨rb, 0, none⟩)] W2 (TP rb g N cT o T W2 (.ok t r))) :
    Calls Tryd.prog 72 #[.pointer (some ⟨rb, 0, none⟩)] W (TP rb g N cT o T W (.bad (hdT r).at_ 2)) := by
  have HXX := Lib.hid HX
  have HW := Lib.hid (fun w2 i2 (h2 : Rd w2 rb g N cT T i2 o) (hd : T.drop i2 = r) => (show Calls Tryd.prog 68 #[.pointer (some ⟨rb, 0, none⟩), .string ⟨#[59]⟩] w2 (fun e w' => e = flt (hdT r).at_ 2 ∧ Below w2.heap.size w2 w') from want_no h2 [59] (by rw [hd]; exact bs) _ (by rw [hd])))
  clear HX bs
  have HT0 := Lib.hid (fun w1 (h1 : Rd w1 rb g N cT T i o) => (show Calls Tryd.prog 75 #[.pointer (some ⟨rb, 0, none⟩), .string ⟨#[97, 114, 114, 97, 121]⟩] w1 (fun e w' => e = .returned (.bool false) ∧ Below w1.heap.size w1 w') from take_no h1 [97, 114, 114, 97, 121] b0))
  have HT1 := Lib.hid (fun w1 (h1 : Rd w1 rb g N cT T i o) => (show Calls Tryd.prog 75 #[.pointer (some ⟨rb, 0, none⟩), .string ⟨#[105, 110, 112, 117, 116]⟩] w1 (fun e w' => e = .returned (.bool false) ∧ Below w1.heap.size w1 w') from take_no h1 [105, 110, 112, 117, 116] b1))
  have HT2 := Lib.hid (fun w1 (h1 : Rd w1 rb g N cT T i o) => (show Calls Tryd.prog 75 #[.pointer (some ⟨rb, 0, none⟩), .string ⟨#[112, 114, 105, 110, 116]⟩] w1 (fun e w' => e = .returned (.bool false) ∧ Below w1.heap.size w1 w') from take_no h1 [112, 114, 105, 110, 116] b2))
  have HT3 := Lib.hid (fun w1 (h1 : Rd w1 rb g N cT T i o) => (show Calls Tryd.prog 75 #[.pointer (some ⟨rb, 0, none⟩), .string ⟨#[107, 101, 101, 112]⟩] w1 (fun e w' => e = .returned (.bool false) ∧ Below w1.heap.size w1 w') from take_no h1 [107, 101, 101, 112] b3))
  have HT4 := Lib.hid (fun w1 (h1 : Rd w1 rb g N cT T i o) => (show Calls Tryd.prog 75 #[.pointer (some ⟨rb, 0, none⟩), .string ⟨#[114, 101, 116, 117, 114, 110]⟩] w1 (fun e w' => e = .returned (.bool false) ∧ Below w1.heap.size w1 w') from take_no h1 [114, 101, 116, 117, 114, 110] b4))
  have HT5 := Lib.hid (fun w1 (h1 : Rd w1 rb g N cT T i o) => (show Calls Tryd.prog 75 #[.pointer (some ⟨rb, 0, none⟩), .string ⟨#[105, 102]⟩] w1 (fun e w' => e = .returned (.bool false) ∧ Below w1.heap.size w1 w') from take_no h1 [105, 102] b5))
  have HT6 := Lib.hid (fun w1 (h1 : Rd w1 rb g N cT T i o) => (show Calls Tryd.prog 75 #[.pointer (some ⟨rb, 0, none⟩), .string ⟨#[119, 104, 105, 108, 101]⟩] w1 (fun e w' => e = .returned (.bool false) ∧ Below w1.heap.size w1 w') from take_no h1 [119, 104, 105, 108, 101] b6))
  have hrl := h.rlt
  have hgl := h.tok.1
  have h0 := (h.alloc (.cells #[.int .i64 0, .string ⟨#[]⟩, .int .i64 0, .slice none 0 0, .slice none 0 0, .slice none 0 0] 45)).alloc (.cells #[.int .i64 0, .string ⟨#[]⟩, .int .i64 0, .slice none 0 0, .slice none 0 0, .slice none 0 0] 45)
  have B8 := (Below.heap_alloc (W.alloc (.cells #[.int .i64 0, .string ⟨#[]⟩, .int .i64 0, .slice none 0 0, .slice none 0 0, .slice none 0 0] 45)) (.cells #[.int .i64 0, .string ⟨#[]⟩, .int .i64 0, .slice none 0 0, .slice none 0 0, .slice none 0 0] 45) W.heap.size (by simp)).trans (heap_alloc_new W (.cells #[.int .i64 0, .string ⟨#[]⟩, .int .i64 0, .slice none 0 0, .slice none 0 0, .slice none 0 0] 45))
  have B7 := heap_alloc_new (W.alloc (.cells #[.int .i64 0, .string ⟨#[]⟩, .int .i64 0, .slice none 0 0, .slice none 0 0, .slice none 0 0] 45)) (.cells #[.int .i64 0, .string ⟨#[]⟩, .int .i64 0, .slice none 0 0, .slice none 0 0, .slice none 0 0] 45)
  rw [World.size_alloc] at B7
  have g0 := ((Gr.refl rb W).alloc (.cells #[.int .i64 0, .string ⟨#[]⟩, .int .i64 0, .slice none 0 0, .slice none 0 0, .slice none 0 0] 45)).alloc (.cells #[.int .i64 0, .string ⟨#[]⟩, .int .i64 0, .slice none 0 0, .slice none 0 0, .slice none 0 0] 45)
  have z0 : ((W.alloc (.cells #[.int .i64 0, .string ⟨#[]⟩, .int .i64 0, .slice none 0 0, .slice none 0 0, .slice none 0 0] 45)).alloc (.cells #[.int .i64 0, .string ⟨#[]⟩, .int .i64 0, .slice none 0 0, .slice none 0 0, .slice none 0 0] 45)).heap.size = W.heap.size + 2 := by simp
  clear h b0 b1 b2 b3 b4 b5 b6
  go_enter Tryd.func72, Tryd.ntmps72
  go_upto_region 3 with fail
  obtain ⟨w0, hw0⟩ : ∃ W1, (W.alloc (.cells #[.int .i64 0, .string ⟨#[]⟩, .int .i64 0, .slice none 0 0, .slice none 0 0, .slice none 0 0] 45)).alloc (.cells #[.int .i64 0, .string ⟨#[]⟩, .int .i64 0, .slice none 0 0, .slice none 0 0, .slice none 0 0] 45) = W1 := ⟨_, rfl⟩
  rw [hw0] at h0 B8 B7 g0 z0 ⊢
  clear hw0
  obtain ⟨n3, hn3⟩ : ∃ n3, W.heap.size + 1 = n3 := ⟨_, rfl⟩
  rw [hn3] at B7 ⊢
  go_upto_region 2 with (first
    | (go_at_call 75; ((with_reducible refine (HT0.out _ h0).mono ?_); rintro e x0 ⟨rfl, e0⟩; have t0 := h0.below e0; have ee0 := e0))
    | (go_at_call 75; ((with_reducible refine (HT1.out _ t0).mono ?_); rintro e x1 ⟨rfl, e1⟩; have t1 := t0.below e1; have ee1 := ee0.trans (e1.mono ee0.size)))
    | (go_at_call 75; ((with_reducible refine (HT2.out _ t1).mono ?_); rintro e x2 ⟨rfl, e2⟩; have t2 := t1.below e2; have ee2 := ee1.trans (e2.mono ee1.size)))
    | (go_at_call 75; ((with_reducible refine (HT3.out _ t2).mono ?_); rintro e x3 ⟨rfl, e3⟩; have t3 := t2.below e3; have ee3 := ee2.trans (e3.mono ee2.size)))
    | (go_at_call 75; ((with_reducible refine (HT4.out _ t3).mono ?_); rintro e x4 ⟨rfl, e4⟩; have t4 := t3.below e4; have ee4 := ee3.trans (e4.mono ee3.size)))
    | (go_at_call 75; ((with_reducible refine (HT5.out _ t4).mono ?_); rintro e x5 ⟨rfl, e5⟩; have t5 := t4.below e5; have ee5 := ee4.trans (e5.mono ee4.size)))
    | (go_at_call 75; ((with_reducible refine (HT6.out _ t5).mono ?_); rintro e x6 ⟨rfl, e6⟩; have t6 := t5.below e6; have ee6 := ee5.trans (e6.mono ee5.size))))
  have gg := Gr.of (rb := rb) ee6
  have h2 := t6
  obtain ⟨w2, hw2⟩ : ∃ w2, x6 = w2 := ⟨_, rfl⟩
  rw [hw2] at gg h2 ⊢
  clear hw2
  have z2 := gg.size
  have B7 := (gg.block (lt_heap B7) (by omega)).trans B7
  have B8 := (gg.block (lt_heap B8) (by omega)).trans B8
  have g2 := g0.trans gg
  clear gg
  clear h0 g0 HT0 HT1 HT2 HT3 HT4 HT5 HT6
  have HB7 := Lib.hid (fun w5 (g5 : Gr rb w2 w5) => (g5.block (lt_heap B7) (by omega)).trans B7)
  have HB8 := Lib.hid (fun w5 (g5 : Gr rb w2 w5) => (g5.block (lt_heap B8) (by omega)).trans B8)
  go_upto_region 18 with (go_at_call 82; ((with_reducible refine (HXX.out _ h2).mono ?_); rintro e w5 ⟨⟨vv, rfl, vl, vx, vy, rfl, hvl, hvx, hvy, hok⟩, ⟨i5, h5, hd5⟩, g5⟩; obtain ⟨A1, k1, el1, _⟩ := id hvl; obtain ⟨A2, k2, el2, _⟩ := id hvx; obtain ⟨A3, k3, el3, _⟩ := id hvy; subst el1; subst el2; subst el3; have B7 := HB7.out w5 g5; have c0 := box_cell B7 0; have f0 := box_frozen B7 0; have c1 := box_cell B7 1; have f1 := box_frozen B7 1; have c2 := box_cell B7 2; have f2 := box_frozen B7 2; have c3 := box_cell B7 3; have f3 := box_frozen B7 3; have c4 := box_cell B7 4; have f4 := box_frozen B7 4; have c5 := box_cell B7 5; have f5 := box_frozen B7 5; simp only [List.getElem?_toArray, List.getElem?_cons_succ, List.getElem?_cons_zero] at c0 c1 c2 c3 c4 c5))
  have z5 := g5.size
  have hl7 := lt_heap B7
  have h6 : Rd (Proofs.YtaajolemjgdfnaaDoor.put6 w5 n3 (.int .i64 t.op) (.string t.s) (.int .i64 t.n) (.slice A1 t.l.len k1) (.slice A2 t.x.len k2) (.slice A3 t.y.len k3)) rb g N cT T i5 o := h5.put6 (by omega) (by omega)
  have g6 : Gr rb W (Proofs.YtaajolemjgdfnaaDoor.put6 w5 n3 (.int .i64 t.op) (.string t.s) (.int .i64 t.n) (.slice A1 t.l.len k1) (.slice A2 t.x.len k2) (.slice A3 t.y.len k3)) := (g2.trans g5).put6 (by omega)
  have B7 := put6_heap (a := .int .i64 t.op) (b := .string t.s) (c := .int .i64 t.n) (d := .slice A1 t.l.len k1) (x := .slice A2 t.x.len k2) (y := .slice A3 t.y.len k3) B7
  have B8 : (Proofs.YtaajolemjgdfnaaDoor.put6 w5 n3 (.int .i64 t.op) (.string t.s) (.int .i64 t.n) (.slice A1 t.l.len k1) (.slice A2 t.x.len k2) (.slice A3 t.y.len k3)).heap[W.heap.size]? = _ := (put6_block (show W.heap.size ≠ n3 by omega)).trans (HB8.out w5 g5)
  have hL : EX w2.heap.size (Proofs.YtaajolemjgdfnaaDoor.put6 w5 n3 (.int .i64 t.op) (.string t.s) (.int .i64 t.n) (.slice A1 t.l.len k1) (.slice A2 t.x.len k2) (.slice A3 t.y.len k3)) _ _ := hvl.kp (Kp.put6 (by omega)) (Nat.le_refl _)
  have hX : SX w2.heap.size (Proofs.YtaajolemjgdfnaaDoor.put6 w5 n3 (.int .i64 t.op) (.string t.s) (.int .i64 t.n) (.slice A1 t.l.len k1) (.slice A2 t.x.len k2) (.slice A3 t.y.len k3)) _ _ := hvx.kp (Kp.put6 (by omega)) (Nat.le_refl _)
  have hY : SX w2.heap.size (Proofs.YtaajolemjgdfnaaDoor.put6 w5 n3 (.int .i64 t.op) (.string t.s) (.int .i64 t.n) (.slice A1 t.l.len k1) (.slice A2 t.x.len k2) (.slice A3 t.y.len k3)) _ _ := hvy.kp (Kp.put6 (by omega)) (Nat.le_refl _)
  have zp : (Proofs.YtaajolemjgdfnaaDoor.put6 w5 n3 (.int .i64 t.op) (.string t.s) (.int .i64 t.n) (.slice A1 t.l.len k1) (.slice A2 t.x.len k2) (.slice A3 t.y.len k3)).heap.size = w5.heap.size := put6_size
  obtain ⟨w6, hw6⟩ : ∃ W5, (Proofs.YtaajolemjgdfnaaDoor.put6 w5 n3 (.int .i64 t.op) (.string t.s) (.int .i64 t.n) (.slice A1 t.l.len k1) (.slice A2 t.x.len k2) (.slice A3 t.y.len k3)) = W5 := ⟨_, rfl⟩
  show Code.wp _ _ _ _ (Proofs.YtaajolemjgdfnaaDoor.put6 w5 n3 (.int .i64 t.op) (.string t.s) (.int .i64 t.n) (.slice A1 t.l.len k1) (.slice A2 t.x.len k2) (.slice A3 t.y.len k3))
  rw [hw6] at h6 g6 B7 B8 hL hX hY zp ⊢
  clear hw6 c0 c1 c2 c3 c4 c5 f0 f1 f2 f3 f4 f5 HB7 HB8 h5
  go_wp2_with (go_at_call 68; ((with_reducible refine (HW.out _ i5 h6 hd5).mono ?_); rintro e w7 ⟨rfl, e7⟩))
  exact ⟨rfl, rfl, g6.trans (Gr.of e7)⟩

set_option maxRecDepth 100000 in
theorem st7_yes {W : World} {rb g N cT i o : Nat} {T : List Tok} (h : Rd W rb g N cT T i o) (b0 : isT (T.drop i) [97, 114, 114, 97, 121] = false) (b1 : isT (T.drop i) [105, 110, 112, 117, 116] = false) (b2 : isT (T.drop i) [112, 114, 105, 110, 116] = false) (b3 : isT (T.drop i) [107, 101, 101, 112] = false) (b4 : isT (T.drop i) [114, 101, 116, 117, 114, 110] = false) (b5 : isT (T.drop i) [105, 102] = false) (b6 : isT (T.drop i) [119, 104, 105, 108, 101] = false) (t : Sm) (r : List Tok) (bs : isT r [59] = true)
    (HX : ∀ W2, Rd W2 rb g N cT T i o → Calls Tryd.prog 82 #[.pointer (some ⟨rb, 0, none⟩)] W2 (TP rb g N cT o T W2 (.ok t r))) :
    Calls Tryd.prog 72 #[.pointer (some ⟨rb, 0, none⟩)] W (TP rb g N cT o T W (.ok t r.tail)) := by
  have HXX := Lib.hid HX
  have HW := Lib.hid (fun w2 i2 (h2 : Rd w2 rb g N cT T i2 o) (hd : T.drop i2 = r) => (show Calls Tryd.prog 68 #[.pointer (some ⟨rb, 0, none⟩), .string ⟨#[59]⟩] w2 (fun e w' => e = .returned (.tuple #[]) ∧ Rd w' rb g N cT T (i2 + 1) o ∧ Gr rb w2 w') from want_yes h2 [59] (by decide) (by rw [hd]; exact bs)))
  clear HX bs
  have HT0 := Lib.hid (fun w1 (h1 : Rd w1 rb g N cT T i o) => (show Calls Tryd.prog 75 #[.pointer (some ⟨rb, 0, none⟩), .string ⟨#[97, 114, 114, 97, 121]⟩] w1 (fun e w' => e = .returned (.bool false) ∧ Below w1.heap.size w1 w') from take_no h1 [97, 114, 114, 97, 121] b0))
  have HT1 := Lib.hid (fun w1 (h1 : Rd w1 rb g N cT T i o) => (show Calls Tryd.prog 75 #[.pointer (some ⟨rb, 0, none⟩), .string ⟨#[105, 110, 112, 117, 116]⟩] w1 (fun e w' => e = .returned (.bool false) ∧ Below w1.heap.size w1 w') from take_no h1 [105, 110, 112, 117, 116] b1))
  have HT2 := Lib.hid (fun w1 (h1 : Rd w1 rb g N cT T i o) => (show Calls Tryd.prog 75 #[.pointer (some ⟨rb, 0, none⟩), .string ⟨#[112, 114, 105, 110, 116]⟩] w1 (fun e w' => e = .returned (.bool false) ∧ Below w1.heap.size w1 w') from take_no h1 [112, 114, 105, 110, 116] b2))
  have HT3 := Lib.hid (fun w1 (h1 : Rd w1 rb g N cT T i o) => (show Calls Tryd.prog 75 #[.pointer (some ⟨rb, 0, none⟩), .string ⟨#[107, 101, 101, 112]⟩] w1 (fun e w' => e = .returned (.bool false) ∧ Below w1.heap.size w1 w') from take_no h1 [107, 101, 101, 112] b3))
  have HT4 := Lib.hid (fun w1 (h1 : Rd w1 rb g N cT T i o) => (show Calls Tryd.prog 75 #[.pointer (some ⟨rb, 0, none⟩), .string ⟨#[114, 101, 116, 117, 114, 110]⟩] w1 (fun e w' => e = .returned (.bool false) ∧ Below w1.heap.size w1 w') from take_no h1 [114, 101, 116, 117, 114, 110] b4))
  have HT5 := Lib.hid (fun w1 (h1 : Rd w1 rb g N cT T i o) => (show Calls Tryd.prog 75 #[.pointer (some ⟨rb, 0, none⟩), .string ⟨#[105, 102]⟩] w1 (fun e w' => e = .returned (.bool false) ∧ Below w1.heap.size w1 w') from take_no h1 [105, 102] b5))
  have HT6 := Lib.hid (fun w1 (h1 : Rd w1 rb g N cT T i o) => (show Calls Tryd.prog 75 #[.pointer (some ⟨rb, 0, none⟩), .string ⟨#[119, 104, 105, 108, 101]⟩] w1 (fun e w' => e = .returned (.bool false) ∧ Below w1.heap.size w1 w') from take_no h1 [119, 104, 105, 108, 101] b6))
  have hrl := h.rlt
  have hgl := h.tok.1
  have h0 := (h.alloc (.cells #[.int .i64 0, .string ⟨#[]⟩, .int .i64 0, .slice none 0 0, .slice none 0 0, .slice none 0 0] 45)).alloc (.cells #[.int .i64 0, .string ⟨#[]⟩, .int .i64 0, .slice none 0 0, .slice none 0 0, .slice none 0 0] 45)
  have B8 := (Below.heap_alloc (W.alloc (.cells #[.int .i64 0, .string ⟨#[]⟩, .int .i64 0, .slice none 0 0, .slice none 0 0, .slice none 0 0] 45)) (.cells #[.int .i64 0, .string ⟨#[]⟩, .int .i64 0, .slice none 0 0, .slice none 0 0, .slice none 0 0] 45) W.heap.size (by simp)).trans (heap_alloc_new W (.cells #[.int .i64 0, .string ⟨#[]⟩, .int .i64 0, .slice none 0 0, .slice none 0 0, .slice none 0 0] 45))
  have B7 := heap_alloc_new (W.alloc (.cells #[.int .i64 0, .string ⟨#[]⟩, .int .i64 0, .slice none 0 0, .slice none 0 0, .slice none 0 0] 45)) (.cells #[.int .i64 0, .string ⟨#[]⟩, .int .i64 0, .slice none 0 0, .slice none 0 0, .slice none 0 0] 45)
  rw [World.size_alloc] at B7
  have g0 := ((Gr.refl rb W).alloc (.cells #[.int .i64 0, .string ⟨#[]⟩, .int .i64 0, .slice none 0 0, .slice none 0 0, .slice none 0 0] 45)).alloc (.cells #[.int .i64 0, .string ⟨#[]⟩, .int .i64 0, .slice none 0 0, .slice none 0 0, .slice none 0 0] 45)
  have z0 : ((W.alloc (.cells #[.int .i64 0, .string ⟨#[]⟩, .int .i64 0, .slice none 0 0, .slice none 0 0, .slice none 0 0] 45)).alloc (.cells #[.int .i64 0, .string ⟨#[]⟩, .int .i64 0, .slice none 0 0, .slice none 0 0, .slice none 0 0] 45)).heap.size = W.heap.size + 2 := by simp
  clear h b0 b1 b2 b3 b4 b5 b6
  go_enter Tryd.func72, Tryd.ntmps72
  go_upto_region 3 with fail
  obtain ⟨w0, hw0⟩ : ∃ W1, (W.alloc (.cells #[.int .i64 0, .string ⟨#[]⟩, .int .i64 0, .slice none 0 0, .slice none 0 0, .slice none 0 0] 45)).alloc (.cells #[.int .i64 0, .string ⟨#[]⟩, .int .i64 0, .slice none 0 0, .slice none 0 0, .slice none 0 0] 45) = W1 := ⟨_, rfl⟩
  rw [hw0] at h0 B8 B7 g0 z0 ⊢
  clear hw0
  obtain ⟨n3, hn3⟩ : ∃ n3, W.heap.size + 1 = n3 := ⟨_, rfl⟩
  rw [hn3] at B7 ⊢
  go_upto_region 2 with (first
    | (go_at_call 75; ((with_reducible refine (HT0.out _ h0).mono ?_); rintro e x0 ⟨rfl, e0⟩; have t0 := h0.below e0; have ee0 := e0))
    | (go_at_call 75; ((with_reducible refine (HT1.out _ t0).mono ?_); rintro e x1 ⟨rfl, e1⟩; have t1 := t0.below e1; have ee1 := ee0.trans (e1.mono ee0.size)))
    | (go_at_call 75; ((with_reducible refine (HT2.out _ t1).mono ?_); rintro e x2 ⟨rfl, e2⟩; have t2 := t1.below e2; have ee2 := ee1.trans (e2.mono ee1.size)))
    | (go_at_call 75; ((with_reducible refine (HT3.out _ t2).mono ?_); rintro e x3 ⟨rfl, e3⟩; have t3 := t2.below e3; have ee3 := ee2.trans (e3.mono ee2.size)))
    | (go_at_call 75; ((with_reducible refine (HT4.out _ t3).mono ?_); rintro e x4 ⟨rfl, e4⟩; have t4 := t3.below e4; have ee4 := ee3.trans (e4.mono ee3.size)))
    | (go_at_call 75; ((with_reducible refine (HT5.out _ t4).mono ?_); rintro e x5 ⟨rfl, e5⟩; have t5 := t4.below e5; have ee5 := ee4.trans (e5.mono ee4.size)))
    | (go_at_call 75; ((with_reducible refine (HT6.out _ t5).mono ?_); rintro e x6 ⟨rfl, e6⟩; have t6 := t5.below e6; have ee6 := ee5.trans (e6.mono ee5.size))))
  have gg := Gr.of (rb := rb) ee6
  have h2 := t6
  obtain ⟨w2, hw2⟩ : ∃ w2, x6 = w2 := ⟨_, rfl⟩
  rw [hw2] at gg h2 ⊢
  clear hw2
  have z2 := gg.size
  have B7 := (gg.block (lt_heap B7) (by omega)).trans B7
  have B8 := (gg.block (lt_heap B8) (by omega)).trans B8
  have g2 := g0.trans gg
  clear gg
  clear h0 g0 HT0 HT1 HT2 HT3 HT4 HT5 HT6
  have HB7 := Lib.hid (fun w5 (g5 : Gr rb w2 w5) => (g5.block (lt_heap B7) (by omega)).trans B7)
  have HB8 := Lib.hid (fun w5 (g5 : Gr rb w2 w5) => (g5.block (lt_heap B8) (by omega)).trans B8)
  go_upto_region 18 with (go_at_call 82; ((with_reducible refine (HXX.out _ h2).mono ?_); rintro e w5 ⟨⟨vv, rfl, vl, vx, vy, rfl, hvl, hvx, hvy, hok⟩, ⟨i5, h5, hd5⟩, g5⟩; obtain ⟨A1, k1, el1, _⟩ := id hvl; obtain ⟨A2, k2, el2, _⟩ := id hvx; obtain ⟨A3, k3, el3, _⟩ := id hvy; subst el1; subst el2; subst el3; have B7 := HB7.out w5 g5; have c0 := box_cell B7 0; have f0 := box_frozen B7 0; have c1 := box_cell B7 1; have f1 := box_frozen B7 1; have c2 := box_cell B7 2; have f2 := box_frozen B7 2; have c3 := box_cell B7 3; have f3 := box_frozen B7 3; have c4 := box_cell B7 4; have f4 := box_frozen B7 4; have c5 := box_cell B7 5; have f5 := box_frozen B7 5; simp only [List.getElem?_toArray, List.getElem?_cons_succ, List.getElem?_cons_zero] at c0 c1 c2 c3 c4 c5))
  have z5 := g5.size
  have hl7 := lt_heap B7
  have h6 : Rd (Proofs.YtaajolemjgdfnaaDoor.put6 w5 n3 (.int .i64 t.op) (.string t.s) (.int .i64 t.n) (.slice A1 t.l.len k1) (.slice A2 t.x.len k2) (.slice A3 t.y.len k3)) rb g N cT T i5 o := h5.put6 (by omega) (by omega)
  have g6 : Gr rb W (Proofs.YtaajolemjgdfnaaDoor.put6 w5 n3 (.int .i64 t.op) (.string t.s) (.int .i64 t.n) (.slice A1 t.l.len k1) (.slice A2 t.x.len k2) (.slice A3 t.y.len k3)) := (g2.trans g5).put6 (by omega)
  have B7 := put6_heap (a := .int .i64 t.op) (b := .string t.s) (c := .int .i64 t.n) (d := .slice A1 t.l.len k1) (x := .slice A2 t.x.len k2) (y := .slice A3 t.y.len k3) B7
  have B8 : (Proofs.YtaajolemjgdfnaaDoor.put6 w5 n3 (.int .i64 t.op) (.string t.s) (.int .i64 t.n) (.slice A1 t.l.len k1) (.slice A2 t.x.len k2) (.slice A3 t.y.len k3)).heap[W.heap.size]? = _ := (put6_block (show W.heap.size ≠ n3 by omega)).trans (HB8.out w5 g5)
  have hL : EX w2.heap.size (Proofs.YtaajolemjgdfnaaDoor.put6 w5 n3 (.int .i64 t.op) (.string t.s) (.int .i64 t.n) (.slice A1 t.l.len k1) (.slice A2 t.x.len k2) (.slice A3 t.y.len k3)) _ _ := hvl.kp (Kp.put6 (by omega)) (Nat.le_refl _)
  have hX : SX w2.heap.size (Proofs.YtaajolemjgdfnaaDoor.put6 w5 n3 (.int .i64 t.op) (.string t.s) (.int .i64 t.n) (.slice A1 t.l.len k1) (.slice A2 t.x.len k2) (.slice A3 t.y.len k3)) _ _ := hvx.kp (Kp.put6 (by omega)) (Nat.le_refl _)
  have hY : SX w2.heap.size (Proofs.YtaajolemjgdfnaaDoor.put6 w5 n3 (.int .i64 t.op) (.string t.s) (.int .i64 t.n) (.slice A1 t.l.len k1) (.slice A2 t.x.len k2) (.slice A3 t.y.len k3)) _ _ := hvy.kp (Kp.put6 (by omega)) (Nat.le_refl _)
  have zp : (Proofs.YtaajolemjgdfnaaDoor.put6 w5 n3 (.int .i64 t.op) (.string t.s) (.int .i64 t.n) (.slice A1 t.l.len k1) (.slice A2 t.x.len k2) (.slice A3 t.y.len k3)).heap.size = w5.heap.size := put6_size
  obtain ⟨w6, hw6⟩ : ∃ W5, (Proofs.YtaajolemjgdfnaaDoor.put6 w5 n3 (.int .i64 t.op) (.string t.s) (.int .i64 t.n) (.slice A1 t.l.len k1) (.slice A2 t.x.len k2) (.slice A3 t.y.len k3)) = W5 := ⟨_, rfl⟩
  show Code.wp _ _ _ _ (Proofs.YtaajolemjgdfnaaDoor.put6 w5 n3 (.int .i64 t.op) (.string t.s) (.int .i64 t.n) (.slice A1 t.l.len k1) (.slice A2 t.x.len k2) (.slice A3 t.y.len k3))
  rw [hw6] at h6 g6 B7 B8 hL hX hY zp ⊢
  clear hw6 c0 c1 c2 c3 c4 c5 f0 f1 f2 f3 f4 f5 HB7 HB8 h5
  go_upto_region 19 with (go_at_call 68; ((with_reducible refine (HW.out _ i5 h6 hd5).mono ?_); rintro e w7 ⟨rfl, h7, g7⟩))
  have z7 := g7.size
  have hl7 := lt_heap B7
  have hl8 := lt_heap B8
  have B7 := (g7.block (lt_heap B7) (by omega)).trans B7
  have B8 := (g7.block (lt_heap B8) (by omega)).trans B8
  have g8 := g6.trans g7
  have hd7 : T.drop (i5 + 1) = r.tail := by rw [← hd5, drop_tail]
  have hL := hL.kp (Kp.gr g7 (show rb < w2.heap.size by omega)) (Nat.le_refl _)
  have hX := hX.kp (Kp.gr g7 (show rb < w2.heap.size by omega)) (Nat.le_refl _)
  have hY := hY.kp (Kp.gr g7 (show rb < w2.heap.size by omega)) (Nat.le_refl _)
  have c0 := box_cell B8 0
  have f0 := box_frozen B8 0
  have d0 := box_cell B7 0
  have c1 := box_cell B8 1
  have f1 := box_frozen B8 1
  have d1 := box_cell B7 1
  have c2 := box_cell B8 2
  have f2 := box_frozen B8 2
  have d2 := box_cell B7 2
  have c3 := box_cell B8 3
  have f3 := box_frozen B8 3
  have d3 := box_cell B7 3
  have c4 := box_cell B8 4
  have f4 := box_frozen B8 4
  have d4 := box_cell B7 4
  have c5 := box_cell B8 5
  have f5 := box_frozen B8 5
  have d5 := box_cell B7 5
  simp only [List.getElem?_toArray, List.getElem?_cons_succ, List.getElem?_cons_zero] at c0 d0 c1 d1 c2 d2 c3 d3 c4 d4 c5 d5
  have hP := put6_heap (a := .int .i64 t.op) (b := .string t.s) (c := .int .i64 t.n) (d := .slice A1 t.l.len k1) (x := .slice A2 t.x.len k2) (y := .slice A3 t.y.len k3) B8
  have hfin : TP rb g N cT o T W (.ok t r.tail) (.returned (.agg #[.int .i64 t.op, .string t.s, .int .i64 t.n, .slice A1 t.l.len k1, .slice A2 t.x.len k2, .slice A3 t.y.len k3])) (Proofs.YtaajolemjgdfnaaDoor.put6 w7 W.heap.size (.int .i64 t.op) (.string t.s) (.int .i64 t.n) (.slice A1 t.l.len k1) (.slice A2 t.x.len k2) (.slice A3 t.y.len k3)) :=
    ⟨⟨_, rfl, _, _, _, rfl, hL.kp (Kp.put6 (by omega)) (by omega), hX.kp (Kp.put6 (by omega)) (by omega), hY.kp (Kp.put6 (by omega)) (by omega), hok⟩, ⟨i5 + 1, h7.put6 (by omega) (by omega), hd7⟩, g8.put6 (Nat.le_refl _)⟩
  go_wp2
  obtain ⟨wz, hwz⟩ : ∃ W5, (Proofs.YtaajolemjgdfnaaDoor.put6 w7 W.heap.size (.int .i64 t.op) (.string t.s) (.int .i64 t.n) (.slice A1 t.l.len k1) (.slice A2 t.x.len k2) (.slice A3 t.y.len k3)) = W5 := ⟨_, rfl⟩
  show bodyPost _ _ _ _ _ (Proofs.YtaajolemjgdfnaaDoor.put6 w7 W.heap.size (.int .i64 t.op) (.string t.s) (.int .i64 t.n) (.slice A1 t.l.len k1) (.slice A2 t.x.len k2) (.slice A3 t.y.len k3))
  rw [hwz] at hP hfin ⊢
  have p0 := box_cell hP 0
  have p1 := box_cell hP 1
  have p2 := box_cell hP 2
  have p3 := box_cell hP 3
  have p4 := box_cell hP 4
  have p5 := box_cell hP 5
  simp only [List.getElem?_toArray, List.getElem?_cons_succ, List.getElem?_cons_zero] at p0 p1 p2 p3 p4 p5
  exact bodyPost_ret (v := .agg #[.int .i64 t.op, .string t.s, .int .i64 t.n, .slice A1 t.l.len k1, .slice A2 t.x.len k2, .slice A3 t.y.len k3]) (by simp [results, Tryd.results72, go_sem, p0, p1, p2, p3, p4, p5]) rfl hfin

set_option maxRecDepth 100000 in
theorem st1_bad {W : World} {rb g N cT i o : Nat} {T : List Tok} (h : Rd W rb g N cT T i o) (b0 : isT (T.drop i) [97, 114, 114, 97, 121] = false) (b1 : isT (T.drop i) [105, 110, 112, 117, 116] = true) (p c : Nat) (hv : nameT (T.drop (i + 1)) = .bad p c) :
    Calls Tryd.prog 72 #[.pointer (some ⟨rb, 0, none⟩)] W (TP rb g N cT o T W (.bad p c)) := by
  have HXX := Lib.hid (fun W1 (h1 : Rd W1 rb g N cT T (i + 1) o) => (show Calls Tryd.prog 69 #[.pointer (some ⟨rb, 0, none⟩)] W1 (NP rb g N cT o T W1 (.bad p c)) from hv ▸ nam_any h1))
  clear hv
  have HT0 := Lib.hid (fun w1 (h1 : Rd w1 rb g N cT T i o) => (show Calls Tryd.prog 75 #[.pointer (some ⟨rb, 0, none⟩), .string ⟨#[97, 114, 114, 97, 121]⟩] w1 (fun e w' => e = .returned (.bool false) ∧ Below w1.heap.size w1 w') from take_no h1 [97, 114, 114, 97, 121] b0))
  have HT1 := Lib.hid (fun w1 (h1 : Rd w1 rb g N cT T i o) => (show Calls Tryd.prog 75 #[.pointer (some ⟨rb, 0, none⟩), .string ⟨#[105, 110, 112, 117, 116]⟩] w1 (fun e w' => e = .returned (.bool true) ∧ Rd w' rb g N cT T (i + 1) o ∧ Gr rb w1 w') from take_yes h1 [105, 110, 112, 117, 116] (by decide) b1))
  have hrl := h.rlt
  have hgl := h.tok.1
  have h0 := (h.alloc (.cells #[.int .i64 0, .string ⟨#[]⟩, .int .i64 0, .slice none 0 0, .slice none 0 0, .slice none 0 0] 45)).alloc (.cells #[.int .i64 0, .string ⟨#[]⟩, .int .i64 0, .slice none 0 0, .slice none 0 0, .slice none 0 0] 45)
  have B8 := (Below.heap_alloc (W.alloc (.cells #[.int .i64 0, .string ⟨#[]⟩, .int .i64 0, .slice none 0 0, .slice none 0 0, .slice none 0 0] 45)) (.cells #[.int .i64 0, .string ⟨#[]⟩, .int .i64 0, .slice none 0 0, .slice none 0 0, .slice none 0 0] 45) W.heap.size (by simp)).trans (heap_alloc_new W (.cells #[.int .i64 0, .string ⟨#[]⟩, .int .i64 0, .slice none 0 0, .slice none 0 0, .slice none 0 0] 45))
  have B7 := heap_alloc_new (W.alloc (.cells #[.int .i64 0, .string ⟨#[]⟩, .int .i64 0, .slice none 0 0, .slice none 0 0, .slice none 0 0] 45)) (.cells #[.int .i64 0, .string ⟨#[]⟩, .int .i64 0, .slice none 0 0, .slice none 0 0, .slice none 0 0] 45)
  rw [World.size_alloc] at B7
  have g0 := ((Gr.refl rb W).alloc (.cells #[.int .i64 0, .string ⟨#[]⟩, .int .i64 0, .slice none 0 0, .slice none 0 0, .slice none 0 0] 45)).alloc (.cells #[.int .i64 0, .string ⟨#[]⟩, .int .i64 0, .slice none 0 0, .slice none 0 0, .slice none 0 0] 45)
  have z0 : ((W.alloc (.cells #[.int .i64 0, .string ⟨#[]⟩, .int .i64 0, .slice none 0 0, .slice none 0 0, .slice none 0 0] 45)).alloc (.cells #[.int .i64 0, .string ⟨#[]⟩, .int .i64 0, .slice none 0 0, .slice none 0 0, .slice none 0 0] 45)).heap.size = W.heap.size + 2 := by simp
  clear h b0 b1
  go_enter Tryd.func72, Tryd.ntmps72
  go_upto_region 3 with fail
  obtain ⟨w0, hw0⟩ : ∃ W1, (W.alloc (.cells #[.int .i64 0, .string ⟨#[]⟩, .int .i64 0, .slice none 0 0, .slice none 0 0, .slice none 0 0] 45)).alloc (.cells #[.int .i64 0, .string ⟨#[]⟩, .int .i64 0, .slice none 0 0, .slice none 0 0, .slice none 0 0] 45) = W1 := ⟨_, rfl⟩
  rw [hw0] at h0 B8 B7 g0 z0 ⊢
  clear hw0
  obtain ⟨n3, hn3⟩ : ∃ n3, W.heap.size + 1 = n3 := ⟨_, rfl⟩
  rw [hn3] at B7 ⊢
  go_upto_region 7 with (first
    | (go_at_call 75; ((with_reducible refine (HT0.out _ h0).mono ?_); rintro e x0 ⟨rfl, e0⟩; have t0 := h0.below e0; have ee0 := e0))
    | (go_at_call 75; ((with_reducible refine (HT1.out _ t0).mono ?_); rintro e w2 ⟨rfl, h2, gq⟩; have gg := (Gr.of ee0).trans gq)))
  have z2 := gg.size
  have B7 := (gg.block (lt_heap B7) (by omega)).trans B7
  have B8 := (gg.block (lt_heap B8) (by omega)).trans B8
  have g2 := g0.trans gg
  clear gg
  clear h0 g0 HT0 HT1
  go_wp2_with (go_at_call 69; ((with_reducible refine (HXX.out _ h2).mono ?_); rintro e w5 ⟨rfl, g5⟩))
  exact ⟨rfl, rfl, g2.trans g5⟩

set_option maxRecDepth 100000 in
theorem st1_no {W : World} {rb g N cT i o : Nat} {T : List Tok} (h : Rd W rb g N cT T i o) (b0 : isT (T.drop i) [97, 114, 114, 97, 121] = false) (b1 : isT (T.drop i) [105, 110, 112, 117, 116] = true) (s : ByteArray) (r : List Tok) (hv : nameT (T.drop (i + 1)) = .ok s r) (bs : isT r [59] = false) :
    Calls Tryd.prog 72 #[.pointer (some ⟨rb, 0, none⟩)] W (TP rb g N cT o T W (.bad (hdT r).at_ 2)) := by
  have HXX := Lib.hid (fun W1 (h1 : Rd W1 rb g N cT T (i + 1) o) => (show Calls Tryd.prog 69 #[.pointer (some ⟨rb, 0, none⟩)] W1 (NP rb g N cT o T W1 (.ok s r)) from hv ▸ nam_any h1))
  have HW := Lib.hid (fun w2 i2 (h2 : Rd w2 rb g N cT T i2 o) (hd : T.drop i2 = r) => (show Calls Tryd.prog 68 #[.pointer (some ⟨rb, 0, none⟩), .string ⟨#[59]⟩] w2 (fun e w' => e = flt (hdT r).at_ 2 ∧ Below w2.heap.size w2 w') from want_no h2 [59] (by rw [hd]; exact bs) _ (by rw [hd])))
  clear hv bs
  have HT0 := Lib.hid (fun w1 (h1 : Rd w1 rb g N cT T i o) => (show Calls Tryd.prog 75 #[.pointer (some ⟨rb, 0, none⟩), .string ⟨#[97, 114, 114, 97, 121]⟩] w1 (fun e w' => e = .returned (.bool false) ∧ Below w1.heap.size w1 w') from take_no h1 [97, 114, 114, 97, 121] b0))
  have HT1 := Lib.hid (fun w1 (h1 : Rd w1 rb g N cT T i o) => (show Calls Tryd.prog 75 #[.pointer (some ⟨rb, 0, none⟩), .string ⟨#[105, 110, 112, 117, 116]⟩] w1 (fun e w' => e = .returned (.bool true) ∧ Rd w' rb g N cT T (i + 1) o ∧ Gr rb w1 w') from take_yes h1 [105, 110, 112, 117, 116] (by decide) b1))
  have hrl := h.rlt
  have hgl := h.tok.1
  have h0 := (h.alloc (.cells #[.int .i64 0, .string ⟨#[]⟩, .int .i64 0, .slice none 0 0, .slice none 0 0, .slice none 0 0] 45)).alloc (.cells #[.int .i64 0, .string ⟨#[]⟩, .int .i64 0, .slice none 0 0, .slice none 0 0, .slice none 0 0] 45)
  have B8 := (Below.heap_alloc (W.alloc (.cells #[.int .i64 0, .string ⟨#[]⟩, .int .i64 0, .slice none 0 0, .slice none 0 0, .slice none 0 0] 45)) (.cells #[.int .i64 0, .string ⟨#[]⟩, .int .i64 0, .slice none 0 0, .slice none 0 0, .slice none 0 0] 45) W.heap.size (by simp)).trans (heap_alloc_new W (.cells #[.int .i64 0, .string ⟨#[]⟩, .int .i64 0, .slice none 0 0, .slice none 0 0, .slice none 0 0] 45))
  have B7 := heap_alloc_new (W.alloc (.cells #[.int .i64 0, .string ⟨#[]⟩, .int .i64 0, .slice none 0 0, .slice none 0 0, .slice none 0 0] 45)) (.cells #[.int .i64 0, .string ⟨#[]⟩, .int .i64 0, .slice none 0 0, .slice none 0 0, .slice none 0 0] 45)
  rw [World.size_alloc] at B7
  have g0 := ((Gr.refl rb W).alloc (.cells #[.int .i64 0, .string ⟨#[]⟩, .int .i64 0, .slice none 0 0, .slice none 0 0, .slice none 0 0] 45)).alloc (.cells #[.int .i64 0, .string ⟨#[]⟩, .int .i64 0, .slice none 0 0, .slice none 0 0, .slice none 0 0] 45)
  have z0 : ((W.alloc (.cells #[.int .i64 0, .string ⟨#[]⟩, .int .i64 0, .slice none 0 0, .slice none 0 0, .slice none 0 0] 45)).alloc (.cells #[.int .i64 0, .string ⟨#[]⟩, .int .i64 0, .slice none 0 0, .slice none 0 0, .slice none 0 0] 45)).heap.size = W.heap.size + 2 := by simp
  clear h b0 b1
  go_enter Tryd.func72, Tryd.ntmps72
  go_upto_region 3 with fail
  obtain ⟨w0, hw0⟩ : ∃ W1, (W.alloc (.cells #[.int .i64 0, .string ⟨#[]⟩, .int .i64 0, .slice none 0 0, .slice none 0 0, .slice none 0 0] 45)).alloc (.cells #[.int .i64 0, .string ⟨#[]⟩, .int .i64 0, .slice none 0 0, .slice none 0 0, .slice none 0 0] 45) = W1 := ⟨_, rfl⟩
  rw [hw0] at h0 B8 B7 g0 z0 ⊢
  clear hw0
  obtain ⟨n3, hn3⟩ : ∃ n3, W.heap.size + 1 = n3 := ⟨_, rfl⟩
  rw [hn3] at B7 ⊢
  go_upto_region 7 with (first
    | (go_at_call 75; ((with_reducible refine (HT0.out _ h0).mono ?_); rintro e x0 ⟨rfl, e0⟩; have t0 := h0.below e0; have ee0 := e0))
    | (go_at_call 75; ((with_reducible refine (HT1.out _ t0).mono ?_); rintro e w2 ⟨rfl, h2, gq⟩; have gg := (Gr.of ee0).trans gq)))
  have z2 := gg.size
  have B7 := (gg.block (lt_heap B7) (by omega)).trans B7
  have B8 := (gg.block (lt_heap B8) (by omega)).trans B8
  have g2 := g0.trans gg
  clear gg
  clear h0 g0 HT0 HT1
  have HB7 := Lib.hid (fun w5 (g5 : Gr rb w2 w5) => (g5.block (lt_heap B7) (by omega)).trans B7)
  have HB8 := Lib.hid (fun w5 (g5 : Gr rb w2 w5) => (g5.block (lt_heap B8) (by omega)).trans B8)
  go_upto_region 18 with (go_at_call 69; ((with_reducible refine (HXX.out _ h2).mono ?_); rintro e w5 ⟨rfl, ⟨i5, h5, hd5⟩, g5, hsz⟩; have B7 := HB7.out w5 g5; have c0 := box_cell B7 0; have f0 := box_frozen B7 0; have c1 := box_cell B7 1; have f1 := box_frozen B7 1; have c2 := box_cell B7 2; have f2 := box_frozen B7 2; have c3 := box_cell B7 3; have f3 := box_frozen B7 3; have c4 := box_cell B7 4; have f4 := box_frozen B7 4; have c5 := box_cell B7 5; have f5 := box_frozen B7 5; simp only [List.getElem?_toArray, List.getElem?_cons_succ, List.getElem?_cons_zero] at c0 c1 c2 c3 c4 c5))
  have z5 := g5.size
  have hl7 := lt_heap B7
  have h6 : Rd (Proofs.YtaajolemjgdfnaaDoor.put6 w5 n3 (.int .i64 4) (.string s) (.int .i64 0) (.slice none 0 0) (.slice none 0 0) (.slice none 0 0)) rb g N cT T i5 o := h5.put6 (by omega) (by omega)
  have g6 : Gr rb W (Proofs.YtaajolemjgdfnaaDoor.put6 w5 n3 (.int .i64 4) (.string s) (.int .i64 0) (.slice none 0 0) (.slice none 0 0) (.slice none 0 0)) := (g2.trans g5).put6 (by omega)
  have B7 := put6_heap (a := .int .i64 4) (b := .string s) (c := .int .i64 0) (d := .slice none 0 0) (x := .slice none 0 0) (y := .slice none 0 0) B7
  have B8 : (Proofs.YtaajolemjgdfnaaDoor.put6 w5 n3 (.int .i64 4) (.string s) (.int .i64 0) (.slice none 0 0) (.slice none 0 0) (.slice none 0 0)).heap[W.heap.size]? = _ := (put6_block (show W.heap.size ≠ n3 by omega)).trans (HB8.out w5 g5)
  have zp : (Proofs.YtaajolemjgdfnaaDoor.put6 w5 n3 (.int .i64 4) (.string s) (.int .i64 0) (.slice none 0 0) (.slice none 0 0) (.slice none 0 0)).heap.size = w5.heap.size := put6_size
  obtain ⟨w6, hw6⟩ : ∃ W5, (Proofs.YtaajolemjgdfnaaDoor.put6 w5 n3 (.int .i64 4) (.string s) (.int .i64 0) (.slice none 0 0) (.slice none 0 0) (.slice none 0 0)) = W5 := ⟨_, rfl⟩
  show Code.wp _ _ _ _ (Proofs.YtaajolemjgdfnaaDoor.put6 w5 n3 (.int .i64 4) (.string s) (.int .i64 0) (.slice none 0 0) (.slice none 0 0) (.slice none 0 0))
  rw [hw6] at h6 g6 B7 B8 zp ⊢
  clear hw6 c0 c1 c2 c3 c4 c5 f0 f1 f2 f3 f4 f5 HB7 HB8 h5
  go_wp2_with (go_at_call 68; ((with_reducible refine (HW.out _ i5 h6 hd5).mono ?_); rintro e w7 ⟨rfl, e7⟩))
  exact ⟨rfl, rfl, g6.trans (Gr.of e7)⟩

set_option maxRecDepth 100000 in
theorem st1_yes {W : World} {rb g N cT i o : Nat} {T : List Tok} (h : Rd W rb g N cT T i o) (b0 : isT (T.drop i) [97, 114, 114, 97, 121] = false) (b1 : isT (T.drop i) [105, 110, 112, 117, 116] = true) (s : ByteArray) (r : List Tok) (hv : nameT (T.drop (i + 1)) = .ok s r) (bs : isT r [59] = true) :
    Calls Tryd.prog 72 #[.pointer (some ⟨rb, 0, none⟩)] W (TP rb g N cT o T W (.ok ⟨4, s, 0, .nil, .nil, .nil⟩ r.tail)) := by
  have HXX := Lib.hid (fun W1 (h1 : Rd W1 rb g N cT T (i + 1) o) => (show Calls Tryd.prog 69 #[.pointer (some ⟨rb, 0, none⟩)] W1 (NP rb g N cT o T W1 (.ok s r)) from hv ▸ nam_any h1))
  have HW := Lib.hid (fun w2 i2 (h2 : Rd w2 rb g N cT T i2 o) (hd : T.drop i2 = r) => (show Calls Tryd.prog 68 #[.pointer (some ⟨rb, 0, none⟩), .string ⟨#[59]⟩] w2 (fun e w' => e = .returned (.tuple #[]) ∧ Rd w' rb g N cT T (i2 + 1) o ∧ Gr rb w2 w') from want_yes h2 [59] (by decide) (by rw [hd]; exact bs)))
  clear hv bs
  have HT0 := Lib.hid (fun w1 (h1 : Rd w1 rb g N cT T i o) => (show Calls Tryd.prog 75 #[.pointer (some ⟨rb, 0, none⟩), .string ⟨#[97, 114, 114, 97, 121]⟩] w1 (fun e w' => e = .returned (.bool false) ∧ Below w1.heap.size w1 w') from take_no h1 [97, 114, 114, 97, 121] b0))
  have HT1 := Lib.hid (fun w1 (h1 : Rd w1 rb g N cT T i o) => (show Calls Tryd.prog 75 #[.pointer (some ⟨rb, 0, none⟩), .string ⟨#[105, 110, 112, 117, 116]⟩] w1 (fun e w' => e = .returned (.bool true) ∧ Rd w' rb g N cT T (i + 1) o ∧ Gr rb w1 w') from take_yes h1 [105, 110, 112, 117, 116] (by decide) b1))
  have hrl := h.rlt
  have hgl := h.tok.1
  have h0 := (h.alloc (.cells #[.int .i64 0, .string ⟨#[]⟩, .int .i64 0, .slice none 0 0, .slice none 0 0, .slice none 0 0] 45)).alloc (.cells #[.int .i64 0, .string ⟨#[]⟩, .int .i64 0, .slice none 0 0, .slice none 0 0, .slice none 0 0] 45)
  have B8 := (Below.heap_alloc (W.alloc (.cells #[.int .i64 0, .string ⟨#[]⟩, .int .i64 0, .slice none 0 0, .slice none 0 0, .slice none 0 0] 45)) (.cells #[.int .i64 0, .string ⟨#[]⟩, .int .i64 0, .slice none 0 0, .slice none 0 0, .slice none 0 0] 45) W.heap.size (by simp)).trans (heap_alloc_new W (.cells #[.int .i64 0, .string ⟨#[]⟩, .int .i64 0, .slice none 0 0, .slice none 0 0, .slice none 0 0] 45))
  have B7 := heap_alloc_new (W.alloc (.cells #[.int .i64 0, .string ⟨#[]⟩, .int .i64 0, .slice none 0 0, .slice none 0 0, .slice none 0 0] 45)) (.cells #[.int .i64 0, .string ⟨#[]⟩, .int .i64 0, .slice none 0 0, .slice none 0 0, .slice none 0 0] 45)
  rw [World.size_alloc] at B7
  have g0 := ((Gr.refl rb W).alloc (.cells #[.int .i64 0, .string ⟨#[]⟩, .int .i64 0, .slice none 0 0, .slice none 0 0, .slice none 0 0] 45)).alloc (.cells #[.int .i64 0, .string ⟨#[]⟩, .int .i64 0, .slice none 0 0, .slice none 0 0, .slice none 0 0] 45)
  have z0 : ((W.alloc (.cells #[.int .i64 0, .string ⟨#[]⟩, .int .i64 0, .slice none 0 0, .slice none 0 0, .slice none 0 0] 45)).alloc (.cells #[.int .i64 0, .string ⟨#[]⟩, .int .i64 0, .slice none 0 0, .slice none 0 0, .slice none 0 0] 45)).heap.size = W.heap.size + 2 := by simp
  clear h b0 b1
  go_enter Tryd.func72, Tryd.ntmps72
  go_upto_region 3 with fail
  obtain ⟨w0, hw0⟩ : ∃ W1, (W.alloc (.cells #[.int .i64 0, .string ⟨#[]⟩, .int .i64 0, .slice none 0 0, .slice none 0 0, .slice none 0 0] 45)).alloc (.cells #[.int .i64 0, .string ⟨#[]⟩, .int .i64 0, .slice none 0 0, .slice none 0 0, .slice none 0 0] 45) = W1 := ⟨_, rfl⟩
  rw [hw0] at h0 B8 B7 g0 z0 ⊢
  clear hw0
  obtain ⟨n3, hn3⟩ : ∃ n3, W.heap.size + 1 = n3 := ⟨_, rfl⟩
  rw [hn3] at B7 ⊢
  go_upto_region 7 with (first
    | (go_at_call 75; ((with_reducible refine (HT0.out _ h0).mono ?_); rintro e x0 ⟨rfl, e0⟩; have t0 := h0.below e0; have ee0 := e0))
    | (go_at_call 75; ((with_reducible refine (HT1.out _ t0).mono ?_); rintro e w2 ⟨rfl, h2, gq⟩; have gg := (Gr.of ee0).trans gq)))
  have z2 := gg.size
  have B7 := (gg.block (lt_heap B7) (by omega)).trans B7
  have B8 := (gg.block (lt_heap B8) (by omega)).trans B8
  have g2 := g0.trans gg
  clear gg
  clear h0 g0 HT0 HT1
  have HB7 := Lib.hid (fun w5 (g5 : Gr rb w2 w5) => (g5.block (lt_heap B7) (by omega)).trans B7)
  have HB8 := Lib.hid (fun w5 (g5 : Gr rb w2 w5) => (g5.block (lt_heap B8) (by omega)).trans B8)
  go_upto_region 18 with (go_at_call 69; ((with_reducible refine (HXX.out _ h2).mono ?_); rintro e w5 ⟨rfl, ⟨i5, h5, hd5⟩, g5, hsz⟩; have B7 := HB7.out w5 g5; have c0 := box_cell B7 0; have f0 := box_frozen B7 0; have c1 := box_cell B7 1; have f1 := box_frozen B7 1; have c2 := box_cell B7 2; have f2 := box_frozen B7 2; have c3 := box_cell B7 3; have f3 := box_frozen B7 3; have c4 := box_cell B7 4; have f4 := box_frozen B7 4; have c5 := box_cell B7 5; have f5 := box_frozen B7 5; simp only [List.getElem?_toArray, List.getElem?_cons_succ, List.getElem?_cons_zero] at c0 c1 c2 c3 c4 c5))
  have z5 := g5.size
  have hl7 := lt_heap B7
  have h6 : Rd (Proofs.YtaajolemjgdfnaaDoor.put6 w5 n3 (.int .i64 4) (.string s) (.int .i64 0) (.slice none 0 0) (.slice none 0 0) (.slice none 0 0)) rb g N cT T i5 o := h5.put6 (by omega) (by omega)
  have g6 : Gr rb W (Proofs.YtaajolemjgdfnaaDoor.put6 w5 n3 (.int .i64 4) (.string s) (.int .i64 0) (.slice none 0 0) (.slice none 0 0) (.slice none 0 0)) := (g2.trans g5).put6 (by omega)
  have B7 := put6_heap (a := .int .i64 4) (b := .string s) (c := .int .i64 0) (d := .slice none 0 0) (x := .slice none 0 0) (y := .slice none 0 0) B7
  have B8 : (Proofs.YtaajolemjgdfnaaDoor.put6 w5 n3 (.int .i64 4) (.string s) (.int .i64 0) (.slice none 0 0) (.slice none 0 0) (.slice none 0 0)).heap[W.heap.size]? = _ := (put6_block (show W.heap.size ≠ n3 by omega)).trans (HB8.out w5 g5)
  have zp : (Proofs.YtaajolemjgdfnaaDoor.put6 w5 n3 (.int .i64 4) (.string s) (.int .i64 0) (.slice none 0 0) (.slice none 0 0) (.slice none 0 0)).heap.size = w5.heap.size := put6_size
  obtain ⟨w6, hw6⟩ : ∃ W5, (Proofs.YtaajolemjgdfnaaDoor.put6 w5 n3 (.int .i64 4) (.string s) (.int .i64 0) (.slice none 0 0) (.slice none 0 0) (.slice none 0 0)) = W5 := ⟨_, rfl⟩
  show Code.wp _ _ _ _ (Proofs.YtaajolemjgdfnaaDoor.put6 w5 n3 (.int .i64 4) (.string s) (.int .i64 0) (.slice none 0 0) (.slice none 0 0) (.slice none 0 0))
  rw [hw6] at h6 g6 B7 B8 zp ⊢
  clear hw6 c0 c1 c2 c3 c4 c5 f0 f1 f2 f3 f4 f5 HB7 HB8 h5
  go_upto_region 19 with (go_at_call 68; ((with_reducible refine (HW.out _ i5 h6 hd5).mono ?_); rintro e w7 ⟨rfl, h7, g7⟩))
  have z7 := g7.size
  have hl7 := lt_heap B7
  have hl8 := lt_heap B8
  have B7 := (g7.block (lt_heap B7) (by omega)).trans B7
  have B8 := (g7.block (lt_heap B8) (by omega)).trans B8
  have g8 := g6.trans g7
  have hd7 : T.drop (i5 + 1) = r.tail := by rw [← hd5, drop_tail]
  have c0 := box_cell B8 0
  have f0 := box_frozen B8 0
  have d0 := box_cell B7 0
  have c1 := box_cell B8 1
  have f1 := box_frozen B8 1
  have d1 := box_cell B7 1
  have c2 := box_cell B8 2
  have f2 := box_frozen B8 2
  have d2 := box_cell B7 2
  have c3 := box_cell B8 3
  have f3 := box_frozen B8 3
  have d3 := box_cell B7 3
  have c4 := box_cell B8 4
  have f4 := box_frozen B8 4
  have d4 := box_cell B7 4
  have c5 := box_cell B8 5
  have f5 := box_frozen B8 5
  have d5 := box_cell B7 5
  simp only [List.getElem?_toArray, List.getElem?_cons_succ, List.getElem?_cons_zero] at c0 d0 c1 d1 c2 d2 c3 d3 c4 d4 c5 d5
  have hP := put6_heap (a := .int .i64 4) (b := .string s) (c := .int .i64 0) (d := .slice none 0 0) (x := .slice none 0 0) (y := .slice none 0 0) B8
  have hfin : TP rb g N cT o T W (.ok ⟨4, s, 0, .nil, .nil, .nil⟩ r.tail) (.returned (.agg #[.int .i64 4, .string s, .int .i64 0, .slice none 0 0, .slice none 0 0, .slice none 0 0])) (Proofs.YtaajolemjgdfnaaDoor.put6 w7 W.heap.size (.int .i64 4) (.string s) (.int .i64 0) (.slice none 0 0) (.slice none 0 0) (.slice none 0 0)) :=
    ⟨⟨_, rfl, _, _, _, rfl, ex_nil _ _, sx_nil _ _, sx_nil _ _, (show I64 4 by unfold I64; omega), i64_0, hsz⟩, ⟨i5 + 1, h7.put6 (by omega) (by omega), hd7⟩, g8.put6 (Nat.le_refl _)⟩
  go_wp2
  obtain ⟨wz, hwz⟩ : ∃ W5, (Proofs.YtaajolemjgdfnaaDoor.put6 w7 W.heap.size (.int .i64 4) (.string s) (.int .i64 0) (.slice none 0 0) (.slice none 0 0) (.slice none 0 0)) = W5 := ⟨_, rfl⟩
  show bodyPost _ _ _ _ _ (Proofs.YtaajolemjgdfnaaDoor.put6 w7 W.heap.size (.int .i64 4) (.string s) (.int .i64 0) (.slice none 0 0) (.slice none 0 0) (.slice none 0 0))
  rw [hwz] at hP hfin ⊢
  have p0 := box_cell hP 0
  have p1 := box_cell hP 1
  have p2 := box_cell hP 2
  have p3 := box_cell hP 3
  have p4 := box_cell hP 4
  have p5 := box_cell hP 5
  simp only [List.getElem?_toArray, List.getElem?_cons_succ, List.getElem?_cons_zero] at p0 p1 p2 p3 p4 p5
  exact bodyPost_ret (v := .agg #[.int .i64 4, .string s, .int .i64 0, .slice none 0 0, .slice none 0 0, .slice none 0 0]) (by simp [results, Tryd.results72, go_sem, p0, p1, p2, p3, p4, p5]) rfl hfin

set_option maxRecDepth 100000 in
theorem st0_bad {W : World} {rb g N cT i o : Nat} {T : List Tok} (h : Rd W rb g N cT T i o) (b0 : isT (T.drop i) [97, 114, 114, 97, 121] = true) (p c : Nat) (hv : nameT (T.drop (i + 1)) = .bad p c) :
    Calls Tryd.prog 72 #[.pointer (some ⟨rb, 0, none⟩)] W (TP rb g N cT o T W (.bad p c)) := by
  have HXX := Lib.hid (fun W1 (h1 : Rd W1 rb g N cT T (i + 1) o) => (show Calls Tryd.prog 69 #[.pointer (some ⟨rb, 0, none⟩)] W1 (NP rb g N cT o T W1 (.bad p c)) from hv ▸ nam_any h1))
  clear hv
  have HT0 := Lib.hid (fun w1 (h1 : Rd w1 rb g N cT T i o) => (show Calls Tryd.prog 75 #[.pointer (some ⟨rb, 0, none⟩), .string ⟨#[97, 114, 114, 97, 121]⟩] w1 (fun e w' => e = .returned (.bool true) ∧ Rd w' rb g N cT T (i + 1) o ∧ Gr rb w1 w') from take_yes h1 [97, 114, 114, 97, 121] (by decide) b0))
  have hrl := h.rlt
  have hgl := h.tok.1
  have h0 := (h.alloc (.cells #[.int .i64 0, .string ⟨#[]⟩, .int .i64 0, .slice none 0 0, .slice none 0 0, .slice none 0 0] 45)).alloc (.cells #[.int .i64 0, .string ⟨#[]⟩, .int .i64 0, .slice none 0 0, .slice none 0 0, .slice none 0 0] 45)
  have B8 := (Below.heap_alloc (W.alloc (.cells #[.int .i64 0, .string ⟨#[]⟩, .int .i64 0, .slice none 0 0, .slice none 0 0, .slice none 0 0] 45)) (.cells #[.int .i64 0, .string ⟨#[]⟩, .int .i64 0, .slice none 0 0, .slice none 0 0, .slice none 0 0] 45) W.heap.size (by simp)).trans (heap_alloc_new W (.cells #[.int .i64 0, .string ⟨#[]⟩, .int .i64 0, .slice none 0 0, .slice none 0 0, .slice none 0 0] 45))
  have B7 := heap_alloc_new (W.alloc (.cells #[.int .i64 0, .string ⟨#[]⟩, .int .i64 0, .slice none 0 0, .slice none 0 0, .slice none 0 0] 45)) (.cells #[.int .i64 0, .string ⟨#[]⟩, .int .i64 0, .slice none 0 0, .slice none 0 0, .slice none 0 0] 45)
  rw [World.size_alloc] at B7
  have g0 := ((Gr.refl rb W).alloc (.cells #[.int .i64 0, .string ⟨#[]⟩, .int .i64 0, .slice none 0 0, .slice none 0 0, .slice none 0 0] 45)).alloc (.cells #[.int .i64 0, .string ⟨#[]⟩, .int .i64 0, .slice none 0 0, .slice none 0 0, .slice none 0 0] 45)
  have z0 : ((W.alloc (.cells #[.int .i64 0, .string ⟨#[]⟩, .int .i64 0, .slice none 0 0, .slice none 0 0, .slice none 0 0] 45)).alloc (.cells #[.int .i64 0, .string ⟨#[]⟩, .int .i64 0, .slice none 0 0, .slice none 0 0, .slice none 0 0] 45)).heap.size = W.heap.size + 2 := by simp
  clear h b0
  go_enter Tryd.func72, Tryd.ntmps72
  go_upto_region 3 with fail
  obtain ⟨w0, hw0⟩ : ∃ W1, (W.alloc (.cells #[.int .i64 0, .string ⟨#[]⟩, .int .i64 0, .slice none 0 0, .slice none 0 0, .slice none 0 0] 45)).alloc (.cells #[.int .i64 0, .string ⟨#[]⟩, .int .i64 0, .slice none 0 0, .slice none 0 0, .slice none 0 0] 45) = W1 := ⟨_, rfl⟩
  rw [hw0] at h0 B8 B7 g0 z0 ⊢
  clear hw0
  obtain ⟨n3, hn3⟩ : ∃ n3, W.heap.size + 1 = n3 := ⟨_, rfl⟩
  rw [hn3] at B7 ⊢
  go_upto_region 4 with (first
    | (go_at_call 75; ((with_reducible refine (HT0.out _ h0).mono ?_); rintro e w2 ⟨rfl, h2, gq⟩; have gg := gq)))
  have z2 := gg.size
  have B7 := (gg.block (lt_heap B7) (by omega)).trans B7
  have B8 := (gg.block (lt_heap B8) (by omega)).trans B8
  have g2 := g0.trans gg
  clear gg
  clear h0 g0 HT0
  go_wp2_with (go_at_call 69; ((with_reducible refine (HXX.out _ h2).mono ?_); rintro e w5 ⟨rfl, g5⟩))
  exact ⟨rfl, rfl, g2.trans g5⟩

set_option maxRecDepth 100000 in
theorem st0_nbad {W : World} {rb g N cT i o : Nat} {T : List Tok} (h : Rd W rb g N cT T i o) (b0 : isT (T.drop i) [97, 114, 114, 97, 121] = true) (s : ByteArray) (r0 : List Tok) (hv : nameT (T.drop (i + 1)) = .ok s r0) (p c : Nat) (hu : numT 1 4096 r0 = .bad p c) :
    Calls Tryd.prog 72 #[.pointer (some ⟨rb, 0, none⟩)] W (TP rb g N cT o T W (.bad p c)) := by
  have HXX := Lib.hid (fun W1 (h1 : Rd W1 rb g N cT T (i + 1) o) => (show Calls Tryd.prog 69 #[.pointer (some ⟨rb, 0, none⟩)] W1 (NP rb g N cT o T W1 (.ok s r0)) from hv ▸ nam_any h1))
  have HU := Lib.hid (fun W1 i1 (h1 : Rd W1 rb g N cT T i1 o) (hd : T.drop i1 = r0) => (show Calls Tryd.prog 78 #[.pointer (some ⟨rb, 0, none⟩), .int .i64 1, .int .i64 4096] W1 (UP rb g N cT o T W1 (.bad p c)) from hu ▸ hd ▸ numb_any h1 1 4096))
  clear hv hu
  have HT0 := Lib.hid (fun w1 (h1 : Rd w1 rb g N cT T i o) => (show Calls Tryd.prog 75 #[.pointer (some ⟨rb, 0, none⟩), .string ⟨#[97, 114, 114, 97, 121]⟩] w1 (fun e w' => e = .returned (.bool true) ∧ Rd w' rb g N cT T (i + 1) o ∧ Gr rb w1 w') from take_yes h1 [97, 114, 114, 97, 121] (by decide) b0))
  have hrl := h.rlt
  have hgl := h.tok.1
  have h0 := (h.alloc (.cells #[.int .i64 0, .string ⟨#[]⟩, .int .i64 0, .slice none 0 0, .slice none 0 0, .slice none 0 0] 45)).alloc (.cells #[.int .i64 0, .string ⟨#[]⟩, .int .i64 0, .slice none 0 0, .slice none 0 0, .slice none 0 0] 45)
  have B8 := (Below.heap_alloc (W.alloc (.cells #[.int .i64 0, .string ⟨#[]⟩, .int .i64 0, .slice none 0 0, .slice none 0 0, .slice none 0 0] 45)) (.cells #[.int .i64 0, .string ⟨#[]⟩, .int .i64 0, .slice none 0 0, .slice none 0 0, .slice none 0 0] 45) W.heap.size (by simp)).trans (heap_alloc_new W (.cells #[.int .i64 0, .string ⟨#[]⟩, .int .i64 0, .slice none 0 0, .slice none 0 0, .slice none 0 0] 45))
  have B7 := heap_alloc_new (W.alloc (.cells #[.int .i64 0, .string ⟨#[]⟩, .int .i64 0, .slice none 0 0, .slice none 0 0, .slice none 0 0] 45)) (.cells #[.int .i64 0, .string ⟨#[]⟩, .int .i64 0, .slice none 0 0, .slice none 0 0, .slice none 0 0] 45)
  rw [World.size_alloc] at B7
  have g0 := ((Gr.refl rb W).alloc (.cells #[.int .i64 0, .string ⟨#[]⟩, .int .i64 0, .slice none 0 0, .slice none 0 0, .slice none 0 0] 45)).alloc (.cells #[.int .i64 0, .string ⟨#[]⟩, .int .i64 0, .slice none 0 0, .slice none 0 0, .slice none 0 0] 45)
  have z0 : ((W.alloc (.cells #[.int .i64 0, .string ⟨#[]⟩, .int .i64 0, .slice none 0 0, .slice none 0 0, .slice none 0 0] 45)).alloc (.cells #[.int .i64 0, .string ⟨#[]⟩, .int .i64 0, .slice none 0 0, .slice none 0 0, .slice none 0 0] 45)).heap.size = W.heap.size + 2 := by simp
  clear h b0
  go_enter Tryd.func72, Tryd.ntmps72
  go_upto_region 3 with fail
  obtain ⟨w0, hw0⟩ : ∃ W1, (W.alloc (.cells #[.int .i64 0, .string ⟨#[]⟩, .int .i64 0, .slice none 0 0, .slice none 0 0, .slice none 0 0] 45)).alloc (.cells #[.int .i64 0, .string ⟨#[]⟩, .int .i64 0, .slice none 0 0, .slice none 0 0, .slice none 0 0] 45) = W1 := ⟨_, rfl⟩
  rw [hw0] at h0 B8 B7 g0 z0 ⊢
  clear hw0
  obtain ⟨n3, hn3⟩ : ∃ n3, W.heap.size + 1 = n3 := ⟨_, rfl⟩
  rw [hn3] at B7 ⊢
  go_upto_region 4 with (first
    | (go_at_call 75; ((with_reducible refine (HT0.out _ h0).mono ?_); rintro e w2 ⟨rfl, h2, gq⟩; have gg := gq)))
  have z2 := gg.size
  have B7 := (gg.block (lt_heap B7) (by omega)).trans B7
  have B8 := (gg.block (lt_heap B8) (by omega)).trans B8
  have g2 := g0.trans gg
  clear gg
  clear h0 g0 HT0
  have HB7 := Lib.hid (fun w5 (g5 : Gr rb w2 w5) => (g5.block (lt_heap B7) (by omega)).trans B7)
  have HB8 := Lib.hid (fun w5 (g5 : Gr rb w2 w5) => (g5.block (lt_heap B8) (by omega)).trans B8)
  go_upto_region 5 with (go_at_call 69; ((with_reducible refine (HXX.out _ h2).mono ?_); rintro e w5 ⟨rfl, ⟨i4, h5, hd4⟩, g5, hsz⟩; have B7 := HB7.out w5 g5; have c0 := box_cell B7 0; have f0 := box_frozen B7 0; have c1 := box_cell B7 1; have f1 := box_frozen B7 1; have c2 := box_cell B7 2; have f2 := box_frozen B7 2; have c3 := box_cell B7 3; have f3 := box_frozen B7 3; have c4 := box_cell B7 4; have f4 := box_frozen B7 4; have c5 := box_cell B7 5; have f5 := box_frozen B7 5; simp only [List.getElem?_toArray, List.getElem?_cons_succ, List.getElem?_cons_zero] at c0 c1 c2 c3 c4 c5))
  have z5 := g5.size
  have hl7 := lt_heap B7
  have h4 : Rd (Proofs.YtaajolemjgdfnaaDoor.put6 w5 n3 (.int .i64 3) (.string s) (.int .i64 0) (.slice none 0 0) (.slice none 0 0) (.slice none 0 0)) rb g N cT T i4 o := h5.put6 (by omega) (by omega)
  have g4 : Gr rb W (Proofs.YtaajolemjgdfnaaDoor.put6 w5 n3 (.int .i64 3) (.string s) (.int .i64 0) (.slice none 0 0) (.slice none 0 0) (.slice none 0 0)) := (g2.trans g5).put6 (by omega)
  have B7 := put6_heap (a := .int .i64 3) (b := .string s) (c := .int .i64 0) (d := .slice none 0 0) (x := .slice none 0 0) (y := .slice none 0 0) B7
  have B8 : (Proofs.YtaajolemjgdfnaaDoor.put6 w5 n3 (.int .i64 3) (.string s) (.int .i64 0) (.slice none 0 0) (.slice none 0 0) (.slice none 0 0)).heap[W.heap.size]? = _ := (put6_block (show W.heap.size ≠ n3 by omega)).trans (HB8.out w5 g5)
  have zp : (Proofs.YtaajolemjgdfnaaDoor.put6 w5 n3 (.int .i64 3) (.string s) (.int .i64 0) (.slice none 0 0) (.slice none 0 0) (.slice none 0 0)).heap.size = w5.heap.size := put6_size
  obtain ⟨w4, hw6⟩ : ∃ W5, (Proofs.YtaajolemjgdfnaaDoor.put6 w5 n3 (.int .i64 3) (.string s) (.int .i64 0) (.slice none 0 0) (.slice none 0 0) (.slice none 0 0)) = W5 := ⟨_, rfl⟩
  show Code.wp _ _ _ _ (Proofs.YtaajolemjgdfnaaDoor.put6 w5 n3 (.int .i64 3) (.string s) (.int .i64 0) (.slice none 0 0) (.slice none 0 0) (.slice none 0 0))
  rw [hw6] at h4 g4 B7 B8 zp ⊢
  clear hw6 c0 c1 c2 c3 c4 c5 f0 f1 f2 f3 f4 f5 HB7 HB8 h5
  go_wp2_with (go_at_call 78; ((with_reducible refine (HU.out _ i4 h4 hd4).mono ?_); rintro e w6 ⟨rfl, g6⟩))
  exact ⟨rfl, rfl, g4.trans g6⟩

set_option maxRecDepth 100000 in
theorem st0_no {W : World} {rb g N cT i o : Nat} {T : List Tok} (h : Rd W rb g N cT T i o) (b0 : isT (T.drop i) [97, 114, 114, 97, 121] = true) (s : ByteArray) (r0 r : List Tok) (kv : Int) (hv : nameT (T.drop (i + 1)) = .ok s r0) (hu : numT 1 4096 r0 = .ok kv r) (bs : isT r [59] = false) :
    Calls Tryd.prog 72 #[.pointer (some ⟨rb, 0, none⟩)] W (TP rb g N cT o T W (.bad (hdT r).at_ 2)) := by
  have HXX := Lib.hid (fun W1 (h1 : Rd W1 rb g N cT T (i + 1) o) => (show Calls Tryd.prog 69 #[.pointer (some ⟨rb, 0, none⟩)] W1 (NP rb g N cT o T W1 (.ok s r0)) from hv ▸ nam_any h1))
  have HU := Lib.hid (fun W1 i1 (h1 : Rd W1 rb g N cT T i1 o) (hd : T.drop i1 = r0) => (show Calls Tryd.prog 78 #[.pointer (some ⟨rb, 0, none⟩), .int .i64 1, .int .i64 4096] W1 (UP rb g N cT o T W1 (.ok kv r)) from hu ▸ hd ▸ numb_any h1 1 4096))
  have hk64 : I64 kv := num_i64 hu
  have HW := Lib.hid (fun w2 i2 (h2 : Rd w2 rb g N cT T i2 o) (hd : T.drop i2 = r) => (show Calls Tryd.prog 68 #[.pointer (some ⟨rb, 0, none⟩), .string ⟨#[59]⟩] w2 (fun e w' => e = flt (hdT r).at_ 2 ∧ Below w2.heap.size w2 w') from want_no h2 [59] (by rw [hd]; exact bs) _ (by rw [hd])))
  clear hv hu bs
  have HT0 := Lib.hid (fun w1 (h1 : Rd w1 rb g N cT T i o) => (show Calls Tryd.prog 75 #[.pointer (some ⟨rb, 0, none⟩), .string ⟨#[97, 114, 114, 97, 121]⟩] w1 (fun e w' => e = .returned (.bool true) ∧ Rd w' rb g N cT T (i + 1) o ∧ Gr rb w1 w') from take_yes h1 [97, 114, 114, 97, 121] (by decide) b0))
  have hrl := h.rlt
  have hgl := h.tok.1
  have h0 := (h.alloc (.cells #[.int .i64 0, .string ⟨#[]⟩, .int .i64 0, .slice none 0 0, .slice none 0 0, .slice none 0 0] 45)).alloc (.cells #[.int .i64 0, .string ⟨#[]⟩, .int .i64 0, .slice none 0 0, .slice none 0 0, .slice none 0 0] 45)
  have B8 := (Below.heap_alloc (W.alloc (.cells #[.int .i64 0, .string ⟨#[]⟩, .int .i64 0, .slice none 0 0, .slice none 0 0, .slice none 0 0] 45)) (.cells #[.int .i64 0, .string ⟨#[]⟩, .int .i64 0, .slice none 0 0, .slice none 0 0, .slice none 0 0] 45) W.heap.size (by simp)).trans (heap_alloc_new W (.cells #[.int .i64 0, .string ⟨#[]⟩, .int .i64 0, .slice none 0 0, .slice none 0 0, .slice none 0 0] 45))
  have B7 := heap_alloc_new (W.alloc (.cells #[.int .i64 0, .string ⟨#[]⟩, .int .i64 0, .slice none 0 0, .slice none 0 0, .slice none 0 0] 45)) (.cells #[.int .i64 0, .string ⟨#[]⟩, .int .i64 0, .slice none 0 0, .slice none 0 0, .slice none 0 0] 45)
  rw [World.size_alloc] at B7
  have g0 := ((Gr.refl rb W).alloc (.cells #[.int .i64 0, .string ⟨#[]⟩, .int .i64 0, .slice none 0 0, .slice none 0 0, .slice none 0 0] 45)).alloc (.cells #[.int .i64 0, .string ⟨#[]⟩, .int .i64 0, .slice none 0 0, .slice none 0 0, .slice none 0 0] 45)
  have z0 : ((W.alloc (.cells #[.int .i64 0, .string ⟨#[]⟩, .int .i64 0, .slice none 0 0, .slice none 0 0, .slice none 0 0] 45)).alloc (.cells #[.int .i64 0, .string ⟨#[]⟩, .int .i64 0, .slice none 0 0, .slice none 0 0, .slice none 0 0] 45)).heap.size = W.heap.size + 2 := by simp
  clear h b0
  go_enter Tryd.func72, Tryd.ntmps72
  go_upto_region 3 with fail
  obtain ⟨w0, hw0⟩ : ∃ W1, (W.alloc (.cells #[.int .i64 0, .string ⟨#[]⟩, .int .i64 0, .slice none 0 0, .slice none 0 0, .slice none 0 0] 45)).alloc (.cells #[.int .i64 0, .string ⟨#[]⟩, .int .i64 0, .slice none 0 0, .slice none 0 0, .slice none 0 0] 45) = W1 := ⟨_, rfl⟩
  rw [hw0] at h0 B8 B7 g0 z0 ⊢
  clear hw0
  obtain ⟨n3, hn3⟩ : ∃ n3, W.heap.size + 1 = n3 := ⟨_, rfl⟩
  rw [hn3] at B7 ⊢
  go_upto_region 4 with (first
    | (go_at_call 75; ((with_reducible refine (HT0.out _ h0).mono ?_); rintro e w2 ⟨rfl, h2, gq⟩; have gg := gq)))
  have z2 := gg.size
  have B7 := (gg.block (lt_heap B7) (by omega)).trans B7
  have B8 := (gg.block (lt_heap B8) (by omega)).trans B8
  have g2 := g0.trans gg
  clear gg
  clear h0 g0 HT0
  have HB7 := Lib.hid (fun w5 (g5 : Gr rb w2 w5) => (g5.block (lt_heap B7) (by omega)).trans B7)
  have HB8 := Lib.hid (fun w5 (g5 : Gr rb w2 w5) => (g5.block (lt_heap B8) (by omega)).trans B8)
  go_upto_region 5 with (go_at_call 69; ((with_reducible refine (HXX.out _ h2).mono ?_); rintro e w5 ⟨rfl, ⟨i4, h5, hd4⟩, g5, hsz⟩; have B7 := HB7.out w5 g5; have c0 := box_cell B7 0; have f0 := box_frozen B7 0; have c1 := box_cell B7 1; have f1 := box_frozen B7 1; have c2 := box_cell B7 2; have f2 := box_frozen B7 2; have c3 := box_cell B7 3; have f3 := box_frozen B7 3; have c4 := box_cell B7 4; have f4 := box_frozen B7 4; have c5 := box_cell B7 5; have f5 := box_frozen B7 5; simp only [List.getElem?_toArray, List.getElem?_cons_succ, List.getElem?_cons_zero] at c0 c1 c2 c3 c4 c5))
  have z5 := g5.size
  have hl7 := lt_heap B7
  have h4 : Rd (Proofs.YtaajolemjgdfnaaDoor.put6 w5 n3 (.int .i64 3) (.string s) (.int .i64 0) (.slice none 0 0) (.slice none 0 0) (.slice none 0 0)) rb g N cT T i4 o := h5.put6 (by omega) (by omega)
  have g4 : Gr rb W (Proofs.YtaajolemjgdfnaaDoor.put6 w5 n3 (.int .i64 3) (.string s) (.int .i64 0) (.slice none 0 0) (.slice none 0 0) (.slice none 0 0)) := (g2.trans g5).put6 (by omega)
  have B7 := put6_heap (a := .int .i64 3) (b := .string s) (c := .int .i64 0) (d := .slice none 0 0) (x := .slice none 0 0) (y := .slice none 0 0) B7
  have B8 : (Proofs.YtaajolemjgdfnaaDoor.put6 w5 n3 (.int .i64 3) (.string s) (.int .i64 0) (.slice none 0 0) (.slice none 0 0) (.slice none 0 0)).heap[W.heap.size]? = _ := (put6_block (show W.heap.size ≠ n3 by omega)).trans (HB8.out w5 g5)
  have zp : (Proofs.YtaajolemjgdfnaaDoor.put6 w5 n3 (.int .i64 3) (.string s) (.int .i64 0) (.slice none 0 0) (.slice none 0 0) (.slice none 0 0)).heap.size = w5.heap.size := put6_size
  obtain ⟨w4, hw6⟩ : ∃ W5, (Proofs.YtaajolemjgdfnaaDoor.put6 w5 n3 (.int .i64 3) (.string s) (.int .i64 0) (.slice none 0 0) (.slice none 0 0) (.slice none 0 0)) = W5 := ⟨_, rfl⟩
  show Code.wp _ _ _ _ (Proofs.YtaajolemjgdfnaaDoor.put6 w5 n3 (.int .i64 3) (.string s) (.int .i64 0) (.slice none 0 0) (.slice none 0 0) (.slice none 0 0))
  rw [hw6] at h4 g4 B7 B8 zp ⊢
  clear hw6 c0 c1 c2 c3 c4 c5 f0 f1 f2 f3 f4 f5 HB7 HB8 h5
  have HB7 := Lib.hid (fun w5 (g5 : Gr rb w4 w5) => (g5.block (lt_heap B7) (by omega)).trans B7)
  have HB8 := Lib.hid (fun w5 (g5 : Gr rb w4 w5) => (g5.block (lt_heap B8) (by omega)).trans B8)
  go_upto_region 18 with (go_at_call 78; ((with_reducible refine (HU.out _ i4 h4 hd4).mono ?_); rintro e v5 ⟨rfl, ⟨i5, h5, hd5⟩, g5⟩; have c2 := box_cell (HB7.out v5 g5) 2; have f2 := box_frozen (HB7.out v5 g5) 2; simp only [List.getElem?_toArray, List.getElem?_cons_succ, List.getElem?_cons_zero] at c2))
  have z5b := g5.size
  have hl7b := lt_heap (HB7.out v5 g5)
  have hl8b := lt_heap (HB8.out v5 g5)
  have h6 := h5.set (b := n3) (j := 2) (.int .i64 kv) (by omega) (by omega)
  have g6 := (g4.trans g5).setNew (j := 2) (.int .i64 kv) (show W.heap.size ≤ n3 by omega)
  have B7 := (set6_at (x := .int .i64 kv) (HB7.out v5 g5)).2.1
  have B8 := (Below.heap_setCell v5 ⟨n3, 2, none⟩ (.int .i64 kv) W.heap.size (show W.heap.size ≠ n3 by omega)).trans (HB8.out v5 g5)
  have HK := Lib.hid (fun k (hk : k ≠ n3) => Below.heap_setCell v5 ⟨n3, 2, none⟩ (.int .i64 kv) k hk)
  have zz : (v5.setCell ⟨n3, 2, none⟩ (.int .i64 kv)).heap.size = v5.heap.size := by simp
  obtain ⟨w6, hw6⟩ : ∃ W1, (v5.setCell ⟨n3, 2, none⟩ (.int .i64 kv)) = W1 := ⟨_, rfl⟩
  rw [hw6] at h6 g6 B7 B8 HK zz ⊢
  clear hw6
  clear c2 f2 HK HB7 HB8 h5
  go_wp2_with (go_at_call 68; ((with_reducible refine (HW.out _ i5 h6 hd5).mono ?_); rintro e w7 ⟨rfl, e7⟩))
  exact ⟨rfl, rfl, g6.trans (Gr.of e7)⟩

set_option maxRecDepth 100000 in
theorem st0_yes {W : World} {rb g N cT i o : Nat} {T : List Tok} (h : Rd W rb g N cT T i o) (b0 : isT (T.drop i) [97, 114, 114, 97, 121] = true) (s : ByteArray) (r0 r : List Tok) (kv : Int) (hv : nameT (T.drop (i + 1)) = .ok s r0) (hu : numT 1 4096 r0 = .ok kv r) (bs : isT r [59] = true) :
    Calls Tryd.prog 72 #[.pointer (some ⟨rb, 0, none⟩)] W (TP rb g N cT o T W (.ok ⟨3, s, kv, .nil, .nil, .nil⟩ r.tail)) := by
  have HXX := Lib.hid (fun W1 (h1 : Rd W1 rb g N cT T (i + 1) o) => (show Calls Tryd.prog 69 #[.pointer (some ⟨rb, 0, none⟩)] W1 (NP rb g N cT o T W1 (.ok s r0)) from hv ▸ nam_any h1))
  have HU := Lib.hid (fun W1 i1 (h1 : Rd W1 rb g N cT T i1 o) (hd : T.drop i1 = r0) => (show Calls Tryd.prog 78 #[.pointer (some ⟨rb, 0, none⟩), .int .i64 1, .int .i64 4096] W1 (UP rb g N cT o T W1 (.ok kv r)) from hu ▸ hd ▸ numb_any h1 1 4096))
  have hk64 : I64 kv := num_i64 hu
  have HW := Lib.hid (fun w2 i2 (h2 : Rd w2 rb g N cT T i2 o) (hd : T.drop i2 = r) => (show Calls Tryd.prog 68 #[.pointer (some ⟨rb, 0, none⟩), .string ⟨#[59]⟩] w2 (fun e w' => e = .returned (.tuple #[]) ∧ Rd w' rb g N cT T (i2 + 1) o ∧ Gr rb w2 w') from want_yes h2 [59] (by decide) (by rw [hd]; exact bs)))
  clear hv hu bs
  have HT0 := Lib.hid (fun w1 (h1 : Rd w1 rb g N cT T i o) => (show Calls Tryd.prog 75 #[.pointer (some ⟨rb, 0, none⟩), .string ⟨#[97, 114, 114, 97, 121]⟩] w1 (fun e w' => e = .returned (.bool true) ∧ Rd w' rb g N cT T (i + 1) o ∧ Gr rb w1 w') from take_yes h1 [97, 114, 114, 97, 121] (by decide) b0))
  have hrl := h.rlt
  have hgl := h.tok.1
  have h0 := (h.alloc (.cells #[.int .i64 0, .string ⟨#[]⟩, .int .i64 0, .slice none 0 0, .slice none 0 0, .slice none 0 0] 45)).alloc (.cells #[.int .i64 0, .string ⟨#[]⟩, .int .i64 0, .slice none 0 0, .slice none 0 0, .slice none 0 0] 45)
  have B8 := (Below.heap_alloc (W.alloc (.cells #[.int .i64 0, .string ⟨#[]⟩, .int .i64 0, .slice none 0 0, .slice none 0 0, .slice none 0 0] 45)) (.cells #[.int .i64 0, .string ⟨#[]⟩, .int .i64 0, .slice none 0 0, .slice none 0 0, .slice none 0 0] 45) W.heap.size (by simp)).trans (heap_alloc_new W (.cells #[.int .i64 0, .string ⟨#[]⟩, .int .i64 0, .slice none 0 0, .slice none 0 0, .slice none 0 0] 45))
  have B7 := heap_alloc_new (W.alloc (.cells #[.int .i64 0, .string ⟨#[]⟩, .int .i64 0, .slice none 0 0, .slice none 0 0, .slice none 0 0] 45)) (.cells #[.int .i64 0, .string ⟨#[]⟩, .int .i64 0, .slice none 0 0, .slice none 0 0, .slice none 0 0] 45)
  rw [World.size_alloc] at B7
  have g0 := ((Gr.refl rb W).alloc (.cells #[.int .i64 0, .string ⟨#[]⟩, .int .i64 0, .slice none 0 0, .slice none 0 0, .slice none 0 0] 45)).alloc (.cells #[.int .i64 0, .string ⟨#[]⟩, .int .i64 0, .slice none 0 0, .slice none 0 0, .slice none 0 0] 45)
  have z0 : ((W.alloc (.cells #[.int .i64 0, .string ⟨#[]⟩, .int .i64 0, .slice none 0 0, .slice none 0 0, .slice none 0 0] 45)).alloc (.cells #[.int .i64 0, .string ⟨#[]⟩, .int .i64 0, .slice none 0 0, .slice none 0 0, .slice none 0 0] 45)).heap.size = W.heap.size + 2 := by simp
  clear h b0
  go_enter Tryd.func72, Tryd.ntmps72
  go_upto_region 3 with fail
  obtain ⟨w0, hw0⟩ : ∃ W1, (W.alloc (.cells #[.int .i64 0, .string ⟨#[]⟩, .int .i64 0, .slice none 0 0, .slice none 0 0, .slice none 0 0] 45)).alloc (.cells #[.int .i64 0, .string ⟨#[]⟩, .int .i64 0, .slice none 0 0, .slice none 0 0, .slice none 0 0] 45) = W1 := ⟨_, rfl⟩
  rw [hw0] at h0 B8 B7 g0 z0 ⊢
  clear hw0
  obtain ⟨n3, hn3⟩ : ∃ n3, W.heap.size + 1 = n3 := ⟨_, rfl⟩
  rw [hn3] at B7 ⊢
  go_upto_region 4 with (first
    | (go_at_call 75; ((with_reducible refine (HT0.out _ h0).mono ?_); rintro e w2 ⟨rfl, h2, gq⟩; have gg := gq)))
  have z2 := gg.size
  have B7 := (gg.block (lt_heap B7) (by omega)).trans B7
  have B8 := (gg.block (lt_heap B8) (by omega)).trans B8
  have g2 := g0.trans gg
  clear gg
  clear h0 g0 HT0
  have HB7 := Lib.hid (fun w5 (g5 : Gr rb w2 w5) => (g5.block (lt_heap B7) (by omega)).trans B7)
  have HB8 := Lib.hid (fun w5 (g5 : Gr rb w2 w5) => (g5.block (lt_heap B8) (by omega)).trans B8)
  go_upto_region 5 with (go_at_call 69; ((with_reducible refine (HXX.out _ h2).mono ?_); rintro e w5 ⟨rfl, ⟨i4, h5, hd4⟩, g5, hsz⟩; have B7 := HB7.out w5 g5; have c0 := box_cell B7 0; have f0 := box_frozen B7 0; have c1 := box_cell B7 1; have f1 := box_frozen B7 1; have c2 := box_cell B7 2; have f2 := box_frozen B7 2; have c3 := box_cell B7 3; have f3 := box_frozen B7 3; have c4 := box_cell B7 4; have f4 := box_frozen B7 4; have c5 := box_cell B7 5; have f5 := box_frozen B7 5; simp only [List.getElem?_toArray, List.getElem?_cons_succ, List.getElem?_cons_zero] at c0 c1 c2 c3 c4 c5))
  have z5 := g5.size
  have hl7 := lt_heap B7
  have h4 : Rd (Proofs.YtaajolemjgdfnaaDoor.put6 w5 n3 (.int .i64 3) (.string s) (.int .i64 0) (.slice none 0 0) (.slice none 0 0) (.slice none 0 0)) rb g N cT T i4 o := h5.put6 (by omega) (by omega)
  have g4 : Gr rb W (Proofs.YtaajolemjgdfnaaDoor.put6 w5 n3 (.int .i64 3) (.string s) (.int .i64 0) (.slice none 0 0) (.slice none 0 0) (.slice none 0 0)) := (g2.trans g5).put6 (by omega)
  have B7 := put6_heap (a := .int .i64 3) (b := .string s) (c := .int .i64 0) (d := .slice none 0 0) (x := .slice none 0 0) (y := .slice none 0 0) B7
  have B8 : (Proofs.YtaajolemjgdfnaaDoor.put6 w5 n3 (.int .i64 3) (.string s) (.int .i64 0) (.slice none 0 0) (.slice none 0 0) (.slice none 0 0)).heap[W.heap.size]? = _ := (put6_block (show W.heap.size ≠ n3 by omega)).trans (HB8.out w5 g5)
  have zp : (Proofs.YtaajolemjgdfnaaDoor.put6 w5 n3 (.int .i64 3) (.string s) (.int .i64 0) (.slice none 0 0) (.slice none 0 0) (.slice none 0 0)).heap.size = w5.heap.size := put6_size
  obtain ⟨w4, hw6⟩ : ∃ W5, (Proofs.YtaajolemjgdfnaaDoor.put6 w5 n3 (.int .i64 3) (.string s) (.int .i64 0) (.slice none 0 0) (.slice none 0 0) (.slice none 0 0)) = W5 := ⟨_, rfl⟩
  show Code.wp _ _ _ _ (Proofs.YtaajolemjgdfnaaDoor.put6 w5 n3 (.int .i64 3) (.string s) (.int .i64 0) (.slice none 0 0) (.slice none 0 0) (.slice none 0 0))
  rw [hw6] at h4 g4 B7 B8 zp ⊢
  clear hw6 c0 c1 c2 c3 c4 c5 f0 f1 f2 f3 f4 f5 HB7 HB8 h5
  have HB7 := Lib.hid (fun w5 (g5 : Gr rb w4 w5) => (g5.block (lt_heap B7) (by omega)).trans B7)
  have HB8 := Lib.hid (fun w5 (g5 : Gr rb w4 w5) => (g5.block (lt_heap B8) (by omega)).trans B8)
  go_upto_region 18 with (go_at_call 78; ((with_reducible refine (HU.out _ i4 h4 hd4).mono ?_); rintro e v5 ⟨rfl, ⟨i5, h5, hd5⟩, g5⟩; have c2 := box_cell (HB7.out v5 g5) 2; have f2 := box_frozen (HB7.out v5 g5) 2; simp only [List.getElem?_toArray, List.getElem?_cons_succ, List.getElem?_cons_zero] at c2))
  have z5b := g5.size
  have hl7b := lt_heap (HB7.out v5 g5)
  have hl8b := lt_heap (HB8.out v5 g5)
  have h6 := h5.set (b := n3) (j := 2) (.int .i64 kv) (by omega) (by omega)
  have g6 := (g4.trans g5).setNew (j := 2) (.int .i64 kv) (show W.heap.size ≤ n3 by omega)
  have B7 := (set6_at (x := .int .i64 kv) (HB7.out v5 g5)).2.1
  have B8 := (Below.heap_setCell v5 ⟨n3, 2, none⟩ (.int .i64 kv) W.heap.size (show W.heap.size ≠ n3 by omega)).trans (HB8.out v5 g5)
  have HK := Lib.hid (fun k (hk : k ≠ n3) => Below.heap_setCell v5 ⟨n3, 2, none⟩ (.int .i64 kv) k hk)
  have zz : (v5.setCell ⟨n3, 2, none⟩ (.int .i64 kv)).heap.size = v5.heap.size := by simp
  obtain ⟨w6, hw6⟩ : ∃ W1, (v5.setCell ⟨n3, 2, none⟩ (.int .i64 kv)) = W1 := ⟨_, rfl⟩
  rw [hw6] at h6 g6 B7 B8 HK zz ⊢
  clear hw6
  clear c2 f2 HK HB7 HB8 h5
  go_upto_region 19 with (go_at_call 68; ((with_reducible refine (HW.out _ i5 h6 hd5).mono ?_); rintro e w7 ⟨rfl, h7, g7⟩))
  have z7 := g7.size
  have hl7 := lt_heap B7
  have hl8 := lt_heap B8
  have B7 := (g7.block (lt_heap B7) (by omega)).trans B7
  have B8 := (g7.block (lt_heap B8) (by omega)).trans B8
  have g8 := g6.trans g7
  have hd7 : T.drop (i5 + 1) = r.tail := by rw [← hd5, drop_tail]
  have c0 := box_cell B8 0
  have f0 := box_frozen B8 0
  have d0 := box_cell B7 0
  have c1 := box_cell B8 1
  have f1 := box_frozen B8 1
  have d1 := box_cell B7 1
  have c2 := box_cell B8 2
  have f2 := box_frozen B8 2
  have d2 := box_cell B7 2
  have c3 := box_cell B8 3
  have f3 := box_frozen B8 3
  have d3 := box_cell B7 3
  have c4 := box_cell B8 4
  have f4 := box_frozen B8 4
  have d4 := box_cell B7 4
  have c5 := box_cell B8 5
  have f5 := box_frozen B8 5
  have d5 := box_cell B7 5
  simp only [List.getElem?_toArray, List.getElem?_cons_succ, List.getElem?_cons_zero] at c0 d0 c1 d1 c2 d2 c3 d3 c4 d4 c5 d5
  have hP := put6_heap (a := .int .i64 3) (b := .string s) (c := .int .i64 kv) (d := .slice none 0 0) (x := .slice none 0 0) (y := .slice none 0 0) B8
  have hfin : TP rb g N cT o T W (.ok ⟨3, s, kv, .nil, .nil, .nil⟩ r.tail) (.returned (.agg #[.int .i64 3, .string s, .int .i64 kv, .slice none 0 0, .slice none 0 0, .slice none 0 0])) (Proofs.YtaajolemjgdfnaaDoor.put6 w7 W.heap.size (.int .i64 3) (.string s) (.int .i64 kv) (.slice none 0 0) (.slice none 0 0) (.slice none 0 0)) :=
    ⟨⟨_, rfl, _, _, _, rfl, ex_nil _ _, sx_nil _ _, sx_nil _ _, (show I64 3 by unfold I64; omega), hk64, hsz⟩, ⟨i5 + 1, h7.put6 (by omega) (by omega), hd7⟩, g8.put6 (Nat.le_refl _)⟩
  go_wp2
  obtain ⟨wz, hwz⟩ : ∃ W5, (Proofs.YtaajolemjgdfnaaDoor.put6 w7 W.heap.size (.int .i64 3) (.string s) (.int .i64 kv) (.slice none 0 0) (.slice none 0 0) (.slice none 0 0)) = W5 := ⟨_, rfl⟩
  show bodyPost _ _ _ _ _ (Proofs.YtaajolemjgdfnaaDoor.put6 w7 W.heap.size (.int .i64 3) (.string s) (.int .i64 kv) (.slice none 0 0) (.slice none 0 0) (.slice none 0 0))
  rw [hwz] at hP hfin ⊢
  have p0 := box_cell hP 0
  have p1 := box_cell hP 1
  have p2 := box_cell hP 2
  have p3 := box_cell hP 3
  have p4 := box_cell hP 4
  have p5 := box_cell hP 5
  simp only [List.getElem?_toArray, List.getElem?_cons_succ, List.getElem?_cons_zero] at p0 p1 p2 p3 p4 p5
  exact bodyPost_ret (v := .agg #[.int .i64 3, .string s, .int .i64 kv, .slice none 0 0, .slice none 0 0, .slice none 0 0]) (by simp [results, Tryd.results72, go_sem, p0, p1, p2, p3, p4, p5]) rfl hfin

end Go.Proofs.YtaajolemjgdfnaaDoor

/-
  Package parse: a statement, whole.
-/
namespace Go.Proofs.YtaajolemjgdfnaaDoor
open Go Go.RowKit Go.Lib

theorem semi_ne {x : PR Sm} (h : semiT x ≠ .out) : x ≠ .out := by rintro rfl; exact h rfl
theorem semi_bad (p c : Nat) : semiT (.bad p c) = .bad p c := rfl
theorem semi_no (t : Sm) (r : List Tok) (h : isT r [59] = false) : semiT (.ok t r) = .bad (hdT r).at_ 2 := by
  show (wantT [59] r).bind _ = _
  rw [want_isnt _ _ h]; rfl
theorem semi_yes (t : Sm) (r : List Tok) (h : isT r [59] = true) : semiT (.ok t r) = .ok t r.tail := by
  show (wantT [59] r).bind _ = _
  rw [want_is _ _ h]; rfl

/-- A statement; by the count of steps. -/
theorem stmt_any {rb g N cT : Nat} {T : List Tok} : ∀ n W i o, Rd W rb g N cT T i o → smT n o (T.drop i) ≠ .out →
    Calls Tryd.prog 72 #[.pointer (some ⟨rb, 0, none⟩)] W (TP rb g N cT o T W (smT n o (T.drop i)))
  | 0, _, _, _, _, hx => absurd rfl hx
  | n + 1, W, i, o, h, hx => by
    have HST : ∀ W2 i', Rd W2 rb g N cT T i' (o + 1) → smT n (o + 1) (T.drop i') ≠ .out → Calls Tryd.prog 72 #[.pointer (some ⟨rb, 0, none⟩)] W2 (TP rb g N cT (o + 1) T W2 (smT n (o + 1) (T.drop i'))) :=
      fun W2 i' h2 hx2 => stmt_any n W2 i' (o + 1) h2 hx2
    have HT : ∀ op, I64 op → tellT (n + 1) op o (T.drop (i + 1)) ≠ .out → ∀ W2, Rd W2 rb g N cT T (i + 1) o → Calls Tryd.prog 79 #[.pointer (some ⟨rb, 0, none⟩), .int .i64 op] W2 (TP rb g N cT o T W2 (tellT (n + 1) op o (T.drop (i + 1)))) :=
      fun op hop hne W2 h2 => tell_any h2 op hop (n + 1) (fun e => hne (by rw [tellT, e]; rfl))
    rw [smT, drop_tail] at hx ⊢
    cases b0 : isT (T.drop i) [97, 114, 114, 97, 121] with
    | true =>
      rw [b0, if_pos rfl] at hx
      rw [if_pos rfl]
      cases hv : nameT (T.drop (i + 1)) with
      | out => exact absurd hv (nam_ne _)
      | bad p c => exact st0_bad h b0 p c hv
      | ok s r0 =>
        rw [hv] at hx
        simp only [PR.bind] at hx ⊢
        cases hu : numT 1 4096 r0 with
        | out => rw [hu] at hx; exact absurd rfl (semi_ne hx)
        | bad p c => exact st0_nbad h b0 s r0 hv p c hu
        | ok kv r =>
          cases bs : isT r [59] with
          | false =>
            simp only
            rw [semi_no _ _ bs]
            exact st0_no h b0 s r0 r kv hv hu bs
          | true =>
            simp only
            rw [semi_yes _ _ bs]
            exact st0_yes h b0 s r0 r kv hv hu bs
    | false =>
    rw [b0, if_neg (by decide)] at hx
    rw [if_neg (by decide)]
    cases b1 : isT (T.drop i) [105, 110, 112, 117, 116] with
    | true =>
      rw [b1, if_pos rfl] at hx
      rw [if_pos rfl]
      cases hv : nameT (T.drop (i + 1)) with
      | out => exact absurd hv (nam_ne _)
      | bad p c => exact st1_bad h b0 b1 p c hv
      | ok s r =>
        simp only [PR.bind]
        cases bs : isT r [59] with
        | false =>
          rw [semi_no _ _ bs]
          exact st1_no h b0 b1 s r hv bs
        | true =>
          rw [semi_yes _ _ bs]
          exact st1_yes h b0 b1 s r hv bs
    | false =>
    rw [b1, if_neg (by decide)] at hx
    rw [if_neg (by decide)]
    cases b2 : isT (T.drop i) [112, 114, 105, 110, 116] with
    | true =>
      rw [b2, if_pos rfl] at hx
      rw [if_pos rfl]
      have HX := HT 5 (by unfold I64; omega) (semi_ne hx)
      cases hv : tellT (n + 1) 5 o (T.drop (i + 1)) with
      | out => exact absurd hv (semi_ne hx)
      | bad p c => rw [hv] at HX; exact st2_bad h b0 b1 b2 p c HX
      | ok t r =>
        rw [hv] at HX
        cases bs : isT r [59] with
        | false => rw [semi_no _ _ bs]; exact st2_no h b0 b1 b2 t r bs HX
        | true => rw [semi_yes _ _ bs]; exact st2_yes h b0 b1 b2 t r bs HX
    | false =>
    rw [b2, if_neg (by decide)] at hx
    rw [if_neg (by decide)]
    cases b3 : isT (T.drop i) [107, 101, 101, 112] with
    | true =>
      rw [b3, if_pos rfl] at hx
      rw [if_pos rfl]
      have HX := HT 6 (by unfold I64; omega) (semi_ne hx)
      cases hv : tellT (n + 1) 6 o (T.drop (i + 1)) with
      | out => exact absurd hv (semi_ne hx)
      | bad p c => rw [hv] at HX; exact st3_bad h b0 b1 b2 b3 p c HX
      | ok t r =>
        rw [hv] at HX
        cases bs : isT r [59] with
        | false => rw [semi_no _ _ bs]; exact st3_no h b0 b1 b2 b3 t r bs HX
        | true => rw [semi_yes _ _ bs]; exact st3_yes h b0 b1 b2 b3 t r bs HX
    | false =>
    rw [b3, if_neg (by decide)] at hx
    rw [if_neg (by decide)]
    cases b4 : isT (T.drop i) [114, 101, 116, 117, 114, 110] with
    | true =>
      rw [b4, if_pos rfl] at hx
      rw [if_pos rfl]
      have HX := HT 9 (by unfold I64; omega) (semi_ne hx)
      cases hv : tellT (n + 1) 9 o (T.drop (i + 1)) with
      | out => exact absurd hv (semi_ne hx)
      | bad p c => rw [hv] at HX; exact st4_bad h b0 b1 b2 b3 b4 p c HX
      | ok t r =>
        rw [hv] at HX
        cases bs : isT r [59] with
        | false => rw [semi_no _ _ bs]; exact st4_no h b0 b1 b2 b3 b4 t r bs HX
        | true => rw [semi_yes _ _ bs]; exact st4_yes h b0 b1 b2 b3 b4 t r bs HX
    | false =>
    rw [b4, if_neg (by decide)] at hx
    rw [if_neg (by decide)]
    cases b5 : isT (T.drop i) [105, 102] with
    | true =>
      rw [b5, if_pos rfl] at hx
      rw [if_pos rfl]
      change choiceS n o (T.drop (i + 1)) ≠ .out at hx
      show Calls _ _ _ _ (TP rb g N cT o T W (choiceS n o (T.drop (i + 1))))
      have HX := fun W2 (h2 : Rd W2 rb g N cT T (i + 1) o) => choice_any n HST h2 hx
      cases hv : choiceS n o (T.drop (i + 1)) with
      | out => exact absurd hv hx
      | bad p c => rw [hv] at HX; exact st5_bad h b0 b1 b2 b3 b4 b5 p c HX
      | ok t r => rw [hv] at HX; exact st5_ok h b0 b1 b2 b3 b4 b5 t r HX
    | false =>
    rw [b5, if_neg (by decide)] at hx
    rw [if_neg (by decide)]
    cases b6 : isT (T.drop i) [119, 104, 105, 108, 101] with
    | true =>
      rw [b6, if_pos rfl] at hx
      rw [if_pos rfl]
      change loopS n o (T.drop (i + 1)) ≠ .out at hx
      show Calls _ _ _ _ (TP rb g N cT o T W (loopS n o (T.drop (i + 1))))
      have HX := fun W2 (h2 : Rd W2 rb g N cT T (i + 1) o) => loop_any n HST h2 hx
      cases hv : loopS n o (T.drop (i + 1)) with
      | out => exact absurd hv hx
      | bad p c => rw [hv] at HX; exact st6_bad h b0 b1 b2 b3 b4 b5 b6 p c HX
      | ok t r => rw [hv] at HX; exact st6_ok h b0 b1 b2 b3 b4 b5 b6 t r HX
    | false =>
    rw [b6, if_neg (by decide)] at hx
    rw [if_neg (by decide)]
    have HX := fun W2 (h2 : Rd W2 rb g N cT T i o) => store_any h2 (n + 1) (semi_ne hx)
    cases hv : storeT (n + 1) o (T.drop i) with
    | out => exact absurd hv (semi_ne hx)
    | bad p c => rw [hv] at HX; exact st7_bad h b0 b1 b2 b3 b4 b5 b6 p c HX
    | ok t r =>
      rw [hv] at HX
      cases bs : isT r [59] with
      | false => rw [semi_no _ _ bs]; exact st7_no h b0 b1 b2 b3 b4 b5 b6 t r bs HX
      | true => rw [semi_yes _ _ bs]; exact st7_yes h b0 b1 b2 b3 b4 b5 b6 t r bs HX

end Go.Proofs.YtaajolemjgdfnaaDoor

