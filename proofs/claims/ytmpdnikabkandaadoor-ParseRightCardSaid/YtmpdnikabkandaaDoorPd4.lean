/-
  Texts PbH PbI PbJ PbK PbL: put together.
-/
import Derived.Test.YtmpdnikabkandaaDoorPd3
/-
  Package parse: a statement, way by way.
-/
namespace Go.Proofs.YtmpdnikabkandaaDoor
open Go Go.RowKit Go.Lib

theorem put6_block {W : World} {n k : Nat} {a b c d x y : Value} (h : k ≠ n) : (put6 W n a b c d x y).heap[k]? = W.heap[k]? := by
  unfold put6
  rw [Below.heap_setCell _ _ _ _ h, Below.heap_setCell _ _ _ _ h]
  exact put4_block h
theorem put6_size {W : World} {n : Nat} {a b c d x y : Value} : (put6 W n a b c d x y).heap.size = W.heap.size := by simp [put6, put4]
theorem num_i64 {ts r : List Tok} {k : Int} (h : numT 1 4096 ts = .ok k r) : I64 k := by
  unfold numT at h
  split at h
  · split at h
    · split at h
      · cases h
      · rename_i n _ hn
        injection h with h1 h2
        subst h1
        unfold I64
        omega
    · cases h
  · cases h

set_option maxRecDepth 100000 in
theorem st5_bad {W : World} {rb g N cT i o : Nat} {T : List Tok} (h : Rd W rb g N cT T i o) (b0 : isT (T.drop i) [97, 114, 114, 97, 121] = false) (b1 : isT (T.drop i) [105, 110, 112, 117, 116] = false) (b2 : isT (T.drop i) [112, 114, 105, 110, 116] = false) (b3 : isT (T.drop i) [107, 101, 101, 112] = false) (b4 : isT (T.drop i) [114, 101, 116, 117, 114, 110] = false) (b5 : isT (T.drop i) [105, 102] = true) (p c : Nat)
    (HX : ∀ W2, Rd W2 rb g N cT T (i + 1) o → Calls Tryd.prog 63 #[.pointer (some ⟨rb, 0, none⟩)] W2 (TP rb g N cT o T W2 (.bad p c))) :
    Calls Tryd.prog 47 #[.pointer (some ⟨rb, 0, none⟩)] W (TP rb g N cT o T W (.bad p c)) := by
  have HXX := Lib.hid HX
  clear HX
  have HT0 := Lib.hid (fun w1 (h1 : Rd w1 rb g N cT T i o) => (show Calls Tryd.prog 58 #[.pointer (some ⟨rb, 0, none⟩), .string ⟨#[97, 114, 114, 97, 121]⟩] w1 (fun e w' => e = .returned (.bool false) ∧ Below w1.heap.size w1 w') from take_no h1 [97, 114, 114, 97, 121] b0))
  have HT1 := Lib.hid (fun w1 (h1 : Rd w1 rb g N cT T i o) => (show Calls Tryd.prog 58 #[.pointer (some ⟨rb, 0, none⟩), .string ⟨#[105, 110, 112, 117, 116]⟩] w1 (fun e w' => e = .returned (.bool false) ∧ Below w1.heap.size w1 w') from take_no h1 [105, 110, 112, 117, 116] b1))
  have HT2 := Lib.hid (fun w1 (h1 : Rd w1 rb g N cT T i o) => (show Calls Tryd.prog 58 #[.pointer (some ⟨rb, 0, none⟩), .string ⟨#[112, 114, 105, 110, 116]⟩] w1 (fun e w' => e = .returned (.bool false) ∧ Below w1.heap.size w1 w') from take_no h1 [112, 114, 105, 110, 116] b2))
  have HT3 := Lib.hid (fun w1 (h1 : Rd w1 rb g N cT T i o) => (show Calls Tryd.prog 58 #[.pointer (some ⟨rb, 0, none⟩), .string ⟨#[107, 101, 101, 112]⟩] w1 (fun e w' => e = .returned (.bool false) ∧ Below w1.heap.size w1 w') from take_no h1 [107, 101, 101, 112] b3))
  have HT4 := Lib.hid (fun w1 (h1 : Rd w1 rb g N cT T i o) => (show Calls Tryd.prog 58 #[.pointer (some ⟨rb, 0, none⟩), .string ⟨#[114, 101, 116, 117, 114, 110]⟩] w1 (fun e w' => e = .returned (.bool false) ∧ Below w1.heap.size w1 w') from take_no h1 [114, 101, 116, 117, 114, 110] b4))
  have HT5 := Lib.hid (fun w1 (h1 : Rd w1 rb g N cT T i o) => (show Calls Tryd.prog 58 #[.pointer (some ⟨rb, 0, none⟩), .string ⟨#[105, 102]⟩] w1 (fun e w' => e = .returned (.bool true) ∧ Rd w' rb g N cT T (i + 1) o ∧ Gr rb w1 w') from take_yes h1 [105, 102] (by decide) b5))
  have hrl := h.rlt
  have hgl := h.tok.1
  have h0 := (h.alloc (.cells #[.int .i64 0, .string ⟨#[]⟩, .int .i64 0, .slice none 0 0, .slice none 0 0, .slice none 0 0] 38)).alloc (.cells #[.int .i64 0, .string ⟨#[]⟩, .int .i64 0, .slice none 0 0, .slice none 0 0, .slice none 0 0] 38)
  have B8 := (Below.heap_alloc (W.alloc (.cells #[.int .i64 0, .string ⟨#[]⟩, .int .i64 0, .slice none 0 0, .slice none 0 0, .slice none 0 0] 38)) (.cells #[.int .i64 0, .string ⟨#[]⟩, .int .i64 0, .slice none 0 0, .slice none 0 0, .slice none 0 0] 38) W.heap.size (by simp)).trans (heap_alloc_new W (.cells #[.int .i64 0, .string ⟨#[]⟩, .int .i64 0, .slice none 0 0, .slice none 0 0, .slice none 0 0] 38))
  have B7 := heap_alloc_new (W.alloc (.cells #[.int .i64 0, .string ⟨#[]⟩, .int .i64 0, .slice none 0 0, .slice none 0 0, .slice none 0 0] 38)) (.cells #[.int .i64 0, .string ⟨#[]⟩, .int .i64 0, .slice none 0 0, .slice none 0 0, .slice none 0 0] 38)
  rw [World.size_alloc] at B7
  have g0 := ((Gr.refl rb W).alloc (.cells #[.int .i64 0, .string ⟨#[]⟩, .int .i64 0, .slice none 0 0, .slice none 0 0, .slice none 0 0] 38)).alloc (.cells #[.int .i64 0, .string ⟨#[]⟩, .int .i64 0, .slice none 0 0, .slice none 0 0, .slice none 0 0] 38)
  have z0 : ((W.alloc (.cells #[.int .i64 0, .string ⟨#[]⟩, .int .i64 0, .slice none 0 0, .slice none 0 0, .slice none 0 0] 38)).alloc (.cells #[.int .i64 0, .string ⟨#[]⟩, .int .i64 0, .slice none 0 0, .slice none 0 0, .slice none 0 0] 38)).heap.size = W.heap.size + 2 := by simp
  clear h b0 b1 b2 b3 b4 b5
  go_enter Tryd.func47, Tryd.ntmps47
  go_upto_region 3 with fail
  obtain ⟨w0, hw0⟩ : ∃ W1, (W.alloc (.cells #[.int .i64 0, .string ⟨#[]⟩, .int .i64 0, .slice none 0 0, .slice none 0 0, .slice none 0 0] 38)).alloc (.cells #[.int .i64 0, .string ⟨#[]⟩, .int .i64 0, .slice none 0 0, .slice none 0 0, .slice none 0 0] 38) = W1 := ⟨_, rfl⟩
  rw [hw0] at h0 B8 B7 g0 z0 ⊢
  clear hw0
  obtain ⟨n3, hn3⟩ : ∃ n3, W.heap.size + 1 = n3 := ⟨_, rfl⟩
  rw [hn3] at B7 ⊢
  go_upto_region 15 with (first
    | (go_at_call 58; ((with_reducible refine (HT0.out _ h0).mono ?_); rintro e x0 ⟨rfl, e0⟩; have t0 := h0.below e0; have ee0 := e0))
    | (go_at_call 58; ((with_reducible refine (HT1.out _ t0).mono ?_); rintro e x1 ⟨rfl, e1⟩; have t1 := t0.below e1; have ee1 := ee0.trans (e1.mono ee0.size)))
    | (go_at_call 58; ((with_reducible refine (HT2.out _ t1).mono ?_); rintro e x2 ⟨rfl, e2⟩; have t2 := t1.below e2; have ee2 := ee1.trans (e2.mono ee1.size)))
    | (go_at_call 58; ((with_reducible refine (HT3.out _ t2).mono ?_); rintro e x3 ⟨rfl, e3⟩; have t3 := t2.below e3; have ee3 := ee2.trans (e3.mono ee2.size)))
    | (go_at_call 58; ((with_reducible refine (HT4.out _ t3).mono ?_); rintro e x4 ⟨rfl, e4⟩; have t4 := t3.below e4; have ee4 := ee3.trans (e4.mono ee3.size)))
    | (go_at_call 58; ((with_reducible refine (HT5.out _ t4).mono ?_); rintro e w2 ⟨rfl, h2, gq⟩; have gg := (Gr.of ee4).trans gq)))
  have z2 := gg.size
  have B7 := (gg.block (lt_heap B7) (by omega)).trans B7
  have B8 := (gg.block (lt_heap B8) (by omega)).trans B8
  have g2 := g0.trans gg
  clear gg
  clear h0 g0 HT0 HT1 HT2 HT3 HT4 HT5
  go_wp2_with (go_at_call 63; ((with_reducible refine (HXX.out _ h2).mono ?_); rintro e w5 ⟨rfl, g5⟩))
  exact ⟨rfl, rfl, g2.trans g5⟩

set_option maxRecDepth 100000 in
theorem st5_ok {W : World} {rb g N cT i o : Nat} {T : List Tok} (h : Rd W rb g N cT T i o) (b0 : isT (T.drop i) [97, 114, 114, 97, 121] = false) (b1 : isT (T.drop i) [105, 110, 112, 117, 116] = false) (b2 : isT (T.drop i) [112, 114, 105, 110, 116] = false) (b3 : isT (T.drop i) [107, 101, 101, 112] = false) (b4 : isT (T.drop i) [114, 101, 116, 117, 114, 110] = false) (b5 : isT (T.drop i) [105, 102] = true) (t : Sm) (r : List Tok)
    (HX : ∀ W2, Rd W2 rb g N cT T (i + 1) o → Calls Tryd.prog 63 #[.pointer (some ⟨rb, 0, none⟩)] W2 (TP rb g N cT o T W2 (.ok t r))) :
    Calls Tryd.prog 47 #[.pointer (some ⟨rb, 0, none⟩)] W (TP rb g N cT o T W (.ok t r)) := by
  have HXX := Lib.hid HX
  clear HX
  have HT0 := Lib.hid (fun w1 (h1 : Rd w1 rb g N cT T i o) => (show Calls Tryd.prog 58 #[.pointer (some ⟨rb, 0, none⟩), .string ⟨#[97, 114, 114, 97, 121]⟩] w1 (fun e w' => e = .returned (.bool false) ∧ Below w1.heap.size w1 w') from take_no h1 [97, 114, 114, 97, 121] b0))
  have HT1 := Lib.hid (fun w1 (h1 : Rd w1 rb g N cT T i o) => (show Calls Tryd.prog 58 #[.pointer (some ⟨rb, 0, none⟩), .string ⟨#[105, 110, 112, 117, 116]⟩] w1 (fun e w' => e = .returned (.bool false) ∧ Below w1.heap.size w1 w') from take_no h1 [105, 110, 112, 117, 116] b1))
  have HT2 := Lib.hid (fun w1 (h1 : Rd w1 rb g N cT T i o) => (show Calls Tryd.prog 58 #[.pointer (some ⟨rb, 0, none⟩), .string ⟨#[112, 114, 105, 110, 116]⟩] w1 (fun e w' => e = .returned (.bool false) ∧ Below w1.heap.size w1 w') from take_no h1 [112, 114, 105, 110, 116] b2))
  have HT3 := Lib.hid (fun w1 (h1 : Rd w1 rb g N cT T i o) => (show Calls Tryd.prog 58 #[.pointer (some ⟨rb, 0, none⟩), .string ⟨#[107, 101, 101, 112]⟩] w1 (fun e w' => e = .returned (.bool false) ∧ Below w1.heap.size w1 w') from take_no h1 [107, 101, 101, 112] b3))
  have HT4 := Lib.hid (fun w1 (h1 : Rd w1 rb g N cT T i o) => (show Calls Tryd.prog 58 #[.pointer (some ⟨rb, 0, none⟩), .string ⟨#[114, 101, 116, 117, 114, 110]⟩] w1 (fun e w' => e = .returned (.bool false) ∧ Below w1.heap.size w1 w') from take_no h1 [114, 101, 116, 117, 114, 110] b4))
  have HT5 := Lib.hid (fun w1 (h1 : Rd w1 rb g N cT T i o) => (show Calls Tryd.prog 58 #[.pointer (some ⟨rb, 0, none⟩), .string ⟨#[105, 102]⟩] w1 (fun e w' => e = .returned (.bool true) ∧ Rd w' rb g N cT T (i + 1) o ∧ Gr rb w1 w') from take_yes h1 [105, 102] (by decide) b5))
  have hrl := h.rlt
  have hgl := h.tok.1
  have h0 := (h.alloc (.cells #[.int .i64 0, .string ⟨#[]⟩, .int .i64 0, .slice none 0 0, .slice none 0 0, .slice none 0 0] 38)).alloc (.cells #[.int .i64 0, .string ⟨#[]⟩, .int .i64 0, .slice none 0 0, .slice none 0 0, .slice none 0 0] 38)
  have B8 := (Below.heap_alloc (W.alloc (.cells #[.int .i64 0, .string ⟨#[]⟩, .int .i64 0, .slice none 0 0, .slice none 0 0, .slice none 0 0] 38)) (.cells #[.int .i64 0, .string ⟨#[]⟩, .int .i64 0, .slice none 0 0, .slice none 0 0, .slice none 0 0] 38) W.heap.size (by simp)).trans (heap_alloc_new W (.cells #[.int .i64 0, .string ⟨#[]⟩, .int .i64 0, .slice none 0 0, .slice none 0 0, .slice none 0 0] 38))
  have B7 := heap_alloc_new (W.alloc (.cells #[.int .i64 0, .string ⟨#[]⟩, .int .i64 0, .slice none 0 0, .slice none 0 0, .slice none 0 0] 38)) (.cells #[.int .i64 0, .string ⟨#[]⟩, .int .i64 0, .slice none 0 0, .slice none 0 0, .slice none 0 0] 38)
  rw [World.size_alloc] at B7
  have g0 := ((Gr.refl rb W).alloc (.cells #[.int .i64 0, .string ⟨#[]⟩, .int .i64 0, .slice none 0 0, .slice none 0 0, .slice none 0 0] 38)).alloc (.cells #[.int .i64 0, .string ⟨#[]⟩, .int .i64 0, .slice none 0 0, .slice none 0 0, .slice none 0 0] 38)
  have z0 : ((W.alloc (.cells #[.int .i64 0, .string ⟨#[]⟩, .int .i64 0, .slice none 0 0, .slice none 0 0, .slice none 0 0] 38)).alloc (.cells #[.int .i64 0, .string ⟨#[]⟩, .int .i64 0, .slice none 0 0, .slice none 0 0, .slice none 0 0] 38)).heap.size = W.heap.size + 2 := by simp
  clear h b0 b1 b2 b3 b4 b5
  go_enter Tryd.func47, Tryd.ntmps47
  go_upto_region 3 with fail
  obtain ⟨w0, hw0⟩ : ∃ W1, (W.alloc (.cells #[.int .i64 0, .string ⟨#[]⟩, .int .i64 0, .slice none 0 0, .slice none 0 0, .slice none 0 0] 38)).alloc (.cells #[.int .i64 0, .string ⟨#[]⟩, .int .i64 0, .slice none 0 0, .slice none 0 0, .slice none 0 0] 38) = W1 := ⟨_, rfl⟩
  rw [hw0] at h0 B8 B7 g0 z0 ⊢
  clear hw0
  obtain ⟨n3, hn3⟩ : ∃ n3, W.heap.size + 1 = n3 := ⟨_, rfl⟩
  rw [hn3] at B7 ⊢
  go_upto_region 15 with (first
    | (go_at_call 58; ((with_reducible refine (HT0.out _ h0).mono ?_); rintro e x0 ⟨rfl, e0⟩; have t0 := h0.below e0; have ee0 := e0))
    | (go_at_call 58; ((with_reducible refine (HT1.out _ t0).mono ?_); rintro e x1 ⟨rfl, e1⟩; have t1 := t0.below e1; have ee1 := ee0.trans (e1.mono ee0.size)))
    | (go_at_call 58; ((with_reducible refine (HT2.out _ t1).mono ?_); rintro e x2 ⟨rfl, e2⟩; have t2 := t1.below e2; have ee2 := ee1.trans (e2.mono ee1.size)))
    | (go_at_call 58; ((with_reducible refine (HT3.out _ t2).mono ?_); rintro e x3 ⟨rfl, e3⟩; have t3 := t2.below e3; have ee3 := ee2.trans (e3.mono ee2.size)))
    | (go_at_call 58; ((with_reducible refine (HT4.out _ t3).mono ?_); rintro e x4 ⟨rfl, e4⟩; have t4 := t3.below e4; have ee4 := ee3.trans (e4.mono ee3.size)))
    | (go_at_call 58; ((with_reducible refine (HT5.out _ t4).mono ?_); rintro e w2 ⟨rfl, h2, gq⟩; have gg := (Gr.of ee4).trans gq)))
  have z2 := gg.size
  have B7 := (gg.block (lt_heap B7) (by omega)).trans B7
  have B8 := (gg.block (lt_heap B8) (by omega)).trans B8
  have g2 := g0.trans gg
  clear gg
  clear h0 g0 HT0 HT1 HT2 HT3 HT4 HT5
  have HB7 := Lib.hid (fun w5 (g5 : Gr rb w2 w5) => (g5.block (lt_heap B7) (by omega)).trans B7)
  have HB8 := Lib.hid (fun w5 (g5 : Gr rb w2 w5) => (g5.block (lt_heap B8) (by omega)).trans B8)
  go_wp2_with (go_at_call 63; ((with_reducible refine (HXX.out _ h2).mono ?_); rintro e w5 ⟨⟨vv, rfl, vl, vx, vy, rfl, hvl, hvx, hvy, hok⟩, ⟨i5, h5, hd5⟩, g5⟩; obtain ⟨A1, k1, el1, _⟩ := id hvl; obtain ⟨A2, k2, el2, _⟩ := id hvx; obtain ⟨A3, k3, el3, _⟩ := id hvy; subst el1; subst el2; subst el3; have B8 := HB8.out w5 g5; have c0 := box_cell B8 0; have f0 := box_frozen B8 0; have c1 := box_cell B8 1; have f1 := box_frozen B8 1; have c2 := box_cell B8 2; have f2 := box_frozen B8 2; have c3 := box_cell B8 3; have f3 := box_frozen B8 3; have c4 := box_cell B8 4; have f4 := box_frozen B8 4; have c5 := box_cell B8 5; have f5 := box_frozen B8 5; simp only [List.getElem?_toArray, List.getElem?_cons_succ, List.getElem?_cons_zero] at c0 c1 c2 c3 c4 c5))
  have z5 := g5.size
  have hP := put6_heap (a := .int .i64 t.op) (b := .string t.s) (c := .int .i64 t.n) (d := .slice A1 t.l.len k1) (x := .slice A2 t.x.len k2) (y := .slice A3 t.y.len k3) B8
  have hfin : TP rb g N cT o T W (.ok t r) (.returned (.agg #[.int .i64 t.op, .string t.s, .int .i64 t.n, .slice A1 t.l.len k1, .slice A2 t.x.len k2, .slice A3 t.y.len k3])) (Proofs.YtmpdnikabkandaaDoor.put6 w5 W.heap.size (.int .i64 t.op) (.string t.s) (.int .i64 t.n) (.slice A1 t.l.len k1) (.slice A2 t.x.len k2) (.slice A3 t.y.len k3)) := ⟨⟨_, rfl, _, _, _, rfl, hvl.kp (Kp.put6 (by omega)) (by omega), hvx.kp (Kp.put6 (by omega)) (by omega), hvy.kp (Kp.put6 (by omega)) (by omega), hok⟩, ⟨i5, h5.put6 (by omega) (by omega), hd5⟩, (g2.trans g5).put6 (Nat.le_refl _)⟩
  obtain ⟨wz, hwz⟩ : ∃ W5, (Proofs.YtmpdnikabkandaaDoor.put6 w5 W.heap.size (.int .i64 t.op) (.string t.s) (.int .i64 t.n) (.slice A1 t.l.len k1) (.slice A2 t.x.len k2) (.slice A3 t.y.len k3)) = W5 := ⟨_, rfl⟩
  show bodyPost _ _ _ _ _ (Proofs.YtmpdnikabkandaaDoor.put6 w5 W.heap.size (.int .i64 t.op) (.string t.s) (.int .i64 t.n) (.slice A1 t.l.len k1) (.slice A2 t.x.len k2) (.slice A3 t.y.len k3))
  rw [hwz] at hP hfin ⊢
  have p0 := box_cell hP 0
  have p1 := box_cell hP 1
  have p2 := box_cell hP 2
  have p3 := box_cell hP 3
  have p4 := box_cell hP 4
  have p5 := box_cell hP 5
  simp only [List.getElem?_toArray, List.getElem?_cons_succ, List.getElem?_cons_zero] at p0 p1 p2 p3 p4 p5
  exact bodyPost_ret (v := .agg #[.int .i64 t.op, .string t.s, .int .i64 t.n, .slice A1 t.l.len k1, .slice A2 t.x.len k2, .slice A3 t.y.len k3]) (by simp [results, Tryd.results47, go_sem, p0, p1, p2, p3, p4, p5]) rfl hfin

set_option maxRecDepth 100000 in
theorem st6_bad {W : World} {rb g N cT i o : Nat} {T : List Tok} (h : Rd W rb g N cT T i o) (b0 : isT (T.drop i) [97, 114, 114, 97, 121] = false) (b1 : isT (T.drop i) [105, 110, 112, 117, 116] = false) (b2 : isT (T.drop i) [112, 114, 105, 110, 116] = false) (b3 : isT (T.drop i) [107, 101, 101, 112] = false) (b4 : isT (T.drop i) [114, 101, 116, 117, 114, 110] = false) (b5 : isT (T.drop i) [105, 102] = false) (b6 : isT (T.drop i) [119, 104, 105, 108, 101] = true) (p c : Nat)
    (HX : ∀ W2, Rd W2 rb g N cT T (i + 1) o → Calls Tryd.prog 64 #[.pointer (some ⟨rb, 0, none⟩)] W2 (TP rb g N cT o T W2 (.bad p c))) :
    Calls Tryd.prog 47 #[.pointer (some ⟨rb, 0, none⟩)] W (TP rb g N cT o T W (.bad p c)) := by
  have HXX := Lib.hid HX
  clear HX
  have HT0 := Lib.hid (fun w1 (h1 : Rd w1 rb g N cT T i o) => (show Calls Tryd.prog 58 #[.pointer (some ⟨rb, 0, none⟩), .string ⟨#[97, 114, 114, 97, 121]⟩] w1 (fun e w' => e = .returned (.bool false) ∧ Below w1.heap.size w1 w') from take_no h1 [97, 114, 114, 97, 121] b0))
  have HT1 := Lib.hid (fun w1 (h1 : Rd w1 rb g N cT T i o) => (show Calls Tryd.prog 58 #[.pointer (some ⟨rb, 0, none⟩), .string ⟨#[105, 110, 112, 117, 116]⟩] w1 (fun e w' => e = .returned (.bool false) ∧ Below w1.heap.size w1 w') from take_no h1 [105, 110, 112, 117, 116] b1))
  have HT2 := Lib.hid (fun w1 (h1 : Rd w1 rb g N cT T i o) => (show Calls Tryd.prog 58 #[.pointer (some ⟨rb, 0, none⟩), .string ⟨#[112, 114, 105, 110, 116]⟩] w1 (fun e w' => e = .returned (.bool false) ∧ Below w1.heap.size w1 w') from take_no h1 [112, 114, 105, 110, 116] b2))
  have HT3 := Lib.hid (fun w1 (h1 : Rd w1 rb g N cT T i o) => (show Calls Tryd.prog 58 #[.pointer (some ⟨rb, 0, none⟩), .string ⟨#[107, 101, 101, 112]⟩] w1 (fun e w' => e = .returned (.bool false) ∧ Below w1.heap.size w1 w') from take_no h1 [107, 101, 101, 112] b3))
  have HT4 := Lib.hid (fun w1 (h1 : Rd w1 rb g N cT T i o) => (show Calls Tryd.prog 58 #[.pointer (some ⟨rb, 0, none⟩), .string ⟨#[114, 101, 116, 117, 114, 110]⟩] w1 (fun e w' => e = .returned (.bool false) ∧ Below w1.heap.size w1 w') from take_no h1 [114, 101, 116, 117, 114, 110] b4))
  have HT5 := Lib.hid (fun w1 (h1 : Rd w1 rb g N cT T i o) => (show Calls Tryd.prog 58 #[.pointer (some ⟨rb, 0, none⟩), .string ⟨#[105, 102]⟩] w1 (fun e w' => e = .returned (.bool false) ∧ Below w1.heap.size w1 w') from take_no h1 [105, 102] b5))
  have HT6 := Lib.hid (fun w1 (h1 : Rd w1 rb g N cT T i o) => (show Calls Tryd.prog 58 #[.pointer (some ⟨rb, 0, none⟩), .string ⟨#[119, 104, 105, 108, 101]⟩] w1 (fun e w' => e = .returned (.bool true) ∧ Rd w' rb g N cT T (i + 1) o ∧ Gr rb w1 w') from take_yes h1 [119, 104, 105, 108, 101] (by decide) b6))
  have hrl := h.rlt
  have hgl := h.tok.1
  have h0 := (h.alloc (.cells #[.int .i64 0, .string ⟨#[]⟩, .int .i64 0, .slice none 0 0, .slice none 0 0, .slice none 0 0] 38)).alloc (.cells #[.int .i64 0, .string ⟨#[]⟩, .int .i64 0, .slice none 0 0, .slice none 0 0, .slice none 0 0] 38)
  have B8 := (Below.heap_alloc (W.alloc (.cells #[.int .i64 0, .string ⟨#[]⟩, .int .i64 0, .slice none 0 0, .slice none 0 0, .slice none 0 0] 38)) (.cells #[.int .i64 0, .string ⟨#[]⟩, .int .i64 0, .slice none 0 0, .slice none 0 0, .slice none 0 0] 38) W.heap.size (by simp)).trans (heap_alloc_new W (.cells #[.int .i64 0, .string ⟨#[]⟩, .int .i64 0, .slice none 0 0, .slice none 0 0, .slice none 0 0] 38))
  have B7 := heap_alloc_new (W.alloc (.cells #[.int .i64 0, .string ⟨#[]⟩, .int .i64 0, .slice none 0 0, .slice none 0 0, .slice none 0 0] 38)) (.cells #[.int .i64 0, .string ⟨#[]⟩, .int .i64 0, .slice none 0 0, .slice none 0 0, .slice none 0 0] 38)
  rw [World.size_alloc] at B7
  have g0 := ((Gr.refl rb W).alloc (.cells #[.int .i64 0, .string ⟨#[]⟩, .int .i64 0, .slice none 0 0, .slice none 0 0, .slice none 0 0] 38)).alloc (.cells #[.int .i64 0, .string ⟨#[]⟩, .int .i64 0, .slice none 0 0, .slice none 0 0, .slice none 0 0] 38)
  have z0 : ((W.alloc (.cells #[.int .i64 0, .string ⟨#[]⟩, .int .i64 0, .slice none 0 0, .slice none 0 0, .slice none 0 0] 38)).alloc (.cells #[.int .i64 0, .string ⟨#[]⟩, .int .i64 0, .slice none 0 0, .slice none 0 0, .slice none 0 0] 38)).heap.size = W.heap.size + 2 := by simp
  clear h b0 b1 b2 b3 b4 b5 b6
  go_enter Tryd.func47, Tryd.ntmps47
  go_upto_region 3 with fail
  obtain ⟨w0, hw0⟩ : ∃ W1, (W.alloc (.cells #[.int .i64 0, .string ⟨#[]⟩, .int .i64 0, .slice none 0 0, .slice none 0 0, .slice none 0 0] 38)).alloc (.cells #[.int .i64 0, .string ⟨#[]⟩, .int .i64 0, .slice none 0 0, .slice none 0 0, .slice none 0 0] 38) = W1 := ⟨_, rfl⟩
  rw [hw0] at h0 B8 B7 g0 z0 ⊢
  clear hw0
  obtain ⟨n3, hn3⟩ : ∃ n3, W.heap.size + 1 = n3 := ⟨_, rfl⟩
  rw [hn3] at B7 ⊢
  go_upto_region 17 with (first
    | (go_at_call 58; ((with_reducible refine (HT0.out _ h0).mono ?_); rintro e x0 ⟨rfl, e0⟩; have t0 := h0.below e0; have ee0 := e0))
    | (go_at_call 58; ((with_reducible refine (HT1.out _ t0).mono ?_); rintro e x1 ⟨rfl, e1⟩; have t1 := t0.below e1; have ee1 := ee0.trans (e1.mono ee0.size)))
    | (go_at_call 58; ((with_reducible refine (HT2.out _ t1).mono ?_); rintro e x2 ⟨rfl, e2⟩; have t2 := t1.below e2; have ee2 := ee1.trans (e2.mono ee1.size)))
    | (go_at_call 58; ((with_reducible refine (HT3.out _ t2).mono ?_); rintro e x3 ⟨rfl, e3⟩; have t3 := t2.below e3; have ee3 := ee2.trans (e3.mono ee2.size)))
    | (go_at_call 58; ((with_reducible refine (HT4.out _ t3).mono ?_); rintro e x4 ⟨rfl, e4⟩; have t4 := t3.below e4; have ee4 := ee3.trans (e4.mono ee3.size)))
    | (go_at_call 58; ((with_reducible refine (HT5.out _ t4).mono ?_); rintro e x5 ⟨rfl, e5⟩; have t5 := t4.below e5; have ee5 := ee4.trans (e5.mono ee4.size)))
    | (go_at_call 58; ((with_reducible refine (HT6.out _ t5).mono ?_); rintro e w2 ⟨rfl, h2, gq⟩; have gg := (Gr.of ee5).trans gq)))
  have z2 := gg.size
  have B7 := (gg.block (lt_heap B7) (by omega)).trans B7
  have B8 := (gg.block (lt_heap B8) (by omega)).trans B8
  have g2 := g0.trans gg
  clear gg
  clear h0 g0 HT0 HT1 HT2 HT3 HT4 HT5 HT6
  go_wp2_with (go_at_call 64; ((with_reducible refine (HXX.out _ h2).mono ?_); rintro e w5 ⟨rfl, g5⟩))
  exact ⟨rfl, rfl, g2.trans g5⟩

set_option maxRecDepth 100000 in
theorem st6_ok {W : World} {rb g N cT i o : Nat} {T : List Tok} (h : Rd W rb g N cT T i o) (b0 : isT (T.drop i) [97, 114, 114, 97, 121] = false) (b1 : isT (T.drop i) [105, 110, 112, 117, 116] = false) (b2 : isT (T.drop i) [112, 114, 105, 110, 116] = false) (b3 : isT (T.drop i) [107, 101, 101, 112] = false) (b4 : isT (T.drop i) [114, 101, 116, 117, 114, 110] = false) (b5 : isT (T.drop i) [105, 102] = false) (b6 : isT (T.drop i) [119, 104, 105, 108, 101] = true) (t : Sm) (r : List Tok)
    (HX : ∀ W2, Rd W2 rb g N cT T (i + 1) o → Calls Tryd.prog 64 #[.pointer (some ⟨rb, 0, none⟩)] W2 (TP rb g N cT o T W2 (.ok t r))) :
    Calls Tryd.prog 47 #[.pointer (some ⟨rb, 0, none⟩)] W (TP rb g N cT o T W (.ok t r)) := by
  have HXX := Lib.hid HX
  clear HX
  have HT0 := Lib.hid (fun w1 (h1 : Rd w1 rb g N cT T i o) => (show Calls Tryd.prog 58 #[.pointer (some ⟨rb, 0, none⟩), .string ⟨#[97, 114, 114, 97, 121]⟩] w1 (fun e w' => e = .returned (.bool false) ∧ Below w1.heap.size w1 w') from take_no h1 [97, 114, 114, 97, 121] b0))
  have HT1 := Lib.hid (fun w1 (h1 : Rd w1 rb g N cT T i o) => (show Calls Tryd.prog 58 #[.pointer (some ⟨rb, 0, none⟩), .string ⟨#[105, 110, 112, 117, 116]⟩] w1 (fun e w' => e = .returned (.bool false) ∧ Below w1.heap.size w1 w') from take_no h1 [105, 110, 112, 117, 116] b1))
  have HT2 := Lib.hid (fun w1 (h1 : Rd w1 rb g N cT T i o) => (show Calls Tryd.prog 58 #[.pointer (some ⟨rb, 0, none⟩), .string ⟨#[112, 114, 105, 110, 116]⟩] w1 (fun e w' => e = .returned (.bool false) ∧ Below w1.heap.size w1 w') from take_no h1 [112, 114, 105, 110, 116] b2))
  have HT3 := Lib.hid (fun w1 (h1 : Rd w1 rb g N cT T i o) => (show Calls Tryd.prog 58 #[.pointer (some ⟨rb, 0, none⟩), .string ⟨#[107, 101, 101, 112]⟩] w1 (fun e w' => e = .returned (.bool false) ∧ Below w1.heap.size w1 w') from take_no h1 [107, 101, 101, 112] b3))
  have HT4 := Lib.hid (fun w1 (h1 : Rd w1 rb g N cT T i o) => (show Calls Tryd.prog 58 #[.pointer (some ⟨rb, 0, none⟩), .string ⟨#[114, 101, 116, 117, 114, 110]⟩] w1 (fun e w' => e = .returned (.bool false) ∧ Below w1.heap.size w1 w') from take_no h1 [114, 101, 116, 117, 114, 110] b4))
  have HT5 := Lib.hid (fun w1 (h1 : Rd w1 rb g N cT T i o) => (show Calls Tryd.prog 58 #[.pointer (some ⟨rb, 0, none⟩), .string ⟨#[105, 102]⟩] w1 (fun e w' => e = .returned (.bool false) ∧ Below w1.heap.size w1 w') from take_no h1 [105, 102] b5))
  have HT6 := Lib.hid (fun w1 (h1 : Rd w1 rb g N cT T i o) => (show Calls Tryd.prog 58 #[.pointer (some ⟨rb, 0, none⟩), .string ⟨#[119, 104, 105, 108, 101]⟩] w1 (fun e w' => e = .returned (.bool true) ∧ Rd w' rb g N cT T (i + 1) o ∧ Gr rb w1 w') from take_yes h1 [119, 104, 105, 108, 101] (by decide) b6))
  have hrl := h.rlt
  have hgl := h.tok.1
  have h0 := (h.alloc (.cells #[.int .i64 0, .string ⟨#[]⟩, .int .i64 0, .slice none 0 0, .slice none 0 0, .slice none 0 0] 38)).alloc (.cells #[.int .i64 0, .string ⟨#[]⟩, .int .i64 0, .slice none 0 0, .slice none 0 0, .slice none 0 0] 38)
  have B8 := (Below.heap_alloc (W.alloc (.cells #[.int .i64 0, .string ⟨#[]⟩, .int .i64 0, .slice none 0 0, .slice none 0 0, .slice none 0 0] 38)) (.cells #[.int .i64 0, .string ⟨#[]⟩, .int .i64 0, .slice none 0 0, .slice none 0 0, .slice none 0 0] 38) W.heap.size (by simp)).trans (heap_alloc_new W (.cells #[.int .i64 0, .string ⟨#[]⟩, .int .i64 0, .slice none 0 0, .slice none 0 0, .slice none 0 0] 38))
  have B7 := heap_alloc_new (W.alloc (.cells #[.int .i64 0, .string ⟨#[]⟩, .int .i64 0, .slice none 0 0, .slice none 0 0, .slice none 0 0] 38)) (.cells #[.int .i64 0, .string ⟨#[]⟩, .int .i64 0, .slice none 0 0, .slice none 0 0, .slice none 0 0] 38)
  rw [World.size_alloc] at B7
  have g0 := ((Gr.refl rb W).alloc (.cells #[.int .i64 0, .string ⟨#[]⟩, .int .i64 0, .slice none 0 0, .slice none 0 0, .slice none 0 0] 38)).alloc (.cells #[.int .i64 0, .string ⟨#[]⟩, .int .i64 0, .slice none 0 0, .slice none 0 0, .slice none 0 0] 38)
  have z0 : ((W.alloc (.cells #[.int .i64 0, .string ⟨#[]⟩, .int .i64 0, .slice none 0 0, .slice none 0 0, .slice none 0 0] 38)).alloc (.cells #[.int .i64 0, .string ⟨#[]⟩, .int .i64 0, .slice none 0 0, .slice none 0 0, .slice none 0 0] 38)).heap.size = W.heap.size + 2 := by simp
  clear h b0 b1 b2 b3 b4 b5 b6
  go_enter Tryd.func47, Tryd.ntmps47
  go_upto_region 3 with fail
  obtain ⟨w0, hw0⟩ : ∃ W1, (W.alloc (.cells #[.int .i64 0, .string ⟨#[]⟩, .int .i64 0, .slice none 0 0, .slice none 0 0, .slice none 0 0] 38)).alloc (.cells #[.int .i64 0, .string ⟨#[]⟩, .int .i64 0, .slice none 0 0, .slice none 0 0, .slice none 0 0] 38) = W1 := ⟨_, rfl⟩
  rw [hw0] at h0 B8 B7 g0 z0 ⊢
  clear hw0
  obtain ⟨n3, hn3⟩ : ∃ n3, W.heap.size + 1 = n3 := ⟨_, rfl⟩
  rw [hn3] at B7 ⊢
  go_upto_region 17 with (first
    | (go_at_call 58; ((with_reducible refine (HT0.out _ h0).mono ?_); rintro e x0 ⟨rfl, e0⟩; have t0 := h0.below e0; have ee0 := e0))
    | (go_at_call 58; ((with_reducible refine (HT1.out _ t0).mono ?_); rintro e x1 ⟨rfl, e1⟩; have t1 := t0.below e1; have ee1 := ee0.trans (e1.mono ee0.size)))
    | (go_at_call 58; ((with_reducible refine (HT2.out _ t1).mono ?_); rintro e x2 ⟨rfl, e2⟩; have t2 := t1.below e2; have ee2 := ee1.trans (e2.mono ee1.size)))
    | (go_at_call 58; ((with_reducible refine (HT3.out _ t2).mono ?_); rintro e x3 ⟨rfl, e3⟩; have t3 := t2.below e3; have ee3 := ee2.trans (e3.mono ee2.size)))
    | (go_at_call 58; ((with_reducible refine (HT4.out _ t3).mono ?_); rintro e x4 ⟨rfl, e4⟩; have t4 := t3.below e4; have ee4 := ee3.trans (e4.mono ee3.size)))
    | (go_at_call 58; ((with_reducible refine (HT5.out _ t4).mono ?_); rintro e x5 ⟨rfl, e5⟩; have t5 := t4.below e5; have ee5 := ee4.trans (e5.mono ee4.size)))
    | (go_at_call 58; ((with_reducible refine (HT6.out _ t5).mono ?_); rintro e w2 ⟨rfl, h2, gq⟩; have gg := (Gr.of ee5).trans gq)))
  have z2 := gg.size
  have B7 := (gg.block (lt_heap B7) (by omega)).trans B7
  have B8 := (gg.block (lt_heap B8) (by omega)).trans B8
  have g2 := g0.trans gg
  clear gg
  clear h0 g0 HT0 HT1 HT2 HT3 HT4 HT5 HT6
  have HB7 := Lib.hid (fun w5 (g5 : Gr rb w2 w5) => (g5.block (lt_heap B7) (by omega)).trans B7)
  have HB8 := Lib.hid (fun w5 (g5 : Gr rb w2 w5) => (g5.block (lt_heap B8) (by omega)).trans B8)
  go_wp2_with (go_at_call 64; ((with_reducible refine (HXX.out _ h2).mono ?_); rintro e w5 ⟨⟨vv, rfl, vl, vx, vy, rfl, hvl, hvx, hvy, hok⟩, ⟨i5, h5, hd5⟩, g5⟩; obtain ⟨A1, k1, el1, _⟩ := id hvl; obtain ⟨A2, k2, el2, _⟩ := id hvx; obtain ⟨A3, k3, el3, _⟩ := id hvy; subst el1; subst el2; subst el3; have B8 := HB8.out w5 g5; have c0 := box_cell B8 0; have f0 := box_frozen B8 0; have c1 := box_cell B8 1; have f1 := box_frozen B8 1; have c2 := box_cell B8 2; have f2 := box_frozen B8 2; have c3 := box_cell B8 3; have f3 := box_frozen B8 3; have c4 := box_cell B8 4; have f4 := box_frozen B8 4; have c5 := box_cell B8 5; have f5 := box_frozen B8 5; simp only [List.getElem?_toArray, List.getElem?_cons_succ, List.getElem?_cons_zero] at c0 c1 c2 c3 c4 c5))
  have z5 := g5.size
  have hP := put6_heap (a := .int .i64 t.op) (b := .string t.s) (c := .int .i64 t.n) (d := .slice A1 t.l.len k1) (x := .slice A2 t.x.len k2) (y := .slice A3 t.y.len k3) B8
  have hfin : TP rb g N cT o T W (.ok t r) (.returned (.agg #[.int .i64 t.op, .string t.s, .int .i64 t.n, .slice A1 t.l.len k1, .slice A2 t.x.len k2, .slice A3 t.y.len k3])) (Proofs.YtmpdnikabkandaaDoor.put6 w5 W.heap.size (.int .i64 t.op) (.string t.s) (.int .i64 t.n) (.slice A1 t.l.len k1) (.slice A2 t.x.len k2) (.slice A3 t.y.len k3)) := ⟨⟨_, rfl, _, _, _, rfl, hvl.kp (Kp.put6 (by omega)) (by omega), hvx.kp (Kp.put6 (by omega)) (by omega), hvy.kp (Kp.put6 (by omega)) (by omega), hok⟩, ⟨i5, h5.put6 (by omega) (by omega), hd5⟩, (g2.trans g5).put6 (Nat.le_refl _)⟩
  obtain ⟨wz, hwz⟩ : ∃ W5, (Proofs.YtmpdnikabkandaaDoor.put6 w5 W.heap.size (.int .i64 t.op) (.string t.s) (.int .i64 t.n) (.slice A1 t.l.len k1) (.slice A2 t.x.len k2) (.slice A3 t.y.len k3)) = W5 := ⟨_, rfl⟩
  show bodyPost _ _ _ _ _ (Proofs.YtmpdnikabkandaaDoor.put6 w5 W.heap.size (.int .i64 t.op) (.string t.s) (.int .i64 t.n) (.slice A1 t.l.len k1) (.slice A2 t.x.len k2) (.slice A3 t.y.len k3))
  rw [hwz] at hP hfin ⊢
  have p0 := box_cell hP 0
  have p1 := box_cell hP 1
  have p2 := box_cell hP 2
  have p3 := box_cell hP 3
  have p4 := box_cell hP 4
  have p5 := box_cell hP 5
  simp only [List.getElem?_toArray, List.getElem?_cons_succ, List.getElem?_cons_zero] at p0 p1 p2 p3 p4 p5
  exact bodyPost_ret (v := .agg #[.int .i64 t.op, .string t.s, .int .i64 t.n, .slice A1 t.l.len k1, .slice A2 t.x.len k2, .slice A3 t.y.len k3]) (by simp [results, Tryd.results47, go_sem, p0, p1, p2, p3, p4, p5]) rfl hfin

set_option maxRecDepth 100000 in
theorem st2_bad {W : World} {rb g N cT i o : Nat} {T : List Tok} (h : Rd W rb g N cT T i o) (b0 : isT (T.drop i) [97, 114, 114, 97, 121] = false) (b1 : isT (T.drop i) [105, 110, 112, 117, 116] = false) (b2 : isT (T.drop i) [112, 114, 105, 110, 116] = true) (p c : Nat)
    (HX : ∀ W2, Rd W2 rb g N cT T (i + 1) o → Calls Tryd.prog 62 #[.pointer (some ⟨rb, 0, none⟩), .int .i64 5] W2 (TP rb g N cT o T W2 (.bad p c))) :
    Calls Tryd.prog 47 #[.pointer (some ⟨rb, 0, none⟩)] W (TP rb g N cT o T W (.bad p c)) := by
  have HXX := Lib.hid HX
  clear HX
  have HT0 := Lib.hid (fun w1 (h1 : Rd w1 rb g N cT T i o) => (show Calls Tryd.prog 58 #[.pointer (some ⟨rb, 0, none⟩), .string ⟨#[97, 114, 114, 97, 121]⟩] w1 (fun e w' => e = .returned (.bool false) ∧ Below w1.heap.size w1 w') from take_no h1 [97, 114, 114, 97, 121] b0))
  have HT1 := Lib.hid (fun w1 (h1 : Rd w1 rb g N cT T i o) => (show Calls Tryd.prog 58 #[.pointer (some ⟨rb, 0, none⟩), .string ⟨#[105, 110, 112, 117, 116]⟩] w1 (fun e w' => e = .returned (.bool false) ∧ Below w1.heap.size w1 w') from take_no h1 [105, 110, 112, 117, 116] b1))
  have HT2 := Lib.hid (fun w1 (h1 : Rd w1 rb g N cT T i o) => (show Calls Tryd.prog 58 #[.pointer (some ⟨rb, 0, none⟩), .string ⟨#[112, 114, 105, 110, 116]⟩] w1 (fun e w' => e = .returned (.bool true) ∧ Rd w' rb g N cT T (i + 1) o ∧ Gr rb w1 w') from take_yes h1 [112, 114, 105, 110, 116] (by decide) b2))
  have hrl := h.rlt
  have hgl := h.tok.1
  have h0 := (h.alloc (.cells #[.int .i64 0, .string ⟨#[]⟩, .int .i64 0, .slice none 0 0, .slice none 0 0, .slice none 0 0] 38)).alloc (.cells #[.int .i64 0, .string ⟨#[]⟩, .int .i64 0, .slice none 0 0, .slice none 0 0, .slice none 0 0] 38)
  have B8 := (Below.heap_alloc (W.alloc (.cells #[.int .i64 0, .string ⟨#[]⟩, .int .i64 0, .slice none 0 0, .slice none 0 0, .slice none 0 0] 38)) (.cells #[.int .i64 0, .string ⟨#[]⟩, .int .i64 0, .slice none 0 0, .slice none 0 0, .slice none 0 0] 38) W.heap.size (by simp)).trans (heap_alloc_new W (.cells #[.int .i64 0, .string ⟨#[]⟩, .int .i64 0, .slice none 0 0, .slice none 0 0, .slice none 0 0] 38))
  have B7 := heap_alloc_new (W.alloc (.cells #[.int .i64 0, .string ⟨#[]⟩, .int .i64 0, .slice none 0 0, .slice none 0 0, .slice none 0 0] 38)) (.cells #[.int .i64 0, .string ⟨#[]⟩, .int .i64 0, .slice none 0 0, .slice none 0 0, .slice none 0 0] 38)
  rw [World.size_alloc] at B7
  have g0 := ((Gr.refl rb W).alloc (.cells #[.int .i64 0, .string ⟨#[]⟩, .int .i64 0, .slice none 0 0, .slice none 0 0, .slice none 0 0] 38)).alloc (.cells #[.int .i64 0, .string ⟨#[]⟩, .int .i64 0, .slice none 0 0, .slice none 0 0, .slice none 0 0] 38)
  have z0 : ((W.alloc (.cells #[.int .i64 0, .string ⟨#[]⟩, .int .i64 0, .slice none 0 0, .slice none 0 0, .slice none 0 0] 38)).alloc (.cells #[.int .i64 0, .string ⟨#[]⟩, .int .i64 0, .slice none 0 0, .slice none 0 0, .slice none 0 0] 38)).heap.size = W.heap.size + 2 := by simp
  clear h b0 b1 b2
  go_enter Tryd.func47, Tryd.ntmps47
  go_upto_region 3 with fail
  obtain ⟨w0, hw0⟩ : ∃ W1, (W.alloc (.cells #[.int .i64 0, .string ⟨#[]⟩, .int .i64 0, .slice none 0 0, .slice none 0 0, .slice none 0 0] 38)).alloc (.cells #[.int .i64 0, .string ⟨#[]⟩, .int .i64 0, .slice none 0 0, .slice none 0 0, .slice none 0 0] 38) = W1 := ⟨_, rfl⟩
  rw [hw0] at h0 B8 B7 g0 z0 ⊢
  clear hw0
  obtain ⟨n3, hn3⟩ : ∃ n3, W.heap.size + 1 = n3 := ⟨_, rfl⟩
  rw [hn3] at B7 ⊢
  go_upto_region 9 with (first
    | (go_at_call 58; ((with_reducible refine (HT0.out _ h0).mono ?_); rintro e x0 ⟨rfl, e0⟩; have t0 := h0.below e0; have ee0 := e0))
    | (go_at_call 58; ((with_reducible refine (HT1.out _ t0).mono ?_); rintro e x1 ⟨rfl, e1⟩; have t1 := t0.below e1; have ee1 := ee0.trans (e1.mono ee0.size)))
    | (go_at_call 58; ((with_reducible refine (HT2.out _ t1).mono ?_); rintro e w2 ⟨rfl, h2, gq⟩; have gg := (Gr.of ee1).trans gq)))
  have z2 := gg.size
  have B7 := (gg.block (lt_heap B7) (by omega)).trans B7
  have B8 := (gg.block (lt_heap B8) (by omega)).trans B8
  have g2 := g0.trans gg
  clear gg
  clear h0 g0 HT0 HT1 HT2
  go_wp2_with (go_at_call 62; ((with_reducible refine (HXX.out _ h2).mono ?_); rintro e w5 ⟨rfl, g5⟩))
  exact ⟨rfl, rfl, g2.trans g5⟩

set_option maxRecDepth 100000 in
theorem st2_no {W : World} {rb g N cT i o : Nat} {T : List Tok} (h : Rd W rb g N cT T i o) (b0 : isT (T.drop i) [97, 114, 114, 97, 121] = false) (b1 : isT (T.drop i) [105, 110, 112, 117, 116] = false) (b2 : isT (T.drop i) [112, 114, 105, 110, 116] = true) (t : Sm) (r : List Tok) (bs : isT r [59] = false)
    (HX : ∀ W2, Rd W2 rb g N cT T (i + 1) o → Calls Tryd.prog 62 #[.pointer (some ⟨rb, 0, none⟩), .int .i64 5] W2 (TP rb g N cT o T W2 (.ok t r))) :
    Calls Tryd.prog 47 #[.pointer (some ⟨rb, 0, none⟩)] W (TP rb g N cT o T W (.bad (hdT r).at_ 2)) := by
  have HXX := Lib.hid HX
  have HW := Lib.hid (fun w2 i2 (h2 : Rd w2 rb g N cT T i2 o) (hd : T.drop i2 = r) => (show Calls Tryd.prog 43 #[.pointer (some ⟨rb, 0, none⟩), .string ⟨#[59]⟩] w2 (fun e w' => e = flt (hdT r).at_ 2 ∧ Below w2.heap.size w2 w') from want_no h2 [59] (by rw [hd]; exact bs) _ (by rw [hd])))
  clear HX bs
  have HT0 := Lib.hid (fun w1 (h1 : Rd w1 rb g N cT T i o) => (show Calls Tryd.prog 58 #[.pointer (some ⟨rb, 0, none⟩), .string ⟨#[97, 114, 114, 97, 121]⟩] w1 (fun e w' => e = .returned (.bool false) ∧ Below w1.heap.size w1 w') from take_no h1 [97, 114, 114, 97, 121] b0))
  have HT1 := Lib.hid (fun w1 (h1 : Rd w1 rb g N cT T i o) => (show Calls Tryd.prog 58 #[.pointer (some ⟨rb, 0, none⟩), .string ⟨#[105, 110, 112, 117, 116]⟩] w1 (fun e w' => e = .returned (.bool false) ∧ Below w1.heap.size w1 w') from take_no h1 [105, 110, 112, 117, 116] b1))
  have HT2 := Lib.hid (fun w1 (h1 : Rd w1 rb g N cT T i o) => (show Calls Tryd.prog 58 #[.pointer (some ⟨rb, 0, none⟩), .string ⟨#[112, 114, 105, 110, 116]⟩] w1 (fun e w' => e = .returned (.bool true) ∧ Rd w' rb g N cT T (i + 1) o ∧ Gr rb w1 w') from take_yes h1 [112, 114, 105, 110, 116] (by decide) b2))
  have hrl := h.rlt
  have hgl := h.tok.1
  have h0 := (h.alloc (.cells #[.int .i64 0, .string ⟨#[]⟩, .int .i64 0, .slice none 0 0, .slice none 0 0, .slice none 0 0] 38)).alloc (.cells #[.int .i64 0, .string ⟨#[]⟩, .int .i64 0, .slice none 0 0, .slice none 0 0, .slice none 0 0] 38)
  have B8 := (Below.heap_alloc (W.alloc (.cells #[.int .i64 0, .string ⟨#[]⟩, .int .i64 0, .slice none 0 0, .slice none 0 0, .slice none 0 0] 38)) (.cells #[.int .i64 0, .string ⟨#[]⟩, .int .i64 0, .slice none 0 0, .slice none 0 0, .slice none 0 0] 38) W.heap.size (by simp)).trans (heap_alloc_new W (.cells #[.int .i64 0, .string ⟨#[]⟩, .int .i64 0, .slice none 0 0, .slice none 0 0, .slice none 0 0] 38))
  have B7 := heap_alloc_new (W.alloc (.cells #[.int .i64 0, .string ⟨#[]⟩, .int .i64 0, .slice none 0 0, .slice none 0 0, .slice none 0 0] 38)) (.cells #[.int .i64 0, .string ⟨#[]⟩, .int .i64 0, .slice none 0 0, .slice none 0 0, .slice none 0 0] 38)
  rw [World.size_alloc] at B7
  have g0 := ((Gr.refl rb W).alloc (.cells #[.int .i64 0, .string ⟨#[]⟩, .int .i64 0, .slice none 0 0, .slice none 0 0, .slice none 0 0] 38)).alloc (.cells #[.int .i64 0, .string ⟨#[]⟩, .int .i64 0, .slice none 0 0, .slice none 0 0, .slice none 0 0] 38)
  have z0 : ((W.alloc (.cells #[.int .i64 0, .string ⟨#[]⟩, .int .i64 0, .slice none 0 0, .slice none 0 0, .slice none 0 0] 38)).alloc (.cells #[.int .i64 0, .string ⟨#[]⟩, .int .i64 0, .slice none 0 0, .slice none 0 0, .slice none 0 0] 38)).heap.size = W.heap.size + 2 := by simp
  clear h b0 b1 b2
  go_enter Tryd.func47, Tryd.ntmps47
  go_upto_region 3 with fail
  obtain ⟨w0, hw0⟩ : ∃ W1, (W.alloc (.cells #[.int .i64 0, .string ⟨#[]⟩, .int .i64 0, .slice none 0 0, .slice none 0 0, .slice none 0 0] 38)).alloc (.cells #[.int .i64 0, .string ⟨#[]⟩, .int .i64 0, .slice none 0 0, .slice none 0 0, .slice none 0 0] 38) = W1 := ⟨_, rfl⟩
  rw [hw0] at h0 B8 B7 g0 z0 ⊢
  clear hw0
  obtain ⟨n3, hn3⟩ : ∃ n3, W.heap.size + 1 = n3 := ⟨_, rfl⟩
  rw [hn3] at B7 ⊢
  go_upto_region 9 with (first
    | (go_at_call 58; ((with_reducible refine (HT0.out _ h0).mono ?_); rintro e x0 ⟨rfl, e0⟩; have t0 := h0.below e0; have ee0 := e0))
    | (go_at_call 58; ((with_reducible refine (HT1.out _ t0).mono ?_); rintro e x1 ⟨rfl, e1⟩; have t1 := t0.below e1; have ee1 := ee0.trans (e1.mono ee0.size)))
    | (go_at_call 58; ((with_reducible refine (HT2.out _ t1).mono ?_); rintro e w2 ⟨rfl, h2, gq⟩; have gg := (Gr.of ee1).trans gq)))
  have z2 := gg.size
  have B7 := (gg.block (lt_heap B7) (by omega)).trans B7
  have B8 := (gg.block (lt_heap B8) (by omega)).trans B8
  have g2 := g0.trans gg
  clear gg
  clear h0 g0 HT0 HT1 HT2
  have HB7 := Lib.hid (fun w5 (g5 : Gr rb w2 w5) => (g5.block (lt_heap B7) (by omega)).trans B7)
  have HB8 := Lib.hid (fun w5 (g5 : Gr rb w2 w5) => (g5.block (lt_heap B8) (by omega)).trans B8)
  go_upto_region 18 with (go_at_call 62; ((with_reducible refine (HXX.out _ h2).mono ?_); rintro e w5 ⟨⟨vv, rfl, vl, vx, vy, rfl, hvl, hvx, hvy, hok⟩, ⟨i5, h5, hd5⟩, g5⟩; obtain ⟨A1, k1, el1, _⟩ := id hvl; obtain ⟨A2, k2, el2, _⟩ := id hvx; obtain ⟨A3, k3, el3, _⟩ := id hvy; subst el1; subst el2; subst el3; have B7 := HB7.out w5 g5; have c0 := box_cell B7 0; have f0 := box_frozen B7 0; have c1 := box_cell B7 1; have f1 := box_frozen B7 1; have c2 := box_cell B7 2; have f2 := box_frozen B7 2; have c3 := box_cell B7 3; have f3 := box_frozen B7 3; have c4 := box_cell B7 4; have f4 := box_frozen B7 4; have c5 := box_cell B7 5; have f5 := box_frozen B7 5; simp only [List.getElem?_toArray, List.getElem?_cons_succ, List.getElem?_cons_zero] at c0 c1 c2 c3 c4 c5))
  have z5 := g5.size
  have hl7 := lt_heap B7
  have h6 : Rd (Proofs.YtmpdnikabkandaaDoor.put6 w5 n3 (.int .i64 t.op) (.string t.s) (.int .i64 t.n) (.slice A1 t.l.len k1) (.slice A2 t.x.len k2) (.slice A3 t.y.len k3)) rb g N cT T i5 o := h5.put6 (by omega) (by omega)
  have g6 : Gr rb W (Proofs.YtmpdnikabkandaaDoor.put6 w5 n3 (.int .i64 t.op) (.string t.s) (.int .i64 t.n) (.slice A1 t.l.len k1) (.slice A2 t.x.len k2) (.slice A3 t.y.len k3)) := (g2.trans g5).put6 (by omega)
  have B7 := put6_heap (a := .int .i64 t.op) (b := .string t.s) (c := .int .i64 t.n) (d := .slice A1 t.l.len k1) (x := .slice A2 t.x.len k2) (y := .slice A3 t.y.len k3) B7
  have B8 : (Proofs.YtmpdnikabkandaaDoor.put6 w5 n3 (.int .i64 t.op) (.string t.s) (.int .i64 t.n) (.slice A1 t.l.len k1) (.slice A2 t.x.len k2) (.slice A3 t.y.len k3)).heap[W.heap.size]? = _ := (put6_block (show W.heap.size ≠ n3 by omega)).trans (HB8.out w5 g5)
  have hL : EX w2.heap.size (Proofs.YtmpdnikabkandaaDoor.put6 w5 n3 (.int .i64 t.op) (.string t.s) (.int .i64 t.n) (.slice A1 t.l.len k1) (.slice A2 t.x.len k2) (.slice A3 t.y.len k3)) _ _ := hvl.kp (Kp.put6 (by omega)) (Nat.le_refl _)
  have hX : SX w2.heap.size (Proofs.YtmpdnikabkandaaDoor.put6 w5 n3 (.int .i64 t.op) (.string t.s) (.int .i64 t.n) (.slice A1 t.l.len k1) (.slice A2 t.x.len k2) (.slice A3 t.y.len k3)) _ _ := hvx.kp (Kp.put6 (by omega)) (Nat.le_refl _)
  have hY : SX w2.heap.size (Proofs.YtmpdnikabkandaaDoor.put6 w5 n3 (.int .i64 t.op) (.string t.s) (.int .i64 t.n) (.slice A1 t.l.len k1) (.slice A2 t.x.len k2) (.slice A3 t.y.len k3)) _ _ := hvy.kp (Kp.put6 (by omega)) (Nat.le_refl _)
  have zp : (Proofs.YtmpdnikabkandaaDoor.put6 w5 n3 (.int .i64 t.op) (.string t.s) (.int .i64 t.n) (.slice A1 t.l.len k1) (.slice A2 t.x.len k2) (.slice A3 t.y.len k3)).heap.size = w5.heap.size := put6_size
  obtain ⟨w6, hw6⟩ : ∃ W5, (Proofs.YtmpdnikabkandaaDoor.put6 w5 n3 (.int .i64 t.op) (.string t.s) (.int .i64 t.n) (.slice A1 t.l.len k1) (.slice A2 t.x.len k2) (.slice A3 t.y.len k3)) = W5 := ⟨_, rfl⟩
  show Code.wp _ _ _ _ (Proofs.YtmpdnikabkandaaDoor.put6 w5 n3 (.int .i64 t.op) (.string t.s) (.int .i64 t.n) (.slice A1 t.l.len k1) (.slice A2 t.x.len k2) (.slice A3 t.y.len k3))
  rw [hw6] at h6 g6 B7 B8 hL hX hY zp ⊢
  clear hw6 c0 c1 c2 c3 c4 c5 f0 f1 f2 f3 f4 f5 HB7 HB8 h5
  go_wp2_with (go_at_call 43; ((with_reducible refine (HW.out _ i5 h6 hd5).mono ?_); rintro e w7 ⟨rfl, e7⟩))
  exact ⟨rfl, rfl, g6.trans (Gr.of e7)⟩

set_option maxRecDepth 100000 in
theorem st2_yes {W : World} {rb g N cT i o : Nat} {T : List Tok} (h : Rd W rb g N cT T i o) (b0 : isT (T.drop i) [97, 114, 114, 97, 121] = false) (b1 : isT (T.drop i) [105, 110, 112, 117, 116] = false) (b2 : isT (T.drop i) [112, 114, 105, 110, 116] = true) (t : Sm) (r : List Tok) (bs : isT r [59] = true)
    (HX : ∀ W2, Rd W2 rb g N cT T (i + 1) o → Calls Tryd.prog 62 #[.pointer (some ⟨rb, 0, none⟩), .int .i64 5] W2 (TP rb g N cT o T W2 (.ok t r))) :
    Calls Tryd.prog 47 #[.pointer (some ⟨rb, 0, none⟩)] W (TP rb g N cT o T W (.ok t r.tail)) := by
  have HXX := Lib.hid HX
  have HW := Lib.hid (fun w2 i2 (h2 : Rd w2 rb g N cT T i2 o) (hd : T.drop i2 = r) => (show Calls Tryd.prog 43 #[.pointer (some ⟨rb, 0, none⟩), .string ⟨#[59]⟩] w2 (fun e w' => e = .returned (.tuple #[]) ∧ Rd w' rb g N cT T (i2 + 1) o ∧ Gr rb w2 w') from want_yes h2 [59] (by decide) (by rw [hd]; exact bs)))
  clear HX bs
  have HT0 := Lib.hid (fun w1 (h1 : Rd w1 rb g N cT T i o) => (show Calls Tryd.prog 58 #[.pointer (some ⟨rb, 0, none⟩), .string ⟨#[97, 114, 114, 97, 121]⟩] w1 (fun e w' => e = .returned (.bool false) ∧ Below w1.heap.size w1 w') from take_no h1 [97, 114, 114, 97, 121] b0))
  have HT1 := Lib.hid (fun w1 (h1 : Rd w1 rb g N cT T i o) => (show Calls Tryd.prog 58 #[.pointer (some ⟨rb, 0, none⟩), .string ⟨#[105, 110, 112, 117, 116]⟩] w1 (fun e w' => e = .returned (.bool false) ∧ Below w1.heap.size w1 w') from take_no h1 [105, 110, 112, 117, 116] b1))
  have HT2 := Lib.hid (fun w1 (h1 : Rd w1 rb g N cT T i o) => (show Calls Tryd.prog 58 #[.pointer (some ⟨rb, 0, none⟩), .string ⟨#[112, 114, 105, 110, 116]⟩] w1 (fun e w' => e = .returned (.bool true) ∧ Rd w' rb g N cT T (i + 1) o ∧ Gr rb w1 w') from take_yes h1 [112, 114, 105, 110, 116] (by decide) b2))
  have hrl := h.rlt
  have hgl := h.tok.1
  have h0 := (h.alloc (.cells #[.int .i64 0, .string ⟨#[]⟩, .int .i64 0, .slice none 0 0, .slice none 0 0, .slice none 0 0] 38)).alloc (.cells #[.int .i64 0, .string ⟨#[]⟩, .int .i64 0, .slice none 0 0, .slice none 0 0, .slice none 0 0] 38)
  have B8 := (Below.heap_alloc (W.alloc (.cells #[.int .i64 0, .string ⟨#[]⟩, .int .i64 0, .slice none 0 0, .slice none 0 0, .slice none 0 0] 38)) (.cells #[.int .i64 0, .string ⟨#[]⟩, .int .i64 0, .slice none 0 0, .slice none 0 0, .slice none 0 0] 38) W.heap.size (by simp)).trans (heap_alloc_new W (.cells #[.int .i64 0, .string ⟨#[]⟩, .int .i64 0, .slice none 0 0, .slice none 0 0, .slice none 0 0] 38))
  have B7 := heap_alloc_new (W.alloc (.cells #[.int .i64 0, .string ⟨#[]⟩, .int .i64 0, .slice none 0 0, .slice none 0 0, .slice none 0 0] 38)) (.cells #[.int .i64 0, .string ⟨#[]⟩, .int .i64 0, .slice none 0 0, .slice none 0 0, .slice none 0 0] 38)
  rw [World.size_alloc] at B7
  have g0 := ((Gr.refl rb W).alloc (.cells #[.int .i64 0, .string ⟨#[]⟩, .int .i64 0, .slice none 0 0, .slice none 0 0, .slice none 0 0] 38)).alloc (.cells #[.int .i64 0, .string ⟨#[]⟩, .int .i64 0, .slice none 0 0, .slice none 0 0, .slice none 0 0] 38)
  have z0 : ((W.alloc (.cells #[.int .i64 0, .string ⟨#[]⟩, .int .i64 0, .slice none 0 0, .slice none 0 0, .slice none 0 0] 38)).alloc (.cells #[.int .i64 0, .string ⟨#[]⟩, .int .i64 0, .slice none 0 0, .slice none 0 0, .slice none 0 0] 38)).heap.size = W.heap.size + 2 := by simp
  clear h b0 b1 b2
  go_enter Tryd.func47, Tryd.ntmps47
  go_upto_region 3 with fail
  obtain ⟨w0, hw0⟩ : ∃ W1, (W.alloc (.cells #[.int .i64 0, .string ⟨#[]⟩, .int .i64 0, .slice none 0 0, .slice none 0 0, .slice none 0 0] 38)).alloc (.cells #[.int .i64 0, .string ⟨#[]⟩, .int .i64 0, .slice none 0 0, .slice none 0 0, .slice none 0 0] 38) = W1 := ⟨_, rfl⟩
  rw [hw0] at h0 B8 B7 g0 z0 ⊢
  clear hw0
  obtain ⟨n3, hn3⟩ : ∃ n3, W.heap.size + 1 = n3 := ⟨_, rfl⟩
  rw [hn3] at B7 ⊢
  go_upto_region 9 with (first
    | (go_at_call 58; ((with_reducible refine (HT0.out _ h0).mono ?_); rintro e x0 ⟨rfl, e0⟩; have t0 := h0.below e0; have ee0 := e0))
    | (go_at_call 58; ((with_reducible refine (HT1.out _ t0).mono ?_); rintro e x1 ⟨rfl, e1⟩; have t1 := t0.below e1; have ee1 := ee0.trans (e1.mono ee0.size)))
    | (go_at_call 58; ((with_reducible refine (HT2.out _ t1).mono ?_); rintro e w2 ⟨rfl, h2, gq⟩; have gg := (Gr.of ee1).trans gq)))
  have z2 := gg.size
  have B7 := (gg.block (lt_heap B7) (by omega)).trans B7
  have B8 := (gg.block (lt_heap B8) (by omega)).trans B8
  have g2 := g0.trans gg
  clear gg
  clear h0 g0 HT0 HT1 HT2
  have HB7 := Lib.hid (fun w5 (g5 : Gr rb w2 w5) => (g5.block (lt_heap B7) (by omega)).trans B7)
  have HB8 := Lib.hid (fun w5 (g5 : Gr rb w2 w5) => (g5.block (lt_heap B8) (by omega)).trans B8)
  go_upto_region 18 with (go_at_call 62; ((with_reducible refine (HXX.out _ h2).mono ?_); rintro e w5 ⟨⟨vv, rfl, vl, vx, vy, rfl, hvl, hvx, hvy, hok⟩, ⟨i5, h5, hd5⟩, g5⟩; obtain ⟨A1, k1, el1, _⟩ := id hvl; obtain ⟨A2, k2, el2, _⟩ := id hvx; obtain ⟨A3, k3, el3, _⟩ := id hvy; subst el1; subst el2; subst el3; have B7 := HB7.out w5 g5; have c0 := box_cell B7 0; have f0 := box_frozen B7 0; have c1 := box_cell B7 1; have f1 := box_frozen B7 1; have c2 := box_cell B7 2; have f2 := box_frozen B7 2; have c3 := box_cell B7 3; have f3 := box_frozen B7 3; have c4 := box_cell B7 4; have f4 := box_frozen B7 4; have c5 := box_cell B7 5; have f5 := box_frozen B7 5; simp only [List.getElem?_toArray, List.getElem?_cons_succ, List.getElem?_cons_zero] at c0 c1 c2 c3 c4 c5))
  have z5 := g5.size
  have hl7 := lt_heap B7
  have h6 : Rd (Proofs.YtmpdnikabkandaaDoor.put6 w5 n3 (.int .i64 t.op) (.string t.s) (.int .i64 t.n) (.slice A1 t.l.len k1) (.slice A2 t.x.len k2) (.slice A3 t.y.len k3)) rb g N cT T i5 o := h5.put6 (by omega) (by omega)
  have g6 : Gr rb W (Proofs.YtmpdnikabkandaaDoor.put6 w5 n3 (.int .i64 t.op) (.string t.s) (.int .i64 t.n) (.slice A1 t.l.len k1) (.slice A2 t.x.len k2) (.slice A3 t.y.len k3)) := (g2.trans g5).put6 (by omega)
  have B7 := put6_heap (a := .int .i64 t.op) (b := .string t.s) (c := .int .i64 t.n) (d := .slice A1 t.l.len k1) (x := .slice A2 t.x.len k2) (y := .slice A3 t.y.len k3) B7
  have B8 : (Proofs.YtmpdnikabkandaaDoor.put6 w5 n3 (.int .i64 t.op) (.string t.s) (.int .i64 t.n) (.slice A1 t.l.len k1) (.slice A2 t.x.len k2) (.slice A3 t.y.len k3)).heap[W.heap.size]? = _ := (put6_block (show W.heap.size ≠ n3 by omega)).trans (HB8.out w5 g5)
  have hL : EX w2.heap.size (Proofs.YtmpdnikabkandaaDoor.put6 w5 n3 (.int .i64 t.op) (.string t.s) (.int .i64 t.n) (.slice A1 t.l.len k1) (.slice A2 t.x.len k2) (.slice A3 t.y.len k3)) _ _ := hvl.kp (Kp.put6 (by omega)) (Nat.le_refl _)
  have hX : SX w2.heap.size (Proofs.YtmpdnikabkandaaDoor.put6 w5 n3 (.int .i64 t.op) (.string t.s) (.int .i64 t.n) (.slice A1 t.l.len k1) (.slice A2 t.x.len k2) (.slice A3 t.y.len k3)) _ _ := hvx.kp (Kp.put6 (by omega)) (Nat.le_refl _)
  have hY : SX w2.heap.size (Proofs.YtmpdnikabkandaaDoor.put6 w5 n3 (.int .i64 t.op) (.string t.s) (.int .i64 t.n) (.slice A1 t.l.len k1) (.slice A2 t.x.len k2) (.slice A3 t.y.len k3)) _ _ := hvy.kp (Kp.put6 (by omega)) (Nat.le_refl _)
  have zp : (Proofs.YtmpdnikabkandaaDoor.put6 w5 n3 (.int .i64 t.op) (.string t.s) (.int .i64 t.n) (.slice A1 t.l.len k1) (.slice A2 t.x.len k2) (.slice A3 t.y.len k3)).heap.size = w5.heap.size := put6_size
  obtain ⟨w6, hw6⟩ : ∃ W5, (Proofs.YtmpdnikabkandaaDoor.put6 w5 n3 (.int .i64 t.op) (.string t.s) (.int .i64 t.n) (.slice A1 t.l.len k1) (.slice A2 t.x.len k2) (.slice A3 t.y.len k3)) = W5 := ⟨_, rfl⟩
  show Code.wp _ _ _ _ (Proofs.YtmpdnikabkandaaDoor.put6 w5 n3 (.int .i64 t.op) (.string t.s) (.int .i64 t.n) (.slice A1 t.l.len k1) (.slice A2 t.x.len k2) (.slice A3 t.y.len k3))
  rw [hw6] at h6 g6 B7 B8 hL hX hY zp ⊢
  clear hw6 c0 c1 c2 c3 c4 c5 f0 f1 f2 f3 f4 f5 HB7 HB8 h5
  go_upto_region 19 with (go_at_call 43; ((with_reducible refine (HW.out _ i5 h6 hd5).mono ?_); rintro e w7 ⟨rfl, h7, g7⟩))
  have z7 := g7.size
  have hl7 := lt_heap B7
  have hl8 := lt_heap B8
  have B7 := (g7.block (lt_heap B7) (by omega)).trans B7
  have B8 := (g7.block (lt_heap B8) (by omega)).trans B8
  have g8 := g6.trans g7
  have hd7 : T.drop (i5 + 1) = r.tail := by rw [← hd5, drop_tail]
  have hL := hL.kp (Kp.gr g7 (show rb < w2.heap.size by omega)) (Nat.le_refl _)
  have hX := hX.kp (Kp.gr g7 (show rb < w2.heap.size by omega)) (Nat.le_refl _)
  have hY := hY.kp (Kp.gr g7 (show rb < w2.heap.size by omega)) (Nat.le_refl _)
  have c0 := box_cell B8 0
  have f0 := box_frozen B8 0
  have d0 := box_cell B7 0
  have c1 := box_cell B8 1
  have f1 := box_frozen B8 1
  have d1 := box_cell B7 1
  have c2 := box_cell B8 2
  have f2 := box_frozen B8 2
  have d2 := box_cell B7 2
  have c3 := box_cell B8 3
  have f3 := box_frozen B8 3
  have d3 := box_cell B7 3
  have c4 := box_cell B8 4
  have f4 := box_frozen B8 4
  have d4 := box_cell B7 4
  have c5 := box_cell B8 5
  have f5 := box_frozen B8 5
  have d5 := box_cell B7 5
  simp only [List.getElem?_toArray, List.getElem?_cons_succ, List.getElem?_cons_zero] at c0 d0 c1 d1 c2 d2 c3 d3 c4 d4 c5 d5
  have hP := put6_heap (a := .int .i64 t.op) (b := .string t.s) (c := .int .i64 t.n) (d := .slice A1 t.l.len k1) (x := .slice A2 t.x.len k2) (y := .slice A3 t.y.len k3) B8
  have hfin : TP rb g N cT o T W (.ok t r.tail) (.returned (.agg #[.int .i64 t.op, .string t.s, .int .i64 t.n, .slice A1 t.l.len k1, .slice A2 t.x.len k2, .slice A3 t.y.len k3])) (Proofs.YtmpdnikabkandaaDoor.put6 w7 W.heap.size (.int .i64 t.op) (.string t.s) (.int .i64 t.n) (.slice A1 t.l.len k1) (.slice A2 t.x.len k2) (.slice A3 t.y.len k3)) :=
    ⟨⟨_, rfl, _, _, _, rfl, hL.kp (Kp.put6 (by omega)) (by omega), hX.kp (Kp.put6 (by omega)) (by omega), hY.kp (Kp.put6 (by omega)) (by omega), hok⟩, ⟨i5 + 1, h7.put6 (by omega) (by omega), hd7⟩, g8.put6 (Nat.le_refl _)⟩
  go_wp2
  obtain ⟨wz, hwz⟩ : ∃ W5, (Proofs.YtmpdnikabkandaaDoor.put6 w7 W.heap.size (.int .i64 t.op) (.string t.s) (.int .i64 t.n) (.slice A1 t.l.len k1) (.slice A2 t.x.len k2) (.slice A3 t.y.len k3)) = W5 := ⟨_, rfl⟩
  show bodyPost _ _ _ _ _ (Proofs.YtmpdnikabkandaaDoor.put6 w7 W.heap.size (.int .i64 t.op) (.string t.s) (.int .i64 t.n) (.slice A1 t.l.len k1) (.slice A2 t.x.len k2) (.slice A3 t.y.len k3))
  rw [hwz] at hP hfin ⊢
  have p0 := box_cell hP 0
  have p1 := box_cell hP 1
  have p2 := box_cell hP 2
  have p3 := box_cell hP 3
  have p4 := box_cell hP 4
  have p5 := box_cell hP 5
  simp only [List.getElem?_toArray, List.getElem?_cons_succ, List.getElem?_cons_zero] at p0 p1 p2 p3 p4 p5
  exact bodyPost_ret (v := .agg #[.int .i64 t.op, .string t.s, .int .i64 t.n, .slice A1 t.l.len k1, .slice A2 t.x.len k2, .slice A3 t.y.len k3]) (by simp [results, Tryd.results47, go_sem, p0, p1, p2, p3, p4, p5]) rfl hfin

set_option maxRecDepth 100000 in
theorem st3_bad {W : World} {rb g N cT i o : Nat} {T : List Tok} (h : Rd W rb g N cT T i o) (b0 : isT (T.drop i) [97, 114, 114, 97, 121] = false) (b1 : isT (T.drop i) [105, 110, 112, 117, 116] = false) (b2 : isT (T.drop i) [112, 114, 105, 110, 116] = false) (b3 : isT (T.drop i) [107, 101, 101, 112] = true) (p c : Nat)
    (HX : ∀ W2, Rd W2 rb g N cT T (i + 1) o → Calls Tryd.prog 62 #[.pointer (some ⟨rb, 0, none⟩), .int .i64 6] W2 (TP rb g N cT o T W2 (.bad p c))) :
    Calls Tryd.prog 47 #[.pointer (some ⟨rb, 0, none⟩)] W (TP rb g N cT o T W (.bad p c)) := by
  have HXX := Lib.hid HX
  clear HX
  have HT0 := Lib.hid (fun w1 (h1 : Rd w1 rb g N cT T i o) => (show Calls Tryd.prog 58 #[.pointer (some ⟨rb, 0, none⟩), .string ⟨#[97, 114, 114, 97, 121]⟩] w1 (fun e w' => e = .returned (.bool false) ∧ Below w1.heap.size w1 w') from take_no h1 [97, 114, 114, 97, 121] b0))
  have HT1 := Lib.hid (fun w1 (h1 : Rd w1 rb g N cT T i o) => (show Calls Tryd.prog 58 #[.pointer (some ⟨rb, 0, none⟩), .string ⟨#[105, 110, 112, 117, 116]⟩] w1 (fun e w' => e = .returned (.bool false) ∧ Below w1.heap.size w1 w') from take_no h1 [105, 110, 112, 117, 116] b1))
  have HT2 := Lib.hid (fun w1 (h1 : Rd w1 rb g N cT T i o) => (show Calls Tryd.prog 58 #[.pointer (some ⟨rb, 0, none⟩), .string ⟨#[112, 114, 105, 110, 116]⟩] w1 (fun e w' => e = .returned (.bool false) ∧ Below w1.heap.size w1 w') from take_no h1 [112, 114, 105, 110, 116] b2))
  have HT3 := Lib.hid (fun w1 (h1 : Rd w1 rb g N cT T i o) => (show Calls Tryd.prog 58 #[.pointer (some ⟨rb, 0, none⟩), .string ⟨#[107, 101, 101, 112]⟩] w1 (fun e w' => e = .returned (.bool true) ∧ Rd w' rb g N cT T (i + 1) o ∧ Gr rb w1 w') from take_yes h1 [107, 101, 101, 112] (by decide) b3))
  have hrl := h.rlt
  have hgl := h.tok.1
  have h0 := (h.alloc (.cells #[.int .i64 0, .string ⟨#[]⟩, .int .i64 0, .slice none 0 0, .slice none 0 0, .slice none 0 0] 38)).alloc (.cells #[.int .i64 0, .string ⟨#[]⟩, .int .i64 0, .slice none 0 0, .slice none 0 0, .slice none 0 0] 38)
  have B8 := (Below.heap_alloc (W.alloc (.cells #[.int .i64 0, .string ⟨#[]⟩, .int .i64 0, .slice none 0 0, .slice none 0 0, .slice none 0 0] 38)) (.cells #[.int .i64 0, .string ⟨#[]⟩, .int .i64 0, .slice none 0 0, .slice none 0 0, .slice none 0 0] 38) W.heap.size (by simp)).trans (heap_alloc_new W (.cells #[.int .i64 0, .string ⟨#[]⟩, .int .i64 0, .slice none 0 0, .slice none 0 0, .slice none 0 0] 38))
  have B7 := heap_alloc_new (W.alloc (.cells #[.int .i64 0, .string ⟨#[]⟩, .int .i64 0, .slice none 0 0, .slice none 0 0, .slice none 0 0] 38)) (.cells #[.int .i64 0, .string ⟨#[]⟩, .int .i64 0, .slice none 0 0, .slice none 0 0, .slice none 0 0] 38)
  rw [World.size_alloc] at B7
  have g0 := ((Gr.refl rb W).alloc (.cells #[.int .i64 0, .string ⟨#[]⟩, .int .i64 0, .slice none 0 0, .slice none 0 0, .slice none 0 0] 38)).alloc (.cells #[.int .i64 0, .string ⟨#[]⟩, .int .i64 0, .slice none 0 0, .slice none 0 0, .slice none 0 0] 38)
  have z0 : ((W.alloc (.cells #[.int .i64 0, .string ⟨#[]⟩, .int .i64 0, .slice none 0 0, .slice none 0 0, .slice none 0 0] 38)).alloc (.cells #[.int .i64 0, .string ⟨#[]⟩, .int .i64 0, .slice none 0 0, .slice none 0 0, .slice none 0 0] 38)).heap.size = W.heap.size + 2 := by simp
  clear h b0 b1 b2 b3
  go_enter Tryd.func47, Tryd.ntmps47
  go_upto_region 3 with fail
  obtain ⟨w0, hw0⟩ : ∃ W1, (W.alloc (.cells #[.int .i64 0, .string ⟨#[]⟩, .int .i64 0, .slice none 0 0, .slice none 0 0, .slice none 0 0] 38)).alloc (.cells #[.int .i64 0, .string ⟨#[]⟩, .int .i64 0, .slice none 0 0, .slice none 0 0, .slice none 0 0] 38) = W1 := ⟨_, rfl⟩
  rw [hw0] at h0 B8 B7 g0 z0 ⊢
  clear hw0
  obtain ⟨n3, hn3⟩ : ∃ n3, W.heap.size + 1 = n3 := ⟨_, rfl⟩
  rw [hn3] at B7 ⊢
  go_upto_region 11 with (first
    | (go_at_call 58; ((with_reducible refine (HT0.out _ h0).mono ?_); rintro e x0 ⟨rfl, e0⟩; have t0 := h0.below e0; have ee0 := e0))
    | (go_at_call 58; ((with_reducible refine (HT1.out _ t0).mono ?_); rintro e x1 ⟨rfl, e1⟩; have t1 := t0.below e1; have ee1 := ee0.trans (e1.mono ee0.size)))
    | (go_at_call 58; ((with_reducible refine (HT2.out _ t1).mono ?_); rintro e x2 ⟨rfl, e2⟩; have t2 := t1.below e2; have ee2 := ee1.trans (e2.mono ee1.size)))
    | (go_at_call 58; ((with_reducible refine (HT3.out _ t2).mono ?_); rintro e w2 ⟨rfl, h2, gq⟩; have gg := (Gr.of ee2).trans gq)))
  have z2 := gg.size
  have B7 := (gg.block (lt_heap B7) (by omega)).trans B7
  have B8 := (gg.block (lt_heap B8) (by omega)).trans B8
  have g2 := g0.trans gg
  clear gg
  clear h0 g0 HT0 HT1 HT2 HT3
  go_wp2_with (go_at_call 62; ((with_reducible refine (HXX.out _ h2).mono ?_); rintro e w5 ⟨rfl, g5⟩))
  exact ⟨rfl, rfl, g2.trans g5⟩

set_option maxRecDepth 100000 in
theorem st3_no {W : World} {rb g N cT i o : Nat} {T : List Tok} (h : Rd W rb g N cT T i o) (b0 : isT (T.drop i) [97, 114, 114, 97, 121] = false) (b1 : isT (T.drop i) [105, 110, 112, 117, 116] = false) (b2 : isT (T.drop i) [112, 114, 105, 110, 116] = false) (b3 : isT (T.drop i) [107, 101, 101, 112] = true) (t : Sm) (r : List Tok) (bs : isT r [59] = false)
    (HX : ∀ W2, Rd W2 rb g N cT T (i + 1) o → Calls Tryd.prog 62 #[.pointer (some ⟨rb, 0, none⟩), .int .i64 6] W2 (TP rb g N cT o T W2 (.ok t r))) :
    Calls Tryd.prog 47 #[.pointer (some ⟨rb, 0, none⟩)] W (TP rb g N cT o T W (.bad (hdT r).at_ 2)) := by
  have HXX := Lib.hid HX
  have HW := Lib.hid (fun w2 i2 (h2 : Rd w2 rb g N cT T i2 o) (hd : T.drop i2 = r) => (show Calls Tryd.prog 43 #[.pointer (some ⟨rb, 0, none⟩), .string ⟨#[59]⟩] w2 (fun e w' => e = flt (hdT r).at_ 2 ∧ Below w2.heap.size w2 w') from want_no h2 [59] (by rw [hd]; exact bs) _ (by rw [hd])))
  clear HX bs
  have HT0 := Lib.hid (fun w1 (h1 : Rd w1 rb g N cT T i o) => (show Calls Tryd.prog 58 #[.pointer (some ⟨rb, 0, none⟩), .string ⟨#[97, 114, 114, 97, 121]⟩] w1 (fun e w' => e = .returned (.bool false) ∧ Below w1.heap.size w1 w') from take_no h1 [97, 114, 114, 97, 121] b0))
  have HT1 := Lib.hid (fun w1 (h1 : Rd w1 rb g N cT T i o) => (show Calls Tryd.prog 58 #[.pointer (some ⟨rb, 0, none⟩), .string ⟨#[105, 110, 112, 117, 116]⟩] w1 (fun e w' => e = .returned (.bool false) ∧ Below w1.heap.size w1 w') from take_no h1 [105, 110, 112, 117, 116] b1))
  have HT2 := Lib.hid (fun w1 (h1 : Rd w1 rb g N cT T i o) => (show Calls Tryd.prog 58 #[.pointer (some ⟨rb, 0, none⟩), .string ⟨#[112, 114, 105, 110, 116]⟩] w1 (fun e w' => e = .returned (.bool false) ∧ Below w1.heap.size w1 w') from take_no h1 [112, 114, 105, 110, 116] b2))
  have HT3 := Lib.hid (fun w1 (h1 : Rd w1 rb g N cT T i o) => (show Calls Tryd.prog 58 #[.pointer (some ⟨rb, 0, none⟩), .string ⟨#[107, 101, 101, 112]⟩] w1 (fun e w' => e = .returned (.bool true) ∧ Rd w' rb g N cT T (i + 1) o ∧ Gr rb w1 w') from take_yes h1 [107, 101, 101, 112] (by decide) b3))
  have hrl := h.rlt
  have hgl := h.tok.1
  have h0 := (h.alloc (.cells #[.int .i64 0, .string ⟨#[]⟩, .int .i64 0, .slice none 0 0, .slice none 0 0, .slice none 0 0] 38)).alloc (.cells #[.int .i64 0, .string ⟨#[]⟩, .int .i64 0, .slice none 0 0, .slice none 0 0, .slice none 0 0] 38)
  have B8 := (Below.heap_alloc (W.alloc (.cells #[.int .i64 0, .string ⟨#[]⟩, .int .i64 0, .slice none 0 0, .slice none 0 0, .slice none 0 0] 38)) (.cells #[.int .i64 0, .string ⟨#[]⟩, .int .i64 0, .slice none 0 0, .slice none 0 0, .slice none 0 0] 38) W.heap.size (by simp)).trans (heap_alloc_new W (.cells #[.int .i64 0, .string ⟨#[]⟩, .int .i64 0, .slice none 0 0, .slice none 0 0, .slice none 0 0] 38))
  have B7 := heap_alloc_new (W.alloc (.cells #[.int .i64 0, .string ⟨#[]⟩, .int .i64 0, .slice none 0 0, .slice none 0 0, .slice none 0 0] 38)) (.cells #[.int .i64 0, .string ⟨#[]⟩, .int .i64 0, .slice none 0 0, .slice none 0 0, .slice none 0 0] 38)
  rw [World.size_alloc] at B7
  have g0 := ((Gr.refl rb W).alloc (.cells #[.int .i64 0, .string ⟨#[]⟩, .int .i64 0, .slice none 0 0, .slice none 0 0, .slice none 0 0] 38)).alloc (.cells #[.int .i64 0, .string ⟨#[]⟩, .int .i64 0, .slice none 0 0, .slice none 0 0, .slice none 0 0] 38)
  have z0 : ((W.alloc (.cells #[.int .i64 0, .string ⟨#[]⟩, .int .i64 0, .slice none 0 0, .slice none 0 0, .slice none 0 0] 38)).alloc (.cells #[.int .i64 0, .string ⟨#[]⟩, .int .i64 0, .slice none 0 0, .slice none 0 0, .slice none 0 0] 38)).heap.size = W.heap.size + 2 := by simp
  clear h b0 b1 b2 b3
  go_enter Tryd.func47, Tryd.ntmps47
  go_upto_region 3 with fail
  obtain ⟨w0, hw0⟩ : ∃ W1, (W.alloc (.cells #[.int .i64 0, .string ⟨#[]⟩, .int .i64 0, .slice none 0 0, .slice none 0 0, .slice none 0 0] 38)).alloc (.cells #[.int .i64 0, .string ⟨#[]⟩, .int .i64 0, .slice none 0 0, .slice none 0 0, .slice none 0 0] 38) = W1 := ⟨_, rfl⟩
  rw [hw0] at h0 B8 B7 g0 z0 ⊢
  clear hw0
  obtain ⟨n3, hn3⟩ : ∃ n3, W.heap.size + 1 = n3 := ⟨_, rfl⟩
  rw [hn3] at B7 ⊢
  go_upto_region 11 with (first
    | (go_at_call 58; ((with_reducible refine (HT0.out _ h0).mono ?_); rintro e x0 ⟨rfl, e0⟩; have t0 := h0.below e0; have ee0 := e0))
    | (go_at_call 58; ((with_reducible refine (HT1.out _ t0).mono ?_); rintro e x1 ⟨rfl, e1⟩; have t1 := t0.below e1; have ee1 := ee0.trans (e1.mono ee0.size)))
    | (go_at_call 58; ((with_reducible refine (HT2.out _ t1).mono ?_); rintro e x2 ⟨rfl, e2⟩; have t2 := t1.below e2; have ee2 := ee1.trans (e2.mono ee1.size)))
    | (go_at_call 58; ((with_reducible refine (HT3.out _ t2).mono ?_); rintro e w2 ⟨rfl, h2, gq⟩; have gg := (Gr.of ee2).trans gq)))
  have z2 := gg.size
  have B7 := (gg.block (lt_heap B7) (by omega)).trans B7
  have B8 := (gg.block (lt_heap B8) (by omega)).trans B8
  have g2 := g0.trans gg
  clear gg
  clear h0 g0 HT0 HT1 HT2 HT3
  have HB7 := Lib.hid (fun w5 (g5 : Gr rb w2 w5) => (g5.block (lt_heap B7) (by omega)).trans B7)
  have HB8 := Lib.hid (fun w5 (g5 : Gr rb w2 w5) => (g5.block (lt_heap B8) (by omega)).trans B8)
  go_upto_region 18 with (go_at_call 62; ((with_reducible refine (HXX.out _ h2).mono ?_); rintro e w5 ⟨⟨vv, rfl, vl, vx, vy, rfl, hvl, hvx, hvy, hok⟩, ⟨i5, h5, hd5⟩, g5⟩; obtain ⟨A1, k1, el1, _⟩ := id hvl; obtain ⟨A2, k2, el2, _⟩ := id hvx; obtain ⟨A3, k3, el3, _⟩ := id hvy; subst el1; subst el2; subst el3; have B7 := HB7.out w5 g5; have c0 := box_cell B7 0; have f0 := box_frozen B7 0; have c1 := box_cell B7 1; have f1 := box_frozen B7 1; have c2 := box_cell B7 2; have f2 := box_frozen B7 2; have c3 := box_cell B7 3; have f3 := box_frozen B7 3; have c4 := box_cell B7 4; have f4 := box_frozen B7 4; have c5 := box_cell B7 5; have f5 := box_frozen B7 5; simp only [List.getElem?_toArray, List.getElem?_cons_succ, List.getElem?_cons_zero] at c0 c1 c2 c3 c4 c5))
  have z5 := g5.size
  have hl7 := lt_heap B7
  have h6 : Rd (Proofs.YtmpdnikabkandaaDoor.put6 w5 n3 (.int .i64 t.op) (.string t.s) (.int .i64 t.n) (.slice A1 t.l.len k1) (.slice A2 t.x.len k2) (.slice A3 t.y.len k3)) rb g N cT T i5 o := h5.put6 (by omega) (by omega)
  have g6 : Gr rb W (Proofs.YtmpdnikabkandaaDoor.put6 w5 n3 (.int .i64 t.op) (.string t.s) (.int .i64 t.n) (.slice A1 t.l.len k1) (.slice A2 t.x.len k2) (.slice A3 t.y.len k3)) := (g2.trans g5).put6 (by omega)
  have B7 := put6_heap (a := .int .i64 t.op) (b := .string t.s) (c := .int .i64 t.n) (d := .slice A1 t.l.len k1) (x := .slice A2 t.x.len k2) (y := .slice A3 t.y.len k3) B7
  have B8 : (Proofs.YtmpdnikabkandaaDoor.put6 w5 n3 (.int .i64 t.op) (.string t.s) (.int .i64 t.n) (.slice A1 t.l.len k1) (.slice A2 t.x.len k2) (.slice A3 t.y.len k3)).heap[W.heap.size]? = _ := (put6_block (show W.heap.size ≠ n3 by omega)).trans (HB8.out w5 g5)
  have hL : EX w2.heap.size (Proofs.YtmpdnikabkandaaDoor.put6 w5 n3 (.int .i64 t.op) (.string t.s) (.int .i64 t.n) (.slice A1 t.l.len k1) (.slice A2 t.x.len k2) (.slice A3 t.y.len k3)) _ _ := hvl.kp (Kp.put6 (by omega)) (Nat.le_refl _)
  have hX : SX w2.heap.size (Proofs.YtmpdnikabkandaaDoor.put6 w5 n3 (.int .i64 t.op) (.string t.s) (.int .i64 t.n) (.slice A1 t.l.len k1) (.slice A2 t.x.len k2) (.slice A3 t.y.len k3)) _ _ := hvx.kp (Kp.put6 (by omega)) (Nat.le_refl _)
  have hY : SX w2.heap.size (Proofs.YtmpdnikabkandaaDoor.put6 w5 n3 (.int .i64 t.op) (.string t.s) (.int .i64 t.n) (.slice A1 t.l.len k1) (.slice A2 t.x.len k2) (.slice A3 t.y.len k3)) _ _ := hvy.kp (Kp.put6 (by omega)) (Nat.le_refl _)
  have zp : (Proofs.YtmpdnikabkandaaDoor.put6 w5 n3 (.int .i64 t.op) (.string t.s) (.int .i64 t.n) (.slice A1 t.l.len k1) (.slice A2 t.x.len k2) (.slice A3 t.y.len k3)).heap.size = w5.heap.size := put6_size
  obtain ⟨w6, hw6⟩ : ∃ W5, (Proofs.YtmpdnikabkandaaDoor.put6 w5 n3 (.int .i64 t.op) (.string t.s) (.int .i64 t.n) (.slice A1 t.l.len k1) (.slice A2 t.x.len k2) (.slice A3 t.y.len k3)) = W5 := ⟨_, rfl⟩
  show Code.wp _ _ _ _ (Proofs.YtmpdnikabkandaaDoor.put6 w5 n3 (.int .i64 t.op) (.string t.s) (.int .i64 t.n) (.slice A1 t.l.len k1) (.slice A2 t.x.len k2) (.slice A3 t.y.len k3))
  rw [hw6] at h6 g6 B7 B8 hL hX hY zp ⊢
  clear hw6 c0 c1 c2 c3 c4 c5 f0 f1 f2 f3 f4 f5 HB7 HB8 h5
  go_wp2_with (go_at_call 43; ((with_reducible refine (HW.out _ i5 h6 hd5).mono ?_); rintro e w7 ⟨rfl, e7⟩))
  exact ⟨rfl, rfl, g6.trans (Gr.of e7)⟩

set_option maxRecDepth 100000 in
theorem st3_yes {W : World} {rb g N cT i o : Nat} {T : List Tok} (h : Rd W rb g N cT T i o) (b0 : isT (T.drop i) [97, 114, 114, 97, 121] = false) (b1 : isT (T.drop i) [105, 110, 112, 117, 116] = false) (b2 : isT (T.drop i) [112, 114, 105, 110, 116] = false) (b3 : isT (T.drop i) [107, 101, 101, 112] = true) (t : Sm) (r : List Tok) (bs : isT r [59] = true)
    (HX : ∀ W2, Rd W2 rb g N cT T (i + 1) o → Calls Tryd.prog 62 #[.pointer (some ⟨rb, 0, none⟩), .int .i64 6] W2 (TP rb g N cT o T W2 (.ok t r))) :
    Calls Tryd.prog 47 #[.pointer (some ⟨rb, 0, none⟩)] W (TP rb g N cT o T W (.ok t r.tail)) := by
  have HXX := Lib.hid HX
  have HW := Lib.hid (fun w2 i2 (h2 : Rd w2 rb g N cT T i2 o) (hd : T.drop i2 = r) => (show Calls Tryd.prog 43 #[.pointer (some ⟨rb, 0, none⟩), .string ⟨#[59]⟩] w2 (fun e w' => e = .returned (.tuple #[]) ∧ Rd w' rb g N cT T (i2 + 1) o ∧ Gr rb w2 w') from want_yes h2 [59] (by decide) (by rw [hd]; exact bs)))
  clear HX bs
  have HT0 := Lib.hid (fun w1 (h1 : Rd w1 rb g N cT T i o) => (show Calls Tryd.prog 58 #[.pointer (some ⟨rb, 0, none⟩), .string ⟨#[97, 114, 114, 97, 121]⟩] w1 (fun e w' => e = .returned (.bool false) ∧ Below w1.heap.size w1 w') from take_no h1 [97, 114, 114, 97, 121] b0))
  have HT1 := Lib.hid (fun w1 (h1 : Rd w1 rb g N cT T i o) => (show Calls Tryd.prog 58 #[.pointer (some ⟨rb, 0, none⟩), .string ⟨#[105, 110, 112, 117, 116]⟩] w1 (fun e w' => e = .returned (.bool false) ∧ Below w1.heap.size w1 w') from take_no h1 [105, 110, 112, 117, 116] b1))
  have HT2 := Lib.hid (fun w1 (h1 : Rd w1 rb g N cT T i o) => (show Calls Tryd.prog 58 #[.pointer (some ⟨rb, 0, none⟩), .string ⟨#[112, 114, 105, 110, 116]⟩] w1 (fun e w' => e = .returned (.bool false) ∧ Below w1.heap.size w1 w') from take_no h1 [112, 114, 105, 110, 116] b2))
  have HT3 := Lib.hid (fun w1 (h1 : Rd w1 rb g N cT T i o) => (show Calls Tryd.prog 58 #[.pointer (some ⟨rb, 0, none⟩), .string ⟨#[107, 101, 101, 112]⟩] w1 (fun e w' => e = .returned (.bool true) ∧ Rd w' rb g N cT T (i + 1) o ∧ Gr rb w1 w') from take_yes h1 [107, 101, 101, 112] (by decide) b3))
  have hrl := h.rlt
  have hgl := h.tok.1
  have h0 := (h.alloc (.cells #[.int .i64 0, .string ⟨#[]⟩, .int .i64 0, .slice none 0 0, .slice none 0 0, .slice none 0 0] 38)).alloc (.cells #[.int .i64 0, .string ⟨#[]⟩, .int .i64 0, .slice none 0 0, .slice none 0 0, .slice none 0 0] 38)
  have B8 := (Below.heap_alloc (W.alloc (.cells #[.int .i64 0, .string ⟨#[]⟩, .int .i64 0, .slice none 0 0, .slice none 0 0, .slice none 0 0] 38)) (.cells #[.int .i64 0, .string ⟨#[]⟩, .int .i64 0, .slice none 0 0, .slice none 0 0, .slice none 0 0] 38) W.heap.size (by simp)).trans (heap_alloc_new W (.cells #[.int .i64 0, .string ⟨#[]⟩, .int .i64 0, .slice none 0 0, .slice none 0 0, .slice none 0 0] 38))
  have B7 := heap_alloc_new (W.alloc (.cells #[.int .i64 0, .string ⟨#[]⟩, .int .i64 0, .slice none 0 0, .slice none 0 0, .slice none 0 0] 38)) (.cells #[.int .i64 0, .string ⟨#[]⟩, .int .i64 0, .slice none 0 0, .slice none 0 0, .slice none 0 0] 38)
  rw [World.size_alloc] at B7
  have g0 := ((Gr.refl rb W).alloc (.cells #[.int .i64 0, .string ⟨#[]⟩, .int .i64 0, .slice none 0 0, .slice none 0 0, .slice none 0 0] 38)).alloc (.cells #[.int .i64 0, .string ⟨#[]⟩, .int .i64 0, .slice none 0 0, .slice none 0 0, .slice none 0 0] 38)
  have z0 : ((W.alloc (.cells #[.int .i64 0, .string ⟨#[]⟩, .int .i64 0, .slice none 0 0, .slice none 0 0, .slice none 0 0] 38)).alloc (.cells #[.int .i64 0, .string ⟨#[]⟩, .int .i64 0, .slice none 0 0, .slice none 0 0, .slice none 0 0] 38)).heap.size = W.heap.size + 2 := by simp
  clear h b0 b1 b2 b3
  go_enter Tryd.func47, Tryd.ntmps47
  go_upto_region 3 with fail
  obtain ⟨w0, hw0⟩ : ∃ W1, (W.alloc (.cells #[.int .i64 0, .string ⟨#[]⟩, .int .i64 0, .slice none 0 0, .slice none 0 0, .slice none 0 0] 38)).alloc (.cells #[.int .i64 0, .string ⟨#[]⟩, .int .i64 0, .slice none 0 0, .slice none 0 0, .slice none 0 0] 38) = W1 := ⟨_, rfl⟩
  rw [hw0] at h0 B8 B7 g0 z0 ⊢
  clear hw0
  obtain ⟨n3, hn3⟩ : ∃ n3, W.heap.size + 1 = n3 := ⟨_, rfl⟩
  rw [hn3] at B7 ⊢
  go_upto_region 11 with (first
    | (go_at_call 58; ((with_reducible refine (HT0.out _ h0).mono ?_); rintro e x0 ⟨rfl, e0⟩; have t0 := h0.below e0; have ee0 := e0))
    | (go_at_call 58; ((with_reducible refine (HT1.out _ t0).mono ?_); rintro e x1 ⟨rfl, e1⟩; have t1 := t0.below e1; have ee1 := ee0.trans (e1.mono ee0.size)))
    | (go_at_call 58; ((with_reducible refine (HT2.out _ t1).mono ?_); rintro e x2 ⟨rfl, e2⟩; have t2 := t1.below e2; have ee2 := ee1.trans (e2.mono ee1.size)))
    | (go_at_call 58; ((with_reducible refine (HT3.out _ t2).mono ?_); rintro e w2 ⟨rfl, h2, gq⟩; have gg := (Gr.of ee2).trans gq)))
  have z2 := gg.size
  have B7 := (gg.block (lt_heap B7) (by omega)).trans B7
  have B8 := (gg.block (lt_heap B8) (by omega)).trans B8
  have g2 := g0.trans gg
  clear gg
  clear h0 g0 HT0 HT1 HT2 HT3
  have HB7 := Lib.hid (fun w5 (g5 : Gr rb w2 w5) => (g5.block (lt_heap B7) (by omega)).trans B7)
  have HB8 := Lib.hid (fun w5 (g5 : Gr rb w2 w5) => (g5.block (lt_heap B8) (by omega)).trans B8)
  go_upto_region 18 with (go_at_call 62; ((with_reducible refine (HXX.out _ h2).mono ?_); rintro e w5 ⟨⟨vv, rfl, vl, vx, vy, rfl, hvl, hvx, hvy, hok⟩, ⟨i5, h5, hd5⟩, g5⟩; obtain ⟨A1, k1, el1, _⟩ := id hvl; obtain ⟨A2, k2, el2, _⟩ := id hvx; obtain ⟨A3, k3, el3, _⟩ := id hvy; subst el1; subst el2; subst el3; have B7 := HB7.out w5 g5; have c0 := box_cell B7 0; have f0 := box_frozen B7 0; have c1 := box_cell B7 1; have f1 := box_frozen B7 1; have c2 := box_cell B7 2; have f2 := box_frozen B7 2; have c3 := box_cell B7 3; have f3 := box_frozen B7 3; have c4 := box_cell B7 4; have f4 := box_frozen B7 4; have c5 := box_cell B7 5; have f5 := box_frozen B7 5; simp only [List.getElem?_toArray, List.getElem?_cons_succ, List.getElem?_cons_zero] at c0 c1 c2 c3 c4 c5))
  have z5 := g5.size
  have hl7 := lt_heap B7
  have h6 : Rd (Proofs.YtmpdnikabkandaaDoor.put6 w5 n3 (.int .i64 t.op) (.string t.s) (.int .i64 t.n) (.slice A1 t.l.len k1) (.slice A2 t.x.len k2) (.slice A3 t.y.len k3)) rb g N cT T i5 o := h5.put6 (by omega) (by omega)
  have g6 : Gr rb W (Proofs.YtmpdnikabkandaaDoor.put6 w5 n3 (.int .i64 t.op) (.string t.s) (.int .i64 t.n) (.slice A1 t.l.len k1) (.slice A2 t.x.len k2) (.slice A3 t.y.len k3)) := (g2.trans g5).put6 (by omega)
  have B7 := put6_heap (a := .int .i64 t.op) (b := .string t.s) (c := .int .i64 t.n) (d := .slice A1 t.l.len k1) (x := .slice A2 t.x.len k2) (y := .slice A3 t.y.len k3) B7
  have B8 : (Proofs.YtmpdnikabkandaaDoor.put6 w5 n3 (.int .i64 t.op) (.string t.s) (.int .i64 t.n) (.slice A1 t.l.len k1) (.slice A2 t.x.len k2) (.slice A3 t.y.len k3)).heap[W.heap.size]? = _ := (put6_block (show W.heap.size ≠ n3 by omega)).trans (HB8.out w5 g5)
  have hL : EX w2.heap.size (Proofs.YtmpdnikabkandaaDoor.put6 w5 n3 (.int .i64 t.op) (.string t.s) (.int .i64 t.n) (.slice A1 t.l.len k1) (.slice A2 t.x.len k2) (.slice A3 t.y.len k3)) _ _ := hvl.kp (Kp.put6 (by omega)) (Nat.le_refl _)
  have hX : SX w2.heap.size (Proofs.YtmpdnikabkandaaDoor.put6 w5 n3 (.int .i64 t.op) (.string t.s) (.int .i64 t.n) (.slice A1 t.l.len k1) (.slice A2 t.x.len k2) (.slice A3 t.y.len k3)) _ _ := hvx.kp (Kp.put6 (by omega)) (Nat.le_refl _)
  have hY : SX w2.heap.size (Proofs.YtmpdnikabkandaaDoor.put6 w5 n3 (.int .i64 t.op) (.string t.s) (.int .i64 t.n) (.slice A1 t.l.len k1) (.slice A2 t.x.len k2) (.slice A3 t.y.len k3)) _ _ := hvy.kp (Kp.put6 (by omega)) (Nat.le_refl _)
  have zp : (Proofs.YtmpdnikabkandaaDoor.put6 w5 n3 (.int .i64 t.op) (.string t.s) (.int .i64 t.n) (.slice A1 t.l.len k1) (.slice A2 t.x.len k2) (.slice A3 t.y.len k3)).heap.size = w5.heap.size := put6_size
  obtain ⟨w6, hw6⟩ : ∃ W5, (Proofs.YtmpdnikabkandaaDoor.put6 w5 n3 (.int .i64 t.op) (.string t.s) (.int .i64 t.n) (.slice A1 t.l.len k1) (.slice A2 t.x.len k2) (.slice A3 t.y.len k3)) = W5 := ⟨_, rfl⟩
  show Code.wp _ _ _ _ (Proofs.YtmpdnikabkandaaDoor.put6 w5 n3 (.int .i64 t.op) (.string t.s) (.int .i64 t.n) (.slice A1 t.l.len k1) (.slice A2 t.x.len k2) (.slice A3 t.y.len k3))
  rw [hw6] at h6 g6 B7 B8 hL hX hY zp ⊢
  clear hw6 c0 c1 c2 c3 c4 c5 f0 f1 f2 f3 f4 f5 HB7 HB8 h5
  go_upto_region 19 with (go_at_call 43; ((with_reducible refine (HW.out _ i5 h6 hd5).mono ?_); rintro e w7 ⟨rfl, h7, g7⟩))
  have z7 := g7.size
  have hl7 := lt_heap B7
  have hl8 := lt_heap B8
  have B7 := (g7.block (lt_heap B7) (by omega)).trans B7
  have B8 := (g7.block (lt_heap B8) (by omega)).trans B8
  have g8 := g6.trans g7
  have hd7 : T.drop (i5 + 1) = r.tail := by rw [← hd5, drop_tail]
  have hL := hL.kp (Kp.gr g7 (show rb < w2.heap.size by omega)) (Nat.le_refl _)
  have hX := hX.kp (Kp.gr g7 (show rb < w2.heap.size by omega)) (Nat.le_refl _)
  have hY := hY.kp (Kp.gr g7 (show rb < w2.heap.size by omega)) (Nat.le_refl _)
  have c0 := box_cell B8 0
  have f0 := box_frozen B8 0
  have d0 := box_cell B7 0
  have c1 := box_cell B8 1
  have f1 := box_frozen B8 1
  have d1 := box_cell B7 1
  have c2 := box_cell B8 2
  have f2 := box_frozen B8 2
  have d2 := box_cell B7 2
  have c3 := box_cell B8 3
  have f3 := box_frozen B8 3
  have d3 := box_cell B7 3
  have c4 := box_cell B8 4
  have f4 := box_frozen B8 4
  have d4 := box_cell B7 4
  have c5 := box_cell B8 5
  have f5 := box_frozen B8 5
  have d5 := box_cell B7 5
  simp only [List.getElem?_toArray, List.getElem?_cons_succ, List.getElem?_cons_zero] at c0 d0 c1 d1 c2 d2 c3 d3 c4 d4 c5 d5
  have hP := put6_heap (a := .int .i64 t.op) (b := .string t.s) (c := .int .i64 t.n) (d := .slice A1 t.l.len k1) (x := .slice A2 t.x.len k2) (y := .slice A3 t.y.len k3) B8
  have hfin : TP rb g N cT o T W (.ok t r.tail) (.returned (.agg #[.int .i64 t.op, .string t.s, .int .i64 t.n, .slice A1 t.l.len k1, .slice A2 t.x.len k2, .slice A3 t.y.len k3])) (Proofs.YtmpdnikabkandaaDoor.put6 w7 W.heap.size (.int .i64 t.op) (.string t.s) (.int .i64 t.n) (.slice A1 t.l.len k1) (.slice A2 t.x.len k2) (.slice A3 t.y.len k3)) :=
    ⟨⟨_, rfl, _, _, _, rfl, hL.kp (Kp.put6 (by omega)) (by omega), hX.kp (Kp.put6 (by omega)) (by omega), hY.kp (Kp.put6 (by omega)) (by omega), hok⟩, ⟨i5 + 1, h7.put6 (by omega) (by omega), hd7⟩, g8.put6 (Nat.le_refl _)⟩
  go_wp2
  obtain ⟨wz, hwz⟩ : ∃ W5, (Proofs.YtmpdnikabkandaaDoor.put6 w7 W.heap.size (.int .i64 t.op) (.string t.s) (.int .i64 t.n) (.slice A1 t.l.len k1) (.slice A2 t.x.len k2) (.slice A3 t.y.len k3)) = W5 := ⟨_, rfl⟩
  show bodyPost _ _ _ _ _ (Proofs.YtmpdnikabkandaaDoor.put6 w7 W.heap.size (.int .i64 t.op) (.string t.s) (.int .i64 t.n) (.slice A1 t.l.len k1) (.slice A2 t.x.len k2) (.slice A3 t.y.len k3))
  rw [hwz] at hP hfin ⊢
  have p0 := box_cell hP 0
  have p1 := box_cell hP 1
  have p2 := box_cell hP 2
  have p3 := box_cell hP 3
  have p4 := box_cell hP 4
  have p5 := box_cell hP 5
  simp only [List.getElem?_toArray, List.getElem?_cons_succ, List.getElem?_cons_zero] at p0 p1 p2 p3 p4 p5
  exact bodyPost_ret (v := .agg #[.int .i64 t.op, .string t.s, .int .i64 t.n, .slice A1 t.l.len k1, .slice A2 t.x.len k2, .slice A3 t.y.len k3]) (by simp [results, Tryd.results47, go_sem, p0, p1, p2, p3, p4, p5]) rfl hfin

set_option maxRecDepth 100000 in
theorem st4_bad {W : World} {rb g N cT i o : Nat} {T : List Tok} (h : Rd W rb g N cT T i o) (b0 : isT (T.drop i) [97, 114, 114, 97, 121] = false) (b1 : isT (T.drop i) [105, 110, 112, 117, 116] = false) (b2 : isT (T.drop i) [112, 114, 105, 110, 116] = false) (b3 : isT (T.drop i) [107, 101, 101, 112] = false) (b4 : isT (T.drop i) [114, 101, 116, 117, 114, 110] = true) (p c : Nat)
    (HX : ∀ W2, Rd W2 rb g N cT T (i + 1) o → Calls Tryd.prog 62 #[.pointer (some ⟨rb, 0, none⟩), .int .i64 9] W2 (TP rb g N cT o T W2 (.bad p c))) :
    Calls Tryd.prog 47 #[.pointer (some ⟨rb, 0, none⟩)] W (TP rb g N cT o T W (.bad p c)) := by
  have HXX := Lib.hid HX
  clear HX
  have HT0 := Lib.hid (fun w1 (h1 : Rd w1 rb g N cT T i o) => (show Calls Tryd.prog 58 #[.pointer (some ⟨rb, 0, none⟩), .string ⟨#[97, 114, 114, 97, 121]⟩] w1 (fun e w' => e = .returned (.bool false) ∧ Below w1.heap.size w1 w') from take_no h1 [97, 114, 114, 97, 121] b0))
  have HT1 := Lib.hid (fun w1 (h1 : Rd w1 rb g N cT T i o) => (show Calls Tryd.prog 58 #[.pointer (some ⟨rb, 0, none⟩), .string ⟨#[105, 110, 112, 117, 116]⟩] w1 (fun e w' => e = .returned (.bool false) ∧ Below w1.heap.size w1 w') from take_no h1 [105, 110, 112, 117, 116] b1))
  have HT2 := Lib.hid (fun w1 (h1 : Rd w1 rb g N cT T i o) => (show Calls Tryd.prog 58 #[.pointer (some ⟨rb, 0, none⟩), .string ⟨#[112, 114, 105, 110, 116]⟩] w1 (fun e w' => e = .returned (.bool false) ∧ Below w1.heap.size w1 w') from take_no h1 [112, 114, 105, 110, 116] b2))
  have HT3 := Lib.hid (fun w1 (h1 : Rd w1 rb g N cT T i o) => (show Calls Tryd.prog 58 #[.pointer (some ⟨rb, 0, none⟩), .string ⟨#[107, 101, 101, 112]⟩] w1 (fun e w' => e = .returned (.bool false) ∧ Below w1.heap.size w1 w') from take_no h1 [107, 101, 101, 112] b3))
  have HT4 := Lib.hid (fun w1 (h1 : Rd w1 rb g N cT T i o) => (show Calls Tryd.prog 58 #[.pointer (some ⟨rb, 0, none⟩), .string ⟨#[114, 101, 116, 117, 114, 110]⟩] w1 (fun e w' => e = .returned (.bool true) ∧ Rd w' rb g N cT T (i + 1) o ∧ Gr rb w1 w') from take_yes h1 [114, 101, 116, 117, 114, 110] (by decide) b4))
  have hrl := h.rlt
  have hgl := h.tok.1
  have h0 := (h.alloc (.cells #[.int .i64 0, .string ⟨#[]⟩, .int .i64 0, .slice none 0 0, .slice none 0 0, .slice none 0 0] 38)).alloc (.cells #[.int .i64 0, .string ⟨#[]⟩, .int .i64 0, .slice none 0 0, .slice none 0 0, .slice none 0 0] 38)
  have B8 := (Below.heap_alloc (W.alloc (.cells #[.int .i64 0, .string ⟨#[]⟩, .int .i64 0, .slice none 0 0, .slice none 0 0, .slice none 0 0] 38)) (.cells #[.int .i64 0, .string ⟨#[]⟩, .int .i64 0, .slice none 0 0, .slice none 0 0, .slice none 0 0] 38) W.heap.size (by simp)).trans (heap_alloc_new W (.cells #[.int .i64 0, .string ⟨#[]⟩, .int .i64 0, .slice none 0 0, .slice none 0 0, .slice none 0 0] 38))
  have B7 := heap_alloc_new (W.alloc (.cells #[.int .i64 0, .string ⟨#[]⟩, .int .i64 0, .slice none 0 0, .slice none 0 0, .slice none 0 0] 38)) (.cells #[.int .i64 0, .string ⟨#[]⟩, .int .i64 0, .slice none 0 0, .slice none 0 0, .slice none 0 0] 38)
  rw [World.size_alloc] at B7
  have g0 := ((Gr.refl rb W).alloc (.cells #[.int .i64 0, .string ⟨#[]⟩, .int .i64 0, .slice none 0 0, .slice none 0 0, .slice none 0 0] 38)).alloc (.cells #[.int .i64 0, .string ⟨#[]⟩, .int .i64 0, .slice none 0 0, .slice none 0 0, .slice none 0 0] 38)
  have z0 : ((W.alloc (.cells #[.int .i64 0, .string ⟨#[]⟩, .int .i64 0, .slice none 0 0, .slice none 0 0, .slice none 0 0] 38)).alloc (.cells #[.int .i64 0, .string ⟨#[]⟩, .int .i64 0, .slice none 0 0, .slice none 0 0, .slice none 0 0] 38)).heap.size = W.heap.size + 2 := by simp
  clear h b0 b1 b2 b3 b4
  go_enter Tryd.func47, Tryd.ntmps47
  go_upto_region 3 with fail
  obtain ⟨w0, hw0⟩ : ∃ W1, (W.alloc (.cells #[.int .i64 0, .string ⟨#[]⟩, .int .i64 0, .slice none 0 0, .slice none 0 0, .slice none 0 0] 38)).alloc (.cells #[.int .i64 0, .string ⟨#[]⟩, .int .i64 0, .slice none 0 0, .slice none 0 0, .slice none 0 0] 38) = W1 := ⟨_, rfl⟩
  rw [hw0] at h0 B8 B7 g0 z0 ⊢
  clear hw0
  obtain ⟨n3, hn3⟩ : ∃ n3, W.heap.size + 1 = n3 := ⟨_, rfl⟩
  rw [hn3] at B7 ⊢
  go_upto_region 13 with (first
    | (go_at_call 58; ((with_reducible refine (HT0.out _ h0).mono ?_); rintro e x0 ⟨rfl, e0⟩; have t0 := h0.below e0; have ee0 := e0))
    | (go_at_call 58; ((with_reducible refine (HT1.out _ t0).mono ?_); rintro e x1 ⟨rfl, e1⟩; have t1 := t0.below e1; have ee1 := ee0.trans (e1.mono ee0.size)))
    | (go_at_call 58; ((with_reducible refine (HT2.out _ t1).mono ?_); rintro e x2 ⟨rfl, e2⟩; have t2 := t1.below e2; have ee2 := ee1.trans (e2.mono ee1.size)))
    | (go_at_call 58; ((with_reducible refine (HT3.out _ t2).mono ?_); rintro e x3 ⟨rfl, e3⟩; have t3 := t2.below e3; have ee3 := ee2.trans (e3.mono ee2.size)))
    | (go_at_call 58; ((with_reducible refine (HT4.out _ t3).mono ?_); rintro e w2 ⟨rfl, h2, gq⟩; have gg := (Gr.of ee3).trans gq)))
  have z2 := gg.size
  have B7 := (gg.block (lt_heap B7) (by omega)).trans B7
  have B8 := (gg.block (lt_heap B8) (by omega)).trans B8
  have g2 := g0.trans gg
  clear gg
  clear h0 g0 HT0 HT1 HT2 HT3 HT4
  go_wp2_with (go_at_call 62; ((with_reducible refine (HXX.out _ h2).mono ?_); rintro e w5 ⟨rfl, g5⟩))
  exact ⟨rfl, rfl, g2.trans g5⟩

set_option maxRecDepth 100000 in
theorem st4_no {W : World} {rb g N cT i o : Nat} {T : List Tok} (h : Rd W rb g N cT T i o) (b0 : isT (T.drop i) [97, 114, 114, 97, 121] = false) (b1 : isT (T.drop i) [105, 110, 112, 117, 116] = false) (b2 : isT (T.drop i) [112, 114, 105, 110, 116] = false) (b3 : isT (T.drop i) [107, 101, 101, 112] = false) (b4 : isT (T.drop i) [114, 101, 116, 117, 114, 110] = true) (t : Sm) (r : List Tok) (bs : isT r [59] = false)
    (HX : ∀ W2, Rd W2 rb g N cT T (i + 1) o → Calls Tryd.prog 62 #[.pointer (some ⟨rb, 0, none⟩), .int .i64 9] W2 (TP rb g N cT o T W2 (.ok t r))) :
    Calls Tryd.prog 47 #[.pointer (some ⟨rb, 0, none⟩)] W (TP rb g N cT o T W (.bad (hdT r).at_ 2)) := by
  have HXX := Lib.hid HX
  have HW := Lib.hid (fun w2 i2 (h2 : Rd w2 rb g N cT T i2 o) (hd : T.drop i2 = r) => (show Calls Tryd.prog 43 #[.pointer (some ⟨rb, 0, none⟩), .string ⟨#[59]⟩] w2 (fun e w' => e = flt (hdT r).at_ 2 ∧ Below w2.heap.size w2 w') from want_no h2 [59] (by rw [hd]; exact bs) _ (by rw [hd])))
  clear HX bs
  have HT0 := Lib.hid (fun w1 (h1 : Rd w1 rb g N cT T i o) => (show Calls Tryd.prog 58 #[.pointer (some ⟨rb, 0, none⟩), .string ⟨#[97, 114, 114, 97, 121]⟩] w1 (fun e w' => e = .returned (.bool false) ∧ Below w1.heap.size w1 w') from take_no h1 [97, 114, 114, 97, 121] b0))
  have HT1 := Lib.hid (fun w1 (h1 : Rd w1 rb g N cT T i o) => (show Calls Tryd.prog 58 #[.pointer (some ⟨rb, 0, none⟩), .string ⟨#[105, 110, 112, 117, 116]⟩] w1 (fun e w' => e = .returned (.bool false) ∧ Below w1.heap.size w1 w') from take_no h1 [105, 110, 112, 117, 116] b1))
  have HT2 := Lib.hid (fun w1 (h1 : Rd w1 rb g N cT T i o) => (show Calls Tryd.prog 58 #[.pointer (some ⟨rb, 0, none⟩), .string ⟨#[112, 114, 105, 110, 116]⟩] w1 (fun e w' => e = .returned (.bool false) ∧ Below w1.heap.size w1 w') from take_no h1 [112, 114, 105, 110, 116] b2))
  have HT3 := Lib.hid (fun w1 (h1 : Rd w1 rb g N cT T i o) => (show Calls Tryd.prog 58 #[.pointer (some ⟨rb, 0, none⟩), .string ⟨#[107, 101, 101, 112]⟩] w1 (fun e w' => e = .returned (.bool false) ∧ Below w1.heap.size w1 w') from take_no h1 [107, 101, 101, 112] b3))
  have HT4 := Lib.hid (fun w1 (h1 : Rd w1 rb g N cT T i o) => (show Calls Tryd.prog 58 #[.pointer (some ⟨rb, 0, none⟩), .string ⟨#[114, 101, 116, 117, 114, 110]⟩] w1 (fun e w' => e = .returned (.bool true) ∧ Rd w' rb g N cT T (i + 1) o ∧ Gr rb w1 w') from take_yes h1 [114, 101, 116, 117, 114, 110] (by decide) b4))
  have hrl := h.rlt
  have hgl := h.tok.1
  have h0 := (h.alloc (.cells #[.int .i64 0, .string ⟨#[]⟩, .int .i64 0, .slice none 0 0, .slice none 0 0, .slice none 0 0] 38)).alloc (.cells #[.int .i64 0, .string ⟨#[]⟩, .int .i64 0, .slice none 0 0, .slice none 0 0, .slice none 0 0] 38)
  have B8 := (Below.heap_alloc (W.alloc (.cells #[.int .i64 0, .string ⟨#[]⟩, .int .i64 0, .slice none 0 0, .slice none 0 0, .slice none 0 0] 38)) (.cells #[.int .i64 0, .string ⟨#[]⟩, .int .i64 0, .slice none 0 0, .slice none 0 0, .slice none 0 0] 38) W.heap.size (by simp)).trans (heap_alloc_new W (.cells #[.int .i64 0, .string ⟨#[]⟩, .int .i64 0, .slice none 0 0, .slice none 0 0, .slice none 0 0] 38))
  have B7 := heap_alloc_new (W.alloc (.cells #[.int .i64 0, .string ⟨#[]⟩, .int .i64 0, .slice none 0 0, .slice none 0 0, .slice none 0 0] 38)) (.cells #[.int .i64 0, .string ⟨#[]⟩, .int .i64 0, .slice none 0 0, .slice none 0 0, .slice none 0 0] 38)
  rw [World.size_alloc] at B7
  have g0 := ((Gr.refl rb W).alloc (.cells #[.int .i64 0, .string ⟨#[]⟩, .int .i64 0, .slice none 0 0, .slice none 0 0, .slice none 0 0] 38)).alloc (.cells #[.int .i64 0, .string ⟨#[]⟩, .int .i64 0, .slice none 0 0, .slice none 0 0, .slice none 0 0] 38)
  have z0 : ((W.alloc (.cells #[.int .i64 0, .string ⟨#[]⟩, .int .i64 0, .slice none 0 0, .slice none 0 0, .slice none 0 0] 38)).alloc (.cells #[.int .i64 0, .string ⟨#[]⟩, .int .i64 0, .slice none 0 0, .slice none 0 0, .slice none 0 0] 38)).heap.size = W.heap.size + 2 := by simp
  clear h b0 b1 b2 b3 b4
  go_enter Tryd.func47, Tryd.ntmps47
  go_upto_region 3 with fail
  obtain ⟨w0, hw0⟩ : ∃ W1, (W.alloc (.cells #[.int .i64 0, .string ⟨#[]⟩, .int .i64 0, .slice none 0 0, .slice none 0 0, .slice none 0 0] 38)).alloc (.cells #[.int .i64 0, .string ⟨#[]⟩, .int .i64 0, .slice none 0 0, .slice none 0 0, .slice none 0 0] 38) = W1 := ⟨_, rfl⟩
  rw [hw0] at h0 B8 B7 g0 z0 ⊢
  clear hw0
  obtain ⟨n3, hn3⟩ : ∃ n3, W.heap.size + 1 = n3 := ⟨_, rfl⟩
  rw [hn3] at B7 ⊢
  go_upto_region 13 with (first
    | (go_at_call 58; ((with_reducible refine (HT0.out _ h0).mono ?_); rintro e x0 ⟨rfl, e0⟩; have t0 := h0.below e0; have ee0 := e0))
    | (go_at_call 58; ((with_reducible refine (HT1.out _ t0).mono ?_); rintro e x1 ⟨rfl, e1⟩; have t1 := t0.below e1; have ee1 := ee0.trans (e1.mono ee0.size)))
    | (go_at_call 58; ((with_reducible refine (HT2.out _ t1).mono ?_); rintro e x2 ⟨rfl, e2⟩; have t2 := t1.below e2; have ee2 := ee1.trans (e2.mono ee1.size)))
    | (go_at_call 58; ((with_reducible refine (HT3.out _ t2).mono ?_); rintro e x3 ⟨rfl, e3⟩; have t3 := t2.below e3; have ee3 := ee2.trans (e3.mono ee2.size)))
    | (go_at_call 58; ((with_reducible refine (HT4.out _ t3).mono ?_); rintro e w2 ⟨rfl, h2, gq⟩; have gg := (Gr.of ee3).trans gq)))
  have z2 := gg.size
  have B7 := (gg.block (lt_heap B7) (by omega)).trans B7
  have B8 := (gg.block (lt_heap B8) (by omega)).trans B8
  have g2 := g0.trans gg
  clear gg
  clear h0 g0 HT0 HT1 HT2 HT3 HT4
  have HB7 := Lib.hid (fun w5 (g5 : Gr rb w2 w5) => (g5.block (lt_heap B7) (by omega)).trans B7)
  have HB8 := Lib.hid (fun w5 (g5 : Gr rb w2 w5) => (g5.block (lt_heap B8) (by omega)).trans B8)
  go_upto_region 18 with (go_at_call 62; ((with_reducible refine (HXX.out _ h2).mono ?_); rintro e w5 ⟨⟨vv, rfl, vl, vx, vy, rfl, hvl, hvx, hvy, hok⟩, ⟨i5, h5, hd5⟩, g5⟩; obtain ⟨A1, k1, el1, _⟩ := id hvl; obtain ⟨A2, k2, el2, _⟩ := id hvx; obtain ⟨A3, k3, el3, _⟩ := id hvy; subst el1; subst el2; subst el3; have B7 := HB7.out w5 g5; have c0 := box_cell B7 0; have f0 := box_frozen B7 0; have c1 := box_cell B7 1; have f1 := box_frozen B7 1; have c2 := box_cell B7 2; have f2 := box_frozen B7 2; have c3 := box_cell B7 3; have f3 := box_frozen B7 3; have c4 := box_cell B7 4; have f4 := box_frozen B7 4; have c5 := box_cell B7 5; have f5 := box_frozen B7 5; simp only [List.getElem?_toArray, List.getElem?_cons_succ, List.getElem?_cons_zero] at c0 c1 c2 c3 c4 c5))
  have z5 := g5.size
  have hl7 := lt_heap B7
  have h6 : Rd (Proofs.YtmpdnikabkandaaDoor.put6 w5 n3 (.int .i64 t.op) (.string t.s) (.int .i64 t.n) (.slice A1 t.l.len k1) (.slice A2 t.x.len k2) (.slice A3 t.y.len k3)) rb g N cT T i5 o := h5.put6 (by omega) (by omega)
  have g6 : Gr rb W (Proofs.YtmpdnikabkandaaDoor.put6 w5 n3 (.int .i64 t.op) (.string t.s) (.int .i64 t.n) (.slice A1 t.l.len k1) (.slice A2 t.x.len k2) (.slice A3 t.y.len k3)) := (g2.trans g5).put6 (by omega)
  have B7 := put6_heap (a := .int .i64 t.op) (b := .string t.s) (c := .int .i64 t.n) (d := .slice A1 t.l.len k1) (x := .slice A2 t.x.len k2) (y := .slice A3 t.y.len k3) B7
  have B8 : (Proofs.YtmpdnikabkandaaDoor.put6 w5 n3 (.int .i64 t.op) (.string t.s) (.int .i64 t.n) (.slice A1 t.l.len k1) (.slice A2 t.x.len k2) (.slice A3 t.y.len k3)).heap[W.heap.size]? = _ := (put6_block (show W.heap.size ≠ n3 by omega)).trans (HB8.out w5 g5)
  have hL : EX w2.heap.size (Proofs.YtmpdnikabkandaaDoor.put6 w5 n3 (.int .i64 t.op) (.string t.s) (.int .i64 t.n) (.slice A1 t.l.len k1) (.slice A2 t.x.len k2) (.slice A3 t.y.len k3)) _ _ := hvl.kp (Kp.put6 (by omega)) (Nat.le_refl _)
  have hX : SX w2.heap.size (Proofs.YtmpdnikabkandaaDoor.put6 w5 n3 (.int .i64 t.op) (.string t.s) (.int .i64 t.n) (.slice A1 t.l.len k1) (.slice A2 t.x.len k2) (.slice A3 t.y.len k3)) _ _ := hvx.kp (Kp.put6 (by omega)) (Nat.le_refl _)
  have hY : SX w2.heap.size (Proofs.YtmpdnikabkandaaDoor.put6 w5 n3 (.int .i64 t.op) (.string t.s) (.int .i64 t.n) (.slice A1 t.l.len k1) (.slice A2 t.x.len k2) (.slice A3 t.y.len k3)) _ _ := hvy.kp (Kp.put6 (by omega)) (Nat.le_refl _)
  have zp : (Proofs.YtmpdnikabkandaaDoor.put6 w5 n3 (.int .i64 t.op) (.string t.s) (.int .i64 t.n) (.slice A1 t.l.len k1) (.slice A2 t.x.len k2) (.slice A3 t.y.len k3)).heap.size = w5.heap.size := put6_size
  obtain ⟨w6, hw6⟩ : ∃ W5, (Proofs.YtmpdnikabkandaaDoor.put6 w5 n3 (.int .i64 t.op) (.string t.s) (.int .i64 t.n) (.slice A1 t.l.len k1) (.slice A2 t.x.len k2) (.slice A3 t.y.len k3)) = W5 := ⟨_, rfl⟩
  show Code.wp _ _ _ _ (Proofs.YtmpdnikabkandaaDoor.put6 w5 n3 (.int .i64 t.op) (.string t.s) (.int .i64 t.n) (.slice A1 t.l.len k1) (.slice A2 t.x.len k2) (.slice A3 t.y.len k3))
  rw [hw6] at h6 g6 B7 B8 hL hX hY zp ⊢
  clear hw6 c0 c1 c2 c3 c4 c5 f0 f1 f2 f3 f4 f5 HB7 HB8 h5
  go_wp2_with (go_at_call 43; ((with_reducible refine (HW.out _ i5 h6 hd5).mono ?_); rintro e w7 ⟨rfl, e7⟩))
  exact ⟨rfl, rfl, g6.trans (Gr.of e7)⟩

set_option maxRecDepth 100000 in
theorem st4_yes {W : World} {rb g N cT i o : Nat} {T : List Tok} (h : Rd W rb g N cT T i o) (b0 : isT (T.drop i) [97, 114, 114, 97, 121] = false) (b1 : isT (T.drop i) [105, 110, 112, 117, 116] = false) (b2 : isT (T.drop i) [112, 114, 105, 110, 116] = false) (b3 : isT (T.drop i) [107, 101, 101, 112] = false) (b4 : isT (T.drop i) [114, 101, 116, 117, 114, 110] = true) (t : Sm) (r : List Tok) (bs : isT r [59] = true)
    (HX : ∀ W2, Rd W2 rb g N cT T (i + 1) o → Calls Tryd.prog 62 #[.pointer (some ⟨rb, 0, none⟩), .int .i64 9] W2 (TP rb g N cT o T W2 (.ok t r))) :
    Calls Tryd.prog 47 #[.pointer (some ⟨rb, 0, none⟩)] W (TP rb g N cT o T W (.ok t r.tail)) := by
  have HXX := Lib.hid HX
  have HW := Lib.hid (fun w2 i2 (h2 : Rd w2 rb g N cT T i2 o) (hd : T.drop i2 = r) => (show Calls Tryd.prog 43 #[.pointer (some ⟨rb, 0, none⟩), .string ⟨#[59]⟩] w2 (fun e w' => e = .returned (.tuple #[]) ∧ Rd w' rb g N cT T (i2 + 1) o ∧ Gr rb w2 w') from want_yes h2 [59] (by decide) (by rw [hd]; exact bs)))
  clear HX bs
  have HT0 := Lib.hid (fun w1 (h1 : Rd w1 rb g N cT T i o) => (show Calls Tryd.prog 58 #[.pointer (some ⟨rb, 0, none⟩), .string ⟨#[97, 114, 114, 97, 121]⟩] w1 (fun e w' => e = .returned (.bool false) ∧ Below w1.heap.size w1 w') from take_no h1 [97, 114, 114, 97, 121] b0))
  have HT1 := Lib.hid (fun w1 (h1 : Rd w1 rb g N cT T i o) => (show Calls Tryd.prog 58 #[.pointer (some ⟨rb, 0, none⟩), .string ⟨#[105, 110, 112, 117, 116]⟩] w1 (fun e w' => e = .returned (.bool false) ∧ Below w1.heap.size w1 w') from take_no h1 [105, 110, 112, 117, 116] b1))
  have HT2 := Lib.hid (fun w1 (h1 : Rd w1 rb g N cT T i o) => (show Calls Tryd.prog 58 #[.pointer (some ⟨rb, 0, none⟩), .string ⟨#[112, 114, 105, 110, 116]⟩] w1 (fun e w' => e = .returned (.bool false) ∧ Below w1.heap.size w1 w') from take_no h1 [112, 114, 105, 110, 116] b2))
  have HT3 := Lib.hid (fun w1 (h1 : Rd w1 rb g N cT T i o) => (show Calls Tryd.prog 58 #[.pointer (some ⟨rb, 0, none⟩), .string ⟨#[107, 101, 101, 112]⟩] w1 (fun e w' => e = .returned (.bool false) ∧ Below w1.heap.size w1 w') from take_no h1 [107, 101, 101, 112] b3))
  have HT4 := Lib.hid (fun w1 (h1 : Rd w1 rb g N cT T i o) => (show Calls Tryd.prog 58 #[.pointer (some ⟨rb, 0, none⟩), .string ⟨#[114, 101, 116, 117, 114, 110]⟩] w1 (fun e w' => e = .returned (.bool true) ∧ Rd w' rb g N cT T (i + 1) o ∧ Gr rb w1 w') from take_yes h1 [114, 101, 116, 117, 114, 110] (by decide) b4))
  have hrl := h.rlt
  have hgl := h.tok.1
  have h0 := (h.alloc (.cells #[.int .i64 0, .string ⟨#[]⟩, .int .i64 0, .slice none 0 0, .slice none 0 0, .slice none 0 0] 38)).alloc (.cells #[.int .i64 0, .string ⟨#[]⟩, .int .i64 0, .slice none 0 0, .slice none 0 0, .slice none 0 0] 38)
  have B8 := (Below.heap_alloc (W.alloc (.cells #[.int .i64 0, .string ⟨#[]⟩, .int .i64 0, .slice none 0 0, .slice none 0 0, .slice none 0 0] 38)) (.cells #[.int .i64 0, .string ⟨#[]⟩, .int .i64 0, .slice none 0 0, .slice none 0 0, .slice none 0 0] 38) W.heap.size (by simp)).trans (heap_alloc_new W (.cells #[.int .i64 0, .string ⟨#[]⟩, .int .i64 0, .slice none 0 0, .slice none 0 0, .slice none 0 0] 38))
  have B7 := heap_alloc_new (W.alloc (.cells #[.int .i64 0, .string ⟨#[]⟩, .int .i64 0, .slice none 0 0, .slice none 0 0, .slice none 0 0] 38)) (.cells #[.int .i64 0, .string ⟨#[]⟩, .int .i64 0, .slice none 0 0, .slice none 0 0, .slice none 0 0] 38)
  rw [World.size_alloc] at B7
  have g0 := ((Gr.refl rb W).alloc (.cells #[.int .i64 0, .string ⟨#[]⟩, .int .i64 0, .slice none 0 0, .slice none 0 0, .slice none 0 0] 38)).alloc (.cells #[.int .i64 0, .string ⟨#[]⟩, .int .i64 0, .slice none 0 0, .slice none 0 0, .slice none 0 0] 38)
  have z0 : ((W.alloc (.cells #[.int .i64 0, .string ⟨#[]⟩, .int .i64 0, .slice none 0 0, .slice none 0 0, .slice none 0 0] 38)).alloc (.cells #[.int .i64 0, .string ⟨#[]⟩, .int .i64 0, .slice none 0 0, .slice none 0 0, .slice none 0 0] 38)).heap.size = W.heap.size + 2 := by simp
  clear h b0 b1 b2 b3 b4
  go_enter Tryd.func47, Tryd.ntmps47
  go_upto_region 3 with fail
  obtain ⟨w0, hw0⟩ : ∃ W1, (W.alloc (.cells #[.int .i64 0, .string ⟨#[]⟩, .int .i64 0, .slice none 0 0, .slice none 0 0, .slice none 0 0] 38)).alloc (.cells #[.int .i64 0, .string ⟨#[]⟩, .int .i64 0, .slice none 0 0, .slice none 0 0, .slice none 0 0] 38) = W1 := ⟨_, rfl⟩
  rw [hw0] at h0 B8 B7 g0 z0 ⊢
  clear hw0
  obtain ⟨n3, hn3⟩ : ∃ n3, W.heap.size + 1 = n3 := ⟨_, rfl⟩
  rw [hn3] at B7 ⊢
  go_upto_region 13 with (first
    | (go_at_call 58; ((with_reducible refine (HT0.out _ h0).mono ?_); rintro e x0 ⟨rfl, e0⟩; have t0 := h0.below e0; have ee0 := e0))
    | (go_at_call 58; ((with_reducible refine (HT1.out _ t0).mono ?_); rintro e x1 ⟨rfl, e1⟩; have t1 := t0.below e1; have ee1 := ee0.trans (e1.mono ee0.size)))
    | (go_at_call 58; ((with_reducible refine (HT2.out _ t1).mono ?_); rintro e x2 ⟨rfl, e2⟩; have t2 := t1.below e2; have ee2 := ee1.trans (e2.mono ee1.size)))
    | (go_at_call 58; ((with_reducible refine (HT3.out _ t2).mono ?_); rintro e x3 ⟨rfl, e3⟩; have t3 := t2.below e3; have ee3 := ee2.trans (e3.mono ee2.size)))
    | (go_at_call 58; ((with_reducible refine (HT4.out _ t3).mono ?_); rintro e w2 ⟨rfl, h2, gq⟩; have gg := (Gr.of ee3).trans gq)))
  have z2 := gg.size
  have B7 := (gg.block (lt_heap B7) (by omega)).trans B7
  have B8 := (gg.block (lt_heap B8) (by omega)).trans B8
  have g2 := g0.trans gg
  clear gg
  clear h0 g0 HT0 HT1 HT2 HT3 HT4
  have HB7 := Lib.hid (fun w5 (g5 : Gr rb w2 w5) => (g5.block (lt_heap B7) (by omega)).trans B7)
  have HB8 := Lib.hid (fun w5 (g5 : Gr rb w2 w5) => (g5.block (lt_heap B8) (by omega)).trans B8)
  go_upto_region 18 with (go_at_call 62; ((with_reducible refine (HXX.out _ h2).mono ?_); rintro e w5 ⟨⟨vv, rfl, vl, vx, vy, rfl, hvl, hvx, hvy, hok⟩, ⟨i5, h5, hd5⟩, g5⟩; obtain ⟨A1, k1, el1, _⟩ := id hvl; obtain ⟨A2, k2, el2, _⟩ := id hvx; obtain ⟨A3, k3, el3, _⟩ := id hvy; subst el1; subst el2; subst el3; have B7 := HB7.out w5 g5; have c0 := box_cell B7 0; have f0 := box_frozen B7 0; have c1 := box_cell B7 1; have f1 := box_frozen B7 1; have c2 := box_cell B7 2; have f2 := box_frozen B7 2; have c3 := box_cell B7 3; have f3 := box_frozen B7 3; have c4 := box_cell B7 4; have f4 := box_frozen B7 4; have c5 := box_cell B7 5; have f5 := box_frozen B7 5; simp only [List.getElem?_toArray, List.getElem?_cons_succ, List.getElem?_cons_zero] at c0 c1 c2 c3 c4 c5))
  have z5 := g5.size
  have hl7 := lt_heap B7
  have h6 : Rd (Proofs.YtmpdnikabkandaaDoor.put6 w5 n3 (.int .i64 t.op) (.string t.s) (.int .i64 t.n) (.slice A1 t.l.len k1) (.slice A2 t.x.len k2) (.slice A3 t.y.len k3)) rb g N cT T i5 o := h5.put6 (by omega) (by omega)
  have g6 : Gr rb W (Proofs.YtmpdnikabkandaaDoor.put6 w5 n3 (.int .i64 t.op) (.string t.s) (.int .i64 t.n) (.slice A1 t.l.len k1) (.slice A2 t.x.len k2) (.slice A3 t.y.len k3)) := (g2.trans g5).put6 (by omega)
  have B7 := put6_heap (a := .int .i64 t.op) (b := .string t.s) (c := .int .i64 t.n) (d := .slice A1 t.l.len k1) (x := .slice A2 t.x.len k2) (y := .slice A3 t.y.len k3) B7
  have B8 : (Proofs.YtmpdnikabkandaaDoor.put6 w5 n3 (.int .i64 t.op) (.string t.s) (.int .i64 t.n) (.slice A1 t.l.len k1) (.slice A2 t.x.len k2) (.slice A3 t.y.len k3)).heap[W.heap.size]? = _ := (put6_block (show W.heap.size ≠ n3 by omega)).trans (HB8.out w5 g5)
  have hL : EX w2.heap.size (Proofs.YtmpdnikabkandaaDoor.put6 w5 n3 (.int .i64 t.op) (.string t.s) (.int .i64 t.n) (.slice A1 t.l.len k1) (.slice A2 t.x.len k2) (.slice A3 t.y.len k3)) _ _ := hvl.kp (Kp.put6 (by omega)) (Nat.le_refl _)
  have hX : SX w2.heap.size (Proofs.YtmpdnikabkandaaDoor.put6 w5 n3 (.int .i64 t.op) (.string t.s) (.int .i64 t.n) (.slice A1 t.l.len k1) (.slice A2 t.x.len k2) (.slice A3 t.y.len k3)) _ _ := hvx.kp (Kp.put6 (by omega)) (Nat.le_refl _)
  have hY : SX w2.heap.size (Proofs.YtmpdnikabkandaaDoor.put6 w5 n3 (.int .i64 t.op) (.string t.s) (.int .i64 t.n) (.slice A1 t.l.len k1) (.slice A2 t.x.len k2) (.slice A3 t.y.len k3)) _ _ := hvy.kp (Kp.put6 (by omega)) (Nat.le_refl _)
  have zp : (Proofs.YtmpdnikabkandaaDoor.put6 w5 n3 (.int .i64 t.op) (.string t.s) (.int .i64 t.n) (.slice A1 t.l.len k1) (.slice A2 t.x.len k2) (.slice A3 t.y.len k3)).heap.size = w5.heap.size := put6_size
  obtain ⟨w6, hw6⟩ : ∃ W5, (Proofs.YtmpdnikabkandaaDoor.put6 w5 n3 (.int .i64 t.op) (.string t.s) (.int .i64 t.n) (.slice A1 t.l.len k1) (.slice A2 t.x.len k2) (.slice A3 t.y.len k3)) = W5 := ⟨_, rfl⟩
  show Code.wp _ _ _ _ (Proofs.YtmpdnikabkandaaDoor.put6 w5 n3 (.int .i64 t.op) (.string t.s) (.int .i64 t.n) (.slice A1 t.l.len k1) (.slice A2 t.x.len k2) (.slice A3 t.y.len k3))
  rw [hw6] at h6 g6 B7 B8 hL hX hY zp ⊢
  clear hw6 c0 c1 c2 c3 c4 c5 f0 f1 f2 f3 f4 f5 HB7 HB8 h5
  go_upto_region 19 with (go_at_call 43; ((with_reducible refine (HW.out _ i5 h6 hd5).mono ?_); rintro e w7 ⟨rfl, h7, g7⟩))
  have z7 := g7.size
  have hl7 := lt_heap B7
  have hl8 := lt_heap B8
  have B7 := (g7.block (lt_heap B7) (by omega)).trans B7
  have B8 := (g7.block (lt_heap B8) (by omega)).trans B8
  have g8 := g6.trans g7
  have hd7 : T.drop (i5 + 1) = r.tail := by rw [← hd5, drop_tail]
  have hL := hL.kp (Kp.gr g7 (show rb < w2.heap.size by omega)) (Nat.le_refl _)
  have hX := hX.kp (Kp.gr g7 (show rb < w2.heap.size by omega)) (Nat.le_refl _)
  have hY := hY.kp (Kp.gr g7 (show rb < w2.heap.size by omega)) (Nat.le_refl _)
  have c0 := box_cell B8 0
  have f0 := box_frozen B8 0
  have d0 := box_cell B7 0
  have c1 := box_cell B8 1
  have f1 := box_frozen B8 1
  have d1 := box_cell B7 1
  have c2 := box_cell B8 2
  have f2 := box_frozen B8 2
  have d2 := box_cell B7 2
  have c3 := box_cell B8 3
  have f3 := box_frozen B8 3
  have d3 := box_cell B7 3
  have c4 := box_cell B8 4
  have f4 := box_frozen B8 4
  have d4 := box_cell B7 4
  have c5 := box_cell B8 5
  have f5 := box_frozen B8 5
  have d5 := box_cell B7 5
  simp only [List.getElem?_toArray, List.getElem?_cons_succ, List.getElem?_cons_zero] at c0 d0 c1 d1 c2 d2 c3 d3 c4 d4 c5 d5
  have hP := put6_heap (a := .int .i64 t.op) (b := .string t.s) (c := .int .i64 t.n) (d := .slice A1 t.l.len k1) (x := .slice A2 t.x.len k2) (y := .slice A3 t.y.len k3) B8
  have hfin : TP rb g N cT o T W (.ok t r.tail) (.returned (.agg #[.int .i64 t.op, .string t.s, .int .i64 t.n, .slice A1 t.l.len k1, .slice A2 t.x.len k2, .slice A3 t.y.len k3])) (Proofs.YtmpdnikabkandaaDoor.put6 w7 W.heap.size (.int .i64 t.op) (.string t.s) (.int .i64 t.n) (.slice A1 t.l.len k1) (.slice A2 t.x.len k2) (.slice A3 t.y.len k3)) :=
    ⟨⟨_, rfl, _, _, _, rfl, hL.kp (Kp.put6 (by omega)) (by omega), hX.kp (Kp.put6 (by omega)) (by omega), hY.kp (Kp.put6 (by omega)) (by omega), hok⟩, ⟨i5 + 1, h7.put6 (by omega) (by omega), hd7⟩, g8.put6 (Nat.le_refl _)⟩
  go_wp2
  obtain ⟨wz, hwz⟩ : ∃ W5, (Proofs.YtmpdnikabkandaaDoor.put6 w7 W.heap.size (.int .i64 t.op) (.string t.s) (.int .i64 t.n) (.slice A1 t.l.len k1) (.slice A2 t.x.len k2) (.slice A3 t.y.len k3)) = W5 := ⟨_, rfl⟩
  show bodyPost _ _ _ _ _ (Proofs.YtmpdnikabkandaaDoor.put6 w7 W.heap.size (.int .i64 t.op) (.string t.s) (.int .i64 t.n) (.slice A1 t.l.len k1) (.slice A2 t.x.len k2) (.slice A3 t.y.len k3))
  rw [hwz] at hP hfin ⊢
  have p0 := box_cell hP 0
  have p1 := box_cell hP 1
  have p2 := box_cell hP 2
  have p3 := box_cell hP 3
  have p4 := box_cell hP 4
  have p5 := box_cell hP 5
  simp only [List.getElem?_toArray, List.getElem?_cons_succ, List.getElem?_cons_zero] at p0 p1 p2 p3 p4 p5
  exact bodyPost_ret (v := .agg #[.int .i64 t.op, .string t.s, .int .i64 t.n, .slice A1 t.l.len k1, .slice A2 t.x.len k2, .slice A3 t.y.len k3]) (by simp [results, Tryd.results47, go_sem, p0, p1, p2, p3, p4, p5]) rfl hfin

set_option maxRecDepth 100000 in
theorem st7_bad {W : World} {rb g N cT i o : Nat} {T : List Tok} (h : Rd W rb g N cT T i o) (b0 : isT (T.drop i) [97, 114, 114, 97, 121] = false) (b1 : isT (T.drop i) [105, 110, 112, 117, 116] = false) (b2 : isT (T.drop i) [112, 114, 105, 110, 116] = false) (b3 : isT (T.drop i) [107, 101, 101, 112] = false) (b4 : isT (T.drop i) [114, 101, 116, 117, 114, 110] = false) (b5 : isT (T.drop i) [105, 102] = false) (b6 : isT (T.drop i) [119, 104, 105, 108, 101] = false) (p c : Nat)
    (HX : ∀ W2, Rd W2 rb g N cT T i o → Calls Tryd.prog 65 #[.pointer (some ⟨rb, 0, none⟩)] W2 (TP rb g N cT o T W2 (.bad p c))) :
    Calls Tryd.prog 47 #[.pointer (some ⟨rb, 0, none⟩)] W (TP rb g N cT o T W (.bad p c)) := by
  have HXX := Lib.hid HX
  clear HX
  have HT0 := Lib.hid (fun w1 (h1 : Rd w1 rb g N cT T i o) => (show Calls Tryd.prog 58 #[.pointer (some ⟨rb, 0, none⟩), .string ⟨#[97, 114, 114, 97, 121]⟩] w1 (fun e w' => e = .returned (.bool false) ∧ Below w1.heap.size w1 w') from take_no h1 [97, 114, 114, 97, 121] b0))
  have HT1 := Lib.hid (fun w1 (h1 : Rd w1 rb g N cT T i o) => (show Calls Tryd.prog 58 #[.pointer (some ⟨rb, 0, none⟩), .string ⟨#[105, 110, 112, 117, 116]⟩] w1 (fun e w' => e = .returned (.bool false) ∧ Below w1.heap.size w1 w') from take_no h1 [105, 110, 112, 117, 116] b1))
  have HT2 := Lib.hid (fun w1 (h1 : Rd w1 rb g N cT T i o) => (show Calls Tryd.prog 58 #[.pointer (some ⟨rb, 0, none⟩), .string ⟨#[112, 114, 105, 110, 116]⟩] w1 (fun e w' => e = .returned (.bool false) ∧ Below w1.heap.size w1 w') from take_no h1 [112, 114, 105, 110, 116] b2))
  have HT3 := Lib.hid (fun w1 (h1 : Rd w1 rb g N cT T i o) => (show Calls Tryd.prog 58 #[.pointer (some ⟨rb, 0, none⟩), .string ⟨#[107, 101, 101, 112]⟩] w1 (fun e w' => e = .returned (.bool false) ∧ Below w1.heap.size w1 w') from take_no h1 [107, 101, 101, 112] b3))
  have HT4 := Lib.hid (fun w1 (h1 : Rd w1 rb g N cT T i o) => (show Calls Tryd.prog 58 #[.pointer (some ⟨rb, 0, none⟩), .string ⟨#[114, 101, 116, 117, 114, 110]⟩] w1 (fun e w' => e = .returned (.bool false) ∧ Below w1.heap.size w1 w') from take_no h1 [114, 101, 116, 117, 114, 110] b4))
  have HT5 := Lib.hid (fun w1 (h1 : Rd w1 rb g N cT T i o) => (show Calls Tryd.prog 58 #[.pointer (some ⟨rb, 0, none⟩), .string ⟨#[105, 102]⟩] w1 (fun e w' => e = .returned (.bool false) ∧ Below w1.heap.size w1 w') from take_no h1 [105, 102] b5))
  have HT6 := Lib.hid (fun w1 (h1 : Rd w1 rb g N cT T i o) => (show Calls Tryd.prog 58 #[.pointer (some ⟨rb, 0, none⟩), .string ⟨#[119, 104, 105, 108, 101]⟩] w1 (fun e w' => e = .returned (.bool false) ∧ Below w1.heap.size w1 w') from take_no h1 [119, 104, 105, 108, 101] b6))
  have hrl := h.rlt
  have hgl := h.tok.1
  have h0 := (h.alloc (.cells #[.int .i64 0, .string ⟨#[]⟩, .int .i64 0, .slice none 0 0, .slice none 0 0, .slice none 0 0] 38)).alloc (.cells #[.int .i64 0, .string ⟨#[]⟩, .int .i64 0, .slice none 0 0, .slice none 0 0, .slice none 0 0] 38)
  have B8 := (Below.heap_alloc (W.alloc (.cells #[.int .i64 0, .string ⟨#[]⟩, .int .i64 0, .slice none 0 0, .slice none 0 0, .slice none 0 0] 38)) (.cells #[.int .i64 0, .string ⟨#[]⟩, .int .i64 0, .slice none 0 0, .slice none 0 0, .slice none 0 0] 38) W.heap.size (by simp)).trans (heap_alloc_new W (.cells #[.int .i64 0, .string ⟨#[]⟩, .int .i64 0, .slice none 0 0, .slice none 0 0, .slice none 0 0] 38))
  have B7 := heap_alloc_new (W.alloc (.cells #[.int .i64 0, .string ⟨#[]⟩, .int .i64 0, .slice none 0 0, .slice none 0 0, .slice none 0 0] 38)) (.cells #[.int .i64 0, .string ⟨#[]⟩, .int .i64 0, .slice none 0 0, .slice none 0 0, .slice none 0 0] 38)
  rw [World.size_alloc] at B7
  have g0 := ((Gr.refl rb W).alloc (.cells #[.int .i64 0, .string ⟨#[]⟩, .int .i64 0, .slice none 0 0, .slice none 0 0, .slice none 0 0] 38)).alloc (.cells #[.int .i64 0, .string ⟨#[]⟩, .int .i64 0, .slice none 0 0, .slice none 0 0, .slice none 0 0] 38)
  have z0 : ((W.alloc (.cells #[.int .i64 0, .string ⟨#[]⟩, .int .i64 0, .slice none 0 0, .slice none 0 0, .slice none 0 0] 38)).alloc (.cells #[.int .i64 0, .string ⟨#[]⟩, .int .i64 0, .slice none 0 0, .slice none 0 0, .slice none 0 0] 38)).heap.size = W.heap.size + 2 := by simp
  clear h b0 b1 b2 b3 b4 b5 b6
  go_enter Tryd.func47, Tryd.ntmps47
  go_upto_region 3 with fail
  obtain ⟨w0, hw0⟩ : ∃ W1, (W.alloc (.cells #[.int .i64 0, .string ⟨#[]⟩, .int .i64 0, .slice none 0 0, .slice none 0 0, .slice none 0 0] 38)).alloc (.cells #[.int .i64 0, .string ⟨#[]⟩, .int .i64 0, .slice none 0 0, .slice none 0 0, .slice none 0 0] 38) = W1 := ⟨_, rfl⟩
  rw [hw0] at h0 B8 B7 g0 z0 ⊢
  clear hw0
  obtain ⟨n3, hn3⟩ : ∃ n3, W.heap.size + 1 = n3 := ⟨_, rfl⟩
  rw [hn3] at B7 ⊢
  go_upto_region 2 with (first
    | (go_at_call 58; ((with_reducible refine (HT0.out _ h0).mono ?_); rintro e x0 ⟨rfl, e0⟩; have t0 := h0.below e0; have ee0 := e0))
    | (go_at_call 58; ((with_reducible refine (HT1.out _ t0).mono ?_); rintro e x1 ⟨rfl, e1⟩; have t1 := t0.below e1; have ee1 := ee0.trans (e1.mono ee0.size)))
    | (go_at_call 58; ((with_reducible refine (HT2.out _ t1).mono ?_); rintro e x2 ⟨rfl, e2⟩; have t2 := t1.below e2; have ee2 := ee1.trans (e2.mono ee1.size)))
    | (go_at_call 58; ((with_reducible refine (HT3.out _ t2).mono ?_); rintro e x3 ⟨rfl, e3⟩; have t3 := t2.below e3; have ee3 := ee2.trans (e3.mono ee2.size)))
    | (go_at_call 58; ((with_reducible refine (HT4.out _ t3).mono ?_); rintro e x4 ⟨rfl, e4⟩; have t4 := t3.below e4; have ee4 := ee3.trans (e4.mono ee3.size)))
    | (go_at_call 58; ((with_reducible refine (HT5.out _ t4).mono ?_); rintro e x5 ⟨rfl, e5⟩; have t5 := t4.below e5; have ee5 := ee4.trans (e5.mono ee4.size)))
    | (go_at_call 58; ((with_reducible refine (HT6.out _ t5).mono ?_); rintro e x6 ⟨rfl, e6⟩; have t6 := t5.below e6; have ee6 := ee5.trans (e6.mono ee5.size))))
  have gg := Gr.of (rb := rb) ee6
  have h2 := t6
  obtain ⟨w2, hw2⟩ : ∃ w2, x6 = w2 := ⟨_, rfl⟩
  rw [hw2] at gg h2 ⊢
  clear hw2
  have z2 := gg.size
  have B7 := (gg.block (lt_heap B7) (by omega)).trans B7
  have B8 := (gg.block (lt_heap B8) (by omega)).trans B8
  have g2 := g0.trans gg
  clear gg
  clear h0 g0 HT0 HT1 HT2 HT3 HT4 HT5 HT6
  go_wp2_with (go_at_call 65; ((with_reducible refine (HXX.out _ h2).mono ?_); rintro e w5 ⟨rfl, g5⟩))
  exact ⟨rfl, rfl, g2.trans g5⟩

set_option maxRecDepth 100000 in
theorem st7_no {W : World} {rb g N cT i o : Nat} {T : List Tok} (h : Rd W rb g N cT T i o) (b0 : isT (T.drop i) [97, 114, 114, 97, 121] = false) (b1 : isT (T.drop i) [105, 110, 112, 117, 116] = false) (b2 : isT (T.drop i) [112, 114, 105, 110, 116] = false) (b3 : isT (T.drop i) [107, 101, 101, 112] = false) (b4 : isT (T.drop i) [114, 101, 116, 117, 114, 110] = false) (b5 : isT (T.drop i) [105, 102] = false) (b6 : isT (T.drop i) [119, 104, 105, 108, 101] = false) (t : Sm) (r : List Tok) (bs : isT r [59] = false)
    (HX : ∀ W2, Rd W2 rb g N cT T i o → Calls Tryd.prog 65 #[.pointer (some ⟨rb, 0, none⟩)] W2 (TP rb g N cT o T W2 (.ok t r))) :
    Calls Tryd.prog 47 #[.pointer (some ⟨rb, 0, none⟩)] W (TP rb g N cT o T W (.bad (hdT r).at_ 2)) := by
  have HXX := Lib.hid HX
  have HW := Lib.hid (fun w2 i2 (h2 : Rd w2 rb g N cT T i2 o) (hd : T.drop i2 = r) => (show Calls Tryd.prog 43 #[.pointer (some ⟨rb, 0, none⟩), .string ⟨#[59]⟩] w2 (fun e w' => e = flt (hdT r).at_ 2 ∧ Below w2.heap.size w2 w') from want_no h2 [59] (by rw [hd]; exact bs) _ (by rw [hd])))
  clear HX bs
  have HT0 := Lib.hid (fun w1 (h1 : Rd w1 rb g N cT T i o) => (show Calls Tryd.prog 58 #[.pointer (some ⟨rb, 0, none⟩), .string ⟨#[97, 114, 114, 97, 121]⟩] w1 (fun e w' => e = .returned (.bool false) ∧ Below w1.heap.size w1 w') from take_no h1 [97, 114, 114, 97, 121] b0))
  have HT1 := Lib.hid (fun w1 (h1 : Rd w1 rb g N cT T i o) => (show Calls Tryd.prog 58 #[.pointer (some ⟨rb, 0, none⟩), .string ⟨#[105, 110, 112, 117, 116]⟩] w1 (fun e w' => e = .returned (.bool false) ∧ Below w1.heap.size w1 w') from take_no h1 [105, 110, 112, 117, 116] b1))
  have HT2 := Lib.hid (fun w1 (h1 : Rd w1 rb g N cT T i o) => (show Calls Tryd.prog 58 #[.pointer (some ⟨rb, 0, none⟩), .string ⟨#[112, 114, 105, 110, 116]⟩] w1 (fun e w' => e = .returned (.bool false) ∧ Below w1.heap.size w1 w') from take_no h1 [112, 114, 105, 110, 116] b2))
  have HT3 := Lib.hid (fun w1 (h1 : Rd w1 rb g N cT T i o) => (show Calls Tryd.prog 58 #[.pointer (some ⟨rb, 0, none⟩), .string ⟨#[107, 101, 101, 112]⟩] w1 (fun e w' => e = .returned (.bool false) ∧ Below w1.heap.size w1 w') from take_no h1 [107, 101, 101, 112] b3))
  have HT4 := Lib.hid (fun w1 (h1 : Rd w1 rb g N cT T i o) => (show Calls Tryd.prog 58 #[.pointer (some ⟨rb, 0, none⟩), .string ⟨#[114, 101, 116, 117, 114, 110]⟩] w1 (fun e w' => e = .returned (.bool false) ∧ Below w1.heap.size w1 w') from take_no h1 [114, 101, 116, 117, 114, 110] b4))
  have HT5 := Lib.hid (fun w1 (h1 : Rd w1 rb g N cT T i o) => (show Calls Tryd.prog 58 #[.pointer (some ⟨rb, 0, none⟩), .string ⟨#[105, 102]⟩] w1 (fun e w' => e = .returned (.bool false) ∧ Below w1.heap.size w1 w') from take_no h1 [105, 102] b5))
  have HT6 := Lib.hid (fun w1 (h1 : Rd w1 rb g N cT T i o) => (show Calls Tryd.prog 58 #[.pointer (some ⟨rb, 0, none⟩), .string ⟨#[119, 104, 105, 108, 101]⟩] w1 (fun e w' => e = .returned (.bool false) ∧ Below w1.heap.size w1 w') from take_no h1 [119, 104, 105, 108, 101] b6))
  have hrl := h.rlt
  have hgl := h.tok.1
  have h0 := (h.alloc (.cells #[.int .i64 0, .string ⟨#[]⟩, .int .i64 0, .slice none 0 0, .slice none 0 0, .slice none 0 0] 38)).alloc (.cells #[.int .i64 0, .string ⟨#[]⟩, .int .i64 0, .slice none 0 0, .slice none 0 0, .slice none 0 0] 38)
  have B8 := (Below.heap_alloc (W.alloc (.cells #[.int .i64 0, .string ⟨#[]⟩, .int .i64 0, .slice none 0 0, .slice none 0 0, .slice none 0 0] 38)) (.cells #[.int .i64 0, .string ⟨#[]⟩, .int .i64 0, .slice none 0 0, .slice none 0 0, .slice none 0 0] 38) W.heap.size (by simp)).trans (heap_alloc_new W (.cells #[.int .i64 0, .string ⟨#[]⟩, .int .i64 0, .slice none 0 0, .slice none 0 0, .slice none 0 0] 38))
  have B7 := heap_alloc_new (W.alloc (.cells #[.int .i64 0, .string ⟨#[]⟩, .int .i64 0, .slice none 0 0, .slice none 0 0, .slice none 0 0] 38)) (.cells #[.int .i64 0, .string ⟨#[]⟩, .int .i64 0, .slice none 0 0, .slice none 0 0, .slice none 0 0] 38)
  rw [World.size_alloc] at B7
  have g0 := ((Gr.refl rb W).alloc (.cells #[.int .i64 0, .string ⟨#[]⟩, .int .i64 0, .slice none 0 0, .slice none 0 0, .slice none 0 0] 38)).alloc (.cells #[.int .i64 0, .string ⟨#[]⟩, .int .i64 0, .slice none 0 0, .slice none 0 0, .slice none 0 0] 38)
  have z0 : ((W.alloc (.cells #[.int .i64 0, .string ⟨#[]⟩, .int .i64 0, .slice none 0 0, .slice none 0 0, .slice none 0 0] 38)).alloc (.cells #[.int .i64 0, .string ⟨#[]⟩, .int .i64 0, .slice none 0 0, .slice none 0 0, .slice none 0 0] 38)).heap.size = W.heap.size + 2 := by simp
  clear h b0 b1 b2 b3 b4 b5 b6
  go_enter Tryd.func47, Tryd.ntmps47
  go_upto_region 3 with fail
  obtain ⟨w0, hw0⟩ : ∃ W1, (W.alloc (.cells #[.int .i64 0, .string ⟨#[]⟩, .int .i64 0, .slice none 0 0, .slice none 0 0, .slice none 0 0] 38)).alloc (.cells #[.int .i64 0, .string ⟨#[]⟩, .int .i64 0, .slice none 0 0, .slice none 0 0, .slice none 0 0] 38) = W1 := ⟨_, rfl⟩
  rw [hw0] at h0 B8 B7 g0 z0 ⊢
  clear hw0
  obtain ⟨n3, hn3⟩ : ∃ n3, W.heap.size + 1 = n3 := ⟨_, rfl⟩
  rw [hn3] at B7 ⊢
  go_upto_region 2 with (first
    | (go_at_call 58; ((with_reducible refine (HT0.out _ h0).mono ?_); rintro e x0 ⟨rfl, e0⟩; have t0 := h0.below e0; have ee0 := e0))
    | (go_at_call 58; ((with_reducible refine (HT1.out _ t0).mono ?_); rintro e x1 ⟨rfl, e1⟩; have t1 := t0.below e1; have ee1 := ee0.trans (e1.mono ee0.size)))
    | (go_at_call 58; ((with_reducible refine (HT2.out _ t1).mono ?_); rintro e x2 ⟨rfl, e2⟩; have t2 := t1.below e2; have ee2 := ee1.trans (e2.mono ee1.size)))
    | (go_at_call 58; ((with_reducible refine (HT3.out _ t2).mono ?_); rintro e x3 ⟨rfl, e3⟩; have t3 := t2.below e3; have ee3 := ee2.trans (e3.mono ee2.size)))
    | (go_at_call 58; ((with_reducible refine (HT4.out _ t3).mono ?_); rintro e x4 ⟨rfl, e4⟩; have t4 := t3.below e4; have ee4 := ee3.trans (e4.mono ee3.size)))
    | (go_at_call 58; ((with_reducible refine (HT5.out _ t4).mono ?_); rintro e x5 ⟨rfl, e5⟩; have t5 := t4.below e5; have ee5 := ee4.trans (e5.mono ee4.size)))
    | (go_at_call 58; ((with_reducible refine (HT6.out _ t5).mono ?_); rintro e x6 ⟨rfl, e6⟩; have t6 := t5.below e6; have ee6 := ee5.trans (e6.mono ee5.size))))
  have gg := Gr.of (rb := rb) ee6
  have h2 := t6
  obtain ⟨w2, hw2⟩ : ∃ w2, x6 = w2 := ⟨_, rfl⟩
  rw [hw2] at gg h2 ⊢
  clear hw2
  have z2 := gg.size
  have B7 := (gg.block (lt_heap B7) (by omega)).trans B7
  have B8 := (gg.block (lt_heap B8) (by omega)).trans B8
  have g2 := g0.trans gg
  clear gg
  clear h0 g0 HT0 HT1 HT2 HT3 HT4 HT5 HT6
  have HB7 := Lib.hid (fun w5 (g5 : Gr rb w2 w5) => (g5.block (lt_heap B7) (by omega)).trans B7)
  have HB8 := Lib.hid (fun w5 (g5 : Gr rb w2 w5) => (g5.block (lt_heap B8) (by omega)).trans B8)
  go_upto_region 18 with (go_at_call 65; ((with_reducible refine (HXX.out _ h2).mono ?_); rintro e w5 ⟨⟨vv, rfl, vl, vx, vy, rfl, hvl, hvx, hvy, hok⟩, ⟨i5, h5, hd5⟩, g5⟩; obtain ⟨A1, k1, el1, _⟩ := id hvl; obtain ⟨A2, k2, el2, _⟩ := id hvx; obtain ⟨A3, k3, el3, _⟩ := id hvy; subst el1; subst el2; subst el3; have B7 := HB7.out w5 g5; have c0 := box_cell B7 0; have f0 := box_frozen B7 0; have c1 := box_cell B7 1; have f1 := box_frozen B7 1; have c2 := box_cell B7 2; have f2 := box_frozen B7 2; have c3 := box_cell B7 3; have f3 := box_frozen B7 3; have c4 := box_cell B7 4; have f4 := box_frozen B7 4; have c5 := box_cell B7 5; have f5 := box_frozen B7 5; simp only [List.getElem?_toArray, List.getElem?_cons_succ, List.getElem?_cons_zero] at c0 c1 c2 c3 c4 c5))
  have z5 := g5.size
  have hl7 := lt_heap B7
  have h6 : Rd (Proofs.YtmpdnikabkandaaDoor.put6 w5 n3 (.int .i64 t.op) (.string t.s) (.int .i64 t.n) (.slice A1 t.l.len k1) (.slice A2 t.x.len k2) (.slice A3 t.y.len k3)) rb g N cT T i5 o := h5.put6 (by omega) (by omega)
  have g6 : Gr rb W (Proofs.YtmpdnikabkandaaDoor.put6 w5 n3 (.int .i64 t.op) (.string t.s) (.int .i64 t.n) (.slice A1 t.l.len k1) (.slice A2 t.x.len k2) (.slice A3 t.y.len k3)) := (g2.trans g5).put6 (by omega)
  have B7 := put6_heap (a := .int .i64 t.op) (b := .string t.s) (c := .int .i64 t.n) (d := .slice A1 t.l.len k1) (x := .slice A2 t.x.len k2) (y := .slice A3 t.y.len k3) B7
  have B8 : (Proofs.YtmpdnikabkandaaDoor.put6 w5 n3 (.int .i64 t.op) (.string t.s) (.int .i64 t.n) (.slice A1 t.l.len k1) (.slice A2 t.x.len k2) (.slice A3 t.y.len k3)).heap[W.heap.size]? = _ := (put6_block (show W.heap.size ≠ n3 by omega)).trans (HB8.out w5 g5)
  have hL : EX w2.heap.size (Proofs.YtmpdnikabkandaaDoor.put6 w5 n3 (.int .i64 t.op) (.string t.s) (.int .i64 t.n) (.slice A1 t.l.len k1) (.slice A2 t.x.len k2) (.slice A3 t.y.len k3)) _ _ := hvl.kp (Kp.put6 (by omega)) (Nat.le_refl _)
  have hX : SX w2.heap.size (Proofs.YtmpdnikabkandaaDoor.put6 w5 n3 (.int .i64 t.op) (.string t.s) (.int .i64 t.n) (.slice A1 t.l.len k1) (.slice A2 t.x.len k2) (.slice A3 t.y.len k3)) _ _ := hvx.kp (Kp.put6 (by omega)) (Nat.le_refl _)
  have hY : SX w2.heap.size (Proofs.YtmpdnikabkandaaDoor.put6 w5 n3 (.int .i64 t.op) (.string t.s) (.int .i64 t.n) (.slice A1 t.l.len k1) (.slice A2 t.x.len k2) (.slice A3 t.y.len k3)) _ _ := hvy.kp (Kp.put6 (by omega)) (Nat.le_refl _)
  have zp : (Proofs.YtmpdnikabkandaaDoor.put6 w5 n3 (.int .i64 t.op) (.string t.s) (.int .i64 t.n) (.slice A1 t.l.len k1) (.slice A2 t.x.len k2) (.slice A3 t.y.len k3)).heap.size = w5.heap.size := put6_size
  obtain ⟨w6, hw6⟩ : ∃ W5, (Proofs.YtmpdnikabkandaaDoor.put6 w5 n3 (.int .i64 t.op) (.string t.s) (.int .i64 t.n) (.slice A1 t.l.len k1) (.slice A2 t.x.len k2) (.slice A3 t.y.len k3)) = W5 := ⟨_, rfl⟩
  show Code.wp _ _ _ _ (Proofs.YtmpdnikabkandaaDoor.put6 w5 n3 (.int .i64 t.op) (.string t.s) (.int .i64 t.n) (.slice A1 t.l.len k1) (.slice A2 t.x.len k2) (.slice A3 t.y.len k3))
  rw [hw6] at h6 g6 B7 B8 hL hX hY zp ⊢
  clear hw6 c0 c1 c2 c3 c4 c5 f0 f1 f2 f3 f4 f5 HB7 HB8 h5
  go_wp2_with (go_at_call 43; ((with_reducible refine (HW.out _ i5 h6 hd5).mono ?_); rintro e w7 ⟨rfl, e7⟩))
  exact ⟨rfl, rfl, g6.trans (Gr.of e7)⟩

set_option maxRecDepth 100000 in
theorem st7_yes {W : World} {rb g N cT i o : Nat} {T : List Tok} (h : Rd W rb g N cT T i o) (b0 : isT (T.drop i) [97, 114, 114, 97, 121] = false) (b1 : isT (T.drop i) [105, 110, 112, 117, 116] = false) (b2 : isT (T.drop i) [112, 114, 105, 110, 116] = false) (b3 : isT (T.drop i) [107, 101, 101, 112] = false) (b4 : isT (T.drop i) [114, 101, 116, 117, 114, 110] = false) (b5 : isT (T.drop i) [105, 102] = false) (b6 : isT (T.drop i) [119, 104, 105, 108, 101] = false) (t : Sm) (r : List Tok) (bs : isT r [59] = true)
    (HX : ∀ W2, Rd W2 rb g N cT T i o → Calls Tryd.prog 65 #[.pointer (some ⟨rb, 0, none⟩)] W2 (TP rb g N cT o T W2 (.ok t r))) :
    Calls Tryd.prog 47 #[.pointer (some ⟨rb, 0, none⟩)] W (TP rb g N cT o T W (.ok t r.tail)) := by
  have HXX := Lib.hid HX
  have HW := Lib.hid (fun w2 i2 (h2 : Rd w2 rb g N cT T i2 o) (hd : T.drop i2 = r) => (show Calls Tryd.prog 43 #[.pointer (some ⟨rb, 0, none⟩), .string ⟨#[59]⟩] w2 (fun e w' => e = .returned (.tuple #[]) ∧ Rd w' rb g N cT T (i2 + 1) o ∧ Gr rb w2 w') from want_yes h2 [59] (by decide) (by rw [hd]; exact bs)))
  clear HX bs
  have HT0 := Lib.hid (fun w1 (h1 : Rd w1 rb g N cT T i o) => (show Calls Tryd.prog 58 #[.pointer (some ⟨rb, 0, none⟩), .string ⟨#[97, 114, 114, 97, 121]⟩] w1 (fun e w' => e = .returned (.bool false) ∧ Below w1.heap.size w1 w') from take_no h1 [97, 114, 114, 97, 121] b0))
  have HT1 := Lib.hid (fun w1 (h1 : Rd w1 rb g N cT T i o) => (show Calls Tryd.prog 58 #[.pointer (some ⟨rb, 0, none⟩), .string ⟨#[105, 110, 112, 117, 116]⟩] w1 (fun e w' => e = .returned (.bool false) ∧ Below w1.heap.size w1 w') from take_no h1 [105, 110, 112, 117, 116] b1))
  have HT2 := Lib.hid (fun w1 (h1 : Rd w1 rb g N cT T i o) => (show Calls Tryd.prog 58 #[.pointer (some ⟨rb, 0, none⟩), .string ⟨#[112, 114, 105, 110, 116]⟩] w1 (fun e w' => e = .returned (.bool false) ∧ Below w1.heap.size w1 w') from take_no h1 [112, 114, 105, 110, 116] b2))
  have HT3 := Lib.hid (fun w1 (h1 : Rd w1 rb g N cT T i o) => (show Calls Tryd.prog 58 #[.pointer (some ⟨rb, 0, none⟩), .string ⟨#[107, 101, 101, 112]⟩] w1 (fun e w' => e = .returned (.bool false) ∧ Below w1.heap.size w1 w') from take_no h1 [107, 101, 101, 112] b3))
  have HT4 := Lib.hid (fun w1 (h1 : Rd w1 rb g N cT T i o) => (show Calls Tryd.prog 58 #[.pointer (some ⟨rb, 0, none⟩), .string ⟨#[114, 101, 116, 117, 114, 110]⟩] w1 (fun e w' => e = .returned (.bool false) ∧ Below w1.heap.size w1 w') from take_no h1 [114, 101, 116, 117, 114, 110] b4))
  have HT5 := Lib.hid (fun w1 (h1 : Rd w1 rb g N cT T i o) => (show Calls Tryd.prog 58 #[.pointer (some ⟨rb, 0, none⟩), .string ⟨#[105, 102]⟩] w1 (fun e w' => e = .returned (.bool false) ∧ Below w1.heap.size w1 w') from take_no h1 [105, 102] b5))
  have HT6 := Lib.hid (fun w1 (h1 : Rd w1 rb g N cT T i o) => (show Calls Tryd.prog 58 #[.pointer (some ⟨rb, 0, none⟩), .string ⟨#[119, 104, 105, 108, 101]⟩] w1 (fun e w' => e = .returned (.bool false) ∧ Below w1.heap.size w1 w') from take_no h1 [119, 104, 105, 108, 101] b6))
  have hrl := h.rlt
  have hgl := h.tok.1
  have h0 := (h.alloc (.cells #[.int .i64 0, .string ⟨#[]⟩, .int .i64 0, .slice none 0 0, .slice none 0 0, .slice none 0 0] 38)).alloc (.cells #[.int .i64 0, .string ⟨#[]⟩, .int .i64 0, .slice none 0 0, .slice none 0 0, .slice none 0 0] 38)
  have B8 := (Below.heap_alloc (W.alloc (.cells #[.int .i64 0, .string ⟨#[]⟩, .int .i64 0, .slice none 0 0, .slice none 0 0, .slice none 0 0] 38)) (.cells #[.int .i64 0, .string ⟨#[]⟩, .int .i64 0, .slice none 0 0, .slice none 0 0, .slice none 0 0] 38) W.heap.size (by simp)).trans (heap_alloc_new W (.cells #[.int .i64 0, .string ⟨#[]⟩, .int .i64 0, .slice none 0 0, .slice none 0 0, .slice none 0 0] 38))
  have B7 := heap_alloc_new (W.alloc (.cells #[.int .i64 0, .string ⟨#[]⟩, .int .i64 0, .slice none 0 0, .slice none 0 0, .slice none 0 0] 38)) (.cells #[.int .i64 0, .string ⟨#[]⟩, .int .i64 0, .slice none 0 0, .slice none 0 0, .slice none 0 0] 38)
  rw [World.size_alloc] at B7
  have g0 := ((Gr.refl rb W).alloc (.cells #[.int .i64 0, .string ⟨#[]⟩, .int .i64 0, .slice none 0 0, .slice none 0 0, .slice none 0 0] 38)).alloc (.cells #[.int .i64 0, .string ⟨#[]⟩, .int .i64 0, .slice none 0 0, .slice none 0 0, .slice none 0 0] 38)
  have z0 : ((W.alloc (.cells #[.int .i64 0, .string ⟨#[]⟩, .int .i64 0, .slice none 0 0, .slice none 0 0, .slice none 0 0] 38)).alloc (.cells #[.int .i64 0, .string ⟨#[]⟩, .int .i64 0, .slice none 0 0, .slice none 0 0, .slice none 0 0] 38)).heap.size = W.heap.size + 2 := by simp
  clear h b0 b1 b2 b3 b4 b5 b6
  go_enter Tryd.func47, Tryd.ntmps47
  go_upto_region 3 with fail
  obtain ⟨w0, hw0⟩ : ∃ W1, (W.alloc (.cells #[.int .i64 0, .string ⟨#[]⟩, .int .i64 0, .slice none 0 0, .slice none 0 0, .slice none 0 0] 38)).alloc (.cells #[.int .i64 0, .string ⟨#[]⟩, .int .i64 0, .slice none 0 0, .slice none 0 0, .slice none 0 0] 38) = W1 := ⟨_, rfl⟩
  rw [hw0] at h0 B8 B7 g0 z0 ⊢
  clear hw0
  obtain ⟨n3, hn3⟩ : ∃ n3, W.heap.size + 1 = n3 := ⟨_, rfl⟩
  rw [hn3] at B7 ⊢
  go_upto_region 2 with (first
    | (go_at_call 58; ((with_reducible refine (HT0.out _ h0).mono ?_); rintro e x0 ⟨rfl, e0⟩; have t0 := h0.below e0; have ee0 := e0))
    | (go_at_call 58; ((with_reducible refine (HT1.out _ t0).mono ?_); rintro e x1 ⟨rfl, e1⟩; have t1 := t0.below e1; have ee1 := ee0.trans (e1.mono ee0.size)))
    | (go_at_call 58; ((with_reducible refine (HT2.out _ t1).mono ?_); rintro e x2 ⟨rfl, e2⟩; have t2 := t1.below e2; have ee2 := ee1.trans (e2.mono ee1.size)))
    | (go_at_call 58; ((with_reducible refine (HT3.out _ t2).mono ?_); rintro e x3 ⟨rfl, e3⟩; have t3 := t2.below e3; have ee3 := ee2.trans (e3.mono ee2.size)))
    | (go_at_call 58; ((with_reducible refine (HT4.out _ t3).mono ?_); rintro e x4 ⟨rfl, e4⟩; have t4 := t3.below e4; have ee4 := ee3.trans (e4.mono ee3.size)))
    | (go_at_call 58; ((with_reducible refine (HT5.out _ t4).mono ?_); rintro e x5 ⟨rfl, e5⟩; have t5 := t4.below e5; have ee5 := ee4.trans (e5.mono ee4.size)))
    | (go_at_call 58; ((with_reducible refine (HT6.out _ t5).mono ?_); rintro e x6 ⟨rfl, e6⟩; have t6 := t5.below e6; have ee6 := ee5.trans (e6.mono ee5.size))))
  have gg := Gr.of (rb := rb) ee6
  have h2 := t6
  obtain ⟨w2, hw2⟩ : ∃ w2, x6 = w2 := ⟨_, rfl⟩
  rw [hw2] at gg h2 ⊢
  clear hw2
  have z2 := gg.size
  have B7 := (gg.block (lt_heap B7) (by omega)).trans B7
  have B8 := (gg.block (lt_heap B8) (by omega)).trans B8
  have g2 := g0.trans gg
  clear gg
  clear h0 g0 HT0 HT1 HT2 HT3 HT4 HT5 HT6
  have HB7 := Lib.hid (fun w5 (g5 : Gr rb w2 w5) => (g5.block (lt_heap B7) (by omega)).trans B7)
  have HB8 := Lib.hid (fun w5 (g5 : Gr rb w2 w5) => (g5.block (lt_heap B8) (by omega)).trans B8)
  go_upto_region 18 with (go_at_call 65; ((with_reducible refine (HXX.out _ h2).mono ?_); rintro e w5 ⟨⟨vv, rfl, vl, vx, vy, rfl, hvl, hvx, hvy, hok⟩, ⟨i5, h5, hd5⟩, g5⟩; obtain ⟨A1, k1, el1, _⟩ := id hvl; obtain ⟨A2, k2, el2, _⟩ := id hvx; obtain ⟨A3, k3, el3, _⟩ := id hvy; subst el1; subst el2; subst el3; have B7 := HB7.out w5 g5; have c0 := box_cell B7 0; have f0 := box_frozen B7 0; have c1 := box_cell B7 1; have f1 := box_frozen B7 1; have c2 := box_cell B7 2; have f2 := box_frozen B7 2; have c3 := box_cell B7 3; have f3 := box_frozen B7 3; have c4 := box_cell B7 4; have f4 := box_frozen B7 4; have c5 := box_cell B7 5; have f5 := box_frozen B7 5; simp only [List.getElem?_toArray, List.getElem?_cons_succ, List.getElem?_cons_zero] at c0 c1 c2 c3 c4 c5))
  have z5 := g5.size
  have hl7 := lt_heap B7
  have h6 : Rd (Proofs.YtmpdnikabkandaaDoor.put6 w5 n3 (.int .i64 t.op) (.string t.s) (.int .i64 t.n) (.slice A1 t.l.len k1) (.slice A2 t.x.len k2) (.slice A3 t.y.len k3)) rb g N cT T i5 o := h5.put6 (by omega) (by omega)
  have g6 : Gr rb W (Proofs.YtmpdnikabkandaaDoor.put6 w5 n3 (.int .i64 t.op) (.string t.s) (.int .i64 t.n) (.slice A1 t.l.len k1) (.slice A2 t.x.len k2) (.slice A3 t.y.len k3)) := (g2.trans g5).put6 (by omega)
  have B7 := put6_heap (a := .int .i64 t.op) (b := .string t.s) (c := .int .i64 t.n) (d := .slice A1 t.l.len k1) (x := .slice A2 t.x.len k2) (y := .slice A3 t.y.len k3) B7
  have B8 : (Proofs.YtmpdnikabkandaaDoor.put6 w5 n3 (.int .i64 t.op) (.string t.s) (.int .i64 t.n) (.slice A1 t.l.len k1) (.slice A2 t.x.len k2) (.slice A3 t.y.len k3)).heap[W.heap.size]? = _ := (put6_block (show W.heap.size ≠ n3 by omega)).trans (HB8.out w5 g5)
  have hL : EX w2.heap.size (Proofs.YtmpdnikabkandaaDoor.put6 w5 n3 (.int .i64 t.op) (.string t.s) (.int .i64 t.n) (.slice A1 t.l.len k1) (.slice A2 t.x.len k2) (.slice A3 t.y.len k3)) _ _ := hvl.kp (Kp.put6 (by omega)) (Nat.le_refl _)
  have hX : SX w2.heap.size (Proofs.YtmpdnikabkandaaDoor.put6 w5 n3 (.int .i64 t.op) (.string t.s) (.int .i64 t.n) (.slice A1 t.l.len k1) (.slice A2 t.x.len k2) (.slice A3 t.y.len k3)) _ _ := hvx.kp (Kp.put6 (by omega)) (Nat.le_refl _)
  have hY : SX w2.heap.size (Proofs.YtmpdnikabkandaaDoor.put6 w5 n3 (.int .i64 t.op) (.string t.s) (.int .i64 t.n) (.slice A1 t.l.len k1) (.slice A2 t.x.len k2) (.slice A3 t.y.len k3)) _ _ := hvy.kp (Kp.put6 (by omega)) (Nat.le_refl _)
  have zp : (Proofs.YtmpdnikabkandaaDoor.put6 w5 n3 (.int .i64 t.op) (.string t.s) (.int .i64 t.n) (.slice A1 t.l.len k1) (.slice A2 t.x.len k2) (.slice A3 t.y.len k3)).heap.size = w5.heap.size := put6_size
  obtain ⟨w6, hw6⟩ : ∃ W5, (Proofs.YtmpdnikabkandaaDoor.put6 w5 n3 (.int .i64 t.op) (.string t.s) (.int .i64 t.n) (.slice A1 t.l.len k1) (.slice A2 t.x.len k2) (.slice A3 t.y.len k3)) = W5 := ⟨_, rfl⟩
  show Code.wp _ _ _ _ (Proofs.YtmpdnikabkandaaDoor.put6 w5 n3 (.int .i64 t.op) (.string t.s) (.int .i64 t.n) (.slice A1 t.l.len k1) (.slice A2 t.x.len k2) (.slice A3 t.y.len k3))
  rw [hw6] at h6 g6 B7 B8 hL hX hY zp ⊢
  clear hw6 c0 c1 c2 c3 c4 c5 f0 f1 f2 f3 f4 f5 HB7 HB8 h5
  go_upto_region 19 with (go_at_call 43; ((with_reducible refine (HW.out _ i5 h6 hd5).mono ?_); rintro e w7 ⟨rfl, h7, g7⟩))
  have z7 := g7.size
  have hl7 := lt_heap B7
  have hl8 := lt_heap B8
  have B7 := (g7.block (lt_heap B7) (by omega)).trans B7
  have B8 := (g7.block (lt_heap B8) (by omega)).trans B8
  have g8 := g6.trans g7
  have hd7 : T.drop (i5 + 1) = r.tail := by rw [← hd5, drop_tail]
  have hL := hL.kp (Kp.gr g7 (show rb < w2.heap.size by omega)) (Nat.le_refl _)
  have hX := hX.kp (Kp.gr g7 (show rb < w2.heap.size by omega)) (Nat.le_refl _)
  have hY := hY.kp (Kp.gr g7 (show rb < w2.heap.size by omega)) (Nat.le_refl _)
  have c0 := box_cell B8 0
  have f0 := box_frozen B8 0
  have d0 := box_cell B7 0
  have c1 := box_cell B8 1
  have f1 := box_frozen B8 1
  have d1 := box_cell B7 1
  have c2 := box_cell B8 2
  have f2 := box_frozen B8 2
  have d2 := box_cell B7 2
  have c3 := box_cell B8 3
  have f3 := box_frozen B8 3
  have d3 := box_cell B7 3
  have c4 := box_cell B8 4
  have f4 := box_frozen B8 4
  have d4 := box_cell B7 4
  have c5 := box_cell B8 5
  have f5 := box_frozen B8 5
  have d5 := box_cell B7 5
  simp only [List.getElem?_toArray, List.getElem?_cons_succ, List.getElem?_cons_zero] at c0 d0 c1 d1 c2 d2 c3 d3 c4 d4 c5 d5
  have hP := put6_heap (a := .int .i64 t.op) (b := .string t.s) (c := .int .i64 t.n) (d := .slice A1 t.l.len k1) (x := .slice A2 t.x.len k2) (y := .slice A3 t.y.len k3) B8
  have hfin : TP rb g N cT o T W (.ok t r.tail) (.returned (.agg #[.int .i64 t.op, .string t.s, .int .i64 t.n, .slice A1 t.l.len k1, .slice A2 t.x.len k2, .slice A3 t.y.len k3])) (Proofs.YtmpdnikabkandaaDoor.put6 w7 W.heap.size (.int .i64 t.op) (.string t.s) (.int .i64 t.n) (.slice A1 t.l.len k1) (.slice A2 t.x.len k2) (.slice A3 t.y.len k3)) :=
    ⟨⟨_, rfl, _, _, _, rfl, hL.kp (Kp.put6 (by omega)) (by omega), hX.kp (Kp.put6 (by omega)) (by omega), hY.kp (Kp.put6 (by omega)) (by omega), hok⟩, ⟨i5 + 1, h7.put6 (by omega) (by omega), hd7⟩, g8.put6 (Nat.le_refl _)⟩
  go_wp2
  obtain ⟨wz, hwz⟩ : ∃ W5, (Proofs.YtmpdnikabkandaaDoor.put6 w7 W.heap.size (.int .i64 t.op) (.string t.s) (.int .i64 t.n) (.slice A1 t.l.len k1) (.slice A2 t.x.len k2) (.slice A3 t.y.len k3)) = W5 := ⟨_, rfl⟩
  show bodyPost _ _ _ _ _ (Proofs.YtmpdnikabkandaaDoor.put6 w7 W.heap.size (.int .i64 t.op) (.string t.s) (.int .i64 t.n) (.slice A1 t.l.len k1) (.slice A2 t.x.len k2) (.slice A3 t.y.len k3))
  rw [hwz] at hP hfin ⊢
  have p0 := box_cell hP 0
  have p1 := box_cell hP 1
  have p2 := box_cell hP 2
  have p3 := box_cell hP 3
  have p4 := box_cell hP 4
  have p5 := box_cell hP 5
  simp only [List.getElem?_toArray, List.getElem?_cons_succ, List.getElem?_cons_zero] at p0 p1 p2 p3 p4 p5
  exact bodyPost_ret (v := .agg #[.int .i64 t.op, .string t.s, .int .i64 t.n, .slice A1 t.l.len k1, .slice A2 t.x.len k2, .slice A3 t.y.len k3]) (by simp [results, Tryd.results47, go_sem, p0, p1, p2, p3, p4, p5]) rfl hfin

set_option maxRecDepth 100000 in
theorem st1_bad {W : World} {rb g N cT i o : Nat} {T : List Tok} (h : Rd W rb g N cT T i o) (b0 : isT (T.drop i) [97, 114, 114, 97, 121] = false) (b1 : isT (T.drop i) [105, 110, 112, 117, 116] = true) (p c : Nat) (hv : nameT (T.drop (i + 1)) = .bad p c) :
    Calls Tryd.prog 47 #[.pointer (some ⟨rb, 0, none⟩)] W (TP rb g N cT o T W (.bad p c)) := by
  have HXX := Lib.hid (fun W1 (h1 : Rd W1 rb g N cT T (i + 1) o) => (show Calls Tryd.prog 44 #[.pointer (some ⟨rb, 0, none⟩)] W1 (NP rb g N cT o T W1 (.bad p c)) from hv ▸ nam_any h1))
  clear hv
  have HT0 := Lib.hid (fun w1 (h1 : Rd w1 rb g N cT T i o) => (show Calls Tryd.prog 58 #[.pointer (some ⟨rb, 0, none⟩), .string ⟨#[97, 114, 114, 97, 121]⟩] w1 (fun e w' => e = .returned (.bool false) ∧ Below w1.heap.size w1 w') from take_no h1 [97, 114, 114, 97, 121] b0))
  have HT1 := Lib.hid (fun w1 (h1 : Rd w1 rb g N cT T i o) => (show Calls Tryd.prog 58 #[.pointer (some ⟨rb, 0, none⟩), .string ⟨#[105, 110, 112, 117, 116]⟩] w1 (fun e w' => e = .returned (.bool true) ∧ Rd w' rb g N cT T (i + 1) o ∧ Gr rb w1 w') from take_yes h1 [105, 110, 112, 117, 116] (by decide) b1))
  have hrl := h.rlt
  have hgl := h.tok.1
  have h0 := (h.alloc (.cells #[.int .i64 0, .string ⟨#[]⟩, .int .i64 0, .slice none 0 0, .slice none 0 0, .slice none 0 0] 38)).alloc (.cells #[.int .i64 0, .string ⟨#[]⟩, .int .i64 0, .slice none 0 0, .slice none 0 0, .slice none 0 0] 38)
  have B8 := (Below.heap_alloc (W.alloc (.cells #[.int .i64 0, .string ⟨#[]⟩, .int .i64 0, .slice none 0 0, .slice none 0 0, .slice none 0 0] 38)) (.cells #[.int .i64 0, .string ⟨#[]⟩, .int .i64 0, .slice none 0 0, .slice none 0 0, .slice none 0 0] 38) W.heap.size (by simp)).trans (heap_alloc_new W (.cells #[.int .i64 0, .string ⟨#[]⟩, .int .i64 0, .slice none 0 0, .slice none 0 0, .slice none 0 0] 38))
  have B7 := heap_alloc_new (W.alloc (.cells #[.int .i64 0, .string ⟨#[]⟩, .int .i64 0, .slice none 0 0, .slice none 0 0, .slice none 0 0] 38)) (.cells #[.int .i64 0, .string ⟨#[]⟩, .int .i64 0, .slice none 0 0, .slice none 0 0, .slice none 0 0] 38)
  rw [World.size_alloc] at B7
  have g0 := ((Gr.refl rb W).alloc (.cells #[.int .i64 0, .string ⟨#[]⟩, .int .i64 0, .slice none 0 0, .slice none 0 0, .slice none 0 0] 38)).alloc (.cells #[.int .i64 0, .string ⟨#[]⟩, .int .i64 0, .slice none 0 0, .slice none 0 0, .slice none 0 0] 38)
  have z0 : ((W.alloc (.cells #[.int .i64 0, .string ⟨#[]⟩, .int .i64 0, .slice none 0 0, .slice none 0 0, .slice none 0 0] 38)).alloc (.cells #[.int .i64 0, .string ⟨#[]⟩, .int .i64 0, .slice none 0 0, .slice none 0 0, .slice none 0 0] 38)).heap.size = W.heap.size + 2 := by simp
  clear h b0 b1
  go_enter Tryd.func47, Tryd.ntmps47
  go_upto_region 3 with fail
  obtain ⟨w0, hw0⟩ : ∃ W1, (W.alloc (.cells #[.int .i64 0, .string ⟨#[]⟩, .int .i64 0, .slice none 0 0, .slice none 0 0, .slice none 0 0] 38)).alloc (.cells #[.int .i64 0, .string ⟨#[]⟩, .int .i64 0, .slice none 0 0, .slice none 0 0, .slice none 0 0] 38) = W1 := ⟨_, rfl⟩
  rw [hw0] at h0 B8 B7 g0 z0 ⊢
  clear hw0
  obtain ⟨n3, hn3⟩ : ∃ n3, W.heap.size + 1 = n3 := ⟨_, rfl⟩
  rw [hn3] at B7 ⊢
  go_upto_region 7 with (first
    | (go_at_call 58; ((with_reducible refine (HT0.out _ h0).mono ?_); rintro e x0 ⟨rfl, e0⟩; have t0 := h0.below e0; have ee0 := e0))
    | (go_at_call 58; ((with_reducible refine (HT1.out _ t0).mono ?_); rintro e w2 ⟨rfl, h2, gq⟩; have gg := (Gr.of ee0).trans gq)))
  have z2 := gg.size
  have B7 := (gg.block (lt_heap B7) (by omega)).trans B7
  have B8 := (gg.block (lt_heap B8) (by omega)).trans B8
  have g2 := g0.trans gg
  clear gg
  clear h0 g0 HT0 HT1
  go_wp2_with (go_at_call 44; ((with_reducible refine (HXX.out _ h2).mono ?_); rintro e w5 ⟨rfl, g5⟩))
  exact ⟨rfl, rfl, g2.trans g5⟩

set_option maxRecDepth 100000 in
theorem st1_no {W : World} {rb g N cT i o : Nat} {T : List Tok} (h : Rd W rb g N cT T i o) (b0 : isT (T.drop i) [97, 114, 114, 97, 121] = false) (b1 : isT (T.drop i) [105, 110, 112, 117, 116] = true) (s : ByteArray) (r : List Tok) (hv : nameT (T.drop (i + 1)) = .ok s r) (bs : isT r [59] = false) :
    Calls Tryd.prog 47 #[.pointer (some ⟨rb, 0, none⟩)] W (TP rb g N cT o T W (.bad (hdT r).at_ 2)) := by
  have HXX := Lib.hid (fun W1 (h1 : Rd W1 rb g N cT T (i + 1) o) => (show Calls Tryd.prog 44 #[.pointer (some ⟨rb, 0, none⟩)] W1 (NP rb g N cT o T W1 (.ok s r)) from hv ▸ nam_any h1))
  have HW := Lib.hid (fun w2 i2 (h2 : Rd w2 rb g N cT T i2 o) (hd : T.drop i2 = r) => (show Calls Tryd.prog 43 #[.pointer (some ⟨rb, 0, none⟩), .string ⟨#[59]⟩] w2 (fun e w' => e = flt (hdT r).at_ 2 ∧ Below w2.heap.size w2 w') from want_no h2 [59] (by rw [hd]; exact bs) _ (by rw [hd])))
  clear hv bs
  have HT0 := Lib.hid (fun w1 (h1 : Rd w1 rb g N cT T i o) => (show Calls Tryd.prog 58 #[.pointer (some ⟨rb, 0, none⟩), .string ⟨#[97, 114, 114, 97, 121]⟩] w1 (fun e w' => e = .returned (.bool false) ∧ Below w1.heap.size w1 w') from take_no h1 [97, 114, 114, 97, 121] b0))
  have HT1 := Lib.hid (fun w1 (h1 : Rd w1 rb g N cT T i o) => (show Calls Tryd.prog 58 #[.pointer (some ⟨rb, 0, none⟩), .string ⟨#[105, 110, 112, 117, 116]⟩] w1 (fun e w' => e = .returned (.bool true) ∧ Rd w' rb g N cT T (i + 1) o ∧ Gr rb w1 w') from take_yes h1 [105, 110, 112, 117, 116] (by decide) b1))
  have hrl := h.rlt
  have hgl := h.tok.1
  have h0 := (h.alloc (.cells #[.int .i64 0, .string ⟨#[]⟩, .int .i64 0, .slice none 0 0, .slice none 0 0, .slice none 0 0] 38)).alloc (.cells #[.int .i64 0, .string ⟨#[]⟩, .int .i64 0, .slice none 0 0, .slice none 0 0, .slice none 0 0] 38)
  have B8 := (Below.heap_alloc (W.alloc (.cells #[.int .i64 0, .string ⟨#[]⟩, .int .i64 0, .slice none 0 0, .slice none 0 0, .slice none 0 0] 38)) (.cells #[.int .i64 0, .string ⟨#[]⟩, .int .i64 0, .slice none 0 0, .slice none 0 0, .slice none 0 0] 38) W.heap.size (by simp)).trans (heap_alloc_new W (.cells #[.int .i64 0, .string ⟨#[]⟩, .int .i64 0, .slice none 0 0, .slice none 0 0, .slice none 0 0] 38))
  have B7 := heap_alloc_new (W.alloc (.cells #[.int .i64 0, .string ⟨#[]⟩, .int .i64 0, .slice none 0 0, .slice none 0 0, .slice none 0 0] 38)) (.cells #[.int .i64 0, .string ⟨#[]⟩, .int .i64 0, .slice none 0 0, .slice none 0 0, .slice none 0 0] 38)
  rw [World.size_alloc] at B7
  have g0 := ((Gr.refl rb W).alloc (.cells #[.int .i64 0, .string ⟨#[]⟩, .int .i64 0, .slice none 0 0, .slice none 0 0, .slice none 0 0] 38)).alloc (.cells #[.int .i64 0, .string ⟨#[]⟩, .int .i64 0, .slice none 0 0, .slice none 0 0, .slice none 0 0] 38)
  have z0 : ((W.alloc (.cells #[.int .i64 0, .string ⟨#[]⟩, .int .i64 0, .slice none 0 0, .slice none 0 0, .slice none 0 0] 38)).alloc (.cells #[.int .i64 0, .string ⟨#[]⟩, .int .i64 0, .slice none 0 0, .slice none 0 0, .slice none 0 0] 38)).heap.size = W.heap.size + 2 := by simp
  clear h b0 b1
  go_enter Tryd.func47, Tryd.ntmps47
  go_upto_region 3 with fail
  obtain ⟨w0, hw0⟩ : ∃ W1, (W.alloc (.cells #[.int .i64 0, .string ⟨#[]⟩, .int .i64 0, .slice none 0 0, .slice none 0 0, .slice none 0 0] 38)).alloc (.cells #[.int .i64 0, .string ⟨#[]⟩, .int .i64 0, .slice none 0 0, .slice none 0 0, .slice none 0 0] 38) = W1 := ⟨_, rfl⟩
  rw [hw0] at h0 B8 B7 g0 z0 ⊢
  clear hw0
  obtain ⟨n3, hn3⟩ : ∃ n3, W.heap.size + 1 = n3 := ⟨_, rfl⟩
  rw [hn3] at B7 ⊢
  go_upto_region 7 with (first
    | (go_at_call 58; ((with_reducible refine (HT0.out _ h0).mono ?_); rintro e x0 ⟨rfl, e0⟩; have t0 := h0.below e0; have ee0 := e0))
    | (go_at_call 58; ((with_reducible refine (HT1.out _ t0).mono ?_); rintro e w2 ⟨rfl, h2, gq⟩; have gg := (Gr.of ee0).trans gq)))
  have z2 := gg.size
  have B7 := (gg.block (lt_heap B7) (by omega)).trans B7
  have B8 := (gg.block (lt_heap B8) (by omega)).trans B8
  have g2 := g0.trans gg
  clear gg
  clear h0 g0 HT0 HT1
  have HB7 := Lib.hid (fun w5 (g5 : Gr rb w2 w5) => (g5.block (lt_heap B7) (by omega)).trans B7)
  have HB8 := Lib.hid (fun w5 (g5 : Gr rb w2 w5) => (g5.block (lt_heap B8) (by omega)).trans B8)
  go_upto_region 18 with (go_at_call 44; ((with_reducible refine (HXX.out _ h2).mono ?_); rintro e w5 ⟨rfl, ⟨i5, h5, hd5⟩, g5, hsz⟩; have B7 := HB7.out w5 g5; have c0 := box_cell B7 0; have f0 := box_frozen B7 0; have c1 := box_cell B7 1; have f1 := box_frozen B7 1; have c2 := box_cell B7 2; have f2 := box_frozen B7 2; have c3 := box_cell B7 3; have f3 := box_frozen B7 3; have c4 := box_cell B7 4; have f4 := box_frozen B7 4; have c5 := box_cell B7 5; have f5 := box_frozen B7 5; simp only [List.getElem?_toArray, List.getElem?_cons_succ, List.getElem?_cons_zero] at c0 c1 c2 c3 c4 c5))
  have z5 := g5.size
  have hl7 := lt_heap B7
  have h6 : Rd (Proofs.YtmpdnikabkandaaDoor.put6 w5 n3 (.int .i64 4) (.string s) (.int .i64 0) (.slice none 0 0) (.slice none 0 0) (.slice none 0 0)) rb g N cT T i5 o := h5.put6 (by omega) (by omega)
  have g6 : Gr rb W (Proofs.YtmpdnikabkandaaDoor.put6 w5 n3 (.int .i64 4) (.string s) (.int .i64 0) (.slice none 0 0) (.slice none 0 0) (.slice none 0 0)) := (g2.trans g5).put6 (by omega)
  have B7 := put6_heap (a := .int .i64 4) (b := .string s) (c := .int .i64 0) (d := .slice none 0 0) (x := .slice none 0 0) (y := .slice none 0 0) B7
  have B8 : (Proofs.YtmpdnikabkandaaDoor.put6 w5 n3 (.int .i64 4) (.string s) (.int .i64 0) (.slice none 0 0) (.slice none 0 0) (.slice none 0 0)).heap[W.heap.size]? = _ := (put6_block (show W.heap.size ≠ n3 by omega)).trans (HB8.out w5 g5)
  have zp : (Proofs.YtmpdnikabkandaaDoor.put6 w5 n3 (.int .i64 4) (.string s) (.int .i64 0) (.slice none 0 0) (.slice none 0 0) (.slice none 0 0)).heap.size = w5.heap.size := put6_size
  obtain ⟨w6, hw6⟩ : ∃ W5, (Proofs.YtmpdnikabkandaaDoor.put6 w5 n3 (.int .i64 4) (.string s) (.int .i64 0) (.slice none 0 0) (.slice none 0 0) (.slice none 0 0)) = W5 := ⟨_, rfl⟩
  show Code.wp _ _ _ _ (Proofs.YtmpdnikabkandaaDoor.put6 w5 n3 (.int .i64 4) (.string s) (.int .i64 0) (.slice none 0 0) (.slice none 0 0) (.slice none 0 0))
  rw [hw6] at h6 g6 B7 B8 zp ⊢
  clear hw6 c0 c1 c2 c3 c4 c5 f0 f1 f2 f3 f4 f5 HB7 HB8 h5
  go_wp2_with (go_at_call 43; ((with_reducible refine (HW.out _ i5 h6 hd5).mono ?_); rintro e w7 ⟨rfl, e7⟩))
  exact ⟨rfl, rfl, g6.trans (Gr.of e7)⟩

set_option maxRecDepth 100000 in
theorem st1_yes {W : World} {rb g N cT i o : Nat} {T : List Tok} (h : Rd W rb g N cT T i o) (b0 : isT (T.drop i) [97, 114, 114, 97, 121] = false) (b1 : isT (T.drop i) [105, 110, 112, 117, 116] = true) (s : ByteArray) (r : List Tok) (hv : nameT (T.drop (i + 1)) = .ok s r) (bs : isT r [59] = true) :
    Calls Tryd.prog 47 #[.pointer (some ⟨rb, 0, none⟩)] W (TP rb g N cT o T W (.ok ⟨4, s, 0, .nil, .nil, .nil⟩ r.tail)) := by
  have HXX := Lib.hid (fun W1 (h1 : Rd W1 rb g N cT T (i + 1) o) => (show Calls Tryd.prog 44 #[.pointer (some ⟨rb, 0, none⟩)] W1 (NP rb g N cT o T W1 (.ok s r)) from hv ▸ nam_any h1))
  have HW := Lib.hid (fun w2 i2 (h2 : Rd w2 rb g N cT T i2 o) (hd : T.drop i2 = r) => (show Calls Tryd.prog 43 #[.pointer (some ⟨rb, 0, none⟩), .string ⟨#[59]⟩] w2 (fun e w' => e = .returned (.tuple #[]) ∧ Rd w' rb g N cT T (i2 + 1) o ∧ Gr rb w2 w') from want_yes h2 [59] (by decide) (by rw [hd]; exact bs)))
  clear hv bs
  have HT0 := Lib.hid (fun w1 (h1 : Rd w1 rb g N cT T i o) => (show Calls Tryd.prog 58 #[.pointer (some ⟨rb, 0, none⟩), .string ⟨#[97, 114, 114, 97, 121]⟩] w1 (fun e w' => e = .returned (.bool false) ∧ Below w1.heap.size w1 w') from take_no h1 [97, 114, 114, 97, 121] b0))
  have HT1 := Lib.hid (fun w1 (h1 : Rd w1 rb g N cT T i o) => (show Calls Tryd.prog 58 #[.pointer (some ⟨rb, 0, none⟩), .string ⟨#[105, 110, 112, 117, 116]⟩] w1 (fun e w' => e = .returned (.bool true) ∧ Rd w' rb g N cT T (i + 1) o ∧ Gr rb w1 w') from take_yes h1 [105, 110, 112, 117, 116] (by decide) b1))
  have hrl := h.rlt
  have hgl := h.tok.1
  have h0 := (h.alloc (.cells #[.int .i64 0, .string ⟨#[]⟩, .int .i64 0, .slice none 0 0, .slice none 0 0, .slice none 0 0] 38)).alloc (.cells #[.int .i64 0, .string ⟨#[]⟩, .int .i64 0, .slice none 0 0, .slice none 0 0, .slice none 0 0] 38)
  have B8 := (Below.heap_alloc (W.alloc (.cells #[.int .i64 0, .string ⟨#[]⟩, .int .i64 0, .slice none 0 0, .slice none 0 0, .slice none 0 0] 38)) (.cells #[.int .i64 0, .string ⟨#[]⟩, .int .i64 0, .slice none 0 0, .slice none 0 0, .slice none 0 0] 38) W.heap.size (by simp)).trans (heap_alloc_new W (.cells #[.int .i64 0, .string ⟨#[]⟩, .int .i64 0, .slice none 0 0, .slice none 0 0, .slice none 0 0] 38))
  have B7 := heap_alloc_new (W.alloc (.cells #[.int .i64 0, .string ⟨#[]⟩, .int .i64 0, .slice none 0 0, .slice none 0 0, .slice none 0 0] 38)) (.cells #[.int .i64 0, .string ⟨#[]⟩, .int .i64 0, .slice none 0 0, .slice none 0 0, .slice none 0 0] 38)
  rw [World.size_alloc] at B7
  have g0 := ((Gr.refl rb W).alloc (.cells #[.int .i64 0, .string ⟨#[]⟩, .int .i64 0, .slice none 0 0, .slice none 0 0, .slice none 0 0] 38)).alloc (.cells #[.int .i64 0, .string ⟨#[]⟩, .int .i64 0, .slice none 0 0, .slice none 0 0, .slice none 0 0] 38)
  have z0 : ((W.alloc (.cells #[.int .i64 0, .string ⟨#[]⟩, .int .i64 0, .slice none 0 0, .slice none 0 0, .slice none 0 0] 38)).alloc (.cells #[.int .i64 0, .string ⟨#[]⟩, .int .i64 0, .slice none 0 0, .slice none 0 0, .slice none 0 0] 38)).heap.size = W.heap.size + 2 := by simp
  clear h b0 b1
  go_enter Tryd.func47, Tryd.ntmps47
  go_upto_region 3 with fail
  obtain ⟨w0, hw0⟩ : ∃ W1, (W.alloc (.cells #[.int .i64 0, .string ⟨#[]⟩, .int .i64 0, .slice none 0 0, .slice none 0 0, .slice none 0 0] 38)).alloc (.cells #[.int .i64 0, .string ⟨#[]⟩, .int .i64 0, .slice none 0 0, .slice none 0 0, .slice none 0 0] 38) = W1 := ⟨_, rfl⟩
  rw [hw0] at h0 B8 B7 g0 z0 ⊢
  clear hw0
  obtain ⟨n3, hn3⟩ : ∃ n3, W.heap.size + 1 = n3 := ⟨_, rfl⟩
  rw [hn3] at B7 ⊢
  go_upto_region 7 with (first
    | (go_at_call 58; ((with_reducible refine (HT0.out _ h0).mono ?_); rintro e x0 ⟨rfl, e0⟩; have t0 := h0.below e0; have ee0 := e0))
    | (go_at_call 58; ((with_reducible refine (HT1.out _ t0).mono ?_); rintro e w2 ⟨rfl, h2, gq⟩; have gg := (Gr.of ee0).trans gq)))
  have z2 := gg.size
  have B7 := (gg.block (lt_heap B7) (by omega)).trans B7
  have B8 := (gg.block (lt_heap B8) (by omega)).trans B8
  have g2 := g0.trans gg
  clear gg
  clear h0 g0 HT0 HT1
  have HB7 := Lib.hid (fun w5 (g5 : Gr rb w2 w5) => (g5.block (lt_heap B7) (by omega)).trans B7)
  have HB8 := Lib.hid (fun w5 (g5 : Gr rb w2 w5) => (g5.block (lt_heap B8) (by omega)).trans B8)
  go_upto_region 18 with (go_at_call 44; ((with_reducible refine (HXX.out _ h2).mono ?_); rintro e w5 ⟨rfl, ⟨i5, h5, hd5⟩, g5, hsz⟩; have B7 := HB7.out w5 g5; have c0 := box_cell B7 0; have f0 := box_frozen B7 0; have c1 := box_cell B7 1; have f1 := box_frozen B7 1; have c2 := box_cell B7 2; have f2 := box_frozen B7 2; have c3 := box_cell B7 3; have f3 := box_frozen B7 3; have c4 := box_cell B7 4; have f4 := box_frozen B7 4; have c5 := box_cell B7 5; have f5 := box_frozen B7 5; simp only [List.getElem?_toArray, List.getElem?_cons_succ, List.getElem?_cons_zero] at c0 c1 c2 c3 c4 c5))
  have z5 := g5.size
  have hl7 := lt_heap B7
  have h6 : Rd (Proofs.YtmpdnikabkandaaDoor.put6 w5 n3 (.int .i64 4) (.string s) (.int .i64 0) (.slice none 0 0) (.slice none 0 0) (.slice none 0 0)) rb g N cT T i5 o := h5.put6 (by omega) (by omega)
  have g6 : Gr rb W (Proofs.YtmpdnikabkandaaDoor.put6 w5 n3 (.int .i64 4) (.string s) (.int .i64 0) (.slice none 0 0) (.slice none 0 0) (.slice none 0 0)) := (g2.trans g5).put6 (by omega)
  have B7 := put6_heap (a := .int .i64 4) (b := .string s) (c := .int .i64 0) (d := .slice none 0 0) (x := .slice none 0 0) (y := .slice none 0 0) B7
  have B8 : (Proofs.YtmpdnikabkandaaDoor.put6 w5 n3 (.int .i64 4) (.string s) (.int .i64 0) (.slice none 0 0) (.slice none 0 0) (.slice none 0 0)).heap[W.heap.size]? = _ := (put6_block (show W.heap.size ≠ n3 by omega)).trans (HB8.out w5 g5)
  have zp : (Proofs.YtmpdnikabkandaaDoor.put6 w5 n3 (.int .i64 4) (.string s) (.int .i64 0) (.slice none 0 0) (.slice none 0 0) (.slice none 0 0)).heap.size = w5.heap.size := put6_size
  obtain ⟨w6, hw6⟩ : ∃ W5, (Proofs.YtmpdnikabkandaaDoor.put6 w5 n3 (.int .i64 4) (.string s) (.int .i64 0) (.slice none 0 0) (.slice none 0 0) (.slice none 0 0)) = W5 := ⟨_, rfl⟩
  show Code.wp _ _ _ _ (Proofs.YtmpdnikabkandaaDoor.put6 w5 n3 (.int .i64 4) (.string s) (.int .i64 0) (.slice none 0 0) (.slice none 0 0) (.slice none 0 0))
  rw [hw6] at h6 g6 B7 B8 zp ⊢
  clear hw6 c0 c1 c2 c3 c4 c5 f0 f1 f2 f3 f4 f5 HB7 HB8 h5
  go_upto_region 19 with (go_at_call 43; ((with_reducible refine (HW.out _ i5 h6 hd5).mono ?_); rintro e w7 ⟨rfl, h7, g7⟩))
  have z7 := g7.size
  have hl7 := lt_heap B7
  have hl8 := lt_heap B8
  have B7 := (g7.block (lt_heap B7) (by omega)).trans B7
  have B8 := (g7.block (lt_heap B8) (by omega)).trans B8
  have g8 := g6.trans g7
  have hd7 : T.drop (i5 + 1) = r.tail := by rw [← hd5, drop_tail]
  have c0 := box_cell B8 0
  have f0 := box_frozen B8 0
  have d0 := box_cell B7 0
  have c1 := box_cell B8 1
  have f1 := box_frozen B8 1
  have d1 := box_cell B7 1
  have c2 := box_cell B8 2
  have f2 := box_frozen B8 2
  have d2 := box_cell B7 2
  have c3 := box_cell B8 3
  have f3 := box_frozen B8 3
  have d3 := box_cell B7 3
  have c4 := box_cell B8 4
  have f4 := box_frozen B8 4
  have d4 := box_cell B7 4
  have c5 := box_cell B8 5
  have f5 := box_frozen B8 5
  have d5 := box_cell B7 5
  simp only [List.getElem?_toArray, List.getElem?_cons_succ, List.getElem?_cons_zero] at c0 d0 c1 d1 c2 d2 c3 d3 c4 d4 c5 d5
  have hP := put6_heap (a := .int .i64 4) (b := .string s) (c := .int .i64 0) (d := .slice none 0 0) (x := .slice none 0 0) (y := .slice none 0 0) B8
  have hfin : TP rb g N cT o T W (.ok ⟨4, s, 0, .nil, .nil, .nil⟩ r.tail) (.returned (.agg #[.int .i64 4, .string s, .int .i64 0, .slice none 0 0, .slice none 0 0, .slice none 0 0])) (Proofs.YtmpdnikabkandaaDoor.put6 w7 W.heap.size (.int .i64 4) (.string s) (.int .i64 0) (.slice none 0 0) (.slice none 0 0) (.slice none 0 0)) :=
    ⟨⟨_, rfl, _, _, _, rfl, ex_nil _ _, sx_nil _ _, sx_nil _ _, (show I64 4 by unfold I64; omega), i64_0, hsz⟩, ⟨i5 + 1, h7.put6 (by omega) (by omega), hd7⟩, g8.put6 (Nat.le_refl _)⟩
  go_wp2
  obtain ⟨wz, hwz⟩ : ∃ W5, (Proofs.YtmpdnikabkandaaDoor.put6 w7 W.heap.size (.int .i64 4) (.string s) (.int .i64 0) (.slice none 0 0) (.slice none 0 0) (.slice none 0 0)) = W5 := ⟨_, rfl⟩
  show bodyPost _ _ _ _ _ (Proofs.YtmpdnikabkandaaDoor.put6 w7 W.heap.size (.int .i64 4) (.string s) (.int .i64 0) (.slice none 0 0) (.slice none 0 0) (.slice none 0 0))
  rw [hwz] at hP hfin ⊢
  have p0 := box_cell hP 0
  have p1 := box_cell hP 1
  have p2 := box_cell hP 2
  have p3 := box_cell hP 3
  have p4 := box_cell hP 4
  have p5 := box_cell hP 5
  simp only [List.getElem?_toArray, List.getElem?_cons_succ, List.getElem?_cons_zero] at p0 p1 p2 p3 p4 p5
  exact bodyPost_ret (v := .agg #[.int .i64 4, .string s, .int .i64 0, .slice none 0 0, .slice none 0 0, .slice none 0 0]) (by simp [results, Tryd.results47, go_sem, p0, p1, p2, p3, p4, p5]) rfl hfin

set_option maxRecDepth 100000 in
theorem st0_bad {W : World} {rb g N cT i o : Nat} {T : List Tok} (h : Rd W rb g N cT T i o) (b0 : isT (T.drop i) [97, 114, 114, 97, 121] = true) (p c : Nat) (hv : nameT (T.drop (i + 1)) = .bad p c) :
    Calls Tryd.prog 47 #[.pointer (some ⟨rb, 0, none⟩)] W (TP rb g N cT o T W (.bad p c)) := by
  have HXX := Lib.hid (fun W1 (h1 : Rd W1 rb g N cT T (i + 1) o) => (show Calls Tryd.prog 44 #[.pointer (some ⟨rb, 0, none⟩)] W1 (NP rb g N cT o T W1 (.bad p c)) from hv ▸ nam_any h1))
  clear hv
  have HT0 := Lib.hid (fun w1 (h1 : Rd w1 rb g N cT T i o) => (show Calls Tryd.prog 58 #[.pointer (some ⟨rb, 0, none⟩), .string ⟨#[97, 114, 114, 97, 121]⟩] w1 (fun e w' => e = .returned (.bool true) ∧ Rd w' rb g N cT T (i + 1) o ∧ Gr rb w1 w') from take_yes h1 [97, 114, 114, 97, 121] (by decide) b0))
  have hrl := h.rlt
  have hgl := h.tok.1
  have h0 := (h.alloc (.cells #[.int .i64 0, .string ⟨#[]⟩, .int .i64 0, .slice none 0 0, .slice none 0 0, .slice none 0 0] 38)).alloc (.cells #[.int .i64 0, .string ⟨#[]⟩, .int .i64 0, .slice none 0 0, .slice none 0 0, .slice none 0 0] 38)
  have B8 := (Below.heap_alloc (W.alloc (.cells #[.int .i64 0, .string ⟨#[]⟩, .int .i64 0, .slice none 0 0, .slice none 0 0, .slice none 0 0] 38)) (.cells #[.int .i64 0, .string ⟨#[]⟩, .int .i64 0, .slice none 0 0, .slice none 0 0, .slice none 0 0] 38) W.heap.size (by simp)).trans (heap_alloc_new W (.cells #[.int .i64 0, .string ⟨#[]⟩, .int .i64 0, .slice none 0 0, .slice none 0 0, .slice none 0 0] 38))
  have B7 := heap_alloc_new (W.alloc (.cells #[.int .i64 0, .string ⟨#[]⟩, .int .i64 0, .slice none 0 0, .slice none 0 0, .slice none 0 0] 38)) (.cells #[.int .i64 0, .string ⟨#[]⟩, .int .i64 0, .slice none 0 0, .slice none 0 0, .slice none 0 0] 38)
  rw [World.size_alloc] at B7
  have g0 := ((Gr.refl rb W).alloc (.cells #[.int .i64 0, .string ⟨#[]⟩, .int .i64 0, .slice none 0 0, .slice none 0 0, .slice none 0 0] 38)).alloc (.cells #[.int .i64 0, .string ⟨#[]⟩, .int .i64 0, .slice none 0 0, .slice none 0 0, .slice none 0 0] 38)
  have z0 : ((W.alloc (.cells #[.int .i64 0, .string ⟨#[]⟩, .int .i64 0, .slice none 0 0, .slice none 0 0, .slice none 0 0] 38)).alloc (.cells #[.int .i64 0, .string ⟨#[]⟩, .int .i64 0, .slice none 0 0, .slice none 0 0, .slice none 0 0] 38)).heap.size = W.heap.size + 2 := by simp
  clear h b0
  go_enter Tryd.func47, Tryd.ntmps47
  go_upto_region 3 with fail
  obtain ⟨w0, hw0⟩ : ∃ W1, (W.alloc (.cells #[.int .i64 0, .string ⟨#[]⟩, .int .i64 0, .slice none 0 0, .slice none 0 0, .slice none 0 0] 38)).alloc (.cells #[.int .i64 0, .string ⟨#[]⟩, .int .i64 0, .slice none 0 0, .slice none 0 0, .slice none 0 0] 38) = W1 := ⟨_, rfl⟩
  rw [hw0] at h0 B8 B7 g0 z0 ⊢
  clear hw0
  obtain ⟨n3, hn3⟩ : ∃ n3, W.heap.size + 1 = n3 := ⟨_, rfl⟩
  rw [hn3] at B7 ⊢
  go_upto_region 4 with (first
    | (go_at_call 58; ((with_reducible refine (HT0.out _ h0).mono ?_); rintro e w2 ⟨rfl, h2, gq⟩; have gg := gq)))
  have z2 := gg.size
  have B7 := (gg.block (lt_heap B7) (by omega)).trans B7
  have B8 := (gg.block (lt_heap B8) (by omega)).trans B8
  have g2 := g0.trans gg
  clear gg
  clear h0 g0 HT0
  go_wp2_with (go_at_call 44; ((with_reducible refine (HXX.out _ h2).mono ?_); rintro e w5 ⟨rfl, g5⟩))
  exact ⟨rfl, rfl, g2.trans g5⟩

set_option maxRecDepth 100000 in
theorem st0_nbad {W : World} {rb g N cT i o : Nat} {T : List Tok} (h : Rd W rb g N cT T i o) (b0 : isT (T.drop i) [97, 114, 114, 97, 121] = true) (s : ByteArray) (r0 : List Tok) (hv : nameT (T.drop (i + 1)) = .ok s r0) (p c : Nat) (hu : numT 1 4096 r0 = .bad p c) :
    Calls Tryd.prog 47 #[.pointer (some ⟨rb, 0, none⟩)] W (TP rb g N cT o T W (.bad p c)) := by
  have HXX := Lib.hid (fun W1 (h1 : Rd W1 rb g N cT T (i + 1) o) => (show Calls Tryd.prog 44 #[.pointer (some ⟨rb, 0, none⟩)] W1 (NP rb g N cT o T W1 (.ok s r0)) from hv ▸ nam_any h1))
  have HU := Lib.hid (fun W1 i1 (h1 : Rd W1 rb g N cT T i1 o) (hd : T.drop i1 = r0) => (show Calls Tryd.prog 61 #[.pointer (some ⟨rb, 0, none⟩), .int .i64 1, .int .i64 4096] W1 (UP rb g N cT o T W1 (.bad p c)) from hu ▸ hd ▸ numb_any h1 1 4096))
  clear hv hu
  have HT0 := Lib.hid (fun w1 (h1 : Rd w1 rb g N cT T i o) => (show Calls Tryd.prog 58 #[.pointer (some ⟨rb, 0, none⟩), .string ⟨#[97, 114, 114, 97, 121]⟩] w1 (fun e w' => e = .returned (.bool true) ∧ Rd w' rb g N cT T (i + 1) o ∧ Gr rb w1 w') from take_yes h1 [97, 114, 114, 97, 121] (by decide) b0))
  have hrl := h.rlt
  have hgl := h.tok.1
  have h0 := (h.alloc (.cells #[.int .i64 0, .string ⟨#[]⟩, .int .i64 0, .slice none 0 0, .slice none 0 0, .slice none 0 0] 38)).alloc (.cells #[.int .i64 0, .string ⟨#[]⟩, .int .i64 0, .slice none 0 0, .slice none 0 0, .slice none 0 0] 38)
  have B8 := (Below.heap_alloc (W.alloc (.cells #[.int .i64 0, .string ⟨#[]⟩, .int .i64 0, .slice none 0 0, .slice none 0 0, .slice none 0 0] 38)) (.cells #[.int .i64 0, .string ⟨#[]⟩, .int .i64 0, .slice none 0 0, .slice none 0 0, .slice none 0 0] 38) W.heap.size (by simp)).trans (heap_alloc_new W (.cells #[.int .i64 0, .string ⟨#[]⟩, .int .i64 0, .slice none 0 0, .slice none 0 0, .slice none 0 0] 38))
  have B7 := heap_alloc_new (W.alloc (.cells #[.int .i64 0, .string ⟨#[]⟩, .int .i64 0, .slice none 0 0, .slice none 0 0, .slice none 0 0] 38)) (.cells #[.int .i64 0, .string ⟨#[]⟩, .int .i64 0, .slice none 0 0, .slice none 0 0, .slice none 0 0] 38)
  rw [World.size_alloc] at B7
  have g0 := ((Gr.refl rb W).alloc (.cells #[.int .i64 0, .string ⟨#[]⟩, .int .i64 0, .slice none 0 0, .slice none 0 0, .slice none 0 0] 38)).alloc (.cells #[.int .i64 0, .string ⟨#[]⟩, .int .i64 0, .slice none 0 0, .slice none 0 0, .slice none 0 0] 38)
  have z0 : ((W.alloc (.cells #[.int .i64 0, .string ⟨#[]⟩, .int .i64 0, .slice none 0 0, .slice none 0 0, .slice none 0 0] 38)).alloc (.cells #[.int .i64 0, .string ⟨#[]⟩, .int .i64 0, .slice none 0 0, .slice none 0 0, .slice none 0 0] 38)).heap.size = W.heap.size + 2 := by simp
  clear h b0
  go_enter Tryd.func47, Tryd.ntmps47
  go_upto_region 3 with fail
  obtain ⟨w0, hw0⟩ : ∃ W1, (W.alloc (.cells #[.int .i64 0, .string ⟨#[]⟩, .int .i64 0, .slice none 0 0, .slice none 0 0, .slice none 0 0] 38)).alloc (.cells #[.int .i64 0, .string ⟨#[]⟩, .int .i64 0, .slice none 0 0, .slice none 0 0, .slice none 0 0] 38) = W1 := ⟨_, rfl⟩
  rw [hw0] at h0 B8 B7 g0 z0 ⊢
  clear hw0
  obtain ⟨n3, hn3⟩ : ∃ n3, W.heap.size + 1 = n3 := ⟨_, rfl⟩
  rw [hn3] at B7 ⊢
  go_upto_region 4 with (first
    | (go_at_call 58; ((with_reducible refine (HT0.out _ h0).mono ?_); rintro e w2 ⟨rfl, h2, gq⟩; have gg := gq)))
  have z2 := gg.size
  have B7 := (gg.block (lt_heap B7) (by omega)).trans B7
  have B8 := (gg.block (lt_heap B8) (by omega)).trans B8
  have g2 := g0.trans gg
  clear gg
  clear h0 g0 HT0
  have HB7 := Lib.hid (fun w5 (g5 : Gr rb w2 w5) => (g5.block (lt_heap B7) (by omega)).trans B7)
  have HB8 := Lib.hid (fun w5 (g5 : Gr rb w2 w5) => (g5.block (lt_heap B8) (by omega)).trans B8)
  go_upto_region 5 with (go_at_call 44; ((with_reducible refine (HXX.out _ h2).mono ?_); rintro e w5 ⟨rfl, ⟨i4, h5, hd4⟩, g5, hsz⟩; have B7 := HB7.out w5 g5; have c0 := box_cell B7 0; have f0 := box_frozen B7 0; have c1 := box_cell B7 1; have f1 := box_frozen B7 1; have c2 := box_cell B7 2; have f2 := box_frozen B7 2; have c3 := box_cell B7 3; have f3 := box_frozen B7 3; have c4 := box_cell B7 4; have f4 := box_frozen B7 4; have c5 := box_cell B7 5; have f5 := box_frozen B7 5; simp only [List.getElem?_toArray, List.getElem?_cons_succ, List.getElem?_cons_zero] at c0 c1 c2 c3 c4 c5))
  have z5 := g5.size
  have hl7 := lt_heap B7
  have h4 : Rd (Proofs.YtmpdnikabkandaaDoor.put6 w5 n3 (.int .i64 3) (.string s) (.int .i64 0) (.slice none 0 0) (.slice none 0 0) (.slice none 0 0)) rb g N cT T i4 o := h5.put6 (by omega) (by omega)
  have g4 : Gr rb W (Proofs.YtmpdnikabkandaaDoor.put6 w5 n3 (.int .i64 3) (.string s) (.int .i64 0) (.slice none 0 0) (.slice none 0 0) (.slice none 0 0)) := (g2.trans g5).put6 (by omega)
  have B7 := put6_heap (a := .int .i64 3) (b := .string s) (c := .int .i64 0) (d := .slice none 0 0) (x := .slice none 0 0) (y := .slice none 0 0) B7
  have B8 : (Proofs.YtmpdnikabkandaaDoor.put6 w5 n3 (.int .i64 3) (.string s) (.int .i64 0) (.slice none 0 0) (.slice none 0 0) (.slice none 0 0)).heap[W.heap.size]? = _ := (put6_block (show W.heap.size ≠ n3 by omega)).trans (HB8.out w5 g5)
  have zp : (Proofs.YtmpdnikabkandaaDoor.put6 w5 n3 (.int .i64 3) (.string s) (.int .i64 0) (.slice none 0 0) (.slice none 0 0) (.slice none 0 0)).heap.size = w5.heap.size := put6_size
  obtain ⟨w4, hw6⟩ : ∃ W5, (Proofs.YtmpdnikabkandaaDoor.put6 w5 n3 (.int .i64 3) (.string s) (.int .i64 0) (.slice none 0 0) (.slice none 0 0) (.slice none 0 0)) = W5 := ⟨_, rfl⟩
  show Code.wp _ _ _ _ (Proofs.YtmpdnikabkandaaDoor.put6 w5 n3 (.int .i64 3) (.string s) (.int .i64 0) (.slice none 0 0) (.slice none 0 0) (.slice none 0 0))
  rw [hw6] at h4 g4 B7 B8 zp ⊢
  clear hw6 c0 c1 c2 c3 c4 c5 f0 f1 f2 f3 f4 f5 HB7 HB8 h5
  go_wp2_with (go_at_call 61; ((with_reducible refine (HU.out _ i4 h4 hd4).mono ?_); rintro e w6 ⟨rfl, g6⟩))
  exact ⟨rfl, rfl, g4.trans g6⟩

set_option maxRecDepth 100000 in
theorem st0_no {W : World} {rb g N cT i o : Nat} {T : List Tok} (h : Rd W rb g N cT T i o) (b0 : isT (T.drop i) [97, 114, 114, 97, 121] = true) (s : ByteArray) (r0 r : List Tok) (kv : Int) (hv : nameT (T.drop (i + 1)) = .ok s r0) (hu : numT 1 4096 r0 = .ok kv r) (bs : isT r [59] = false) :
    Calls Tryd.prog 47 #[.pointer (some ⟨rb, 0, none⟩)] W (TP rb g N cT o T W (.bad (hdT r).at_ 2)) := by
  have HXX := Lib.hid (fun W1 (h1 : Rd W1 rb g N cT T (i + 1) o) => (show Calls Tryd.prog 44 #[.pointer (some ⟨rb, 0, none⟩)] W1 (NP rb g N cT o T W1 (.ok s r0)) from hv ▸ nam_any h1))
  have HU := Lib.hid (fun W1 i1 (h1 : Rd W1 rb g N cT T i1 o) (hd : T.drop i1 = r0) => (show Calls Tryd.prog 61 #[.pointer (some ⟨rb, 0, none⟩), .int .i64 1, .int .i64 4096] W1 (UP rb g N cT o T W1 (.ok kv r)) from hu ▸ hd ▸ numb_any h1 1 4096))
  have hk64 : I64 kv := num_i64 hu
  have HW := Lib.hid (fun w2 i2 (h2 : Rd w2 rb g N cT T i2 o) (hd : T.drop i2 = r) => (show Calls Tryd.prog 43 #[.pointer (some ⟨rb, 0, none⟩), .string ⟨#[59]⟩] w2 (fun e w' => e = flt (hdT r).at_ 2 ∧ Below w2.heap.size w2 w') from want_no h2 [59] (by rw [hd]; exact bs) _ (by rw [hd])))
  clear hv hu bs
  have HT0 := Lib.hid (fun w1 (h1 : Rd w1 rb g N cT T i o) => (show Calls Tryd.prog 58 #[.pointer (some ⟨rb, 0, none⟩), .string ⟨#[97, 114, 114, 97, 121]⟩] w1 (fun e w' => e = .returned (.bool true) ∧ Rd w' rb g N cT T (i + 1) o ∧ Gr rb w1 w') from take_yes h1 [97, 114, 114, 97, 121] (by decide) b0))
  have hrl := h.rlt
  have hgl := h.tok.1
  have h0 := (h.alloc (.cells #[.int .i64 0, .string ⟨#[]⟩, .int .i64 0, .slice none 0 0, .slice none 0 0, .slice none 0 0] 38)).alloc (.cells #[.int .i64 0, .string ⟨#[]⟩, .int .i64 0, .slice none 0 0, .slice none 0 0, .slice none 0 0] 38)
  have B8 := (Below.heap_alloc (W.alloc (.cells #[.int .i64 0, .string ⟨#[]⟩, .int .i64 0, .slice none 0 0, .slice none 0 0, .slice none 0 0] 38)) (.cells #[.int .i64 0, .string ⟨#[]⟩, .int .i64 0, .slice none 0 0, .slice none 0 0, .slice none 0 0] 38) W.heap.size (by simp)).trans (heap_alloc_new W (.cells #[.int .i64 0, .string ⟨#[]⟩, .int .i64 0, .slice none 0 0, .slice none 0 0, .slice none 0 0] 38))
  have B7 := heap_alloc_new (W.alloc (.cells #[.int .i64 0, .string ⟨#[]⟩, .int .i64 0, .slice none 0 0, .slice none 0 0, .slice none 0 0] 38)) (.cells #[.int .i64 0, .string ⟨#[]⟩, .int .i64 0, .slice none 0 0, .slice none 0 0, .slice none 0 0] 38)
  rw [World.size_alloc] at B7
  have g0 := ((Gr.refl rb W).alloc (.cells #[.int .i64 0, .string ⟨#[]⟩, .int .i64 0, .slice none 0 0, .slice none 0 0, .slice none 0 0] 38)).alloc (.cells #[.int .i64 0, .string ⟨#[]⟩, .int .i64 0, .slice none 0 0, .slice none 0 0, .slice none 0 0] 38)
  have z0 : ((W.alloc (.cells #[.int .i64 0, .string ⟨#[]⟩, .int .i64 0, .slice none 0 0, .slice none 0 0, .slice none 0 0] 38)).alloc (.cells #[.int .i64 0, .string ⟨#[]⟩, .int .i64 0, .slice none 0 0, .slice none 0 0, .slice none 0 0] 38)).heap.size = W.heap.size + 2 := by simp
  clear h b0
  go_enter Tryd.func47, Tryd.ntmps47
  go_upto_region 3 with fail
  obtain ⟨w0, hw0⟩ : ∃ W1, (W.alloc (.cells #[.int .i64 0, .string ⟨#[]⟩, .int .i64 0, .slice none 0 0, .slice none 0 0, .slice none 0 0] 38)).alloc (.cells #[.int .i64 0, .string ⟨#[]⟩, .int .i64 0, .slice none 0 0, .slice none 0 0, .slice none 0 0] 38) = W1 := ⟨_, rfl⟩
  rw [hw0] at h0 B8 B7 g0 z0 ⊢
  clear hw0
  obtain ⟨n3, hn3⟩ : ∃ n3, W.heap.size + 1 = n3 := ⟨_, rfl⟩
  rw [hn3] at B7 ⊢
  go_upto_region 4 with (first
    | (go_at_call 58; ((with_reducible refine (HT0.out _ h0).mono ?_); rintro e w2 ⟨rfl, h2, gq⟩; have gg := gq)))
  have z2 := gg.size
  have B7 := (gg.block (lt_heap B7) (by omega)).trans B7
  have B8 := (gg.block (lt_heap B8) (by omega)).trans B8
  have g2 := g0.trans gg
  clear gg
  clear h0 g0 HT0
  have HB7 := Lib.hid (fun w5 (g5 : Gr rb w2 w5) => (g5.block (lt_heap B7) (by omega)).trans B7)
  have HB8 := Lib.hid (fun w5 (g5 : Gr rb w2 w5) => (g5.block (lt_heap B8) (by omega)).trans B8)
  go_upto_region 5 with (go_at_call 44; ((with_reducible refine (HXX.out _ h2).mono ?_); rintro e w5 ⟨rfl, ⟨i4, h5, hd4⟩, g5, hsz⟩; have B7 := HB7.out w5 g5; have c0 := box_cell B7 0; have f0 := box_frozen B7 0; have c1 := box_cell B7 1; have f1 := box_frozen B7 1; have c2 := box_cell B7 2; have f2 := box_frozen B7 2; have c3 := box_cell B7 3; have f3 := box_frozen B7 3; have c4 := box_cell B7 4; have f4 := box_frozen B7 4; have c5 := box_cell B7 5; have f5 := box_frozen B7 5; simp only [List.getElem?_toArray, List.getElem?_cons_succ, List.getElem?_cons_zero] at c0 c1 c2 c3 c4 c5))
  have z5 := g5.size
  have hl7 := lt_heap B7
  have h4 : Rd (Proofs.YtmpdnikabkandaaDoor.put6 w5 n3 (.int .i64 3) (.string s) (.int .i64 0) (.slice none 0 0) (.slice none 0 0) (.slice none 0 0)) rb g N cT T i4 o := h5.put6 (by omega) (by omega)
  have g4 : Gr rb W (Proofs.YtmpdnikabkandaaDoor.put6 w5 n3 (.int .i64 3) (.string s) (.int .i64 0) (.slice none 0 0) (.slice none 0 0) (.slice none 0 0)) := (g2.trans g5).put6 (by omega)
  have B7 := put6_heap (a := .int .i64 3) (b := .string s) (c := .int .i64 0) (d := .slice none 0 0) (x := .slice none 0 0) (y := .slice none 0 0) B7
  have B8 : (Proofs.YtmpdnikabkandaaDoor.put6 w5 n3 (.int .i64 3) (.string s) (.int .i64 0) (.slice none 0 0) (.slice none 0 0) (.slice none 0 0)).heap[W.heap.size]? = _ := (put6_block (show W.heap.size ≠ n3 by omega)).trans (HB8.out w5 g5)
  have zp : (Proofs.YtmpdnikabkandaaDoor.put6 w5 n3 (.int .i64 3) (.string s) (.int .i64 0) (.slice none 0 0) (.slice none 0 0) (.slice none 0 0)).heap.size = w5.heap.size := put6_size
  obtain ⟨w4, hw6⟩ : ∃ W5, (Proofs.YtmpdnikabkandaaDoor.put6 w5 n3 (.int .i64 3) (.string s) (.int .i64 0) (.slice none 0 0) (.slice none 0 0) (.slice none 0 0)) = W5 := ⟨_, rfl⟩
  show Code.wp _ _ _ _ (Proofs.YtmpdnikabkandaaDoor.put6 w5 n3 (.int .i64 3) (.string s) (.int .i64 0) (.slice none 0 0) (.slice none 0 0) (.slice none 0 0))
  rw [hw6] at h4 g4 B7 B8 zp ⊢
  clear hw6 c0 c1 c2 c3 c4 c5 f0 f1 f2 f3 f4 f5 HB7 HB8 h5
  have HB7 := Lib.hid (fun w5 (g5 : Gr rb w4 w5) => (g5.block (lt_heap B7) (by omega)).trans B7)
  have HB8 := Lib.hid (fun w5 (g5 : Gr rb w4 w5) => (g5.block (lt_heap B8) (by omega)).trans B8)
  go_upto_region 18 with (go_at_call 61; ((with_reducible refine (HU.out _ i4 h4 hd4).mono ?_); rintro e v5 ⟨rfl, ⟨i5, h5, hd5⟩, g5⟩; have c2 := box_cell (HB7.out v5 g5) 2; have f2 := box_frozen (HB7.out v5 g5) 2; simp only [List.getElem?_toArray, List.getElem?_cons_succ, List.getElem?_cons_zero] at c2))
  have z5b := g5.size
  have hl7b := lt_heap (HB7.out v5 g5)
  have hl8b := lt_heap (HB8.out v5 g5)
  have h6 := h5.set (b := n3) (j := 2) (.int .i64 kv) (by omega) (by omega)
  have g6 := (g4.trans g5).setNew (j := 2) (.int .i64 kv) (show W.heap.size ≤ n3 by omega)
  have B7 := (set6_at (x := .int .i64 kv) (HB7.out v5 g5)).2.1
  have B8 := (Below.heap_setCell v5 ⟨n3, 2, none⟩ (.int .i64 kv) W.heap.size (show W.heap.size ≠ n3 by omega)).trans (HB8.out v5 g5)
  have HK := Lib.hid (fun k (hk : k ≠ n3) => Below.heap_setCell v5 ⟨n3, 2, none⟩ (.int .i64 kv) k hk)
  have zz : (v5.setCell ⟨n3, 2, none⟩ (.int .i64 kv)).heap.size = v5.heap.size := by simp
  obtain ⟨w6, hw6⟩ : ∃ W1, (v5.setCell ⟨n3, 2, none⟩ (.int .i64 kv)) = W1 := ⟨_, rfl⟩
  rw [hw6] at h6 g6 B7 B8 HK zz ⊢
  clear hw6
  clear c2 f2 HK HB7 HB8 h5
  go_wp2_with (go_at_call 43; ((with_reducible refine (HW.out _ i5 h6 hd5).mono ?_); rintro e w7 ⟨rfl, e7⟩))
  exact ⟨rfl, rfl, g6.trans (Gr.of e7)⟩

set_option maxRecDepth 100000 in
theorem st0_yes {W : World} {rb g N cT i o : Nat} {T : List Tok} (h : Rd W rb g N cT T i o) (b0 : isT (T.drop i) [97, 114, 114, 97, 121] = true) (s : ByteArray) (r0 r : List Tok) (kv : Int) (hv : nameT (T.drop (i + 1)) = .ok s r0) (hu : numT 1 4096 r0 = .ok kv r) (bs : isT r [59] = true) :
    Calls Tryd.prog 47 #[.pointer (some ⟨rb, 0, none⟩)] W (TP rb g N cT o T W (.ok ⟨3, s, kv, .nil, .nil, .nil⟩ r.tail)) := by
  have HXX := Lib.hid (fun W1 (h1 : Rd W1 rb g N cT T (i + 1) o) => (show Calls Tryd.prog 44 #[.pointer (some ⟨rb, 0, none⟩)] W1 (NP rb g N cT o T W1 (.ok s r0)) from hv ▸ nam_any h1))
  have HU := Lib.hid (fun W1 i1 (h1 : Rd W1 rb g N cT T i1 o) (hd : T.drop i1 = r0) => (show Calls Tryd.prog 61 #[.pointer (some ⟨rb, 0, none⟩), .int .i64 1, .int .i64 4096] W1 (UP rb g N cT o T W1 (.ok kv r)) from hu ▸ hd ▸ numb_any h1 1 4096))
  have hk64 : I64 kv := num_i64 hu
  have HW := Lib.hid (fun w2 i2 (h2 : Rd w2 rb g N cT T i2 o) (hd : T.drop i2 = r) => (show Calls Tryd.prog 43 #[.pointer (some ⟨rb, 0, none⟩), .string ⟨#[59]⟩] w2 (fun e w' => e = .returned (.tuple #[]) ∧ Rd w' rb g N cT T (i2 + 1) o ∧ Gr rb w2 w') from want_yes h2 [59] (by decide) (by rw [hd]; exact bs)))
  clear hv hu bs
  have HT0 := Lib.hid (fun w1 (h1 : Rd w1 rb g N cT T i o) => (show Calls Tryd.prog 58 #[.pointer (some ⟨rb, 0, none⟩), .string ⟨#[97, 114, 114, 97, 121]⟩] w1 (fun e w' => e = .returned (.bool true) ∧ Rd w' rb g N cT T (i + 1) o ∧ Gr rb w1 w') from take_yes h1 [97, 114, 114, 97, 121] (by decide) b0))
  have hrl := h.rlt
  have hgl := h.tok.1
  have h0 := (h.alloc (.cells #[.int .i64 0, .string ⟨#[]⟩, .int .i64 0, .slice none 0 0, .slice none 0 0, .slice none 0 0] 38)).alloc (.cells #[.int .i64 0, .string ⟨#[]⟩, .int .i64 0, .slice none 0 0, .slice none 0 0, .slice none 0 0] 38)
  have B8 := (Below.heap_alloc (W.alloc (.cells #[.int .i64 0, .string ⟨#[]⟩, .int .i64 0, .slice none 0 0, .slice none 0 0, .slice none 0 0] 38)) (.cells #[.int .i64 0, .string ⟨#[]⟩, .int .i64 0, .slice none 0 0, .slice none 0 0, .slice none 0 0] 38) W.heap.size (by simp)).trans (heap_alloc_new W (.cells #[.int .i64 0, .string ⟨#[]⟩, .int .i64 0, .slice none 0 0, .slice none 0 0, .slice none 0 0] 38))
  have B7 := heap_alloc_new (W.alloc (.cells #[.int .i64 0, .string ⟨#[]⟩, .int .i64 0, .slice none 0 0, .slice none 0 0, .slice none 0 0] 38)) (.cells #[.int .i64 0, .string ⟨#[]⟩, .int .i64 0, .slice none 0 0, .slice none 0 0, .slice none 0 0] 38)
  rw [World.size_alloc] at B7
  have g0 := ((Gr.refl rb W).alloc (.cells #[.int .i64 0, .string ⟨#[]⟩, .int .i64 0, .slice none 0 0, .slice none 0 0, .slice none 0 0] 38)).alloc (.cells #[.int .i64 0, .string ⟨#[]⟩, .int .i64 0, .slice none 0 0, .slice none 0 0, .slice none 0 0] 38)
  have z0 : ((W.alloc (.cells #[.int .i64 0, .string ⟨#[]⟩, .int .i64 0, .slice none 0 0, .slice none 0 0, .slice none 0 0] 38)).alloc (.cells #[.int .i64 0, .string ⟨#[]⟩, .int .i64 0, .slice none 0 0, .slice none 0 0, .slice none 0 0] 38)).heap.size = W.heap.size + 2 := by simp
  clear h b0
  go_enter Tryd.func47, Tryd.ntmps47
  go_upto_region 3 with fail
  obtain ⟨w0, hw0⟩ : ∃ W1, (W.alloc (.cells #[.int .i64 0, .string ⟨#[]⟩, .int .i64 0, .slice none 0 0, .slice none 0 0, .slice none 0 0] 38)).alloc (.cells #[.int .i64 0, .string ⟨#[]⟩, .int .i64 0, .slice none 0 0, .slice none 0 0, .slice none 0 0] 38) = W1 := ⟨_, rfl⟩
  rw [hw0] at h0 B8 B7 g0 z0 ⊢
  clear hw0
  obtain ⟨n3, hn3⟩ : ∃ n3, W.heap.size + 1 = n3 := ⟨_, rfl⟩
  rw [hn3] at B7 ⊢
  go_upto_region 4 with (first
    | (go_at_call 58; ((with_reducible refine (HT0.out _ h0).mono ?_); rintro e w2 ⟨rfl, h2, gq⟩; have gg := gq)))
  have z2 := gg.size
  have B7 := (gg.block (lt_heap B7) (by omega)).trans B7
  have B8 := (gg.block (lt_heap B8) (by omega)).trans B8
  have g2 := g0.trans gg
  clear gg
  clear h0 g0 HT0
  have HB7 := Lib.hid (fun w5 (g5 : Gr rb w2 w5) => (g5.block (lt_heap B7) (by omega)).trans B7)
  have HB8 := Lib.hid (fun w5 (g5 : Gr rb w2 w5) => (g5.block (lt_heap B8) (by omega)).trans B8)
  go_upto_region 5 with (go_at_call 44; ((with_reducible refine (HXX.out _ h2).mono ?_); rintro e w5 ⟨rfl, ⟨i4, h5, hd4⟩, g5, hsz⟩; have B7 := HB7.out w5 g5; have c0 := box_cell B7 0; have f0 := box_frozen B7 0; have c1 := box_cell B7 1; have f1 := box_frozen B7 1; have c2 := box_cell B7 2; have f2 := box_frozen B7 2; have c3 := box_cell B7 3; have f3 := box_frozen B7 3; have c4 := box_cell B7 4; have f4 := box_frozen B7 4; have c5 := box_cell B7 5; have f5 := box_frozen B7 5; simp only [List.getElem?_toArray, List.getElem?_cons_succ, List.getElem?_cons_zero] at c0 c1 c2 c3 c4 c5))
  have z5 := g5.size
  have hl7 := lt_heap B7
  have h4 : Rd (Proofs.YtmpdnikabkandaaDoor.put6 w5 n3 (.int .i64 3) (.string s) (.int .i64 0) (.slice none 0 0) (.slice none 0 0) (.slice none 0 0)) rb g N cT T i4 o := h5.put6 (by omega) (by omega)
  have g4 : Gr rb W (Proofs.YtmpdnikabkandaaDoor.put6 w5 n3 (.int .i64 3) (.string s) (.int .i64 0) (.slice none 0 0) (.slice none 0 0) (.slice none 0 0)) := (g2.trans g5).put6 (by omega)
  have B7 := put6_heap (a := .int .i64 3) (b := .string s) (c := .int .i64 0) (d := .slice none 0 0) (x := .slice none 0 0) (y := .slice none 0 0) B7
  have B8 : (Proofs.YtmpdnikabkandaaDoor.put6 w5 n3 (.int .i64 3) (.string s) (.int .i64 0) (.slice none 0 0) (.slice none 0 0) (.slice none 0 0)).heap[W.heap.size]? = _ := (put6_block (show W.heap.size ≠ n3 by omega)).trans (HB8.out w5 g5)
  have zp : (Proofs.YtmpdnikabkandaaDoor.put6 w5 n3 (.int .i64 3) (.string s) (.int .i64 0) (.slice none 0 0) (.slice none 0 0) (.slice none 0 0)).heap.size = w5.heap.size := put6_size
  obtain ⟨w4, hw6⟩ : ∃ W5, (Proofs.YtmpdnikabkandaaDoor.put6 w5 n3 (.int .i64 3) (.string s) (.int .i64 0) (.slice none 0 0) (.slice none 0 0) (.slice none 0 0)) = W5 := ⟨_, rfl⟩
  show Code.wp _ _ _ _ (Proofs.YtmpdnikabkandaaDoor.put6 w5 n3 (.int .i64 3) (.string s) (.int .i64 0) (.slice none 0 0) (.slice none 0 0) (.slice none 0 0))
  rw [hw6] at h4 g4 B7 B8 zp ⊢
  clear hw6 c0 c1 c2 c3 c4 c5 f0 f1 f2 f3 f4 f5 HB7 HB8 h5
  have HB7 := Lib.hid (fun w5 (g5 : Gr rb w4 w5) => (g5.block (lt_heap B7) (by omega)).trans B7)
  have HB8 := Lib.hid (fun w5 (g5 : Gr rb w4 w5) => (g5.block (lt_heap B8) (by omega)).trans B8)
  go_upto_region 18 with (go_at_call 61; ((with_reducible refine (HU.out _ i4 h4 hd4).mono ?_); rintro e v5 ⟨rfl, ⟨i5, h5, hd5⟩, g5⟩; have c2 := box_cell (HB7.out v5 g5) 2; have f2 := box_frozen (HB7.out v5 g5) 2; simp only [List.getElem?_toArray, List.getElem?_cons_succ, List.getElem?_cons_zero] at c2))
  have z5b := g5.size
  have hl7b := lt_heap (HB7.out v5 g5)
  have hl8b := lt_heap (HB8.out v5 g5)
  have h6 := h5.set (b := n3) (j := 2) (.int .i64 kv) (by omega) (by omega)
  have g6 := (g4.trans g5).setNew (j := 2) (.int .i64 kv) (show W.heap.size ≤ n3 by omega)
  have B7 := (set6_at (x := .int .i64 kv) (HB7.out v5 g5)).2.1
  have B8 := (Below.heap_setCell v5 ⟨n3, 2, none⟩ (.int .i64 kv) W.heap.size (show W.heap.size ≠ n3 by omega)).trans (HB8.out v5 g5)
  have HK := Lib.hid (fun k (hk : k ≠ n3) => Below.heap_setCell v5 ⟨n3, 2, none⟩ (.int .i64 kv) k hk)
  have zz : (v5.setCell ⟨n3, 2, none⟩ (.int .i64 kv)).heap.size = v5.heap.size := by simp
  obtain ⟨w6, hw6⟩ : ∃ W1, (v5.setCell ⟨n3, 2, none⟩ (.int .i64 kv)) = W1 := ⟨_, rfl⟩
  rw [hw6] at h6 g6 B7 B8 HK zz ⊢
  clear hw6
  clear c2 f2 HK HB7 HB8 h5
  go_upto_region 19 with (go_at_call 43; ((with_reducible refine (HW.out _ i5 h6 hd5).mono ?_); rintro e w7 ⟨rfl, h7, g7⟩))
  have z7 := g7.size
  have hl7 := lt_heap B7
  have hl8 := lt_heap B8
  have B7 := (g7.block (lt_heap B7) (by omega)).trans B7
  have B8 := (g7.block (lt_heap B8) (by omega)).trans B8
  have g8 := g6.trans g7
  have hd7 : T.drop (i5 + 1) = r.tail := by rw [← hd5, drop_tail]
  have c0 := box_cell B8 0
  have f0 := box_frozen B8 0
  have d0 := box_cell B7 0
  have c1 := box_cell B8 1
  have f1 := box_frozen B8 1
  have d1 := box_cell B7 1
  have c2 := box_cell B8 2
  have f2 := box_frozen B8 2
  have d2 := box_cell B7 2
  have c3 := box_cell B8 3
  have f3 := box_frozen B8 3
  have d3 := box_cell B7 3
  have c4 := box_cell B8 4
  have f4 := box_frozen B8 4
  have d4 := box_cell B7 4
  have c5 := box_cell B8 5
  have f5 := box_frozen B8 5
  have d5 := box_cell B7 5
  simp only [List.getElem?_toArray, List.getElem?_cons_succ, List.getElem?_cons_zero] at c0 d0 c1 d1 c2 d2 c3 d3 c4 d4 c5 d5
  have hP := put6_heap (a := .int .i64 3) (b := .string s) (c := .int .i64 kv) (d := .slice none 0 0) (x := .slice none 0 0) (y := .slice none 0 0) B8
  have hfin : TP rb g N cT o T W (.ok ⟨3, s, kv, .nil, .nil, .nil⟩ r.tail) (.returned (.agg #[.int .i64 3, .string s, .int .i64 kv, .slice none 0 0, .slice none 0 0, .slice none 0 0])) (Proofs.YtmpdnikabkandaaDoor.put6 w7 W.heap.size (.int .i64 3) (.string s) (.int .i64 kv) (.slice none 0 0) (.slice none 0 0) (.slice none 0 0)) :=
    ⟨⟨_, rfl, _, _, _, rfl, ex_nil _ _, sx_nil _ _, sx_nil _ _, (show I64 3 by unfold I64; omega), hk64, hsz⟩, ⟨i5 + 1, h7.put6 (by omega) (by omega), hd7⟩, g8.put6 (Nat.le_refl _)⟩
  go_wp2
  obtain ⟨wz, hwz⟩ : ∃ W5, (Proofs.YtmpdnikabkandaaDoor.put6 w7 W.heap.size (.int .i64 3) (.string s) (.int .i64 kv) (.slice none 0 0) (.slice none 0 0) (.slice none 0 0)) = W5 := ⟨_, rfl⟩
  show bodyPost _ _ _ _ _ (Proofs.YtmpdnikabkandaaDoor.put6 w7 W.heap.size (.int .i64 3) (.string s) (.int .i64 kv) (.slice none 0 0) (.slice none 0 0) (.slice none 0 0))
  rw [hwz] at hP hfin ⊢
  have p0 := box_cell hP 0
  have p1 := box_cell hP 1
  have p2 := box_cell hP 2
  have p3 := box_cell hP 3
  have p4 := box_cell hP 4
  have p5 := box_cell hP 5
  simp only [List.getElem?_toArray, List.getElem?_cons_succ, List.getElem?_cons_zero] at p0 p1 p2 p3 p4 p5
  exact bodyPost_ret (v := .agg #[.int .i64 3, .string s, .int .i64 kv, .slice none 0 0, .slice none 0 0, .slice none 0 0]) (by simp [results, Tryd.results47, go_sem, p0, p1, p2, p3, p4, p5]) rfl hfin

end Go.Proofs.YtmpdnikabkandaaDoor

/-
  Package parse: a statement, whole.
-/
namespace Go.Proofs.YtmpdnikabkandaaDoor
open Go Go.RowKit Go.Lib

theorem semi_ne {x : PR Sm} (h : semiT x ≠ .out) : x ≠ .out := by rintro rfl; exact h rfl
theorem semi_bad (p c : Nat) : semiT (.bad p c) = .bad p c := rfl
theorem semi_no (t : Sm) (r : List Tok) (h : isT r [59] = false) : semiT (.ok t r) = .bad (hdT r).at_ 2 := by
  show (wantT [59] r).bind _ = _
  rw [want_isnt _ _ h]; rfl
theorem semi_yes (t : Sm) (r : List Tok) (h : isT r [59] = true) : semiT (.ok t r) = .ok t r.tail := by
  show (wantT [59] r).bind _ = _
  rw [want_is _ _ h]; rfl

/-- A statement; by the count of steps. -/
theorem stmt_any {rb g N cT : Nat} {T : List Tok} : ∀ n W i o, Rd W rb g N cT T i o → smT n o (T.drop i) ≠ .out →
    Calls Tryd.prog 47 #[.pointer (some ⟨rb, 0, none⟩)] W (TP rb g N cT o T W (smT n o (T.drop i)))
  | 0, _, _, _, _, hx => absurd rfl hx
  | n + 1, W, i, o, h, hx => by
    have HST : ∀ W2 i', Rd W2 rb g N cT T i' (o + 1) → smT n (o + 1) (T.drop i') ≠ .out → Calls Tryd.prog 47 #[.pointer (some ⟨rb, 0, none⟩)] W2 (TP rb g N cT (o + 1) T W2 (smT n (o + 1) (T.drop i'))) :=
      fun W2 i' h2 hx2 => stmt_any n W2 i' (o + 1) h2 hx2
    have HT : ∀ op, I64 op → tellT (n + 1) op o (T.drop (i + 1)) ≠ .out → ∀ W2, Rd W2 rb g N cT T (i + 1) o → Calls Tryd.prog 62 #[.pointer (some ⟨rb, 0, none⟩), .int .i64 op] W2 (TP rb g N cT o T W2 (tellT (n + 1) op o (T.drop (i + 1)))) :=
      fun op hop hne W2 h2 => tell_any h2 op hop (n + 1) (fun e => hne (by rw [tellT, e]; rfl))
    rw [smT, drop_tail] at hx ⊢
    cases b0 : isT (T.drop i) [97, 114, 114, 97, 121] with
    | true =>
      rw [b0, if_pos rfl] at hx
      rw [if_pos rfl]
      cases hv : nameT (T.drop (i + 1)) with
      | out => exact absurd hv (nam_ne _)
      | bad p c => exact st0_bad h b0 p c hv
      | ok s r0 =>
        rw [hv] at hx
        simp only [PR.bind] at hx ⊢
        cases hu : numT 1 4096 r0 with
        | out => rw [hu] at hx; exact absurd rfl (semi_ne hx)
        | bad p c => exact st0_nbad h b0 s r0 hv p c hu
        | ok kv r =>
          cases bs : isT r [59] with
          | false =>
            simp only
            rw [semi_no _ _ bs]
            exact st0_no h b0 s r0 r kv hv hu bs
          | true =>
            simp only
            rw [semi_yes _ _ bs]
            exact st0_yes h b0 s r0 r kv hv hu bs
    | false =>
    rw [b0, if_neg (by decide)] at hx
    rw [if_neg (by decide)]
    cases b1 : isT (T.drop i) [105, 110, 112, 117, 116] with
    | true =>
      rw [b1, if_pos rfl] at hx
      rw [if_pos rfl]
      cases hv : nameT (T.drop (i + 1)) with
      | out => exact absurd hv (nam_ne _)
      | bad p c => exact st1_bad h b0 b1 p c hv
      | ok s r =>
        simp only [PR.bind]
        cases bs : isT r [59] with
        | false =>
          rw [semi_no _ _ bs]
          exact st1_no h b0 b1 s r hv bs
        | true =>
          rw [semi_yes _ _ bs]
          exact st1_yes h b0 b1 s r hv bs
    | false =>
    rw [b1, if_neg (by decide)] at hx
    rw [if_neg (by decide)]
    cases b2 : isT (T.drop i) [112, 114, 105, 110, 116] with
    | true =>
      rw [b2, if_pos rfl] at hx
      rw [if_pos rfl]
      have HX := HT 5 (by unfold I64; omega) (semi_ne hx)
      cases hv : tellT (n + 1) 5 o (T.drop (i + 1)) with
      | out => exact absurd hv (semi_ne hx)
      | bad p c => rw [hv] at HX; exact st2_bad h b0 b1 b2 p c HX
      | ok t r =>
        rw [hv] at HX
        cases bs : isT r [59] with
        | false => rw [semi_no _ _ bs]; exact st2_no h b0 b1 b2 t r bs HX
        | true => rw [semi_yes _ _ bs]; exact st2_yes h b0 b1 b2 t r bs HX
    | false =>
    rw [b2, if_neg (by decide)] at hx
    rw [if_neg (by decide)]
    cases b3 : isT (T.drop i) [107, 101, 101, 112] with
    | true =>
      rw [b3, if_pos rfl] at hx
      rw [if_pos rfl]
      have HX := HT 6 (by unfold I64; omega) (semi_ne hx)
      cases hv : tellT (n + 1) 6 o (T.drop (i + 1)) with
      | out => exact absurd hv (semi_ne hx)
      | bad p c => rw [hv] at HX; exact st3_bad h b0 b1 b2 b3 p c HX
      | ok t r =>
        rw [hv] at HX
        cases bs : isT r [59] with
        | false => rw [semi_no _ _ bs]; exact st3_no h b0 b1 b2 b3 t r bs HX
        | true => rw [semi_yes _ _ bs]; exact st3_yes h b0 b1 b2 b3 t r bs HX
    | false =>
    rw [b3, if_neg (by decide)] at hx
    rw [if_neg (by decide)]
    cases b4 : isT (T.drop i) [114, 101, 116, 117, 114, 110] with
    | true =>
      rw [b4, if_pos rfl] at hx
      rw [if_pos rfl]
      have HX := HT 9 (by unfold I64; omega) (semi_ne hx)
      cases hv : tellT (n + 1) 9 o (T.drop (i + 1)) with
      | out => exact absurd hv (semi_ne hx)
      | bad p c => rw [hv] at HX; exact st4_bad h b0 b1 b2 b3 b4 p c HX
      | ok t r =>
        rw [hv] at HX
        cases bs : isT r [59] with
        | false => rw [semi_no _ _ bs]; exact st4_no h b0 b1 b2 b3 b4 t r bs HX
        | true => rw [semi_yes _ _ bs]; exact st4_yes h b0 b1 b2 b3 b4 t r bs HX
    | false =>
    rw [b4, if_neg (by decide)] at hx
    rw [if_neg (by decide)]
    cases b5 : isT (T.drop i) [105, 102] with
    | true =>
      rw [b5, if_pos rfl] at hx
      rw [if_pos rfl]
      change choiceS n o (T.drop (i + 1)) ≠ .out at hx
      show Calls _ _ _ _ (TP rb g N cT o T W (choiceS n o (T.drop (i + 1))))
      have HX := fun W2 (h2 : Rd W2 rb g N cT T (i + 1) o) => choice_any n HST h2 hx
      cases hv : choiceS n o (T.drop (i + 1)) with
      | out => exact absurd hv hx
      | bad p c => rw [hv] at HX; exact st5_bad h b0 b1 b2 b3 b4 b5 p c HX
      | ok t r => rw [hv] at HX; exact st5_ok h b0 b1 b2 b3 b4 b5 t r HX
    | false =>
    rw [b5, if_neg (by decide)] at hx
    rw [if_neg (by decide)]
    cases b6 : isT (T.drop i) [119, 104, 105, 108, 101] with
    | true =>
      rw [b6, if_pos rfl] at hx
      rw [if_pos rfl]
      change loopS n o (T.drop (i + 1)) ≠ .out at hx
      show Calls _ _ _ _ (TP rb g N cT o T W (loopS n o (T.drop (i + 1))))
      have HX := fun W2 (h2 : Rd W2 rb g N cT T (i + 1) o) => loop_any n HST h2 hx
      cases hv : loopS n o (T.drop (i + 1)) with
      | out => exact absurd hv hx
      | bad p c => rw [hv] at HX; exact st6_bad h b0 b1 b2 b3 b4 b5 b6 p c HX
      | ok t r => rw [hv] at HX; exact st6_ok h b0 b1 b2 b3 b4 b5 b6 t r HX
    | false =>
    rw [b6, if_neg (by decide)] at hx
    rw [if_neg (by decide)]
    have HX := fun W2 (h2 : Rd W2 rb g N cT T i o) => store_any h2 (n + 1) (semi_ne hx)
    cases hv : storeT (n + 1) o (T.drop i) with
    | out => exact absurd hv (semi_ne hx)
    | bad p c => rw [hv] at HX; exact st7_bad h b0 b1 b2 b3 b4 b5 b6 p c HX
    | ok t r =>
      rw [hv] at HX
      cases bs : isT r [59] with
      | false => rw [semi_no _ _ bs]; exact st7_no h b0 b1 b2 b3 b4 b5 b6 t r bs HX
      | true => rw [semi_yes _ _ bs]; exact st7_yes h b0 b1 b2 b3 b4 b5 b6 t r bs HX

end Go.Proofs.YtmpdnikabkandaaDoor

/-
  Package parse: a statement that stands in no other one (outer).
-/
namespace Go.Proofs.YtmpdnikabkandaaDoor
open Go Go.RowKit Go.Lib
attribute [local go_sem high] run_tok0 run_tok1 run_tok2

theorem er_sub {lo : Nat} {W : World} {b j : Nat} {v : Value} (h : (er lo W).cell? ⟨b, j, none⟩ = some v) : W.cell? ⟨b, j, none⟩ = some v := by
  rw [er_cell] at h
  split at h
  · cases h
  · exact h
theorem EX.ev {lo : Nat} {W : World} {v : Value} {l : ES} (h : EX lo W v l) : EV W.heap.size W v l := RowV.imp h (Nat.le_refl _) fun _ _ hb hp => ES.In.ext (Nat.le_refl _) (fun _ _ _ _ hc => er_sub hc) hb hp
theorem SX.sv {lo : Nat} {W : World} {v : Value} {l : SS} (h : SX lo W v l) : SV W.heap.size W v l := RowV.imp h (Nat.le_refl _) fun _ _ hb hp => SS.In.ext (Nat.le_refl _) (fun _ _ _ _ hc => er_sub hc) hb hp
theorem sx_one {lo n : Nat} {W : World} {t : Sm} {vl vx vy : Value} {ty : TypeId} (hc : W.heap[n]? = some (.cells #[.int .i64 t.op, .string t.s, .int .i64 t.n, vl, vx, vy] ty)) (hl : lo ≤ n) (hv : EX lo W vl t.l) (hx : SX lo W vx t.x) (hy : SX lo W vy t.y) (ho : okS t) : SX lo W (.slice (some ⟨n, 0, none⟩) 1 1) (toSS t .nil) :=
  ⟨some ⟨n, 0, none⟩, 1, rfl, Nat.le_refl _, by decide, fun _ => ⟨n, 0, rfl, lt_heap hc, er_at hc hl rfl, er_at hc hl rfl, er_at hc hl rfl, ⟨vl, er_at hc hl rfl, hv⟩, ⟨vx, er_at hc hl rfl, hx⟩, ⟨vy, er_at hc hl rfl, hy⟩, ho, trivial⟩⟩
theorem pg_one {W : World} {n : Nat} {l : SS} (h : SV W.heap.size W (.slice (some ⟨n, 0, none⟩) 1 1) l) (hl : l.len = 1) : PgV W.heap.size W (.agg #[.slice none 0 0, .slice (some ⟨n, 0, none⟩) 1 1]) ⟨[], l⟩ :=
  ⟨none, 0, some ⟨n, 0, none⟩, 1, by simp [hl], ⟨none, 0, rfl, Nat.le_refl _, by decide, fun h0 => by simp at h0⟩, by simpa [hl] using h⟩

set_option maxRecDepth 100000 in
theorem ou_bad {W : World} {rb g N cT i o : Nat} {T : List Tok} (h : Rd W rb g N cT T i o) (p c : Nat)
    (HS : ∀ W2, Rd W2 rb g N cT T i o → Calls Tryd.prog 47 #[.pointer (some ⟨rb, 0, none⟩)] W2 (TP rb g N cT o T W2 (.bad p c))) :
    Calls Tryd.prog 27 #[.pointer (some ⟨rb, 0, none⟩)] W (TP rb g N cT o T W (.bad p c)) := by
  have HSS := Lib.hid HS
  have HN := Lib.hid (fun W1 (h1 : Rd W1 rb g N cT T i o) => now_any h1 _ rfl)
  have hrl := h.rlt
  have hgl := h.tok.1
  have h0 := h.alloc (.cells #[.int .i64 0, .string ⟨#[]⟩, .int .i64 0, .slice none 0 0, .slice none 0 0, .slice none 0 0] 38)
  have B6 := heap_alloc_new W (.cells #[.int .i64 0, .string ⟨#[]⟩, .int .i64 0, .slice none 0 0, .slice none 0 0, .slice none 0 0] 38)
  have g0 := (Gr.refl rb W).alloc (.cells #[.int .i64 0, .string ⟨#[]⟩, .int .i64 0, .slice none 0 0, .slice none 0 0, .slice none 0 0] 38)
  have z0 : (W.alloc (.cells #[.int .i64 0, .string ⟨#[]⟩, .int .i64 0, .slice none 0 0, .slice none 0 0, .slice none 0 0] 38)).heap.size = W.heap.size + 1 := by simp
  clear h HS
  go_enter Tryd.func27, Tryd.ntmps27
  go_upto_region 1 with fail
  obtain ⟨w0, hw0⟩ : ∃ W1, W.alloc (.cells #[.int .i64 0, .string ⟨#[]⟩, .int .i64 0, .slice none 0 0, .slice none 0 0, .slice none 0 0] 38) = W1 := ⟨_, rfl⟩
  rw [hw0] at h0 B6 g0 z0 ⊢
  clear hw0
  go_wp2_with (first
    | (go_at_call 26; ((with_reducible refine (HN.out _ h0).mono ?_); rintro e wn ⟨rfl, en⟩; have hn := h0.below en))
    | (go_at_call 47; ((with_reducible refine (HSS.out _ hn).mono ?_); rintro e w2 ⟨rfl, g2⟩)))
  exact ⟨rfl, rfl, g0.trans ((Gr.of en).trans g2)⟩

set_option maxRecDepth 100000 in
theorem ou_deep {W : World} {rb g N cT i o : Nat} {T : List Tok} (h : Rd W rb g N cT T i o) (t : Sm) (r : List Tok)
    (HS : ∀ W2, Rd W2 rb g N cT T i o → Calls Tryd.prog 47 #[.pointer (some ⟨rb, 0, none⟩)] W2 (TP rb g N cT o T W2 (.ok t r))) (hdeep : 64 < (toSS t .nil).deep) :
    Calls Tryd.prog 27 #[.pointer (some ⟨rb, 0, none⟩)] W (TP rb g N cT o T W (.bad (hdT (T.drop i)).at_ 3)) := by
  have HSS := Lib.hid HS
  have HN := Lib.hid (fun W1 (h1 : Rd W1 rb g N cT T i o) => now_any h1 _ rfl)
  obtain ⟨tk, htk⟩ : ∃ tk, hdT (T.drop i) = tk := ⟨_, rfl⟩
  rw [htk] at HN
  rw [htk]
  clear htk
  obtain ⟨D, hD⟩ : ∃ D, (toSS t .nil).deep = D := ⟨_, rfl⟩
  rw [hD] at hdeep
  have d1 : decide ((64 : Int) < D) = true := decide_eq_true hdeep
  clear hdeep
  have hrl := h.rlt
  have hgl := h.tok.1
  have h0 := h.alloc (.cells #[.int .i64 0, .string ⟨#[]⟩, .int .i64 0, .slice none 0 0, .slice none 0 0, .slice none 0 0] 38)
  have B6 := heap_alloc_new W (.cells #[.int .i64 0, .string ⟨#[]⟩, .int .i64 0, .slice none 0 0, .slice none 0 0, .slice none 0 0] 38)
  have g0 := (Gr.refl rb W).alloc (.cells #[.int .i64 0, .string ⟨#[]⟩, .int .i64 0, .slice none 0 0, .slice none 0 0, .slice none 0 0] 38)
  have z0 : (W.alloc (.cells #[.int .i64 0, .string ⟨#[]⟩, .int .i64 0, .slice none 0 0, .slice none 0 0, .slice none 0 0] 38)).heap.size = W.heap.size + 1 := by simp
  clear h HS
  go_enter Tryd.func27, Tryd.ntmps27
  go_upto_region 1 with fail
  obtain ⟨w0, hw0⟩ : ∃ W1, W.alloc (.cells #[.int .i64 0, .string ⟨#[]⟩, .int .i64 0, .slice none 0 0, .slice none 0 0, .slice none 0 0] 38) = W1 := ⟨_, rfl⟩
  rw [hw0] at h0 B6 g0 z0 ⊢
  clear hw0
  go_upto_region 3 with (first
    | (go_at_call 26; ((with_reducible refine (HN.out _ h0).mono ?_); rintro e wn ⟨rfl, en⟩; have hn := h0.below en))
    | (go_at_call 47; ((with_reducible refine (HSS.out _ hn).mono ?_); rintro e1 w1 ⟨⟨vv, rfl, vl, vx, vy, rfl, hvl, hvx, hvy, hok⟩, ⟨i1, h1, hd1⟩, g1⟩; obtain ⟨A1, k1, el1, _⟩ := id hvl; obtain ⟨A2, k2, el2, _⟩ := id hvx; obtain ⟨A3, k3, el3, _⟩ := id hvy; subst el1; subst el2; subst el3)))
  have zn := en.size
  have gn := g0.trans (Gr.of en)
  have B6 := (en.block _ (lt_heap B6)).trans B6
  have z1 := g1.size
  have h2 := h1.alloc (.cells #[.int .i64 t.op, .string t.s, .int .i64 t.n, .slice A1 t.l.len k1, .slice A2 t.x.len k2, .slice A3 t.y.len k3] 38)
  have B7 := heap_alloc_new w1 (.cells #[.int .i64 t.op, .string t.s, .int .i64 t.n, .slice A1 t.l.len k1, .slice A2 t.x.len k2, .slice A3 t.y.len k3] 38)
  have g2 := (gn.trans g1).alloc (.cells #[.int .i64 t.op, .string t.s, .int .i64 t.n, .slice A1 t.l.len k1, .slice A2 t.x.len k2, .slice A3 t.y.len k3] 38)
  have z2 : (w1.alloc (.cells #[.int .i64 t.op, .string t.s, .int .i64 t.n, .slice A1 t.l.len k1, .slice A2 t.x.len k2, .slice A3 t.y.len k3] 38)).heap.size = w1.heap.size + 1 := by simp
  have HA := Lib.hid (fun k hk => Below.heap_alloc w1 (.cells #[.int .i64 t.op, .string t.s, .int .i64 t.n, .slice A1 t.l.len k1, .slice A2 t.x.len k2, .slice A3 t.y.len k3] 38) k hk)
  have B8 := (Below.heap_alloc w1 (.cells #[.int .i64 t.op, .string t.s, .int .i64 t.n, .slice A1 t.l.len k1, .slice A2 t.x.len k2, .slice A3 t.y.len k3] 38) W.heap.size (by omega)).trans ((g1.block (k := W.heap.size) (by omega) (by omega)).trans B6)
  obtain ⟨w2, hw2⟩ : ∃ W1, w1.alloc (.cells #[.int .i64 t.op, .string t.s, .int .i64 t.n, .slice A1 t.l.len k1, .slice A2 t.x.len k2, .slice A3 t.y.len k3] 38) = W1 := ⟨_, rfl⟩
  rw [hw2] at h2 B7 g2 HA B8 z2 ⊢
  clear hw2
  obtain ⟨n3, hn3⟩ : ∃ n3, w1.heap.size = n3 := ⟨_, rfl⟩
  rw [hn3] at B7 z2 z1 HA ⊢
  have hK1 : Kp wn.heap.size w1 w2 := ⟨by omega, fun k hk hl => HA.out k (by omega)⟩
  have hL := hvl.kp hK1 (Nat.le_refl _)
  have hX := hvx.kp hK1 (Nat.le_refl _)
  have hY := hvy.kp hK1 (Nat.le_refl _)
  have hK2 : Kp wn.heap.size w2 (w2.alloc (.cells #[.int .i64 t.op, .string t.s, .int .i64 t.n, .slice A1 t.l.len k1, .slice A2 t.x.len k2, .slice A3 t.y.len k3] 38)) := Kp.below ((Below.refl _ _).alloc (Nat.le_refl _) _)
  have HDE := depth_any _ _ _ _ (Nat.le_refl _) (pg_one (sx_one (heap_alloc_new w2 (.cells #[.int .i64 t.op, .string t.s, .int .i64 t.n, .slice A1 t.l.len k1, .slice A2 t.x.len k2, .slice A3 t.y.len k3] 38)) (show wn.heap.size ≤ w2.heap.size by omega) (hL.kp hK2 (Nat.le_refl _)) (hX.kp hK2 (Nat.le_refl _)) (hY.kp hK2 (Nat.le_refl _)) hok).sv rfl)
  simp only [Pg.pts, fsPts, List.nil_append, SS.deepL, hD] at HDE
  rw [z2] at HDE
  have HDE := Lib.hid HDE
  have B9 := (Below.heap_alloc w2 (.cells #[.int .i64 t.op, .string t.s, .int .i64 t.n, .slice A1 t.l.len k1, .slice A2 t.x.len k2, .slice A3 t.y.len k3] 38) n3 (lt_heap B7)).trans B7
  have B10 := (Below.heap_alloc w2 (.cells #[.int .i64 t.op, .string t.s, .int .i64 t.n, .slice A1 t.l.len k1, .slice A2 t.x.len k2, .slice A3 t.y.len k3] 38) W.heap.size (lt_heap B8)).trans B8
  have q0 := box_cell B7 0
  have q1 := box_cell B7 1
  have q2 := box_cell B7 2
  have q3 := box_cell B7 3
  have q4 := box_cell B7 4
  have q5 := box_cell B7 5
  simp only [List.getElem?_toArray, List.getElem?_cons_succ, List.getElem?_cons_zero] at q0 q1 q2 q3 q4 q5
  go_wp2_with (go_at_call 14; ((with_reducible refine HDE.out.mono ?_); rintro e2 w5 ⟨rfl, e5⟩))
  exact ⟨rfl, rfl, (g2.trans (Gr.of ((Below.refl w2.heap.size w2).alloc (Nat.le_refl _) _))).trans (Gr.of e5)⟩

set_option maxRecDepth 100000 in
theorem ou_ok {W : World} {rb g N cT i o : Nat} {T : List Tok} (h : Rd W rb g N cT T i o) (t : Sm) (r : List Tok)
    (HS : ∀ W2, Rd W2 rb g N cT T i o → Calls Tryd.prog 47 #[.pointer (some ⟨rb, 0, none⟩)] W2 (TP rb g N cT o T W2 (.ok t r))) (hdeep : ¬ 64 < (toSS t .nil).deep) :
    Calls Tryd.prog 27 #[.pointer (some ⟨rb, 0, none⟩)] W (TP rb g N cT o T W (.ok t r)) := by
  have HSS := Lib.hid HS
  have HN := Lib.hid (fun W1 (h1 : Rd W1 rb g N cT T i o) => now_any h1 _ rfl)
  obtain ⟨tk, htk⟩ : ∃ tk, hdT (T.drop i) = tk := ⟨_, rfl⟩
  rw [htk] at HN
  clear htk
  obtain ⟨D, hD⟩ : ∃ D, (toSS t .nil).deep = D := ⟨_, rfl⟩
  rw [hD] at hdeep
  have d1 : decide ((64 : Int) < D) = false := decide_eq_false hdeep
  clear hdeep
  have hrl := h.rlt
  have hgl := h.tok.1
  have h0 := h.alloc (.cells #[.int .i64 0, .string ⟨#[]⟩, .int .i64 0, .slice none 0 0, .slice none 0 0, .slice none 0 0] 38)
  have B6 := heap_alloc_new W (.cells #[.int .i64 0, .string ⟨#[]⟩, .int .i64 0, .slice none 0 0, .slice none 0 0, .slice none 0 0] 38)
  have g0 := (Gr.refl rb W).alloc (.cells #[.int .i64 0, .string ⟨#[]⟩, .int .i64 0, .slice none 0 0, .slice none 0 0, .slice none 0 0] 38)
  have z0 : (W.alloc (.cells #[.int .i64 0, .string ⟨#[]⟩, .int .i64 0, .slice none 0 0, .slice none 0 0, .slice none 0 0] 38)).heap.size = W.heap.size + 1 := by simp
  clear h HS
  go_enter Tryd.func27, Tryd.ntmps27
  go_upto_region 1 with fail
  obtain ⟨w0, hw0⟩ : ∃ W1, W.alloc (.cells #[.int .i64 0, .string ⟨#[]⟩, .int .i64 0, .slice none 0 0, .slice none 0 0, .slice none 0 0] 38) = W1 := ⟨_, rfl⟩
  rw [hw0] at h0 B6 g0 z0 ⊢
  clear hw0
  go_upto_region 3 with (first
    | (go_at_call 26; ((with_reducible refine (HN.out _ h0).mono ?_); rintro e wn ⟨rfl, en⟩; have hn := h0.below en))
    | (go_at_call 47; ((with_reducible refine (HSS.out _ hn).mono ?_); rintro e1 w1 ⟨⟨vv, rfl, vl, vx, vy, rfl, hvl, hvx, hvy, hok⟩, ⟨i1, h1, hd1⟩, g1⟩; obtain ⟨A1, k1, el1, _⟩ := id hvl; obtain ⟨A2, k2, el2, _⟩ := id hvx; obtain ⟨A3, k3, el3, _⟩ := id hvy; subst el1; subst el2; subst el3)))
  have zn := en.size
  have gn := g0.trans (Gr.of en)
  have B6 := (en.block _ (lt_heap B6)).trans B6
  have z1 := g1.size
  have h2 := h1.alloc (.cells #[.int .i64 t.op, .string t.s, .int .i64 t.n, .slice A1 t.l.len k1, .slice A2 t.x.len k2, .slice A3 t.y.len k3] 38)
  have B7 := heap_alloc_new w1 (.cells #[.int .i64 t.op, .string t.s, .int .i64 t.n, .slice A1 t.l.len k1, .slice A2 t.x.len k2, .slice A3 t.y.len k3] 38)
  have g2 := (gn.trans g1).alloc (.cells #[.int .i64 t.op, .string t.s, .int .i64 t.n, .slice A1 t.l.len k1, .slice A2 t.x.len k2, .slice A3 t.y.len k3] 38)
  have z2 : (w1.alloc (.cells #[.int .i64 t.op, .string t.s, .int .i64 t.n, .slice A1 t.l.len k1, .slice A2 t.x.len k2, .slice A3 t.y.len k3] 38)).heap.size = w1.heap.size + 1 := by simp
  have HA := Lib.hid (fun k hk => Below.heap_alloc w1 (.cells #[.int .i64 t.op, .string t.s, .int .i64 t.n, .slice A1 t.l.len k1, .slice A2 t.x.len k2, .slice A3 t.y.len k3] 38) k hk)
  have B8 := (Below.heap_alloc w1 (.cells #[.int .i64 t.op, .string t.s, .int .i64 t.n, .slice A1 t.l.len k1, .slice A2 t.x.len k2, .slice A3 t.y.len k3] 38) W.heap.size (by omega)).trans ((g1.block (k := W.heap.size) (by omega) (by omega)).trans B6)
  obtain ⟨w2, hw2⟩ : ∃ W1, w1.alloc (.cells #[.int .i64 t.op, .string t.s, .int .i64 t.n, .slice A1 t.l.len k1, .slice A2 t.x.len k2, .slice A3 t.y.len k3] 38) = W1 := ⟨_, rfl⟩
  rw [hw2] at h2 B7 g2 HA B8 z2 ⊢
  clear hw2
  obtain ⟨n3, hn3⟩ : ∃ n3, w1.heap.size = n3 := ⟨_, rfl⟩
  rw [hn3] at B7 z2 z1 HA ⊢
  have hK1 : Kp wn.heap.size w1 w2 := ⟨by omega, fun k hk hl => HA.out k (by omega)⟩
  have hL := hvl.kp hK1 (Nat.le_refl _)
  have hX := hvx.kp hK1 (Nat.le_refl _)
  have hY := hvy.kp hK1 (Nat.le_refl _)
  have hK2 : Kp wn.heap.size w2 (w2.alloc (.cells #[.int .i64 t.op, .string t.s, .int .i64 t.n, .slice A1 t.l.len k1, .slice A2 t.x.len k2, .slice A3 t.y.len k3] 38)) := Kp.below ((Below.refl _ _).alloc (Nat.le_refl _) _)
  have HDE := depth_any _ _ _ _ (Nat.le_refl _) (pg_one (sx_one (heap_alloc_new w2 (.cells #[.int .i64 t.op, .string t.s, .int .i64 t.n, .slice A1 t.l.len k1, .slice A2 t.x.len k2, .slice A3 t.y.len k3] 38)) (show wn.heap.size ≤ w2.heap.size by omega) (hL.kp hK2 (Nat.le_refl _)) (hX.kp hK2 (Nat.le_refl _)) (hY.kp hK2 (Nat.le_refl _)) hok).sv rfl)
  simp only [Pg.pts, fsPts, List.nil_append, SS.deepL, hD] at HDE
  rw [z2] at HDE
  have HDE := Lib.hid HDE
  have B9 := (Below.heap_alloc w2 (.cells #[.int .i64 t.op, .string t.s, .int .i64 t.n, .slice A1 t.l.len k1, .slice A2 t.x.len k2, .slice A3 t.y.len k3] 38) n3 (lt_heap B7)).trans B7
  have B10 := (Below.heap_alloc w2 (.cells #[.int .i64 t.op, .string t.s, .int .i64 t.n, .slice A1 t.l.len k1, .slice A2 t.x.len k2, .slice A3 t.y.len k3] 38) W.heap.size (lt_heap B8)).trans B8
  have q0 := box_cell B7 0
  have q1 := box_cell B7 1
  have q2 := box_cell B7 2
  have q3 := box_cell B7 3
  have q4 := box_cell B7 4
  have q5 := box_cell B7 5
  simp only [List.getElem?_toArray, List.getElem?_cons_succ, List.getElem?_cons_zero] at q0 q1 q2 q3 q4 q5
  go_upto_region 5 with (go_at_call 14; ((with_reducible refine HDE.out.mono ?_); rintro e2 w5 ⟨rfl, e5⟩))
  have z5 := e5.size
  rw [World.size_alloc] at z5
  have B7 := (e5.block _ (lt_heap B9)).trans B9
  have B8 := (e5.block _ (lt_heap B10)).trans B10
  have h5 := (h2.alloc (.cells #[.int .i64 t.op, .string t.s, .int .i64 t.n, .slice A1 t.l.len k1, .slice A2 t.x.len k2, .slice A3 t.y.len k3] 38)).below e5
  have g5 := (g2.alloc (.cells #[.int .i64 t.op, .string t.s, .int .i64 t.n, .slice A1 t.l.len k1, .slice A2 t.x.len k2, .slice A3 t.y.len k3] 38)).trans (Gr.of e5)
  have hL := (hL.kp hK2 (Nat.le_refl _)).kp (Kp.below e5) (Nat.le_refl _)
  have hX := (hX.kp hK2 (Nat.le_refl _)).kp (Kp.below e5) (Nat.le_refl _)
  have hY := (hY.kp hK2 (Nat.le_refl _)).kp (Kp.below e5) (Nat.le_refl _)
  clear q0 q1 q2 q3 q4 q5
  have c0 := box_cell B8 0
  have f0 := box_frozen B8 0
  have d0 := box_cell B7 0
  have c1 := box_cell B8 1
  have f1 := box_frozen B8 1
  have d1 := box_cell B7 1
  have c2 := box_cell B8 2
  have f2 := box_frozen B8 2
  have d2 := box_cell B7 2
  have c3 := box_cell B8 3
  have f3 := box_frozen B8 3
  have d3 := box_cell B7 3
  have c4 := box_cell B8 4
  have f4 := box_frozen B8 4
  have d4 := box_cell B7 4
  have c5 := box_cell B8 5
  have f5 := box_frozen B8 5
  have d5 := box_cell B7 5
  simp only [List.getElem?_toArray, List.getElem?_cons_succ, List.getElem?_cons_zero] at c0 d0 c1 d1 c2 d2 c3 d3 c4 d4 c5 d5
  have hP := put6_heap (a := .int .i64 t.op) (b := .string t.s) (c := .int .i64 t.n) (d := .slice A1 t.l.len k1) (x := .slice A2 t.x.len k2) (y := .slice A3 t.y.len k3) B8
  have hfin : TP rb g N cT o T W (.ok t r) (.returned (.agg #[.int .i64 t.op, .string t.s, .int .i64 t.n, .slice A1 t.l.len k1, .slice A2 t.x.len k2, .slice A3 t.y.len k3])) (Proofs.YtmpdnikabkandaaDoor.put6 w5 W.heap.size (.int .i64 t.op) (.string t.s) (.int .i64 t.n) (.slice A1 t.l.len k1) (.slice A2 t.x.len k2) (.slice A3 t.y.len k3)) :=
    ⟨⟨_, rfl, _, _, _, rfl, hL.kp (Kp.put6 (by omega)) (by omega), hX.kp (Kp.put6 (by omega)) (by omega), hY.kp (Kp.put6 (by omega)) (by omega), hok⟩, ⟨i1, h5.put6 (by omega) (by omega), hd1⟩, g5.put6 (Nat.le_refl _)⟩
  go_wp2
  obtain ⟨wz, hwz⟩ : ∃ W5, (Proofs.YtmpdnikabkandaaDoor.put6 w5 W.heap.size (.int .i64 t.op) (.string t.s) (.int .i64 t.n) (.slice A1 t.l.len k1) (.slice A2 t.x.len k2) (.slice A3 t.y.len k3)) = W5 := ⟨_, rfl⟩
  show bodyPost _ _ _ _ _ (Proofs.YtmpdnikabkandaaDoor.put6 w5 W.heap.size (.int .i64 t.op) (.string t.s) (.int .i64 t.n) (.slice A1 t.l.len k1) (.slice A2 t.x.len k2) (.slice A3 t.y.len k3))
  rw [hwz] at hP hfin ⊢
  have p0 := box_cell hP 0
  have p1 := box_cell hP 1
  have p2 := box_cell hP 2
  have p3 := box_cell hP 3
  have p4 := box_cell hP 4
  have p5 := box_cell hP 5
  simp only [List.getElem?_toArray, List.getElem?_cons_succ, List.getElem?_cons_zero] at p0 p1 p2 p3 p4 p5
  exact bodyPost_ret (v := .agg #[.int .i64 t.op, .string t.s, .int .i64 t.n, .slice A1 t.l.len k1, .slice A2 t.x.len k2, .slice A3 t.y.len k3]) (by simp [results, Tryd.results27, go_sem, p0, p1, p2, p3, p4, p5]) rfl hfin

/-- A statement that stands in no other one, whole. -/
theorem outerS_any {W : World} {rb g N cT i o : Nat} {T : List Tok} (h : Rd W rb g N cT T i o) (n : Nat) (hx : outerT n o (T.drop i) ≠ .out) :
    Calls Tryd.prog 27 #[.pointer (some ⟨rb, 0, none⟩)] W (TP rb g N cT o T W (outerT n o (T.drop i))) := by
  unfold outerT at hx ⊢
  have hne : smT n o (T.drop i) ≠ .out := fun e => by rw [e] at hx; exact hx rfl
  have HX := fun W2 (h2 : Rd W2 rb g N cT T i o) => stmt_any n W2 i o h2 hne
  cases hv : smT n o (T.drop i) with
  | out => exact absurd hv hne
  | bad p c => rw [hv] at HX; exact ou_bad h p c HX
  | ok t r =>
    rw [hv] at HX
    simp only [PR.bind]
    by_cases hd : 64 < (toSS t .nil).deep
    · rw [if_pos hd]; exact ou_deep h t r HX hd
    · rw [if_neg hd]; exact ou_ok h t r HX hd

end Go.Proofs.YtmpdnikabkandaaDoor

/-
  Package parse: a function.
-/
namespace Go.Proofs.YtmpdnikabkandaaDoor
open Go Go.RowKit Go.Lib

/-- A function's value. -/
def WV (lo : Nat) (W : World) (v : Value) (q : Fn) : Prop := ∃ vp vb, v = .agg #[.string q.s, vp, vb] ∧ NX lo W vp q.ps ∧ SX lo W vb q.b ∧ q.s.size ≤ 9223372036854775807
theorem WV.kp {lo lo' : Nat} {W W' : World} {v : Value} {q : Fn} (hv : WV lo W v q) (h : Kp lo W W') (hl : lo' ≤ lo) : WV lo' W' v q := by
  obtain ⟨vp, vb, e, h1, h2, h3⟩ := hv
  exact ⟨vp, vb, e, h1.kp h hl, h2.kp h hl, h3⟩
/-- What a call that reads a function has done. -/
def FP (rb g N cT : Nat) (T : List Tok) (W : World) (x : PR Fn) (e : Ending) (W' : World) : Prop :=
  match x with
  | .ok v r => (∃ vv, e = .returned vv ∧ WV W.heap.size W' vv v) ∧ (∃ i, Rd W' rb g N cT T i 0 ∧ T.drop i = r) ∧ Gr rb W W'
  | .bad p c => e = flt p c ∧ Gr rb W W'
  | .out => True
/-- Three cells that are stored one behind the other. -/
def put3 (W : World) (n : Nat) (a b c : Value) : World := ((W.setCell ⟨n, 0, none⟩ a).setCell ⟨n, 1, none⟩ b).setCell ⟨n, 2, none⟩ c
section
variable {W W' : World} {rb g N cT i o n lo : Nat} {T : List Tok} {a b c : Value}
theorem Rd.put3 (h : Rd W rb g N cT T i o) (hb : n ≠ rb) (hg : n ≠ g) : Rd (put3 W n a b c) rb g N cT T i o := ((h.set a hb hg).set b hb hg).set c hb hg
theorem Gr.put3 (h : Gr rb W W') (hb : W.heap.size ≤ n) : Gr rb W (put3 W' n a b c) := ((h.setNew a hb).setNew b hb).setNew c hb
theorem Kp.put3 (hb : n < lo) : Kp lo W (put3 W n a b c) := ((Kp.set a hb).trans (Kp.set b hb)).trans (Kp.set c hb)
theorem put3_heap {p q r : Value} {t : TypeId} (h : W.heap[n]? = some (.cells #[p, q, r] t)) : (put3 W n a b c).heap[n]? = some (.cells #[a, b, c] t) := by
  simp [Proofs.YtmpdnikabkandaaDoor.put3, World.setCell, Array.getElem?_modify, h]
theorem set3_at {p q r x : Value} {t : TypeId} (h : W.heap[n]? = some (.cells #[p, q, r] t)) :
    (W.setCell ⟨n, 1, none⟩ x).heap[n]? = some (.cells #[p, x, r] t) ∧ (W.setCell ⟨n, 2, none⟩ x).heap[n]? = some (.cells #[p, q, x] t) := by
  refine ⟨?_, ?_⟩ <;> simp [World.setCell, Array.getElem?_modify, h]
end

set_option maxRecDepth 100000 in
theorem fn_want {W : World} {rb g N cT i : Nat} {T : List Tok} (h : Rd W rb g N cT T i 0) (b1 : isT (T.drop i) [102, 117, 110, 99] = false) :
    Calls Tryd.prog 25 #[.pointer (some ⟨rb, 0, none⟩)] W (FP rb g N cT T W (.bad (hdT (T.drop i)).at_ 2)) := by
  have HW := Lib.hid (fun w2 (h2 : Rd w2 rb g N cT T i 0) => (show Calls Tryd.prog 43 #[.pointer (some ⟨rb, 0, none⟩), .string ⟨#[102, 117, 110, 99]⟩] w2 (fun e w' => e = flt (hdT (T.drop i)).at_ 2 ∧ Below w2.heap.size w2 w') from want_no h2 [102, 117, 110, 99] b1 _ rfl))
  have hrl := h.rlt
  have hgl := h.tok.1
  have h0 := h.alloc (.cells #[.string ⟨#[]⟩, .slice none 0 0, .slice none 0 0] 41)
  have B6 := heap_alloc_new W (.cells #[.string ⟨#[]⟩, .slice none 0 0, .slice none 0 0] 41)
  have g0 := (Gr.refl rb W).alloc (.cells #[.string ⟨#[]⟩, .slice none 0 0, .slice none 0 0] 41)
  have z0 : (W.alloc (.cells #[.string ⟨#[]⟩, .slice none 0 0, .slice none 0 0] 41)).heap.size = W.heap.size + 1 := by simp
  clear h b1
  go_enter Tryd.func25, Tryd.ntmps25
  go_upto_region 1 with fail
  obtain ⟨w0, hw0⟩ : ∃ W1, W.alloc (.cells #[.string ⟨#[]⟩, .slice none 0 0, .slice none 0 0] 41) = W1 := ⟨_, rfl⟩
  rw [hw0] at h0 B6 g0 z0 ⊢
  clear hw0
  go_wp2_with (go_at_call 43; ((with_reducible refine (HW.out _ h0).mono ?_); rintro e w1 ⟨rfl, e1⟩))
  exact ⟨rfl, rfl, g0.trans (Gr.of e1)⟩

set_option maxRecDepth 100000 in
theorem fn_name {W : World} {rb g N cT i : Nat} {T : List Tok} (h : Rd W rb g N cT T i 0) (b1 : isT (T.drop i) [102, 117, 110, 99] = true) (p c : Nat) (hv : nameT (T.drop (i + 1)) = .bad p c) :
    Calls Tryd.prog 25 #[.pointer (some ⟨rb, 0, none⟩)] W (FP rb g N cT T W (.bad p c)) := by
  have HW := Lib.hid (fun w2 (h2 : Rd w2 rb g N cT T i 0) => (show Calls Tryd.prog 43 #[.pointer (some ⟨rb, 0, none⟩), .string ⟨#[102, 117, 110, 99]⟩] w2 (fun e w' => e = .returned (.tuple #[]) ∧ Rd w' rb g N cT T (i + 1) 0 ∧ Gr rb w2 w') from want_yes h2 [102, 117, 110, 99] (by decide) b1))
  have HN := Lib.hid (fun W1 (h1 : Rd W1 rb g N cT T (i + 1) 0) => (show Calls Tryd.prog 44 #[.pointer (some ⟨rb, 0, none⟩)] W1 (NP rb g N cT 0 T W1 (.bad p c)) from hv ▸ nam_any h1))
  have hrl := h.rlt
  have hgl := h.tok.1
  have h0 := h.alloc (.cells #[.string ⟨#[]⟩, .slice none 0 0, .slice none 0 0] 41)
  have B6 := heap_alloc_new W (.cells #[.string ⟨#[]⟩, .slice none 0 0, .slice none 0 0] 41)
  have g0 := (Gr.refl rb W).alloc (.cells #[.string ⟨#[]⟩, .slice none 0 0, .slice none 0 0] 41)
  have z0 : (W.alloc (.cells #[.string ⟨#[]⟩, .slice none 0 0, .slice none 0 0] 41)).heap.size = W.heap.size + 1 := by simp
  clear h b1 hv
  go_enter Tryd.func25, Tryd.ntmps25
  go_upto_region 1 with fail
  obtain ⟨w0, hw0⟩ : ∃ W1, W.alloc (.cells #[.string ⟨#[]⟩, .slice none 0 0, .slice none 0 0] 41) = W1 := ⟨_, rfl⟩
  rw [hw0] at h0 B6 g0 z0 ⊢
  clear hw0
  go_wp2_with (first
    | (go_at_call 43; ((with_reducible refine (HW.out _ h0).mono ?_); rintro e wn ⟨rfl, hn, gn⟩))
    | (go_at_call 44; ((with_reducible refine (HN.out _ hn).mono ?_); rintro e w1 ⟨rfl, g1⟩)))
  exact ⟨rfl, rfl, g0.trans (gn.trans g1)⟩

set_option maxRecDepth 100000 in
theorem fn_sev {W : World} {rb g N cT i : Nat} {T : List Tok} (h : Rd W rb g N cT T i 0) (b1 : isT (T.drop i) [102, 117, 110, 99] = true) (s : ByteArray) (r1 : List Tok) (hv : nameT (T.drop (i + 1)) = .ok s r1) (p c : Nat)
    (HV : ∀ W2 i', Rd W2 rb g N cT T i' 0 → T.drop i' = r1 → Calls Tryd.prog 45 #[.pointer (some ⟨rb, 0, none⟩), .func (.func 44) #[.pointer (some ⟨rb, 0, none⟩)] #[]] W2 (MP rb g N cT 0 T W2 (.bad p c))) :
    Calls Tryd.prog 25 #[.pointer (some ⟨rb, 0, none⟩)] W (FP rb g N cT T W (.bad p c)) := by
  have HW := Lib.hid (fun w2 (h2 : Rd w2 rb g N cT T i 0) => (show Calls Tryd.prog 43 #[.pointer (some ⟨rb, 0, none⟩), .string ⟨#[102, 117, 110, 99]⟩] w2 (fun e w' => e = .returned (.tuple #[]) ∧ Rd w' rb g N cT T (i + 1) 0 ∧ Gr rb w2 w') from want_yes h2 [102, 117, 110, 99] (by decide) b1))
  have HN := Lib.hid (fun W1 (h1 : Rd W1 rb g N cT T (i + 1) 0) => (show Calls Tryd.prog 44 #[.pointer (some ⟨rb, 0, none⟩)] W1 (NP rb g N cT 0 T W1 (.ok s r1)) from hv ▸ nam_any h1))
  have HVV := Lib.hid HV
  have hrl := h.rlt
  have hgl := h.tok.1
  have h0 := h.alloc (.cells #[.string ⟨#[]⟩, .slice none 0 0, .slice none 0 0] 41)
  have B6 := heap_alloc_new W (.cells #[.string ⟨#[]⟩, .slice none 0 0, .slice none 0 0] 41)
  have g0 := (Gr.refl rb W).alloc (.cells #[.string ⟨#[]⟩, .slice none 0 0, .slice none 0 0] 41)
  have z0 : (W.alloc (.cells #[.string ⟨#[]⟩, .slice none 0 0, .slice none 0 0] 41)).heap.size = W.heap.size + 1 := by simp
  clear h b1 hv HV
  go_enter Tryd.func25, Tryd.ntmps25
  go_upto_region 1 with fail
  obtain ⟨w0, hw0⟩ : ∃ W1, W.alloc (.cells #[.string ⟨#[]⟩, .slice none 0 0, .slice none 0 0] 41) = W1 := ⟨_, rfl⟩
  rw [hw0] at h0 B6 g0 z0 ⊢
  clear hw0
  go_upto_region 3 with (first
    | (go_at_call 43; ((with_reducible refine (HW.out _ h0).mono ?_); rintro e wn ⟨rfl, hn, gn⟩))
    | (go_at_call 44; ((with_reducible refine (HN.out _ hn).mono ?_); rintro e w1 ⟨rfl, ⟨i1, h1, hd1⟩, g1, hsz⟩)))
  have zn := gn.size
  have z1 := g1.size
  have h2 := h1.alloc (.cells #[.string s, .slice none 0 0, .slice none 0 0] 41)
  have B7 := heap_alloc_new w1 (.cells #[.string s, .slice none 0 0, .slice none 0 0] 41)
  have g2 := ((g0.trans gn).trans g1).alloc (.cells #[.string s, .slice none 0 0, .slice none 0 0] 41)
  have z2 : (w1.alloc (.cells #[.string s, .slice none 0 0, .slice none 0 0] 41)).heap.size = w1.heap.size + 1 := by simp
  have B8 := (Below.heap_alloc w1 (.cells #[.string s, .slice none 0 0, .slice none 0 0] 41) W.heap.size (by omega)).trans ((g1.block (k := W.heap.size) (by omega) (by omega)).trans ((gn.block (k := W.heap.size) (by omega) (by omega)).trans B6))
  obtain ⟨w2, hw2⟩ : ∃ W1, w1.alloc (.cells #[.string s, .slice none 0 0, .slice none 0 0] 41) = W1 := ⟨_, rfl⟩
  rw [hw2] at h2 B7 g2 B8 z2 ⊢
  clear hw2
  obtain ⟨n3, hn3⟩ : ∃ n3, w1.heap.size = n3 := ⟨_, rfl⟩
  rw [hn3] at B7 z2 z1 ⊢
  go_wp2_with (go_at_call 45; ((with_reducible refine (HVV.out _ i1 h2 hd1).mono ?_); rintro e w5 ⟨rfl, g5⟩))
  exact ⟨rfl, rfl, g2.trans g5⟩

set_option maxRecDepth 100000 in
theorem fn_blk {W : World} {rb g N cT i : Nat} {T : List Tok} (h : Rd W rb g N cT T i 0) (b1 : isT (T.drop i) [102, 117, 110, 99] = true) (s : ByteArray) (r1 : List Tok) (hv : nameT (T.drop (i + 1)) = .ok s r1) (ps : List ByteArray) (r2 : List Tok)
    (HV : ∀ W2 i', Rd W2 rb g N cT T i' 0 → T.drop i' = r1 → Calls Tryd.prog 45 #[.pointer (some ⟨rb, 0, none⟩), .func (.func 44) #[.pointer (some ⟨rb, 0, none⟩)] #[]] W2 (MP rb g N cT 0 T W2 (.ok ps r2))) (p c : Nat)
    (HB : ∀ W2 i', Rd W2 rb g N cT T i' 0 → T.drop i' = r2 → Calls Tryd.prog 46 #[.pointer (some ⟨rb, 0, none⟩), .func (.func 27) #[.pointer (some ⟨rb, 0, none⟩)] #[]] W2 (BP rb g N cT 0 T W2 (.bad p c))) :
    Calls Tryd.prog 25 #[.pointer (some ⟨rb, 0, none⟩)] W (FP rb g N cT T W (.bad p c)) := by
  have HW := Lib.hid (fun w2 (h2 : Rd w2 rb g N cT T i 0) => (show Calls Tryd.prog 43 #[.pointer (some ⟨rb, 0, none⟩), .string ⟨#[102, 117, 110, 99]⟩] w2 (fun e w' => e = .returned (.tuple #[]) ∧ Rd w' rb g N cT T (i + 1) 0 ∧ Gr rb w2 w') from want_yes h2 [102, 117, 110, 99] (by decide) b1))
  have HN := Lib.hid (fun W1 (h1 : Rd W1 rb g N cT T (i + 1) 0) => (show Calls Tryd.prog 44 #[.pointer (some ⟨rb, 0, none⟩)] W1 (NP rb g N cT 0 T W1 (.ok s r1)) from hv ▸ nam_any h1))
  have HVV := Lib.hid HV
  have HBB := Lib.hid HB
  have hrl := h.rlt
  have hgl := h.tok.1
  have h0 := h.alloc (.cells #[.string ⟨#[]⟩, .slice none 0 0, .slice none 0 0] 41)
  have B6 := heap_alloc_new W (.cells #[.string ⟨#[]⟩, .slice none 0 0, .slice none 0 0] 41)
  have g0 := (Gr.refl rb W).alloc (.cells #[.string ⟨#[]⟩, .slice none 0 0, .slice none 0 0] 41)
  have z0 : (W.alloc (.cells #[.string ⟨#[]⟩, .slice none 0 0, .slice none 0 0] 41)).heap.size = W.heap.size + 1 := by simp
  clear h b1 hv HV HB
  go_enter Tryd.func25, Tryd.ntmps25
  go_upto_region 1 with fail
  obtain ⟨w0, hw0⟩ : ∃ W1, W.alloc (.cells #[.string ⟨#[]⟩, .slice none 0 0, .slice none 0 0] 41) = W1 := ⟨_, rfl⟩
  rw [hw0] at h0 B6 g0 z0 ⊢
  clear hw0
  go_upto_region 3 with (first
    | (go_at_call 43; ((with_reducible refine (HW.out _ h0).mono ?_); rintro e wn ⟨rfl, hn, gn⟩))
    | (go_at_call 44; ((with_reducible refine (HN.out _ hn).mono ?_); rintro e w1 ⟨rfl, ⟨i1, h1, hd1⟩, g1, hsz⟩)))
  have zn := gn.size
  have z1 := g1.size
  have h2 := h1.alloc (.cells #[.string s, .slice none 0 0, .slice none 0 0] 41)
  have B7 := heap_alloc_new w1 (.cells #[.string s, .slice none 0 0, .slice none 0 0] 41)
  have g2 := ((g0.trans gn).trans g1).alloc (.cells #[.string s, .slice none 0 0, .slice none 0 0] 41)
  have z2 : (w1.alloc (.cells #[.string s, .slice none 0 0, .slice none 0 0] 41)).heap.size = w1.heap.size + 1 := by simp
  have B8 := (Below.heap_alloc w1 (.cells #[.string s, .slice none 0 0, .slice none 0 0] 41) W.heap.size (by omega)).trans ((g1.block (k := W.heap.size) (by omega) (by omega)).trans ((gn.block (k := W.heap.size) (by omega) (by omega)).trans B6))
  obtain ⟨w2, hw2⟩ : ∃ W1, w1.alloc (.cells #[.string s, .slice none 0 0, .slice none 0 0] 41) = W1 := ⟨_, rfl⟩
  rw [hw2] at h2 B7 g2 B8 z2 ⊢
  clear hw2
  obtain ⟨n3, hn3⟩ : ∃ n3, w1.heap.size = n3 := ⟨_, rfl⟩
  rw [hn3] at B7 z2 z1 ⊢
  have HB7 := Lib.hid (fun w5 (g5 : Gr rb w2 w5) => (g5.block (lt_heap B7) (by omega)).trans B7)
  have HB8 := Lib.hid (fun w5 (g5 : Gr rb w2 w5) => (g5.block (lt_heap B8) (by omega)).trans B8)
  go_upto_region 4 with (go_at_call 45; ((with_reducible refine (HVV.out _ i1 h2 hd1).mono ?_); rintro e w5 ⟨⟨vv, rfl, hvp⟩, ⟨i5, h5, hd5⟩, g5⟩; obtain ⟨Ap, cp, el, _⟩ := id hvp; subst el; have c1 := box_cell (HB7.out w5 g5) 1; have f1 := box_frozen (HB7.out w5 g5) 1; simp only [List.getElem?_toArray, List.getElem?_cons_succ, List.getElem?_cons_zero] at c1))
  have z5 := g5.size
  have hl7 := lt_heap (HB7.out w5 g5)
  have hl8 := lt_heap (HB8.out w5 g5)
  have h6 := h5.set (b := n3) (j := 1) (.slice Ap ps.length cp) (by omega) (by omega)
  have g6 := (g2.trans g5).setNew (j := 1) (.slice Ap ps.length cp) (show W.heap.size ≤ n3 by omega)
  have B7 := (set3_at (x := .slice Ap ps.length cp) (HB7.out w5 g5)).1
  have B8 := (Below.heap_setCell w5 ⟨n3, 1, none⟩ (.slice Ap ps.length cp) W.heap.size (show W.heap.size ≠ n3 by omega)).trans (HB8.out w5 g5)
  have HK1 := Lib.hid (fun k (hk : k ≠ n3) => Below.heap_setCell w5 ⟨n3, 1, none⟩ (.slice Ap ps.length cp) k hk)
  have zz1 : (w5.setCell ⟨n3, 1, none⟩ (.slice Ap ps.length cp)).heap.size = w5.heap.size := by simp
  obtain ⟨w6, hw6⟩ : ∃ W1, (w5.setCell ⟨n3, 1, none⟩ (.slice Ap ps.length cp)) = W1 := ⟨_, rfl⟩
  rw [hw6] at h6 g6 B7 B8 HK1 zz1 ⊢
  clear hw6
  clear c1 f1 HB7 HB8 h5
  have hl7 := lt_heap B7
  have hl8 := lt_heap B8
  go_wp2_with (go_at_call 46; ((with_reducible refine (HBB.out _ i5 h6 hd5).mono ?_); rintro e w7 ⟨rfl, g7⟩))
  exact ⟨rfl, rfl, g6.trans g7⟩

set_option maxRecDepth 100000 in
theorem fn_ok {W : World} {rb g N cT i : Nat} {T : List Tok} (h : Rd W rb g N cT T i 0) (b1 : isT (T.drop i) [102, 117, 110, 99] = true) (s : ByteArray) (r1 : List Tok) (hv : nameT (T.drop (i + 1)) = .ok s r1) (ps : List ByteArray) (r2 : List Tok)
    (HV : ∀ W2 i', Rd W2 rb g N cT T i' 0 → T.drop i' = r1 → Calls Tryd.prog 45 #[.pointer (some ⟨rb, 0, none⟩), .func (.func 44) #[.pointer (some ⟨rb, 0, none⟩)] #[]] W2 (MP rb g N cT 0 T W2 (.ok ps r2))) (l : List Sm) (r : List Tok)
    (HB : ∀ W2 i', Rd W2 rb g N cT T i' 0 → T.drop i' = r2 → Calls Tryd.prog 46 #[.pointer (some ⟨rb, 0, none⟩), .func (.func 27) #[.pointer (some ⟨rb, 0, none⟩)] #[]] W2 (BP rb g N cT 0 T W2 (.ok l r))) :
    Calls Tryd.prog 25 #[.pointer (some ⟨rb, 0, none⟩)] W (FP rb g N cT T W (.ok ⟨s, ps, smSS l⟩ r)) := by
  have HW := Lib.hid (fun w2 (h2 : Rd w2 rb g N cT T i 0) => (show Calls Tryd.prog 43 #[.pointer (some ⟨rb, 0, none⟩), .string ⟨#[102, 117, 110, 99]⟩] w2 (fun e w' => e = .returned (.tuple #[]) ∧ Rd w' rb g N cT T (i + 1) 0 ∧ Gr rb w2 w') from want_yes h2 [102, 117, 110, 99] (by decide) b1))
  have HN := Lib.hid (fun W1 (h1 : Rd W1 rb g N cT T (i + 1) 0) => (show Calls Tryd.prog 44 #[.pointer (some ⟨rb, 0, none⟩)] W1 (NP rb g N cT 0 T W1 (.ok s r1)) from hv ▸ nam_any h1))
  have HVV := Lib.hid HV
  have HBB := Lib.hid HB
  have hrl := h.rlt
  have hgl := h.tok.1
  have h0 := h.alloc (.cells #[.string ⟨#[]⟩, .slice none 0 0, .slice none 0 0] 41)
  have B6 := heap_alloc_new W (.cells #[.string ⟨#[]⟩, .slice none 0 0, .slice none 0 0] 41)
  have g0 := (Gr.refl rb W).alloc (.cells #[.string ⟨#[]⟩, .slice none 0 0, .slice none 0 0] 41)
  have z0 : (W.alloc (.cells #[.string ⟨#[]⟩, .slice none 0 0, .slice none 0 0] 41)).heap.size = W.heap.size + 1 := by simp
  clear h b1 hv HV HB
  go_enter Tryd.func25, Tryd.ntmps25
  go_upto_region 1 with fail
  obtain ⟨w0, hw0⟩ : ∃ W1, W.alloc (.cells #[.string ⟨#[]⟩, .slice none 0 0, .slice none 0 0] 41) = W1 := ⟨_, rfl⟩
  rw [hw0] at h0 B6 g0 z0 ⊢
  clear hw0
  go_upto_region 3 with (first
    | (go_at_call 43; ((with_reducible refine (HW.out _ h0).mono ?_); rintro e wn ⟨rfl, hn, gn⟩))
    | (go_at_call 44; ((with_reducible refine (HN.out _ hn).mono ?_); rintro e w1 ⟨rfl, ⟨i1, h1, hd1⟩, g1, hsz⟩)))
  have zn := gn.size
  have z1 := g1.size
  have h2 := h1.alloc (.cells #[.string s, .slice none 0 0, .slice none 0 0] 41)
  have B7 := heap_alloc_new w1 (.cells #[.string s, .slice none 0 0, .slice none 0 0] 41)
  have g2 := ((g0.trans gn).trans g1).alloc (.cells #[.string s, .slice none 0 0, .slice none 0 0] 41)
  have z2 : (w1.alloc (.cells #[.string s, .slice none 0 0, .slice none 0 0] 41)).heap.size = w1.heap.size + 1 := by simp
  have B8 := (Below.heap_alloc w1 (.cells #[.string s, .slice none 0 0, .slice none 0 0] 41) W.heap.size (by omega)).trans ((g1.block (k := W.heap.size) (by omega) (by omega)).trans ((gn.block (k := W.heap.size) (by omega) (by omega)).trans B6))
  obtain ⟨w2, hw2⟩ : ∃ W1, w1.alloc (.cells #[.string s, .slice none 0 0, .slice none 0 0] 41) = W1 := ⟨_, rfl⟩
  rw [hw2] at h2 B7 g2 B8 z2 ⊢
  clear hw2
  obtain ⟨n3, hn3⟩ : ∃ n3, w1.heap.size = n3 := ⟨_, rfl⟩
  rw [hn3] at B7 z2 z1 ⊢
  have HB7 := Lib.hid (fun w5 (g5 : Gr rb w2 w5) => (g5.block (lt_heap B7) (by omega)).trans B7)
  have HB8 := Lib.hid (fun w5 (g5 : Gr rb w2 w5) => (g5.block (lt_heap B8) (by omega)).trans B8)
  go_upto_region 4 with (go_at_call 45; ((with_reducible refine (HVV.out _ i1 h2 hd1).mono ?_); rintro e w5 ⟨⟨vv, rfl, hvp⟩, ⟨i5, h5, hd5⟩, g5⟩; obtain ⟨Ap, cp, el, _⟩ := id hvp; subst el; have c1 := box_cell (HB7.out w5 g5) 1; have f1 := box_frozen (HB7.out w5 g5) 1; simp only [List.getElem?_toArray, List.getElem?_cons_succ, List.getElem?_cons_zero] at c1))
  have z5 := g5.size
  have hl7 := lt_heap (HB7.out w5 g5)
  have hl8 := lt_heap (HB8.out w5 g5)
  have h6 := h5.set (b := n3) (j := 1) (.slice Ap ps.length cp) (by omega) (by omega)
  have g6 := (g2.trans g5).setNew (j := 1) (.slice Ap ps.length cp) (show W.heap.size ≤ n3 by omega)
  have B7 := (set3_at (x := .slice Ap ps.length cp) (HB7.out w5 g5)).1
  have B8 := (Below.heap_setCell w5 ⟨n3, 1, none⟩ (.slice Ap ps.length cp) W.heap.size (show W.heap.size ≠ n3 by omega)).trans (HB8.out w5 g5)
  have HK1 := Lib.hid (fun k (hk : k ≠ n3) => Below.heap_setCell w5 ⟨n3, 1, none⟩ (.slice Ap ps.length cp) k hk)
  have zz1 : (w5.setCell ⟨n3, 1, none⟩ (.slice Ap ps.length cp)).heap.size = w5.heap.size := by simp
  obtain ⟨w6, hw6⟩ : ∃ W1, (w5.setCell ⟨n3, 1, none⟩ (.slice Ap ps.length cp)) = W1 := ⟨_, rfl⟩
  rw [hw6] at h6 g6 B7 B8 HK1 zz1 ⊢
  clear hw6
  clear c1 f1 HB7 HB8 h5
  have hl7 := lt_heap B7
  have hl8 := lt_heap B8
  have HB7 := Lib.hid (fun w5 (g5 : Gr rb w6 w5) => (g5.block (lt_heap B7) (by omega)).trans B7)
  have HB8 := Lib.hid (fun w5 (g5 : Gr rb w6 w5) => (g5.block (lt_heap B8) (by omega)).trans B8)
  go_upto_region 5 with (go_at_call 46; ((with_reducible refine (HBB.out _ i5 h6 hd5).mono ?_); rintro e w7 ⟨⟨vv, rfl, hvb⟩, ⟨i7, h7, hd7⟩, g7⟩; obtain ⟨Ab, cb, el, _⟩ := id hvb; subst el; have c2 := box_cell (HB7.out w7 g7) 2; have f2 := box_frozen (HB7.out w7 g7) 2; simp only [List.getElem?_toArray, List.getElem?_cons_succ, List.getElem?_cons_zero] at c2))
  have z7 := g7.size
  have hl7b := lt_heap (HB7.out w7 g7)
  have hl8b := lt_heap (HB8.out w7 g7)
  have h8 := h7.set (b := n3) (j := 2) (.slice Ab (smSS l).len cb) (by omega) (by omega)
  have g8 := (g6.trans g7).setNew (j := 2) (.slice Ab (smSS l).len cb) (show W.heap.size ≤ n3 by omega)
  have B7 := (set3_at (x := .slice Ab (smSS l).len cb) (HB7.out w7 g7)).2
  have B8 := (Below.heap_setCell w7 ⟨n3, 2, none⟩ (.slice Ab (smSS l).len cb) W.heap.size (show W.heap.size ≠ n3 by omega)).trans (HB8.out w7 g7)
  have HK2 := Lib.hid (fun k (hk : k ≠ n3) => Below.heap_setCell w7 ⟨n3, 2, none⟩ (.slice Ab (smSS l).len cb) k hk)
  have zz2 : (w7.setCell ⟨n3, 2, none⟩ (.slice Ab (smSS l).len cb)).heap.size = w7.heap.size := by simp
  obtain ⟨w8, hw6⟩ : ∃ W1, (w7.setCell ⟨n3, 2, none⟩ (.slice Ab (smSS l).len cb)) = W1 := ⟨_, rfl⟩
  rw [hw6] at h8 g8 B7 B8 HK2 zz2 ⊢
  clear hw6
  clear c2 f2 HB7 HB8
  have hP1 := hvp.kp (lo' := w0.heap.size) (W' := w8) ⟨by omega, fun k hk hl => (HK2.out k (by omega)).trans ((g7.block (by omega) (by omega)).trans (HK1.out k (by omega)))⟩ (by omega)
  have hB1 := hvb.kp (lo' := w0.heap.size) (W' := w8) ⟨by omega, fun k hk hl => HK2.out k (by omega)⟩ (by omega)
  have c0 := box_cell B8 0
  have f0 := box_frozen B8 0
  have d0 := box_cell B7 0
  have c1 := box_cell B8 1
  have f1 := box_frozen B8 1
  have d1 := box_cell B7 1
  have c2 := box_cell B8 2
  have f2 := box_frozen B8 2
  have d2 := box_cell B7 2
  simp only [List.getElem?_toArray, List.getElem?_cons_succ, List.getElem?_cons_zero] at c0 d0 c1 d1 c2 d2
  have hP := put3_heap (a := .string s) (b := .slice Ap ps.length cp) (c := .slice Ab (smSS l).len cb) B8
  have hfin : FP rb g N cT T W (.ok ⟨s, ps, smSS l⟩ r) (.returned (.agg #[.string s, .slice Ap ps.length cp, .slice Ab (smSS l).len cb])) (Proofs.YtmpdnikabkandaaDoor.put3 w8 W.heap.size (.string s) (.slice Ap ps.length cp) (.slice Ab (smSS l).len cb)) :=
    ⟨⟨_, rfl, _, _, rfl, hP1.kp (Kp.put3 (by omega)) (by omega), hB1.kp (Kp.put3 (by omega)) (by omega), hsz⟩, ⟨i7, h8.put3 (by omega) (by omega), hd7⟩, g8.put3 (Nat.le_refl _)⟩
  go_wp2
  obtain ⟨wz, hwz⟩ : ∃ W5, (Proofs.YtmpdnikabkandaaDoor.put3 w8 W.heap.size (.string s) (.slice Ap ps.length cp) (.slice Ab (smSS l).len cb)) = W5 := ⟨_, rfl⟩
  show bodyPost _ _ _ _ _ (Proofs.YtmpdnikabkandaaDoor.put3 w8 W.heap.size (.string s) (.slice Ap ps.length cp) (.slice Ab (smSS l).len cb))
  rw [hwz] at hP hfin ⊢
  have p0 := box_cell hP 0
  have p1 := box_cell hP 1
  have p2 := box_cell hP 2
  simp only [List.getElem?_toArray, List.getElem?_cons_succ, List.getElem?_cons_zero] at p0 p1 p2
  exact bodyPost_ret (v := .agg #[.string s, .slice Ap ps.length cp, .slice Ab (smSS l).len cb]) (by simp [results, Tryd.results25, go_sem, p0, p1, p2]) rfl hfin

/-- A function, whole. -/
theorem func_any {W : World} {rb g N cT i : Nat} {T : List Tok} (h : Rd W rb g N cT T i 0) (n : Nat) (hx : funcT n (T.drop i) ≠ .out) :
    Calls Tryd.prog 25 #[.pointer (some ⟨rb, 0, none⟩)] W (FP rb g N cT T W (funcT n (T.drop i))) := by
  unfold funcT at hx ⊢
  cases b1 : isT (T.drop i) [102, 117, 110, 99] with
  | false =>
    rw [want_isnt _ _ b1]
    exact fn_want h b1
  | true =>
    rw [want_is _ _ b1, drop_tail] at hx ⊢
    simp only [PR.bind] at hx ⊢
    cases hv : nameT (T.drop (i + 1)) with
    | out => exact absurd hv (nam_ne _)
    | bad p c => exact fn_name h b1 p c hv
    | ok s r1 =>
      rw [hv] at hx
      simp only at hx ⊢
      have HV : ∀ x, severalT nameT n 0 r1 = x → x ≠ .out → ∀ W2 i', Rd W2 rb g N cT T i' 0 → T.drop i' = r1 → Calls Tryd.prog 45 #[.pointer (some ⟨rb, 0, none⟩), ovN rb] W2 (MP rb g N cT 0 T W2 x) := by
        intro x hr hne W2 i' h2 hd
        have := names_any h2 n (by rw [hd, hr]; exact hne)
        rw [hd, hr] at this
        exact this
      cases hs : severalT nameT n 0 r1 with
      | out => rw [hs] at hx; exact absurd rfl hx
      | bad p c => exact fn_sev h b1 s r1 hv p c (HV _ hs (fun e => by cases e))
      | ok ps r2 =>
        have HV := HV _ hs (fun e => by cases e)
        rw [hs] at hx
        simp only at hx ⊢
        have HB : ∀ x, blockT (outerT n 1) n 0 r2 = x → x ≠ .out → ∀ W2 i', Rd W2 rb g N cT T i' 0 → T.drop i' = r2 → Calls Tryd.prog 46 #[.pointer (some ⟨rb, 0, none⟩), .func (.func 27) #[.pointer (some ⟨rb, 0, none⟩)] #[]] W2 (BP rb g N cT 0 T W2 x) := by
          intro x hr hne W2 i' h2 hd
          have := blockO_any h2 (outerT n 1) n (by rw [hd, hr]; exact hne) (fun j v r h => outer_left h) (fun W3 i3 h3 hx3 => outerS_any h3 n hx3)
          rw [hd, hr] at this
          exact this
        cases hb : blockT (outerT n 1) n 0 r2 with
        | out => rw [hb] at hx; exact absurd rfl hx
        | bad p c => exact fn_blk h b1 s r1 hv ps r2 HV p c (HB _ hb (fun e => by cases e))
        | ok l r => exact fn_ok h b1 s r1 hv ps r2 HV l r (HB _ hb (fun e => by cases e))

end Go.Proofs.YtmpdnikabkandaaDoor

/-
  Package parse: functions that are gathered in a row of the call's own; a program in memory.
-/
namespace Go.Proofs.YtmpdnikabkandaaDoor
open Go Go.RowKit Go.Lib

theorem func_ls (n : Nat) (ts : List Tok) : Ls ts.length (funcT n ts) :=
  (want_fn (by decide) ts).ls.bind fun _ r hr => Ls.of ((name_lq r).bind fun s r1 h1 => ((several_lq name_lq n 0 r1).mono h1).bind fun ps r2 h2 =>
    ((block_lq (fun ts => (stmt_ls n 1 ts).le.bind fun t r hr => by
      split
      · trivial
      · exact hr) n 0 r2).mono h2).bind fun b r3 h3 => h3) hr
theorem func_left {n : Nat} {ts : List Tok} {v : Fn} {r : List Tok} (h : funcT n ts = .ok v r) : r.length < ts.length := by
  have h1 := func_ls n ts
  rw [h] at h1
  exact h1

abbrev NY (p : Nat → Prop) [DecidablePred p] (W : World) (v : Value) (l : List ByteArray) : Prop := RowV (PsIn (erp p W) l) W.heap.size l.length v
section
variable {p q : Nat → Prop} [DecidablePred p] [DecidablePred q] {W W' : World} {v : Value} {l : List ByteArray} {lo : Nat}
theorem NY.kp (hv : NY p W v l) (hs : W.heap.size ≤ W'.heap.size) (hk : ∀ k, p k → k < W.heap.size → W'.heap[k]? = W.heap[k]?) (hp : ∀ k, p k → k < W.heap.size → q k) : NY q W' v l :=
  RowV.imp hv hs fun _ _ hb hq => PsIn.ext (fun b j u hb hc => by
    rw [erp_cell] at hc ⊢
    by_cases e : p b
    · rw [if_pos e] at hc
      rw [if_pos (hp b e hb), World.cell?_of_block (a := ⟨b, j, none⟩) (hk b e hb)]
      exact hc
    · rw [if_neg e] at hc; cases hc) hb hq
theorem NY.of_nx (hv : NX lo W v l) (hk : Kp lo W W') (hp : ∀ k, lo ≤ k → k < W.heap.size → q k) : NY q W' v l :=
  RowV.imp hv hk.size fun _ _ hb hq => PsIn.ext (fun b j u hb hc => by
    rw [er_cell] at hc
    rw [erp_cell]
    by_cases e : b < lo
    · rw [if_pos e] at hc; cases hc
    · rw [if_neg e] at hc
      rw [if_pos (hp b (by omega) hb), World.cell?_of_block (a := ⟨b, j, none⟩) (hk.block b (by omega) hb)]
      exact hc) hb hq
theorem NX.of_ny (hv : NY p W v l) (hs : W.heap.size ≤ W'.heap.size) (hk : ∀ k, p k → k < W.heap.size → W'.heap[k]? = W.heap[k]?) (hp : ∀ k, p k → lo ≤ k) : NX lo W' v l :=
  RowV.imp hv hs fun _ _ hb hq => PsIn.ext (fun b j u hb hc => by
    rw [erp_cell] at hc
    rw [er_cell]
    by_cases e : p b
    · rw [if_pos e] at hc
      have := hp b e
      rw [if_neg (by omega), World.cell?_of_block (a := ⟨b, j, none⟩) (hk b e hb)]
      exact hc
    · rw [if_neg e] at hc; cases hc) hb hq
end
/-- The cells of functions that lie one behind the other. -/
def fCs (p : Nat → Prop) [DecidablePred p] (W : World) : List Fn → List Value → Prop
  | [] => fun cs => cs = []
  | t :: r => fun cs => ∃ vp vb rest, cs = .string t.s :: vp :: vb :: rest ∧ NY p W vp t.ps ∧ SY p W vb t.b ∧ t.s.size ≤ 9223372036854775807 ∧ fCs p W r rest
/-- Functions in a slice, in blocks from lo on. -/
abbrev FX (lo : Nat) (W : World) (v : Value) (l : List Fn) : Prop := RowV (FsIn W.heap.size (er lo W) l) W.heap.size l.length v
theorem FsIn.ext {B B' : Nat} {W W' : World} (hB : B ≤ B') (h : ∀ b j v, b < B → W.cell? ⟨b, j, none⟩ = some v → W'.cell? ⟨b, j, none⟩ = some v) : ∀ {l : List Fn} {b o : Nat}, b < B → FsIn B W l b o → FsIn B' W' l b o
  | [], _, _, _, _ => trivial
  | _ :: _, _, _, hb, ⟨h0, ⟨v, h1, hp⟩, ⟨v', h2, hs⟩, h3, hr⟩ =>
    ⟨h _ _ _ hb h0, ⟨v, h _ _ _ hb h1, hp.imp hB fun _ _ hb' hq => PsIn.ext h hb' hq⟩, ⟨v', h _ _ _ hb h2, hs.imp hB fun _ _ hb' hq => SS.In.ext hB h hb' hq⟩, h3, FsIn.ext hB h hb hr⟩
theorem FX.kp {lo lo' : Nat} {W W' : World} {v : Value} {l : List Fn} (hv : FX lo W v l) (h : Kp lo W W') (hl : lo' ≤ lo) : FX lo' W' v l := RowV.imp hv h.size fun _ _ hb hp => FsIn.ext h.size (er_ext h hl) hb hp
theorem FX.fv {lo : Nat} {W : World} {v : Value} {l : List Fn} (h : FX lo W v l) : FV W.heap.size W v l := RowV.imp h (Nat.le_refl _) fun _ _ hb hp => FsIn.ext (Nat.le_refl _) (fun _ _ _ _ hc => er_sub hc) hb hp
theorem fx_nil (lo : Nat) (W : World) : FX lo W (.slice none 0 0) [] := ⟨none, 0, rfl, Nat.le_refl _, by decide, fun h => by simp at h⟩
section
variable {p q : Nat → Prop} [DecidablePred p] [DecidablePred q] {W W' : World}
theorem fCs.kp (hs : W.heap.size ≤ W'.heap.size) (hk : ∀ k, p k → k < W.heap.size → W'.heap[k]? = W.heap[k]?) (hp : ∀ k, p k → k < W.heap.size → q k) : ∀ {l : List Fn} {cs : List Value}, fCs p W l cs → fCs q W' l cs
  | [], _, h => h
  | _ :: _, _, ⟨vp, vb, rest, e, h1, h2, h3, hr⟩ => ⟨vp, vb, rest, e, h1.kp hs hk hp, h2.kp hs hk hp, h3, fCs.kp hs hk hp hr⟩
theorem fCs.snoc {t : Fn} {vp vb : Value} (h1 : NY p W vp t.ps) (h2 : SY p W vb t.b) (h3 : t.s.size ≤ 9223372036854775807) : ∀ {l : List Fn} {cs : List Value}, fCs p W l cs → fCs p W (l ++ [t]) (cs ++ [.string t.s, vp, vb])
  | [], cs, h => by rw [show cs = [] from h]; exact ⟨vp, vb, [], rfl, h1, h2, h3, rfl⟩
  | _ :: _, cs, ⟨vp', vb', rest, e', g1, g2, g3, hr⟩ => ⟨vp', vb', rest ++ _, by rw [e']; rfl, g1, g2, g3, fCs.snoc h1 h2 h3 hr⟩
theorem fCs.in_ {lo g : Nat} (hp : ∀ k, p k → lo ≤ k) : ∀ {l : List Fn} {cs : List Value} {o : Nat}, fCs p W l cs → (∀ j u, cs[j]? = some u → (er lo W).cell? ⟨g, o + j, none⟩ = some u) → FsIn W.heap.size (er lo W) l g o
  | [], _, _, _, _ => trivial
  | t :: r, _, o, ⟨vp, vb, rest, e1, h1, h2, h3, hr⟩, hq => by
    subst e1
    have hvp : NX lo W vp t.ps := NX.of_ny h1 (Nat.le_refl _) (fun _ _ _ => rfl) hp
    have hvb : SX lo W vb t.b := SX.of_sy h2 (Nat.le_refl _) (fun _ _ _ => rfl) hp
    exact ⟨hq 0 _ rfl, ⟨_, hq 1 _ rfl, hvp⟩, ⟨_, hq 2 _ rfl, hvb⟩, h3, fCs.in_ hp hr fun j u hu => by
      rw [show o + 3 + j = o + (j + 3) by omega]
      exact hq (j + 3) u (by simpa using hu)⟩
end
/-- A row of the call's own that holds functions. -/
theorem row_fx {p : Nat → Prop} [DecidablePred p] {W : World} {base lo n : Nat} {e : TypeId} {v : Value} {l : List Fn} {cs : List Value} (h : W.ownsRow base e 3 v n cs) (hb : lo ≤ base) (hc : fCs p W l cs) (hp : ∀ k, p k → lo ≤ k) (hn : n = l.length) : FX lo W v l := by
  rcases h.2 with ⟨rfl, rfl⟩ | ⟨g, cap, cur, rfl, hg, hh, hnc, hcm, hrest⟩
  · have hl : l = [] := List.eq_nil_of_length_eq_zero hn.symm
    subst hl
    exact fx_nil lo W
  · subst hn
    refine ⟨some ⟨g, 0, none⟩, cap, rfl, hnc, by unfold maxLen at hcm; omega, fun _ => ⟨g, 0, rfl, (h.lt g rfl).2, fCs.in_ hp hc fun j u hu => ?_⟩⟩
    have hcj := h.cells (g := g) rfl j u hu
    rw [show (⟨g, 0, none⟩ : Addr).add j = ⟨g, j, none⟩ by unfold Addr.add; split <;> simp_all] at hcj
    rw [Nat.zero_add, er_cell, if_neg (by have := (h.lt g rfl).1; omega)]
    exact hcj

section
variable {wr w3 w4 : World} {O : Obj} {rb g N cT i o n L : Nat} {T : List Tok} {E : TypeId} {vv v1 : Value} {cs : List Value}
/-- What one thing more leaves as it was. -/
theorem low_step {size : Nat} (hL : L ≤ wr.heap.size) (hown : wr.ownsRow L E size vv n cs) (g3 : Gr rb wr w3) (h3 : Rd w3 rb g N cT T i o)
    (hgrow : (w3.alloc O).grownBy w4 vv.ownBlock) (hat : ∀ k, v1.ownBlock = some k → vv.ownBlock = some k ∨ (w3.alloc O).heap.size ≤ k) (hrl : rb < L) (hgl : g < L) :
    Rd w4 rb g N cT T i o ∧ (∀ W, Gr rb W wr → W.heap.size ≤ L → Gr rb W w4) ∧ (∀ k, k < L → k ≠ rb → w4.heap[k]? = wr.heap[k]?) ∧ wr.heap.size ≤ w4.heap.size ∧
      Kp wr.heap.size w3 w4 ∧ (∀ k, wr.heap.size ≤ k → k < w3.heap.size → rowp L v1 k) ∧ (∀ k, rowp L vv k → k < wr.heap.size → w4.heap[k]? = wr.heap[k]?) ∧ (∀ k, rowp L vv k → k < wr.heap.size → rowp L v1 k) := by
  have z2 := g3.size
  have z3 : (w3.alloc O).heap.size = w3.heap.size + 1 := by simp
  have z4 := World.grownBy.size hgrow
  have hrow := hown.lt
  have hs := low_size hL
  obtain ⟨a, b⟩ := app_step (W := low L wr) (gr_low hL) (fun k hk => by rw [hs]; exact (hrow k hk).1) g3 h3 hgrow (by rw [hs]; exact hrl) (by rw [hs]; exact hgl)
  have hba : ∀ k, k < w3.heap.size → vv.ownBlock ≠ some k → w4.heap[k]? = w3.heap[k]? := fun k hk hne => (World.grownBy.block hgrow k (by omega) (fun e => hne e.symm)).trans (Below.heap_alloc w3 O k hk)
  refine ⟨a, fun W hG hW => Gr.low hL hG hW b, fun k hk hne => (b.block (by rw [hs]; exact hk) hne).trans (low_block hL hk), by omega, ⟨by omega, fun k hk hl => hba k hl (fun e => by have := (hrow k e).2; omega)⟩, fun k hk hl => ⟨by omega, fun e => ?_⟩,
    fun k hk hl => (hba k (by omega) hk.2).trans (g3.block hl (by have := hk.1; omega)), fun k hk hl => ⟨hk.1, fun e => ?_⟩⟩
  · rcases hat k e with e | e
    · have := (hrow k e).2; omega
    · omega
  · rcases hat k e with e | e
    · exact hk.2 e
    · omega
/-- One more function; one more statement. -/
abbrev newf (q : Fn) (vp vb : Value) : List Value := [.string q.s, vp, vb]
theorem fn_low {l : List Fn} {q : Fn} {vp vb : Value} (hL : L ≤ wr.heap.size) (hown : wr.ownsRow L E 3 vv n cs) (hx : fCs (rowp L vv) wr l cs) (g3 : Gr rb wr w3) (hv1 : NX wr.heap.size w3 vp q.ps) (hv2 : SX wr.heap.size w3 vb q.b) (hsz : q.s.size ≤ 9223372036854775807) (h3 : Rd w3 rb g N cT T i o)
    (hgrow : (w3.alloc O).grownBy w4 vv.ownBlock) (hat : ∀ k, v1.ownBlock = some k → vv.ownBlock = some k ∨ (w3.alloc O).heap.size ≤ k) (hrl : rb < L) (hgl : g < L) :
    Rd w4 rb g N cT T i o ∧ (∀ W, Gr rb W wr → W.heap.size ≤ L → Gr rb W w4) ∧ (∀ k, k < L → k ≠ rb → w4.heap[k]? = wr.heap[k]?) ∧ wr.heap.size ≤ w4.heap.size ∧ fCs (rowp L v1) w4 (l ++ [q]) (cs ++ newf q vp vb) := by
  obtain ⟨a, b, c, d, e1, e2, e3, e4⟩ := low_step hL hown g3 h3 hgrow hat hrl hgl
  exact ⟨a, b, c, d, fCs.snoc (NY.of_nx hv1 e1 e2) (SY.of_sx hv2 e1 e2) hsz (hx.kp d e3 e4)⟩
theorem st_low {l : List Sm} {t : Sm} {vl vx vy : Value} (hL : L ≤ wr.heap.size) (hown : wr.ownsRow L E 6 vv n cs) (hx : tCs (rowp L vv) wr l cs) (g3 : Gr rb wr w3) (hv1 : EX wr.heap.size w3 vl t.l) (hv2 : SX wr.heap.size w3 vx t.x) (hv3 : SX wr.heap.size w3 vy t.y) (hok : okS t) (h3 : Rd w3 rb g N cT T i o)
    (hgrow : (w3.alloc O).grownBy w4 vv.ownBlock) (hat : ∀ k, v1.ownBlock = some k → vv.ownBlock = some k ∨ (w3.alloc O).heap.size ≤ k) (hrl : rb < L) (hgl : g < L) :
    Rd w4 rb g N cT T i o ∧ (∀ W, Gr rb W wr → W.heap.size ≤ L → Gr rb W w4) ∧ (∀ k, k < L → k ≠ rb → w4.heap[k]? = wr.heap[k]?) ∧ wr.heap.size ≤ w4.heap.size ∧ tCs (rowp L v1) w4 (l ++ [t]) (cs ++ newt t vl vx vy) := by
  obtain ⟨a, b, c, d, e1, e2, e3, e4⟩ := low_step hL hown g3 h3 hgrow hat hrl hgl
  exact ⟨a, b, c, d, tCs.snoc (EY.of_ex hv1 e1 e2) (SY.of_sx hv2 e1 e2) (SY.of_sx hv3 e1 e2) hok (hx.kp d e3 e4)⟩
end
theorem newf_one (q : Fn) (A B : Option Addr) (a b a' b' : Nat) : ∀ u ∈ newf q (.slice A a a') (.slice B b b'), u.oneCell' = true := by
  intro u hu
  simp only [newf, List.mem_cons, List.not_mem_nil, or_false] at hu
  rcases hu with rfl | rfl | rfl <;> rfl
theorem newf_cells (w3 : World) (q : Fn) (x y : Value) : ∀ j u, (newf q x y)[j]? = some u → (w3.alloc (.cells #[.string q.s, x, y] 41)).cell? ((⟨w3.heap.size, 0, none⟩ : Addr).add j) = some u := by
  intro j u hu
  rw [show (⟨w3.heap.size, 0, none⟩ : Addr).add j = ⟨w3.heap.size, j, none⟩ by unfold Addr.add; split <;> simp_all, box_cell (heap_alloc_new w3 _)]
  simpa using hu
theorem fnInfo : (Tryd.prog.info? 41).map (fun i => (i.zero, i.size, i.bytes)) = some (some (.agg #[.string ⟨#[]⟩, .slice none 0 0, .slice none 0 0]), 3, 64) := by kernel_rfl

/-- A program's value. -/
def GV (lo : Nat) (W : World) (v : Value) (q : Pg) : Prop := ∃ vf vm, v = .agg #[vf, vm] ∧ FX lo W vf q.fs ∧ SX lo W vm q.m
theorem GV.kp {lo lo' : Nat} {W W' : World} {v : Value} {q : Pg} (hv : GV lo W v q) (h : Kp lo W W') (hl : lo' ≤ lo) : GV lo' W' v q := by
  obtain ⟨vf, vm, e, h1, h2⟩ := hv
  exact ⟨vf, vm, e, h1.kp h hl, h2.kp h hl⟩
theorem GV.pgv {lo : Nat} {W : World} {v : Value} {q : Pg} (hv : GV lo W v q) : PgV W.heap.size W v q := by
  obtain ⟨vf, vm, rfl, h1, h2⟩ := hv
  obtain ⟨A, c, e1, _⟩ := id h1
  obtain ⟨A', c', e2, _⟩ := id h2
  subst e1 e2
  exact ⟨A, c, A', c', rfl, h1.fv, h2.sv⟩
/-- What a call that reads a program has done. -/
def QP (rb g N cT : Nat) (T : List Tok) (W : World) (x : PR Pg) (e : Ending) (W' : World) : Prop :=
  match x with
  | .ok v r => (∃ vv, e = .returned vv ∧ GV W.heap.size W' vv v) ∧ (∃ i, Rd W' rb g N cT T i 0 ∧ T.drop i = r) ∧ Gr rb W W'
  | .bad p c => e = flt p c ∧ Gr rb W W'
  | .out => True
/-- Two cells that are stored one behind the other. -/
def put2 (W : World) (n : Nat) (a b : Value) : World := (W.setCell ⟨n, 0, none⟩ a).setCell ⟨n, 1, none⟩ b
section
variable {W W' : World} {rb g N cT i o n lo : Nat} {T : List Tok} {a b : Value}
theorem Rd.put2 (h : Rd W rb g N cT T i o) (hb : n ≠ rb) (hg : n ≠ g) : Rd (put2 W n a b) rb g N cT T i o := (h.set a hb hg).set b hb hg
theorem Gr.put2 (h : Gr rb W W') (hb : W.heap.size ≤ n) : Gr rb W (put2 W' n a b) := (h.setNew a hb).setNew b hb
theorem Kp.put2 (hb : n < lo) : Kp lo W (put2 W n a b) := (Kp.set a hb).trans (Kp.set b hb)
theorem put2_heap {p q : Value} {t : TypeId} (h : W.heap[n]? = some (.cells #[p, q] t)) : (put2 W n a b).heap[n]? = some (.cells #[a, b] t) := by
  simp [Proofs.YtmpdnikabkandaaDoor.put2, World.setCell, Array.getElem?_modify, h]
theorem set2_at {p q x : Value} {t : TypeId} (h : W.heap[n]? = some (.cells #[p, q] t)) :
    (W.setCell ⟨n, 0, none⟩ x).heap[n]? = some (.cells #[x, q] t) ∧ (W.setCell ⟨n, 1, none⟩ x).heap[n]? = some (.cells #[p, x] t) := by
  refine ⟨?_, ?_⟩ <;> simp [World.setCell, Array.getElem?_modify, h]
end

end Go.Proofs.YtmpdnikabkandaaDoor

