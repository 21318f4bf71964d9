/-
  Texts PbJ PbK: put together.
-/
import Derived.Test.YtaajolemjgdfnaaDoorPbI
/-
  Package parse: a statement that stands in no other one (outer).
-/
namespace Go.Proofs.YtaajolemjgdfnaaDoor
open Go Go.RowKit Go.Lib
attribute [local go_sem high] run_tok0 run_tok1 run_tok2

theorem er_sub {lo : Nat} {W : World} {b j : Nat} {v : Value} (h : (er lo W).cell? ⟨b, j, none⟩ = some v) : W.cell? ⟨b, j, none⟩ = some v := by
  rw [er_cell] at h
  split at h
  · cases h
  · exact h
theorem EX.ev {lo : Nat} {W : World} {v : Value} {l : ES} (h : EX lo W v l) : EV W.heap.size W v l := RowV.imp h (Nat.le_refl _) fun _ _ hb hp => ES.In.ext (Nat.le_refl _) (fun _ _ _ _ hc => er_sub hc) hb hp
theorem SX.sv {lo : Nat} {W : World} {v : Value} {l : SS} (h : SX lo W v l) : SV W.heap.size W v l := RowV.imp h (Nat.le_refl _) fun _ _ hb hp => SS.In.ext (Nat.le_refl _) (fun _ _ _ _ hc => er_sub hc) hb hp
theorem sx_one {lo n : Nat} {W : World} {t : Sm} {vl vx vy : Value} {ty : TypeId} (hc : W.heap[n]? = some (.cells #[.int .i64 t.op, .string t.s, .int .i64 t.n, vl, vx, vy] ty)) (hl : lo ≤ n) (hv : EX lo W vl t.l) (hx : SX lo W vx t.x) (hy : SX lo W vy t.y) (ho : okS t) : SX lo W (.slice (some ⟨n, 0, none⟩) 1 1) (toSS t .nil) :=
  ⟨some ⟨n, 0, none⟩, 1, rfl, Nat.le_refl _, by decide, fun _ => ⟨n, 0, rfl, lt_heap hc, er_at hc hl rfl, er_at hc hl rfl, er_at hc hl rfl, ⟨vl, er_at hc hl rfl, hv⟩, ⟨vx, er_at hc hl rfl, hx⟩, ⟨vy, er_at hc hl rfl, hy⟩, ho, trivial⟩⟩
theorem pg_one {W : World} {n : Nat} {l : SS} (h : SV W.heap.size W (.slice (some ⟨n, 0, none⟩) 1 1) l) (hl : l.len = 1) : PgV W.heap.size W (.agg #[.slice none 0 0, .slice (some ⟨n, 0, none⟩) 1 1]) ⟨[], l⟩ :=
  ⟨none, 0, some ⟨n, 0, none⟩, 1, by simp [hl], ⟨none, 0, rfl, Nat.le_refl _, by decide, fun h0 => by simp at h0⟩, by simpa [hl] using h⟩

set_option maxRecDepth 100000 in
theorem ou_bad {W : World} {rb g N cT i o : Nat} {T : List Tok} (h : Rd W rb g N cT T i o) (p c : Nat)
    (HS : ∀ W2, Rd W2 rb g N cT T i o → Calls Tryd.prog 72 #[.pointer (some ⟨rb, 0, none⟩)] W2 (TP rb g N cT o T W2 (.bad p c))) :
    Calls Tryd.prog 57 #[.pointer (some ⟨rb, 0, none⟩)] W (TP rb g N cT o T W (.bad p c)) := by
  have HSS := Lib.hid HS
  have HN := Lib.hid (fun W1 (h1 : Rd W1 rb g N cT T i o) => now_any h1 _ rfl)
  have hrl := h.rlt
  have hgl := h.tok.1
  have h0 := h.alloc (.cells #[.int .i64 0, .string ⟨#[]⟩, .int .i64 0, .slice none 0 0, .slice none 0 0, .slice none 0 0] 45)
  have B6 := heap_alloc_new W (.cells #[.int .i64 0, .string ⟨#[]⟩, .int .i64 0, .slice none 0 0, .slice none 0 0, .slice none 0 0] 45)
  have g0 := (Gr.refl rb W).alloc (.cells #[.int .i64 0, .string ⟨#[]⟩, .int .i64 0, .slice none 0 0, .slice none 0 0, .slice none 0 0] 45)
  have z0 : (W.alloc (.cells #[.int .i64 0, .string ⟨#[]⟩, .int .i64 0, .slice none 0 0, .slice none 0 0, .slice none 0 0] 45)).heap.size = W.heap.size + 1 := by simp
  clear h HS
  go_enter Tryd.func57, Tryd.ntmps57
  go_upto_region 1 with fail
  obtain ⟨w0, hw0⟩ : ∃ W1, W.alloc (.cells #[.int .i64 0, .string ⟨#[]⟩, .int .i64 0, .slice none 0 0, .slice none 0 0, .slice none 0 0] 45) = W1 := ⟨_, rfl⟩
  rw [hw0] at h0 B6 g0 z0 ⊢
  clear hw0
  go_wp2_with (first
    | (go_at_call 56; ((with_reducible refine (HN.out _ h0).mono ?_); rintro e wn ⟨rfl, en⟩; have hn := h0.below en))
    | (go_at_call 72; ((with_reducible refine (HSS.out _ hn).mono ?_); rintro e w2 ⟨rfl, g2⟩)))
  exact ⟨rfl, rfl, g0.trans ((Gr.of en).trans g2)⟩

set_option maxRecDepth 100000 in
theorem ou_deep {W : World} {rb g N cT i o : Nat} {T : List Tok} (h : Rd W rb g N cT T i o) (t : Sm) (r : List Tok)
    (HS : ∀ W2, Rd W2 rb g N cT T i o → Calls Tryd.prog 72 #[.pointer (some ⟨rb, 0, none⟩)] W2 (TP rb g N cT o T W2 (.ok t r))) (hdeep : 64 < (toSS t .nil).deep) :
    Calls Tryd.prog 57 #[.pointer (some ⟨rb, 0, none⟩)] W (TP rb g N cT o T W (.bad (hdT (T.drop i)).at_ 3)) := by
  have HSS := Lib.hid HS
  have HN := Lib.hid (fun W1 (h1 : Rd W1 rb g N cT T i o) => now_any h1 _ rfl)
  obtain ⟨tk, htk⟩ : ∃ tk, hdT (T.drop i) = tk := ⟨_, rfl⟩
  rw [htk] at HN
  rw [htk]
  clear htk
  obtain ⟨D, hD⟩ : ∃ D, (toSS t .nil).deep = D := ⟨_, rfl⟩
  rw [hD] at hdeep
  have d1 : decide ((64 : Int) < D) = true := decide_eq_true hdeep
  clear hdeep
  have hrl := h.rlt
  have hgl := h.tok.1
  have h0 := h.alloc (.cells #[.int .i64 0, .string ⟨#[]⟩, .int .i64 0, .slice none 0 0, .slice none 0 0, .slice none 0 0] 45)
  have B6 := heap_alloc_new W (.cells #[.int .i64 0, .string ⟨#[]⟩, .int .i64 0, .slice none 0 0, .slice none 0 0, .slice none 0 0] 45)
  have g0 := (Gr.refl rb W).alloc (.cells #[.int .i64 0, .string ⟨#[]⟩, .int .i64 0, .slice none 0 0, .slice none 0 0, .slice none 0 0] 45)
  have z0 : (W.alloc (.cells #[.int .i64 0, .string ⟨#[]⟩, .int .i64 0, .slice none 0 0, .slice none 0 0, .slice none 0 0] 45)).heap.size = W.heap.size + 1 := by simp
  clear h HS
  go_enter Tryd.func57, Tryd.ntmps57
  go_upto_region 1 with fail
  obtain ⟨w0, hw0⟩ : ∃ W1, W.alloc (.cells #[.int .i64 0, .string ⟨#[]⟩, .int .i64 0, .slice none 0 0, .slice none 0 0, .slice none 0 0] 45) = W1 := ⟨_, rfl⟩
  rw [hw0] at h0 B6 g0 z0 ⊢
  clear hw0
  go_upto_region 3 with (first
    | (go_at_call 56; ((with_reducible refine (HN.out _ h0).mono ?_); rintro e wn ⟨rfl, en⟩; have hn := h0.below en))
    | (go_at_call 72; ((with_reducible refine (HSS.out _ hn).mono ?_); rintro e1 w1 ⟨⟨vv, rfl, vl, vx, vy, rfl, hvl, hvx, hvy, hok⟩, ⟨i1, h1, hd1⟩, g1⟩; obtain ⟨A1, k1, el1, _⟩ := id hvl; obtain ⟨A2, k2, el2, _⟩ := id hvx; obtain ⟨A3, k3, el3, _⟩ := id hvy; subst el1; subst el2; subst el3)))
  have zn := en.size
  have gn := g0.trans (Gr.of en)
  have B6 := (en.block _ (lt_heap B6)).trans B6
  have z1 := g1.size
  have h2 := h1.alloc (.cells #[.int .i64 t.op, .string t.s, .int .i64 t.n, .slice A1 t.l.len k1, .slice A2 t.x.len k2, .slice A3 t.y.len k3] 45)
  have B7 := heap_alloc_new w1 (.cells #[.int .i64 t.op, .string t.s, .int .i64 t.n, .slice A1 t.l.len k1, .slice A2 t.x.len k2, .slice A3 t.y.len k3] 45)
  have g2 := (gn.trans g1).alloc (.cells #[.int .i64 t.op, .string t.s, .int .i64 t.n, .slice A1 t.l.len k1, .slice A2 t.x.len k2, .slice A3 t.y.len k3] 45)
  have z2 : (w1.alloc (.cells #[.int .i64 t.op, .string t.s, .int .i64 t.n, .slice A1 t.l.len k1, .slice A2 t.x.len k2, .slice A3 t.y.len k3] 45)).heap.size = w1.heap.size + 1 := by simp
  have HA := Lib.hid (fun k hk => Below.heap_alloc w1 (.cells #[.int .i64 t.op, .string t.s, .int .i64 t.n, .slice A1 t.l.len k1, .slice A2 t.x.len k2, .slice A3 t.y.len k3] 45) k hk)
  have B8 := (Below.heap_alloc w1 (.cells #[.int .i64 t.op, .string t.s, .int .i64 t.n, .slice A1 t.l.len k1, .slice A2 t.x.len k2, .slice A3 t.y.len k3] 45) W.heap.size (by omega)).trans ((g1.block (k := W.heap.size) (by omega) (by omega)).trans B6)
  obtain ⟨w2, hw2⟩ : ∃ W1, w1.alloc (.cells #[.int .i64 t.op, .string t.s, .int .i64 t.n, .slice A1 t.l.len k1, .slice A2 t.x.len k2, .slice A3 t.y.len k3] 45) = W1 := ⟨_, rfl⟩
  rw [hw2] at h2 B7 g2 HA B8 z2 ⊢
  clear hw2
  obtain ⟨n3, hn3⟩ : ∃ n3, w1.heap.size = n3 := ⟨_, rfl⟩
  rw [hn3] at B7 z2 z1 HA ⊢
  have hK1 : Kp wn.heap.size w1 w2 := ⟨by omega, fun k hk hl => HA.out k (by omega)⟩
  have hL := hvl.kp hK1 (Nat.le_refl _)
  have hX := hvx.kp hK1 (Nat.le_refl _)
  have hY := hvy.kp hK1 (Nat.le_refl _)
  have hK2 : Kp wn.heap.size w2 (w2.alloc (.cells #[.int .i64 t.op, .string t.s, .int .i64 t.n, .slice A1 t.l.len k1, .slice A2 t.x.len k2, .slice A3 t.y.len k3] 45)) := Kp.below ((Below.refl _ _).alloc (Nat.le_refl _) _)
  have HDE := depth_any _ _ _ _ (Nat.le_refl _) (pg_one (sx_one (heap_alloc_new w2 (.cells #[.int .i64 t.op, .string t.s, .int .i64 t.n, .slice A1 t.l.len k1, .slice A2 t.x.len k2, .slice A3 t.y.len k3] 45)) (show wn.heap.size ≤ w2.heap.size by omega) (hL.kp hK2 (Nat.le_refl _)) (hX.kp hK2 (Nat.le_refl _)) (hY.kp hK2 (Nat.le_refl _)) hok).sv rfl)
  simp only [Pg.pts, fsPts, List.nil_append, SS.deepL, hD] at HDE
  rw [z2] at HDE
  have HDE := Lib.hid HDE
  have B9 := (Below.heap_alloc w2 (.cells #[.int .i64 t.op, .string t.s, .int .i64 t.n, .slice A1 t.l.len k1, .slice A2 t.x.len k2, .slice A3 t.y.len k3] 45) n3 (lt_heap B7)).trans B7
  have B10 := (Below.heap_alloc w2 (.cells #[.int .i64 t.op, .string t.s, .int .i64 t.n, .slice A1 t.l.len k1, .slice A2 t.x.len k2, .slice A3 t.y.len k3] 45) W.heap.size (lt_heap B8)).trans B8
  have q0 := box_cell B7 0
  have q1 := box_cell B7 1
  have q2 := box_cell B7 2
  have q3 := box_cell B7 3
  have q4 := box_cell B7 4
  have q5 := box_cell B7 5
  simp only [List.getElem?_toArray, List.getElem?_cons_succ, List.getElem?_cons_zero] at q0 q1 q2 q3 q4 q5
  go_wp2_with (go_at_call 29; ((with_reducible refine HDE.out.mono ?_); rintro e2 w5 ⟨rfl, e5⟩))
  exact ⟨rfl, rfl, (g2.trans (Gr.of ((Below.refl w2.heap.size w2).alloc (Nat.le_refl _) _))).trans (Gr.of e5)⟩

set_option maxRecDepth 100000 in
theorem ou_ok {W : World} {rb g N cT i o : Nat} {T : List Tok} (h : Rd W rb g N cT T i o) (t : Sm) (r : List Tok)
    (HS : ∀ W2, Rd W2 rb g N cT T i o → Calls Tryd.prog 72 #[.pointer (some ⟨rb, 0, none⟩)] W2 (TP rb g N cT o T W2 (.ok t r))) (hdeep : ¬ 64 < (toSS t .nil).deep) :
    Calls Tryd.prog 57 #[.pointer (some ⟨rb, 0, none⟩)] W (TP rb g N cT o T W (.ok t r)) := by
  have HSS := Lib.hid HS
  have HN := Lib.hid (fun W1 (h1 : Rd W1 rb g N cT T i o) => now_any h1 _ rfl)
  obtain ⟨tk, htk⟩ : ∃ tk, hdT (T.drop i) = tk := ⟨_, rfl⟩
  rw [htk] at HN
  clear htk
  obtain ⟨D, hD⟩ : ∃ D, (toSS t .nil).deep = D := ⟨_, rfl⟩
  rw [hD] at hdeep
  have d1 : decide ((64 : Int) < D) = false := decide_eq_false hdeep
  clear hdeep
  have hrl := h.rlt
  have hgl := h.tok.1
  have h0 := h.alloc (.cells #[.int .i64 0, .string ⟨#[]⟩, .int .i64 0, .slice none 0 0, .slice none 0 0, .slice none 0 0] 45)
  have B6 := heap_alloc_new W (.cells #[.int .i64 0, .string ⟨#[]⟩, .int .i64 0, .slice none 0 0, .slice none 0 0, .slice none 0 0] 45)
  have g0 := (Gr.refl rb W).alloc (.cells #[.int .i64 0, .string ⟨#[]⟩, .int .i64 0, .slice none 0 0, .slice none 0 0, .slice none 0 0] 45)
  have z0 : (W.alloc (.cells #[.int .i64 0, .string ⟨#[]⟩, .int .i64 0, .slice none 0 0, .slice none 0 0, .slice none 0 0] 45)).heap.size = W.heap.size + 1 := by simp
  clear h HS
  go_enter Tryd.func57, Tryd.ntmps57
  go_upto_region 1 with fail
  obtain ⟨w0, hw0⟩ : ∃ W1, W.alloc (.cells #[.int .i64 0, .string ⟨#[]⟩, .int .i64 0, .slice none 0 0, .slice none 0 0, .slice none 0 0] 45) = W1 := ⟨_, rfl⟩
  rw [hw0] at h0 B6 g0 z0 ⊢
  clear hw0
  go_upto_region 3 with (first
    | (go_at_call 56; ((with_reducible refine (HN.out _ h0).mono ?_); rintro e wn ⟨rfl, en⟩; have hn := h0.below en))
    | (go_at_call 72; ((with_reducible refine (HSS.out _ hn).mono ?_); rintro e1 w1 ⟨⟨vv, rfl, vl, vx, vy, rfl, hvl, hvx, hvy, hok⟩, ⟨i1, h1, hd1⟩, g1⟩; obtain ⟨A1, k1, el1, _⟩ := id hvl; obtain ⟨A2, k2, el2, _⟩ := id hvx; obtain ⟨A3, k3, el3, _⟩ := id hvy; subst el1; subst el2; subst el3)))
  have zn := en.size
  have gn := g0.trans (Gr.of en)
  have B6 := (en.block _ (lt_heap B6)).trans B6
  have z1 := g1.size
  have h2 := h1.alloc (.cells #[.int .i64 t.op, .string t.s, .int .i64 t.n, .slice A1 t.l.len k1, .slice A2 t.x.len k2, .slice A3 t.y.len k3] 45)
  have B7 := heap_alloc_new w1 (.cells #[.int .i64 t.op, .string t.s, .int .i64 t.n, .slice A1 t.l.len k1, .slice A2 t.x.len k2, .slice A3 t.y.len k3] 45)
  have g2 := (gn.trans g1).alloc (.cells #[.int .i64 t.op, .string t.s, .int .i64 t.n, .slice A1 t.l.len k1, .slice A2 t.x.len k2, .slice A3 t.y.len k3] 45)
  have z2 : (w1.alloc (.cells #[.int .i64 t.op, .string t.s, .int .i64 t.n, .slice A1 t.l.len k1, .slice A2 t.x.len k2, .slice A3 t.y.len k3] 45)).heap.size = w1.heap.size + 1 := by simp
  have HA := Lib.hid (fun k hk => Below.heap_alloc w1 (.cells #[.int .i64 t.op, .string t.s, .int .i64 t.n, .slice A1 t.l.len k1, .slice A2 t.x.len k2, .slice A3 t.y.len k3] 45) k hk)
  have B8 := (Below.heap_alloc w1 (.cells #[.int .i64 t.op, .string t.s, .int .i64 t.n, .slice A1 t.l.len k1, .slice A2 t.x.len k2, .slice A3 t.y.len k3] 45) W.heap.size (by omega)).trans ((g1.block (k := W.heap.size) (by omega) (by omega)).trans B6)
  obtain ⟨w2, hw2⟩ : ∃ W1, w1.alloc (.cells #[.int .i64 t.op, .string t.s, .int .i64 t.n, .slice A1 t.l.len k1, .slice A2 t.x.len k2, .slice A3 t.y.len k3] 45) = W1 := ⟨_, rfl⟩
  rw [hw2] at h2 B7 g2 HA B8 z2 ⊢
  clear hw2
  obtain ⟨n3, hn3⟩ : ∃ n3, w1.heap.size = n3 := ⟨_, rfl⟩
  rw [hn3] at B7 z2 z1 HA ⊢
  have hK1 : Kp wn.heap.size w1 w2 := ⟨by omega, fun k hk hl => HA.out k (by omega)⟩
  have hL := hvl.kp hK1 (Nat.le_refl _)
  have hX := hvx.kp hK1 (Nat.le_refl _)
  have hY := hvy.kp hK1 (Nat.le_refl _)
  have hK2 : Kp wn.heap.size w2 (w2.alloc (.cells #[.int .i64 t.op, .string t.s, .int .i64 t.n, .slice A1 t.l.len k1, .slice A2 t.x.len k2, .slice A3 t.y.len k3] 45)) := Kp.below ((Below.refl _ _).alloc (Nat.le_refl _) _)
  have HDE := depth_any _ _ _ _ (Nat.le_refl _) (pg_one (sx_one (heap_alloc_new w2 (.cells #[.int .i64 t.op, .string t.s, .int .i64 t.n, .slice A1 t.l.len k1, .slice A2 t.x.len k2, .slice A3 t.y.len k3] 45)) (show wn.heap.size ≤ w2.heap.size by omega) (hL.kp hK2 (Nat.le_refl _)) (hX.kp hK2 (Nat.le_refl _)) (hY.kp hK2 (Nat.le_refl _)) hok).sv rfl)
  simp only [Pg.pts, fsPts, List.nil_append, SS.deepL, hD] at HDE
  rw [z2] at HDE
  have HDE := Lib.hid HDE
  have B9 := (Below.heap_alloc w2 (.cells #[.int .i64 t.op, .string t.s, .int .i64 t.n, .slice A1 t.l.len k1, .slice A2 t.x.len k2, .slice A3 t.y.len k3] 45) n3 (lt_heap B7)).trans B7
  have B10 := (Below.heap_alloc w2 (.cells #[.int .i64 t.op, .string t.s, .int .i64 t.n, .slice A1 t.l.len k1, .slice A2 t.x.len k2, .slice A3 t.y.len k3] 45) W.heap.size (lt_heap B8)).trans B8
  have q0 := box_cell B7 0
  have q1 := box_cell B7 1
  have q2 := box_cell B7 2
  have q3 := box_cell B7 3
  have q4 := box_cell B7 4
  have q5 := box_cell B7 5
  simp only [List.getElem?_toArray, List.getElem?_cons_succ, List.getElem?_cons_zero] at q0 q1 q2 q3 q4 q5
  go_upto_region 5 with (go_at_call 29; ((with_reducible refine HDE.out.mono ?_); rintro e2 w5 ⟨rfl, e5⟩))
  have z5 := e5.size
  rw [World.size_alloc] at z5
  have B7 := (e5.block _ (lt_heap B9)).trans B9
  have B8 := (e5.block _ (lt_heap B10)).trans B10
  have h5 := (h2.alloc (.cells #[.int .i64 t.op, .string t.s, .int .i64 t.n, .slice A1 t.l.len k1, .slice A2 t.x.len k2, .slice A3 t.y.len k3] 45)).below e5
  have g5 := (g2.alloc (.cells #[.int .i64 t.op, .string t.s, .int .i64 t.n, .slice A1 t.l.len k1, .slice A2 t.x.len k2, .slice A3 t.y.len k3] 45)).trans (Gr.of e5)
  have hL := (hL.kp hK2 (Nat.le_refl _)).kp (Kp.below e5) (Nat.le_refl _)
  have hX := (hX.kp hK2 (Nat.le_refl _)).kp (Kp.below e5) (Nat.le_refl _)
  have hY := (hY.kp hK2 (Nat.le_refl _)).kp (Kp.below e5) (Nat.le_refl _)
  clear q0 q1 q2 q3 q4 q5
  have c0 := box_cell B8 0
  have f0 := box_frozen B8 0
  have d0 := box_cell B7 0
  have c1 := box_cell B8 1
  have f1 := box_frozen B8 1
  have d1 := box_cell B7 1
  have c2 := box_cell B8 2
  have f2 := box_frozen B8 2
  have d2 := box_cell B7 2
  have c3 := box_cell B8 3
  have f3 := box_frozen B8 3
  have d3 := box_cell B7 3
  have c4 := box_cell B8 4
  have f4 := box_frozen B8 4
  have d4 := box_cell B7 4
  have c5 := box_cell B8 5
  have f5 := box_frozen B8 5
  have d5 := box_cell B7 5
  simp only [List.getElem?_toArray, List.getElem?_cons_succ, List.getElem?_cons_zero] at c0 d0 c1 d1 c2 d2 c3 d3 c4 d4 c5 d5
  have hP := put6_heap (a := .int .i64 t.op) (b := .string t.s) (c := .int .i64 t.n) (d := .slice A1 t.l.len k1) (x := .slice A2 t.x.len k2) (y := .slice A3 t.y.len k3) B8
  have hfin : TP rb g N cT o T W (.ok t r) (.returned (.agg #[.int .i64 t.op, .string t.s, .int .i64 t.n, .slice A1 t.l.len k1, .slice A2 t.x.len k2, .slice A3 t.y.len k3])) (Proofs.YtaajolemjgdfnaaDoor.put6 w5 W.heap.size (.int .i64 t.op) (.string t.s) (.int .i64 t.n) (.slice A1 t.l.len k1) (.slice A2 t.x.len k2) (.slice A3 t.y.len k3)) :=
    ⟨⟨_, rfl, _, _, _, rfl, hL.kp (Kp.put6 (by omega)) (by omega), hX.kp (Kp.put6 (by omega)) (by omega), hY.kp (Kp.put6 (by omega)) (by omega), hok⟩, ⟨i1, h5.put6 (by omega) (by omega), hd1⟩, g5.put6 (Nat.le_refl _)⟩
  go_wp2
  obtain ⟨wz, hwz⟩ : ∃ W5, (Proofs.YtaajolemjgdfnaaDoor.put6 w5 W.heap.size (.int .i64 t.op) (.string t.s) (.int .i64 t.n) (.slice A1 t.l.len k1) (.slice A2 t.x.len k2) (.slice A3 t.y.len k3)) = W5 := ⟨_, rfl⟩
  show bodyPost _ _ _ _ _ (Proofs.YtaajolemjgdfnaaDoor.put6 w5 W.heap.size (.int .i64 t.op) (.string t.s) (.int .i64 t.n) (.slice A1 t.l.len k1) (.slice A2 t.x.len k2) (.slice A3 t.y.len k3))
  rw [hwz] at hP hfin ⊢
  have p0 := box_cell hP 0
  have p1 := box_cell hP 1
  have p2 := box_cell hP 2
  have p3 := box_cell hP 3
  have p4 := box_cell hP 4
  have p5 := box_cell hP 5
  simp only [List.getElem?_toArray, List.getElem?_cons_succ, List.getElem?_cons_zero] at p0 p1 p2 p3 p4 p5
  exact bodyPost_ret (v := .agg #[.int .i64 t.op, .string t.s, .int .i64 t.n, .slice A1 t.l.len k1, .slice A2 t.x.len k2, .slice A3 t.y.len k3]) (by simp [results, Tryd.results57, go_sem, p0, p1, p2, p3, p4, p5]) rfl hfin

/-- A statement that stands in no other one, whole. -/
theorem outerS_any {W : World} {rb g N cT i o : Nat} {T : List Tok} (h : Rd W rb g N cT T i o) (n : Nat) (hx : outerT n o (T.drop i) ≠ .out) :
    Calls Tryd.prog 57 #[.pointer (some ⟨rb, 0, none⟩)] W (TP rb g N cT o T W (outerT n o (T.drop i))) := by
  unfold outerT at hx ⊢
  have hne : smT n o (T.drop i) ≠ .out := fun e => by rw [e] at hx; exact hx rfl
  have HX := fun W2 (h2 : Rd W2 rb g N cT T i o) => stmt_any n W2 i o h2 hne
  cases hv : smT n o (T.drop i) with
  | out => exact absurd hv hne
  | bad p c => rw [hv] at HX; exact ou_bad h p c HX
  | ok t r =>
    rw [hv] at HX
    simp only [PR.bind]
    by_cases hd : 64 < (toSS t .nil).deep
    · rw [if_pos hd]; exact ou_deep h t r HX hd
    · rw [if_neg hd]; exact ou_ok h t r HX hd

end Go.Proofs.YtaajolemjgdfnaaDoor

/-
  Package parse: a function.
-/
namespace Go.Proofs.YtaajolemjgdfnaaDoor
open Go Go.RowKit Go.Lib

/-- A function's value. -/
def WV (lo : Nat) (W : World) (v : Value) (q : Fn) : Prop := ∃ vp vb, v = .agg #[.string q.s, vp, vb] ∧ NX lo W vp q.ps ∧ SX lo W vb q.b ∧ q.s.size ≤ 9223372036854775807
theorem WV.kp {lo lo' : Nat} {W W' : World} {v : Value} {q : Fn} (hv : WV lo W v q) (h : Kp lo W W') (hl : lo' ≤ lo) : WV lo' W' v q := by
  obtain ⟨vp, vb, e, h1, h2, h3⟩ := hv
  exact ⟨vp, vb, e, h1.kp h hl, h2.kp h hl, h3⟩
/-- What a call that reads a function has done. -/
def FP (rb g N cT : Nat) (T : List Tok) (W : World) (x : PR Fn) (e : Ending) (W' : World) : Prop :=
  match x with
  | .ok v r => (∃ vv, e = .returned vv ∧ WV W.heap.size W' vv v) ∧ (∃ i, Rd W' rb g N cT T i 0 ∧ T.drop i = r) ∧ Gr rb W W'
  | .bad p c => e = flt p c ∧ Gr rb W W'
  | .out => True
/-- Three cells that are stored one behind the other. -/
def put3 (W : World) (n : Nat) (a b c : Value) : World := ((W.setCell ⟨n, 0, none⟩ a).setCell ⟨n, 1, none⟩ b).setCell ⟨n, 2, none⟩ c
section
variable {W W' : World} {rb g N cT i o n lo : Nat} {T : List Tok} {a b c : Value}
theorem Rd.put3 (h : Rd W rb g N cT T i o) (hb : n ≠ rb) (hg : n ≠ g) : Rd (put3 W n a b c) rb g N cT T i o := ((h.set a hb hg).set b hb hg).set c hb hg
theorem Gr.put3 (h : Gr rb W W') (hb : W.heap.size ≤ n) : Gr rb W (put3 W' n a b c) := ((h.setNew a hb).setNew b hb).setNew c hb
theorem Kp.put3 (hb : n < lo) : Kp lo W (put3 W n a b c) := ((Kp.set a hb).trans (Kp.set b hb)).trans (Kp.set c hb)
theorem put3_heap {p q r : Value} {t : TypeId} (h : W.heap[n]? = some (.cells #[p, q, r] t)) : (put3 W n a b c).heap[n]? = some (.cells #[a, b, c] t) := by
  simp [Proofs.YtaajolemjgdfnaaDoor.put3, World.setCell, Array.getElem?_modify, h]
theorem set3_at {p q r x : Value} {t : TypeId} (h : W.heap[n]? = some (.cells #[p, q, r] t)) :
    (W.setCell ⟨n, 1, none⟩ x).heap[n]? = some (.cells #[p, x, r] t) ∧ (W.setCell ⟨n, 2, none⟩ x).heap[n]? = some (.cells #[p, q, x] t) := by
  refine ⟨?_, ?_⟩ <;> simp [World.setCell, Array.getElem?_modify, h]
end

set_option maxRecDepth 100000 in
theorem fn_want {W : World} {rb g N cT i : Nat} {T : List Tok} (h : Rd W rb g N cT T i 0) (b1 : isT (T.drop i) [102, 117, 110, 99] = false) :
    Calls Tryd.prog 55 #[.pointer (some ⟨rb, 0, none⟩)] W (FP rb g N cT T W (.bad (hdT (T.drop i)).at_ 2)) := by
  have HW := Lib.hid (fun w2 (h2 : Rd w2 rb g N cT T i 0) => (show Calls Tryd.prog 68 #[.pointer (some ⟨rb, 0, none⟩), .string ⟨#[102, 117, 110, 99]⟩] w2 (fun e w' => e = flt (hdT (T.drop i)).at_ 2 ∧ Below w2.heap.size w2 w') from want_no h2 [102, 117, 110, 99] b1 _ rfl))
  have hrl := h.rlt
  have hgl := h.tok.1
  have h0 := h.alloc (.cells #[.string ⟨#[]⟩, .slice none 0 0, .slice none 0 0] 37)
  have B6 := heap_alloc_new W (.cells #[.string ⟨#[]⟩, .slice none 0 0, .slice none 0 0] 37)
  have g0 := (Gr.refl rb W).alloc (.cells #[.string ⟨#[]⟩, .slice none 0 0, .slice none 0 0] 37)
  have z0 : (W.alloc (.cells #[.string ⟨#[]⟩, .slice none 0 0, .slice none 0 0] 37)).heap.size = W.heap.size + 1 := by simp
  clear h b1
  go_enter Tryd.func55, Tryd.ntmps55
  go_upto_region 1 with fail
  obtain ⟨w0, hw0⟩ : ∃ W1, W.alloc (.cells #[.string ⟨#[]⟩, .slice none 0 0, .slice none 0 0] 37) = W1 := ⟨_, rfl⟩
  rw [hw0] at h0 B6 g0 z0 ⊢
  clear hw0
  go_wp2_with (go_at_call 68; ((with_reducible refine (HW.out _ h0).mono ?_); rintro e w1 ⟨rfl, e1⟩))
  exact ⟨rfl, rfl, g0.trans (Gr.of e1)⟩

set_option maxRecDepth 100000 in
theorem fn_name {W : World} {rb g N cT i : Nat} {T : List Tok} (h : Rd W rb g N cT T i 0) (b1 : isT (T.drop i) [102, 117, 110, 99] = true) (p c : Nat) (hv : nameT (T.drop (i + 1)) = .bad p c) :
    Calls Tryd.prog 55 #[.pointer (some ⟨rb, 0, none⟩)] W (FP rb g N cT T W (.bad p c)) := by
  have HW := Lib.hid (fun w2 (h2 : Rd w2 rb g N cT T i 0) => (show Calls Tryd.prog 68 #[.pointer (some ⟨rb, 0, none⟩), .string ⟨#[102, 117, 110, 99]⟩] w2 (fun e w' => e = .returned (.tuple #[]) ∧ Rd w' rb g N cT T (i + 1) 0 ∧ Gr rb w2 w') from want_yes h2 [102, 117, 110, 99] (by decide) b1))
  have HN := Lib.hid (fun W1 (h1 : Rd W1 rb g N cT T (i + 1) 0) => (show Calls Tryd.prog 69 #[.pointer (some ⟨rb, 0, none⟩)] W1 (NP rb g N cT 0 T W1 (.bad p c)) from hv ▸ nam_any h1))
  have hrl := h.rlt
  have hgl := h.tok.1
  have h0 := h.alloc (.cells #[.string ⟨#[]⟩, .slice none 0 0, .slice none 0 0] 37)
  have B6 := heap_alloc_new W (.cells #[.string ⟨#[]⟩, .slice none 0 0, .slice none 0 0] 37)
  have g0 := (Gr.refl rb W).alloc (.cells #[.string ⟨#[]⟩, .slice none 0 0, .slice none 0 0] 37)
  have z0 : (W.alloc (.cells #[.string ⟨#[]⟩, .slice none 0 0, .slice none 0 0] 37)).heap.size = W.heap.size + 1 := by simp
  clear h b1 hv
  go_enter Tryd.func55, Tryd.ntmps55
  go_upto_region 1 with fail
  obtain ⟨w0, hw0⟩ : ∃ W1, W.alloc (.cells #[.string ⟨#[]⟩, .slice none 0 0, .slice none 0 0] 37) = W1 := ⟨_, rfl⟩
  rw [hw0] at h0 B6 g0 z0 ⊢
  clear hw0
  go_wp2_with (first
    | (go_at_call 68; ((with_reducible refine (HW.out _ h0).mono ?_); rintro e wn ⟨rfl, hn, gn⟩))
    | (go_at_call 69; ((with_reducible refine (HN.out _ hn).mono ?_); rintro e w1 ⟨rfl, g1⟩)))
  exact ⟨rfl, rfl, g0.trans (gn.trans g1)⟩

set_option maxRecDepth 100000 in
theorem fn_sev {W : World} {rb g N cT i : Nat} {T : List Tok} (h : Rd W rb g N cT T i 0) (b1 : isT (T.drop i) [102, 117, 110, 99] = true) (s : ByteArray) (r1 : List Tok) (hv : nameT (T.drop (i + 1)) = .ok s r1) (p c : Nat)
    (HV : ∀ W2 i', Rd W2 rb g N cT T i' 0 → T.drop i' = r1 → Calls Tryd.prog 70 #[.pointer (some ⟨rb, 0, none⟩), .func (.func 69) #[.pointer (some ⟨rb, 0, none⟩)] #[]] W2 (MP rb g N cT 0 T W2 (.bad p c))) :
    Calls Tryd.prog 55 #[.pointer (some ⟨rb, 0, none⟩)] W (FP rb g N cT T W (.bad p c)) := by
  have HW := Lib.hid (fun w2 (h2 : Rd w2 rb g N cT T i 0) => (show Calls Tryd.prog 68 #[.pointer (some ⟨rb, 0, none⟩), .string ⟨#[102, 117, 110, 99]⟩] w2 (fun e w' => e = .returned (.tuple #[]) ∧ Rd w' rb g N cT T (i + 1) 0 ∧ Gr rb w2 w') from want_yes h2 [102, 117, 110, 99] (by decide) b1))
  have HN := Lib.hid (fun W1 (h1 : Rd W1 rb g N cT T (i + 1) 0) => (show Calls Tryd.prog 69 #[.pointer (some ⟨rb, 0, none⟩)] W1 (NP rb g N cT 0 T W1 (.ok s r1)) from hv ▸ nam_any h1))
  have HVV := Lib.hid HV
  have hrl := h.rlt
  have hgl := h.tok.1
  have h0 := h.alloc (.cells #[.string ⟨#[]⟩, .slice none 0 0, .slice none 0 0] 37)
  have B6 := heap_alloc_new W (.cells #[.string ⟨#[]⟩, .slice none 0 0, .slice none 0 0] 37)
  have g0 := (Gr.refl rb W).alloc (.cells #[.string ⟨#[]⟩, .slice none 0 0, .slice none 0 0] 37)
  have z0 : (W.alloc (.cells #[.string ⟨#[]⟩, .slice none 0 0, .slice none 0 0] 37)).heap.size = W.heap.size + 1 := by simp
  clear h b1 hv HV
  go_enter Tryd.func55, Tryd.ntmps55
  go_upto_region 1 with fail
  obtain ⟨w0, hw0⟩ : ∃ W1, W.alloc (.cells #[.string ⟨#[]⟩, .slice none 0 0, .slice none 0 0] 37) = W1 := ⟨_, rfl⟩
  rw [hw0] at h0 B6 g0 z0 ⊢
  clear hw0
  go_upto_region 3 with (first
    | (go_at_call 68; ((with_reducible refine (HW.out _ h0).mono ?_); rintro e wn ⟨rfl, hn, gn⟩))
    | (go_at_call 69; ((with_reducible refine (HN.out _ hn).mono ?_); rintro e w1 ⟨rfl, ⟨i1, h1, hd1⟩, g1, hsz⟩)))
  have zn := gn.size
  have z1 := g1.size
  have h2 := h1.alloc (.cells #[.string s, .slice none 0 0, .slice none 0 0] 37)
  have B7 := heap_alloc_new w1 (.cells #[.string s, .slice none 0 0, .slice none 0 0] 37)
  have g2 := ((g0.trans gn).trans g1).alloc (.cells #[.string s, .slice none 0 0, .slice none 0 0] 37)
  have z2 : (w1.alloc (.cells #[.string s, .slice none 0 0, .slice none 0 0] 37)).heap.size = w1.heap.size + 1 := by simp
  have B8 := (Below.heap_alloc w1 (.cells #[.string s, .slice none 0 0, .slice none 0 0] 37) W.heap.size (by omega)).trans ((g1.block (k := W.heap.size) (by omega) (by omega)).trans ((gn.block (k := W.heap.size) (by omega) (by omega)).trans B6))
  obtain ⟨w2, hw2⟩ : ∃ W1, w1.alloc (.cells #[.string s, .slice none 0 0, .slice none 0 0] 37) = W1 := ⟨_, rfl⟩
  rw [hw2] at h2 B7 g2 B8 z2 ⊢
  clear hw2
  obtain ⟨n3, hn3⟩ : ∃ n3, w1.heap.size = n3 := ⟨_, rfl⟩
  rw [hn3] at B7 z2 z1 ⊢
  go_wp2_with (go_at_call 70; ((with_reducible refine (HVV.out _ i1 h2 hd1).mono ?_); rintro e w5 ⟨rfl, g5⟩))
  exact ⟨rfl, rfl, g2.trans g5⟩

set_option maxRecDepth 100000 in
theorem fn_blk {W : World} {rb g N cT i : Nat} {T : List Tok} (h : Rd W rb g N cT T i 0) (b1 : isT (T.drop i) [102, 117, 110, 99] = true) (s : ByteArray) (r1 : List Tok) (hv : nameT (T.drop (i + 1)) = .ok s r1) (ps : List ByteArray) (r2 : List Tok)
    (HV : ∀ W2 i', Rd W2 rb g N cT T i' 0 → T.drop i' = r1 → Calls Tryd.prog 70 #[.pointer (some ⟨rb, 0, none⟩), .func (.func 69) #[.pointer (some ⟨rb, 0, none⟩)] #[]] W2 (MP rb g N cT 0 T W2 (.ok ps r2))) (p c : Nat)
    (HB : ∀ W2 i', Rd W2 rb g N cT T i' 0 → T.drop i' = r2 → Calls Tryd.prog 71 #[.pointer (some ⟨rb, 0, none⟩), .func (.func 57) #[.pointer (some ⟨rb, 0, none⟩)] #[]] W2 (BP rb g N cT 0 T W2 (.bad p c))) :
    Calls Tryd.prog 55 #[.pointer (some ⟨rb, 0, none⟩)] W (FP rb g N cT T W (.bad p c)) := by
  have HW := Lib.hid (fun w2 (h2 : Rd w2 rb g N cT T i 0) => (show Calls Tryd.prog 68 #[.pointer (some ⟨rb, 0, none⟩), .string ⟨#[102, 117, 110, 99]⟩] w2 (fun e w' => e = .returned (.tuple #[]) ∧ Rd w' rb g N cT T (i + 1) 0 ∧ Gr rb w2 w') from want_yes h2 [102, 117, 110, 99] (by decide) b1))
  have HN := Lib.hid (fun W1 (h1 : Rd W1 rb g N cT T (i + 1) 0) => (show Calls Tryd.prog 69 #[.pointer (some ⟨rb, 0, none⟩)] W1 (NP rb g N cT 0 T W1 (.ok s r1)) from hv ▸ nam_any h1))
  have HVV := Lib.hid HV
  have HBB := Lib.hid HB
  have hrl := h.rlt
  have hgl := h.tok.1
  have h0 := h.alloc (.cells #[.string ⟨#[]⟩, .slice none 0 0, .slice none 0 0] 37)
  have B6 := heap_alloc_new W (.cells #[.string ⟨#[]⟩, .slice none 0 0, .slice none 0 0] 37)
  have g0 := (Gr.refl rb W).alloc (.cells #[.string ⟨#[]⟩, .slice none 0 0, .slice none 0 0] 37)
  have z0 : (W.alloc (.cells #[.string ⟨#[]⟩, .slice none 0 0, .slice none 0 0] 37)).heap.size = W.heap.size + 1 := by simp
  clear h b1 hv HV HB
  go_enter Tryd.func55, Tryd.ntmps55
  go_upto_region 1 with fail
  obtain ⟨w0, hw0⟩ : ∃ W1, W.alloc (.cells #[.string ⟨#[]⟩, .slice none 0 0, .slice none 0 0] 37) = W1 := ⟨_, rfl⟩
  rw [hw0] at h0 B6 g0 z0 ⊢
  clear hw0
  go_upto_region 3 with (first
    | (go_at_call 68; ((with_reducible refine (HW.out _ h0).mono ?_); rintro e wn ⟨rfl, hn, gn⟩))
    | (go_at_call 69; ((with_reducible refine (HN.out _ hn).mono ?_); rintro e w1 ⟨rfl, ⟨i1, h1, hd1⟩, g1, hsz⟩)))
  have zn := gn.size
  have z1 := g1.size
  have h2 := h1.alloc (.cells #[.string s, .slice none 0 0, .slice none 0 0] 37)
  have B7 := heap_alloc_new w1 (.cells #[.string s, .slice none 0 0, .slice none 0 0] 37)
  have g2 := ((g0.trans gn).trans g1).alloc (.cells #[.string s, .slice none 0 0, .slice none 0 0] 37)
  have z2 : (w1.alloc (.cells #[.string s, .slice none 0 0, .slice none 0 0] 37)).heap.size = w1.heap.size + 1 := by simp
  have B8 := (Below.heap_alloc w1 (.cells #[.string s, .slice none 0 0, .slice none 0 0] 37) W.heap.size (by omega)).trans ((g1.block (k := W.heap.size) (by omega) (by omega)).trans ((gn.block (k := W.heap.size) (by omega) (by omega)).trans B6))
  obtain ⟨w2, hw2⟩ : ∃ W1, w1.alloc (.cells #[.string s, .slice none 0 0, .slice none 0 0] 37) = W1 := ⟨_, rfl⟩
  rw [hw2] at h2 B7 g2 B8 z2 ⊢
  clear hw2
  obtain ⟨n3, hn3⟩ : ∃ n3, w1.heap.size = n3 := ⟨_, rfl⟩
  rw [hn3] at B7 z2 z1 ⊢
  have HB7 := Lib.hid (fun w5 (g5 : Gr rb w2 w5) => (g5.block (lt_heap B7) (by omega)).trans B7)
  have HB8 := Lib.hid (fun w5 (g5 : Gr rb w2 w5) => (g5.block (lt_heap B8) (by omega)).trans B8)
  go_upto_region 4 with (go_at_call 70; ((with_reducible refine (HVV.out _ i1 h2 hd1).mono ?_); rintro e w5 ⟨⟨vv, rfl, hvp⟩, ⟨i5, h5, hd5⟩, g5⟩; obtain ⟨Ap, cp, el, _⟩ := id hvp; subst el; have c1 := box_cell (HB7.out w5 g5) 1; have f1 := box_frozen (HB7.out w5 g5) 1; simp only [List.getElem?_toArray, List.getElem?_cons_succ, List.getElem?_cons_zero] at c1))
  have z5 := g5.size
  have hl7 := lt_heap (HB7.out w5 g5)
  have hl8 := lt_heap (HB8.out w5 g5)
  have h6 := h5.set (b := n3) (j := 1) (.slice Ap ps.length cp) (by omega) (by omega)
  have g6 := (g2.trans g5).setNew (j := 1) (.slice Ap ps.length cp) (show W.heap.size ≤ n3 by omega)
  have B7 := (set3_at (x := .slice Ap ps.length cp) (HB7.out w5 g5)).1
  have B8 := (Below.heap_setCell w5 ⟨n3, 1, none⟩ (.slice Ap ps.length cp) W.heap.size (show W.heap.size ≠ n3 by omega)).trans (HB8.out w5 g5)
  have HK1 := Lib.hid (fun k (hk : k ≠ n3) => Below.heap_setCell w5 ⟨n3, 1, none⟩ (.slice Ap ps.length cp) k hk)
  have zz1 : (w5.setCell ⟨n3, 1, none⟩ (.slice Ap ps.length cp)).heap.size = w5.heap.size := by simp
  obtain ⟨w6, hw6⟩ : ∃ W1, (w5.setCell ⟨n3, 1, none⟩ (.slice Ap ps.length cp)) = W1 := ⟨_, rfl⟩
  rw [hw6] at h6 g6 B7 B8 HK1 zz1 ⊢
  clear hw6
  clear c1 f1 HB7 HB8 h5
  have hl7 := lt_heap B7
  have hl8 := lt_heap B8
  go_wp2_with (go_at_call 71; ((with_reducible refine (HBB.out _ i5 h6 hd5).mono ?_); rintro e w7 ⟨rfl, g7⟩))
  exact ⟨rfl, rfl, g6.trans g7⟩

set_option maxRecDepth 100000 in
theorem fn_ok {W : World} {rb g N cT i : Nat} {T : List Tok} (h : Rd W rb g N cT T i 0) (b1 : isT (T.drop i) [102, 117, 110, 99] = true) (s : ByteArray) (r1 : List Tok) (hv : nameT (T.drop (i + 1)) = .ok s r1) (ps : List ByteArray) (r2 : List Tok)
    (HV : ∀ W2 i', Rd W2 rb g N cT T i' 0 → T.drop i' = r1 → Calls Tryd.prog 70 #[.pointer (some ⟨rb, 0, none⟩), .func (.func 69) #[.pointer (some ⟨rb, 0, none⟩)] #[]] W2 (MP rb g N cT 0 T W2 (.ok ps r2))) (l : List Sm) (r : List Tok)
    (HB : ∀ W2 i', Rd W2 rb g N cT T i' 0 → T.drop i' = r2 → Calls Tryd.prog 71 #[.pointer (some ⟨rb, 0, none⟩), .func (.func 57) #[.pointer (some ⟨rb, 0, none⟩)] #[]] W2 (BP rb g N cT 0 T W2 (.ok l r))) :
    Calls Tryd.prog 55 #[.pointer (some ⟨rb, 0, none⟩)] W (FP rb g N cT T W (.ok ⟨s, ps, smSS l⟩ r)) := by
  have HW := Lib.hid (fun w2 (h2 : Rd w2 rb g N cT T i 0) => (show Calls Tryd.prog 68 #[.pointer (some ⟨rb, 0, none⟩), .string ⟨#[102, 117, 110, 99]⟩] w2 (fun e w' => e = .returned (.tuple #[]) ∧ Rd w' rb g N cT T (i + 1) 0 ∧ Gr rb w2 w') from want_yes h2 [102, 117, 110, 99] (by decide) b1))
  have HN := Lib.hid (fun W1 (h1 : Rd W1 rb g N cT T (i + 1) 0) => (show Calls Tryd.prog 69 #[.pointer (some ⟨rb, 0, none⟩)] W1 (NP rb g N cT 0 T W1 (.ok s r1)) from hv ▸ nam_any h1))
  have HVV := Lib.hid HV
  have HBB := Lib.hid HB
  have hrl := h.rlt
  have hgl := h.tok.1
  have h0 := h.alloc (.cells #[.string ⟨#[]⟩, .slice none 0 0, .slice none 0 0] 37)
  have B6 := heap_alloc_new W (.cells #[.string ⟨#[]⟩, .slice none 0 0, .slice none 0 0] 37)
  have g0 := (Gr.refl rb W).alloc (.cells #[.string ⟨#[]⟩, .slice none 0 0, .slice none 0 0] 37)
  have z0 : (W.alloc (.cells #[.string ⟨#[]⟩, .slice none 0 0, .slice none 0 0] 37)).heap.size = W.heap.size + 1 := by simp
  clear h b1 hv HV HB
  go_enter Tryd.func55, Tryd.ntmps55
  go_upto_region 1 with fail
  obtain ⟨w0, hw0⟩ : ∃ W1, W.alloc (.cells #[.string ⟨#[]⟩, .slice none 0 0, .slice none 0 0] 37) = W1 := ⟨_, rfl⟩
  rw [hw0] at h0 B6 g0 z0 ⊢
  clear hw0
  go_upto_region 3 with (first
    | (go_at_call 68; ((with_reducible refine (HW.out _ h0).mono ?_); rintro e wn ⟨rfl, hn, gn⟩))
    | (go_at_call 69; ((with_reducible refine (HN.out _ hn).mono ?_); rintro e w1 ⟨rfl, ⟨i1, h1, hd1⟩, g1, hsz⟩)))
  have zn := gn.size
  have z1 := g1.size
  have h2 := h1.alloc (.cells #[.string s, .slice none 0 0, .slice none 0 0] 37)
  have B7 := heap_alloc_new w1 (.cells #[.string s, .slice none 0 0, .slice none 0 0] 37)
  have g2 := ((g0.trans gn).trans g1).alloc (.cells #[.string s, .slice none 0 0, .slice none 0 0] 37)
  have z2 : (w1.alloc (.cells #[.string s, .slice none 0 0, .slice none 0 0] 37)).heap.size = w1.heap.size + 1 := by simp
  have B8 := (Below.heap_alloc w1 (.cells #[.string s, .slice none 0 0, .slice none 0 0] 37) W.heap.size (by omega)).trans ((g1.block (k := W.heap.size) (by omega) (by omega)).trans ((gn.block (k := W.heap.size) (by omega) (by omega)).trans B6))
  obtain ⟨w2, hw2⟩ : ∃ W1, w1.alloc (.cells #[.string s, .slice none 0 0, .slice none 0 0] 37) = W1 := ⟨_, rfl⟩
  rw [hw2] at h2 B7 g2 B8 z2 ⊢
  clear hw2
  obtain ⟨n3, hn3⟩ : ∃ n3, w1.heap.size = n3 := ⟨_, rfl⟩
  rw [hn3] at B7 z2 z1 ⊢
  have HB7 := Lib.hid (fun w5 (g5 : Gr rb w2 w5) => (g5.block (lt_heap B7) (by omega)).trans B7)
  have HB8 := Lib.hid (fun w5 (g5 : Gr rb w2 w5) => (g5.block (lt_heap B8) (by omega)).trans B8)
  go_upto_region 4 with (go_at_call 70; ((with_reducible refine (HVV.out _ i1 h2 hd1).mono ?_); rintro e w5 ⟨⟨vv, rfl, hvp⟩, ⟨i5, h5, hd5⟩, g5⟩; obtain ⟨Ap, cp, el, _⟩ := id hvp; subst el; have c1 := box_cell (HB7.out w5 g5) 1; have f1 := box_frozen (HB7.out w5 g5) 1; simp only [List.getElem?_toArray, List.getElem?_cons_succ, List.getElem?_cons_zero] at c1))
  have z5 := g5.size
  have hl7 := lt_heap (HB7.out w5 g5)
  have hl8 := lt_heap (HB8.out w5 g5)
  have h6 := h5.set (b := n3) (j := 1) (.slice Ap ps.length cp) (by omega) (by omega)
  have g6 := (g2.trans g5).setNew (j := 1) (.slice Ap ps.length cp) (show W.heap.size ≤ n3 by omega)
  have B7 := (set3_at (x := .slice Ap ps.length cp) (HB7.out w5 g5)).1
  have B8 := (Below.heap_setCell w5 ⟨n3, 1, none⟩ (.slice Ap ps.length cp) W.heap.size (show W.heap.size ≠ n3 by omega)).trans (HB8.out w5 g5)
  have HK1 := Lib.hid (fun k (hk : k ≠ n3) => Below.heap_setCell w5 ⟨n3, 1, none⟩ (.slice Ap ps.length cp) k hk)
  have zz1 : (w5.setCell ⟨n3, 1, none⟩ (.slice Ap ps.length cp)).heap.size = w5.heap.size := by simp
  obtain ⟨w6, hw6⟩ : ∃ W1, (w5.setCell ⟨n3, 1, none⟩ (.slice Ap ps.length cp)) = W1 := ⟨_, rfl⟩
  rw [hw6] at h6 g6 B7 B8 HK1 zz1 ⊢
  clear hw6
  clear c1 f1 HB7 HB8 h5
  have hl7 := lt_heap B7
  have hl8 := lt_heap B8
  have HB7 := Lib.hid (fun w5 (g5 : Gr rb w6 w5) => (g5.block (lt_heap B7) (by omega)).trans B7)
  have HB8 := Lib.hid (fun w5 (g5 : Gr rb w6 w5) => (g5.block (lt_heap B8) (by omega)).trans B8)
  go_upto_region 5 with (go_at_call 71; ((with_reducible refine (HBB.out _ i5 h6 hd5).mono ?_); rintro e w7 ⟨⟨vv, rfl, hvb⟩, ⟨i7, h7, hd7⟩, g7⟩; obtain ⟨Ab, cb, el, _⟩ := id hvb; subst el; have c2 := box_cell (HB7.out w7 g7) 2; have f2 := box_frozen (HB7.out w7 g7) 2; simp only [List.getElem?_toArray, List.getElem?_cons_succ, List.getElem?_cons_zero] at c2))
  have z7 := g7.size
  have hl7b := lt_heap (HB7.out w7 g7)
  have hl8b := lt_heap (HB8.out w7 g7)
  have h8 := h7.set (b := n3) (j := 2) (.slice Ab (smSS l).len cb) (by omega) (by omega)
  have g8 := (g6.trans g7).setNew (j := 2) (.slice Ab (smSS l).len cb) (show W.heap.size ≤ n3 by omega)
  have B7 := (set3_at (x := .slice Ab (smSS l).len cb) (HB7.out w7 g7)).2
  have B8 := (Below.heap_setCell w7 ⟨n3, 2, none⟩ (.slice Ab (smSS l).len cb) W.heap.size (show W.heap.size ≠ n3 by omega)).trans (HB8.out w7 g7)
  have HK2 := Lib.hid (fun k (hk : k ≠ n3) => Below.heap_setCell w7 ⟨n3, 2, none⟩ (.slice Ab (smSS l).len cb) k hk)
  have zz2 : (w7.setCell ⟨n3, 2, none⟩ (.slice Ab (smSS l).len cb)).heap.size = w7.heap.size := by simp
  obtain ⟨w8, hw6⟩ : ∃ W1, (w7.setCell ⟨n3, 2, none⟩ (.slice Ab (smSS l).len cb)) = W1 := ⟨_, rfl⟩
  rw [hw6] at h8 g8 B7 B8 HK2 zz2 ⊢
  clear hw6
  clear c2 f2 HB7 HB8
  have hP1 := hvp.kp (lo' := w0.heap.size) (W' := w8) ⟨by omega, fun k hk hl => (HK2.out k (by omega)).trans ((g7.block (by omega) (by omega)).trans (HK1.out k (by omega)))⟩ (by omega)
  have hB1 := hvb.kp (lo' := w0.heap.size) (W' := w8) ⟨by omega, fun k hk hl => HK2.out k (by omega)⟩ (by omega)
  have c0 := box_cell B8 0
  have f0 := box_frozen B8 0
  have d0 := box_cell B7 0
  have c1 := box_cell B8 1
  have f1 := box_frozen B8 1
  have d1 := box_cell B7 1
  have c2 := box_cell B8 2
  have f2 := box_frozen B8 2
  have d2 := box_cell B7 2
  simp only [List.getElem?_toArray, List.getElem?_cons_succ, List.getElem?_cons_zero] at c0 d0 c1 d1 c2 d2
  have hP := put3_heap (a := .string s) (b := .slice Ap ps.length cp) (c := .slice Ab (smSS l).len cb) B8
  have hfin : FP rb g N cT T W (.ok ⟨s, ps, smSS l⟩ r) (.returned (.agg #[.string s, .slice Ap ps.length cp, .slice Ab (smSS l).len cb])) (Proofs.YtaajolemjgdfnaaDoor.put3 w8 W.heap.size (.string s) (.slice Ap ps.length cp) (.slice Ab (smSS l).len cb)) :=
    ⟨⟨_, rfl, _, _, rfl, hP1.kp (Kp.put3 (by omega)) (by omega), hB1.kp (Kp.put3 (by omega)) (by omega), hsz⟩, ⟨i7, h8.put3 (by omega) (by omega), hd7⟩, g8.put3 (Nat.le_refl _)⟩
  go_wp2
  obtain ⟨wz, hwz⟩ : ∃ W5, (Proofs.YtaajolemjgdfnaaDoor.put3 w8 W.heap.size (.string s) (.slice Ap ps.length cp) (.slice Ab (smSS l).len cb)) = W5 := ⟨_, rfl⟩
  show bodyPost _ _ _ _ _ (Proofs.YtaajolemjgdfnaaDoor.put3 w8 W.heap.size (.string s) (.slice Ap ps.length cp) (.slice Ab (smSS l).len cb))
  rw [hwz] at hP hfin ⊢
  have p0 := box_cell hP 0
  have p1 := box_cell hP 1
  have p2 := box_cell hP 2
  simp only [List.getElem?_toArray, List.getElem?_cons_succ, List.getElem?_cons_zero] at p0 p1 p2
  exact bodyPost_ret (v := .agg #[.string s, .slice Ap ps.length cp, .slice Ab (smSS l).len cb]) (by simp [results, Tryd.results55, go_sem, p0, p1, p2]) rfl hfin

/-- A function, whole. -/
theorem func_any {W : World} {rb g N cT i : Nat} {T : List Tok} (h : Rd W rb g N cT T i 0) (n : Nat) (hx : funcT n (T.drop i) ≠ .out) :
    Calls Tryd.prog 55 #[.pointer (some ⟨rb, 0, none⟩)] W (FP rb g N cT T W (funcT n (T.drop i))) := by
  unfold funcT at hx ⊢
  cases b1 : isT (T.drop i) [102, 117, 110, 99] with
  | false =>
    rw [want_isnt _ _ b1]
    exact fn_want h b1
  | true =>
    rw [want_is _ _ b1, drop_tail] at hx ⊢
    simp only [PR.bind] at hx ⊢
    cases hv : nameT (T.drop (i + 1)) with
    | out => exact absurd hv (nam_ne _)
    | bad p c => exact fn_name h b1 p c hv
    | ok s r1 =>
      rw [hv] at hx
      simp only at hx ⊢
      have HV : ∀ x, severalT nameT n 0 r1 = x → x ≠ .out → ∀ W2 i', Rd W2 rb g N cT T i' 0 → T.drop i' = r1 → Calls Tryd.prog 70 #[.pointer (some ⟨rb, 0, none⟩), ovN rb] W2 (MP rb g N cT 0 T W2 x) := by
        intro x hr hne W2 i' h2 hd
        have := names_any h2 n (by rw [hd, hr]; exact hne)
        rw [hd, hr] at this
        exact this
      cases hs : severalT nameT n 0 r1 with
      | out => rw [hs] at hx; exact absurd rfl hx
      | bad p c => exact fn_sev h b1 s r1 hv p c (HV _ hs (fun e => by cases e))
      | ok ps r2 =>
        have HV := HV _ hs (fun e => by cases e)
        rw [hs] at hx
        simp only at hx ⊢
        have HB : ∀ x, blockT (outerT n 1) n 0 r2 = x → x ≠ .out → ∀ W2 i', Rd W2 rb g N cT T i' 0 → T.drop i' = r2 → Calls Tryd.prog 71 #[.pointer (some ⟨rb, 0, none⟩), .func (.func 57) #[.pointer (some ⟨rb, 0, none⟩)] #[]] W2 (BP rb g N cT 0 T W2 x) := by
          intro x hr hne W2 i' h2 hd
          have := blockO_any h2 (outerT n 1) n (by rw [hd, hr]; exact hne) (fun j v r h => outer_left h) (fun W3 i3 h3 hx3 => outerS_any h3 n hx3)
          rw [hd, hr] at this
          exact this
        cases hb : blockT (outerT n 1) n 0 r2 with
        | out => rw [hb] at hx; exact absurd rfl hx
        | bad p c => exact fn_blk h b1 s r1 hv ps r2 HV p c (HB _ hb (fun e => by cases e))
        | ok l r => exact fn_ok h b1 s r1 hv ps r2 HV l r (HB _ hb (fun e => by cases e))

end Go.Proofs.YtaajolemjgdfnaaDoor

