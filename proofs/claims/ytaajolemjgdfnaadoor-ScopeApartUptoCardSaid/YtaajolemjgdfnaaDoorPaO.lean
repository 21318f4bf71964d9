/-
  Texts PaJ PaK PaL PaM PaO: put together.
-/
import Derived.Test.YtaajolemjgdfnaaDoorPaI
import Derived.Laws.AppendOwn
/-
  Package parse: an expression whose operations of two bind at least that strongly (binding).
-/
namespace Go.Proofs.YtaajolemjgdfnaaDoor
open Go Go.RowKit Go.Lib
attribute [local go_sem high] run_tok0 run_tok1 run_tok2

/-- The world with no blocks but those of p. -/
def erp (p : Nat → Prop) [DecidablePred p] (W : World) : World := { W with heap := W.heap.mapIdx fun k o => if p k then o else .cells #[] 0 }
theorem erp_cell (p : Nat → Prop) [DecidablePred p] (W : World) (b j : Nat) : (erp p W).cell? ⟨b, j, none⟩ = if p b then W.cell? ⟨b, j, none⟩ else none := by
  by_cases h : p b
  · rw [if_pos h]
    cases hw : W.heap[b]? with
    | none => simp [erp, World.cell?, hw]
    | some o => simp [erp, World.cell?, hw, h]
  · rw [if_neg h]
    cases hw : W.heap[b]? with
    | none => simp [erp, World.cell?, hw]
    | some o => simp [erp, World.cell?, hw, h]
abbrev EY (p : Nat → Prop) [DecidablePred p] (W : World) (v : Value) (l : ES) : Prop := EV W.heap.size (erp p W) v l
section
variable {p q : Nat → Prop} [DecidablePred p] [DecidablePred q] {W W' : World} {v : Value} {l : ES} {lo : Nat}
theorem EY.kp (hv : EY p W v l) (hs : W.heap.size ≤ W'.heap.size) (hk : ∀ k, p k → k < W.heap.size → W'.heap[k]? = W.heap[k]?) (hp : ∀ k, p k → k < W.heap.size → q k) : EY q W' v l :=
  RowV.imp hv hs fun _ _ hb hq => ES.In.ext hs (fun b j u hb hc => by
    rw [erp_cell] at hc ⊢
    by_cases e : p b
    · rw [if_pos e] at hc
      rw [if_pos (hp b e hb), World.cell?_of_block (a := ⟨b, j, none⟩) (hk b e hb)]
      exact hc
    · rw [if_neg e] at hc; cases hc) hb hq
theorem EY.of_ex (hv : EX lo W v l) (hk : Kp lo W W') (hp : ∀ k, lo ≤ k → k < W.heap.size → q k) : EY q W' v l :=
  RowV.imp hv hk.size fun _ _ hb hq => ES.In.ext hk.size (fun b j u hb hc => by
    rw [er_cell] at hc
    rw [erp_cell]
    by_cases e : b < lo
    · rw [if_pos e] at hc; cases hc
    · rw [if_neg e] at hc
      rw [if_pos (hp b (by omega) hb), World.cell?_of_block (a := ⟨b, j, none⟩) (hk.block b (by omega) hb)]
      exact hc) hb hq
theorem EX.of_ey (hv : EY p W v l) (hs : W.heap.size ≤ W'.heap.size) (hk : ∀ k, p k → k < W.heap.size → W'.heap[k]? = W.heap[k]?) (hp : ∀ k, p k → lo ≤ k) : EX lo W' v l :=
  RowV.imp hv hs fun _ _ hb hq => ES.In.ext hs (fun b j u hb hc => by
    rw [erp_cell] at hc
    rw [er_cell]
    by_cases e : p b
    · rw [if_pos e] at hc
      have := hp b e
      rw [if_neg (by omega), World.cell?_of_block (a := ⟨b, j, none⟩) (hk b e hb)]
      exact hc
    · rw [if_neg e] at hc; cases hc) hb hq
theorem erp_at {n j : Nat} {cs : Array Value} {t : TypeId} {u : Value} (hc : W.heap[n]? = some (.cells cs t)) (hl : p n) (hu : cs[j]? = some u) : (erp p W).cell? ⟨n, j, none⟩ = some u := by
  rw [erp_cell, if_pos hl, box_cell hc, hu]
theorem ey_two {n : Nat} {e e' : Ex} {vl vl' : Value} {t : TypeId} (hc : W.heap[n]? = some (.cells #[.int .i64 e.op, .int .i64 e.n, .string e.s, vl, .int .i64 e'.op, .int .i64 e'.n, .string e'.s, vl'] t)) (hl : p n) (hv : EY p W vl e.l) (ho : okE e) (hv' : EY p W vl' e'.l) (ho' : okE e') :
    EY p W (.slice (some ⟨n, 0, none⟩) 2 2) (toES e (toES e' .nil)) :=
  ⟨some ⟨n, 0, none⟩, 2, rfl, Nat.le_refl _, by decide, fun _ => ⟨n, 0, rfl, lt_heap hc, erp_at hc hl rfl, erp_at hc hl rfl, erp_at hc hl rfl, ⟨vl, erp_at hc hl rfl, hv⟩, ho, erp_at hc hl rfl, erp_at hc hl rfl, erp_at hc hl rfl, ⟨vl', erp_at hc hl rfl, hv'⟩, ho', trivial⟩⟩
end

/-- The blocks that a loop of binding's may have made parts in. -/
abbrev mk (L n : Nat) : Nat → Prop := fun k => L ≤ k ∧ k ≠ n

/-- At the head of each round: the expression so far lies in its box. -/
def BRel (ex : Nat → Nat → List Tok → PR Ex) (rb g N cT least o : Nat) (T : List Tok) (W : World) (n5 : Nat) (y : PR Ex) (wr : World) : Prop :=
  ∃ m e A c i, loopT ex m least e o (T.drop i) = y ∧ Rd wr rb g N cT T i o ∧ Gr rb W wr ∧ wr.heap[W.heap.size]? = some (.cells #[.int .i64 0, .int .i64 0, .string ⟨#[]⟩, .slice none 0 0] 43) ∧
    wr.heap[n5]? = some (.cells #[.int .i64 e.op, .int .i64 e.n, .string e.s, .slice A e.l.len c] 43) ∧ EY (mk (W.heap.size + 1) n5) wr (.slice A e.l.len c) e.l ∧ okE e
/-- Where the reader stands. -/
def posR (rb N : Nat) (wr : World) : Nat := N - match wr.cell? ⟨rb, 1, none⟩ with | some (.int _ k) => k.toNat | _ => 0

theorem op_small (l : List UInt8) : (opT l).2 ≤ 5 := by
  unfold opT
  repeat' split
  all_goals decide
theorem op_nil : opT [] = (0, 0) := by decide
theorem posR_eq {W : World} {rb g N cT i o : Nat} {T : List Tok} (h : Rd W rb g N cT T i o) : posR rb N W = N - i := by
  unfold posR
  rw [h.c1]
  simp

theorem put4_block {W : World} {n k : Nat} {a b c d : Value} (h : k ≠ n) : (put4 W n a b c d).heap[k]? = W.heap[k]? := by
  unfold put4
  rw [Below.heap_setCell _ _ _ _ h, Below.heap_setCell _ _ _ _ h, Below.heap_setCell _ _ _ _ h, Below.heap_setCell _ _ _ _ h]
theorem put4_heap {W : World} {n : Nat} {a b c d x y z u : Value} {t : TypeId} (h : W.heap[n]? = some (.cells #[x, y, z, u] t)) : (put4 W n a b c d).heap[n]? = some (.cells #[a, b, c, d] t) := by
  simp [put4, World.setCell, Array.getElem?_modify, h]

set_option maxRecDepth 100000 in
set_option maxHeartbeats 1000000 in
theorem bind_loop {W : World} {rb g N cT i o : Nat} {T : List Tok} (h : Rd W rb g N cT T i o) (ex : Nat → Nat → List Tok → PR Ex) (least m : Nat) (hl : 1 ≤ least) (hl5 : least ≤ 6) (v : Ex) (r : List Tok) (y : PR Ex) (hy : loopT ex m least v o r = y) (hyo : y ≠ .out) (HLn : ∀ l ts v r, ex l o ts = .ok v r → r.length ≤ ts.length)
    (HS : ∀ W2, Rd W2 rb g N cT T i o → Calls Tryd.prog 88 #[.pointer (some ⟨rb, 0, none⟩)] W2 (XP rb g N cT o T W2 (.ok v r)))
    (HB : ∀ W2 i' l', Rd W2 rb g N cT T i' o → 1 ≤ l' → l' ≤ 6 → ex l' o (T.drop i') ≠ .out → Calls Tryd.prog 87 #[.pointer (some ⟨rb, 0, none⟩), .int .i64 l'] W2 (XP rb g N cT o T W2 (ex l' o (T.drop i')))) :
    Calls Tryd.prog 87 #[.pointer (some ⟨rb, 0, none⟩), .int .i64 least] W (XP rb g N cT o T W y) := by
  have HSS := Lib.hid HS
  have HBB := Lib.hid HB
  have HR := Lib.hid h
  have hrl := h.rlt
  have hgl := h.tok.1
  have hN : N ≤ 65537 := by have := h.good.len; have := h.len; omega
  have HY := Lib.hid hy
  clear HS HB h hy
  go_enter Tryd.func87, Tryd.ntmps87
  go_upto_region 1 with fail
  have h0 := HR.out.alloc (.cells #[.int .i64 0, .int .i64 0, .string ⟨#[]⟩, .slice none 0 0] 43)
  have B6 := heap_alloc_new W (.cells #[.int .i64 0, .int .i64 0, .string ⟨#[]⟩, .slice none 0 0] 43)
  have g0 := (Gr.refl rb W).alloc (.cells #[.int .i64 0, .int .i64 0, .string ⟨#[]⟩, .slice none 0 0] 43)
  have z0 : (W.alloc (.cells #[.int .i64 0, .int .i64 0, .string ⟨#[]⟩, .slice none 0 0] 43)).heap.size = W.heap.size + 1 := by simp
  obtain ⟨w0, hw0⟩ : ∃ W1, W.alloc (.cells #[.int .i64 0, .int .i64 0, .string ⟨#[]⟩, .slice none 0 0] 43) = W1 := ⟨_, rfl⟩
  rw [hw0] at h0 B6 g0 z0 ⊢
  clear hw0
  go_wp2_with (go_at_call 88; ((with_reducible refine (HSS.out _ h0).mono ?_); rintro e w1 ⟨⟨vv, rfl, vl, rfl, hv, hok⟩, ⟨i1, h1, hd⟩, g1⟩; obtain ⟨Al, cl, el, _⟩ := id hv; subst el))
  have z1 := g1.size
  have h2 := h1.alloc (.cells #[.int .i64 v.op, .int .i64 v.n, .string v.s, .slice Al v.l.len cl] 43)
  have B7 := heap_alloc_new w1 (.cells #[.int .i64 v.op, .int .i64 v.n, .string v.s, .slice Al v.l.len cl] 43)
  have g2 := (g0.trans g1).alloc (.cells #[.int .i64 v.op, .int .i64 v.n, .string v.s, .slice Al v.l.len cl] 43)
  have hkk : Kp w0.heap.size w1 (w1.alloc (.cells #[.int .i64 v.op, .int .i64 v.n, .string v.s, .slice Al v.l.len cl] 43)) := Kp.below ((Below.refl _ _).alloc (Nat.le_refl _) _)
  have B8 := (Below.heap_alloc w1 (.cells #[.int .i64 v.op, .int .i64 v.n, .string v.s, .slice Al v.l.len cl] 43) W.heap.size (by omega)).trans ((g1.block (k := W.heap.size) (by omega) (by omega)).trans B6)
  have hv2 : EY (mk (W.heap.size + 1) w1.heap.size) (w1.alloc (.cells #[.int .i64 v.op, .int .i64 v.n, .string v.s, .slice Al v.l.len cl] 43)) (.slice Al v.l.len cl) v.l := EY.of_ex hv hkk (fun k h1 h2 => ⟨by omega, by omega⟩)
  obtain ⟨w2, hw2⟩ : ∃ W1, w1.alloc (.cells #[.int .i64 v.op, .int .i64 v.n, .string v.s, .slice Al v.l.len cl] 43) = W1 := ⟨_, rfl⟩
  rw [hw2] at h2 B7 g2 B8 hv2 ⊢
  obtain ⟨n5, hn5⟩ : ∃ n5, w1.heap.size = n5 := ⟨_, rfl⟩
  rw [hn5] at B7 hv2 ⊢
  have hn5' : W.heap.size + 1 ≤ n5 := by omega
  have hstart : BRel ex rb g N cT least o T W n5 y w2 := ⟨m, v, Al, cl, i1, by rw [hd]; exact HY.out, h2, g2, B8, B7, hv2, hok⟩
  clear hw2 h2 B7 g2 B8 hv2 hkk hd h1 g1 hv B6 g0 h0 z0 z1 hn5 HY hok
  go_loopw [6, 7] (fun _ _ wr => BRel ex rb g N cT least o T W n5 y wr) (fun _ _ wr => posR rb N wr)
  case atStart => exact hstart
  case round =>
    clear hstart
    obtain ⟨m, e, A, c, i, hy, hR, hG, B4, B5, hE, hok⟩ := hrel
    cases m with
    | zero => exact absurd hy.symm hyo
    | succ m =>
      rw [loopT] at hy
      obtain ⟨t, ht⟩ : ∃ t, hdT (T.drop i) = t := ⟨_, rfl⟩
      have HN := Lib.hid (now_any hR t ht)
      rw [ht] at hy
      have HOT := Lib.hid (fun w' => oftwo_any t.text w')
      have h5 := op_small t.text
      have hne : 1 ≤ (opT t.text).2 → t.text ≠ [] := by
        intro h1 e
        rw [e, op_nil] at h1
        omega
      have hop : I64 (opT t.text).1 := by
        unfold opT
        repeat' split
        all_goals (unfold I64; simp)
      obtain ⟨op, hop'⟩ : ∃ op, (opT t.text).1 = op := ⟨_, rfl⟩
      obtain ⟨st, hst⟩ : ∃ st, (opT t.text).2 = st := ⟨_, rfl⟩
      rw [hop', hst] at HOT hy
      rw [hst] at h5 hne
      rw [hop'] at hop
      clear hop' hst
      have HR2 := Lib.hid hR
      have HG2 := Lib.hid hG
      have hrl2 := hR.rlt
      have hgl2 := hR.tok.1
      have zr := hG.size
      have HB5 := Lib.hid (fun w3 (h3 : Below wr.heap.size wr w3) => (h3.block n5 (lt_heap B5)).trans B5)
      have HB4 := Lib.hid (fun w3 (h3 : Below wr.heap.size wr w3) => (h3.block W.heap.size (lt_heap B4)).trans B4)
      have hl4 := lt_heap B4
      have hl5' := lt_heap B5
      clear hR hG B5 B4
      by_cases hlt : st < least
      · have d1 : decide (st < least) = true := decide_eq_true hlt
        rw [if_pos hlt] at hy
        clear hne hop
        go_wp2_with (first
          | (go_at_call 56; ((with_reducible refine HN.out.mono ?_); rintro e' w3 ⟨rfl, h3⟩; have B5 := HB5.out w3 h3; have B4 := HB4.out w3 h3; have c0 := box_cell B4 0; have c1 := box_cell B4 1; have c2 := box_cell B4 2; have c3 := box_cell B4 3; have f0 := box_frozen B4 0; have f1 := box_frozen B4 1; have f2 := box_frozen B4 2; have f3 := box_frozen B4 3; have d0 := box_cell B5 0; have d2 := box_cell B5 1; have d3 := box_cell B5 2; have d4 := box_cell B5 3; simp at c0 c1 c2 c3 d0 d2 d3 d4))
          | (go_at_call 89; ((with_reducible refine (HOT.out _).mono ?_); rintro e' w4 ⟨rfl, rfl⟩)))
        have hP := ret4 (a := .int .i64 e.op) (b := .int .i64 e.n) (c := .string e.s) (d := .slice A e.l.len c) B4
        have hz3 := h3.size
        have hput := Kp.put4 (W := w3) (a := .int .i64 e.op) (b := .int .i64 e.n) (c := .string e.s) (d := .slice A e.l.len c) (Nat.lt_succ_self W.heap.size)
        have hfin : XP rb g N cT o T W y (.returned (.agg #[.int .i64 e.op, .int .i64 e.n, .string e.s, .slice A e.l.len c])) (put4 w3 W.heap.size (.int .i64 e.op) (.int .i64 e.n) (.string e.s) (.slice A e.l.len c)) := by
          rw [← hy]
          refine ⟨⟨_, rfl, _, rfl, EX.of_ey hE (Nat.le_trans hz3 hput.size) (fun k hk hk2 => ?_) (fun k hk => by have := hk.1; omega), hok⟩, ⟨i, ((HR2.out).below h3).put4 (by omega) (by omega), rfl⟩, ((HG2.out).trans (Gr.of h3)).put4 (Nat.le_refl _)⟩
          exact (hput.block k hk.1 (Nat.lt_of_lt_of_le hk2 hz3)).trans (h3.block k hk2)
        clear hput
        obtain ⟨w5, hw5⟩ : ∃ W5, put4 w3 W.heap.size (.int .i64 e.op) (.int .i64 e.n) (.string e.s) (.slice A e.l.len c) = W5 := ⟨_, rfl⟩
        show bodyPost _ _ _ _ _ (put4 w3 W.heap.size (.int .i64 e.op) (.int .i64 e.n) (.string e.s) (.slice A e.l.len c))
        rw [hw5] at hP hfin ⊢
        have p0 := hP 0 (by decide)
        have p1 := hP 1 (by decide)
        have p2 := hP 2 (by decide)
        have p3 := hP 3 (by decide)
        exact bodyPost_ret (v := .agg #[.int .i64 e.op, .int .i64 e.n, .string e.s, .slice A e.l.len c]) (by simp [results, Tryd.results87, go_sem, p0, p1, p2, p3]) rfl hfin
      · have d1 : decide (st < least) = false := decide_eq_false hlt
        rw [if_neg hlt, drop_tail] at hy
        have hm := HR2.out.more (.inl (by rw [ht]; exact hne (by omega)))
        have hw := step_num hm hN
        have hws : IntKind.i64.wrap ((st : Int) + 1) = ((st + 1 : Nat) : Int) := by rw [IntWalk.i64_in _ (by omega)]; rfl
        have hxo : ex (st + 1) o (T.drop (i + 1)) ≠ .out := by
          intro e0
          rw [e0] at hy
          exact hyo hy.symm
        have HNX := Lib.hid (fun w3 (h3 : Below wr.heap.size wr w3) => (HR2.out.below h3).next hm)
        have HC1 := Lib.hid (fun w3 (h3 : Below wr.heap.size wr w3) => (HR2.out.below h3).c1)
        have HF1 := Lib.hid (fun w3 (h3 : Below wr.heap.size wr w3) => (HR2.out.below h3).fz 1)
        clear hne hm
        go_upto_region 6 with (first
          | (go_at_call 56; ((with_reducible refine HN.out.mono ?_); rintro e' w3 ⟨rfl, h3⟩; have c1 := HC1.out w3 h3; have f1 := HF1.out w3 h3))
          | (go_at_call 89; ((with_reducible refine (HOT.out _).mono ?_); rintro e' w4 ⟨rfl, rfl⟩)))
        have hR4 := HNX.out w3 h3
        have g4 : Gr rb wr (w3.setCell ⟨rb, 1, none⟩ (.int .i64 ((i + 1 : Nat) : Int))) := (Gr.of h3).trans (Gr.set 1 _)
        have B5 := (Below.heap_setCell w3 ⟨rb, 1, none⟩ (.int .i64 ((i + 1 : Nat) : Int)) n5 (show n5 ≠ rb by omega)).trans (HB5.out w3 h3)
        have B4 := (Below.heap_setCell w3 ⟨rb, 1, none⟩ (.int .i64 ((i + 1 : Nat) : Int)) W.heap.size (show W.heap.size ≠ rb by omega)).trans (HB4.out w3 h3)
        obtain ⟨w4, hw4⟩ : ∃ W4, w3.setCell ⟨rb, 1, none⟩ (.int .i64 ((i + 1 : Nat) : Int)) = W4 := ⟨_, rfl⟩
        show Code.wp _ _ _ _ (w3.setCell ⟨rb, 1, none⟩ (.int .i64 ((i + 1 : Nat) : Int)))
        rw [hw4] at hR4 g4 B5 B4 ⊢
        have HBX := Lib.hid (show Calls Tryd.prog 87 #[.pointer (some ⟨rb, 0, none⟩), .int .i64 ((st : Int) + 1)] w4.drew (XP rb g N cT o T w4.drew (ex (st + 1) o (T.drop (i + 1)))) from HBB.out w4.drew (i + 1) (st + 1) hR4.drew (by omega) (by omega) hxo)
        have d0 : w4.cell? ⟨n5, 0, none⟩ = some (.int .i64 e.op) := box_cell B5 0
        have d2 : w4.cell? ⟨n5, 1, none⟩ = some (.int .i64 e.n) := box_cell B5 1
        have d3 : w4.cell? ⟨n5, 2, none⟩ = some (.string e.s) := box_cell B5 2
        have d4 : w4.cell? ⟨n5, 3, none⟩ = some (.slice A e.l.len c) := box_cell B5 3
        have HB5' := Lib.hid (fun w6 (g6 : Gr rb w4.drew w6) => (g6.block (k := n5) (lt_heap B5) (by omega)).trans B5)
        have HB4' := Lib.hid (fun w6 (g6 : Gr rb w4.drew w6) => (g6.block (k := W.heap.size) (lt_heap B4) (by omega)).trans B4)
        clear B5 B4 HBB HSS HN HOT HNX HC1 HF1 HB5 HB4 hw4 h3 c1 f1
        cases hxx : ex (st + 1) o (T.drop (i + 1)) with
        | out => exact absurd hxx hxo
        | bad p cc =>
          rw [hxx] at HBX hy
          have HBX' := HBX.out
          have HBX2 := Lib.hid HBX'
          clear HBX HBX' hxx
          subst hy
          have hbad := Lib.hid (fun w6 (g6 : Gr rb w4.drew w6) => (HG2.out).trans (g4.drew.trans g6))
          refine wp_region_held_drew (S := (fun w' => w'.cell? ⟨n5, 0, none⟩ = some (.int .i64 e.op) ∧ w'.cell? ⟨n5, 1, none⟩ = some (.int .i64 e.n) ∧ w'.cell? ⟨n5, 2, none⟩ = some (.string e.s) ∧ w'.cell? ⟨n5, 3, none⟩ = some (.slice A e.l.len c))) (by kernel_rfl) ⟨d0, d2, d3, d4⟩ (fun hHeld => ?_)
          refine wpAnyH_take (i := 0) (v := .int .i64 op) rfl (by kernel_rfl) (by kernel_rfl) (by kernel_rfl) (fun _ _ _ h => h) (Or.inl ⟨by rfl, ?_⟩) (by assumption) ?_
          · intro W' hS
            obtain ⟨k0, k1, k2, k3⟩ := hS
            go_simp
          try simp only [Act.put, List.getElem_toArray, List.getElem_cons_zero, List.setIfInBounds_toArray, List.set_cons_zero, List.set_cons_succ]
          refine wpAnyH_take (i := 1) (v := .agg #[.int .i64 e.op, .int .i64 e.n, .string e.s, .slice A e.l.len c]) rfl (by kernel_rfl) (by kernel_rfl) (by kernel_rfl) (fun _ _ _ h => h) (Or.inl ⟨by rfl, ?_⟩) (by assumption) ?_
          · intro W' hS
            obtain ⟨k0, k1, k2, k3⟩ := hS
            go_simp
          try simp only [Act.put, List.getElem_toArray, List.getElem_cons_zero, List.getElem_cons_succ, List.setIfInBounds_toArray, List.set_cons_zero, List.set_cons_succ]
          refine wpAnyH_take (i := 2) (v := .pointer (some ⟨rb, 0, none⟩)) rfl (by kernel_rfl) (by kernel_rfl) (by kernel_rfl) (fun _ _ _ h => h) (Or.inl ⟨by rfl, ?_⟩) (by assumption) ?_
          · intro W' hS
            obtain ⟨k0, k1, k2, k3⟩ := hS
            go_simp
          try simp only [Act.put, List.getElem_toArray, List.getElem_cons_zero, List.getElem_cons_succ, List.setIfInBounds_toArray, List.set_cons_zero, List.set_cons_succ]
          refine wpAnyH_take (i := 3) (v := .int .i64 st) rfl (by kernel_rfl) (by kernel_rfl) (by kernel_rfl) (fun _ _ _ h => h) (Or.inl ⟨by rfl, ?_⟩) (by assumption) ?_
          · intro W' hS
            obtain ⟨k0, k1, k2, k3⟩ := hS
            go_simp
          try simp only [Act.put, List.getElem_toArray, List.getElem_cons_zero, List.getElem_cons_succ, List.setIfInBounds_toArray, List.set_cons_zero, List.set_cons_succ]
          refine wpAnyH_take (i := 4) (v := .int .i64 ((st : Int) + 1)) rfl (by kernel_rfl) (by kernel_rfl) (by kernel_rfl) (fun _ _ _ h => h) (Or.inl ⟨by rfl, ?_⟩) (by assumption) ?_
          · intro W' hS
            obtain ⟨k0, k1, k2, k3⟩ := hS
            go_simp
          try simp only [Act.put, List.getElem_toArray, List.getElem_cons_zero, List.getElem_cons_succ, List.setIfInBounds_toArray, List.set_cons_zero, List.set_cons_succ]
          refine wpAnyH_ready (rs := [5]) (by kernel_rfl) (by simp) ?_
          refine AllReadyH.cons rfl (fun K hK => ?_) AllReadyH.nil
          go_simp
          go_at_call 87
          refine HBX2.out.mono ?_
          rintro e' w6 ⟨rfl, g6⟩
          go_wp2_with fail
          exact ⟨rfl, rfl, hbad.out w6 g6⟩
        | ok e2 r2 =>
          have hlen2 := HLn _ _ _ _ hxx
          rw [hxx] at HBX hy
          have HBX' := HBX.out
          have HBX2 := Lib.hid HBX'
          clear HBX HBX' hxx
          refine wp_region_held_drew (S := fun _ => True) (by kernel_rfl) trivial (fun _ => ?_)
          refine wpAnyH_take (i := 0) (v := .int .i64 op) rfl (by kernel_rfl) (by kernel_rfl) (by kernel_rfl) (fun _ _ _ h => h) (Or.inl ⟨by rfl, ?_⟩) trivial ?_
          · intro W' _
            go_simp
          try simp only [Act.put, List.getElem_toArray, List.getElem_cons_zero, List.setIfInBounds_toArray, List.set_cons_zero, List.set_cons_succ]
          refine wpAnyH_take (i := 2) (v := .pointer (some ⟨rb, 0, none⟩)) rfl (by kernel_rfl) (by kernel_rfl) (by kernel_rfl) (fun _ _ _ h => h) (Or.inl ⟨by rfl, ?_⟩) trivial ?_
          · intro W' _
            go_simp
          try simp only [Act.put, List.getElem_toArray, List.getElem_cons_zero, List.getElem_cons_succ, List.setIfInBounds_toArray, List.set_cons_zero, List.set_cons_succ]
          refine wpAnyH_take (i := 3) (v := .int .i64 st) rfl (by kernel_rfl) (by kernel_rfl) (by kernel_rfl) (fun _ _ _ h => h) (Or.inl ⟨by rfl, ?_⟩) trivial ?_
          · intro W' _
            go_simp
          try simp only [Act.put, List.getElem_toArray, List.getElem_cons_zero, List.getElem_cons_succ, List.setIfInBounds_toArray, List.set_cons_zero, List.set_cons_succ]
          refine wpAnyH_take (i := 4) (v := .int .i64 ((st : Int) + 1)) rfl (by kernel_rfl) (by kernel_rfl) (by kernel_rfl) (fun _ _ _ h => h) (Or.inl ⟨by rfl, ?_⟩) trivial ?_
          · intro W' _
            go_simp
          try simp only [Act.put, List.getElem_toArray, List.getElem_cons_zero, List.getElem_cons_succ, List.setIfInBounds_toArray, List.set_cons_zero, List.set_cons_succ]
          refine wpAnyH_ready (rs := [1, 5]) (by kernel_rfl) (by simp) ?_
          refine AllReadyH.cons rfl (fun K hK => ?_) (AllReadyH.cons rfl (fun K hK => ?_) AllReadyH.nil)
          · go_simp
            refine hK.out _ _ trivial (fun _ => ?_)
            clear hK K
            try simp only [Act.put, List.getElem_toArray, List.getElem_cons_zero, List.getElem_cons_succ, List.setIfInBounds_toArray, List.set_cons_zero, List.set_cons_succ]
            refine wpAnyH_ready (rs := [5]) (by kernel_rfl) (by simp) ?_
            refine AllReadyH.cons rfl (fun K hK => ?_) AllReadyH.nil
            go_simp
            go_at_call 87
            refine HBX2.out.mono ?_
            rintro e' w6 ⟨⟨vv, rfl, vl2, rfl, hv2, hok2⟩, ⟨i2, h6, hd2⟩, g6⟩
            obtain ⟨A2, c2, el2, _⟩ := id hv2
            subst el2
            have y5 := HB5'.out w6 g6
            have y0 : w6.cell? ⟨n5, 0, none⟩ = some (.int .i64 e.op) := box_cell y5 0
            have y1 : w6.cell? ⟨n5, 1, none⟩ = some (.int .i64 e.n) := box_cell y5 1
            have y2 : w6.cell? ⟨n5, 2, none⟩ = some (.string e.s) := box_cell y5 2
            have y3 : w6.cell? ⟨n5, 3, none⟩ = some (.slice A e.l.len c) := box_cell y5 3
            go_wp2_with fail
            refine hK.out _ _ trivial (fun _ => ?_)
            clear hK K
            try simp only [Act.put, List.getElem_toArray, List.getElem_cons_zero, List.getElem_cons_succ, List.setIfInBounds_toArray, List.set_cons_zero, List.set_cons_succ]
            refine wpAnyH_ready (rs := [6]) (by kernel_rfl) (by simp) ?_
            refine AllReadyH.cons rfl (fun K hK => ?_) AllReadyH.nil
            go_simp
            refine hK.out _ _ trivial (fun _ => ?_)
            clear hK K
            try simp only [Act.put, List.getElem_toArray, List.getElem_cons_zero, List.getElem_cons_succ, List.setIfInBounds_toArray, List.set_cons_zero, List.set_cons_succ]
            have y6 := (Below.heap_alloc w6 (.cells #[.int .i64 e.op, .int .i64 e.n, .string e.s, .slice A e.l.len c, .int .i64 e2.op, .int .i64 e2.n, .string e2.s, .slice A2 e2.l.len c2] 43) n5 (lt_heap y5)).trans y5
            have y8 := heap_alloc_new w6 (.cells #[.int .i64 e.op, .int .i64 e.n, .string e.s, .slice A e.l.len c, .int .i64 e2.op, .int .i64 e2.n, .string e2.s, .slice A2 e2.l.len c2] 43)
            have hbl : Below w6.heap.size w6 (w6.alloc (.cells #[.int .i64 e.op, .int .i64 e.n, .string e.s, .slice A e.l.len c, .int .i64 e2.op, .int .i64 e2.n, .string e2.s, .slice A2 e2.l.len c2] 43)) := (Below.refl _ _).alloc (Nat.le_refl _) _
            have y4 := (Below.heap_alloc w6 (.cells #[.int .i64 e.op, .int .i64 e.n, .string e.s, .slice A e.l.len c, .int .i64 e2.op, .int .i64 e2.n, .string e2.s, .slice A2 e2.l.len c2] 43) W.heap.size (lt_heap (HB4'.out w6 g6))).trans (HB4'.out w6 g6)
            have z8 : (w6.alloc (.cells #[.int .i64 e.op, .int .i64 e.n, .string e.s, .slice A e.l.len c, .int .i64 e2.op, .int .i64 e2.n, .string e2.s, .slice A2 e2.l.len c2] 43)).heap.size = w6.heap.size + 1 := by simp
            obtain ⟨w8, hw8⟩ : ∃ W1, w6.alloc (.cells #[.int .i64 e.op, .int .i64 e.n, .string e.s, .slice A e.l.len c, .int .i64 e2.op, .int .i64 e2.n, .string e2.s, .slice A2 e2.l.len c2] 43) = W1 := ⟨_, rfl⟩
            rw [hw8] at y6 y8 hbl y4 z8 ⊢
            clear hw8
            have c0 := box_cell y6 0
            have c1 := box_cell y6 1
            have c3 := box_cell y6 2
            have c4 := box_cell y6 3
            have f0 := box_frozen y6 0
            have f1 := box_frozen y6 1
            have f2 := box_frozen y6 2
            have f3 := box_frozen y6 3
            simp at c0 c1 c3 c4
            refine wpAnyH_take (i := 7) (v := .agg #[.int .i64 op, .int .i64 0, .string ⟨#[]⟩, .slice (some ⟨w6.heap.size, 0, none⟩) 2 2]) rfl (by kernel_rfl) (by kernel_rfl) (by kernel_rfl) (fun _ _ _ h => h) (Or.inl ⟨by rfl, ?_⟩) trivial ?_
            · intro W' _
              go_simp
            try simp only [Act.put, List.getElem_toArray, List.getElem_cons_zero, List.getElem_cons_succ, List.setIfInBounds_toArray, List.set_cons_zero, List.set_cons_succ]
            refine wpAnyH_ready (rs := [8]) (by kernel_rfl) (by simp) ?_
            refine AllReadyH.cons rfl (fun K hK => ?_) AllReadyH.nil
            go_simp
            refine hK.out _ _ trivial (fun _ => ?_)
            clear hK K
            try simp only [Act.put, List.getElem_toArray, List.getElem_cons_zero, List.getElem_cons_succ, List.setIfInBounds_toArray, List.set_cons_zero, List.set_cons_succ]
            refine wpAnyH_done (by kernel_rfl) ?_ _
            go_wp2_with fail
            have zf : (put4 w8 n5 (.int .i64 op) (.int .i64 0) (.string ⟨#[]⟩) (.slice (some ⟨w6.heap.size, 0, none⟩) 2 2)).heap.size = w8.heap.size := by simp [put4]
            have z6 := g6.size
            have z46 : wr.heap.size ≤ w4.drew.heap.size := (g4.drew).size
            have gw : Gr rb wr w8 := g4.drew.trans (g6.trans (Gr.of hbl))
            have hE8 : EY (mk (W.heap.size + 1) n5) w8 (.slice A e.l.len c) e.l := EY.kp hE gw.size (fun k hk hk2 => gw.block hk2 (by have := hk.1; omega)) (fun k hk _ => hk)
            have hE9 : EY (mk (W.heap.size + 1) n5) w8 (.slice A2 e2.l.len c2) e2.l := EY.of_ex hv2 (Kp.below hbl) (fun k hk _ => ⟨by omega, by omega⟩)
            have hEE := ey_two y8 (p := mk (W.heap.size + 1) n5) ⟨by omega, by omega⟩ hE8 hok hE9 hok2
            have hRf := (h6.below hbl).put4 (n := n5) (a := .int .i64 op) (b := .int .i64 0) (c := .string ⟨#[]⟩) (d := .slice (some ⟨w6.heap.size, 0, none⟩) 2 2) (by omega) (by omega)
            refine ⟨⟨m, ⟨op, 0, nilS, toES e (toES e2 .nil)⟩, some ⟨w6.heap.size, 0, none⟩, 2, i2, by rw [hd2]; exact hy, hRf, ((HG2.out).trans gw).put4 (by omega), (put4_block (by omega)).trans y4, put4_heap y6, EY.kp hEE (Nat.le_of_eq zf.symm) (fun k hk _ => put4_block hk.2) (fun k hk _ => hk), okE_of hop⟩, ?_⟩
            show posR rb N (put4 w8 n5 (.int .i64 op) (.int .i64 0) (.string ⟨#[]⟩) (.slice (some ⟨w6.heap.size, 0, none⟩) 2 2)) < posR rb N wr
            rw [posR_eq hRf, posR_eq HR2.out]
            have hl2 := h6.lt
            have hl1 := h6.len
            rw [← hd2, List.length_drop, List.length_drop] at hlen2
            clear hw hws
            have hl3 : i < i2 := by omega
            have hl4' : i2 < N := hl2
            exact Nat.sub_lt_sub_left (Nat.lt_trans hl3 hl4') hl3
          · go_simp
            go_at_call 87
            refine HBX2.out.mono ?_
            rintro e' w6 ⟨⟨vv, rfl, vl2, rfl, hv2, hok2⟩, ⟨i2, h6, hd2⟩, g6⟩
            obtain ⟨A2, c2, el2, _⟩ := id hv2
            subst el2
            have y5 := HB5'.out w6 g6
            have y0 : w6.cell? ⟨n5, 0, none⟩ = some (.int .i64 e.op) := box_cell y5 0
            have y1 : w6.cell? ⟨n5, 1, none⟩ = some (.int .i64 e.n) := box_cell y5 1
            have y2 : w6.cell? ⟨n5, 2, none⟩ = some (.string e.s) := box_cell y5 2
            have y3 : w6.cell? ⟨n5, 3, none⟩ = some (.slice A e.l.len c) := box_cell y5 3
            go_wp2_with fail
            refine hK.out _ _ trivial (fun _ => ?_)
            clear hK K
            try simp only [Act.put, List.getElem_toArray, List.getElem_cons_zero, List.getElem_cons_succ, List.setIfInBounds_toArray, List.set_cons_zero, List.set_cons_succ]
            refine wpAnyH_ready (rs := [1]) (by kernel_rfl) (by simp) ?_
            refine AllReadyH.cons rfl (fun K hK => ?_) AllReadyH.nil
            go_simp
            refine hK.out _ _ trivial (fun _ => ?_)
            clear hK K
            try simp only [Act.put, List.getElem_toArray, List.getElem_cons_zero, List.getElem_cons_succ, List.setIfInBounds_toArray, List.set_cons_zero, List.set_cons_succ]
            refine wpAnyH_ready (rs := [6]) (by kernel_rfl) (by simp) ?_
            refine AllReadyH.cons rfl (fun K hK => ?_) AllReadyH.nil
            go_simp
            refine hK.out _ _ trivial (fun _ => ?_)
            clear hK K
            try simp only [Act.put, List.getElem_toArray, List.getElem_cons_zero, List.getElem_cons_succ, List.setIfInBounds_toArray, List.set_cons_zero, List.set_cons_succ]
            have y6 := (Below.heap_alloc w6 (.cells #[.int .i64 e.op, .int .i64 e.n, .string e.s, .slice A e.l.len c, .int .i64 e2.op, .int .i64 e2.n, .string e2.s, .slice A2 e2.l.len c2] 43) n5 (lt_heap y5)).trans y5
            have y8 := heap_alloc_new w6 (.cells #[.int .i64 e.op, .int .i64 e.n, .string e.s, .slice A e.l.len c, .int .i64 e2.op, .int .i64 e2.n, .string e2.s, .slice A2 e2.l.len c2] 43)
            have hbl : Below w6.heap.size w6 (w6.alloc (.cells #[.int .i64 e.op, .int .i64 e.n, .string e.s, .slice A e.l.len c, .int .i64 e2.op, .int .i64 e2.n, .string e2.s, .slice A2 e2.l.len c2] 43)) := (Below.refl _ _).alloc (Nat.le_refl _) _
            have y4 := (Below.heap_alloc w6 (.cells #[.int .i64 e.op, .int .i64 e.n, .string e.s, .slice A e.l.len c, .int .i64 e2.op, .int .i64 e2.n, .string e2.s, .slice A2 e2.l.len c2] 43) W.heap.size (lt_heap (HB4'.out w6 g6))).trans (HB4'.out w6 g6)
            have z8 : (w6.alloc (.cells #[.int .i64 e.op, .int .i64 e.n, .string e.s, .slice A e.l.len c, .int .i64 e2.op, .int .i64 e2.n, .string e2.s, .slice A2 e2.l.len c2] 43)).heap.size = w6.heap.size + 1 := by simp
            obtain ⟨w8, hw8⟩ : ∃ W1, w6.alloc (.cells #[.int .i64 e.op, .int .i64 e.n, .string e.s, .slice A e.l.len c, .int .i64 e2.op, .int .i64 e2.n, .string e2.s, .slice A2 e2.l.len c2] 43) = W1 := ⟨_, rfl⟩
            rw [hw8] at y6 y8 hbl y4 z8 ⊢
            clear hw8
            have c0 := box_cell y6 0
            have c1 := box_cell y6 1
            have c3 := box_cell y6 2
            have c4 := box_cell y6 3
            have f0 := box_frozen y6 0
            have f1 := box_frozen y6 1
            have f2 := box_frozen y6 2
            have f3 := box_frozen y6 3
            simp at c0 c1 c3 c4
            refine wpAnyH_take (i := 7) (v := .agg #[.int .i64 op, .int .i64 0, .string ⟨#[]⟩, .slice (some ⟨w6.heap.size, 0, none⟩) 2 2]) rfl (by kernel_rfl) (by kernel_rfl) (by kernel_rfl) (fun _ _ _ h => h) (Or.inl ⟨by rfl, ?_⟩) trivial ?_
            · intro W' _
              go_simp
            try simp only [Act.put, List.getElem_toArray, List.getElem_cons_zero, List.getElem_cons_succ, List.setIfInBounds_toArray, List.set_cons_zero, List.set_cons_succ]
            refine wpAnyH_ready (rs := [8]) (by kernel_rfl) (by simp) ?_
            refine AllReadyH.cons rfl (fun K hK => ?_) AllReadyH.nil
            go_simp
            refine hK.out _ _ trivial (fun _ => ?_)
            clear hK K
            try simp only [Act.put, List.getElem_toArray, List.getElem_cons_zero, List.getElem_cons_succ, List.setIfInBounds_toArray, List.set_cons_zero, List.set_cons_succ]
            refine wpAnyH_done (by kernel_rfl) ?_ _
            go_wp2_with fail
            have zf : (put4 w8 n5 (.int .i64 op) (.int .i64 0) (.string ⟨#[]⟩) (.slice (some ⟨w6.heap.size, 0, none⟩) 2 2)).heap.size = w8.heap.size := by simp [put4]
            have z6 := g6.size
            have z46 : wr.heap.size ≤ w4.drew.heap.size := (g4.drew).size
            have gw : Gr rb wr w8 := g4.drew.trans (g6.trans (Gr.of hbl))
            have hE8 : EY (mk (W.heap.size + 1) n5) w8 (.slice A e.l.len c) e.l := EY.kp hE gw.size (fun k hk hk2 => gw.block hk2 (by have := hk.1; omega)) (fun k hk _ => hk)
            have hE9 : EY (mk (W.heap.size + 1) n5) w8 (.slice A2 e2.l.len c2) e2.l := EY.of_ex hv2 (Kp.below hbl) (fun k hk _ => ⟨by omega, by omega⟩)
            have hEE := ey_two y8 (p := mk (W.heap.size + 1) n5) ⟨by omega, by omega⟩ hE8 hok hE9 hok2
            have hRf := (h6.below hbl).put4 (n := n5) (a := .int .i64 op) (b := .int .i64 0) (c := .string ⟨#[]⟩) (d := .slice (some ⟨w6.heap.size, 0, none⟩) 2 2) (by omega) (by omega)
            refine ⟨⟨m, ⟨op, 0, nilS, toES e (toES e2 .nil)⟩, some ⟨w6.heap.size, 0, none⟩, 2, i2, by rw [hd2]; exact hy, hRf, ((HG2.out).trans gw).put4 (by omega), (put4_block (by omega)).trans y4, put4_heap y6, EY.kp hEE (Nat.le_of_eq zf.symm) (fun k hk _ => put4_block hk.2) (fun k hk _ => hk), okE_of hop⟩, ?_⟩
            show posR rb N (put4 w8 n5 (.int .i64 op) (.int .i64 0) (.string ⟨#[]⟩) (.slice (some ⟨w6.heap.size, 0, none⟩) 2 2)) < posR rb N wr
            rw [posR_eq hRf, posR_eq HR2.out]
            have hl2 := h6.lt
            have hl1 := h6.len
            rw [← hd2, List.length_drop, List.length_drop] at hlen2
            clear hw hws
            have hl3 : i < i2 := by omega
            have hl4' : i2 < N := hl2
            exact Nat.sub_lt_sub_left (Nat.lt_trans hl3 hl4') hl3

set_option maxRecDepth 100000 in
theorem bind_bad {W : World} {rb g N cT i o : Nat} {T : List Tok} (h : Rd W rb g N cT T i o) (least : Nat) (p c : Nat)
    (HS : ∀ W2, Rd W2 rb g N cT T i o → Calls Tryd.prog 88 #[.pointer (some ⟨rb, 0, none⟩)] W2 (XP rb g N cT o T W2 (.bad p c))) :
    Calls Tryd.prog 87 #[.pointer (some ⟨rb, 0, none⟩), .int .i64 least] W (XP rb g N cT o T W (.bad p c)) := by
  have HSS := Lib.hid HS
  have HR := Lib.hid h
  clear HS h
  go_enter Tryd.func87, Tryd.ntmps87
  go_wp2_with (go_at_call 88; ((with_reducible refine (HSS.out _ (HR.out.alloc _)).mono ?_); rintro e w2 ⟨rfl, g2⟩))
  exact ⟨rfl, rfl, ((Gr.refl rb W).alloc _).trans g2⟩

/-- An expression whose operations of two bind at least that strongly. -/
theorem bind_any {W : World} {rb g N cT i o : Nat} {T : List Tok} (h : Rd W rb g N cT T i o) (ex : Nat → Nat → List Tok → PR Ex) (least m : Nat) (hl : 1 ≤ least) (hl5 : least ≤ 6)
    (hx : ((singleT ex m o (T.drop i)).bind fun e r => loopT ex m least e o r) ≠ .out) (HLn : ∀ l ts v r, ex l o ts = .ok v r → r.length ≤ ts.length)
    (HS : ∀ W2, Rd W2 rb g N cT T i o → singleT ex m o (T.drop i) ≠ .out → Calls Tryd.prog 88 #[.pointer (some ⟨rb, 0, none⟩)] W2 (XP rb g N cT o T W2 (singleT ex m o (T.drop i))))
    (HB : ∀ W2 i' l', Rd W2 rb g N cT T i' o → 1 ≤ l' → l' ≤ 6 → ex l' o (T.drop i') ≠ .out → Calls Tryd.prog 87 #[.pointer (some ⟨rb, 0, none⟩), .int .i64 l'] W2 (XP rb g N cT o T W2 (ex l' o (T.drop i')))) :
    Calls Tryd.prog 87 #[.pointer (some ⟨rb, 0, none⟩), .int .i64 least] W (XP rb g N cT o T W ((singleT ex m o (T.drop i)).bind fun e r => loopT ex m least e o r)) := by
  have hso : singleT ex m o (T.drop i) ≠ .out := fun e => by rw [e] at hx; exact hx rfl
  have HS := fun W2 h2 => HS W2 h2 hso
  generalize singleT ex m o (T.drop i) = x at HS hx hso ⊢
  cases x with
  | ok v r => exact bind_loop h ex least m hl hl5 v r _ rfl hx HLn HS HB
  | bad p c => exact bind_bad h least p c HS
  | out => exact absurd rfl hso

end Go.Proofs.YtaajolemjgdfnaaDoor

/-
  Package parse: what begins with a name (named): no name, a variable, a place of an array.
-/
namespace Go.Proofs.YtaajolemjgdfnaaDoor
open Go Go.RowKit Go.Lib

set_option maxRecDepth 100000 in
theorem nm_no {W : World} {rb g N cT i o : Nat} {T : List Tok} (h : Rd W rb g N cT T i o) (hb : nameB (baT (hdT (T.drop i)).text) = false) (p : Nat) (hp : (hdT (T.drop i)).at_ = p) :
    Calls Tryd.prog 91 #[.pointer (some ⟨rb, 0, none⟩)] W (XP rb g N cT o T W (.bad p 2)) := by
  have HE := Lib.hid (fun W1 (h1 : Rd W1 rb g N cT T i o) => name_no h1 hb p hp)
  have HR := Lib.hid h
  clear h hb hp
  go_enter Tryd.func91, Tryd.ntmps91
  go_wp2_with (go_at_call 69; ((with_reducible refine (HE.out _ (HR.out.alloc _)).mono ?_); rintro e w2 ⟨rfl, g2⟩))
  exact ⟨rfl, rfl, ((Gr.refl rb W).alloc _).trans (Gr.of g2)⟩

set_option maxRecDepth 100000 in
theorem nm_var {W : World} {rb g N cT i o : Nat} {T : List Tok} (h : Rd W rb g N cT T i o) (t : List UInt8) (ht : (hdT (T.drop i)).text = t) (hb : nameB (baT t) = true) (b1 : isT (T.drop (i + 1)) [91] = false) (b2 : isT (T.drop (i + 1)) [40] = false) :
    Calls Tryd.prog 91 #[.pointer (some ⟨rb, 0, none⟩)] W (XP rb g N cT o T W (.ok ⟨2, 0, baT t, .nil⟩ (T.drop (i + 1)))) := by
  have HE := Lib.hid (fun W1 (h1 : Rd W1 rb g N cT T i o) => name_yes h1 t ht hb)
  have HI1 := Lib.hid (fun w1 (h1 : Rd w1 rb g N cT T (i + 1) o) => (show Calls Tryd.prog 53 #[.pointer (some ⟨rb, 0, none⟩), .string ⟨#[91]⟩] w1 fun e w' => e = .returned (.bool false) ∧ Below w1.heap.size w1 w' from is_any h1 [91] false b1))
  have HI2 := Lib.hid (fun w1 (h1 : Rd w1 rb g N cT T (i + 1) o) => (show Calls Tryd.prog 53 #[.pointer (some ⟨rb, 0, none⟩), .string ⟨#[40]⟩] w1 fun e w' => e = .returned (.bool false) ∧ Below w1.heap.size w1 w' from is_any h1 [40] false b2))
  have htx := h.text
  rw [ht] at htx
  have hrl := h.rlt
  have hgl := h.tok.1
  have h0 := h.alloc (.cells #[.int .i64 0, .int .i64 0, .string ⟨#[]⟩, .slice none 0 0] 43)
  have B6 := heap_alloc_new W (.cells #[.int .i64 0, .int .i64 0, .string ⟨#[]⟩, .slice none 0 0] 43)
  have g0 := (Gr.refl rb W).alloc (.cells #[.int .i64 0, .int .i64 0, .string ⟨#[]⟩, .slice none 0 0] 43)
  have z0 : (W.alloc (.cells #[.int .i64 0, .int .i64 0, .string ⟨#[]⟩, .slice none 0 0] 43)).heap.size = W.heap.size + 1 := by simp
  clear h ht hb b1 b2
  go_enter Tryd.func91, Tryd.ntmps91
  go_upto_region 1 with fail
  obtain ⟨w0, hw0⟩ : ∃ W1, W.alloc (.cells #[.int .i64 0, .int .i64 0, .string ⟨#[]⟩, .slice none 0 0] 43) = W1 := ⟨_, rfl⟩
  rw [hw0] at h0 B6 g0 z0 ⊢
  clear hw0
  go_upto_region 2 with (go_at_call 69; ((with_reducible refine (HE.out _ h0).mono ?_); rintro e w1 ⟨rfl, h1, g1⟩))
  have z1 := g1.size
  have h2 := h1.alloc (.cells #[.int .i64 2, .int .i64 0, .string (baT t), .slice none 0 0] 43)
  have B7 := heap_alloc_new w1 (.cells #[.int .i64 2, .int .i64 0, .string (baT t), .slice none 0 0] 43)
  have g2 := (g0.trans g1).alloc (.cells #[.int .i64 2, .int .i64 0, .string (baT t), .slice none 0 0] 43)
  have B8 := (Below.heap_alloc w1 (.cells #[.int .i64 2, .int .i64 0, .string (baT t), .slice none 0 0] 43) W.heap.size (by omega)).trans ((g1.block (k := W.heap.size) (by omega) (by omega)).trans B6)
  obtain ⟨w2, hw2⟩ : ∃ W1, w1.alloc (.cells #[.int .i64 2, .int .i64 0, .string (baT t), .slice none 0 0] 43) = W1 := ⟨_, rfl⟩
  rw [hw2] at h2 B7 g2 B8 ⊢
  clear hw2
  go_wp2_with (first
    | (go_at_call 53; ((with_reducible refine (HI1.out _ h2).mono ?_); rintro e w3 ⟨rfl, e3⟩; have h3 := h2.below e3))
    | (go_at_call 53; ((with_reducible refine (HI2.out _ h3).mono ?_); rintro e w4 ⟨rfl, e4⟩; have h4 := h3.below e4; have q := e3.trans (e4.mono e3.size); have B9 := (q.block _ (lt_heap B8)).trans B8; have B10 := (q.block _ (lt_heap B7)).trans B7; have c0 := box_cell B9 0; have c1 := box_cell B9 1; have c2 := box_cell B9 2; have c3 := box_cell B9 3; have f0 := box_frozen B9 0; have f1 := box_frozen B9 1; have f2 := box_frozen B9 2; have f3 := box_frozen B9 3; have d0 := box_cell B10 0; have d1 := box_cell B10 1; have d2 := box_cell B10 2; have d3 := box_cell B10 3; simp at c0 c1 c2 c3 d0 d1 d2 d3)))
  have hP := ret4 (a := .int .i64 2) (b := .int .i64 0) (c := .string (baT t)) (d := .slice none 0 0) B9
  have hz := q.size
  have hfin : XP rb g N cT o T W (.ok ⟨2, 0, baT t, .nil⟩ (T.drop (i + 1))) (.returned (.agg #[.int .i64 2, .int .i64 0, .string (baT t), .slice none 0 0])) (put4 w4 W.heap.size (.int .i64 2) (.int .i64 0) (.string (baT t)) (.slice none 0 0)) :=
    ⟨⟨_, rfl, _, rfl, ex_nil _ _, (show I64 2 by unfold I64; omega), i64_0, htx⟩, ⟨i + 1, h4.put4 (by omega) (by omega), rfl⟩, (g2.trans (Gr.of q)).put4 (Nat.le_refl _)⟩
  obtain ⟨w5, hw5⟩ : ∃ W5, put4 w4 W.heap.size (.int .i64 2) (.int .i64 0) (.string (baT t)) (.slice none 0 0) = W5 := ⟨_, rfl⟩
  show bodyPost _ _ _ _ _ (put4 w4 W.heap.size (.int .i64 2) (.int .i64 0) (.string (baT t)) (.slice none 0 0))
  rw [hw5] at hP hfin ⊢
  have p0 := hP 0 (by decide)
  have p1 := hP 1 (by decide)
  have p2 := hP 2 (by decide)
  have p3 := hP 3 (by decide)
  exact bodyPost_ret (v := .agg #[.int .i64 2, .int .i64 0, .string (baT t), .slice none 0 0]) (by simp [results, Tryd.results91, go_sem, p0, p1, p2, p3]) rfl hfin

theorem set_heap4 {W : World} {n : Nat} {x y z u a : Value} {t : TypeId} (h : W.heap[n]? = some (.cells #[x, y, z, u] t)) : (W.setCell ⟨n, 0, none⟩ a).heap[n]? = some (.cells #[a, y, z, u] t) ∧ (W.setCell ⟨n, 3, none⟩ a).heap[n]? = some (.cells #[x, y, z, a] t) := by
  constructor <;> simp [World.setCell, Array.getElem?_modify, h]

set_option maxRecDepth 100000 in
theorem nm_idx_ok {W : World} {rb g N cT i o : Nat} {T : List Tok} (h : Rd W rb g N cT T i o) (t : List UInt8) (ht : (hdT (T.drop i)).text = t) (hb : nameB (baT t) = true) (b1 : isT (T.drop (i + 1)) [91] = true) (v : Ex) (r : List Tok)
    (HS : ∀ W2, Rd W2 rb g N cT T (i + 1) o → Calls Tryd.prog 86 #[.pointer (some ⟨rb, 0, none⟩), .string ⟨#[91]⟩, .string ⟨#[93]⟩] W2 (XP rb g N cT o T W2 (.ok v r))) :
    Calls Tryd.prog 91 #[.pointer (some ⟨rb, 0, none⟩)] W (XP rb g N cT o T W (.ok ⟨4, 0, baT t, toES v .nil⟩ r)) := by
  have HE := Lib.hid (fun W1 (h1 : Rd W1 rb g N cT T i o) => name_yes h1 t ht hb)
  have HI1 := Lib.hid (fun w1 (h1 : Rd w1 rb g N cT T (i + 1) o) => (show Calls Tryd.prog 53 #[.pointer (some ⟨rb, 0, none⟩), .string ⟨#[91]⟩] w1 fun e w' => e = .returned (.bool true) ∧ Below w1.heap.size w1 w' from is_any h1 [91] true b1))
  have HSS := Lib.hid HS
  have htx := h.text
  rw [ht] at htx
  have hrl := h.rlt
  have hgl := h.tok.1
  have h0 := h.alloc (.cells #[.int .i64 0, .int .i64 0, .string ⟨#[]⟩, .slice none 0 0] 43)
  have B6 := heap_alloc_new W (.cells #[.int .i64 0, .int .i64 0, .string ⟨#[]⟩, .slice none 0 0] 43)
  have g0 := (Gr.refl rb W).alloc (.cells #[.int .i64 0, .int .i64 0, .string ⟨#[]⟩, .slice none 0 0] 43)
  have z0 : (W.alloc (.cells #[.int .i64 0, .int .i64 0, .string ⟨#[]⟩, .slice none 0 0] 43)).heap.size = W.heap.size + 1 := by simp
  clear h ht hb b1 HS
  go_enter Tryd.func91, Tryd.ntmps91
  go_upto_region 1 with fail
  obtain ⟨w0, hw0⟩ : ∃ W1, W.alloc (.cells #[.int .i64 0, .int .i64 0, .string ⟨#[]⟩, .slice none 0 0] 43) = W1 := ⟨_, rfl⟩
  rw [hw0] at h0 B6 g0 z0 ⊢
  clear hw0
  go_upto_region 2 with (go_at_call 69; ((with_reducible refine (HE.out _ h0).mono ?_); rintro e w1 ⟨rfl, h1, g1⟩))
  have z1 := g1.size
  have h2 := h1.alloc (.cells #[.int .i64 2, .int .i64 0, .string (baT t), .slice none 0 0] 43)
  have B7 := heap_alloc_new w1 (.cells #[.int .i64 2, .int .i64 0, .string (baT t), .slice none 0 0] 43)
  have g2 := (g0.trans g1).alloc (.cells #[.int .i64 2, .int .i64 0, .string (baT t), .slice none 0 0] 43)
  have z2 : (w1.alloc (.cells #[.int .i64 2, .int .i64 0, .string (baT t), .slice none 0 0] 43)).heap.size = w1.heap.size + 1 := by simp
  have B8 := (Below.heap_alloc w1 (.cells #[.int .i64 2, .int .i64 0, .string (baT t), .slice none 0 0] 43) W.heap.size (by omega)).trans ((g1.block (k := W.heap.size) (by omega) (by omega)).trans B6)
  obtain ⟨w2, hw2⟩ : ∃ W1, w1.alloc (.cells #[.int .i64 2, .int .i64 0, .string (baT t), .slice none 0 0] 43) = W1 := ⟨_, rfl⟩
  rw [hw2] at h2 B7 g2 B8 z2 ⊢
  clear hw2
  obtain ⟨n3, hn3⟩ : ∃ n3, w1.heap.size = n3 := ⟨_, rfl⟩
  rw [hn3] at B7 z2 z1 ⊢
  have HB7 := Lib.hid (fun w3 (e3 : Below w2.heap.size w2 w3) => (e3.block _ (lt_heap B7)).trans B7)
  have HC7 := Lib.hid (fun w3 (e3 : Below w2.heap.size w2 w3) (j : Nat) => box_cell (HB7.out w3 e3) j)
  have HF7 := Lib.hid (fun w3 (e3 : Below w2.heap.size w2 w3) (j : Nat) => box_frozen (HB7.out w3 e3) j)
  go_upto_region 4 with (go_at_call 53; ((with_reducible refine (HI1.out _ h2).mono ?_); rintro e w3 ⟨rfl, e3⟩; have c0 := HC7.out w3 e3 0; have f0 := HF7.out w3 e3 0; simp at c0))
  have z3 := e3.size
  have h4 := (h2.below e3).set (b := n3) (j := 0) (.int .i64 4) (by omega) (by omega)
  have g4 := (g2.trans (Gr.of e3)).setNew (j := 0) (.int .i64 4) (show W.heap.size ≤ n3 by omega)
  have B7 := (set_heap4 (a := .int .i64 4) (HB7.out w3 e3)).1
  have B8 := (Below.heap_setCell w3 ⟨n3, 0, none⟩ (.int .i64 4) W.heap.size (show W.heap.size ≠ n3 by omega)).trans ((e3.block _ (lt_heap B8)).trans B8)
  have z4 : (w3.setCell ⟨n3, 0, none⟩ (.int .i64 4)).heap.size = w3.heap.size := by simp
  obtain ⟨w4, hw4⟩ : ∃ W1, w3.setCell ⟨n3, 0, none⟩ (.int .i64 4) = W1 := ⟨_, rfl⟩
  rw [hw4] at h4 B7 g4 B8 z4 ⊢
  clear hw4 c0 f0
  have HB7 := Lib.hid (fun w5 (g5 : Gr rb w4 w5) => (g5.block (lt_heap B7) (by omega)).trans B7)
  have HB8 := Lib.hid (fun w5 (g5 : Gr rb w4 w5) => (g5.block (lt_heap B8) (by omega)).trans B8)
  have HA7 := Lib.hid (fun w5 (g5 : Gr rb w4 w5) c => (Below.heap_alloc w5 c n3 (lt_heap (HB7.out w5 g5))).trans (HB7.out w5 g5))
  have HA8 := Lib.hid (fun w5 (g5 : Gr rb w4 w5) c => (Below.heap_alloc w5 c W.heap.size (lt_heap (HB8.out w5 g5))).trans (HB8.out w5 g5))
  have HC7 := Lib.hid (fun w5 (g5 : Gr rb w4 w5) c (j : Nat) => box_cell (HA7.out w5 g5 c) j)
  have HF7 := Lib.hid (fun w5 (g5 : Gr rb w4 w5) c (j : Nat) => box_frozen (HA7.out w5 g5 c) j)
  go_upto_region 8 with (go_at_call 86; ((with_reducible refine (HSS.out _ h4).mono ?_); rintro e w5 ⟨⟨vv, rfl, vl, rfl, hv, hok⟩, ⟨i', h5, hd⟩, g5⟩; obtain ⟨Al, cl, el, _⟩ := id hv; subst el; have c3 := HC7.out w5 g5 (.cells #[.int .i64 v.op, .int .i64 v.n, .string v.s, .slice Al v.l.len cl] 43) 3; have f3 := HF7.out w5 g5 (.cells #[.int .i64 v.op, .int .i64 v.n, .string v.s, .slice Al v.l.len cl] 43) 3; simp only [List.getElem?_toArray, List.getElem?_cons_succ, List.getElem?_cons_zero] at c3))
  have z5 := g5.size
  have hl7 := lt_heap (HB7.out w5 g5)
  have hl8 := lt_heap (HB8.out w5 g5)
  have hA := heap_alloc_new w5 (.cells #[.int .i64 v.op, .int .i64 v.n, .string v.s, .slice Al v.l.len cl] 43)
  have hEX : EX (n3 + 1) (w5.alloc (.cells #[.int .i64 v.op, .int .i64 v.n, .string v.s, .slice Al v.l.len cl] 43)) (.slice (some ⟨w5.heap.size, 0, none⟩) 1 1) (toES v .nil) := ex_one hA (by omega) (hv.kp (Kp.below ((Below.refl _ _).alloc (Nat.le_refl _) _)) (by omega)) hok
  have hE6 : EX (n3 + 1) ((w5.alloc (.cells #[.int .i64 v.op, .int .i64 v.n, .string v.s, .slice Al v.l.len cl] 43)).setCell ⟨n3, 3, none⟩ (.slice (some ⟨w5.heap.size, 0, none⟩) 1 1)) (.slice (some ⟨w5.heap.size, 0, none⟩) 1 1) (toES v .nil) := hEX.kp (Kp.set _ (Nat.lt_succ_self _)) (Nat.le_refl _)
  have h6 := (h5.alloc (.cells #[.int .i64 v.op, .int .i64 v.n, .string v.s, .slice Al v.l.len cl] 43)).set (b := n3) (j := 3) (.slice (some ⟨w5.heap.size, 0, none⟩) 1 1) (by omega) (by omega)
  have g6 := ((g4.trans g5).alloc (.cells #[.int .i64 v.op, .int .i64 v.n, .string v.s, .slice Al v.l.len cl] 43)).setNew (j := 3) (.slice (some ⟨w5.heap.size, 0, none⟩) 1 1) (show W.heap.size ≤ n3 by omega)
  have B9 := (set_heap4 (a := .slice (some ⟨w5.heap.size, 0, none⟩) 1 1) (HA7.out w5 g5 (.cells #[.int .i64 v.op, .int .i64 v.n, .string v.s, .slice Al v.l.len cl] 43))).2
  have B10 := (Below.heap_setCell (w5.alloc (.cells #[.int .i64 v.op, .int .i64 v.n, .string v.s, .slice Al v.l.len cl] 43)) ⟨n3, 3, none⟩ (.slice (some ⟨w5.heap.size, 0, none⟩) 1 1) W.heap.size (show W.heap.size ≠ n3 by omega)).trans (HA8.out w5 g5 (.cells #[.int .i64 v.op, .int .i64 v.n, .string v.s, .slice Al v.l.len cl] 43))
  obtain ⟨w6, hw6⟩ : ∃ W1, (w5.alloc (.cells #[.int .i64 v.op, .int .i64 v.n, .string v.s, .slice Al v.l.len cl] 43)).setCell ⟨n3, 3, none⟩ (.slice (some ⟨w5.heap.size, 0, none⟩) 1 1) = W1 := ⟨_, rfl⟩
  rw [hw6] at hE6 h6 g6 B9 B10 ⊢
  clear hw6 c3 f3 hEX hA
  have c0 := box_cell B10 0
  have c1 := box_cell B10 1
  have c2 := box_cell B10 2
  have c3 := box_cell B10 3
  have f0 := box_frozen B10 0
  have f1 := box_frozen B10 1
  have f2 := box_frozen B10 2
  have f3 := box_frozen B10 3
  have d0 := box_cell B9 0
  have d1 := box_cell B9 1
  have d2 := box_cell B9 2
  have d3 := box_cell B9 3
  simp at c0 c1 c2 c3 d0 d1 d2 d3
  have hP := ret4 (a := .int .i64 4) (b := .int .i64 0) (c := .string (baT t)) (d := .slice (some ⟨w5.heap.size, 0, none⟩) 1 1) B10
  have hfin : XP rb g N cT o T W (.ok ⟨4, 0, baT t, toES v .nil⟩ r) (.returned (.agg #[.int .i64 4, .int .i64 0, .string (baT t), .slice (some ⟨w5.heap.size, 0, none⟩) 1 1])) (put4 w6 W.heap.size (.int .i64 4) (.int .i64 0) (.string (baT t)) (.slice (some ⟨w5.heap.size, 0, none⟩) 1 1)) :=
    ⟨⟨_, rfl, _, rfl, hE6.kp (Kp.put4 (by omega)) (by omega), (show I64 4 by unfold I64; omega), i64_0, htx⟩, ⟨i', h6.put4 (by omega) (by omega), hd⟩, g6.put4 (Nat.le_refl _)⟩
  go_wp2
  obtain ⟨w7, hw7⟩ : ∃ W5, put4 w6 W.heap.size (.int .i64 4) (.int .i64 0) (.string (baT t)) (.slice (some ⟨w5.heap.size, 0, none⟩) 1 1) = W5 := ⟨_, rfl⟩
  show bodyPost _ _ _ _ _ (put4 w6 W.heap.size (.int .i64 4) (.int .i64 0) (.string (baT t)) (.slice (some ⟨w5.heap.size, 0, none⟩) 1 1))
  rw [hw7] at hP hfin ⊢
  have p0 := hP 0 (by decide)
  have p1 := hP 1 (by decide)
  have p2 := hP 2 (by decide)
  have p3 := hP 3 (by decide)
  exact bodyPost_ret (v := .agg #[.int .i64 4, .int .i64 0, .string (baT t), .slice (some ⟨w5.heap.size, 0, none⟩) 1 1]) (by simp [results, Tryd.results91, go_sem, p0, p1, p2, p3]) rfl hfin

set_option maxRecDepth 100000 in
theorem nm_idx_bad {W : World} {rb g N cT i o : Nat} {T : List Tok} (h : Rd W rb g N cT T i o) (t : List UInt8) (ht : (hdT (T.drop i)).text = t) (hb : nameB (baT t) = true) (b1 : isT (T.drop (i + 1)) [91] = true) (p c : Nat)
    (HS : ∀ W2, Rd W2 rb g N cT T (i + 1) o → Calls Tryd.prog 86 #[.pointer (some ⟨rb, 0, none⟩), .string ⟨#[91]⟩, .string ⟨#[93]⟩] W2 (XP rb g N cT o T W2 (.bad p c))) :
    Calls Tryd.prog 91 #[.pointer (some ⟨rb, 0, none⟩)] W (XP rb g N cT o T W (.bad p c)) := by
  have HE := Lib.hid (fun W1 (h1 : Rd W1 rb g N cT T i o) => name_yes h1 t ht hb)
  have HI1 := Lib.hid (fun w1 (h1 : Rd w1 rb g N cT T (i + 1) o) => (show Calls Tryd.prog 53 #[.pointer (some ⟨rb, 0, none⟩), .string ⟨#[91]⟩] w1 fun e w' => e = .returned (.bool true) ∧ Below w1.heap.size w1 w' from is_any h1 [91] true b1))
  have HSS := Lib.hid HS
  have hrl := h.rlt
  have hgl := h.tok.1
  have HR := Lib.hid h
  clear h ht hb b1 HS
  go_enter Tryd.func91, Tryd.ntmps91
  go_upto_region 2 with (go_at_call 69; ((with_reducible refine (HE.out _ (HR.out.alloc _)).mono ?_); rintro e w1 ⟨rfl, h1, g1⟩))
  have z1 := g1.size
  rw [World.size_alloc] at z1
  have h2 := h1.alloc (.cells #[.int .i64 2, .int .i64 0, .string (baT t), .slice none 0 0] 43)
  have g2 := (((Gr.refl rb W).alloc (.cells #[.int .i64 0, .int .i64 0, .string ⟨#[]⟩, .slice none 0 0] 43)).trans g1).alloc (.cells #[.int .i64 2, .int .i64 0, .string (baT t), .slice none 0 0] 43)
  have B7 := heap_alloc_new w1 (.cells #[.int .i64 2, .int .i64 0, .string (baT t), .slice none 0 0] 43)
  obtain ⟨w2, hw2⟩ : ∃ W1, w1.alloc (.cells #[.int .i64 2, .int .i64 0, .string (baT t), .slice none 0 0] 43) = W1 := ⟨_, rfl⟩
  rw [hw2] at h2 B7 g2 ⊢
  clear hw2
  obtain ⟨n3, hn3⟩ : ∃ n3, w1.heap.size = n3 := ⟨_, rfl⟩
  rw [hn3] at B7 z1 ⊢
  have HB7 := Lib.hid (fun w3 (e3 : Below w2.heap.size w2 w3) => (e3.block _ (lt_heap B7)).trans B7)
  have HC7 := Lib.hid (fun w3 (e3 : Below w2.heap.size w2 w3) (j : Nat) => box_cell (HB7.out w3 e3) j)
  have HF7 := Lib.hid (fun w3 (e3 : Below w2.heap.size w2 w3) (j : Nat) => box_frozen (HB7.out w3 e3) j)
  have HR4 := Lib.hid (fun w3 (e3 : Below w2.heap.size w2 w3) => (h2.below e3).set (b := n3) (j := 0) (.int .i64 4) (by omega) (by omega))
  have HG4 := Lib.hid (fun w3 (e3 : Below w2.heap.size w2 w3) => (g2.trans (Gr.of e3)).setNew (j := 0) (.int .i64 4) (show W.heap.size ≤ n3 by omega))
  clear B7
  go_wp2_with (first
    | (go_at_call 53; ((with_reducible refine (HI1.out _ h2).mono ?_); rintro e w3 ⟨rfl, e3⟩; have c0 := HC7.out w3 e3 0; have f0 := HF7.out w3 e3 0; simp at c0))
    | (go_at_call 86; ((with_reducible refine (HSS.out _ (HR4.out _ e3)).mono ?_); rintro e w5 ⟨rfl, g5⟩)))
  exact ⟨rfl, rfl, (HG4.out _ e3).trans g5⟩

end Go.Proofs.YtaajolemjgdfnaaDoor

/-
  Package parse: expressions that are gathered in a row of the call's own.
-/
namespace Go.Proofs.YtaajolemjgdfnaaDoor
open Go Go.RowKit Go.Lib

/-- The cells of expressions that lie one behind the other. -/
def xCs (p : Nat → Prop) [DecidablePred p] (W : World) : List Ex → List Value → Prop
  | [] => fun cs => cs = []
  | e :: r => fun cs => ∃ A c rest, cs = .int .i64 e.op :: .int .i64 e.n :: .string e.s :: .slice A e.l.len c :: rest ∧ EY p W (.slice A e.l.len c) e.l ∧ okE e ∧ xCs p W r rest
section
variable {p q : Nat → Prop} [DecidablePred p] [DecidablePred q] {W W' : World}
theorem xCs.len : ∀ {l : List Ex} {cs : List Value}, xCs p W l cs → cs.length = l.length * 4
  | [], _, h => by rw [show _ = [] from h]; rfl
  | _ :: r, _, ⟨_, _, rest, e, _, _, hr⟩ => by rw [e]; simp [xCs.len hr]; omega
theorem xCs.kp (hs : W.heap.size ≤ W'.heap.size) (hk : ∀ k, p k → k < W.heap.size → W'.heap[k]? = W.heap[k]?) (hp : ∀ k, p k → k < W.heap.size → q k) : ∀ {l : List Ex} {cs : List Value}, xCs p W l cs → xCs q W' l cs
  | [], _, h => h
  | _ :: _, _, ⟨A, c, rest, e, h1, h2, hr⟩ => ⟨A, c, rest, e, h1.kp hs hk hp, h2, xCs.kp hs hk hp hr⟩
theorem xCs.snoc {e : Ex} {A : Option Addr} {c : Nat} (h1 : EY p W (.slice A e.l.len c) e.l) (h2 : okE e) : ∀ {l : List Ex} {cs : List Value}, xCs p W l cs → xCs p W (l ++ [e]) (cs ++ [.int .i64 e.op, .int .i64 e.n, .string e.s, .slice A e.l.len c])
  | [], cs, h => by rw [show cs = [] from h]; exact ⟨A, c, [], rfl, h1, h2, rfl⟩
  | _ :: _, cs, ⟨A', c', rest, e', h3, h4, hr⟩ => ⟨A', c', rest ++ _, by rw [e']; rfl, h3, h4, xCs.snoc h1 h2 hr⟩
theorem exES_len : ∀ l : List Ex, (exES l).len = l.length
  | [] => rfl
  | _ :: r => by rw [exES, toES, ES.len, exES_len r, List.length_cons]
theorem xCs.in_ {lo g : Nat} (hp : ∀ k, p k → lo ≤ k) : ∀ {l : List Ex} {cs : List Value} {o : Nat}, xCs p W l cs → (∀ j u, cs[j]? = some u → (er lo W).cell? ⟨g, o + j, none⟩ = some u) → (exES l).In W.heap.size (er lo W) g o
  | [], _, _, _, _ => trivial
  | e :: _, _, o, ⟨A, c, rest, e1, h1, h2, hr⟩, hq => by
    subst e1
    have hv : EX lo W (.slice A e.l.len c) e.l := EX.of_ey h1 (Nat.le_refl _) (fun _ _ _ => rfl) hp
    exact ⟨hq 0 _ rfl, hq 1 _ rfl, hq 2 _ rfl, ⟨_, hq 3 _ rfl, hv⟩, h2, xCs.in_ hp hr fun j u hu => by
      rw [show o + 4 + j = o + (j + 4) by omega]
      exact hq (j + 4) u (by simpa using hu)⟩
end
/-- A row of the call's own that holds such cells is a list of expressions. -/
theorem row_ex {p : Nat → Prop} [DecidablePred p] {W : World} {base lo n : Nat} {e : TypeId} {v : Value} {l : List Ex} {cs : List Value} (h : W.ownsRow base e 4 v n cs) (hb : lo ≤ base) (hc : xCs p W l cs) (hp : ∀ k, p k → lo ≤ k) (hn : n = l.length) : EX lo W v (exES l) := by
  rcases h.2 with ⟨rfl, rfl⟩ | ⟨g, cap, cur, rfl, hg, hh, hnc, hcm, hrest⟩
  · have hl : l = [] := List.eq_nil_of_length_eq_zero hn.symm
    subst hl
    exact ex_nil lo W
  · subst hn
    refine ⟨some ⟨g, 0, none⟩, cap, by rw [exES_len], by rw [exES_len]; exact hnc, by unfold maxLen at hcm; omega, fun _ => ⟨g, 0, rfl, (h.lt g rfl).2, xCs.in_ hp hc fun j u hu => ?_⟩⟩
    have hcj := h.cells (g := g) rfl j u hu
    rw [show (⟨g, 0, none⟩ : Addr).add j = ⟨g, j, none⟩ by unfold Addr.add; split <;> simp_all] at hcj
    rw [Nat.zero_add, er_cell, if_neg (by have := (h.lt g rfl).1; omega)]
    exact hcj

end Go.Proofs.YtaajolemjgdfnaaDoor

/-
  Package parse: what a call is of (several, of expressions).
-/
namespace Go.Proofs.YtaajolemjgdfnaaDoor
open Go Go.RowKit Go.Lib

/-- What a call that reads expressions has done. -/
def LP (rb g N cT o : Nat) (T : List Tok) (W : World) (x : PR (List Ex)) (e : Ending) (W' : World) : Prop :=
  match x with
  | .ok l r => (∃ vv, e = .returned vv ∧ EX W.heap.size W' vv (exES l)) ∧ (∃ i, Rd W' rb g N cT T i o ∧ T.drop i = r) ∧ Gr rb W W'
  | .bad p c => e = flt p c ∧ Gr rb W W'
  | .out => True
/-- The function that is handed in: the reader's own expression. -/
abbrev ovE (rb : Nat) : Value := .func (.func 85) #[.pointer (some ⟨rb, 0, none⟩)] #[]

set_option maxRecDepth 100000 in
theorem sv_deep {W : World} {rb g N cT i : Nat} {T : List Tok} (h : Rd W rb g N cT T i 256) (b1 : isT (T.drop i) [40] = true) :
    Calls Tryd.prog 92 #[.pointer (some ⟨rb, 0, none⟩), ovE rb] W (LP rb g N cT 256 T W (.bad (hdT (T.drop i)).at_ 3)) := by
  have HE := Lib.hid (show Calls Tryd.prog 76 #[.pointer (some ⟨rb, 0, none⟩), .string ⟨#[40]⟩] W fun e w' => e = flt (hdT (T.drop i)).at_ 3 ∧ Below W.heap.size W w' from enter_deep h [40] b1 _ rfl)
  clear h b1
  go_enter Tryd.func92, Tryd.ntmps92
  go_wp2_with (go_at_call 76; ((with_reducible refine HE.out.mono ?_); rintro e w2 ⟨rfl, g2⟩))
  exact ⟨rfl, rfl, Gr.of g2⟩

set_option maxRecDepth 100000 in
theorem sv_none {W : World} {rb g N cT i o : Nat} {T : List Tok} (h : Rd W rb g N cT T i o) (b1 : isT (T.drop i) [40] = true) (ho : o < 256) (b2 : isT (T.drop (i + 1)) [41] = true) :
    Calls Tryd.prog 92 #[.pointer (some ⟨rb, 0, none⟩), ovE rb] W (LP rb g N cT o T W (.ok [] (T.drop (i + 2)))) := by
  have HE := Lib.hid (show Calls Tryd.prog 76 #[.pointer (some ⟨rb, 0, none⟩), .string ⟨#[40]⟩] W fun e w' => e = .returned (.tuple #[]) ∧ Rd w' rb g N cT T (i + 1) (o + 1) ∧ Gr rb W w' from enter_yes h [40] (by decide) b1 ho)
  have HI := Lib.hid (fun w1 (h1 : Rd w1 rb g N cT T (i + 1) (o + 1)) => (show Calls Tryd.prog 53 #[.pointer (some ⟨rb, 0, none⟩), .string ⟨#[41]⟩] w1 fun e w' => e = .returned (.bool true) ∧ Below w1.heap.size w1 w' from is_any h1 [41] true b2))
  have HL := Lib.hid (fun w1 (h1 : Rd w1 rb g N cT T (i + 1) (o + 1)) => (show Calls Tryd.prog 77 #[.pointer (some ⟨rb, 0, none⟩), .string ⟨#[41]⟩] w1 fun e w' => e = .returned (.tuple #[]) ∧ Rd w' rb g N cT T (i + 1 + 1) o ∧ Gr rb w1 w' from leave_yes h1 [41] (by decide) b2))
  clear h b1 b2
  go_enter Tryd.func92, Tryd.ntmps92
  go_wp2_with (first
    | (go_at_call 76; ((with_reducible refine HE.out.mono ?_); rintro e w1 ⟨rfl, h1, g1⟩))
    | (go_at_call 53; ((with_reducible refine (HI.out _ h1).mono ?_); rintro e w2 ⟨rfl, e2⟩; have h2 := h1.below e2))
    | (go_at_call 77; ((with_reducible refine (HL.out _ h2).mono ?_); rintro e w3 ⟨rfl, h3, g3⟩)))
  go_ret
  exact ⟨⟨_, rfl, ex_nil _ _⟩, ⟨i + 1 + 1, h3, rfl⟩, g1.trans ((Gr.of e2).trans g3)⟩

end Go.Proofs.YtaajolemjgdfnaaDoor

/-
  Append: where the grown row lies.
-/
namespace Go.Proofs.YtaajolemjgdfnaaDoor
open Go Go.RowKit Go.Lib

/-- A row of a call's own that is appended to lies where it lay, or in a block that was not there. -/
theorem append_at {P : Program} (w : World) (base : Nat) (t ty e : TypeId) (i : TypeInfo) (z : Value) (size bytes : Nat) (ht : P.underlying t = some (.slice e)) (hi : P.info? e = some i) (hz : i.zero = some z)
    (hsize : i.size = size) (hby : i.bytes = bytes) (hzs : z.cells.size = size) (hsz : 0 < size)
    (v : Value) (n : Nat) (xs : List Value) (hown : w.ownsRow base e size v n xs)
    (a : Addr) (m c : Nat) (news : List Value) (hl : news.length = m * size) (hnews : ∀ j u, news[j]? = some u → w.cell? (a.add j) = some u) (h1 : ∀ u ∈ news, u.oneCell' = true)
    (h63 : n + m ≤ maxLen) (hbytes : (n + m) * bytes ≤ 140737488355328) (hbase : base ≤ w.heap.size) :
    ∃ v' w', (Builtin.append_ #[t, t] ty #[v, .slice (some a) m c]).run P w = .ok v' w' ∧ w'.ownsRow base e size v' (n + m) (xs ++ news) ∧ w.grownBy w' v.ownBlock ∧
      (v' = .slice none 0 0 ↔ v = .slice none 0 0 ∧ m = 0) ∧ (∀ k, v'.ownBlock = some k → v.ownBlock = some k ∨ w.heap.size ≤ k) := by
  obtain ⟨v', w', hr, h2, h3, h4⟩ := run_append_own (P := P) w base t ty e i z size bytes ht hi hz hsize hby hzs hsz v n xs hown a m c news hl hnews h1 h63 hbytes hbase
  refine ⟨v', w', hr, h2, h3, h4, ?_⟩
  subst hsize
  subst hby
  rcases hown.2 with ⟨rfl, rfl⟩ | ⟨g, cap, cur, rfl, hbg, hg, hnc, hcm, hcs, htake⟩
  · obtain ⟨v2, w2, hr2, h5, _⟩ := run_append_own (P := P) w w.heap.size t ty e i z i.size i.bytes ht hi hz rfl rfl hzs hsz (.slice none 0 0) 0 xs ⟨hown.1, .inl ⟨rfl, rfl⟩⟩ a m c news hl hnews h1 h63 hbytes (Nat.le_refl _)
    rw [hr] at hr2
    cases hr2
    exact fun k hk => .inr (h5.lt k hk).1
  · by_cases hroom : n + m ≤ cap
    · have hfit : n * i.size + news.length ≤ cur.size := by rw [hl, hcs, ← Nat.add_mul]; exact Nat.mul_le_mul_right _ hroom
      have hr2 := run_append_room (P := P) w t ty e i ht hi g n cap cur hg a m c news hl hnews h1 hroom hfit
      rw [hr] at hr2
      cases hr2
      exact fun k hk => .inl hk
    · have holds : ∀ j u, xs[j]? = some u → w.cell? ((⟨g, 0, none⟩ : Addr).add j) = some u := hown.cells (g := g) rfl
      have hsmall : n + m ≤ 9223372036854775807 := by simp only [maxLen] at h63; omega
      have hr2 := run_append_grow (P := P) w t ty e i z ht hi hz ⟨g, 0, none⟩ n cap xs hown.1 holds a m c news hl hnews (by omega) (by omega) (growslice_fits (by omega) hbytes)
      rw [hr] at hr2
      cases hr2
      refine fun k hk => .inr ?_
      simp only [Value.ownBlock, Option.some.injEq] at hk
      omega

theorem step_append_at {P : Program} {w : World} {ops : Array Oper} {rest : List Oper} {o : Oper} {a : Act} {Q : Exit → Act → World → Prop} (hgd : o.guard = none) (s x : Operand) (t : TypeId)
    (ho : o.op = .call { callee := .builtin .append, args := #[s, x], argTypes := #[t, t] })
    (base : Nat) (e : TypeId) (i : TypeInfo) (z : Value) (size bytes : Nat) (ht : P.underlying t = some (.slice e)) (hi : P.info? e = some i) (hz : i.zero = some z)
    (hsize : i.size = size) (hby : i.bytes = bytes) (hzs : z.cells.size = size) (hsz : 0 < size)
    (v : Value) (n : Nat) (xs : List Value) (hs : a.eval s = v) (hown : w.ownsRow base e size v n xs)
    (ad : Addr) (m c : Nat) (news : List Value) (hx : a.eval x = .slice (some ad) m c) (hl : news.length = m * size) (hnews : ∀ j u, news[j]? = some u → w.cell? (ad.add j) = some u) (h1 : ∀ u ∈ news, u.oneCell' = true)
    (h63 : n + m ≤ maxLen) (hbytes : (n + m) * bytes ≤ 140737488355328) (hbase : base ≤ w.heap.size)
    (h : ∀ v' w', w'.ownsRow base e size v' (n + m) (xs ++ news) → w.grownBy w' v.ownBlock → (v' = .slice none 0 0 ↔ v = .slice none 0 0 ∧ m = 0) → (∀ k, v'.ownBlock = some k → v.ownBlock = some k ∨ w.heap.size ≤ k) → wpList P ops Q rest (a.put o.dst v') w') : wpList P ops Q (o :: rest) a w :=
  wpList_plain hgd fun K hK => by
    obtain ⟨v', w', hr, h2, h3, h4, h5⟩ := append_at (P := P) w base t o.type e i z size bytes ht hi hz hsize hby hzs hsz v n xs hown ad m c news hl hnews h1 h63 hbytes hbase
    unfold Oper.wp execOp
    simp only [ho, resolve, invoke, builtin, Sem.run_bind, Sem.run_pure, Result.andThen_ok, List.map_toArray, List.map_cons, List.map_nil, hs, hx, hr]
    exact hK _ _ (h v' w' h2 h3 h4 h5)

end Go.Proofs.YtaajolemjgdfnaaDoor

