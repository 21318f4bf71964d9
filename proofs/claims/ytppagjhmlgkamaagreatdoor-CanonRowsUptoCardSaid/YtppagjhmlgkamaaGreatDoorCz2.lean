/-
  Texts PaJ PaK PaL PaM PaO PaV PaW PaU PaX PaY PaZ PbA PbB PbC PbD: put together.
-/
import Derived.Test.YtppagjhmlgkamaaGreatDoorCz1
import Derived.Laws.AppendOwn
/-
  Package parse: an expression whose operations of two bind at least that strongly (binding).
-/
namespace Go.Proofs.YtppagjhmlgkamaaGreatDoor
open Go Go.RowKit Go.Lib
attribute [local go_sem high] run_tok0 run_tok1 run_tok2

/-- The world with no blocks but those of p. -/
def erp (p : Nat → Prop) [DecidablePred p] (W : World) : World := { W with heap := W.heap.mapIdx fun k o => if p k then o else .cells #[] 0 }
theorem erp_cell (p : Nat → Prop) [DecidablePred p] (W : World) (b j : Nat) : (erp p W).cell? ⟨b, j, none⟩ = if p b then W.cell? ⟨b, j, none⟩ else none := by
  by_cases h : p b
  · rw [if_pos h]
    cases hw : W.heap[b]? with
    | none => simp [erp, World.cell?, hw]
    | some o => simp [erp, World.cell?, hw, h]
  · rw [if_neg h]
    cases hw : W.heap[b]? with
    | none => simp [erp, World.cell?, hw]
    | some o => simp [erp, World.cell?, hw, h]
abbrev EY (p : Nat → Prop) [DecidablePred p] (W : World) (v : Value) (l : ES) : Prop := EV W.heap.size (erp p W) v l
section
variable {p q : Nat → Prop} [DecidablePred p] [DecidablePred q] {W W' : World} {v : Value} {l : ES} {lo : Nat}
theorem EY.kp (hv : EY p W v l) (hs : W.heap.size ≤ W'.heap.size) (hk : ∀ k, p k → k < W.heap.size → W'.heap[k]? = W.heap[k]?) (hp : ∀ k, p k → k < W.heap.size → q k) : EY q W' v l :=
  RowV.imp hv hs fun _ _ hb hq => ES.In.ext hs (fun b j u hb hc => by
    rw [erp_cell] at hc ⊢
    by_cases e : p b
    · rw [if_pos e] at hc
      rw [if_pos (hp b e hb), World.cell?_of_block (a := ⟨b, j, none⟩) (hk b e hb)]
      exact hc
    · rw [if_neg e] at hc; cases hc) hb hq
theorem EY.of_ex (hv : EX lo W v l) (hk : Kp lo W W') (hp : ∀ k, lo ≤ k → k < W.heap.size → q k) : EY q W' v l :=
  RowV.imp hv hk.size fun _ _ hb hq => ES.In.ext hk.size (fun b j u hb hc => by
    rw [er_cell] at hc
    rw [erp_cell]
    by_cases e : b < lo
    · rw [if_pos e] at hc; cases hc
    · rw [if_neg e] at hc
      rw [if_pos (hp b (by omega) hb), World.cell?_of_block (a := ⟨b, j, none⟩) (hk.block b (by omega) hb)]
      exact hc) hb hq
theorem EX.of_ey (hv : EY p W v l) (hs : W.heap.size ≤ W'.heap.size) (hk : ∀ k, p k → k < W.heap.size → W'.heap[k]? = W.heap[k]?) (hp : ∀ k, p k → lo ≤ k) : EX lo W' v l :=
  RowV.imp hv hs fun _ _ hb hq => ES.In.ext hs (fun b j u hb hc => by
    rw [erp_cell] at hc
    rw [er_cell]
    by_cases e : p b
    · rw [if_pos e] at hc
      have := hp b e
      rw [if_neg (by omega), World.cell?_of_block (a := ⟨b, j, none⟩) (hk b e hb)]
      exact hc
    · rw [if_neg e] at hc; cases hc) hb hq
theorem erp_at {n j : Nat} {cs : Array Value} {t : TypeId} {u : Value} (hc : W.heap[n]? = some (.cells cs t)) (hl : p n) (hu : cs[j]? = some u) : (erp p W).cell? ⟨n, j, none⟩ = some u := by
  rw [erp_cell, if_pos hl, box_cell hc, hu]
theorem ey_two {n : Nat} {e e' : Ex} {vl vl' : Value} {t : TypeId} (hc : W.heap[n]? = some (.cells #[.int .i64 e.op, .int .i64 e.n, .string e.s, vl, .int .i64 e'.op, .int .i64 e'.n, .string e'.s, vl'] t)) (hl : p n) (hv : EY p W vl e.l) (ho : okE e) (hv' : EY p W vl' e'.l) (ho' : okE e') :
    EY p W (.slice (some ⟨n, 0, none⟩) 2 2) (toES e (toES e' .nil)) :=
  ⟨some ⟨n, 0, none⟩, 2, rfl, Nat.le_refl _, by decide, fun _ => ⟨n, 0, rfl, lt_heap hc, erp_at hc hl rfl, erp_at hc hl rfl, erp_at hc hl rfl, ⟨vl, erp_at hc hl rfl, hv⟩, ho, erp_at hc hl rfl, erp_at hc hl rfl, erp_at hc hl rfl, ⟨vl', erp_at hc hl rfl, hv'⟩, ho', trivial⟩⟩
end

/-- The blocks that a loop of binding's may have made parts in. -/
abbrev mk (L n : Nat) : Nat → Prop := fun k => L ≤ k ∧ k ≠ n

/-- At the head of each round: the expression so far lies in its box. -/
def BRel (ex : Nat → Nat → List Tok → PR Ex) (rb g N cT least o : Nat) (T : List Tok) (W : World) (n5 : Nat) (y : PR Ex) (wr : World) : Prop :=
  ∃ m e A c i, loopT ex m least e o (T.drop i) = y ∧ Rd wr rb g N cT T i o ∧ Gr rb W wr ∧ wr.heap[W.heap.size]? = some (.cells #[.int .i64 0, .int .i64 0, .string ⟨#[]⟩, .slice none 0 0] 38) ∧
    wr.heap[n5]? = some (.cells #[.int .i64 e.op, .int .i64 e.n, .string e.s, .slice A e.l.len c] 38) ∧ EY (mk (W.heap.size + 1) n5) wr (.slice A e.l.len c) e.l ∧ okE e
/-- Where the reader stands. -/
def posR (rb N : Nat) (wr : World) : Nat := N - match wr.cell? ⟨rb, 1, none⟩ with | some (.int _ k) => k.toNat | _ => 0

theorem op_small (l : List UInt8) : (opT l).2 ≤ 5 := by
  unfold opT
  repeat' split
  all_goals decide
theorem op_nil : opT [] = (0, 0) := by decide
theorem posR_eq {W : World} {rb g N cT i o : Nat} {T : List Tok} (h : Rd W rb g N cT T i o) : posR rb N W = N - i := by
  unfold posR
  rw [h.c1]
  simp

theorem put4_block {W : World} {n k : Nat} {a b c d : Value} (h : k ≠ n) : (put4 W n a b c d).heap[k]? = W.heap[k]? := by
  unfold put4
  rw [Below.heap_setCell _ _ _ _ h, Below.heap_setCell _ _ _ _ h, Below.heap_setCell _ _ _ _ h, Below.heap_setCell _ _ _ _ h]
theorem put4_heap {W : World} {n : Nat} {a b c d x y z u : Value} {t : TypeId} (h : W.heap[n]? = some (.cells #[x, y, z, u] t)) : (put4 W n a b c d).heap[n]? = some (.cells #[a, b, c, d] t) := by
  simp [put4, World.setCell, Array.getElem?_modify, h]

set_option maxRecDepth 100000 in
set_option maxHeartbeats 1000000 in
theorem bind_loop {W : World} {rb g N cT i o : Nat} {T : List Tok} (h : Rd W rb g N cT T i o) (ex : Nat → Nat → List Tok → PR Ex) (least m : Nat) (hl : 1 ≤ least) (hl5 : least ≤ 6) (v : Ex) (r : List Tok) (y : PR Ex) (hy : loopT ex m least v o r = y) (hyo : y ≠ .out) (HLn : ∀ l ts v r, ex l o ts = .ok v r → r.length ≤ ts.length)
    (HS : ∀ W2, Rd W2 rb g N cT T i o → Calls Tryz.prog 135 #[.pointer (some ⟨rb, 0, none⟩)] W2 (XP rb g N cT o T W2 (.ok v r)))
    (HB : ∀ W2 i' l', Rd W2 rb g N cT T i' o → 1 ≤ l' → l' ≤ 6 → ex l' o (T.drop i') ≠ .out → Calls Tryz.prog 129 #[.pointer (some ⟨rb, 0, none⟩), .int .i64 l'] W2 (XP rb g N cT o T W2 (ex l' o (T.drop i')))) :
    Calls Tryz.prog 129 #[.pointer (some ⟨rb, 0, none⟩), .int .i64 least] W (XP rb g N cT o T W y) := by
  have HSS := Lib.hid HS
  have HBB := Lib.hid HB
  have HR := Lib.hid h
  have hrl := h.rlt
  have hgl := h.tok.1
  have hN : N ≤ 65537 := by have := h.good.len; have := h.len; omega
  have HY := Lib.hid hy
  clear HS HB h hy
  go_enter Tryz.func129, Tryz.ntmps129
  go_upto_region 1 with fail
  have h0 := HR.out.alloc (.cells #[.int .i64 0, .int .i64 0, .string ⟨#[]⟩, .slice none 0 0] 38)
  have B6 := heap_alloc_new W (.cells #[.int .i64 0, .int .i64 0, .string ⟨#[]⟩, .slice none 0 0] 38)
  have g0 := (Gr.refl rb W).alloc (.cells #[.int .i64 0, .int .i64 0, .string ⟨#[]⟩, .slice none 0 0] 38)
  have z0 : (W.alloc (.cells #[.int .i64 0, .int .i64 0, .string ⟨#[]⟩, .slice none 0 0] 38)).heap.size = W.heap.size + 1 := by simp
  obtain ⟨w0, hw0⟩ : ∃ W1, W.alloc (.cells #[.int .i64 0, .int .i64 0, .string ⟨#[]⟩, .slice none 0 0] 38) = W1 := ⟨_, rfl⟩
  rw [hw0] at h0 B6 g0 z0 ⊢
  clear hw0
  go_wp2_with (go_at_call 135; ((with_reducible refine (HSS.out _ h0).mono ?_); rintro e w1 ⟨⟨vv, rfl, vl, rfl, hv, hok⟩, ⟨i1, h1, hd⟩, g1⟩; obtain ⟨Al, cl, el, _⟩ := id hv; subst el))
  have z1 := g1.size
  have h2 := h1.alloc (.cells #[.int .i64 v.op, .int .i64 v.n, .string v.s, .slice Al v.l.len cl] 38)
  have B7 := heap_alloc_new w1 (.cells #[.int .i64 v.op, .int .i64 v.n, .string v.s, .slice Al v.l.len cl] 38)
  have g2 := (g0.trans g1).alloc (.cells #[.int .i64 v.op, .int .i64 v.n, .string v.s, .slice Al v.l.len cl] 38)
  have hkk : Kp w0.heap.size w1 (w1.alloc (.cells #[.int .i64 v.op, .int .i64 v.n, .string v.s, .slice Al v.l.len cl] 38)) := Kp.below ((Below.refl _ _).alloc (Nat.le_refl _) _)
  have B8 := (Below.heap_alloc w1 (.cells #[.int .i64 v.op, .int .i64 v.n, .string v.s, .slice Al v.l.len cl] 38) W.heap.size (by omega)).trans ((g1.block (k := W.heap.size) (by omega) (by omega)).trans B6)
  have hv2 : EY (mk (W.heap.size + 1) w1.heap.size) (w1.alloc (.cells #[.int .i64 v.op, .int .i64 v.n, .string v.s, .slice Al v.l.len cl] 38)) (.slice Al v.l.len cl) v.l := EY.of_ex hv hkk (fun k h1 h2 => ⟨by omega, by omega⟩)
  obtain ⟨w2, hw2⟩ : ∃ W1, w1.alloc (.cells #[.int .i64 v.op, .int .i64 v.n, .string v.s, .slice Al v.l.len cl] 38) = W1 := ⟨_, rfl⟩
  rw [hw2] at h2 B7 g2 B8 hv2 ⊢
  obtain ⟨n5, hn5⟩ : ∃ n5, w1.heap.size = n5 := ⟨_, rfl⟩
  rw [hn5] at B7 hv2 ⊢
  have hn5' : W.heap.size + 1 ≤ n5 := by omega
  have hstart : BRel ex rb g N cT least o T W n5 y w2 := ⟨m, v, Al, cl, i1, by rw [hd]; exact HY.out, h2, g2, B8, B7, hv2, hok⟩
  clear hw2 h2 B7 g2 B8 hv2 hkk hd h1 g1 hv B6 g0 h0 z0 z1 hn5 HY hok
  go_loopw [6, 7] (fun _ _ wr => BRel ex rb g N cT least o T W n5 y wr) (fun _ _ wr => posR rb N wr)
  case atStart => exact hstart
  case round =>
    clear hstart
    obtain ⟨m, e, A, c, i, hy, hR, hG, B4, B5, hE, hok⟩ := hrel
    cases m with
    | zero => exact absurd hy.symm hyo
    | succ m =>
      rw [loopT] at hy
      obtain ⟨t, ht⟩ : ∃ t, hdT (T.drop i) = t := ⟨_, rfl⟩
      have HN := Lib.hid (now_any hR t ht)
      rw [ht] at hy
      have HOT := Lib.hid (fun w' => oftwo_any t.text w')
      have h5 := op_small t.text
      have hne : 1 ≤ (opT t.text).2 → t.text ≠ [] := by
        intro h1 e
        rw [e, op_nil] at h1
        omega
      have hop : I64 (opT t.text).1 := by
        unfold opT
        repeat' split
        all_goals (unfold I64; simp)
      obtain ⟨op, hop'⟩ : ∃ op, (opT t.text).1 = op := ⟨_, rfl⟩
      obtain ⟨st, hst⟩ : ∃ st, (opT t.text).2 = st := ⟨_, rfl⟩
      rw [hop', hst] at HOT hy
      rw [hst] at h5 hne
      rw [hop'] at hop
      clear hop' hst
      have HR2 := Lib.hid hR
      have HG2 := Lib.hid hG
      have hrl2 := hR.rlt
      have hgl2 := hR.tok.1
      have zr := hG.size
      have HB5 := Lib.hid (fun w3 (h3 : Below wr.heap.size wr w3) => (h3.block n5 (lt_heap B5)).trans B5)
      have HB4 := Lib.hid (fun w3 (h3 : Below wr.heap.size wr w3) => (h3.block W.heap.size (lt_heap B4)).trans B4)
      have hl4 := lt_heap B4
      have hl5' := lt_heap B5
      clear hR hG B5 B4
      by_cases hlt : st < least
      · have d1 : decide (st < least) = true := decide_eq_true hlt
        rw [if_pos hlt] at hy
        clear hne hop
        go_wp2_with (first
          | (go_at_call 61; ((with_reducible refine HN.out.mono ?_); rintro e' w3 ⟨rfl, h3⟩; have B5 := HB5.out w3 h3; have B4 := HB4.out w3 h3; have c0 := box_cell B4 0; have c1 := box_cell B4 1; have c2 := box_cell B4 2; have c3 := box_cell B4 3; have f0 := box_frozen B4 0; have f1 := box_frozen B4 1; have f2 := box_frozen B4 2; have f3 := box_frozen B4 3; have d0 := box_cell B5 0; have d2 := box_cell B5 1; have d3 := box_cell B5 2; have d4 := box_cell B5 3; simp at c0 c1 c2 c3 d0 d2 d3 d4))
          | (go_at_call 136; ((with_reducible refine (HOT.out _).mono ?_); rintro e' w4 ⟨rfl, rfl⟩)))
        have hP := ret4 (a := .int .i64 e.op) (b := .int .i64 e.n) (c := .string e.s) (d := .slice A e.l.len c) B4
        have hz3 := h3.size
        have hput := Kp.put4 (W := w3) (a := .int .i64 e.op) (b := .int .i64 e.n) (c := .string e.s) (d := .slice A e.l.len c) (Nat.lt_succ_self W.heap.size)
        have hfin : XP rb g N cT o T W y (.returned (.agg #[.int .i64 e.op, .int .i64 e.n, .string e.s, .slice A e.l.len c])) (put4 w3 W.heap.size (.int .i64 e.op) (.int .i64 e.n) (.string e.s) (.slice A e.l.len c)) := by
          rw [← hy]
          refine ⟨⟨_, rfl, _, rfl, EX.of_ey hE (Nat.le_trans hz3 hput.size) (fun k hk hk2 => ?_) (fun k hk => by have := hk.1; omega), hok⟩, ⟨i, ((HR2.out).below h3).put4 (by omega) (by omega), rfl⟩, ((HG2.out).trans (Gr.of h3)).put4 (Nat.le_refl _)⟩
          exact (hput.block k hk.1 (Nat.lt_of_lt_of_le hk2 hz3)).trans (h3.block k hk2)
        clear hput
        obtain ⟨w5, hw5⟩ : ∃ W5, put4 w3 W.heap.size (.int .i64 e.op) (.int .i64 e.n) (.string e.s) (.slice A e.l.len c) = W5 := ⟨_, rfl⟩
        show bodyPost _ _ _ _ _ (put4 w3 W.heap.size (.int .i64 e.op) (.int .i64 e.n) (.string e.s) (.slice A e.l.len c))
        rw [hw5] at hP hfin ⊢
        have p0 := hP 0 (by decide)
        have p1 := hP 1 (by decide)
        have p2 := hP 2 (by decide)
        have p3 := hP 3 (by decide)
        exact bodyPost_ret (v := .agg #[.int .i64 e.op, .int .i64 e.n, .string e.s, .slice A e.l.len c]) (by simp [results, Tryz.results129, go_sem, p0, p1, p2, p3]) rfl hfin
      · have d1 : decide (st < least) = false := decide_eq_false hlt
        rw [if_neg hlt, drop_tail] at hy
        have hm := HR2.out.more (.inl (by rw [ht]; exact hne (by omega)))
        have hw := step_num hm hN
        have hws : IntKind.i64.wrap ((st : Int) + 1) = ((st + 1 : Nat) : Int) := by rw [IntWalk.i64_in _ (by omega)]; rfl
        have hxo : ex (st + 1) o (T.drop (i + 1)) ≠ .out := by
          intro e0
          rw [e0] at hy
          exact hyo hy.symm
        have HNX := Lib.hid (fun w3 (h3 : Below wr.heap.size wr w3) => (HR2.out.below h3).next hm)
        have HC1 := Lib.hid (fun w3 (h3 : Below wr.heap.size wr w3) => (HR2.out.below h3).c1)
        have HF1 := Lib.hid (fun w3 (h3 : Below wr.heap.size wr w3) => (HR2.out.below h3).fz 1)
        clear hne hm
        go_upto_region 6 with (first
          | (go_at_call 61; ((with_reducible refine HN.out.mono ?_); rintro e' w3 ⟨rfl, h3⟩; have c1 := HC1.out w3 h3; have f1 := HF1.out w3 h3))
          | (go_at_call 136; ((with_reducible refine (HOT.out _).mono ?_); rintro e' w4 ⟨rfl, rfl⟩)))
        have hR4 := HNX.out w3 h3
        have g4 : Gr rb wr (w3.setCell ⟨rb, 1, none⟩ (.int .i64 ((i + 1 : Nat) : Int))) := (Gr.of h3).trans (Gr.set 1 _)
        have B5 := (Below.heap_setCell w3 ⟨rb, 1, none⟩ (.int .i64 ((i + 1 : Nat) : Int)) n5 (show n5 ≠ rb by omega)).trans (HB5.out w3 h3)
        have B4 := (Below.heap_setCell w3 ⟨rb, 1, none⟩ (.int .i64 ((i + 1 : Nat) : Int)) W.heap.size (show W.heap.size ≠ rb by omega)).trans (HB4.out w3 h3)
        obtain ⟨w4, hw4⟩ : ∃ W4, w3.setCell ⟨rb, 1, none⟩ (.int .i64 ((i + 1 : Nat) : Int)) = W4 := ⟨_, rfl⟩
        show Code.wp _ _ _ _ (w3.setCell ⟨rb, 1, none⟩ (.int .i64 ((i + 1 : Nat) : Int)))
        rw [hw4] at hR4 g4 B5 B4 ⊢
        have HBX := Lib.hid (show Calls Tryz.prog 129 #[.pointer (some ⟨rb, 0, none⟩), .int .i64 ((st : Int) + 1)] w4.drew (XP rb g N cT o T w4.drew (ex (st + 1) o (T.drop (i + 1)))) from HBB.out w4.drew (i + 1) (st + 1) hR4.drew (by omega) (by omega) hxo)
        have d0 : w4.cell? ⟨n5, 0, none⟩ = some (.int .i64 e.op) := box_cell B5 0
        have d2 : w4.cell? ⟨n5, 1, none⟩ = some (.int .i64 e.n) := box_cell B5 1
        have d3 : w4.cell? ⟨n5, 2, none⟩ = some (.string e.s) := box_cell B5 2
        have d4 : w4.cell? ⟨n5, 3, none⟩ = some (.slice A e.l.len c) := box_cell B5 3
        have HB5' := Lib.hid (fun w6 (g6 : Gr rb w4.drew w6) => (g6.block (k := n5) (lt_heap B5) (by omega)).trans B5)
        have HB4' := Lib.hid (fun w6 (g6 : Gr rb w4.drew w6) => (g6.block (k := W.heap.size) (lt_heap B4) (by omega)).trans B4)
        clear B5 B4 HBB HSS HN HOT HNX HC1 HF1 HB5 HB4 hw4 h3 c1 f1
        cases hxx : ex (st + 1) o (T.drop (i + 1)) with
        | out => exact absurd hxx hxo
        | bad p cc =>
          rw [hxx] at HBX hy
          have HBX' := HBX.out
          have HBX2 := Lib.hid HBX'
          clear HBX HBX' hxx
          subst hy
          have hbad := Lib.hid (fun w6 (g6 : Gr rb w4.drew w6) => (HG2.out).trans (g4.drew.trans g6))
          refine wp_region_held_drew (S := (fun w' => w'.cell? ⟨n5, 0, none⟩ = some (.int .i64 e.op) ∧ w'.cell? ⟨n5, 1, none⟩ = some (.int .i64 e.n) ∧ w'.cell? ⟨n5, 2, none⟩ = some (.string e.s) ∧ w'.cell? ⟨n5, 3, none⟩ = some (.slice A e.l.len c))) (by kernel_rfl) ⟨d0, d2, d3, d4⟩ (fun hHeld => ?_)
          refine wpAnyH_take (i := 0) (v := .int .i64 op) rfl (by kernel_rfl) (by kernel_rfl) (by kernel_rfl) (fun _ _ _ h => h) (Or.inl ⟨by rfl, ?_⟩) (by assumption) ?_
          · intro W' hS
            obtain ⟨k0, k1, k2, k3⟩ := hS
            go_simp
          try simp only [Act.put, List.getElem_toArray, List.getElem_cons_zero, List.setIfInBounds_toArray, List.set_cons_zero, List.set_cons_succ]
          refine wpAnyH_take (i := 1) (v := .agg #[.int .i64 e.op, .int .i64 e.n, .string e.s, .slice A e.l.len c]) rfl (by kernel_rfl) (by kernel_rfl) (by kernel_rfl) (fun _ _ _ h => h) (Or.inl ⟨by rfl, ?_⟩) (by assumption) ?_
          · intro W' hS
            obtain ⟨k0, k1, k2, k3⟩ := hS
            go_simp
          try simp only [Act.put, List.getElem_toArray, List.getElem_cons_zero, List.getElem_cons_succ, List.setIfInBounds_toArray, List.set_cons_zero, List.set_cons_succ]
          refine wpAnyH_take (i := 2) (v := .pointer (some ⟨rb, 0, none⟩)) rfl (by kernel_rfl) (by kernel_rfl) (by kernel_rfl) (fun _ _ _ h => h) (Or.inl ⟨by rfl, ?_⟩) (by assumption) ?_
          · intro W' hS
            obtain ⟨k0, k1, k2, k3⟩ := hS
            go_simp
          try simp only [Act.put, List.getElem_toArray, List.getElem_cons_zero, List.getElem_cons_succ, List.setIfInBounds_toArray, List.set_cons_zero, List.set_cons_succ]
          refine wpAnyH_take (i := 3) (v := .int .i64 st) rfl (by kernel_rfl) (by kernel_rfl) (by kernel_rfl) (fun _ _ _ h => h) (Or.inl ⟨by rfl, ?_⟩) (by assumption) ?_
          · intro W' hS
            obtain ⟨k0, k1, k2, k3⟩ := hS
            go_simp
          try simp only [Act.put, List.getElem_toArray, List.getElem_cons_zero, List.getElem_cons_succ, List.setIfInBounds_toArray, List.set_cons_zero, List.set_cons_succ]
          refine wpAnyH_take (i := 4) (v := .int .i64 ((st : Int) + 1)) rfl (by kernel_rfl) (by kernel_rfl) (by kernel_rfl) (fun _ _ _ h => h) (Or.inl ⟨by rfl, ?_⟩) (by assumption) ?_
          · intro W' hS
            obtain ⟨k0, k1, k2, k3⟩ := hS
            go_simp
          try simp only [Act.put, List.getElem_toArray, List.getElem_cons_zero, List.getElem_cons_succ, List.setIfInBounds_toArray, List.set_cons_zero, List.set_cons_succ]
          refine wpAnyH_ready (rs := [5]) (by kernel_rfl) (by simp) ?_
          refine AllReadyH.cons rfl (fun K hK => ?_) AllReadyH.nil
          go_simp
          go_at_call 129
          refine HBX2.out.mono ?_
          rintro e' w6 ⟨rfl, g6⟩
          go_wp2_with fail
          exact ⟨rfl, rfl, hbad.out w6 g6⟩
        | ok e2 r2 =>
          have hlen2 := HLn _ _ _ _ hxx
          rw [hxx] at HBX hy
          have HBX' := HBX.out
          have HBX2 := Lib.hid HBX'
          clear HBX HBX' hxx
          refine wp_region_held_drew (S := fun _ => True) (by kernel_rfl) trivial (fun _ => ?_)
          refine wpAnyH_take (i := 0) (v := .int .i64 op) rfl (by kernel_rfl) (by kernel_rfl) (by kernel_rfl) (fun _ _ _ h => h) (Or.inl ⟨by rfl, ?_⟩) trivial ?_
          · intro W' _
            go_simp
          try simp only [Act.put, List.getElem_toArray, List.getElem_cons_zero, List.setIfInBounds_toArray, List.set_cons_zero, List.set_cons_succ]
          refine wpAnyH_take (i := 2) (v := .pointer (some ⟨rb, 0, none⟩)) rfl (by kernel_rfl) (by kernel_rfl) (by kernel_rfl) (fun _ _ _ h => h) (Or.inl ⟨by rfl, ?_⟩) trivial ?_
          · intro W' _
            go_simp
          try simp only [Act.put, List.getElem_toArray, List.getElem_cons_zero, List.getElem_cons_succ, List.setIfInBounds_toArray, List.set_cons_zero, List.set_cons_succ]
          refine wpAnyH_take (i := 3) (v := .int .i64 st) rfl (by kernel_rfl) (by kernel_rfl) (by kernel_rfl) (fun _ _ _ h => h) (Or.inl ⟨by rfl, ?_⟩) trivial ?_
          · intro W' _
            go_simp
          try simp only [Act.put, List.getElem_toArray, List.getElem_cons_zero, List.getElem_cons_succ, List.setIfInBounds_toArray, List.set_cons_zero, List.set_cons_succ]
          refine wpAnyH_take (i := 4) (v := .int .i64 ((st : Int) + 1)) rfl (by kernel_rfl) (by kernel_rfl) (by kernel_rfl) (fun _ _ _ h => h) (Or.inl ⟨by rfl, ?_⟩) trivial ?_
          · intro W' _
            go_simp
          try simp only [Act.put, List.getElem_toArray, List.getElem_cons_zero, List.getElem_cons_succ, List.setIfInBounds_toArray, List.set_cons_zero, List.set_cons_succ]
          refine wpAnyH_ready (rs := [1, 5]) (by kernel_rfl) (by simp) ?_
          refine AllReadyH.cons rfl (fun K hK => ?_) (AllReadyH.cons rfl (fun K hK => ?_) AllReadyH.nil)
          · go_simp
            refine hK.out _ _ trivial (fun _ => ?_)
            clear hK K
            try simp only [Act.put, List.getElem_toArray, List.getElem_cons_zero, List.getElem_cons_succ, List.setIfInBounds_toArray, List.set_cons_zero, List.set_cons_succ]
            refine wpAnyH_ready (rs := [5]) (by kernel_rfl) (by simp) ?_
            refine AllReadyH.cons rfl (fun K hK => ?_) AllReadyH.nil
            go_simp
            go_at_call 129
            refine HBX2.out.mono ?_
            rintro e' w6 ⟨⟨vv, rfl, vl2, rfl, hv2, hok2⟩, ⟨i2, h6, hd2⟩, g6⟩
            obtain ⟨A2, c2, el2, _⟩ := id hv2
            subst el2
            have y5 := HB5'.out w6 g6
            have y0 : w6.cell? ⟨n5, 0, none⟩ = some (.int .i64 e.op) := box_cell y5 0
            have y1 : w6.cell? ⟨n5, 1, none⟩ = some (.int .i64 e.n) := box_cell y5 1
            have y2 : w6.cell? ⟨n5, 2, none⟩ = some (.string e.s) := box_cell y5 2
            have y3 : w6.cell? ⟨n5, 3, none⟩ = some (.slice A e.l.len c) := box_cell y5 3
            go_wp2_with fail
            refine hK.out _ _ trivial (fun _ => ?_)
            clear hK K
            try simp only [Act.put, List.getElem_toArray, List.getElem_cons_zero, List.getElem_cons_succ, List.setIfInBounds_toArray, List.set_cons_zero, List.set_cons_succ]
            refine wpAnyH_ready (rs := [6]) (by kernel_rfl) (by simp) ?_
            refine AllReadyH.cons rfl (fun K hK => ?_) AllReadyH.nil
            go_simp
            refine hK.out _ _ trivial (fun _ => ?_)
            clear hK K
            try simp only [Act.put, List.getElem_toArray, List.getElem_cons_zero, List.getElem_cons_succ, List.setIfInBounds_toArray, List.set_cons_zero, List.set_cons_succ]
            have y6 := (Below.heap_alloc w6 (.cells #[.int .i64 e.op, .int .i64 e.n, .string e.s, .slice A e.l.len c, .int .i64 e2.op, .int .i64 e2.n, .string e2.s, .slice A2 e2.l.len c2] 38) n5 (lt_heap y5)).trans y5
            have y8 := heap_alloc_new w6 (.cells #[.int .i64 e.op, .int .i64 e.n, .string e.s, .slice A e.l.len c, .int .i64 e2.op, .int .i64 e2.n, .string e2.s, .slice A2 e2.l.len c2] 38)
            have hbl : Below w6.heap.size w6 (w6.alloc (.cells #[.int .i64 e.op, .int .i64 e.n, .string e.s, .slice A e.l.len c, .int .i64 e2.op, .int .i64 e2.n, .string e2.s, .slice A2 e2.l.len c2] 38)) := (Below.refl _ _).alloc (Nat.le_refl _) _
            have y4 := (Below.heap_alloc w6 (.cells #[.int .i64 e.op, .int .i64 e.n, .string e.s, .slice A e.l.len c, .int .i64 e2.op, .int .i64 e2.n, .string e2.s, .slice A2 e2.l.len c2] 38) W.heap.size (lt_heap (HB4'.out w6 g6))).trans (HB4'.out w6 g6)
            have z8 : (w6.alloc (.cells #[.int .i64 e.op, .int .i64 e.n, .string e.s, .slice A e.l.len c, .int .i64 e2.op, .int .i64 e2.n, .string e2.s, .slice A2 e2.l.len c2] 38)).heap.size = w6.heap.size + 1 := by simp
            obtain ⟨w8, hw8⟩ : ∃ W1, w6.alloc (.cells #[.int .i64 e.op, .int .i64 e.n, .string e.s, .slice A e.l.len c, .int .i64 e2.op, .int .i64 e2.n, .string e2.s, .slice A2 e2.l.len c2] 38) = W1 := ⟨_, rfl⟩
            rw [hw8] at y6 y8 hbl y4 z8 ⊢
            clear hw8
            have c0 := box_cell y6 0
            have c1 := box_cell y6 1
            have c3 := box_cell y6 2
            have c4 := box_cell y6 3
            have f0 := box_frozen y6 0
            have f1 := box_frozen y6 1
            have f2 := box_frozen y6 2
            have f3 := box_frozen y6 3
            simp at c0 c1 c3 c4
            refine wpAnyH_take (i := 7) (v := .agg #[.int .i64 op, .int .i64 0, .string ⟨#[]⟩, .slice (some ⟨w6.heap.size, 0, none⟩) 2 2]) rfl (by kernel_rfl) (by kernel_rfl) (by kernel_rfl) (fun _ _ _ h => h) (Or.inl ⟨by rfl, ?_⟩) trivial ?_
            · intro W' _
              go_simp
            try simp only [Act.put, List.getElem_toArray, List.getElem_cons_zero, List.getElem_cons_succ, List.setIfInBounds_toArray, List.set_cons_zero, List.set_cons_succ]
            refine wpAnyH_ready (rs := [8]) (by kernel_rfl) (by simp) ?_
            refine AllReadyH.cons rfl (fun K hK => ?_) AllReadyH.nil
            go_simp
            refine hK.out _ _ trivial (fun _ => ?_)
            clear hK K
            try simp only [Act.put, List.getElem_toArray, List.getElem_cons_zero, List.getElem_cons_succ, List.setIfInBounds_toArray, List.set_cons_zero, List.set_cons_succ]
            refine wpAnyH_done (by kernel_rfl) ?_ _
            go_wp2_with fail
            have zf : (put4 w8 n5 (.int .i64 op) (.int .i64 0) (.string ⟨#[]⟩) (.slice (some ⟨w6.heap.size, 0, none⟩) 2 2)).heap.size = w8.heap.size := by simp [put4]
            have z6 := g6.size
            have z46 : wr.heap.size ≤ w4.drew.heap.size := (g4.drew).size
            have gw : Gr rb wr w8 := g4.drew.trans (g6.trans (Gr.of hbl))
            have hE8 : EY (mk (W.heap.size + 1) n5) w8 (.slice A e.l.len c) e.l := EY.kp hE gw.size (fun k hk hk2 => gw.block hk2 (by have := hk.1; omega)) (fun k hk _ => hk)
            have hE9 : EY (mk (W.heap.size + 1) n5) w8 (.slice A2 e2.l.len c2) e2.l := EY.of_ex hv2 (Kp.below hbl) (fun k hk _ => ⟨by omega, by omega⟩)
            have hEE := ey_two y8 (p := mk (W.heap.size + 1) n5) ⟨by omega, by omega⟩ hE8 hok hE9 hok2
            have hRf := (h6.below hbl).put4 (n := n5) (a := .int .i64 op) (b := .int .i64 0) (c := .string ⟨#[]⟩) (d := .slice (some ⟨w6.heap.size, 0, none⟩) 2 2) (by omega) (by omega)
            refine ⟨⟨m, ⟨op, 0, nilS, toES e (toES e2 .nil)⟩, some ⟨w6.heap.size, 0, none⟩, 2, i2, by rw [hd2]; exact hy, hRf, ((HG2.out).trans gw).put4 (by omega), (put4_block (by omega)).trans y4, put4_heap y6, EY.kp hEE (Nat.le_of_eq zf.symm) (fun k hk _ => put4_block hk.2) (fun k hk _ => hk), okE_of hop⟩, ?_⟩
            show posR rb N (put4 w8 n5 (.int .i64 op) (.int .i64 0) (.string ⟨#[]⟩) (.slice (some ⟨w6.heap.size, 0, none⟩) 2 2)) < posR rb N wr
            rw [posR_eq hRf, posR_eq HR2.out]
            have hl2 := h6.lt
            have hl1 := h6.len
            rw [← hd2, List.length_drop, List.length_drop] at hlen2
            clear hw hws
            have hl3 : i < i2 := by omega
            have hl4' : i2 < N := hl2
            exact Nat.sub_lt_sub_left (Nat.lt_trans hl3 hl4') hl3
          · go_simp
            go_at_call 129
            refine HBX2.out.mono ?_
            rintro e' w6 ⟨⟨vv, rfl, vl2, rfl, hv2, hok2⟩, ⟨i2, h6, hd2⟩, g6⟩
            obtain ⟨A2, c2, el2, _⟩ := id hv2
            subst el2
            have y5 := HB5'.out w6 g6
            have y0 : w6.cell? ⟨n5, 0, none⟩ = some (.int .i64 e.op) := box_cell y5 0
            have y1 : w6.cell? ⟨n5, 1, none⟩ = some (.int .i64 e.n) := box_cell y5 1
            have y2 : w6.cell? ⟨n5, 2, none⟩ = some (.string e.s) := box_cell y5 2
            have y3 : w6.cell? ⟨n5, 3, none⟩ = some (.slice A e.l.len c) := box_cell y5 3
            go_wp2_with fail
            refine hK.out _ _ trivial (fun _ => ?_)
            clear hK K
            try simp only [Act.put, List.getElem_toArray, List.getElem_cons_zero, List.getElem_cons_succ, List.setIfInBounds_toArray, List.set_cons_zero, List.set_cons_succ]
            refine wpAnyH_ready (rs := [1]) (by kernel_rfl) (by simp) ?_
            refine AllReadyH.cons rfl (fun K hK => ?_) AllReadyH.nil
            go_simp
            refine hK.out _ _ trivial (fun _ => ?_)
            clear hK K
            try simp only [Act.put, List.getElem_toArray, List.getElem_cons_zero, List.getElem_cons_succ, List.setIfInBounds_toArray, List.set_cons_zero, List.set_cons_succ]
            refine wpAnyH_ready (rs := [6]) (by kernel_rfl) (by simp) ?_
            refine AllReadyH.cons rfl (fun K hK => ?_) AllReadyH.nil
            go_simp
            refine hK.out _ _ trivial (fun _ => ?_)
            clear hK K
            try simp only [Act.put, List.getElem_toArray, List.getElem_cons_zero, List.getElem_cons_succ, List.setIfInBounds_toArray, List.set_cons_zero, List.set_cons_succ]
            have y6 := (Below.heap_alloc w6 (.cells #[.int .i64 e.op, .int .i64 e.n, .string e.s, .slice A e.l.len c, .int .i64 e2.op, .int .i64 e2.n, .string e2.s, .slice A2 e2.l.len c2] 38) n5 (lt_heap y5)).trans y5
            have y8 := heap_alloc_new w6 (.cells #[.int .i64 e.op, .int .i64 e.n, .string e.s, .slice A e.l.len c, .int .i64 e2.op, .int .i64 e2.n, .string e2.s, .slice A2 e2.l.len c2] 38)
            have hbl : Below w6.heap.size w6 (w6.alloc (.cells #[.int .i64 e.op, .int .i64 e.n, .string e.s, .slice A e.l.len c, .int .i64 e2.op, .int .i64 e2.n, .string e2.s, .slice A2 e2.l.len c2] 38)) := (Below.refl _ _).alloc (Nat.le_refl _) _
            have y4 := (Below.heap_alloc w6 (.cells #[.int .i64 e.op, .int .i64 e.n, .string e.s, .slice A e.l.len c, .int .i64 e2.op, .int .i64 e2.n, .string e2.s, .slice A2 e2.l.len c2] 38) W.heap.size (lt_heap (HB4'.out w6 g6))).trans (HB4'.out w6 g6)
            have z8 : (w6.alloc (.cells #[.int .i64 e.op, .int .i64 e.n, .string e.s, .slice A e.l.len c, .int .i64 e2.op, .int .i64 e2.n, .string e2.s, .slice A2 e2.l.len c2] 38)).heap.size = w6.heap.size + 1 := by simp
            obtain ⟨w8, hw8⟩ : ∃ W1, w6.alloc (.cells #[.int .i64 e.op, .int .i64 e.n, .string e.s, .slice A e.l.len c, .int .i64 e2.op, .int .i64 e2.n, .string e2.s, .slice A2 e2.l.len c2] 38) = W1 := ⟨_, rfl⟩
            rw [hw8] at y6 y8 hbl y4 z8 ⊢
            clear hw8
            have c0 := box_cell y6 0
            have c1 := box_cell y6 1
            have c3 := box_cell y6 2
            have c4 := box_cell y6 3
            have f0 := box_frozen y6 0
            have f1 := box_frozen y6 1
            have f2 := box_frozen y6 2
            have f3 := box_frozen y6 3
            simp at c0 c1 c3 c4
            refine wpAnyH_take (i := 7) (v := .agg #[.int .i64 op, .int .i64 0, .string ⟨#[]⟩, .slice (some ⟨w6.heap.size, 0, none⟩) 2 2]) rfl (by kernel_rfl) (by kernel_rfl) (by kernel_rfl) (fun _ _ _ h => h) (Or.inl ⟨by rfl, ?_⟩) trivial ?_
            · intro W' _
              go_simp
            try simp only [Act.put, List.getElem_toArray, List.getElem_cons_zero, List.getElem_cons_succ, List.setIfInBounds_toArray, List.set_cons_zero, List.set_cons_succ]
            refine wpAnyH_ready (rs := [8]) (by kernel_rfl) (by simp) ?_
            refine AllReadyH.cons rfl (fun K hK => ?_) AllReadyH.nil
            go_simp
            refine hK.out _ _ trivial (fun _ => ?_)
            clear hK K
            try simp only [Act.put, List.getElem_toArray, List.getElem_cons_zero, List.getElem_cons_succ, List.setIfInBounds_toArray, List.set_cons_zero, List.set_cons_succ]
            refine wpAnyH_done (by kernel_rfl) ?_ _
            go_wp2_with fail
            have zf : (put4 w8 n5 (.int .i64 op) (.int .i64 0) (.string ⟨#[]⟩) (.slice (some ⟨w6.heap.size, 0, none⟩) 2 2)).heap.size = w8.heap.size := by simp [put4]
            have z6 := g6.size
            have z46 : wr.heap.size ≤ w4.drew.heap.size := (g4.drew).size
            have gw : Gr rb wr w8 := g4.drew.trans (g6.trans (Gr.of hbl))
            have hE8 : EY (mk (W.heap.size + 1) n5) w8 (.slice A e.l.len c) e.l := EY.kp hE gw.size (fun k hk hk2 => gw.block hk2 (by have := hk.1; omega)) (fun k hk _ => hk)
            have hE9 : EY (mk (W.heap.size + 1) n5) w8 (.slice A2 e2.l.len c2) e2.l := EY.of_ex hv2 (Kp.below hbl) (fun k hk _ => ⟨by omega, by omega⟩)
            have hEE := ey_two y8 (p := mk (W.heap.size + 1) n5) ⟨by omega, by omega⟩ hE8 hok hE9 hok2
            have hRf := (h6.below hbl).put4 (n := n5) (a := .int .i64 op) (b := .int .i64 0) (c := .string ⟨#[]⟩) (d := .slice (some ⟨w6.heap.size, 0, none⟩) 2 2) (by omega) (by omega)
            refine ⟨⟨m, ⟨op, 0, nilS, toES e (toES e2 .nil)⟩, some ⟨w6.heap.size, 0, none⟩, 2, i2, by rw [hd2]; exact hy, hRf, ((HG2.out).trans gw).put4 (by omega), (put4_block (by omega)).trans y4, put4_heap y6, EY.kp hEE (Nat.le_of_eq zf.symm) (fun k hk _ => put4_block hk.2) (fun k hk _ => hk), okE_of hop⟩, ?_⟩
            show posR rb N (put4 w8 n5 (.int .i64 op) (.int .i64 0) (.string ⟨#[]⟩) (.slice (some ⟨w6.heap.size, 0, none⟩) 2 2)) < posR rb N wr
            rw [posR_eq hRf, posR_eq HR2.out]
            have hl2 := h6.lt
            have hl1 := h6.len
            rw [← hd2, List.length_drop, List.length_drop] at hlen2
            clear hw hws
            have hl3 : i < i2 := by omega
            have hl4' : i2 < N := hl2
            exact Nat.sub_lt_sub_left (Nat.lt_trans hl3 hl4') hl3

set_option maxRecDepth 100000 in
theorem bind_bad {W : World} {rb g N cT i o : Nat} {T : List Tok} (h : Rd W rb g N cT T i o) (least : Nat) (p c : Nat)
    (HS : ∀ W2, Rd W2 rb g N cT T i o → Calls Tryz.prog 135 #[.pointer (some ⟨rb, 0, none⟩)] W2 (XP rb g N cT o T W2 (.bad p c))) :
    Calls Tryz.prog 129 #[.pointer (some ⟨rb, 0, none⟩), .int .i64 least] W (XP rb g N cT o T W (.bad p c)) := by
  have HSS := Lib.hid HS
  have HR := Lib.hid h
  clear HS h
  go_enter Tryz.func129, Tryz.ntmps129
  go_wp2_with (go_at_call 135; ((with_reducible refine (HSS.out _ (HR.out.alloc _)).mono ?_); rintro e w2 ⟨rfl, g2⟩))
  exact ⟨rfl, rfl, ((Gr.refl rb W).alloc _).trans g2⟩

/-- An expression whose operations of two bind at least that strongly. -/
theorem bind_any {W : World} {rb g N cT i o : Nat} {T : List Tok} (h : Rd W rb g N cT T i o) (ex : Nat → Nat → List Tok → PR Ex) (least m : Nat) (hl : 1 ≤ least) (hl5 : least ≤ 6)
    (hx : ((singleT ex m o (T.drop i)).bind fun e r => loopT ex m least e o r) ≠ .out) (HLn : ∀ l ts v r, ex l o ts = .ok v r → r.length ≤ ts.length)
    (HS : ∀ W2, Rd W2 rb g N cT T i o → singleT ex m o (T.drop i) ≠ .out → Calls Tryz.prog 135 #[.pointer (some ⟨rb, 0, none⟩)] W2 (XP rb g N cT o T W2 (singleT ex m o (T.drop i))))
    (HB : ∀ W2 i' l', Rd W2 rb g N cT T i' o → 1 ≤ l' → l' ≤ 6 → ex l' o (T.drop i') ≠ .out → Calls Tryz.prog 129 #[.pointer (some ⟨rb, 0, none⟩), .int .i64 l'] W2 (XP rb g N cT o T W2 (ex l' o (T.drop i')))) :
    Calls Tryz.prog 129 #[.pointer (some ⟨rb, 0, none⟩), .int .i64 least] W (XP rb g N cT o T W ((singleT ex m o (T.drop i)).bind fun e r => loopT ex m least e o r)) := by
  have hso : singleT ex m o (T.drop i) ≠ .out := fun e => by rw [e] at hx; exact hx rfl
  have HS := fun W2 h2 => HS W2 h2 hso
  generalize singleT ex m o (T.drop i) = x at HS hx hso ⊢
  cases x with
  | ok v r => exact bind_loop h ex least m hl hl5 v r _ rfl hx HLn HS HB
  | bad p c => exact bind_bad h least p c HS
  | out => exact absurd rfl hso

end Go.Proofs.YtppagjhmlgkamaaGreatDoor

/-
  Package parse: what begins with a name (named): no name, a variable, a place of an array.
-/
namespace Go.Proofs.YtppagjhmlgkamaaGreatDoor
open Go Go.RowKit Go.Lib

set_option maxRecDepth 100000 in
theorem nm_no {W : World} {rb g N cT i o : Nat} {T : List Tok} (h : Rd W rb g N cT T i o) (hb : nameB (baT (hdT (T.drop i)).text) = false) (p : Nat) (hp : (hdT (T.drop i)).at_ = p) :
    Calls Tryz.prog 140 #[.pointer (some ⟨rb, 0, none⟩)] W (XP rb g N cT o T W (.bad p 2)) := by
  have HE := Lib.hid (fun W1 (h1 : Rd W1 rb g N cT T i o) => name_no h1 hb p hp)
  have HR := Lib.hid h
  clear h hb hp
  go_enter Tryz.func140, Tryz.ntmps140
  go_wp2_with (go_at_call 92; ((with_reducible refine (HE.out _ (HR.out.alloc _)).mono ?_); rintro e w2 ⟨rfl, g2⟩))
  exact ⟨rfl, rfl, ((Gr.refl rb W).alloc _).trans (Gr.of g2)⟩

set_option maxRecDepth 100000 in
theorem nm_var {W : World} {rb g N cT i o : Nat} {T : List Tok} (h : Rd W rb g N cT T i o) (t : List UInt8) (ht : (hdT (T.drop i)).text = t) (hb : nameB (baT t) = true) (b1 : isT (T.drop (i + 1)) [91] = false) (b2 : isT (T.drop (i + 1)) [40] = false) :
    Calls Tryz.prog 140 #[.pointer (some ⟨rb, 0, none⟩)] W (XP rb g N cT o T W (.ok ⟨2, 0, baT t, .nil⟩ (T.drop (i + 1)))) := by
  have HE := Lib.hid (fun W1 (h1 : Rd W1 rb g N cT T i o) => name_yes h1 t ht hb)
  have HI1 := Lib.hid (fun w1 (h1 : Rd w1 rb g N cT T (i + 1) o) => (show Calls Tryz.prog 58 #[.pointer (some ⟨rb, 0, none⟩), .string ⟨#[91]⟩] w1 fun e w' => e = .returned (.bool false) ∧ Below w1.heap.size w1 w' from is_any h1 [91] false b1))
  have HI2 := Lib.hid (fun w1 (h1 : Rd w1 rb g N cT T (i + 1) o) => (show Calls Tryz.prog 58 #[.pointer (some ⟨rb, 0, none⟩), .string ⟨#[40]⟩] w1 fun e w' => e = .returned (.bool false) ∧ Below w1.heap.size w1 w' from is_any h1 [40] false b2))
  have htx := h.text
  rw [ht] at htx
  have hrl := h.rlt
  have hgl := h.tok.1
  have h0 := h.alloc (.cells #[.int .i64 0, .int .i64 0, .string ⟨#[]⟩, .slice none 0 0] 38)
  have B6 := heap_alloc_new W (.cells #[.int .i64 0, .int .i64 0, .string ⟨#[]⟩, .slice none 0 0] 38)
  have g0 := (Gr.refl rb W).alloc (.cells #[.int .i64 0, .int .i64 0, .string ⟨#[]⟩, .slice none 0 0] 38)
  have z0 : (W.alloc (.cells #[.int .i64 0, .int .i64 0, .string ⟨#[]⟩, .slice none 0 0] 38)).heap.size = W.heap.size + 1 := by simp
  clear h ht hb b1 b2
  go_enter Tryz.func140, Tryz.ntmps140
  go_upto_region 1 with fail
  obtain ⟨w0, hw0⟩ : ∃ W1, W.alloc (.cells #[.int .i64 0, .int .i64 0, .string ⟨#[]⟩, .slice none 0 0] 38) = W1 := ⟨_, rfl⟩
  rw [hw0] at h0 B6 g0 z0 ⊢
  clear hw0
  go_upto_region 2 with (go_at_call 92; ((with_reducible refine (HE.out _ h0).mono ?_); rintro e w1 ⟨rfl, h1, g1⟩))
  have z1 := g1.size
  have h2 := h1.alloc (.cells #[.int .i64 2, .int .i64 0, .string (baT t), .slice none 0 0] 38)
  have B7 := heap_alloc_new w1 (.cells #[.int .i64 2, .int .i64 0, .string (baT t), .slice none 0 0] 38)
  have g2 := (g0.trans g1).alloc (.cells #[.int .i64 2, .int .i64 0, .string (baT t), .slice none 0 0] 38)
  have B8 := (Below.heap_alloc w1 (.cells #[.int .i64 2, .int .i64 0, .string (baT t), .slice none 0 0] 38) W.heap.size (by omega)).trans ((g1.block (k := W.heap.size) (by omega) (by omega)).trans B6)
  obtain ⟨w2, hw2⟩ : ∃ W1, w1.alloc (.cells #[.int .i64 2, .int .i64 0, .string (baT t), .slice none 0 0] 38) = W1 := ⟨_, rfl⟩
  rw [hw2] at h2 B7 g2 B8 ⊢
  clear hw2
  go_wp2_with (first
    | (go_at_call 58; ((with_reducible refine (HI1.out _ h2).mono ?_); rintro e w3 ⟨rfl, e3⟩; have h3 := h2.below e3))
    | (go_at_call 58; ((with_reducible refine (HI2.out _ h3).mono ?_); rintro e w4 ⟨rfl, e4⟩; have h4 := h3.below e4; have q := e3.trans (e4.mono e3.size); have B9 := (q.block _ (lt_heap B8)).trans B8; have B10 := (q.block _ (lt_heap B7)).trans B7; have c0 := box_cell B9 0; have c1 := box_cell B9 1; have c2 := box_cell B9 2; have c3 := box_cell B9 3; have f0 := box_frozen B9 0; have f1 := box_frozen B9 1; have f2 := box_frozen B9 2; have f3 := box_frozen B9 3; have d0 := box_cell B10 0; have d1 := box_cell B10 1; have d2 := box_cell B10 2; have d3 := box_cell B10 3; simp at c0 c1 c2 c3 d0 d1 d2 d3)))
  have hP := ret4 (a := .int .i64 2) (b := .int .i64 0) (c := .string (baT t)) (d := .slice none 0 0) B9
  have hz := q.size
  have hfin : XP rb g N cT o T W (.ok ⟨2, 0, baT t, .nil⟩ (T.drop (i + 1))) (.returned (.agg #[.int .i64 2, .int .i64 0, .string (baT t), .slice none 0 0])) (put4 w4 W.heap.size (.int .i64 2) (.int .i64 0) (.string (baT t)) (.slice none 0 0)) :=
    ⟨⟨_, rfl, _, rfl, ex_nil _ _, (show I64 2 by unfold I64; omega), i64_0, htx⟩, ⟨i + 1, h4.put4 (by omega) (by omega), rfl⟩, (g2.trans (Gr.of q)).put4 (Nat.le_refl _)⟩
  obtain ⟨w5, hw5⟩ : ∃ W5, put4 w4 W.heap.size (.int .i64 2) (.int .i64 0) (.string (baT t)) (.slice none 0 0) = W5 := ⟨_, rfl⟩
  show bodyPost _ _ _ _ _ (put4 w4 W.heap.size (.int .i64 2) (.int .i64 0) (.string (baT t)) (.slice none 0 0))
  rw [hw5] at hP hfin ⊢
  have p0 := hP 0 (by decide)
  have p1 := hP 1 (by decide)
  have p2 := hP 2 (by decide)
  have p3 := hP 3 (by decide)
  exact bodyPost_ret (v := .agg #[.int .i64 2, .int .i64 0, .string (baT t), .slice none 0 0]) (by simp [results, Tryz.results140, go_sem, p0, p1, p2, p3]) rfl hfin

theorem set_heap4 {W : World} {n : Nat} {x y z u a : Value} {t : TypeId} (h : W.heap[n]? = some (.cells #[x, y, z, u] t)) : (W.setCell ⟨n, 0, none⟩ a).heap[n]? = some (.cells #[a, y, z, u] t) ∧ (W.setCell ⟨n, 3, none⟩ a).heap[n]? = some (.cells #[x, y, z, a] t) := by
  constructor <;> simp [World.setCell, Array.getElem?_modify, h]

set_option maxRecDepth 100000 in
theorem nm_idx_ok {W : World} {rb g N cT i o : Nat} {T : List Tok} (h : Rd W rb g N cT T i o) (t : List UInt8) (ht : (hdT (T.drop i)).text = t) (hb : nameB (baT t) = true) (b1 : isT (T.drop (i + 1)) [91] = true) (v : Ex) (r : List Tok)
    (HS : ∀ W2, Rd W2 rb g N cT T (i + 1) o → Calls Tryz.prog 124 #[.pointer (some ⟨rb, 0, none⟩), .string ⟨#[91]⟩, .string ⟨#[93]⟩] W2 (XP rb g N cT o T W2 (.ok v r))) :
    Calls Tryz.prog 140 #[.pointer (some ⟨rb, 0, none⟩)] W (XP rb g N cT o T W (.ok ⟨4, 0, baT t, toES v .nil⟩ r)) := by
  have HE := Lib.hid (fun W1 (h1 : Rd W1 rb g N cT T i o) => name_yes h1 t ht hb)
  have HI1 := Lib.hid (fun w1 (h1 : Rd w1 rb g N cT T (i + 1) o) => (show Calls Tryz.prog 58 #[.pointer (some ⟨rb, 0, none⟩), .string ⟨#[91]⟩] w1 fun e w' => e = .returned (.bool true) ∧ Below w1.heap.size w1 w' from is_any h1 [91] true b1))
  have HSS := Lib.hid HS
  have htx := h.text
  rw [ht] at htx
  have hrl := h.rlt
  have hgl := h.tok.1
  have h0 := h.alloc (.cells #[.int .i64 0, .int .i64 0, .string ⟨#[]⟩, .slice none 0 0] 38)
  have B6 := heap_alloc_new W (.cells #[.int .i64 0, .int .i64 0, .string ⟨#[]⟩, .slice none 0 0] 38)
  have g0 := (Gr.refl rb W).alloc (.cells #[.int .i64 0, .int .i64 0, .string ⟨#[]⟩, .slice none 0 0] 38)
  have z0 : (W.alloc (.cells #[.int .i64 0, .int .i64 0, .string ⟨#[]⟩, .slice none 0 0] 38)).heap.size = W.heap.size + 1 := by simp
  clear h ht hb b1 HS
  go_enter Tryz.func140, Tryz.ntmps140
  go_upto_region 1 with fail
  obtain ⟨w0, hw0⟩ : ∃ W1, W.alloc (.cells #[.int .i64 0, .int .i64 0, .string ⟨#[]⟩, .slice none 0 0] 38) = W1 := ⟨_, rfl⟩
  rw [hw0] at h0 B6 g0 z0 ⊢
  clear hw0
  go_upto_region 2 with (go_at_call 92; ((with_reducible refine (HE.out _ h0).mono ?_); rintro e w1 ⟨rfl, h1, g1⟩))
  have z1 := g1.size
  have h2 := h1.alloc (.cells #[.int .i64 2, .int .i64 0, .string (baT t), .slice none 0 0] 38)
  have B7 := heap_alloc_new w1 (.cells #[.int .i64 2, .int .i64 0, .string (baT t), .slice none 0 0] 38)
  have g2 := (g0.trans g1).alloc (.cells #[.int .i64 2, .int .i64 0, .string (baT t), .slice none 0 0] 38)
  have z2 : (w1.alloc (.cells #[.int .i64 2, .int .i64 0, .string (baT t), .slice none 0 0] 38)).heap.size = w1.heap.size + 1 := by simp
  have B8 := (Below.heap_alloc w1 (.cells #[.int .i64 2, .int .i64 0, .string (baT t), .slice none 0 0] 38) W.heap.size (by omega)).trans ((g1.block (k := W.heap.size) (by omega) (by omega)).trans B6)
  obtain ⟨w2, hw2⟩ : ∃ W1, w1.alloc (.cells #[.int .i64 2, .int .i64 0, .string (baT t), .slice none 0 0] 38) = W1 := ⟨_, rfl⟩
  rw [hw2] at h2 B7 g2 B8 z2 ⊢
  clear hw2
  obtain ⟨n3, hn3⟩ : ∃ n3, w1.heap.size = n3 := ⟨_, rfl⟩
  rw [hn3] at B7 z2 z1 ⊢
  have HB7 := Lib.hid (fun w3 (e3 : Below w2.heap.size w2 w3) => (e3.block _ (lt_heap B7)).trans B7)
  have HC7 := Lib.hid (fun w3 (e3 : Below w2.heap.size w2 w3) (j : Nat) => box_cell (HB7.out w3 e3) j)
  have HF7 := Lib.hid (fun w3 (e3 : Below w2.heap.size w2 w3) (j : Nat) => box_frozen (HB7.out w3 e3) j)
  go_upto_region 4 with (go_at_call 58; ((with_reducible refine (HI1.out _ h2).mono ?_); rintro e w3 ⟨rfl, e3⟩; have c0 := HC7.out w3 e3 0; have f0 := HF7.out w3 e3 0; simp at c0))
  have z3 := e3.size
  have h4 := (h2.below e3).set (b := n3) (j := 0) (.int .i64 4) (by omega) (by omega)
  have g4 := (g2.trans (Gr.of e3)).setNew (j := 0) (.int .i64 4) (show W.heap.size ≤ n3 by omega)
  have B7 := (set_heap4 (a := .int .i64 4) (HB7.out w3 e3)).1
  have B8 := (Below.heap_setCell w3 ⟨n3, 0, none⟩ (.int .i64 4) W.heap.size (show W.heap.size ≠ n3 by omega)).trans ((e3.block _ (lt_heap B8)).trans B8)
  have z4 : (w3.setCell ⟨n3, 0, none⟩ (.int .i64 4)).heap.size = w3.heap.size := by simp
  obtain ⟨w4, hw4⟩ : ∃ W1, w3.setCell ⟨n3, 0, none⟩ (.int .i64 4) = W1 := ⟨_, rfl⟩
  rw [hw4] at h4 B7 g4 B8 z4 ⊢
  clear hw4 c0 f0
  have HB7 := Lib.hid (fun w5 (g5 : Gr rb w4 w5) => (g5.block (lt_heap B7) (by omega)).trans B7)
  have HB8 := Lib.hid (fun w5 (g5 : Gr rb w4 w5) => (g5.block (lt_heap B8) (by omega)).trans B8)
  have HA7 := Lib.hid (fun w5 (g5 : Gr rb w4 w5) c => (Below.heap_alloc w5 c n3 (lt_heap (HB7.out w5 g5))).trans (HB7.out w5 g5))
  have HA8 := Lib.hid (fun w5 (g5 : Gr rb w4 w5) c => (Below.heap_alloc w5 c W.heap.size (lt_heap (HB8.out w5 g5))).trans (HB8.out w5 g5))
  have HC7 := Lib.hid (fun w5 (g5 : Gr rb w4 w5) c (j : Nat) => box_cell (HA7.out w5 g5 c) j)
  have HF7 := Lib.hid (fun w5 (g5 : Gr rb w4 w5) c (j : Nat) => box_frozen (HA7.out w5 g5 c) j)
  go_upto_region 8 with (go_at_call 124; ((with_reducible refine (HSS.out _ h4).mono ?_); rintro e w5 ⟨⟨vv, rfl, vl, rfl, hv, hok⟩, ⟨i', h5, hd⟩, g5⟩; obtain ⟨Al, cl, el, _⟩ := id hv; subst el; have c3 := HC7.out w5 g5 (.cells #[.int .i64 v.op, .int .i64 v.n, .string v.s, .slice Al v.l.len cl] 38) 3; have f3 := HF7.out w5 g5 (.cells #[.int .i64 v.op, .int .i64 v.n, .string v.s, .slice Al v.l.len cl] 38) 3; simp only [List.getElem?_toArray, List.getElem?_cons_succ, List.getElem?_cons_zero] at c3))
  have z5 := g5.size
  have hl7 := lt_heap (HB7.out w5 g5)
  have hl8 := lt_heap (HB8.out w5 g5)
  have hA := heap_alloc_new w5 (.cells #[.int .i64 v.op, .int .i64 v.n, .string v.s, .slice Al v.l.len cl] 38)
  have hEX : EX (n3 + 1) (w5.alloc (.cells #[.int .i64 v.op, .int .i64 v.n, .string v.s, .slice Al v.l.len cl] 38)) (.slice (some ⟨w5.heap.size, 0, none⟩) 1 1) (toES v .nil) := ex_one hA (by omega) (hv.kp (Kp.below ((Below.refl _ _).alloc (Nat.le_refl _) _)) (by omega)) hok
  have hE6 : EX (n3 + 1) ((w5.alloc (.cells #[.int .i64 v.op, .int .i64 v.n, .string v.s, .slice Al v.l.len cl] 38)).setCell ⟨n3, 3, none⟩ (.slice (some ⟨w5.heap.size, 0, none⟩) 1 1)) (.slice (some ⟨w5.heap.size, 0, none⟩) 1 1) (toES v .nil) := hEX.kp (Kp.set _ (Nat.lt_succ_self _)) (Nat.le_refl _)
  have h6 := (h5.alloc (.cells #[.int .i64 v.op, .int .i64 v.n, .string v.s, .slice Al v.l.len cl] 38)).set (b := n3) (j := 3) (.slice (some ⟨w5.heap.size, 0, none⟩) 1 1) (by omega) (by omega)
  have g6 := ((g4.trans g5).alloc (.cells #[.int .i64 v.op, .int .i64 v.n, .string v.s, .slice Al v.l.len cl] 38)).setNew (j := 3) (.slice (some ⟨w5.heap.size, 0, none⟩) 1 1) (show W.heap.size ≤ n3 by omega)
  have B9 := (set_heap4 (a := .slice (some ⟨w5.heap.size, 0, none⟩) 1 1) (HA7.out w5 g5 (.cells #[.int .i64 v.op, .int .i64 v.n, .string v.s, .slice Al v.l.len cl] 38))).2
  have B10 := (Below.heap_setCell (w5.alloc (.cells #[.int .i64 v.op, .int .i64 v.n, .string v.s, .slice Al v.l.len cl] 38)) ⟨n3, 3, none⟩ (.slice (some ⟨w5.heap.size, 0, none⟩) 1 1) W.heap.size (show W.heap.size ≠ n3 by omega)).trans (HA8.out w5 g5 (.cells #[.int .i64 v.op, .int .i64 v.n, .string v.s, .slice Al v.l.len cl] 38))
  obtain ⟨w6, hw6⟩ : ∃ W1, (w5.alloc (.cells #[.int .i64 v.op, .int .i64 v.n, .string v.s, .slice Al v.l.len cl] 38)).setCell ⟨n3, 3, none⟩ (.slice (some ⟨w5.heap.size, 0, none⟩) 1 1) = W1 := ⟨_, rfl⟩
  rw [hw6] at hE6 h6 g6 B9 B10 ⊢
  clear hw6 c3 f3 hEX hA
  have c0 := box_cell B10 0
  have c1 := box_cell B10 1
  have c2 := box_cell B10 2
  have c3 := box_cell B10 3
  have f0 := box_frozen B10 0
  have f1 := box_frozen B10 1
  have f2 := box_frozen B10 2
  have f3 := box_frozen B10 3
  have d0 := box_cell B9 0
  have d1 := box_cell B9 1
  have d2 := box_cell B9 2
  have d3 := box_cell B9 3
  simp at c0 c1 c2 c3 d0 d1 d2 d3
  have hP := ret4 (a := .int .i64 4) (b := .int .i64 0) (c := .string (baT t)) (d := .slice (some ⟨w5.heap.size, 0, none⟩) 1 1) B10
  have hfin : XP rb g N cT o T W (.ok ⟨4, 0, baT t, toES v .nil⟩ r) (.returned (.agg #[.int .i64 4, .int .i64 0, .string (baT t), .slice (some ⟨w5.heap.size, 0, none⟩) 1 1])) (put4 w6 W.heap.size (.int .i64 4) (.int .i64 0) (.string (baT t)) (.slice (some ⟨w5.heap.size, 0, none⟩) 1 1)) :=
    ⟨⟨_, rfl, _, rfl, hE6.kp (Kp.put4 (by omega)) (by omega), (show I64 4 by unfold I64; omega), i64_0, htx⟩, ⟨i', h6.put4 (by omega) (by omega), hd⟩, g6.put4 (Nat.le_refl _)⟩
  go_wp2
  obtain ⟨w7, hw7⟩ : ∃ W5, put4 w6 W.heap.size (.int .i64 4) (.int .i64 0) (.string (baT t)) (.slice (some ⟨w5.heap.size, 0, none⟩) 1 1) = W5 := ⟨_, rfl⟩
  show bodyPost _ _ _ _ _ (put4 w6 W.heap.size (.int .i64 4) (.int .i64 0) (.string (baT t)) (.slice (some ⟨w5.heap.size, 0, none⟩) 1 1))
  rw [hw7] at hP hfin ⊢
  have p0 := hP 0 (by decide)
  have p1 := hP 1 (by decide)
  have p2 := hP 2 (by decide)
  have p3 := hP 3 (by decide)
  exact bodyPost_ret (v := .agg #[.int .i64 4, .int .i64 0, .string (baT t), .slice (some ⟨w5.heap.size, 0, none⟩) 1 1]) (by simp [results, Tryz.results140, go_sem, p0, p1, p2, p3]) rfl hfin

set_option maxRecDepth 100000 in
theorem nm_idx_bad {W : World} {rb g N cT i o : Nat} {T : List Tok} (h : Rd W rb g N cT T i o) (t : List UInt8) (ht : (hdT (T.drop i)).text = t) (hb : nameB (baT t) = true) (b1 : isT (T.drop (i + 1)) [91] = true) (p c : Nat)
    (HS : ∀ W2, Rd W2 rb g N cT T (i + 1) o → Calls Tryz.prog 124 #[.pointer (some ⟨rb, 0, none⟩), .string ⟨#[91]⟩, .string ⟨#[93]⟩] W2 (XP rb g N cT o T W2 (.bad p c))) :
    Calls Tryz.prog 140 #[.pointer (some ⟨rb, 0, none⟩)] W (XP rb g N cT o T W (.bad p c)) := by
  have HE := Lib.hid (fun W1 (h1 : Rd W1 rb g N cT T i o) => name_yes h1 t ht hb)
  have HI1 := Lib.hid (fun w1 (h1 : Rd w1 rb g N cT T (i + 1) o) => (show Calls Tryz.prog 58 #[.pointer (some ⟨rb, 0, none⟩), .string ⟨#[91]⟩] w1 fun e w' => e = .returned (.bool true) ∧ Below w1.heap.size w1 w' from is_any h1 [91] true b1))
  have HSS := Lib.hid HS
  have hrl := h.rlt
  have hgl := h.tok.1
  have HR := Lib.hid h
  clear h ht hb b1 HS
  go_enter Tryz.func140, Tryz.ntmps140
  go_upto_region 2 with (go_at_call 92; ((with_reducible refine (HE.out _ (HR.out.alloc _)).mono ?_); rintro e w1 ⟨rfl, h1, g1⟩))
  have z1 := g1.size
  rw [World.size_alloc] at z1
  have h2 := h1.alloc (.cells #[.int .i64 2, .int .i64 0, .string (baT t), .slice none 0 0] 38)
  have g2 := (((Gr.refl rb W).alloc (.cells #[.int .i64 0, .int .i64 0, .string ⟨#[]⟩, .slice none 0 0] 38)).trans g1).alloc (.cells #[.int .i64 2, .int .i64 0, .string (baT t), .slice none 0 0] 38)
  have B7 := heap_alloc_new w1 (.cells #[.int .i64 2, .int .i64 0, .string (baT t), .slice none 0 0] 38)
  obtain ⟨w2, hw2⟩ : ∃ W1, w1.alloc (.cells #[.int .i64 2, .int .i64 0, .string (baT t), .slice none 0 0] 38) = W1 := ⟨_, rfl⟩
  rw [hw2] at h2 B7 g2 ⊢
  clear hw2
  obtain ⟨n3, hn3⟩ : ∃ n3, w1.heap.size = n3 := ⟨_, rfl⟩
  rw [hn3] at B7 z1 ⊢
  have HB7 := Lib.hid (fun w3 (e3 : Below w2.heap.size w2 w3) => (e3.block _ (lt_heap B7)).trans B7)
  have HC7 := Lib.hid (fun w3 (e3 : Below w2.heap.size w2 w3) (j : Nat) => box_cell (HB7.out w3 e3) j)
  have HF7 := Lib.hid (fun w3 (e3 : Below w2.heap.size w2 w3) (j : Nat) => box_frozen (HB7.out w3 e3) j)
  have HR4 := Lib.hid (fun w3 (e3 : Below w2.heap.size w2 w3) => (h2.below e3).set (b := n3) (j := 0) (.int .i64 4) (by omega) (by omega))
  have HG4 := Lib.hid (fun w3 (e3 : Below w2.heap.size w2 w3) => (g2.trans (Gr.of e3)).setNew (j := 0) (.int .i64 4) (show W.heap.size ≤ n3 by omega))
  clear B7
  go_wp2_with (first
    | (go_at_call 58; ((with_reducible refine (HI1.out _ h2).mono ?_); rintro e w3 ⟨rfl, e3⟩; have c0 := HC7.out w3 e3 0; have f0 := HF7.out w3 e3 0; simp at c0))
    | (go_at_call 124; ((with_reducible refine (HSS.out _ (HR4.out _ e3)).mono ?_); rintro e w5 ⟨rfl, g5⟩)))
  exact ⟨rfl, rfl, (HG4.out _ e3).trans g5⟩

end Go.Proofs.YtppagjhmlgkamaaGreatDoor

/-
  Package parse: expressions that are gathered in a row of the call's own.
-/
namespace Go.Proofs.YtppagjhmlgkamaaGreatDoor
open Go Go.RowKit Go.Lib

/-- The cells of expressions that lie one behind the other. -/
def xCs (p : Nat → Prop) [DecidablePred p] (W : World) : List Ex → List Value → Prop
  | [] => fun cs => cs = []
  | e :: r => fun cs => ∃ A c rest, cs = .int .i64 e.op :: .int .i64 e.n :: .string e.s :: .slice A e.l.len c :: rest ∧ EY p W (.slice A e.l.len c) e.l ∧ okE e ∧ xCs p W r rest
section
variable {p q : Nat → Prop} [DecidablePred p] [DecidablePred q] {W W' : World}
theorem xCs.len : ∀ {l : List Ex} {cs : List Value}, xCs p W l cs → cs.length = l.length * 4
  | [], _, h => by rw [show _ = [] from h]; rfl
  | _ :: r, _, ⟨_, _, rest, e, _, _, hr⟩ => by rw [e]; simp [xCs.len hr]; omega
theorem xCs.kp (hs : W.heap.size ≤ W'.heap.size) (hk : ∀ k, p k → k < W.heap.size → W'.heap[k]? = W.heap[k]?) (hp : ∀ k, p k → k < W.heap.size → q k) : ∀ {l : List Ex} {cs : List Value}, xCs p W l cs → xCs q W' l cs
  | [], _, h => h
  | _ :: _, _, ⟨A, c, rest, e, h1, h2, hr⟩ => ⟨A, c, rest, e, h1.kp hs hk hp, h2, xCs.kp hs hk hp hr⟩
theorem xCs.snoc {e : Ex} {A : Option Addr} {c : Nat} (h1 : EY p W (.slice A e.l.len c) e.l) (h2 : okE e) : ∀ {l : List Ex} {cs : List Value}, xCs p W l cs → xCs p W (l ++ [e]) (cs ++ [.int .i64 e.op, .int .i64 e.n, .string e.s, .slice A e.l.len c])
  | [], cs, h => by rw [show cs = [] from h]; exact ⟨A, c, [], rfl, h1, h2, rfl⟩
  | _ :: _, cs, ⟨A', c', rest, e', h3, h4, hr⟩ => ⟨A', c', rest ++ _, by rw [e']; rfl, h3, h4, xCs.snoc h1 h2 hr⟩
theorem exES_len : ∀ l : List Ex, (exES l).len = l.length
  | [] => rfl
  | _ :: r => by rw [exES, toES, ES.len, exES_len r, List.length_cons]
theorem xCs.in_ {lo g : Nat} (hp : ∀ k, p k → lo ≤ k) : ∀ {l : List Ex} {cs : List Value} {o : Nat}, xCs p W l cs → (∀ j u, cs[j]? = some u → (er lo W).cell? ⟨g, o + j, none⟩ = some u) → (exES l).In W.heap.size (er lo W) g o
  | [], _, _, _, _ => trivial
  | e :: _, _, o, ⟨A, c, rest, e1, h1, h2, hr⟩, hq => by
    subst e1
    have hv : EX lo W (.slice A e.l.len c) e.l := EX.of_ey h1 (Nat.le_refl _) (fun _ _ _ => rfl) hp
    exact ⟨hq 0 _ rfl, hq 1 _ rfl, hq 2 _ rfl, ⟨_, hq 3 _ rfl, hv⟩, h2, xCs.in_ hp hr fun j u hu => by
      rw [show o + 4 + j = o + (j + 4) by omega]
      exact hq (j + 4) u (by simpa using hu)⟩
end
/-- A row of the call's own that holds such cells is a list of expressions. -/
theorem row_ex {p : Nat → Prop} [DecidablePred p] {W : World} {base lo n : Nat} {e : TypeId} {v : Value} {l : List Ex} {cs : List Value} (h : W.ownsRow base e 4 v n cs) (hb : lo ≤ base) (hc : xCs p W l cs) (hp : ∀ k, p k → lo ≤ k) (hn : n = l.length) : EX lo W v (exES l) := by
  rcases h.2 with ⟨rfl, rfl⟩ | ⟨g, cap, cur, rfl, hg, hh, hnc, hcm, hrest⟩
  · have hl : l = [] := List.eq_nil_of_length_eq_zero hn.symm
    subst hl
    exact ex_nil lo W
  · subst hn
    refine ⟨some ⟨g, 0, none⟩, cap, by rw [exES_len], by rw [exES_len]; exact hnc, by unfold maxLen at hcm; omega, fun _ => ⟨g, 0, rfl, (h.lt g rfl).2, xCs.in_ hp hc fun j u hu => ?_⟩⟩
    have hcj := h.cells (g := g) rfl j u hu
    rw [show (⟨g, 0, none⟩ : Addr).add j = ⟨g, j, none⟩ by unfold Addr.add; split <;> simp_all] at hcj
    rw [Nat.zero_add, er_cell, if_neg (by have := (h.lt g rfl).1; omega)]
    exact hcj

end Go.Proofs.YtppagjhmlgkamaaGreatDoor

/-
  Package parse: what a call is of (several, of expressions).
-/
namespace Go.Proofs.YtppagjhmlgkamaaGreatDoor
open Go Go.RowKit Go.Lib

/-- What a call that reads expressions has done. -/
def LP (rb g N cT o : Nat) (T : List Tok) (W : World) (x : PR (List Ex)) (e : Ending) (W' : World) : Prop :=
  match x with
  | .ok l r => (∃ vv, e = .returned vv ∧ EX W.heap.size W' vv (exES l)) ∧ (∃ i, Rd W' rb g N cT T i o ∧ T.drop i = r) ∧ Gr rb W W'
  | .bad p c => e = flt p c ∧ Gr rb W W'
  | .out => True
/-- The function that is handed in: the reader's own expression. -/
abbrev ovE (rb : Nat) : Value := .func (.func 123) #[.pointer (some ⟨rb, 0, none⟩)] #[]

set_option maxRecDepth 100000 in
theorem sv_deep {W : World} {rb g N cT i : Nat} {T : List Tok} (h : Rd W rb g N cT T i 256) (b1 : isT (T.drop i) [40] = true) :
    Calls Tryz.prog 141 #[.pointer (some ⟨rb, 0, none⟩), ovE rb] W (LP rb g N cT 256 T W (.bad (hdT (T.drop i)).at_ 3)) := by
  have HE := Lib.hid (show Calls Tryz.prog 107 #[.pointer (some ⟨rb, 0, none⟩), .string ⟨#[40]⟩] W fun e w' => e = flt (hdT (T.drop i)).at_ 3 ∧ Below W.heap.size W w' from enter_deep h [40] b1 _ rfl)
  clear h b1
  go_enter Tryz.func141, Tryz.ntmps141
  go_wp2_with (go_at_call 107; ((with_reducible refine HE.out.mono ?_); rintro e w2 ⟨rfl, g2⟩))
  exact ⟨rfl, rfl, Gr.of g2⟩

set_option maxRecDepth 100000 in
theorem sv_none {W : World} {rb g N cT i o : Nat} {T : List Tok} (h : Rd W rb g N cT T i o) (b1 : isT (T.drop i) [40] = true) (ho : o < 256) (b2 : isT (T.drop (i + 1)) [41] = true) :
    Calls Tryz.prog 141 #[.pointer (some ⟨rb, 0, none⟩), ovE rb] W (LP rb g N cT o T W (.ok [] (T.drop (i + 2)))) := by
  have HE := Lib.hid (show Calls Tryz.prog 107 #[.pointer (some ⟨rb, 0, none⟩), .string ⟨#[40]⟩] W fun e w' => e = .returned (.tuple #[]) ∧ Rd w' rb g N cT T (i + 1) (o + 1) ∧ Gr rb W w' from enter_yes h [40] (by decide) b1 ho)
  have HI := Lib.hid (fun w1 (h1 : Rd w1 rb g N cT T (i + 1) (o + 1)) => (show Calls Tryz.prog 58 #[.pointer (some ⟨rb, 0, none⟩), .string ⟨#[41]⟩] w1 fun e w' => e = .returned (.bool true) ∧ Below w1.heap.size w1 w' from is_any h1 [41] true b2))
  have HL := Lib.hid (fun w1 (h1 : Rd w1 rb g N cT T (i + 1) (o + 1)) => (show Calls Tryz.prog 108 #[.pointer (some ⟨rb, 0, none⟩), .string ⟨#[41]⟩] w1 fun e w' => e = .returned (.tuple #[]) ∧ Rd w' rb g N cT T (i + 1 + 1) o ∧ Gr rb w1 w' from leave_yes h1 [41] (by decide) b2))
  clear h b1 b2
  go_enter Tryz.func141, Tryz.ntmps141
  go_wp2_with (first
    | (go_at_call 107; ((with_reducible refine HE.out.mono ?_); rintro e w1 ⟨rfl, h1, g1⟩))
    | (go_at_call 58; ((with_reducible refine (HI.out _ h1).mono ?_); rintro e w2 ⟨rfl, e2⟩; have h2 := h1.below e2))
    | (go_at_call 108; ((with_reducible refine (HL.out _ h2).mono ?_); rintro e w3 ⟨rfl, h3, g3⟩)))
  go_ret
  exact ⟨⟨_, rfl, ex_nil _ _⟩, ⟨i + 1 + 1, h3, rfl⟩, g1.trans ((Gr.of e2).trans g3)⟩

end Go.Proofs.YtppagjhmlgkamaaGreatDoor

/-
  Append: where the grown row lies.
-/
namespace Go.Proofs.YtppagjhmlgkamaaGreatDoor
open Go Go.RowKit Go.Lib

/-- A row of a call's own that is appended to lies where it lay, or in a block that was not there. -/
theorem append_at {P : Program} (w : World) (base : Nat) (t ty e : TypeId) (i : TypeInfo) (z : Value) (size bytes : Nat) (ht : P.underlying t = some (.slice e)) (hi : P.info? e = some i) (hz : i.zero = some z)
    (hsize : i.size = size) (hby : i.bytes = bytes) (hzs : z.cells.size = size) (hsz : 0 < size)
    (v : Value) (n : Nat) (xs : List Value) (hown : w.ownsRow base e size v n xs)
    (a : Addr) (m c : Nat) (news : List Value) (hl : news.length = m * size) (hnews : ∀ j u, news[j]? = some u → w.cell? (a.add j) = some u) (h1 : ∀ u ∈ news, u.oneCell' = true)
    (h63 : n + m ≤ maxLen) (hbytes : (n + m) * bytes ≤ 140737488355328) (hbase : base ≤ w.heap.size) :
    ∃ v' w', (Builtin.append_ #[t, t] ty #[v, .slice (some a) m c]).run P w = .ok v' w' ∧ w'.ownsRow base e size v' (n + m) (xs ++ news) ∧ w.grownBy w' v.ownBlock ∧
      (v' = .slice none 0 0 ↔ v = .slice none 0 0 ∧ m = 0) ∧ (∀ k, v'.ownBlock = some k → v.ownBlock = some k ∨ w.heap.size ≤ k) := by
  obtain ⟨v', w', hr, h2, h3, h4⟩ := run_append_own (P := P) w base t ty e i z size bytes ht hi hz hsize hby hzs hsz v n xs hown a m c news hl hnews h1 h63 hbytes hbase
  refine ⟨v', w', hr, h2, h3, h4, ?_⟩
  subst hsize
  subst hby
  rcases hown.2 with ⟨rfl, rfl⟩ | ⟨g, cap, cur, rfl, hbg, hg, hnc, hcm, hcs, htake⟩
  · obtain ⟨v2, w2, hr2, h5, _⟩ := run_append_own (P := P) w w.heap.size t ty e i z i.size i.bytes ht hi hz rfl rfl hzs hsz (.slice none 0 0) 0 xs ⟨hown.1, .inl ⟨rfl, rfl⟩⟩ a m c news hl hnews h1 h63 hbytes (Nat.le_refl _)
    rw [hr] at hr2
    cases hr2
    exact fun k hk => .inr (h5.lt k hk).1
  · by_cases hroom : n + m ≤ cap
    · have hfit : n * i.size + news.length ≤ cur.size := by rw [hl, hcs, ← Nat.add_mul]; exact Nat.mul_le_mul_right _ hroom
      have hr2 := run_append_room (P := P) w t ty e i ht hi g n cap cur hg a m c news hl hnews h1 hroom hfit
      rw [hr] at hr2
      cases hr2
      exact fun k hk => .inl hk
    · have holds : ∀ j u, xs[j]? = some u → w.cell? ((⟨g, 0, none⟩ : Addr).add j) = some u := hown.cells (g := g) rfl
      have hsmall : n + m ≤ 9223372036854775807 := by simp only [maxLen] at h63; omega
      have hr2 := run_append_grow (P := P) w t ty e i z ht hi hz ⟨g, 0, none⟩ n cap xs hown.1 holds a m c news hl hnews (by omega) (by omega) (growslice_fits (by omega) hbytes)
      rw [hr] at hr2
      cases hr2
      refine fun k hk => .inr ?_
      simp only [Value.ownBlock, Option.some.injEq] at hk
      omega

theorem step_append_at {P : Program} {w : World} {ops : Array Oper} {rest : List Oper} {o : Oper} {a : Act} {Q : Exit → Act → World → Prop} (hgd : o.guard = none) (s x : Operand) (t : TypeId)
    (ho : o.op = .call { callee := .builtin .append, args := #[s, x], argTypes := #[t, t] })
    (base : Nat) (e : TypeId) (i : TypeInfo) (z : Value) (size bytes : Nat) (ht : P.underlying t = some (.slice e)) (hi : P.info? e = some i) (hz : i.zero = some z)
    (hsize : i.size = size) (hby : i.bytes = bytes) (hzs : z.cells.size = size) (hsz : 0 < size)
    (v : Value) (n : Nat) (xs : List Value) (hs : a.eval s = v) (hown : w.ownsRow base e size v n xs)
    (ad : Addr) (m c : Nat) (news : List Value) (hx : a.eval x = .slice (some ad) m c) (hl : news.length = m * size) (hnews : ∀ j u, news[j]? = some u → w.cell? (ad.add j) = some u) (h1 : ∀ u ∈ news, u.oneCell' = true)
    (h63 : n + m ≤ maxLen) (hbytes : (n + m) * bytes ≤ 140737488355328) (hbase : base ≤ w.heap.size)
    (h : ∀ v' w', w'.ownsRow base e size v' (n + m) (xs ++ news) → w.grownBy w' v.ownBlock → (v' = .slice none 0 0 ↔ v = .slice none 0 0 ∧ m = 0) → (∀ k, v'.ownBlock = some k → v.ownBlock = some k ∨ w.heap.size ≤ k) → wpList P ops Q rest (a.put o.dst v') w') : wpList P ops Q (o :: rest) a w :=
  wpList_plain hgd fun K hK => by
    obtain ⟨v', w', hr, h2, h3, h4, h5⟩ := append_at (P := P) w base t o.type e i z size bytes ht hi hz hsize hby hzs hsz v n xs hown ad m c news hl hnews h1 h63 hbytes hbase
    unfold Oper.wp execOp
    simp only [ho, resolve, invoke, builtin, Sem.run_bind, Sem.run_pure, Result.andThen_ok, List.map_toArray, List.map_cons, List.map_nil, hs, hx, hr]
    exact hK _ _ (h v' w' h2 h3 h4 h5)

end Go.Proofs.YtppagjhmlgkamaaGreatDoor

/-
  Package parse: lists of expressions that are not empty.
-/
namespace Go.Proofs.YtppagjhmlgkamaaGreatDoor
open Go Go.RowKit Go.Lib

theorem exInfo : (Tryz.prog.info? 38).map (fun i => (i.zero, i.size, i.bytes)) = some (some (.agg #[.int .i64 0, .int .i64 0, .string ⟨#[]⟩, .slice none 0 0]), 4, 56) := by kernel_rfl

set_option maxRecDepth 100000 in
theorem sv_first {W : World} {rb g N cT i o : Nat} {T : List Tok} (h : Rd W rb g N cT T i o) (b1 : isT (T.drop i) [40] = true) (ho : o < 256) (b2 : isT (T.drop (i + 1)) [41] = false) (p c : Nat)
    (HS : ∀ W2, Rd W2 rb g N cT T (i + 1) (o + 1) → Calls Tryz.prog 123 #[.pointer (some ⟨rb, 0, none⟩)] W2 (XP rb g N cT (o + 1) T W2 (.bad p c))) :
    Calls Tryz.prog 141 #[.pointer (some ⟨rb, 0, none⟩), ovE rb] W (LP rb g N cT o T W (.bad p c)) := by
  have HE := Lib.hid (show Calls Tryz.prog 107 #[.pointer (some ⟨rb, 0, none⟩), .string ⟨#[40]⟩] W fun e w' => e = .returned (.tuple #[]) ∧ Rd w' rb g N cT T (i + 1) (o + 1) ∧ Gr rb W w' from enter_yes h [40] (by decide) b1 ho)
  have HI := Lib.hid (fun w1 (h1 : Rd w1 rb g N cT T (i + 1) (o + 1)) => (show Calls Tryz.prog 58 #[.pointer (some ⟨rb, 0, none⟩), .string ⟨#[41]⟩] w1 fun e w' => e = .returned (.bool false) ∧ Below w1.heap.size w1 w' from is_any h1 [41] false b2))
  have HSS := Lib.hid HS
  clear h b1 b2 HS
  go_enter Tryz.func141, Tryz.ntmps141
  go_wp2_with (first
    | (go_at_call 107; ((with_reducible refine HE.out.mono ?_); rintro e w1 ⟨rfl, h1, g1⟩))
    | (go_at_call 58; ((with_reducible refine (HI.out _ h1).mono ?_); rintro e w2 ⟨rfl, e2⟩; have h2 := h1.below e2))
    | (go_at_call 123; ((with_reducible refine (HSS.out _ h2).mono ?_); rintro e w3 ⟨rfl, g3⟩)))
  exact ⟨rfl, rfl, g1.trans ((Gr.of e2).trans g3)⟩

/-- The blocks of the call's own but for the row's. -/
abbrev rowp (L : Nat) (v : Value) : Nat → Prop := fun k => L ≤ k ∧ v.ownBlock ≠ some k
/-- At the head of each round: the expressions so far lie in a row of the call's own. -/
def SRel (ex : List Tok → PR Ex) (rb g N cT o : Nat) (T : List Tok) (W : World) (y : PR (List Ex)) (v : Value) (wr : World) : Prop :=
  ∃ m l cs i, moreT ex m l (T.drop i) = y ∧ Rd wr rb g N cT T i (o + 1) ∧ Gr rb W wr ∧ wr.ownsRow W.heap.size 38 4 v l.length cs ∧ xCs (rowp W.heap.size v) wr l cs ∧ l ≠ [] ∧ l.length ≤ 8

/-- The cells that an expression is appended as. -/
abbrev news (e : Ex) (A : Option Addr) (c : Nat) : List Value := [.int .i64 e.op, .int .i64 e.n, .string e.s, .slice A e.l.len c]
theorem news_one (e : Ex) (A : Option Addr) (c : Nat) : ∀ u ∈ news e A c, u.oneCell' = true := by
  intro u hu
  simp only [news, List.mem_cons, List.not_mem_nil, or_false] at hu
  rcases hu with rfl | rfl | rfl | rfl <;> rfl
theorem news_cells (w3 : World) (e : Ex) (A : Option Addr) (c : Nat) : ∀ j u, (news e A c)[j]? = some u → (w3.alloc (.cells #[.int .i64 e.op, .int .i64 e.n, .string e.s, .slice A e.l.len c] 38)).cell? ((⟨w3.heap.size, 0, none⟩ : Addr).add j) = some u := by
  intro j u hu
  rw [show (⟨w3.heap.size, 0, none⟩ : Addr).add j = ⟨w3.heap.size, j, none⟩ by unfold Addr.add; split <;> simp_all, box_cell (heap_alloc_new w3 _)]
  simpa using hu
/-- One more expression. -/
theorem sv_step {W wr w3 w4 : World} {O : Obj} {rb g N cT i o c n : Nat} {T : List Tok} {E : TypeId} {l : List Ex} {e : Ex} {cs : List Value} {vv v1 : Value} {Al : Option Addr}
    (hG : Gr rb W wr) (hown : wr.ownsRow W.heap.size E 4 vv n cs) (hx : xCs (rowp W.heap.size vv) wr l cs) (g3 : Gr rb wr w3) (hv : EX wr.heap.size w3 (.slice Al e.l.len c) e.l) (hok : okE e) (h3 : Rd w3 rb g N cT T i o)
    (hgrow : (w3.alloc O).grownBy w4 vv.ownBlock) (hat : ∀ k, v1.ownBlock = some k → vv.ownBlock = some k ∨ (w3.alloc O).heap.size ≤ k) (hrl : rb < W.heap.size) (hgl : g < W.heap.size) :
    Rd w4 rb g N cT T i o ∧ Gr rb W w4 ∧ xCs (rowp W.heap.size v1) w4 (l ++ [e]) (cs ++ news e Al c) := by
  have z1 := hG.size
  have z2 := g3.size
  have z3 : (w3.alloc O).heap.size = w3.heap.size + 1 := by simp
  have z4 := hgrow.size
  have hrow := hown.lt
  have hba : ∀ k, k < w3.heap.size → vv.ownBlock ≠ some k → w4.heap[k]? = w3.heap[k]? := fun k hk hne => (hgrow.block k (by omega) (fun e => hne e.symm)).trans (Below.heap_alloc w3 O k hk)
  have hlow : ∀ k, k < W.heap.size → w4.heap[k]? = w3.heap[k]? := fun k hk => hba k (by omega) (fun e => by have := (hrow k e).1; omega)
  have hr := hlow rb hrl
  have hgb := hlow g hgl
  have cc : ∀ j, w4.cell? ⟨rb, j, none⟩ = w3.cell? ⟨rb, j, none⟩ := fun j => World.cell?_of_block (a := ⟨rb, j, none⟩) hr
  have ff : ∀ j, w4.frozen? ⟨rb, j, none⟩ = w3.frozen? ⟨rb, j, none⟩ := fun j => World.frozen?_of_block (a := ⟨rb, j, none⟩) hr
  refine ⟨⟨(cc 0).trans h3.c0, (cc 1).trans h3.c1, (cc 2).trans h3.c2, fun j => (ff j).trans (h3.fz j), by omega, h3.tok.step (by omega) hgb, h3.ne, h3.len, h3.lt, h3.small, h3.good⟩, ?_, ?_⟩
  · have h13 := (hG.trans g3).alloc O
    exact ⟨(World.grownBy.os hgrow).trans (World.grownBy.os h13), (World.grownBy.tape hgrow).trans (World.grownBy.tape h13), (World.grownBy.output hgrow).trans (World.grownBy.output h13), by omega, fun k hk hne => (hlow k hk).trans (World.grownBy.block (hG.trans g3) k hk hne)⟩
  · refine xCs.snoc (EY.of_ex hv ⟨by omega, fun k hk hl => hba k hl (fun e => by have := (hrow k e).2; omega)⟩ fun k hk hl => ⟨by omega, fun e => ?pa⟩) hok (xCs.kp (by omega) (fun k hk hl => ?pb) (fun k hk hl => ⟨hk.1, fun e => ?pc⟩) hx)
    case pa =>
      rcases hat k e with e | e
      · have := (hrow k e).2; omega
      · omega
    case pb => exact (hba k (by omega) hk.2).trans (g3.block hl (by have := hk.1; omega))
    case pc =>
      rcases hat k e with e | e
      · exact hk.2 e
      · omega

set_option maxRecDepth 100000 in
theorem sv_loop {W : World} {rb g N cT i o : Nat} {T : List Tok} (h : Rd W rb g N cT T i o) (b1 : isT (T.drop i) [40] = true) (ho : o < 256) (b2 : isT (T.drop (i + 1)) [41] = false) (ex : List Tok → PR Ex) (v : Ex) (r : List Tok) (m : Nat) (y : PR (List Ex)) (hy : moreT ex m [v] r = y) (hyo : y ≠ .out) (HLn : ∀ ts v r, ex ts = .ok v r → r.length ≤ ts.length)
    (HS : ∀ W2, Rd W2 rb g N cT T (i + 1) (o + 1) → Calls Tryz.prog 123 #[.pointer (some ⟨rb, 0, none⟩)] W2 (XP rb g N cT (o + 1) T W2 (.ok v r)))
    (HM : ∀ W2 i', Rd W2 rb g N cT T i' (o + 1) → ex (T.drop i') ≠ .out → Calls Tryz.prog 123 #[.pointer (some ⟨rb, 0, none⟩)] W2 (XP rb g N cT (o + 1) T W2 (ex (T.drop i')))) :
    Calls Tryz.prog 141 #[.pointer (some ⟨rb, 0, none⟩), ovE rb] W (LP rb g N cT o T W y) := by
  have HE := Lib.hid (show Calls Tryz.prog 107 #[.pointer (some ⟨rb, 0, none⟩), .string ⟨#[40]⟩] W fun e w' => e = .returned (.tuple #[]) ∧ Rd w' rb g N cT T (i + 1) (o + 1) ∧ Gr rb W w' from enter_yes h [40] (by decide) b1 ho)
  have HI := Lib.hid (fun w1 (h1 : Rd w1 rb g N cT T (i + 1) (o + 1)) => (show Calls Tryz.prog 58 #[.pointer (some ⟨rb, 0, none⟩), .string ⟨#[41]⟩] w1 fun e w' => e = .returned (.bool false) ∧ Below w1.heap.size w1 w' from is_any h1 [41] false b2))
  have HSS := Lib.hid HS
  have HMM := Lib.hid HM
  have HY := Lib.hid hy
  have hrl := h.rlt
  have hgl := h.tok.1
  clear h b1 b2 HS HM hy
  obtain ⟨i0, hi, hz0, hz1, hz2⟩ := info_parts exInfo
  go_enter Tryz.func141, Tryz.ntmps141
  go_wp2_with (first
    | (go_at_call 107; ((with_reducible refine HE.out.mono ?_); rintro e w1 ⟨rfl, h1, g1⟩))
    | (go_at_call 58; ((with_reducible refine (HI.out _ h1).mono ?_); rintro e w2 ⟨rfl, e2⟩; have h2 := h1.below e2))
    | (go_at_call 123; ((with_reducible refine (HSS.out _ h2).mono ?_); rintro e w3 ⟨⟨vv, rfl, vl, rfl, hv, hok⟩, ⟨i3, h3, hd⟩, g3⟩; obtain ⟨Al, cl, el, _⟩ := id hv; subst el))
    | (at_builtin; refine step_append_at rfl (.tmp 11) (.tmp 14) 36 rfl W.heap.size 38 i0 _ 4 56 Tryz.underlying36 hi hz0 hz1 hz2 rfl (by decide) (.slice none 0 0) 0 [] rfl (World.ownsRow_nil _ _ _ _) ⟨w3.heap.size, 0, none⟩ 1 1 (news v Al cl) rfl rfl (news_cells w3 v Al cl) (news_one v Al cl) (by unfold maxLen; omega) (by omega) (by have := g1.size; have := e2.size; have := g3.size; simp; omega) ?_; intro v1 w4 hown1 hgrow1 _ hat1))
  have hst := sv_step (l := []) (cs := []) (vv := .slice none 0 0) (n := 0) (g1.trans (Gr.of e2)) (World.ownsRow_nil _ _ 38 4) rfl g3 hv hok h3 hgrow1 hat1 hrl hgl
  obtain ⟨h4, g4, hx4⟩ := hst
  have hstart : SRel ex rb g N cT o T W y v1 w4 := ⟨m, [v], _, i3, by rw [hd]; exact HY.out, h4, g4, hown1, hx4, by simp, by simp⟩
  clear h4 g4 hx4 hat1 hgrow1 hown1 hv hok hd h3 g3 e2 h2 h1 g1 HSS HE HI HY
  go_loopw [5] (fun s wr => SRel ex rb g N cT o T W y s wr) (fun _ wr => posR rb N wr)
  case atStart => exact hstart
  case round =>
    clear hstart
    obtain ⟨m, l, cs, i, hy, hR, hG, hown, hx, hne, hl8⟩ := hrel
    cases m with
    | zero => exact absurd hy.symm hyo
    | succ m =>
      rw [moreT] at hy
      obtain ⟨n, hn⟩ : ∃ n, l.length = n := ⟨_, rfl⟩
      rw [hn] at hown hl8 hy
      obtain ⟨g', cap', rfl⟩ : ∃ g' cap', u5 = .slice (some ⟨g', 0, none⟩) n cap' := by
        rcases hown.2 with ⟨_, h0⟩ | ⟨g', cap', cur, e, _⟩
        · exact absurd (List.eq_nil_of_length_eq_zero (hn.trans h0)) hne
        · exact ⟨g', cap', e⟩
      have hg' := hown.lt g' rfl
      have HR := Lib.hid hR
      cases b : isT (T.drop i) [44] with
      | false =>
        have HT := Lib.hid (show Calls Tryz.prog 106 #[.pointer (some ⟨rb, 0, none⟩), .string ⟨#[44]⟩] wr fun e w' => e = .returned (.bool false) ∧ Below wr.heap.size wr w' from take_no hR [44] b)
        rw [b, if_neg (by decide), wantT] at hy
        by_cases c : isT (T.drop i) [41] = true
        · rw [if_pos c] at hy
          have HL := Lib.hid (fun w1 (h1 : Rd w1 rb g N cT T i (o + 1)) => (show Calls Tryz.prog 108 #[.pointer (some ⟨rb, 0, none⟩), .string ⟨#[41]⟩] w1 fun e w' => e = .returned (.tuple #[]) ∧ Rd w' rb g N cT T (i + 1) o ∧ Gr rb w1 w' from leave_yes h1 [41] (by decide) c))
          clear hR
          go_wp2_with (first
            | (go_at_call 106; ((with_reducible refine HT.out.mono ?_); rintro e' w5 ⟨rfl, e5⟩; have h5 := HR.out.below e5))
            | (go_at_call 108; ((with_reducible refine (HL.out _ h5).mono ?_); rintro e' w6 ⟨rfl, h6, g6⟩)))
          go_ret
          have g7 := (Gr.of e5).trans g6
          rw [← hy]
          refine ⟨⟨_, rfl, row_ex (p := rowp W.heap.size (.slice (some ⟨g', 0, none⟩) n cap')) (hown.kept g7 (.inr (by simp only [Value.ownBlock, ne_eq, Option.some.injEq]; omega))) (Nat.le_refl _) (hx.kp g7.size (fun k hk hl => g7.block hl (by have := hk.1; omega)) (fun k hk _ => hk)) (fun k hk => hk.1) hn.symm⟩, ⟨i + 1, h6, (drop_tail T i).symm⟩, hG.trans g7⟩
        · rw [if_neg c] at hy
          have HL := Lib.hid (fun w1 (h1 : Rd w1 rb g N cT T i (o + 1)) => (show Calls Tryz.prog 108 #[.pointer (some ⟨rb, 0, none⟩), .string ⟨#[41]⟩] w1 fun e w' => e = flt (hdT (T.drop i)).at_ 2 ∧ Below w1.heap.size w1 w' from leave_no h1 [41] (by simpa using c) _ rfl))
          clear hR
          go_wp2_with (first
            | (go_at_call 106; ((with_reducible refine HT.out.mono ?_); rintro e' w5 ⟨rfl, e5⟩; have h5 := HR.out.below e5))
            | (go_at_call 108; ((with_reducible refine (HL.out _ h5).mono ?_); rintro e' w6 ⟨rfl, e6⟩)))
          rw [← hy]
          exact ⟨rfl, rfl, hG.trans ((Gr.of e5).trans (Gr.of e6))⟩
      | true =>
        have HT := Lib.hid (show Calls Tryz.prog 106 #[.pointer (some ⟨rb, 0, none⟩), .string ⟨#[44]⟩] wr fun e w' => e = .returned (.bool true) ∧ Rd w' rb g N cT T (i + 1) (o + 1) ∧ Gr rb wr w' from take_yes hR [44] (by decide) b)
        rw [b, if_pos rfl, drop_tail] at hy
        clear hR
        by_cases h8 : n = 8
        · subst h8
          rw [if_pos rfl] at hy
          have HF := Lib.hid (fun w1 (h1 : Rd w1 rb g N cT T (i + 1) (o + 1)) => fail_any h1 10 _ 10 rfl rfl)
          go_wp2_with (first
            | (go_at_call 106; ((with_reducible refine HT.out.mono ?_); rintro e' w5 ⟨rfl, h5, g5⟩))
            | (go_at_call 59; ((with_reducible refine (HF.out _ h5).mono ?_); rintro e' w6 ⟨rfl, e6⟩)))
          rw [← hy]
          exact ⟨rfl, rfl, hG.trans (g5.trans (Gr.of e6))⟩
        · rw [if_neg h8] at hy
          have d8 : decide ((n : Int) = 8) = false := decide_eq_false (by omega)
          cases hxv : ex (T.drop (i + 1)) with
          | out => rw [hxv] at hy; exact absurd hy.symm hyo
          | bad p c =>
            rw [hxv] at hy
            have HX := Lib.hid (fun w1 (h1 : Rd w1 rb g N cT T (i + 1) (o + 1)) => (show Calls Tryz.prog 123 #[.pointer (some ⟨rb, 0, none⟩)] w1 (XP rb g N cT (o + 1) T w1 (.bad p c)) from hxv ▸ HMM.out w1 (i + 1) h1 (by rw [hxv]; exact fun e => by cases e)))
            go_wp2_with (first
              | (go_at_call 106; ((with_reducible refine HT.out.mono ?_); rintro e' w5 ⟨rfl, h5, g5⟩))
              | (go_at_call 123; ((with_reducible refine (HX.out _ h5).mono ?_); rintro e' w6 ⟨rfl, g6⟩)))
            rw [← hy]
            exact ⟨rfl, rfl, hG.trans (g5.trans g6)⟩
          | ok v2 r2 =>
            rw [hxv] at hy
            have HX := Lib.hid (fun w1 (h1 : Rd w1 rb g N cT T (i + 1) (o + 1)) => (show Calls Tryz.prog 123 #[.pointer (some ⟨rb, 0, none⟩)] w1 (XP rb g N cT (o + 1) T w1 (.ok v2 r2)) from hxv ▸ HMM.out w1 (i + 1) h1 (by rw [hxv]; exact fun e => by cases e)))
            go_wp2_with (first
              | (go_at_call 106; ((with_reducible refine HT.out.mono ?_); rintro e' w5 ⟨rfl, h5, g5⟩))
              | (go_at_call 123; ((with_reducible refine (HX.out _ h5).mono ?_); rintro e' w6 ⟨⟨vv, rfl, vl, rfl, hv, hok⟩, ⟨i6, h6, hd⟩, g6⟩; obtain ⟨A2, c2, el, _⟩ := id hv; subst el))
              | (at_builtin; refine step_append_at rfl (.tmp 23) (.tmp 26) 36 rfl W.heap.size 38 i0 _ 4 56 Tryz.underlying36 hi hz0 hz1 hz2 rfl (by decide) (.slice (some ⟨g', 0, none⟩) n cap') n cs rfl ((hown.kept (g5.trans g6) (.inr (by simp only [Value.ownBlock, ne_eq, Option.some.injEq]; omega))).alloc _) ⟨w6.heap.size, 0, none⟩ 1 1 (news v2 A2 c2) rfl rfl (news_cells w6 v2 A2 c2) (news_one v2 A2 c2) (by unfold maxLen; omega) (by omega) (by have := hG.size; have := g5.size; have := g6.size; simp; omega) ?_; intro v7 w7 hown7 hgrow7 _ hat7))
            have ho5 := hown.kept g5 (.inr (by simp only [Value.ownBlock, ne_eq, Option.some.injEq]; omega))
            have hx5 := hx.kp (p := rowp W.heap.size (.slice (some ⟨g', 0, none⟩) n cap')) (q := rowp W.heap.size (.slice (some ⟨g', 0, none⟩) n cap')) g5.size (fun k hk hl => g5.block hl (by have := hk.1; omega)) (fun k hk _ => hk)
            obtain ⟨h7, g7, hx7⟩ := sv_step (hG.trans g5) ho5 hx5 g6 hv hok h6 hgrow7 hat7 hrl hgl
            refine ⟨⟨m, l ++ [v2], _, i6, by rw [hd]; exact hy, h7, g7, by rw [List.length_append, hn]; exact hown7, hx7, by simp, by rw [List.length_append, hn]; show n + 1 ≤ 8; omega⟩, ?_⟩
            rw [posR_eq h7, posR_eq HR.out]
            have hl2 := h6.lt
            have hl1 := h6.len
            have hlen2 := HLn _ _ _ hxv
            rw [← hd, List.length_drop, List.length_drop] at hlen2
            have hl3 : i < i6 := by omega
            exact Nat.sub_lt_sub_left (Nat.lt_trans hl3 hl2) hl3

/-- What is wrong ahead of the first one. -/
theorem several_any {W : World} {rb g N cT i o : Nat} {T : List Tok} (h : Rd W rb g N cT T i o) (b1 : isT (T.drop i) [40] = true) (ex : List Tok → PR Ex) (m : Nat) (hx : severalT ex m o (T.drop i) ≠ .out) (HLn : ∀ ts v r, ex ts = .ok v r → r.length ≤ ts.length)
    (HM : ∀ W2 i', o < 256 → Rd W2 rb g N cT T i' (o + 1) → ex (T.drop i') ≠ .out → Calls Tryz.prog 123 #[.pointer (some ⟨rb, 0, none⟩)] W2 (XP rb g N cT (o + 1) T W2 (ex (T.drop i')))) :
    Calls Tryz.prog 141 #[.pointer (some ⟨rb, 0, none⟩), ovE rb] W (LP rb g N cT o T W (severalT ex m o (T.drop i))) := by
  by_cases ho : o = 256
  · subst ho
    have e : severalT ex m 256 (T.drop i) = .bad (hdT (T.drop i)).at_ 3 := by simp [severalT, enterT, b1, PR.bind]
    rw [e]
    exact sv_deep h b1
  · have ho' : o < 256 := by have := h.small; omega
    have e : severalT ex m o (T.drop i) = if isT (T.drop (i + 1)) [41] then .ok [] (T.drop (i + 2)) else (ex (T.drop (i + 1))).bind fun x r => moreT ex m [x] r := by
      by_cases b2 : isT (T.drop (i + 1)) [41] = true <;> simp [severalT, enterT, wantT, b1, ho, b2, PR.bind]
    rw [e] at hx ⊢
    cases b2 : isT (T.drop (i + 1)) [41] with
    | true => exact sv_none h b1 ho' b2
    | false =>
      rw [b2, if_neg (by decide)] at hx
      rw [if_neg (by decide)]
      have hxo : ex (T.drop (i + 1)) ≠ .out := fun e => by rw [e] at hx; exact hx rfl
      have HS := fun W2 (h2 : Rd W2 rb g N cT T (i + 1) (o + 1)) => HM W2 (i + 1) ho' h2 hxo
      cases hxv : ex (T.drop (i + 1)) with
      | out => exact absurd hxv hxo
      | bad p c =>
        rw [hxv] at HS
        exact sv_first h b1 ho' b2 p c HS
      | ok v r =>
        rw [hxv] at HS hx
        exact sv_loop h b1 ho' b2 ex v r m _ rfl hx HLn HS fun W2 i' h2 hx2 => HM W2 i' ho' h2 hx2

end Go.Proofs.YtppagjhmlgkamaaGreatDoor

/-
  Package parse: what begins with a name (named): a call; the whole.
-/
namespace Go.Proofs.YtppagjhmlgkamaaGreatDoor
open Go Go.RowKit Go.Lib

set_option maxRecDepth 100000 in
theorem nm_call_ok {W : World} {rb g N cT i o : Nat} {T : List Tok} (h : Rd W rb g N cT T i o) (t : List UInt8) (ht : (hdT (T.drop i)).text = t) (hb : nameB (baT t) = true) (b1 : isT (T.drop (i + 1)) [91] = false) (b2 : isT (T.drop (i + 1)) [40] = true) (l : List Ex) (r : List Tok)
    (HS : ∀ W2, Rd W2 rb g N cT T (i + 1) o → Calls Tryz.prog 141 #[.pointer (some ⟨rb, 0, none⟩), ovE rb] W2 (LP rb g N cT o T W2 (.ok l r))) :
    Calls Tryz.prog 140 #[.pointer (some ⟨rb, 0, none⟩)] W (XP rb g N cT o T W (.ok ⟨5, 0, baT t, exES l⟩ r)) := by
  have HE := Lib.hid (fun W1 (h1 : Rd W1 rb g N cT T i o) => name_yes h1 t ht hb)
  have HI1 := Lib.hid (fun w1 (h1 : Rd w1 rb g N cT T (i + 1) o) => (show Calls Tryz.prog 58 #[.pointer (some ⟨rb, 0, none⟩), .string ⟨#[91]⟩] w1 fun e w' => e = .returned (.bool false) ∧ Below w1.heap.size w1 w' from is_any h1 [91] false b1))
  have HI2 := Lib.hid (fun w1 (h1 : Rd w1 rb g N cT T (i + 1) o) => (show Calls Tryz.prog 58 #[.pointer (some ⟨rb, 0, none⟩), .string ⟨#[40]⟩] w1 fun e w' => e = .returned (.bool true) ∧ Below w1.heap.size w1 w' from is_any h1 [40] true b2))
  have HSS := Lib.hid HS
  have htx := h.text
  rw [ht] at htx
  have hrl := h.rlt
  have hgl := h.tok.1
  have h0 := h.alloc (.cells #[.int .i64 0, .int .i64 0, .string ⟨#[]⟩, .slice none 0 0] 38)
  have B6 := heap_alloc_new W (.cells #[.int .i64 0, .int .i64 0, .string ⟨#[]⟩, .slice none 0 0] 38)
  have g0 := (Gr.refl rb W).alloc (.cells #[.int .i64 0, .int .i64 0, .string ⟨#[]⟩, .slice none 0 0] 38)
  have z0 : (W.alloc (.cells #[.int .i64 0, .int .i64 0, .string ⟨#[]⟩, .slice none 0 0] 38)).heap.size = W.heap.size + 1 := by simp
  clear h ht hb b1 b2 HS
  go_enter Tryz.func140, Tryz.ntmps140
  go_upto_region 1 with fail
  obtain ⟨w0, hw0⟩ : ∃ W1, W.alloc (.cells #[.int .i64 0, .int .i64 0, .string ⟨#[]⟩, .slice none 0 0] 38) = W1 := ⟨_, rfl⟩
  rw [hw0] at h0 B6 g0 z0 ⊢
  clear hw0
  go_upto_region 2 with (go_at_call 92; ((with_reducible refine (HE.out _ h0).mono ?_); rintro e w1 ⟨rfl, h1, g1⟩))
  have z1 := g1.size
  have h2 := h1.alloc (.cells #[.int .i64 2, .int .i64 0, .string (baT t), .slice none 0 0] 38)
  have B7 := heap_alloc_new w1 (.cells #[.int .i64 2, .int .i64 0, .string (baT t), .slice none 0 0] 38)
  have g2 := (g0.trans g1).alloc (.cells #[.int .i64 2, .int .i64 0, .string (baT t), .slice none 0 0] 38)
  have z2 : (w1.alloc (.cells #[.int .i64 2, .int .i64 0, .string (baT t), .slice none 0 0] 38)).heap.size = w1.heap.size + 1 := by simp
  have B8 := (Below.heap_alloc w1 (.cells #[.int .i64 2, .int .i64 0, .string (baT t), .slice none 0 0] 38) W.heap.size (by omega)).trans ((g1.block (k := W.heap.size) (by omega) (by omega)).trans B6)
  obtain ⟨w2, hw2⟩ : ∃ W1, w1.alloc (.cells #[.int .i64 2, .int .i64 0, .string (baT t), .slice none 0 0] 38) = W1 := ⟨_, rfl⟩
  rw [hw2] at h2 B7 g2 B8 z2 ⊢
  clear hw2
  obtain ⟨n3, hn3⟩ : ∃ n3, w1.heap.size = n3 := ⟨_, rfl⟩
  rw [hn3] at B7 z2 z1 ⊢
  have HB7 := Lib.hid (fun w3 (e3 : Below w2.heap.size w2 w3) => (e3.block _ (lt_heap B7)).trans B7)
  have HC7 := Lib.hid (fun w3 (e3 : Below w2.heap.size w2 w3) (j : Nat) => box_cell (HB7.out w3 e3) j)
  have HF7 := Lib.hid (fun w3 (e3 : Below w2.heap.size w2 w3) (j : Nat) => box_frozen (HB7.out w3 e3) j)
  go_upto_region 7 with (first
    | (go_at_call 58; ((with_reducible refine (HI1.out _ h2).mono ?_); rintro e wx ⟨rfl, ex⟩; have hx := h2.below ex))
    | (go_at_call 58; ((with_reducible refine (HI2.out _ hx).mono ?_); rintro e w3 ⟨rfl, ey⟩; have e3 := ex.trans (ey.mono ex.size); have c0 := HC7.out w3 e3 0; have f0 := HF7.out w3 e3 0; simp at c0)))
  have z3 := e3.size
  have h4 := (h2.below e3).set (b := n3) (j := 0) (.int .i64 5) (by omega) (by omega)
  have g4 := (g2.trans (Gr.of e3)).setNew (j := 0) (.int .i64 5) (show W.heap.size ≤ n3 by omega)
  have B7 := (set_heap4 (a := .int .i64 5) (HB7.out w3 e3)).1
  have B8 := (Below.heap_setCell w3 ⟨n3, 0, none⟩ (.int .i64 5) W.heap.size (show W.heap.size ≠ n3 by omega)).trans ((e3.block _ (lt_heap B8)).trans B8)
  have z4 : (w3.setCell ⟨n3, 0, none⟩ (.int .i64 5)).heap.size = w3.heap.size := by simp
  obtain ⟨w4, hw4⟩ : ∃ W1, w3.setCell ⟨n3, 0, none⟩ (.int .i64 5) = W1 := ⟨_, rfl⟩
  rw [hw4] at h4 B7 g4 B8 z4 ⊢
  clear hw4 c0 f0
  have HB7 := Lib.hid (fun w5 (g5 : Gr rb w4 w5) => (g5.block (lt_heap B7) (by omega)).trans B7)
  have HB8 := Lib.hid (fun w5 (g5 : Gr rb w4 w5) => (g5.block (lt_heap B8) (by omega)).trans B8)
  have HC7 := Lib.hid (fun w5 (g5 : Gr rb w4 w5) (j : Nat) => box_cell (HB7.out w5 g5) j)
  have HF7 := Lib.hid (fun w5 (g5 : Gr rb w4 w5) (j : Nat) => box_frozen (HB7.out w5 g5) j)
  go_upto_region 8 with (go_at_call 141; ((with_reducible refine (HSS.out _ h4).mono ?_); rintro e w5 ⟨⟨vv, rfl, hv⟩, ⟨i', h5, hd⟩, g5⟩; obtain ⟨Al, cl, el, _⟩ := id hv; subst el; have c3 := HC7.out w5 g5 3; have f3 := HF7.out w5 g5 3; simp only [List.getElem?_toArray, List.getElem?_cons_succ, List.getElem?_cons_zero] at c3))
  have z5 := g5.size
  have hl7 := lt_heap (HB7.out w5 g5)
  have hl8 := lt_heap (HB8.out w5 g5)
  have hE6 : EX (n3 + 1) (w5.setCell ⟨n3, 3, none⟩ (.slice Al (exES l).len cl)) (.slice Al (exES l).len cl) (exES l) := EX.kp hv (Kp.set _ (show n3 < w4.heap.size by omega)) (by omega)
  have h6 := h5.set (b := n3) (j := 3) (.slice Al (exES l).len cl) (by omega) (by omega)
  have g6 := (g4.trans g5).setNew (j := 3) (.slice Al (exES l).len cl) (show W.heap.size ≤ n3 by omega)
  have B9 := (set_heap4 (a := .slice Al (exES l).len cl) (HB7.out w5 g5)).2
  have B10 := (Below.heap_setCell w5 ⟨n3, 3, none⟩ (.slice Al (exES l).len cl) W.heap.size (show W.heap.size ≠ n3 by omega)).trans (HB8.out w5 g5)
  obtain ⟨w6, hw6⟩ : ∃ W1, w5.setCell ⟨n3, 3, none⟩ (.slice Al (exES l).len cl) = W1 := ⟨_, rfl⟩
  rw [hw6] at hE6 h6 g6 B9 B10 ⊢
  clear hw6 c3 f3
  have c0 := box_cell B10 0
  have c1 := box_cell B10 1
  have c2 := box_cell B10 2
  have c3 := box_cell B10 3
  have f0 := box_frozen B10 0
  have f1 := box_frozen B10 1
  have f2 := box_frozen B10 2
  have f3 := box_frozen B10 3
  have d0 := box_cell B9 0
  have d1 := box_cell B9 1
  have d2 := box_cell B9 2
  have d3 := box_cell B9 3
  simp at c0 c1 c2 c3 d0 d1 d2 d3
  have hP := ret4 (a := .int .i64 5) (b := .int .i64 0) (c := .string (baT t)) (d := .slice Al (exES l).len cl) B10
  have hfin : XP rb g N cT o T W (.ok ⟨5, 0, baT t, exES l⟩ r) (.returned (.agg #[.int .i64 5, .int .i64 0, .string (baT t), .slice Al (exES l).len cl])) (put4 w6 W.heap.size (.int .i64 5) (.int .i64 0) (.string (baT t)) (.slice Al (exES l).len cl)) :=
    ⟨⟨_, rfl, _, rfl, hE6.kp (Kp.put4 (by omega)) (by omega), (show I64 5 by unfold I64; omega), i64_0, htx⟩, ⟨i', h6.put4 (by omega) (by omega), hd⟩, g6.put4 (Nat.le_refl _)⟩
  go_wp2
  obtain ⟨w7, hw7⟩ : ∃ W5, put4 w6 W.heap.size (.int .i64 5) (.int .i64 0) (.string (baT t)) (.slice Al (exES l).len cl) = W5 := ⟨_, rfl⟩
  show bodyPost _ _ _ _ _ (put4 w6 W.heap.size (.int .i64 5) (.int .i64 0) (.string (baT t)) (.slice Al (exES l).len cl))
  rw [hw7] at hP hfin ⊢
  have p0 := hP 0 (by decide)
  have p1 := hP 1 (by decide)
  have p2 := hP 2 (by decide)
  have p3 := hP 3 (by decide)
  exact bodyPost_ret (v := .agg #[.int .i64 5, .int .i64 0, .string (baT t), .slice Al (exES l).len cl]) (by simp [results, Tryz.results140, go_sem, p0, p1, p2, p3]) rfl hfin

set_option maxRecDepth 100000 in
theorem nm_call_bad {W : World} {rb g N cT i o : Nat} {T : List Tok} (h : Rd W rb g N cT T i o) (t : List UInt8) (ht : (hdT (T.drop i)).text = t) (hb : nameB (baT t) = true) (b1 : isT (T.drop (i + 1)) [91] = false) (b2 : isT (T.drop (i + 1)) [40] = true) (p c : Nat)
    (HS : ∀ W2, Rd W2 rb g N cT T (i + 1) o → Calls Tryz.prog 141 #[.pointer (some ⟨rb, 0, none⟩), ovE rb] W2 (LP rb g N cT o T W2 (.bad p c))) :
    Calls Tryz.prog 140 #[.pointer (some ⟨rb, 0, none⟩)] W (XP rb g N cT o T W (.bad p c)) := by
  have HE := Lib.hid (fun W1 (h1 : Rd W1 rb g N cT T i o) => name_yes h1 t ht hb)
  have HI1 := Lib.hid (fun w1 (h1 : Rd w1 rb g N cT T (i + 1) o) => (show Calls Tryz.prog 58 #[.pointer (some ⟨rb, 0, none⟩), .string ⟨#[91]⟩] w1 fun e w' => e = .returned (.bool false) ∧ Below w1.heap.size w1 w' from is_any h1 [91] false b1))
  have HI2 := Lib.hid (fun w1 (h1 : Rd w1 rb g N cT T (i + 1) o) => (show Calls Tryz.prog 58 #[.pointer (some ⟨rb, 0, none⟩), .string ⟨#[40]⟩] w1 fun e w' => e = .returned (.bool true) ∧ Below w1.heap.size w1 w' from is_any h1 [40] true b2))
  have HSS := Lib.hid HS
  have hrl := h.rlt
  have hgl := h.tok.1
  have HR := Lib.hid h
  clear h ht hb b1 b2 HS
  go_enter Tryz.func140, Tryz.ntmps140
  go_upto_region 2 with (go_at_call 92; ((with_reducible refine (HE.out _ (HR.out.alloc _)).mono ?_); rintro e w1 ⟨rfl, h1, g1⟩))
  have z1 := g1.size
  rw [World.size_alloc] at z1
  have h2 := h1.alloc (.cells #[.int .i64 2, .int .i64 0, .string (baT t), .slice none 0 0] 38)
  have g2 := (((Gr.refl rb W).alloc (.cells #[.int .i64 0, .int .i64 0, .string ⟨#[]⟩, .slice none 0 0] 38)).trans g1).alloc (.cells #[.int .i64 2, .int .i64 0, .string (baT t), .slice none 0 0] 38)
  have B7 := heap_alloc_new w1 (.cells #[.int .i64 2, .int .i64 0, .string (baT t), .slice none 0 0] 38)
  obtain ⟨w2, hw2⟩ : ∃ W1, w1.alloc (.cells #[.int .i64 2, .int .i64 0, .string (baT t), .slice none 0 0] 38) = W1 := ⟨_, rfl⟩
  rw [hw2] at h2 B7 g2 ⊢
  clear hw2
  obtain ⟨n3, hn3⟩ : ∃ n3, w1.heap.size = n3 := ⟨_, rfl⟩
  rw [hn3] at B7 z1 ⊢
  have HB7 := Lib.hid (fun w3 (e3 : Below w2.heap.size w2 w3) => (e3.block _ (lt_heap B7)).trans B7)
  have HC7 := Lib.hid (fun w3 (e3 : Below w2.heap.size w2 w3) (j : Nat) => box_cell (HB7.out w3 e3) j)
  have HF7 := Lib.hid (fun w3 (e3 : Below w2.heap.size w2 w3) (j : Nat) => box_frozen (HB7.out w3 e3) j)
  have HR4 := Lib.hid (fun w3 (e3 : Below w2.heap.size w2 w3) => (h2.below e3).set (b := n3) (j := 0) (.int .i64 5) (by omega) (by omega))
  have HG4 := Lib.hid (fun w3 (e3 : Below w2.heap.size w2 w3) => (g2.trans (Gr.of e3)).setNew (j := 0) (.int .i64 5) (show W.heap.size ≤ n3 by omega))
  clear B7
  go_wp2_with (first
    | (go_at_call 58; ((with_reducible refine (HI1.out _ h2).mono ?_); rintro e wx ⟨rfl, ex⟩; have hx := h2.below ex))
    | (go_at_call 58; ((with_reducible refine (HI2.out _ hx).mono ?_); rintro e w3 ⟨rfl, ey⟩; have e3 := ex.trans (ey.mono ex.size); have c0 := HC7.out w3 e3 0; have f0 := HF7.out w3 e3 0; simp at c0))
    | (go_at_call 141; ((with_reducible refine (HSS.out _ (HR4.out _ e3)).mono ?_); rintro e w5 ⟨rfl, g5⟩)))
  exact ⟨rfl, rfl, (HG4.out _ e3).trans g5⟩

/-- What begins with a name. -/
theorem nmd_any {W : World} {rb g N cT i o : Nat} {T : List Tok} (h : Rd W rb g N cT T i o) (ex : Nat → Nat → List Tok → PR Ex) (m : Nat) (hx : namedT ex m o (T.drop i) ≠ .out) (HLn : ∀ l o ts v r, ex l o ts = .ok v r → r.length ≤ ts.length)
    (HX : ∀ W2 i', Rd W2 rb g N cT T i' (o + 1) → ex 1 (o + 1) (T.drop i') ≠ .out → Calls Tryz.prog 123 #[.pointer (some ⟨rb, 0, none⟩)] W2 (XP rb g N cT (o + 1) T W2 (ex 1 (o + 1) (T.drop i')))) :
    Calls Tryz.prog 140 #[.pointer (some ⟨rb, 0, none⟩)] W (XP rb g N cT o T W (namedT ex m o (T.drop i))) := by
  obtain ⟨t, ht⟩ : ∃ t, (hdT (T.drop i)).text = t := ⟨_, rfl⟩
  cases hb : nameB (baT t) with
  | false =>
    have e : namedT ex m o (T.drop i) = .bad (hdT (T.drop i)).at_ 2 := by simp [namedT, nameT, ht, hb, PR.bind]
    rw [e]
    exact nm_no h (by rw [ht]; exact hb) _ rfl
  | true =>
    have e : namedT ex m o (T.drop i) = if isT (T.drop (i + 1)) [91] then (withinT ex [91] [93] o (T.drop (i + 1))).bind fun e r => .ok ⟨4, 0, baT t, toES e .nil⟩ r
        else if isT (T.drop (i + 1)) [40] then (severalT (ex 1 (o + 1)) m o (T.drop (i + 1))).bind fun l r => .ok ⟨5, 0, baT t, exES l⟩ r
        else .ok ⟨2, 0, baT t, .nil⟩ (T.drop (i + 1)) := by
      simp only [namedT, nameT, ht, hb, PR.bind, drop_tail, if_true]
    rw [e] at hx ⊢
    clear e
    cases b1 : isT (T.drop (i + 1)) [91] with
    | true =>
      rw [b1, if_pos rfl] at hx
      rw [if_pos rfl]
      have hw : withinT ex [91] [93] o (T.drop (i + 1)) ≠ .out := fun e => by rw [e] at hx; exact hx rfl
      have hxo : o < 256 → ex 1 (o + 1) (T.drop (i + 1 + 1)) ≠ .out := fun ho e => by
        refine hw ?_
        simp [withinT, enterT, b1, PR.bind, show o ≠ 256 by omega, e]
      by_cases ho : o < 256
      · have HW := fun W2 (h2 : Rd W2 rb g N cT T (i + 1) o) => within_any h2 [91] [93] (by decide) (by decide) b1 ex hxo (fun W3 h3 => HX W3 _ h3 (hxo ho))
        cases hv : withinT ex [91] [93] o (T.drop (i + 1)) with
        | out => exact absurd hv hw
        | bad p c =>
          rw [hv] at HW
          exact nm_idx_bad h t ht hb b1 p c HW
        | ok v r =>
          rw [hv] at HW
          exact nm_idx_ok h t ht hb b1 v r HW
      · have HW := fun W2 (h2 : Rd W2 rb g N cT T (i + 1) o) => within_any h2 [91] [93] (by decide) (by decide) b1 ex hxo (fun W3 h3 => absurd h3.small (by omega))
        cases hv : withinT ex [91] [93] o (T.drop (i + 1)) with
        | out => exact absurd hv hw
        | bad p c =>
          rw [hv] at HW
          exact nm_idx_bad h t ht hb b1 p c HW
        | ok v r =>
          rw [hv] at HW
          exact nm_idx_ok h t ht hb b1 v r HW
    | false =>
      rw [b1, if_neg (by decide)] at hx
      rw [if_neg (by decide)]
      cases b2 : isT (T.drop (i + 1)) [40] with
      | true =>
        rw [b2, if_pos rfl] at hx
        rw [if_pos rfl]
        have hw : severalT (ex 1 (o + 1)) m o (T.drop (i + 1)) ≠ .out := fun e => by rw [e] at hx; exact hx rfl
        have HW := fun W2 (h2 : Rd W2 rb g N cT T (i + 1) o) => several_any h2 b2 (ex 1 (o + 1)) m hw (fun ts v r => HLn 1 (o + 1) ts v r) fun W3 i' _ h3 hx3 => HX W3 i' h3 hx3
        cases hv : severalT (ex 1 (o + 1)) m o (T.drop (i + 1)) with
        | out => exact absurd hv hw
        | bad p c =>
          rw [hv] at HW
          exact nm_call_bad h t ht hb b1 b2 p c HW
        | ok v r =>
          rw [hv] at HW
          exact nm_call_ok h t ht hb b1 b2 v r HW
      | false =>
        rw [if_neg (by decide)]
        exact nm_var h t ht hb b1 b2

end Go.Proofs.YtppagjhmlgkamaaGreatDoor

/-
  Package parse, plain: what is read leaves fewer tokens, and the count of steps is enough.
-/
namespace Go.Proofs.YtppagjhmlgkamaaGreatDoor
open Go
section
variable {α β : Type}
/-- What is left is no longer than k. -/
def Lq (k : Nat) (x : PR α) : Prop := match x with | .ok _ r => r.length ≤ k | .bad _ _ => True | .out => True
/-- It is told, and what is left is shorter than k. -/
def Fn' (k : Nat) (x : PR α) : Prop := match x with | .ok _ r => r.length < k | .bad _ _ => True | .out => False
theorem Lq.bind {k : Nat} {x : PR α} {f : α → List Tok → PR β} (h : Lq k x) (hf : ∀ v r, r.length ≤ k → Lq k (f v r)) : Lq k (x.bind f) := by
  cases x with
  | ok v r => exact hf v r h
  | bad p c => trivial
  | out => trivial
theorem Lq.mono {j k : Nat} {x : PR α} (h : Lq j x) (hk : j ≤ k) : Lq k x := by
  cases x with
  | ok v r => exact Nat.le_trans h hk
  | bad p c => trivial
  | out => trivial
theorem Fn'.bind {k : Nat} {x : PR α} {f : α → List Tok → PR β} (h : Fn' k x) (hf : ∀ v r, r.length < k → Fn' k (f v r)) : Fn' k (x.bind f) := by
  cases x with
  | ok v r => exact hf v r h
  | bad p c => trivial
  | out => exact h
theorem Fn'.mono {j k : Nat} {x : PR α} (h : Fn' j x) (hk : j ≤ k) : Fn' k x := by
  cases x with
  | ok v r => exact Nat.lt_of_lt_of_le h hk
  | bad p c => trivial
  | out => exact h
theorem Fn'.ne {k : Nat} {x : PR α} (h : Fn' k x) : x ≠ .out := by rintro rfl; exact h
theorem Fn'.le {k : Nat} {x : PR α} (h : Fn' k x) : Lq k x := by
  cases x with
  | ok v r => exact Nat.le_of_lt h
  | bad p c => trivial
  | out => trivial

theorem tail_lt {ts : List Tok} (h : ts ≠ []) : ts.tail.length < ts.length := by
  cases ts with
  | nil => exact absurd rfl h
  | cons t r => simp
theorem ts_ne {ts : List Tok} {s : List UInt8} (h : isT ts s = true) (hs : s ≠ []) : ts ≠ [] := by
  rintro rfl
  exact hs (of_decide_eq_true h).symm
theorem want_lq (s : List UInt8) (ts : List Tok) : Lq ts.length (wantT s ts) := by
  unfold wantT
  split
  · simp [Lq]
  · trivial
theorem enter_lq (s : List UInt8) (o : Nat) (ts : List Tok) : Lq ts.length (enterT s o ts) := by
  unfold enterT
  split
  · split
    · trivial
    · simp [Lq]
  · trivial
theorem name_lq (ts : List Tok) : Lq ts.length (nameT ts) := by
  unfold nameT
  split
  · simp [Lq]
  · trivial
theorem num_lq (a b : Int) (ts : List Tok) : Lq ts.length (numT a b ts) := by
  unfold numT
  split
  · split
    · split
      · trivial
      · simp [Lq]
    · trivial
  · trivial
theorem want_fn {s : List UInt8} (hs : s ≠ []) (ts : List Tok) : Fn' ts.length (wantT s ts) := by
  unfold wantT
  split
  · exact tail_lt (ts_ne (by assumption) hs)
  · trivial
theorem enter_fn {s : List UInt8} (hs : s ≠ []) (o : Nat) (ts : List Tok) : Fn' ts.length (enterT s o ts) := by
  unfold enterT
  split
  · split
    · trivial
    · exact tail_lt (ts_ne (by assumption) hs)
  · trivial
theorem name_fn (ts : List Tok) : Fn' ts.length (nameT ts) := by
  unfold nameT
  split
  · rename_i h
    refine tail_lt ?_
    rintro rfl
    revert h
    decide
  · trivial
theorem num_fn (a b : Int) (ts : List Tok) : Fn' ts.length (numT a b ts) := by
  unfold numT
  split
  · rename_i h
    have hne : ts ≠ [] := by
      rintro rfl
      simp [hdT] at h
    split
    · split
      · trivial
      · exact tail_lt hne
    · trivial
  · trivial

theorem more_lq {one : List Tok → PR α} (h1 : ∀ ts, Lq ts.length (one ts)) : ∀ m l ts, Lq ts.length (moreT one m l ts)
  | 0, _, _ => trivial
  | m + 1, l, ts => by
    unfold moreT
    split
    · split
      · trivial
      · refine ((h1 ts.tail).mono (by simp)).bind fun x r hr => (more_lq h1 m _ r).mono hr
    · exact (want_lq _ ts).bind fun _ r hr => hr
theorem several_lq {one : List Tok → PR α} (h1 : ∀ ts, Lq ts.length (one ts)) (m o : Nat) (ts : List Tok) : Lq ts.length (severalT one m o ts) := by
  unfold severalT
  refine (enter_lq _ o ts).bind fun _ r hr => ?_
  split
  · exact ((want_lq _ r).mono hr).bind fun _ r hr => hr
  · exact ((h1 r).mono hr).bind fun x r hr => (more_lq h1 m _ r).mono hr
theorem more_fn {one : List Tok → PR α} : ∀ m l (ts : List Tok), ts.length < m → (∀ r : List Tok, r.length < ts.length → Fn' r.length (one r)) → Fn' ts.length (moreT one m l ts)
  | 0, _, _, hm, _ => absurd hm (by omega)
  | m + 1, l, ts, hm, h1 => by
    unfold moreT
    split
    · rename_i hi
      have ht := tail_lt (ts_ne hi (by decide))
      split
      · trivial
      · refine ((h1 ts.tail ht).mono (by omega)).bind fun x r hr => (more_fn m _ r (by omega) fun r' h' => h1 r' (by omega)).mono (by omega)
    · exact (want_fn (by decide) ts).bind fun _ r hr => hr
theorem several_fn {one : List Tok → PR α} (m o : Nat) (ts : List Tok) (hm : ts.length ≤ m) (h1 : ∀ r : List Tok, r.length < ts.length → Fn' r.length (one r)) : Fn' ts.length (severalT one m o ts) := by
  unfold severalT
  refine (enter_fn (by decide) o ts).bind fun _ r hr => ?_
  split
  · exact ((want_fn (by decide) r).mono (by omega)).bind fun _ r hr => hr
  · exact ((h1 r hr).mono (by omega)).bind fun x r hr => (more_fn m _ r (by omega) fun r' h' => h1 r' (by omega)).mono (by omega)
end

section
variable {ex : Nat → Nat → List Tok → PR Ex}
theorem within_lq (h1 : ∀ l o ts, Lq ts.length (ex l o ts)) (a b : List UInt8) (o : Nat) (ts : List Tok) : Lq ts.length (withinT ex a b o ts) :=
  (enter_lq a o ts).bind fun _ r hr => ((h1 1 (o + 1) r).mono hr).bind fun _ r hr => ((want_lq b r).mono hr).bind fun _ _ hr => hr
theorem named_lq (h1 : ∀ l o ts, Lq ts.length (ex l o ts)) (m o : Nat) (ts : List Tok) : Lq ts.length (namedT ex m o ts) := by
  unfold namedT
  refine (name_lq ts).bind fun s r hr => ?_
  split
  · exact ((within_lq h1 _ _ o r).mono hr).bind fun _ _ hr => hr
  · split
    · exact ((several_lq (h1 1 (o + 1)) m o r).mono hr).bind fun _ _ hr => hr
    · exact hr
theorem single_lq (h1 : ∀ l o ts, Lq ts.length (ex l o ts)) : ∀ m o ts, Lq ts.length (singleT ex m o ts)
  | 0, _, _ => trivial
  | m + 1, o, ts => by
    unfold singleT
    split
    · exact (enter_lq _ o ts).bind fun _ r hr => ((single_lq h1 m _ r).mono hr).bind fun _ _ hr => hr
    · split
      · exact (enter_lq _ o ts).bind fun _ r hr => ((single_lq h1 m _ r).mono hr).bind fun _ _ hr => hr
      · split
        · exact within_lq h1 _ _ o ts
        · split
          · simp [Lq]
          · split
            · exact (num_lq _ _ ts).bind fun _ _ hr => hr
            · exact named_lq h1 _ o ts
theorem loop_lq (h1 : ∀ l o ts, Lq ts.length (ex l o ts)) : ∀ m least e o ts, Lq ts.length (loopT ex m least e o ts)
  | 0, _, _, _, _ => trivial
  | m + 1, least, e, o, ts => by
    unfold loopT
    split
    · exact Nat.le_refl _
    · exact ((h1 _ o ts.tail).mono (by simp)).bind fun _ r hr => (loop_lq h1 m _ _ o r).mono hr
theorem within_fn (a b : List UInt8) (ha : a ≠ []) (hb : b ≠ []) (o : Nat) (ts : List Tok) (h1 : ∀ l o (r : List Tok), 1 ≤ l → r.length < ts.length → Fn' r.length (ex l o r)) : Fn' ts.length (withinT ex a b o ts) :=
  (enter_fn ha o ts).bind fun _ r hr => ((h1 1 (o + 1) r (Nat.le_refl _) hr).mono (by omega)).bind fun _ r hr => ((want_fn hb r).mono (by omega)).bind fun _ _ hr => hr
theorem named_fn (m o : Nat) (ts : List Tok) (hm : ts.length ≤ m) (h1 : ∀ l o (r : List Tok), 1 ≤ l → r.length < ts.length → Fn' r.length (ex l o r)) : Fn' ts.length (namedT ex m o ts) := by
  unfold namedT
  refine (name_fn ts).bind fun s r hr => ?_
  split
  · exact ((within_fn [91] [93] (by decide) (by decide) o r fun l o r' hl h' => h1 l o r' hl (by omega)).mono (by omega)).bind fun _ _ hr => hr
  · split
    · exact ((several_fn m o r (by omega) fun r' h' => h1 1 (o + 1) r' (Nat.le_refl _) (by omega)).mono (by omega)).bind fun _ _ hr => hr
    · exact hr
theorem single_fn : ∀ m o (ts : List Tok), ts.length < m → (∀ l o (r : List Tok), 1 ≤ l → r.length < ts.length → Fn' r.length (ex l o r)) → Fn' ts.length (singleT ex m o ts)
  | 0, _, _, hm, _ => absurd hm (by omega)
  | m + 1, o, ts, hm, h1 => by
    unfold singleT
    split
    · exact (enter_fn (by decide) o ts).bind fun _ r hr => ((single_fn m _ r (by omega) fun l o r' hl h' => h1 l o r' hl (by omega)).mono (by omega)).bind fun _ _ hr => hr
    · split
      · exact (enter_fn (by decide) o ts).bind fun _ r hr => ((single_fn m _ r (by omega) fun l o r' hl h' => h1 l o r' hl (by omega)).mono (by omega)).bind fun _ _ hr => hr
      · split
        · exact within_fn [40] [41] (by decide) (by decide) o ts h1
        · split
          · exact tail_lt (ts_ne (ts := ts) (by assumption) (by decide))
          · split
            · exact (num_fn _ _ ts).bind fun _ _ hr => hr
            · exact named_fn _ o ts (by omega) h1
theorem loop_fn : ∀ m least e o (ts : List Tok), ts.length < m → 1 ≤ least → (∀ l o (r : List Tok), 1 ≤ l → r.length < ts.length → Fn' r.length (ex l o r)) → Fn' (ts.length + 1) (loopT ex m least e o ts)
  | 0, _, _, _, _, hm, _, _ => absurd hm (by omega)
  | m + 1, least, e, o, ts, hm, hl, h1 => by
    unfold loopT
    split
    · exact Nat.lt_succ_self _
    · rename_i hn
      have ht := tail_lt (ts := ts) (by
        rintro rfl
        refine hn (Nat.lt_of_lt_of_le ?_ hl)
        decide)
      exact ((h1 _ o ts.tail (by omega) ht).bind fun _ r hr => ((loop_fn m least _ o r (by omega) hl fun l o r' hl h' => h1 l o r' hl (by omega)).mono (by omega))).mono (by omega)
end

/-- An expression leaves fewer tokens. -/
theorem expr_lq : ∀ n l o ts, Lq ts.length (exT n l o ts)
  | 0, _, _, _ => trivial
  | n + 1, l, o, ts => (single_lq (expr_lq n) (n + 1) o ts).bind fun _ r hr => (loop_lq (expr_lq n) (n + 1) l _ o r).mono hr
theorem expr_fn : ∀ n l o (ts : List Tok), 1 ≤ l → ts.length < n → Fn' ts.length (exT n l o ts)
  | 0, _, _, _, _, hn => absurd hn (by omega)
  | n + 1, l, o, ts, hl, hn =>
    (single_fn (n + 1) o ts hn fun l o r hl hr => expr_fn n l o r hl (by omega)).bind fun _ r hr =>
      (loop_fn (n + 1) l _ o r (by omega) hl fun l o r' hl h' => expr_fn n l o r' hl (by omega)).mono (by omega)
theorem expr_left {n l o : Nat} {ts : List Tok} {v : Ex} {r : List Tok} (h : exT n l o ts = .ok v r) : r.length ≤ ts.length := by
  have h1 := expr_lq n l o ts
  rw [h] at h1
  exact h1

theorem body_fn {one : List Tok → PR Sm} : ∀ m l (ts : List Tok), ts.length < m → (∀ r : List Tok, r.length ≤ ts.length → Fn' r.length (one r)) → Fn' ts.length (bodyT one m l ts)
  | 0, _, _, hm, _ => absurd hm (by omega)
  | m + 1, l, ts, hm, h1 => by
    unfold bodyT
    split
    · exact (want_fn (by decide) ts).bind fun _ _ hr => hr
    · exact (h1 ts (Nat.le_refl _)).bind fun t r hr => (body_fn m _ r (by omega) fun r' h' => h1 r' (by omega)).mono (by omega)
theorem block_fn {one : List Tok → PR Sm} (m o : Nat) (ts : List Tok) (hm : ts.length ≤ m) (h1 : ∀ r : List Tok, r.length < ts.length → Fn' r.length (one r)) : Fn' ts.length (blockT one m o ts) :=
  (enter_fn (by decide) o ts).bind fun _ r hr => (body_fn m [] r (by omega) fun r' h' => h1 r' (by omega)).mono (by omega)
theorem tell_fn (n : Nat) (op : Int) (o : Nat) (ts : List Tok) (hn : ts.length < n) : Fn' ts.length (tellT n op o ts) :=
  (expr_fn n 1 o ts (Nat.le_refl _) hn).bind fun _ _ hr => hr
theorem store_fn (n o : Nat) (ts : List Tok) (hn : ts.length ≤ n) : Fn' ts.length (storeT n o ts) := by
  unfold storeT
  refine (name_fn ts).bind fun s r hr => ?_
  split
  · exact ((within_fn [91] [93] (by decide) (by decide) o r fun l o r' hl h' => expr_fn n l o r' hl (by omega)).mono (by omega)).bind fun _ r hr =>
      ((want_fn (by decide) r).mono (by omega)).bind fun _ r hr => ((expr_fn n 1 o r (Nat.le_refl _) (by omega)).mono (by omega)).bind fun _ _ hr => hr
  · exact ((want_fn (by decide) r).mono (by omega)).bind fun _ r hr => ((expr_fn n 1 o r (Nat.le_refl _) (by omega)).mono (by omega)).bind fun _ _ hr => hr
theorem semi_fn {k : Nat} {x : PR Sm} (h : Fn' k x) : Fn' k (semiT x) := h.bind fun t r hr => ((want_fn (by decide) r).mono (by omega)).bind fun _ _ hr => hr
theorem stmt_fn : ∀ n o (ts : List Tok), ts.length < n → Fn' ts.length (smT n o ts)
  | 0, _, _, hn => absurd hn (by omega)
  | n + 1, o, ts, hn => by
    unfold smT
    split
    · have ht := tail_lt (ts_ne (ts := ts) (by assumption) (by decide))
      exact semi_fn (((name_fn ts.tail).mono (by omega)).bind fun s r hr => ((num_fn 1 4096 r).mono (by omega)).bind fun _ _ hr => hr)
    · split
      · have ht := tail_lt (ts_ne (ts := ts) (by assumption) (by decide))
        exact semi_fn (((name_fn ts.tail).mono (by omega)).bind fun s r hr => hr)
      · split
        · have ht := tail_lt (ts_ne (ts := ts) (by assumption) (by decide))
          exact semi_fn ((tell_fn (n + 1) 5 o ts.tail (by omega)).mono (by omega))
        · split
          · have ht := tail_lt (ts_ne (ts := ts) (by assumption) (by decide))
            exact semi_fn ((tell_fn (n + 1) 6 o ts.tail (by omega)).mono (by omega))
          · split
            · have ht := tail_lt (ts_ne (ts := ts) (by assumption) (by decide))
              exact semi_fn ((tell_fn (n + 1) 9 o ts.tail (by omega)).mono (by omega))
            · split
              · have ht := tail_lt (ts_ne (ts := ts) (by assumption) (by decide))
                refine ((tell_fn (n + 1) 7 o ts.tail (by omega)).mono (by omega)).bind fun t r hr => ?_
                refine ((block_fn (n + 1) o r (by omega) fun r' h' => stmt_fn n (o + 1) r' (by omega)).mono (by omega)).bind fun b r hr => ?_
                split
                · have ht2 := tail_lt (ts_ne (ts := r) (by assumption) (by decide))
                  exact ((block_fn (n + 1) o r.tail (by omega) fun r' h' => stmt_fn n (o + 1) r' (by omega)).mono (by omega)).bind fun _ _ hr => hr
                · exact hr
              · split
                · have ht := tail_lt (ts_ne (ts := ts) (by assumption) (by decide))
                  refine ((tell_fn (n + 1) 8 o ts.tail (by omega)).mono (by omega)).bind fun t r hr => ?_
                  exact ((block_fn (n + 1) o r (by omega) fun r' h' => stmt_fn n (o + 1) r' (by omega)).mono (by omega)).bind fun b r hr => hr
                · exact semi_fn (store_fn (n + 1) o ts (by omega))
theorem outer_fn (n o : Nat) (ts : List Tok) (hn : ts.length < n) : Fn' ts.length (outerT n o ts) := by
  refine (stmt_fn n o ts hn).bind fun t r hr => ?_
  split
  · trivial
  · exact hr
theorem func_fn (n : Nat) (ts : List Tok) (hn : ts.length ≤ n) : Fn' ts.length (funcT n ts) :=
  (want_fn (by decide) ts).bind fun _ r hr => ((name_fn r).mono (by omega)).bind fun s r hr =>
    ((several_fn n 0 r (by omega) fun r' _ => name_fn r').mono (by omega)).bind fun ps r hr =>
      ((block_fn n 0 r (by omega) fun r' h' => outer_fn n 1 r' (by omega)).mono (by omega)).bind fun b r hr => hr
theorem funcs_fn (n : Nat) : ∀ m l (ts : List Tok), ts.length < m → ts.length ≤ n → Fn' (ts.length + 1) (funcsT n m l ts)
  | 0, _, _, hm, _ => absurd hm (by omega)
  | m + 1, l, ts, hm, hn => by
    unfold funcsT
    split
    · split
      · trivial
      · exact ((func_fn n ts hn).bind (k := ts.length) fun f r hr => (funcs_fn n m _ r (by omega) (by omega)).mono (by omega)).mono (by omega)
    · exact Nat.lt_succ_self _
theorem main_fn (n : Nat) : ∀ m l (ts : List Tok), ts.length < m → ts.length < n → Fn' (ts.length + 1) (mainT n m l ts)
  | 0, _, _, hm, _ => absurd hm (by omega)
  | m + 1, l, ts, hm, hn => by
    unfold mainT
    split
    · exact Nat.lt_succ_self _
    · exact ((outer_fn n 0 ts hn).bind (k := ts.length) fun t r hr => (main_fn n m _ r (by omega) (by omega)).mono (by omega)).mono (by omega)
/-- A program: the count of steps is enough when it is above the number of tokens. -/
theorem prog_fn (n : Nat) (ts : List Tok) (hn : ts.length < n) : progT n ts ≠ .out :=
  Fn'.ne (k := ts.length + 1) ((funcs_fn n n [] ts hn (by omega)).bind fun fs r hr => ((main_fn n n [] r (by omega) (by omega)).mono (by omega)).bind fun _ _ hr => hr)

end Go.Proofs.YtppagjhmlgkamaaGreatDoor

/-
  Package parse: an expression, whole.
-/
namespace Go.Proofs.YtppagjhmlgkamaaGreatDoor
open Go Go.RowKit Go.Lib

/-- What binds at least so strongly; by the count of steps. -/
theorem binds_any {rb g N cT : Nat} {T : List Tok} : ∀ n l W i o, Rd W rb g N cT T i o → 1 ≤ l → l ≤ 6 → exT n l o (T.drop i) ≠ .out →
    Calls Tryz.prog 129 #[.pointer (some ⟨rb, 0, none⟩), .int .i64 l] W (XP rb g N cT o T W (exT n l o (T.drop i)))
  | 0, _, _, _, _, _, _, _, hx => absurd rfl hx
  | n + 1, l, W, i, o, h, h1, h6, hx => by
    have IH := binds_any (rb := rb) (g := g) (N := N) (cT := cT) (T := T) n
    have HEX : ∀ W i o, Rd W rb g N cT T i o → exT n 1 o (T.drop i) ≠ .out → Calls Tryz.prog 123 #[.pointer (some ⟨rb, 0, none⟩)] W (XP rb g N cT o T W (exT n 1 o (T.drop i))) :=
      fun W i o h hx => expr_any h _ hx fun W2 h2 => IH 1 W2 i o h2 (Nat.le_refl _) (by omega) hx
    have HL : ∀ l o ts v r, exT n l o ts = .ok v r → r.length ≤ ts.length := fun l o ts v r e => expr_left e
    have HNM : ∀ m W i o, Rd W rb g N cT T i o → namedT (exT n) m o (T.drop i) ≠ .out → Calls Tryz.prog 140 #[.pointer (some ⟨rb, 0, none⟩)] W (XP rb g N cT o T W (namedT (exT n) m o (T.drop i))) :=
      fun m W i o h hx => nmd_any h (exT n) m hx HL fun W2 i' h2 hx2 => HEX W2 i' (o + 1) h2 hx2
    rw [exT] at hx ⊢
    exact bind_any h (exT n) l (n + 1) h1 h6 hx (fun l ts v r => HL l o ts v r) (fun W2 h2 hs => single_any (exT n) HEX HNM (n + 1) W2 i o h2 hs) (fun W2 i' l' h2 a b hx => IH l' W2 i' o h2 a b hx)
/-- The method expression, whole. -/
theorem expression_any {W : World} {rb g N cT i o : Nat} {T : List Tok} (h : Rd W rb g N cT T i o) (n : Nat) (hx : exT n 1 o (T.drop i) ≠ .out) :
    Calls Tryz.prog 123 #[.pointer (some ⟨rb, 0, none⟩)] W (XP rb g N cT o T W (exT n 1 o (T.drop i))) :=
  expr_any h _ hx fun W2 h2 => binds_any n 1 W2 i o h2 (Nat.le_refl _) (by omega) hx
/-- The method within, whole. -/
theorem inside_any {W : World} {rb g N cT i o : Nat} {T : List Tok} (h : Rd W rb g N cT T i o) (s t : List UInt8) (hs : s ≠ []) (ht : t ≠ []) (hb : isT (T.drop i) s = true) (n : Nat) (hx : o < 256 → exT n 1 (o + 1) (T.drop (i + 1)) ≠ .out) :
    Calls Tryz.prog 124 #[.pointer (some ⟨rb, 0, none⟩), .string (baT s), .string (baT t)] W (XP rb g N cT o T W (withinT (exT n) s t o (T.drop i))) :=
  within_any h s t hs ht hb (exT n) hx fun _ h2 => expression_any h2 n (hx (by have := h2.small; omega))

end Go.Proofs.YtppagjhmlgkamaaGreatDoor

/-
  Package parse: statements: what a call that reads one has done; tell.
-/
namespace Go.Proofs.YtppagjhmlgkamaaGreatDoor
open Go Go.RowKit Go.Lib

/-- What can be a statement's cells. -/
def okS (t : Sm) : Prop := I64 t.op ∧ I64 t.n ∧ t.s.size ≤ 9223372036854775807
/-- A statement's value. -/
def TV (lo : Nat) (W : World) (v : Value) (t : Sm) : Prop := ∃ vl vx vy, v = .agg #[.int .i64 t.op, .string t.s, .int .i64 t.n, vl, vx, vy] ∧ EX lo W vl t.l ∧ SX lo W vx t.x ∧ SX lo W vy t.y ∧ okS t
theorem TV.kp {lo lo' : Nat} {W W' : World} {v : Value} {t : Sm} (hv : TV lo W v t) (h : Kp lo W W') (hl : lo' ≤ lo) : TV lo' W' v t := by
  obtain ⟨vl, vx, vy, e, h1, h2, h3, h4⟩ := hv
  exact ⟨vl, vx, vy, e, h1.kp h hl, h2.kp h hl, h3.kp h hl, h4⟩
/-- What a call that reads a statement has done. -/
def TP (rb g N cT o : Nat) (T : List Tok) (W : World) (x : PR Sm) (e : Ending) (W' : World) : Prop :=
  match x with
  | .ok v r => (∃ vv, e = .returned vv ∧ TV W.heap.size W' vv v) ∧ (∃ i, Rd W' rb g N cT T i o ∧ T.drop i = r) ∧ Gr rb W W'
  | .bad p c => e = flt p c ∧ Gr rb W W'
  | .out => True
/-- Six cells that are stored one behind the other. -/
def put6 (W : World) (n : Nat) (a b c d x y : Value) : World := ((put4 W n a b c d).setCell ⟨n, 4, none⟩ x).setCell ⟨n, 5, none⟩ y
section
variable {W W' : World} {rb g N cT i o n lo : Nat} {T : List Tok} {a b c d x y : Value}
theorem Rd.put6 (h : Rd W rb g N cT T i o) (hb : n ≠ rb) (hg : n ≠ g) : Rd (put6 W n a b c d x y) rb g N cT T i o := ((h.put4 hb hg).set x hb hg).set y hb hg
theorem Gr.put6 (h : Gr rb W W') (hb : W.heap.size ≤ n) : Gr rb W (put6 W' n a b c d x y) := ((h.put4 hb).setNew x hb).setNew y hb
theorem Kp.put6 (hb : n < lo) : Kp lo W (put6 W n a b c d x y) := ((Kp.put4 hb).trans (Kp.set x hb)).trans (Kp.set y hb)
theorem put6_heap {p q r s u v : Value} {t : TypeId} (h : W.heap[n]? = some (.cells #[p, q, r, s, u, v] t)) : (put6 W n a b c d x y).heap[n]? = some (.cells #[a, b, c, d, x, y] t) := by
  simp [Proofs.YtppagjhmlgkamaaGreatDoor.put6, Proofs.YtppagjhmlgkamaaGreatDoor.put4, World.setCell, Array.getElem?_modify, h]
end
theorem sl0 : (SS.nil).len = 0 := rfl

set_option maxRecDepth 100000 in
theorem tell_bad {W : World} {rb g N cT i o : Nat} {T : List Tok} (h : Rd W rb g N cT T i o) (op : Int) (p c : Nat)
    (HS : ∀ W2, Rd W2 rb g N cT T i o → Calls Tryz.prog 123 #[.pointer (some ⟨rb, 0, none⟩)] W2 (XP rb g N cT o T W2 (.bad p c))) :
    Calls Tryz.prog 110 #[.pointer (some ⟨rb, 0, none⟩), .int .i64 op] W (TP rb g N cT o T W (.bad p c)) := by
  have HSS := Lib.hid HS
  have HR := Lib.hid h
  clear HS h
  go_enter Tryz.func110, Tryz.ntmps110
  go_wp2_with (go_at_call 123; ((with_reducible refine (HSS.out _ (HR.out.alloc _)).mono ?_); rintro e w2 ⟨rfl, g2⟩))
  exact ⟨rfl, rfl, ((Gr.refl rb W).alloc _).trans g2⟩

set_option maxRecDepth 100000 in
theorem tell_yes {W : World} {rb g N cT i o : Nat} {T : List Tok} (h : Rd W rb g N cT T i o) (op : Int) (hop : I64 op) (v : Ex) (r : List Tok)
    (HS : ∀ W2, Rd W2 rb g N cT T i o → Calls Tryz.prog 123 #[.pointer (some ⟨rb, 0, none⟩)] W2 (XP rb g N cT o T W2 (.ok v r))) :
    Calls Tryz.prog 110 #[.pointer (some ⟨rb, 0, none⟩), .int .i64 op] W (TP rb g N cT o T W (.ok ⟨op, nilS, 0, toES v .nil, .nil, .nil⟩ r)) := by
  have HSS := Lib.hid HS
  have HR := Lib.hid h
  have hrl := h.rlt
  have hgl := h.tok.1
  clear HS h
  have HB := Lib.hid (fun w2 (g2 : Gr rb (W.alloc (.cells #[.int .i64 0, .string ⟨#[]⟩, .int .i64 0, .slice none 0 0, .slice none 0 0, .slice none 0 0] 41)) w2) c => (Below.heap_alloc w2 c W.heap.size (by have := g2.size; simp at this; omega)).trans ((g2.block (k := W.heap.size) (by simp) (by omega)).trans (heap_alloc_new W _)))
  go_enter Tryz.func110, Tryz.ntmps110
  go_upto_region 2 with (go_at_call 123; ((with_reducible refine (HSS.out _ (HR.out.alloc _)).mono ?_); rintro e w2 ⟨⟨vv, rfl, vl, rfl, hv, hok⟩, ⟨i', h2, hd⟩, g2⟩; have B6 := HB.out w2 g2 (.cells #[.int .i64 v.op, .int .i64 v.n, .string v.s, vl] 38); have c0 := box_cell B6 0; have c1 := box_cell B6 1; have c2 := box_cell B6 2; have c3 := box_cell B6 3; have c4 := box_cell B6 4; have c5 := box_cell B6 5; have f0 := box_frozen B6 0; have f1 := box_frozen B6 1; have f2 := box_frozen B6 2; have f3 := box_frozen B6 3; have f4 := box_frozen B6 4; have f5 := box_frozen B6 5; simp only [List.getElem?_toArray, List.getElem?_cons_succ, List.getElem?_cons_zero] at c0 c1 c2 c3 c4 c5))
  clear c0 c1 c2 c3 c4 c5 f0 f1 f2 f3 f4 f5 HB HSS
  have z2 := g2.size
  rw [World.size_alloc] at z2
  have hA := heap_alloc_new w2 (.cells #[.int .i64 v.op, .int .i64 v.n, .string v.s, vl] 38)
  have h3 := h2.alloc (.cells #[.int .i64 v.op, .int .i64 v.n, .string v.s, vl] 38)
  have g3 := (((Gr.refl rb W).alloc (.cells #[.int .i64 0, .string ⟨#[]⟩, .int .i64 0, .slice none 0 0, .slice none 0 0, .slice none 0 0] 41)).trans g2).alloc (.cells #[.int .i64 v.op, .int .i64 v.n, .string v.s, vl] 38)
  have hEX : EX (W.heap.size + 1) (w2.alloc (.cells #[.int .i64 v.op, .int .i64 v.n, .string v.s, vl] 38)) (.slice (some ⟨w2.heap.size, 0, none⟩) 1 1) (toES v .nil) := ex_one hA (by omega) (hv.kp (Kp.below ((Below.refl _ _).alloc (Nat.le_refl _) _)) (by simp)) hok
  obtain ⟨w3, hw3⟩ : ∃ W3, w2.alloc (.cells #[.int .i64 v.op, .int .i64 v.n, .string v.s, vl] 38) = W3 := ⟨_, rfl⟩
  rw [hw3] at h3 g3 hEX B6 ⊢
  have hP := put6_heap (a := .int .i64 op) (b := .string ⟨#[]⟩) (c := .int .i64 0) (d := .slice (some ⟨w2.heap.size, 0, none⟩) 1 1) (x := .slice none 0 0) (y := .slice none 0 0) B6
  have hfin : TP rb g N cT o T W (.ok ⟨op, nilS, 0, toES v .nil, .nil, .nil⟩ r) (.returned (.agg #[.int .i64 op, .string ⟨#[]⟩, .int .i64 0, .slice (some ⟨w2.heap.size, 0, none⟩) 1 1, .slice none 0 0, .slice none 0 0])) (Proofs.YtppagjhmlgkamaaGreatDoor.put6 w3 W.heap.size (.int .i64 op) (.string ⟨#[]⟩) (.int .i64 0) (.slice (some ⟨w2.heap.size, 0, none⟩) 1 1) (.slice none 0 0) (.slice none 0 0)) :=
    ⟨⟨_, rfl, _, _, _, rfl, hEX.kp (Kp.put6 (Nat.lt_succ_self _)) (Nat.le_succ _), sx_nil _ _, sx_nil _ _, hop, i64_0, by show nilS.size ≤ _; decide⟩, ⟨i', h3.put6 (by omega) (by omega), hd⟩, g3.put6 (Nat.le_refl _)⟩
  obtain ⟨w5, hw5⟩ : ∃ W5, Proofs.YtppagjhmlgkamaaGreatDoor.put6 w3 W.heap.size (.int .i64 op) (.string ⟨#[]⟩) (.int .i64 0) (.slice (some ⟨w2.heap.size, 0, none⟩) 1 1) (.slice none 0 0) (.slice none 0 0) = W5 := ⟨_, rfl⟩
  show bodyPost _ _ _ _ _ (Proofs.YtppagjhmlgkamaaGreatDoor.put6 w3 W.heap.size (.int .i64 op) (.string ⟨#[]⟩) (.int .i64 0) (.slice (some ⟨w2.heap.size, 0, none⟩) 1 1) (.slice none 0 0) (.slice none 0 0))
  rw [hw5] at hP hfin ⊢
  have p0 := box_cell hP 0
  have p1 := box_cell hP 1
  have p2 := box_cell hP 2
  have p3 := box_cell hP 3
  have p4 := box_cell hP 4
  have p5 := box_cell hP 5
  simp only [List.getElem?_toArray, List.getElem?_cons_succ, List.getElem?_cons_zero] at p0 p1 p2 p3 p4 p5
  exact bodyPost_ret (v := .agg #[.int .i64 op, .string ⟨#[]⟩, .int .i64 0, .slice (some ⟨w2.heap.size, 0, none⟩) 1 1, .slice none 0 0, .slice none 0 0]) (by simp [results, Tryz.results110, go_sem, p0, p1, p2, p3, p4, p5]) rfl hfin

/-- What tells one expression. -/
theorem tell_any {W : World} {rb g N cT i o : Nat} {T : List Tok} (h : Rd W rb g N cT T i o) (op : Int) (hop : I64 op) (n : Nat) (hx : exT n 1 o (T.drop i) ≠ .out) :
    Calls Tryz.prog 110 #[.pointer (some ⟨rb, 0, none⟩), .int .i64 op] W (TP rb g N cT o T W (tellT n op o (T.drop i))) := by
  have HS := fun W2 (h2 : Rd W2 rb g N cT T i o) => expression_any h2 n hx
  unfold tellT
  cases hv : exT n 1 o (T.drop i) with
  | out => exact absurd hv hx
  | bad p c =>
    rw [hv] at HS
    exact tell_bad h op p c HS
  | ok v r =>
    rw [hv] at HS
    exact tell_yes h op hop v r HS

end Go.Proofs.YtppagjhmlgkamaaGreatDoor

/-
  Package parse: statements that are gathered in a row of the call's own.
-/
namespace Go.Proofs.YtppagjhmlgkamaaGreatDoor
open Go Go.RowKit Go.Lib

abbrev SY (p : Nat → Prop) [DecidablePred p] (W : World) (v : Value) (l : SS) : Prop := SV W.heap.size (erp p W) v l
section
variable {p q : Nat → Prop} [DecidablePred p] [DecidablePred q] {W W' : World} {v : Value} {l : SS} {lo : Nat}
theorem SY.kp (hv : SY p W v l) (hs : W.heap.size ≤ W'.heap.size) (hk : ∀ k, p k → k < W.heap.size → W'.heap[k]? = W.heap[k]?) (hp : ∀ k, p k → k < W.heap.size → q k) : SY q W' v l :=
  RowV.imp hv hs fun _ _ hb hq => SS.In.ext hs (fun b j u hb hc => by
    rw [erp_cell] at hc ⊢
    by_cases e : p b
    · rw [if_pos e] at hc
      rw [if_pos (hp b e hb), World.cell?_of_block (a := ⟨b, j, none⟩) (hk b e hb)]
      exact hc
    · rw [if_neg e] at hc; cases hc) hb hq
theorem SY.of_sx (hv : SX lo W v l) (hk : Kp lo W W') (hp : ∀ k, lo ≤ k → k < W.heap.size → q k) : SY q W' v l :=
  RowV.imp hv hk.size fun _ _ hb hq => SS.In.ext hk.size (fun b j u hb hc => by
    rw [er_cell] at hc
    rw [erp_cell]
    by_cases e : b < lo
    · rw [if_pos e] at hc; cases hc
    · rw [if_neg e] at hc
      rw [if_pos (hp b (by omega) hb), World.cell?_of_block (a := ⟨b, j, none⟩) (hk.block b (by omega) hb)]
      exact hc) hb hq
theorem SX.of_sy (hv : SY p W v l) (hs : W.heap.size ≤ W'.heap.size) (hk : ∀ k, p k → k < W.heap.size → W'.heap[k]? = W.heap[k]?) (hp : ∀ k, p k → lo ≤ k) : SX lo W' v l :=
  RowV.imp hv hs fun _ _ hb hq => SS.In.ext hs (fun b j u hb hc => by
    rw [erp_cell] at hc
    rw [er_cell]
    by_cases e : p b
    · rw [if_pos e] at hc
      have := hp b e
      rw [if_neg (by omega), World.cell?_of_block (a := ⟨b, j, none⟩) (hk b e hb)]
      exact hc
    · rw [if_neg e] at hc; cases hc) hb hq
end
/-- The cells of statements that lie one behind the other. -/
def tCs (p : Nat → Prop) [DecidablePred p] (W : World) : List Sm → List Value → Prop
  | [] => fun cs => cs = []
  | t :: r => fun cs => ∃ vl vx vy rest, cs = .int .i64 t.op :: .string t.s :: .int .i64 t.n :: vl :: vx :: vy :: rest ∧ EY p W vl t.l ∧ SY p W vx t.x ∧ SY p W vy t.y ∧ okS t ∧ tCs p W r rest
section
variable {p q : Nat → Prop} [DecidablePred p] [DecidablePred q] {W W' : World}
theorem tCs.len : ∀ {l : List Sm} {cs : List Value}, tCs p W l cs → cs.length = l.length * 6
  | [], _, h => by rw [show _ = [] from h]; rfl
  | _ :: r, _, ⟨_, _, _, rest, e, _, _, _, _, hr⟩ => by rw [e]; simp [tCs.len hr]; omega
theorem tCs.kp (hs : W.heap.size ≤ W'.heap.size) (hk : ∀ k, p k → k < W.heap.size → W'.heap[k]? = W.heap[k]?) (hp : ∀ k, p k → k < W.heap.size → q k) : ∀ {l : List Sm} {cs : List Value}, tCs p W l cs → tCs q W' l cs
  | [], _, h => h
  | _ :: _, _, ⟨vl, vx, vy, rest, e, h1, h2, h3, h4, hr⟩ => ⟨vl, vx, vy, rest, e, h1.kp hs hk hp, h2.kp hs hk hp, h3.kp hs hk hp, h4, tCs.kp hs hk hp hr⟩
theorem tCs.snoc {t : Sm} {vl vx vy : Value} (h1 : EY p W vl t.l) (h2 : SY p W vx t.x) (h3 : SY p W vy t.y) (h4 : okS t) : ∀ {l : List Sm} {cs : List Value}, tCs p W l cs → tCs p W (l ++ [t]) (cs ++ [.int .i64 t.op, .string t.s, .int .i64 t.n, vl, vx, vy])
  | [], cs, h => by rw [show cs = [] from h]; exact ⟨vl, vx, vy, [], rfl, h1, h2, h3, h4, rfl⟩
  | _ :: _, cs, ⟨vl', vx', vy', rest, e', g1, g2, g3, g4, hr⟩ => ⟨vl', vx', vy', rest ++ _, by rw [e']; rfl, g1, g2, g3, g4, tCs.snoc h1 h2 h3 h4 hr⟩
theorem smSS_len : ∀ l : List Sm, (smSS l).len = l.length
  | [] => rfl
  | _ :: r => by rw [smSS, toSS, SS.len, smSS_len r, List.length_cons]
theorem tCs.in_ {lo g : Nat} (hp : ∀ k, p k → lo ≤ k) : ∀ {l : List Sm} {cs : List Value} {o : Nat}, tCs p W l cs → (∀ j u, cs[j]? = some u → (er lo W).cell? ⟨g, o + j, none⟩ = some u) → (smSS l).In W.heap.size (er lo W) g o
  | [], _, _, _, _ => trivial
  | t :: r, _, o, ⟨vl, vx, vy, rest, e1, h1, h2, h3, h4, hr⟩, hq => by
    subst e1
    have hvl : EX lo W vl t.l := EX.of_ey h1 (Nat.le_refl _) (fun _ _ _ => rfl) hp
    have hvx : SX lo W vx t.x := SX.of_sy h2 (Nat.le_refl _) (fun _ _ _ => rfl) hp
    have hvy : SX lo W vy t.y := SX.of_sy h3 (Nat.le_refl _) (fun _ _ _ => rfl) hp
    exact ⟨hq 0 _ rfl, hq 1 _ rfl, hq 2 _ rfl, ⟨_, hq 3 _ rfl, hvl⟩, ⟨_, hq 4 _ rfl, hvx⟩, ⟨_, hq 5 _ rfl, hvy⟩, h4, tCs.in_ hp hr fun j u hu => by
      rw [show o + 6 + j = o + (j + 6) by omega]
      exact hq (j + 6) u (by simpa using hu)⟩
end
/-- A row of the call's own that holds such cells is a list of statements. -/
theorem row_sx {p : Nat → Prop} [DecidablePred p] {W : World} {base lo n : Nat} {e : TypeId} {v : Value} {l : List Sm} {cs : List Value} (h : W.ownsRow base e 6 v n cs) (hb : lo ≤ base) (hc : tCs p W l cs) (hp : ∀ k, p k → lo ≤ k) (hn : n = l.length) : SX lo W v (smSS l) := by
  rcases h.2 with ⟨rfl, rfl⟩ | ⟨g, cap, cur, rfl, hg, hh, hnc, hcm, hrest⟩
  · have hl : l = [] := List.eq_nil_of_length_eq_zero hn.symm
    subst hl
    exact sx_nil lo W
  · subst hn
    refine ⟨some ⟨g, 0, none⟩, cap, by rw [smSS_len], by rw [smSS_len]; exact hnc, by unfold maxLen at hcm; omega, fun _ => ⟨g, 0, rfl, (h.lt g rfl).2, tCs.in_ hp hc fun j u hu => ?_⟩⟩
    have hcj := h.cells (g := g) rfl j u hu
    rw [show (⟨g, 0, none⟩ : Addr).add j = ⟨g, j, none⟩ by unfold Addr.add; split <;> simp_all] at hcj
    rw [Nat.zero_add, er_cell, if_neg (by have := (h.lt g rfl).1; omega)]
    exact hcj

/-- The cells that a statement is appended as. -/
abbrev newt (t : Sm) (vl vx vy : Value) : List Value := [.int .i64 t.op, .string t.s, .int .i64 t.n, vl, vx, vy]
/-- One more statement. -/
theorem st_step {W wr w3 w4 : World} {O : Obj} {rb g N cT i o n : Nat} {T : List Tok} {E : TypeId} {l : List Sm} {t : Sm} {cs : List Value} {vv v1 vl vx vy : Value}
    (hG : Gr rb W wr) (hown : wr.ownsRow W.heap.size E 6 vv n cs) (hx : tCs (rowp W.heap.size vv) wr l cs) (g3 : Gr rb wr w3) (hv1 : EX wr.heap.size w3 vl t.l) (hv2 : SX wr.heap.size w3 vx t.x) (hv3 : SX wr.heap.size w3 vy t.y) (hok : okS t) (h3 : Rd w3 rb g N cT T i o)
    (hgrow : (w3.alloc O).grownBy w4 vv.ownBlock) (hat : ∀ k, v1.ownBlock = some k → vv.ownBlock = some k ∨ (w3.alloc O).heap.size ≤ k) (hrl : rb < W.heap.size) (hgl : g < W.heap.size) :
    Rd w4 rb g N cT T i o ∧ Gr rb W w4 ∧ tCs (rowp W.heap.size v1) w4 (l ++ [t]) (cs ++ newt t vl vx vy) := by
  have z1 := hG.size
  have z2 := g3.size
  have z3 : (w3.alloc O).heap.size = w3.heap.size + 1 := by simp
  have z4 := hgrow.size
  have hrow := hown.lt
  have hba : ∀ k, k < w3.heap.size → vv.ownBlock ≠ some k → w4.heap[k]? = w3.heap[k]? := fun k hk hne => (hgrow.block k (by omega) (fun e => hne e.symm)).trans (Below.heap_alloc w3 O k hk)
  have hlow : ∀ k, k < W.heap.size → w4.heap[k]? = w3.heap[k]? := fun k hk => hba k (by omega) (fun e => by have := (hrow k e).1; omega)
  have hr := hlow rb hrl
  have hgb := hlow g hgl
  have cc : ∀ j, w4.cell? ⟨rb, j, none⟩ = w3.cell? ⟨rb, j, none⟩ := fun j => World.cell?_of_block (a := ⟨rb, j, none⟩) hr
  have ff : ∀ j, w4.frozen? ⟨rb, j, none⟩ = w3.frozen? ⟨rb, j, none⟩ := fun j => World.frozen?_of_block (a := ⟨rb, j, none⟩) hr
  have hK : Kp wr.heap.size w3 w4 := ⟨by omega, fun k hk hl => hba k hl (fun e => by have := (hrow k e).2; omega)⟩
  have hnew : ∀ k, wr.heap.size ≤ k → k < w3.heap.size → rowp W.heap.size v1 k := fun k hk hl => ⟨by omega, fun e => by
    rcases hat k e with e | e
    · have := (hrow k e).2; omega
    · omega⟩
  refine ⟨⟨(cc 0).trans h3.c0, (cc 1).trans h3.c1, (cc 2).trans h3.c2, fun j => (ff j).trans (h3.fz j), by omega, h3.tok.step (by omega) hgb, h3.ne, h3.len, h3.lt, h3.small, h3.good⟩, ?_, ?_⟩
  · have h13 := (hG.trans g3).alloc O
    exact ⟨(World.grownBy.os hgrow).trans (World.grownBy.os h13), (World.grownBy.tape hgrow).trans (World.grownBy.tape h13), (World.grownBy.output hgrow).trans (World.grownBy.output h13), by omega, fun k hk hne => (hlow k hk).trans (World.grownBy.block (hG.trans g3) k hk hne)⟩
  · refine tCs.snoc (EY.of_ex hv1 hK hnew) (SY.of_sx hv2 hK hnew) (SY.of_sx hv3 hK hnew) hok (tCs.kp (by omega) (fun k hk hl => ?pb) (fun k hk hl => ⟨hk.1, fun e => ?pc⟩) hx)
    case pb => exact (hba k (by omega) hk.2).trans (g3.block hl (by have := hk.1; omega))
    case pc =>
      rcases hat k e with e | e
      · exact hk.2 e
      · omega

end Go.Proofs.YtppagjhmlgkamaaGreatDoor

/-
  Package parse: a block of statements.
-/
namespace Go.Proofs.YtppagjhmlgkamaaGreatDoor
open Go Go.RowKit Go.Lib

theorem stInfo : (Tryz.prog.info? 41).map (fun i => (i.zero, i.size, i.bytes)) = some (some (.agg #[.int .i64 0, .string ⟨#[]⟩, .int .i64 0, .slice none 0 0, .slice none 0 0, .slice none 0 0]), 6, 104) := by kernel_rfl
/-- What a call that reads statements has done. -/
def BP (rb g N cT o : Nat) (T : List Tok) (W : World) (x : PR (List Sm)) (e : Ending) (W' : World) : Prop :=
  match x with
  | .ok l r => (∃ vv, e = .returned vv ∧ SX W.heap.size W' vv (smSS l)) ∧ (∃ i, Rd W' rb g N cT T i o ∧ T.drop i = r) ∧ Gr rb W W'
  | .bad p c => e = flt p c ∧ Gr rb W W'
  | .out => True
/-- At the head of each round. -/
def KRel (one : List Tok → PR Sm) (rb g N cT o : Nat) (T : List Tok) (W : World) (y : PR (List Sm)) (v : Value) (wr : World) : Prop :=
  ∃ m l cs i, bodyT one m l (T.drop i) = y ∧ Rd wr rb g N cT T i (o + 1) ∧ Gr rb W wr ∧ wr.ownsRow W.heap.size 41 6 v l.length cs ∧ tCs (rowp W.heap.size v) wr l cs ∧ l.length ≤ i
theorem newt_one (t : Sm) (A B C : Option Addr) (a b c a' b' c' : Nat) : ∀ u ∈ newt t (.slice A a a') (.slice B b b') (.slice C c c'), u.oneCell' = true := by
  intro u hu
  simp only [newt, List.mem_cons, List.not_mem_nil, or_false] at hu
  rcases hu with rfl | rfl | rfl | rfl | rfl | rfl <;> rfl
theorem newt_cells (w3 : World) (t : Sm) (x y z : Value) : ∀ j u, (newt t x y z)[j]? = some u → (w3.alloc (.cells #[.int .i64 t.op, .string t.s, .int .i64 t.n, x, y, z] 41)).cell? ((⟨w3.heap.size, 0, none⟩ : Addr).add j) = some u := by
  intro j u hu
  rw [show (⟨w3.heap.size, 0, none⟩ : Addr).add j = ⟨w3.heap.size, j, none⟩ by unfold Addr.add; split <;> simp_all, box_cell (heap_alloc_new w3 _)]
  simpa using hu

set_option maxRecDepth 100000 in
theorem bl_loop {W : World} {rb g N cT i o : Nat} {T : List Tok} (h : Rd W rb g N cT T i o) (b1 : isT (T.drop i) [123] = true) (ho : o < 256) (one : List Tok → PR Sm) (m : Nat) (y : PR (List Sm)) (hy : bodyT one m [] (T.drop (i + 1)) = y) (hyo : y ≠ .out) (HLn : ∀ j v r, one (T.drop j) = .ok v r → r.length < (T.drop j).length)
    (HM : ∀ W2 i', Rd W2 rb g N cT T i' (o + 1) → one (T.drop i') ≠ .out → Calls Tryz.prog 95 #[.pointer (some ⟨rb, 0, none⟩)] W2 (TP rb g N cT (o + 1) T W2 (one (T.drop i')))) :
    Calls Tryz.prog 94 #[.pointer (some ⟨rb, 0, none⟩), .func (.func 95) #[.pointer (some ⟨rb, 0, none⟩)] #[]] W (BP rb g N cT o T W y) := by
  have HE := Lib.hid (show Calls Tryz.prog 107 #[.pointer (some ⟨rb, 0, none⟩), .string ⟨#[123]⟩] W fun e w' => e = .returned (.tuple #[]) ∧ Rd w' rb g N cT T (i + 1) (o + 1) ∧ Gr rb W w' from enter_yes h [123] (by decide) b1 ho)
  have HMM := Lib.hid HM
  have HY := Lib.hid hy
  have hrl := h.rlt
  have hgl := h.tok.1
  have hN : N ≤ 65537 := by have := h.good.len; have := h.len; omega
  clear h b1 HM hy
  obtain ⟨i0, hi, hz0, hz1, hz2⟩ := info_parts stInfo
  go_enter Tryz.func94, Tryz.ntmps94
  go_wp2_with (go_at_call 107; ((with_reducible refine HE.out.mono ?_); rintro e w1 ⟨rfl, h1, g1⟩))
  have hstart : KRel one rb g N cT o T W y (.slice none 0 0) w1 := ⟨m, [], [], i + 1, HY.out, h1, g1, World.ownsRow_nil _ _ _ _, rfl, Nat.zero_le _⟩
  clear h1 g1 HE HY
  go_loopw [5] (fun s wr => KRel one rb g N cT o T W y s wr) (fun _ wr => posR rb N wr)
  case atStart => exact hstart
  case round =>
    clear hstart
    obtain ⟨m, l, cs, i, hy, hR, hG, hown, hx, hli⟩ := hrel
    cases m with
    | zero => exact absurd hy.symm hyo
    | succ m =>
      rw [bodyT] at hy
      obtain ⟨n, hn⟩ : ∃ n, l.length = n := ⟨_, rfl⟩
      rw [hn] at hown hli
      have hne : u5.ownBlock ≠ some rb := fun e => by have := (hown.lt rb e).1; omega
      have hiN := hR.lt
      have HR := Lib.hid hR
      cases b : isT (T.drop i) [125] with
      | true =>
        have HI := Lib.hid (show Calls Tryz.prog 58 #[.pointer (some ⟨rb, 0, none⟩), .string ⟨#[125]⟩] wr fun e w' => e = .returned (.bool true) ∧ Below wr.heap.size wr w' from is_any hR [125] true b)
        rw [b, if_pos rfl, wantT, if_pos b] at hy
        have HL := Lib.hid (fun w1 (h1 : Rd w1 rb g N cT T i (o + 1)) => (show Calls Tryz.prog 108 #[.pointer (some ⟨rb, 0, none⟩), .string ⟨#[125]⟩] w1 fun e w' => e = .returned (.tuple #[]) ∧ Rd w' rb g N cT T (i + 1) o ∧ Gr rb w1 w' from leave_yes h1 [125] (by decide) b))
        clear hR
        go_wp2_with (first
          | (go_at_call 58; ((with_reducible refine HI.out.mono ?_); rintro e' w5 ⟨rfl, e5⟩; have h5 := HR.out.below e5))
          | (go_at_call 108; ((with_reducible refine (HL.out _ h5).mono ?_); rintro e' w6 ⟨rfl, h6, g6⟩)))
        go_ret
        have g7 := (Gr.of e5).trans g6
        rw [← hy]
        refine ⟨⟨_, rfl, row_sx (p := rowp W.heap.size u5) (hown.kept g7 (.inr hne)) (Nat.le_refl _) (hx.kp g7.size (fun k hk hl => g7.block hl (by have := hk.1; omega)) (fun k hk _ => hk)) (fun k hk => hk.1) hn.symm⟩, ⟨i + 1, h6, (drop_tail T i).symm⟩, hG.trans g7⟩
      | false =>
        have HI := Lib.hid (show Calls Tryz.prog 58 #[.pointer (some ⟨rb, 0, none⟩), .string ⟨#[125]⟩] wr fun e w' => e = .returned (.bool false) ∧ Below wr.heap.size wr w' from is_any hR [125] false b)
        rw [b, if_neg (by decide)] at hy
        clear hR
        cases hxv : one (T.drop i) with
        | out => rw [hxv] at hy; exact absurd hy.symm hyo
        | bad p c =>
          rw [hxv] at hy
          have HX := Lib.hid (fun w1 (h1 : Rd w1 rb g N cT T i (o + 1)) => (show Calls Tryz.prog 95 #[.pointer (some ⟨rb, 0, none⟩)] w1 (TP rb g N cT (o + 1) T w1 (.bad p c)) from hxv ▸ HMM.out w1 i h1 (by rw [hxv]; exact fun e => by cases e)))
          go_wp2_with (first
            | (go_at_call 58; ((with_reducible refine HI.out.mono ?_); rintro e' w5 ⟨rfl, e5⟩; have h5 := HR.out.below e5))
            | (go_at_call 95; ((with_reducible refine (HX.out _ h5).mono ?_); rintro e' w6 ⟨rfl, g6⟩)))
          rw [← hy]
          exact ⟨rfl, rfl, hG.trans ((Gr.of e5).trans g6)⟩
        | ok v2 r2 =>
          rw [hxv] at hy
          have HX := Lib.hid (fun w1 (h1 : Rd w1 rb g N cT T i (o + 1)) => (show Calls Tryz.prog 95 #[.pointer (some ⟨rb, 0, none⟩)] w1 (TP rb g N cT (o + 1) T w1 (.ok v2 r2)) from hxv ▸ HMM.out w1 i h1 (by rw [hxv]; exact fun e => by cases e)))
          go_wp2_with (first
            | (go_at_call 58; ((with_reducible refine HI.out.mono ?_); rintro e' w5 ⟨rfl, e5⟩; have h5 := HR.out.below e5))
            | (go_at_call 95; ((with_reducible refine (HX.out _ h5).mono ?_); rintro e' w6 ⟨⟨vv, rfl, vl, vx, vy, rfl, hvl, hvx, hvy, hok⟩, ⟨i6, h6, hd⟩, g6⟩; obtain ⟨A1, c1, el1, _⟩ := id hvl; obtain ⟨A2, c2, el2, _⟩ := id hvx; obtain ⟨A3, c3, el3, _⟩ := id hvy; subst el1; subst el2; subst el3))
            | (at_builtin; refine step_append_at rfl (.tmp 11) (.tmp 14) 23 rfl W.heap.size 41 i0 _ 6 104 Tryz.underlying23 hi hz0 hz1 hz2 rfl (by decide) u5 n cs rfl ((hown.kept ((Gr.of e5).trans g6) (.inr hne)).alloc _) ⟨w6.heap.size, 0, none⟩ 1 1 (newt v2 (.slice A1 v2.l.len c1) (.slice A2 v2.x.len c2) (.slice A3 v2.y.len c3)) rfl rfl (newt_cells w6 v2 _ _ _) (newt_one v2 A1 A2 A3 _ _ _ _ _ _) (by unfold maxLen; omega) (by omega) (by have := hG.size; have := e5.size; have := g6.size; simp; omega) ?_; intro v7 w7 hown7 hgrow7 _ hat7))
          have g5 := Gr.of (rb := rb) e5
          have ho5 := hown.kept g5 (.inr hne)
          have hx5 := hx.kp (p := rowp W.heap.size u5) (q := rowp W.heap.size u5) g5.size (fun k hk hl => g5.block hl (by have := hk.1; omega)) (fun k hk _ => hk)
          obtain ⟨h7, g7, hx7⟩ := st_step (hG.trans g5) ho5 hx5 g6 hvl hvx hvy hok h6 hgrow7 hat7 hrl hgl
          have hl2 := h6.lt
          have hl1 := h6.len
          have hlen2 := HLn _ _ _ hxv
          rw [← hd, List.length_drop, List.length_drop] at hlen2
          have hl3 : i < i6 := by omega
          refine ⟨⟨m, l ++ [v2], _, i6, by rw [hd]; exact hy, h7, g7, by rw [List.length_append, hn]; exact hown7, hx7, by rw [List.length_append, hn]; show n + 1 ≤ i6; omega⟩, ?_⟩
          rw [posR_eq h7, posR_eq HR.out]
          exact Nat.sub_lt_sub_left (Nat.lt_trans hl3 hl2) hl3

set_option maxRecDepth 100000 in
theorem bl_no {W : World} {rb g N cT i o : Nat} {T : List Tok} (h : Rd W rb g N cT T i o) (b1 : isT (T.drop i) [123] = false) (one : Value) :
    Calls Tryz.prog 94 #[.pointer (some ⟨rb, 0, none⟩), one] W (BP rb g N cT o T W (.bad (hdT (T.drop i)).at_ 2)) := by
  have HE := Lib.hid (show Calls Tryz.prog 107 #[.pointer (some ⟨rb, 0, none⟩), .string ⟨#[123]⟩] W fun e w' => e = flt (hdT (T.drop i)).at_ 2 ∧ Below W.heap.size W w' from enter_no h [123] b1 _ rfl)
  clear h b1
  go_enter Tryz.func94, Tryz.ntmps94
  go_wp2_with (go_at_call 107; ((with_reducible refine HE.out.mono ?_); rintro e w2 ⟨rfl, g2⟩))
  exact ⟨rfl, rfl, Gr.of g2⟩

set_option maxRecDepth 100000 in
theorem bl_deep {W : World} {rb g N cT i : Nat} {T : List Tok} (h : Rd W rb g N cT T i 256) (b1 : isT (T.drop i) [123] = true) (one : Value) :
    Calls Tryz.prog 94 #[.pointer (some ⟨rb, 0, none⟩), one] W (BP rb g N cT 256 T W (.bad (hdT (T.drop i)).at_ 3)) := by
  have HE := Lib.hid (show Calls Tryz.prog 107 #[.pointer (some ⟨rb, 0, none⟩), .string ⟨#[123]⟩] W fun e w' => e = flt (hdT (T.drop i)).at_ 3 ∧ Below W.heap.size W w' from enter_deep h [123] b1 _ rfl)
  clear h b1
  go_enter Tryz.func94, Tryz.ntmps94
  go_wp2_with (go_at_call 107; ((with_reducible refine HE.out.mono ?_); rintro e w2 ⟨rfl, g2⟩))
  exact ⟨rfl, rfl, Gr.of g2⟩

/-- A block of statements. -/
theorem block_any {W : World} {rb g N cT i o : Nat} {T : List Tok} (h : Rd W rb g N cT T i o) (one : List Tok → PR Sm) (m : Nat) (hx : blockT one m o (T.drop i) ≠ .out) (HLn : ∀ j v r, one (T.drop j) = .ok v r → r.length < (T.drop j).length)
    (HM : ∀ W2 i', Rd W2 rb g N cT T i' (o + 1) → one (T.drop i') ≠ .out → Calls Tryz.prog 95 #[.pointer (some ⟨rb, 0, none⟩)] W2 (TP rb g N cT (o + 1) T W2 (one (T.drop i')))) :
    Calls Tryz.prog 94 #[.pointer (some ⟨rb, 0, none⟩), .func (.func 95) #[.pointer (some ⟨rb, 0, none⟩)] #[]] W (BP rb g N cT o T W (blockT one m o (T.drop i))) := by
  cases b1 : isT (T.drop i) [123] with
  | false =>
    have e : blockT one m o (T.drop i) = .bad (hdT (T.drop i)).at_ 2 := by simp [blockT, enterT, b1, PR.bind]
    rw [e]
    exact bl_no h b1 _
  | true =>
    by_cases ho : o = 256
    · subst ho
      have e : blockT one m 256 (T.drop i) = .bad (hdT (T.drop i)).at_ 3 := by simp [blockT, enterT, b1, PR.bind]
      rw [e]
      exact bl_deep h b1 _
    · have e : blockT one m o (T.drop i) = bodyT one m [] (T.drop (i + 1)) := by simp [blockT, enterT, b1, ho, PR.bind]
      rw [e] at hx ⊢
      exact bl_loop h b1 (by have := h.small; omega) one m _ rfl hx HLn HM

end Go.Proofs.YtppagjhmlgkamaaGreatDoor

/-
  Package parse: a block of a function's statements (outer).
-/
namespace Go.Proofs.YtppagjhmlgkamaaGreatDoor
open Go Go.RowKit Go.Lib

set_option maxRecDepth 100000 in
theorem bo_loop {W : World} {rb g N cT i o : Nat} {T : List Tok} (h : Rd W rb g N cT T i o) (b1 : isT (T.drop i) [123] = true) (ho : o < 256) (one : List Tok → PR Sm) (m : Nat) (y : PR (List Sm)) (hy : bodyT one m [] (T.drop (i + 1)) = y) (hyo : y ≠ .out) (HLn : ∀ j v r, one (T.drop j) = .ok v r → r.length < (T.drop j).length)
    (HM : ∀ W2 i', Rd W2 rb g N cT T i' (o + 1) → one (T.drop i') ≠ .out → Calls Tryz.prog 62 #[.pointer (some ⟨rb, 0, none⟩)] W2 (TP rb g N cT (o + 1) T W2 (one (T.drop i')))) :
    Calls Tryz.prog 94 #[.pointer (some ⟨rb, 0, none⟩), .func (.func 62) #[.pointer (some ⟨rb, 0, none⟩)] #[]] W (BP rb g N cT o T W y) := by
  have HE := Lib.hid (show Calls Tryz.prog 107 #[.pointer (some ⟨rb, 0, none⟩), .string ⟨#[123]⟩] W fun e w' => e = .returned (.tuple #[]) ∧ Rd w' rb g N cT T (i + 1) (o + 1) ∧ Gr rb W w' from enter_yes h [123] (by decide) b1 ho)
  have HMM := Lib.hid HM
  have HY := Lib.hid hy
  have hrl := h.rlt
  have hgl := h.tok.1
  have hN : N ≤ 65537 := by have := h.good.len; have := h.len; omega
  clear h b1 HM hy
  obtain ⟨i0, hi, hz0, hz1, hz2⟩ := info_parts stInfo
  go_enter Tryz.func94, Tryz.ntmps94
  go_wp2_with (go_at_call 107; ((with_reducible refine HE.out.mono ?_); rintro e w1 ⟨rfl, h1, g1⟩))
  have hstart : KRel one rb g N cT o T W y (.slice none 0 0) w1 := ⟨m, [], [], i + 1, HY.out, h1, g1, World.ownsRow_nil _ _ _ _, rfl, Nat.zero_le _⟩
  clear h1 g1 HE HY
  go_loopw [5] (fun s wr => KRel one rb g N cT o T W y s wr) (fun _ wr => posR rb N wr)
  case atStart => exact hstart
  case round =>
    clear hstart
    obtain ⟨m, l, cs, i, hy, hR, hG, hown, hx, hli⟩ := hrel
    cases m with
    | zero => exact absurd hy.symm hyo
    | succ m =>
      rw [bodyT] at hy
      obtain ⟨n, hn⟩ : ∃ n, l.length = n := ⟨_, rfl⟩
      rw [hn] at hown hli
      have hne : u5.ownBlock ≠ some rb := fun e => by have := (hown.lt rb e).1; omega
      have hiN := hR.lt
      have HR := Lib.hid hR
      cases b : isT (T.drop i) [125] with
      | true =>
        have HI := Lib.hid (show Calls Tryz.prog 58 #[.pointer (some ⟨rb, 0, none⟩), .string ⟨#[125]⟩] wr fun e w' => e = .returned (.bool true) ∧ Below wr.heap.size wr w' from is_any hR [125] true b)
        rw [b, if_pos rfl, wantT, if_pos b] at hy
        have HL := Lib.hid (fun w1 (h1 : Rd w1 rb g N cT T i (o + 1)) => (show Calls Tryz.prog 108 #[.pointer (some ⟨rb, 0, none⟩), .string ⟨#[125]⟩] w1 fun e w' => e = .returned (.tuple #[]) ∧ Rd w' rb g N cT T (i + 1) o ∧ Gr rb w1 w' from leave_yes h1 [125] (by decide) b))
        clear hR
        go_wp2_with (first
          | (go_at_call 58; ((with_reducible refine HI.out.mono ?_); rintro e' w5 ⟨rfl, e5⟩; have h5 := HR.out.below e5))
          | (go_at_call 108; ((with_reducible refine (HL.out _ h5).mono ?_); rintro e' w6 ⟨rfl, h6, g6⟩)))
        go_ret
        have g7 := (Gr.of e5).trans g6
        rw [← hy]
        refine ⟨⟨_, rfl, row_sx (p := rowp W.heap.size u5) (hown.kept g7 (.inr hne)) (Nat.le_refl _) (hx.kp g7.size (fun k hk hl => g7.block hl (by have := hk.1; omega)) (fun k hk _ => hk)) (fun k hk => hk.1) hn.symm⟩, ⟨i + 1, h6, (drop_tail T i).symm⟩, hG.trans g7⟩
      | false =>
        have HI := Lib.hid (show Calls Tryz.prog 58 #[.pointer (some ⟨rb, 0, none⟩), .string ⟨#[125]⟩] wr fun e w' => e = .returned (.bool false) ∧ Below wr.heap.size wr w' from is_any hR [125] false b)
        rw [b, if_neg (by decide)] at hy
        clear hR
        cases hxv : one (T.drop i) with
        | out => rw [hxv] at hy; exact absurd hy.symm hyo
        | bad p c =>
          rw [hxv] at hy
          have HX := Lib.hid (fun w1 (h1 : Rd w1 rb g N cT T i (o + 1)) => (show Calls Tryz.prog 62 #[.pointer (some ⟨rb, 0, none⟩)] w1 (TP rb g N cT (o + 1) T w1 (.bad p c)) from hxv ▸ HMM.out w1 i h1 (by rw [hxv]; exact fun e => by cases e)))
          go_wp2_with (first
            | (go_at_call 58; ((with_reducible refine HI.out.mono ?_); rintro e' w5 ⟨rfl, e5⟩; have h5 := HR.out.below e5))
            | (go_at_call 62; ((with_reducible refine (HX.out _ h5).mono ?_); rintro e' w6 ⟨rfl, g6⟩)))
          rw [← hy]
          exact ⟨rfl, rfl, hG.trans ((Gr.of e5).trans g6)⟩
        | ok v2 r2 =>
          rw [hxv] at hy
          have HX := Lib.hid (fun w1 (h1 : Rd w1 rb g N cT T i (o + 1)) => (show Calls Tryz.prog 62 #[.pointer (some ⟨rb, 0, none⟩)] w1 (TP rb g N cT (o + 1) T w1 (.ok v2 r2)) from hxv ▸ HMM.out w1 i h1 (by rw [hxv]; exact fun e => by cases e)))
          go_wp2_with (first
            | (go_at_call 58; ((with_reducible refine HI.out.mono ?_); rintro e' w5 ⟨rfl, e5⟩; have h5 := HR.out.below e5))
            | (go_at_call 62; ((with_reducible refine (HX.out _ h5).mono ?_); rintro e' w6 ⟨⟨vv, rfl, vl, vx, vy, rfl, hvl, hvx, hvy, hok⟩, ⟨i6, h6, hd⟩, g6⟩; obtain ⟨A1, c1, el1, _⟩ := id hvl; obtain ⟨A2, c2, el2, _⟩ := id hvx; obtain ⟨A3, c3, el3, _⟩ := id hvy; subst el1; subst el2; subst el3))
            | (at_builtin; refine step_append_at rfl (.tmp 11) (.tmp 14) 23 rfl W.heap.size 41 i0 _ 6 104 Tryz.underlying23 hi hz0 hz1 hz2 rfl (by decide) u5 n cs rfl ((hown.kept ((Gr.of e5).trans g6) (.inr hne)).alloc _) ⟨w6.heap.size, 0, none⟩ 1 1 (newt v2 (.slice A1 v2.l.len c1) (.slice A2 v2.x.len c2) (.slice A3 v2.y.len c3)) rfl rfl (newt_cells w6 v2 _ _ _) (newt_one v2 A1 A2 A3 _ _ _ _ _ _) (by unfold maxLen; omega) (by omega) (by have := hG.size; have := e5.size; have := g6.size; simp; omega) ?_; intro v7 w7 hown7 hgrow7 _ hat7))
          have g5 := Gr.of (rb := rb) e5
          have ho5 := hown.kept g5 (.inr hne)
          have hx5 := hx.kp (p := rowp W.heap.size u5) (q := rowp W.heap.size u5) g5.size (fun k hk hl => g5.block hl (by have := hk.1; omega)) (fun k hk _ => hk)
          obtain ⟨h7, g7, hx7⟩ := st_step (hG.trans g5) ho5 hx5 g6 hvl hvx hvy hok h6 hgrow7 hat7 hrl hgl
          have hl2 := h6.lt
          have hl1 := h6.len
          have hlen2 := HLn _ _ _ hxv
          rw [← hd, List.length_drop, List.length_drop] at hlen2
          have hl3 : i < i6 := by omega
          refine ⟨⟨m, l ++ [v2], _, i6, by rw [hd]; exact hy, h7, g7, by rw [List.length_append, hn]; exact hown7, hx7, by rw [List.length_append, hn]; show n + 1 ≤ i6; omega⟩, ?_⟩
          rw [posR_eq h7, posR_eq HR.out]
          exact Nat.sub_lt_sub_left (Nat.lt_trans hl3 hl2) hl3


/-- A block of statements that stand in no other one. -/
theorem blockO_any {W : World} {rb g N cT i o : Nat} {T : List Tok} (h : Rd W rb g N cT T i o) (one : List Tok → PR Sm) (m : Nat) (hx : blockT one m o (T.drop i) ≠ .out) (HLn : ∀ j v r, one (T.drop j) = .ok v r → r.length < (T.drop j).length)
    (HM : ∀ W2 i', Rd W2 rb g N cT T i' (o + 1) → one (T.drop i') ≠ .out → Calls Tryz.prog 62 #[.pointer (some ⟨rb, 0, none⟩)] W2 (TP rb g N cT (o + 1) T W2 (one (T.drop i')))) :
    Calls Tryz.prog 94 #[.pointer (some ⟨rb, 0, none⟩), .func (.func 62) #[.pointer (some ⟨rb, 0, none⟩)] #[]] W (BP rb g N cT o T W (blockT one m o (T.drop i))) := by
  cases b1 : isT (T.drop i) [123] with
  | false =>
    have e : blockT one m o (T.drop i) = .bad (hdT (T.drop i)).at_ 2 := by simp [blockT, enterT, b1, PR.bind]
    rw [e]
    exact bl_no h b1 _
  | true =>
    by_cases ho : o = 256
    · subst ho
      have e : blockT one m 256 (T.drop i) = .bad (hdT (T.drop i)).at_ 3 := by simp [blockT, enterT, b1, PR.bind]
      rw [e]
      exact bl_deep h b1 _
    · have e : blockT one m o (T.drop i) = bodyT one m [] (T.drop (i + 1)) := by simp [blockT, enterT, b1, ho, PR.bind]
      rw [e] at hx ⊢
      exact bo_loop h b1 (by have := h.small; omega) one m _ rfl hx HLn HM

end Go.Proofs.YtppagjhmlgkamaaGreatDoor

/-
  Package parse: while.
-/
namespace Go.Proofs.YtppagjhmlgkamaaGreatDoor
open Go Go.RowKit Go.Lib

set_option maxRecDepth 100000 in
theorem loop_bad1 {W : World} {rb g N cT i o : Nat} {T : List Tok} (h : Rd W rb g N cT T i o) (p c : Nat)
    (HS : ∀ W2, Rd W2 rb g N cT T i o → Calls Tryz.prog 110 #[.pointer (some ⟨rb, 0, none⟩), .int .i64 8] W2 (TP rb g N cT o T W2 (.bad p c))) :
    Calls Tryz.prog 112 #[.pointer (some ⟨rb, 0, none⟩)] W (TP rb g N cT o T W (.bad p c)) := by
  have HSS := Lib.hid HS
  have HR := Lib.hid h
  clear HS h
  go_enter Tryz.func112, Tryz.ntmps112
  go_wp2_with (go_at_call 110; ((with_reducible refine (HSS.out _ (HR.out.alloc _)).mono ?_); rintro e w2 ⟨rfl, g2⟩))
  exact ⟨rfl, rfl, ((Gr.refl rb W).alloc _).trans g2⟩

set_option maxRecDepth 100000 in
theorem loop_bad2' {W : World} {rb g N cT i o : Nat} {T : List Tok} (h : Rd W rb g N cT T i o) (t : Sm) (r1 : List Tok) (p c : Nat)
    (HS : ∀ W2, Rd W2 rb g N cT T i o → Calls Tryz.prog 110 #[.pointer (some ⟨rb, 0, none⟩), .int .i64 8] W2 (TP rb g N cT o T W2 (.ok t r1)))
    (HB : ∀ W2 i', Rd W2 rb g N cT T i' o → T.drop i' = r1 → Calls Tryz.prog 94 #[.pointer (some ⟨rb, 0, none⟩), .func (.func 95) #[.pointer (some ⟨rb, 0, none⟩)] #[]] W2 (BP rb g N cT o T W2 (.bad p c))) :
    Calls Tryz.prog 112 #[.pointer (some ⟨rb, 0, none⟩)] W (TP rb g N cT o T W (.bad p c)) := by
  have HSS := Lib.hid HS
  have HBB := Lib.hid HB
  have HR := Lib.hid h
  clear HS h HB
  go_enter Tryz.func112, Tryz.ntmps112
  go_wp2_with (first
    | (go_at_call 110; ((with_reducible refine (HSS.out _ (HR.out.alloc _)).mono ?_); rintro e w2 ⟨⟨vv, rfl, vl, vx, vy, rfl, hvl, hvx, hvy, hok⟩, ⟨i2, h2, hd⟩, g2⟩; obtain ⟨A1, c1, el1, _⟩ := id hvl; obtain ⟨A2, c2, el2, _⟩ := id hvx; obtain ⟨A3, c3, el3, _⟩ := id hvy; subst el1; subst el2; subst el3))
    | (go_at_call 94; ((with_reducible refine (HBB.out _ i2 (h2.alloc _) hd).mono ?_); rintro e w3 ⟨rfl, g3⟩)))
  exact ⟨rfl, rfl, ((((Gr.refl rb W).alloc _).trans g2).alloc _).trans g3⟩

end Go.Proofs.YtppagjhmlgkamaaGreatDoor

/-
  Package parse: lists of names.
-/
namespace Go.Proofs.YtppagjhmlgkamaaGreatDoor
open Go Go.RowKit Go.Lib

theorem strInfo : (Tryz.prog.info? 9).map (fun i => (i.zero, i.size, i.bytes)) = some (some (.string ⟨#[]⟩), 1, 16) := by kernel_rfl
theorem PsIn.ext {B : Nat} {W W' : World} (h : ∀ b j v, b < B → W.cell? ⟨b, j, none⟩ = some v → W'.cell? ⟨b, j, none⟩ = some v) : ∀ {l : List ByteArray} {b o : Nat}, b < B → PsIn W l b o → PsIn W' l b o
  | [], _, _, _, _ => trivial
  | _ :: _, _, _, hb, ⟨h0, h1, hr⟩ => ⟨h _ _ _ hb h0, h1, PsIn.ext h hb hr⟩
/-- A slice of texts, in a block from lo on. -/
abbrev NX (lo : Nat) (W : World) (v : Value) (l : List ByteArray) : Prop := RowV (PsIn (er lo W) l) W.heap.size l.length v
theorem NX.kp {lo lo' : Nat} {W W' : World} {v : Value} {l : List ByteArray} (hv : NX lo W v l) (h : Kp lo W W') (hl : lo' ≤ lo) : NX lo' W' v l := RowV.imp hv h.size fun _ _ hb hp => PsIn.ext (er_ext h hl) hb hp
theorem nx_nil (lo : Nat) (W : World) : NX lo W (.slice none 0 0) [] := ⟨none, 0, rfl, Nat.le_refl _, by decide, fun h => by simp at h⟩
def okN (l : List ByteArray) : Prop := ∀ s ∈ l, s.size ≤ 9223372036854775807
theorem psin_cells {W : World} {g : Nat} : ∀ {l : List ByteArray} {o : Nat}, okN l → (∀ j u, (l.map Value.string)[j]? = some u → W.cell? ⟨g, o + j, none⟩ = some u) → PsIn W l g o
  | [], _, _, _ => trivial
  | s :: r, o, hok, hq => ⟨hq 0 _ rfl, hok s (List.mem_cons_self ..), psin_cells (fun x hx => hok x (List.mem_cons_of_mem _ hx)) fun j u hu => by
      rw [show o + 1 + j = o + (j + 1) by omega]
      exact hq (j + 1) u (by simpa using hu)⟩
/-- A row of the call's own that holds texts. -/
theorem row_nx {W : World} {base lo n : Nat} {e : TypeId} {v : Value} {l : List ByteArray} (h : W.ownsRow base e 1 v n (l.map Value.string)) (hb : lo ≤ base) (hok : okN l) (hn : n = l.length) : NX lo W v l := by
  rcases h.2 with ⟨rfl, rfl⟩ | ⟨g, cap, cur, rfl, hg, hh, hnc, hcm, hrest⟩
  · have hl : l = [] := List.eq_nil_of_length_eq_zero hn.symm
    subst hl
    exact nx_nil lo W
  · subst hn
    refine ⟨some ⟨g, 0, none⟩, cap, rfl, hnc, by unfold maxLen at hcm; omega, fun _ => ⟨g, 0, rfl, (h.lt g rfl).2, psin_cells hok fun j u hu => ?_⟩⟩
    have hcj := h.cells (g := g) rfl j u hu
    rw [show (⟨g, 0, none⟩ : Addr).add j = ⟨g, j, none⟩ by unfold Addr.add; split <;> simp_all] at hcj
    rw [Nat.zero_add, er_cell, if_neg (by have := (h.lt g rfl).1; omega)]
    exact hcj

/-- What a call that reads a name has done; one that reads names. -/
def NP (rb g N cT o : Nat) (T : List Tok) (W : World) (x : PR ByteArray) (e : Ending) (W' : World) : Prop :=
  match x with
  | .ok s r => e = .returned (.string s) ∧ (∃ i, Rd W' rb g N cT T i o ∧ T.drop i = r) ∧ Gr rb W W' ∧ s.size ≤ 9223372036854775807
  | .bad p c => e = flt p c ∧ Gr rb W W'
  | .out => True
def MP (rb g N cT o : Nat) (T : List Tok) (W : World) (x : PR (List ByteArray)) (e : Ending) (W' : World) : Prop :=
  match x with
  | .ok l r => (∃ vv, e = .returned vv ∧ NX W.heap.size W' vv l) ∧ (∃ i, Rd W' rb g N cT T i o ∧ T.drop i = r) ∧ Gr rb W W'
  | .bad p c => e = flt p c ∧ Gr rb W W'
  | .out => True
theorem nam_any {W : World} {rb g N cT i o : Nat} {T : List Tok} (h : Rd W rb g N cT T i o) :
    Calls Tryz.prog 92 #[.pointer (some ⟨rb, 0, none⟩)] W (NP rb g N cT o T W (nameT (T.drop i))) := by
  unfold nameT
  cases hb : nameB (baT (hdT (T.drop i)).text) with
  | false =>
    rw [if_neg (by decide)]
    exact (name_no h hb _ rfl).mono fun e w1 ⟨h1, h2⟩ => ⟨h1, Gr.of h2⟩
  | true =>
    rw [if_pos rfl]
    exact (name_yes h _ rfl hb).mono fun e w1 ⟨h1, h2, h3⟩ => ⟨h1, ⟨i + 1, h2, (drop_tail T i).symm⟩, h3, h.text⟩
theorem nam_ne (ts : List Tok) : nameT ts ≠ .out := by unfold nameT; split <;> intro e <;> cases e
theorem nam_left {ts : List Tok} {v : ByteArray} {r : List Tok} (h : nameT ts = .ok v r) : r.length ≤ ts.length := by
  unfold nameT at h
  split at h
  · injection h with _ h2; rw [← h2]; simp
  · cases h
abbrev ovN (rb : Nat) : Value := .func (.func 92) #[.pointer (some ⟨rb, 0, none⟩)] #[]

/-- One thing more behind a row of the call's own: the reader, and what was there. -/
theorem app_step {W wr w3 w4 : World} {O : Obj} {rb g N cT i o : Nat} {T : List Tok} {vv : Value}
    (hG : Gr rb W wr) (hrow : ∀ k, vv.ownBlock = some k → W.heap.size ≤ k) (g3 : Gr rb wr w3) (h3 : Rd w3 rb g N cT T i o)
    (hgrow : (w3.alloc O).grownBy w4 vv.ownBlock) (hrl : rb < W.heap.size) (hgl : g < W.heap.size) : Rd w4 rb g N cT T i o ∧ Gr rb W w4 := by
  have z1 := hG.size
  have z2 := g3.size
  have z3 : (w3.alloc O).heap.size = w3.heap.size + 1 := by simp
  have z4 := World.grownBy.size hgrow
  have hlow : ∀ k, k < W.heap.size → w4.heap[k]? = w3.heap[k]? := fun k hk => (World.grownBy.block hgrow k (by omega) (fun e => by have := hrow k e.symm; omega)).trans (Below.heap_alloc w3 O k (by omega))
  have cc : ∀ j, w4.cell? ⟨rb, j, none⟩ = w3.cell? ⟨rb, j, none⟩ := fun j => World.cell?_of_block (a := ⟨rb, j, none⟩) (hlow rb hrl)
  have ff : ∀ j, w4.frozen? ⟨rb, j, none⟩ = w3.frozen? ⟨rb, j, none⟩ := fun j => World.frozen?_of_block (a := ⟨rb, j, none⟩) (hlow rb hrl)
  have h13 := (hG.trans g3).alloc O
  exact ⟨⟨(cc 0).trans h3.c0, (cc 1).trans h3.c1, (cc 2).trans h3.c2, fun j => (ff j).trans (h3.fz j), by omega, h3.tok.step (by omega) (hlow g hgl), h3.ne, h3.len, h3.lt, h3.small, h3.good⟩,
    (World.grownBy.os hgrow).trans (World.grownBy.os h13), (World.grownBy.tape hgrow).trans (World.grownBy.tape h13), (World.grownBy.output hgrow).trans (World.grownBy.output h13), by omega, fun k hk hne => (hlow k hk).trans (World.grownBy.block (hG.trans g3) k hk hne)⟩

set_option maxRecDepth 100000 in
theorem nv_no {W : World} {rb g N cT i o : Nat} {T : List Tok} (h : Rd W rb g N cT T i o) (b1 : isT (T.drop i) [40] = false) :
    Calls Tryz.prog 93 #[.pointer (some ⟨rb, 0, none⟩), ovN rb] W (MP rb g N cT o T W (.bad (hdT (T.drop i)).at_ 2)) := by
  have HE := Lib.hid (show Calls Tryz.prog 107 #[.pointer (some ⟨rb, 0, none⟩), .string ⟨#[40]⟩] W fun e w' => e = flt (hdT (T.drop i)).at_ 2 ∧ Below W.heap.size W w' from enter_no h [40] b1 _ rfl)
  clear h b1
  go_enter Tryz.func93, Tryz.ntmps93
  go_wp2_with (go_at_call 107; ((with_reducible refine HE.out.mono ?_); rintro e w2 ⟨rfl, g2⟩))
  exact ⟨rfl, rfl, Gr.of g2⟩

set_option maxRecDepth 100000 in
theorem nv_deep {W : World} {rb g N cT i : Nat} {T : List Tok} (h : Rd W rb g N cT T i 256) (b1 : isT (T.drop i) [40] = true) :
    Calls Tryz.prog 93 #[.pointer (some ⟨rb, 0, none⟩), ovN rb] W (MP rb g N cT 256 T W (.bad (hdT (T.drop i)).at_ 3)) := by
  have HE := Lib.hid (show Calls Tryz.prog 107 #[.pointer (some ⟨rb, 0, none⟩), .string ⟨#[40]⟩] W fun e w' => e = flt (hdT (T.drop i)).at_ 3 ∧ Below W.heap.size W w' from enter_deep h [40] b1 _ rfl)
  clear h b1
  go_enter Tryz.func93, Tryz.ntmps93
  go_wp2_with (go_at_call 107; ((with_reducible refine HE.out.mono ?_); rintro e w2 ⟨rfl, g2⟩))
  exact ⟨rfl, rfl, Gr.of g2⟩

set_option maxRecDepth 100000 in
theorem nv_none {W : World} {rb g N cT i o : Nat} {T : List Tok} (h : Rd W rb g N cT T i o) (b1 : isT (T.drop i) [40] = true) (ho : o < 256) (b2 : isT (T.drop (i + 1)) [41] = true) :
    Calls Tryz.prog 93 #[.pointer (some ⟨rb, 0, none⟩), ovN rb] W (MP rb g N cT o T W (.ok [] (T.drop (i + 2)))) := by
  have HE := Lib.hid (show Calls Tryz.prog 107 #[.pointer (some ⟨rb, 0, none⟩), .string ⟨#[40]⟩] W fun e w' => e = .returned (.tuple #[]) ∧ Rd w' rb g N cT T (i + 1) (o + 1) ∧ Gr rb W w' from enter_yes h [40] (by decide) b1 ho)
  have HI := Lib.hid (fun w1 (h1 : Rd w1 rb g N cT T (i + 1) (o + 1)) => (show Calls Tryz.prog 58 #[.pointer (some ⟨rb, 0, none⟩), .string ⟨#[41]⟩] w1 fun e w' => e = .returned (.bool true) ∧ Below w1.heap.size w1 w' from is_any h1 [41] true b2))
  have HL := Lib.hid (fun w1 (h1 : Rd w1 rb g N cT T (i + 1) (o + 1)) => (show Calls Tryz.prog 108 #[.pointer (some ⟨rb, 0, none⟩), .string ⟨#[41]⟩] w1 fun e w' => e = .returned (.tuple #[]) ∧ Rd w' rb g N cT T (i + 1 + 1) o ∧ Gr rb w1 w' from leave_yes h1 [41] (by decide) b2))
  clear h b1 b2
  go_enter Tryz.func93, Tryz.ntmps93
  go_wp2_with (first
    | (go_at_call 107; ((with_reducible refine HE.out.mono ?_); rintro e w1 ⟨rfl, h1, g1⟩))
    | (go_at_call 58; ((with_reducible refine (HI.out _ h1).mono ?_); rintro e w2 ⟨rfl, e2⟩; have h2 := h1.below e2))
    | (go_at_call 108; ((with_reducible refine (HL.out _ h2).mono ?_); rintro e w3 ⟨rfl, h3, g3⟩)))
  go_ret
  exact ⟨⟨_, rfl, nx_nil _ _⟩, ⟨i + 1 + 1, h3, rfl⟩, g1.trans ((Gr.of e2).trans g3)⟩

set_option maxRecDepth 100000 in
theorem nv_first {W : World} {rb g N cT i o : Nat} {T : List Tok} (h : Rd W rb g N cT T i o) (b1 : isT (T.drop i) [40] = true) (ho : o < 256) (b2 : isT (T.drop (i + 1)) [41] = false) (p c : Nat)
    (hv : nameT (T.drop (i + 1)) = .bad p c) :
    Calls Tryz.prog 93 #[.pointer (some ⟨rb, 0, none⟩), ovN rb] W (MP rb g N cT o T W (.bad p c)) := by
  have HE := Lib.hid (show Calls Tryz.prog 107 #[.pointer (some ⟨rb, 0, none⟩), .string ⟨#[40]⟩] W fun e w' => e = .returned (.tuple #[]) ∧ Rd w' rb g N cT T (i + 1) (o + 1) ∧ Gr rb W w' from enter_yes h [40] (by decide) b1 ho)
  have HI := Lib.hid (fun w1 (h1 : Rd w1 rb g N cT T (i + 1) (o + 1)) => (show Calls Tryz.prog 58 #[.pointer (some ⟨rb, 0, none⟩), .string ⟨#[41]⟩] w1 fun e w' => e = .returned (.bool false) ∧ Below w1.heap.size w1 w' from is_any h1 [41] false b2))
  have HSS := Lib.hid (fun w1 (h1 : Rd w1 rb g N cT T (i + 1) (o + 1)) => (show Calls Tryz.prog 92 #[.pointer (some ⟨rb, 0, none⟩)] w1 (NP rb g N cT (o + 1) T w1 (.bad p c)) from hv ▸ nam_any h1))
  clear h b1 b2 hv
  go_enter Tryz.func93, Tryz.ntmps93
  go_wp2_with (first
    | (go_at_call 107; ((with_reducible refine HE.out.mono ?_); rintro e w1 ⟨rfl, h1, g1⟩))
    | (go_at_call 58; ((with_reducible refine (HI.out _ h1).mono ?_); rintro e w2 ⟨rfl, e2⟩; have h2 := h1.below e2))
    | (go_at_call 92; ((with_reducible refine (HSS.out _ h2).mono ?_); rintro e w3 ⟨rfl, g3⟩)))
  exact ⟨rfl, rfl, g1.trans ((Gr.of e2).trans g3)⟩

/-- At the head of each round: the names so far lie in a row of the call's own. -/
def NRel (rb g N cT o : Nat) (T : List Tok) (W : World) (y : PR (List ByteArray)) (v : Value) (wr : World) : Prop :=
  ∃ m l i, moreT nameT m l (T.drop i) = y ∧ Rd wr rb g N cT T i (o + 1) ∧ Gr rb W wr ∧ wr.ownsRow W.heap.size 9 1 v l.length (l.map Value.string) ∧ okN l ∧ l ≠ [] ∧ l.length ≤ 8
theorem strg_one (s : ByteArray) : ∀ u ∈ [Value.string s], u.oneCell' = true := by
  intro u hu
  simp only [List.mem_cons, List.not_mem_nil, or_false] at hu
  rw [hu]; rfl
theorem str_cells (w3 : World) (s : ByteArray) : ∀ j u, [Value.string s][j]? = some u → (w3.alloc (.cells #[.string s] 9)).cell? ((⟨w3.heap.size, 0, none⟩ : Addr).add j) = some u := by
  intro j u hu
  rw [show (⟨w3.heap.size, 0, none⟩ : Addr).add j = ⟨w3.heap.size, j, none⟩ by unfold Addr.add; split <;> simp_all, box_cell (heap_alloc_new w3 _)]
  simpa using hu
theorem okN_snoc {l : List ByteArray} {s : ByteArray} (h : okN l) (hs : s.size ≤ 9223372036854775807) : okN (l ++ [s]) := by
  intro x hx
  rcases List.mem_append.1 hx with h1 | h1
  · exact h x h1
  · rw [List.mem_singleton.1 h1]; exact hs

set_option maxRecDepth 100000 in
theorem nv_loop {W : World} {rb g N cT i o : Nat} {T : List Tok} (h : Rd W rb g N cT T i o) (b1 : isT (T.drop i) [40] = true) (ho : o < 256) (b2 : isT (T.drop (i + 1)) [41] = false) (v : ByteArray) (r : List Tok) (m : Nat) (y : PR (List ByteArray)) (hy : moreT nameT m [v] r = y) (hyo : y ≠ .out)
    (hv : nameT (T.drop (i + 1)) = .ok v r) :
    Calls Tryz.prog 93 #[.pointer (some ⟨rb, 0, none⟩), ovN rb] W (MP rb g N cT o T W y) := by
  have HE := Lib.hid (show Calls Tryz.prog 107 #[.pointer (some ⟨rb, 0, none⟩), .string ⟨#[40]⟩] W fun e w' => e = .returned (.tuple #[]) ∧ Rd w' rb g N cT T (i + 1) (o + 1) ∧ Gr rb W w' from enter_yes h [40] (by decide) b1 ho)
  have HI := Lib.hid (fun w1 (h1 : Rd w1 rb g N cT T (i + 1) (o + 1)) => (show Calls Tryz.prog 58 #[.pointer (some ⟨rb, 0, none⟩), .string ⟨#[41]⟩] w1 fun e w' => e = .returned (.bool false) ∧ Below w1.heap.size w1 w' from is_any h1 [41] false b2))
  have HSS := Lib.hid (fun w1 (h1 : Rd w1 rb g N cT T (i + 1) (o + 1)) => (show Calls Tryz.prog 92 #[.pointer (some ⟨rb, 0, none⟩)] w1 (NP rb g N cT (o + 1) T w1 (.ok v r)) from hv ▸ nam_any h1))
  have HY := Lib.hid hy
  have hrl := h.rlt
  have hgl := h.tok.1
  clear h b1 b2 hv hy
  obtain ⟨i0, hi, hz0, hz1, hz2⟩ := info_parts strInfo
  go_enter Tryz.func93, Tryz.ntmps93
  go_wp2_with (first
    | (go_at_call 107; ((with_reducible refine HE.out.mono ?_); rintro e w1 ⟨rfl, h1, g1⟩))
    | (go_at_call 58; ((with_reducible refine (HI.out _ h1).mono ?_); rintro e w2 ⟨rfl, e2⟩; have h2 := h1.below e2))
    | (go_at_call 92; ((with_reducible refine (HSS.out _ h2).mono ?_); rintro e w3 ⟨rfl, ⟨i3, h3, hd⟩, g3, hok⟩))
    | (at_builtin; refine step_append_at rfl (.tmp 11) (.tmp 14) 45 rfl W.heap.size 9 i0 _ 1 16 Tryz.underlying45 hi hz0 hz1 hz2 rfl (by decide) (.slice none 0 0) 0 [] rfl (World.ownsRow_nil _ _ _ _) ⟨w3.heap.size, 0, none⟩ 1 1 [Value.string v] rfl rfl (str_cells w3 v) (strg_one v) (by unfold maxLen; omega) (by omega) (by have := g1.size; have := e2.size; have := g3.size; simp; omega) ?_; intro v1 w4 hown1 hgrow1 _ hat1))
  obtain ⟨h4, g4⟩ := app_step (vv := .slice none 0 0) (g1.trans (Gr.of e2)) (fun k hk => by cases hk) g3 h3 hgrow1 hrl hgl
  have hstart : NRel rb g N cT o T W y v1 w4 := ⟨m, [v], i3, by rw [hd]; exact HY.out, h4, g4, hown1, fun x hx => by rw [List.mem_singleton.1 hx]; exact hok, by simp, by simp⟩
  clear h4 g4 hat1 hgrow1 hown1 hok hd h3 g3 e2 h2 h1 g1 HSS HE HI HY
  go_loopw [5] (fun s wr => NRel rb g N cT o T W y s wr) (fun _ wr => posR rb N wr)
  case atStart => exact hstart
  case round =>
    clear hstart
    obtain ⟨m, l, i, hy, hR, hG, hown, hx, hne, hl8⟩ := hrel
    cases m with
    | zero => exact absurd hy.symm hyo
    | succ m =>
      rw [moreT] at hy
      obtain ⟨n, hn⟩ : ∃ n, l.length = n := ⟨_, rfl⟩
      rw [hn] at hown hl8 hy
      obtain ⟨g', cap', rfl⟩ : ∃ g' cap', u5 = .slice (some ⟨g', 0, none⟩) n cap' := by
        rcases hown.2 with ⟨_, h0⟩ | ⟨g', cap', cur, e, _⟩
        · exact absurd (List.eq_nil_of_length_eq_zero (hn.trans h0)) hne
        · exact ⟨g', cap', e⟩
      have hg' := hown.lt g' rfl
      have HR := Lib.hid hR
      cases b : isT (T.drop i) [44] with
      | false =>
        have HT := Lib.hid (show Calls Tryz.prog 106 #[.pointer (some ⟨rb, 0, none⟩), .string ⟨#[44]⟩] wr fun e w' => e = .returned (.bool false) ∧ Below wr.heap.size wr w' from take_no hR [44] b)
        rw [b, if_neg (by decide), wantT] at hy
        by_cases c : isT (T.drop i) [41] = true
        · rw [if_pos c] at hy
          have HL := Lib.hid (fun w1 (h1 : Rd w1 rb g N cT T i (o + 1)) => (show Calls Tryz.prog 108 #[.pointer (some ⟨rb, 0, none⟩), .string ⟨#[41]⟩] w1 fun e w' => e = .returned (.tuple #[]) ∧ Rd w' rb g N cT T (i + 1) o ∧ Gr rb w1 w' from leave_yes h1 [41] (by decide) c))
          clear hR
          go_wp2_with (first
            | (go_at_call 106; ((with_reducible refine HT.out.mono ?_); rintro e' w5 ⟨rfl, e5⟩; have h5 := HR.out.below e5))
            | (go_at_call 108; ((with_reducible refine (HL.out _ h5).mono ?_); rintro e' w6 ⟨rfl, h6, g6⟩)))
          go_ret
          have g7 := (Gr.of e5).trans g6
          rw [← hy]
          refine ⟨⟨_, rfl, row_nx (hown.kept g7 (.inr (by simp only [Value.ownBlock, ne_eq, Option.some.injEq]; omega))) (Nat.le_refl _) hx hn.symm⟩, ⟨i + 1, h6, (drop_tail T i).symm⟩, hG.trans g7⟩
        · rw [if_neg c] at hy
          have HL := Lib.hid (fun w1 (h1 : Rd w1 rb g N cT T i (o + 1)) => (show Calls Tryz.prog 108 #[.pointer (some ⟨rb, 0, none⟩), .string ⟨#[41]⟩] w1 fun e w' => e = flt (hdT (T.drop i)).at_ 2 ∧ Below w1.heap.size w1 w' from leave_no h1 [41] (by simpa using c) _ rfl))
          clear hR
          go_wp2_with (first
            | (go_at_call 106; ((with_reducible refine HT.out.mono ?_); rintro e' w5 ⟨rfl, e5⟩; have h5 := HR.out.below e5))
            | (go_at_call 108; ((with_reducible refine (HL.out _ h5).mono ?_); rintro e' w6 ⟨rfl, e6⟩)))
          rw [← hy]
          exact ⟨rfl, rfl, hG.trans ((Gr.of e5).trans (Gr.of e6))⟩
      | true =>
        have HT := Lib.hid (show Calls Tryz.prog 106 #[.pointer (some ⟨rb, 0, none⟩), .string ⟨#[44]⟩] wr fun e w' => e = .returned (.bool true) ∧ Rd w' rb g N cT T (i + 1) (o + 1) ∧ Gr rb wr w' from take_yes hR [44] (by decide) b)
        rw [b, if_pos rfl, drop_tail] at hy
        clear hR
        by_cases h8 : n = 8
        · subst h8
          rw [if_pos rfl] at hy
          have HF := Lib.hid (fun w1 (h1 : Rd w1 rb g N cT T (i + 1) (o + 1)) => fail_any h1 10 _ 10 rfl rfl)
          go_wp2_with (first
            | (go_at_call 106; ((with_reducible refine HT.out.mono ?_); rintro e' w5 ⟨rfl, h5, g5⟩))
            | (go_at_call 59; ((with_reducible refine (HF.out _ h5).mono ?_); rintro e' w6 ⟨rfl, e6⟩)))
          rw [← hy]
          exact ⟨rfl, rfl, hG.trans (g5.trans (Gr.of e6))⟩
        · rw [if_neg h8] at hy
          have d8 : decide ((n : Int) = 8) = false := decide_eq_false (by omega)
          cases hxv : nameT (T.drop (i + 1)) with
          | out => exact absurd hxv (nam_ne _)
          | bad p c =>
            rw [hxv] at hy
            have HX := Lib.hid (fun w1 (h1 : Rd w1 rb g N cT T (i + 1) (o + 1)) => (show Calls Tryz.prog 92 #[.pointer (some ⟨rb, 0, none⟩)] w1 (NP rb g N cT (o + 1) T w1 (.bad p c)) from hxv ▸ nam_any h1))
            go_wp2_with (first
              | (go_at_call 106; ((with_reducible refine HT.out.mono ?_); rintro e' w5 ⟨rfl, h5, g5⟩))
              | (go_at_call 92; ((with_reducible refine (HX.out _ h5).mono ?_); rintro e' w6 ⟨rfl, g6⟩)))
            rw [← hy]
            exact ⟨rfl, rfl, hG.trans (g5.trans g6)⟩
          | ok v2 r2 =>
            rw [hxv] at hy
            have HX := Lib.hid (fun w1 (h1 : Rd w1 rb g N cT T (i + 1) (o + 1)) => (show Calls Tryz.prog 92 #[.pointer (some ⟨rb, 0, none⟩)] w1 (NP rb g N cT (o + 1) T w1 (.ok v2 r2)) from hxv ▸ nam_any h1))
            go_wp2_with (first
              | (go_at_call 106; ((with_reducible refine HT.out.mono ?_); rintro e' w5 ⟨rfl, h5, g5⟩))
              | (go_at_call 92; ((with_reducible refine (HX.out _ h5).mono ?_); rintro e' w6 ⟨rfl, ⟨i6, h6, hd⟩, g6, hok⟩))
              | (at_builtin; refine step_append_at rfl (.tmp 23) (.tmp 26) 45 rfl W.heap.size 9 i0 _ 1 16 Tryz.underlying45 hi hz0 hz1 hz2 rfl (by decide) (.slice (some ⟨g', 0, none⟩) n cap') n (l.map Value.string) rfl ((hown.kept (g5.trans g6) (.inr (by simp only [Value.ownBlock, ne_eq, Option.some.injEq]; omega))).alloc _) ⟨w6.heap.size, 0, none⟩ 1 1 [Value.string v2] rfl rfl (str_cells w6 v2) (strg_one v2) (by unfold maxLen; omega) (by omega) (by have := hG.size; have := g5.size; have := g6.size; simp; omega) ?_; intro v7 w7 hown7 hgrow7 _ hat7))
            obtain ⟨h7, g7⟩ := app_step (hG.trans g5) (fun k hk => (hown.lt k hk).1) g6 h6 hgrow7 hrl hgl
            refine ⟨⟨m, l ++ [v2], i6, by rw [hd]; exact hy, h7, g7, by rw [List.length_append, hn, List.map_append]; exact hown7, okN_snoc hx hok, by simp, by rw [List.length_append, hn]; show n + 1 ≤ 8; omega⟩, ?_⟩
            rw [posR_eq h7, posR_eq HR.out]
            have hl2 := h6.lt
            have hl1 := h6.len
            have hlen2 := nam_left hxv
            rw [← hd, List.length_drop, List.length_drop] at hlen2
            have hl3 : i < i6 := by omega
            exact Nat.sub_lt_sub_left (Nat.lt_trans hl3 hl2) hl3

/-- A list of names, whole. -/
theorem names_any {W : World} {rb g N cT i o : Nat} {T : List Tok} (h : Rd W rb g N cT T i o) (m : Nat) (hx : severalT nameT m o (T.drop i) ≠ .out) :
    Calls Tryz.prog 93 #[.pointer (some ⟨rb, 0, none⟩), ovN rb] W (MP rb g N cT o T W (severalT nameT m o (T.drop i))) := by
  cases b1 : isT (T.drop i) [40] with
  | false =>
    have e : severalT nameT m o (T.drop i) = .bad (hdT (T.drop i)).at_ 2 := by simp [severalT, enterT, b1, PR.bind]
    rw [e]
    exact nv_no h b1
  | true =>
    by_cases ho : o = 256
    · subst ho
      have e : severalT nameT m 256 (T.drop i) = .bad (hdT (T.drop i)).at_ 3 := by simp [severalT, enterT, b1, PR.bind]
      rw [e]
      exact nv_deep h b1
    · have ho' : o < 256 := by have := h.small; omega
      have e : severalT nameT m o (T.drop i) = if isT (T.drop (i + 1)) [41] then .ok [] (T.drop (i + 2)) else (nameT (T.drop (i + 1))).bind fun x r => moreT nameT m [x] r := by
        by_cases b2 : isT (T.drop (i + 1)) [41] = true <;> simp [severalT, enterT, wantT, b1, ho, b2, PR.bind]
      rw [e] at hx ⊢
      cases b2 : isT (T.drop (i + 1)) [41] with
      | true => exact nv_none h b1 ho' b2
      | false =>
        rw [b2, if_neg (by decide)] at hx
        rw [if_neg (by decide)]
        cases hxv : nameT (T.drop (i + 1)) with
        | out => exact absurd hxv (nam_ne _)
        | bad p c => exact nv_first h b1 ho' b2 p c hxv
        | ok v r =>
          rw [hxv] at hx
          exact nv_loop h b1 ho' b2 v r m _ rfl hx hxv

end Go.Proofs.YtppagjhmlgkamaaGreatDoor

