/-
  Package parse: Parse, whole: what it tells as a function on bytes.
-/
import Derived.Test.YtaajolemjgdfnaaDoorPbN
import Derived.Test.YtaajolemjgdfnaaDoorLexPl
import Derived.Test.YtaajolemjgdfnaaDoorInv
namespace Go.Proofs.YtaajolemjgdfnaaDoor
open Go Go.RowKit Go.Lib

/-- What Parse tells of bytes. -/
def tl (l : List UInt8) : PR Pg :=
  match lexS 0 l with
  | .bad p => .bad p 2
  | .ok ts => progT (ts.length + 2) (fin ts l.length)
theorem tl_ne (l : List UInt8) : tl l ≠ .out := by
  unfold tl
  split
  · exact fun e => by cases e
  · exact prog_fn _ _ (by simp [fin])
theorem lex_few : ∀ (f p : Nat) (l : List UInt8) (ts : List Tok), l.length ≤ f → lexS p l = .ok ts → ts.length ≤ l.length ∧ ∀ t ∈ ts, t.kind < 4
  | f, p, [], ts, _, h => by rw [lexS_nil] at h; injection h with h; subst h; exact ⟨Nat.le_refl _, fun t ht => by cases ht⟩
  | 0, p, c :: r, ts, hf, _ => by simp at hf
  | f + 1, p, c :: r, ts, hf, h => by
    simp only [List.length_cons] at hf ⊢
    rcases ok_ways h with ⟨_, h2⟩ | ⟨h1, h2⟩ | ⟨h1, h2, h3, h4, ts', h5, rfl⟩
    · have := lex_few f _ r ts (by omega) h2
      exact ⟨by omega, this.2⟩
    · have hm1 : 1 ≤ commL (c :: r) := by rw [commL_cons, if_neg (by rw [h1]; decide)]; omega
      have hd : ((c :: r).drop (commL (c :: r))).length = r.length + 1 - commL (c :: r) := by simp
      have := lex_few f _ _ ts (by rw [hd]; omega) h2
      rw [hd] at this
      exact ⟨by omega, this.2⟩
    · have hn1 := firstN_pos (c := c) (l := r) (fun e => h3 (.inl e))
      have hd : ((c :: r).drop (firstN (c :: r))).length = r.length + 1 - firstN (c :: r) := by simp
      have hn2 : firstN (c :: r) ≤ (c :: r).length := firstN_le
      simp only [List.length_cons] at hn2
      have := lex_few f _ _ ts' (by rw [hd]; omega) h5
      rw [hd] at this
      refine ⟨by simp only [List.length_cons]; omega, fun t ht => ?_⟩
      rcases List.mem_cons.1 ht with rfl | ht
      · show firstK (c :: r) < 4
        unfold firstK
        simp only
        repeat' split
        all_goals omega
      · exact this.2 t ht
theorem placed_all {b : List UInt8} : ∀ {p : Nat} {T : List Tok}, Placed b p T → ∀ t ∈ T, t.at_ + t.text.length ≤ b.length
  | _, [], _, t, ht => by cases ht
  | _, s :: r, ⟨h, hr⟩, t, ht => by
    rcases List.mem_cons.1 ht with rfl | ht
    · exact h.2.1
    · exact placed_all hr t ht
theorem tok_ok {l : List UInt8} {ts : List Tok} (h : lexS 0 l = .ok ts) (hl : l.length ≤ 65536) : TokOk (fin ts l.length) := by
  have h1 := lex_few _ 0 l ts (Nat.le_refl _) h
  have h2 := placed_all (placed_of h)
  refine ⟨by rw [fin_length]; omega, fun i t ht => ?_, ⟨ts, l.length, rfl, fun t ht => Nat.ne_of_lt (h1.2 t ht)⟩⟩
  have hm := List.mem_of_getElem? ht
  have := h2 t hm
  refine ⟨by omega, by omega, ?_⟩
  rcases List.mem_append.1 hm with hm | hm
  · exact Nat.le_of_lt (h1.2 t hm)
  · rw [List.mem_singleton.1 hm]; exact Nat.le_refl _

/-- What Parse has done. -/
def ParseOut (l : List UInt8) (W : World) (e : Ending) (W' : World) : Prop :=
  Below W.heap.size W W' ∧ match tl l with
  | .ok q _ => ∃ v, e = .returned (.tuple #[v, .int .i64 0, .int .i64 0]) ∧ GV W.heap.size W' v q
  | .bad p c => e = .returned (.tuple #[.agg #[.slice none 0 0, .slice none 0 0], .int .i64 p, .int .i64 c])
  | .out => False

abbrev P2 : Obj := .cells #[.slice none 0 0, .slice none 0 0] 25
abbrev P1 : Obj := .cells #[.int .i64 0] 3
abbrev P0 : Obj := .cells #[.int .i64 0] 28

theorem Row.al {W : World} {A : Option Addr} {l : List UInt8} (h : Row W A l) (a b c : Obj) : Row (((W.alloc a).alloc b).alloc c) A l := by
  intro h0
  obtain ⟨g, o, e, hl, hc⟩ := h h0
  refine ⟨g, o, e, by simp; omega, fun i hi => ?_⟩
  rw [World.cell?_alloc_lt _ _ _ (by simp; omega), World.cell?_alloc_lt _ _ _ (by simp; omega), World.cell?_alloc_lt _ _ _ hl]
  exact hc i hi
theorem three_size (W : World) : (((W.alloc P2).alloc P1).alloc P0).heap.size = W.heap.size + 3 := by simp
theorem three_below (W : World) : Below W.heap.size W (((W.alloc P2).alloc P1).alloc P0) := (((Below.refl _ _).alloc (Nat.le_refl _) _).alloc (by simp) _).alloc (by simp; omega) _
theorem three0 (W : World) : (((W.alloc P2).alloc P1).alloc P0).heap[W.heap.size]? = some P2 :=
  (Below.heap_alloc _ _ _ (by simp; omega)).trans ((Below.heap_alloc _ _ _ (by simp)).trans (heap_alloc_new W P2))
theorem three1 (W : World) : (((W.alloc P2).alloc P1).alloc P0).heap[W.heap.size + 1]? = some P1 :=
  (Below.heap_alloc _ _ _ (by simp)).trans (by have := heap_alloc_new (W.alloc P2) P1; rw [World.size_alloc] at this; exact this)
theorem three2 (W : World) : (((W.alloc P2).alloc P1).alloc P0).heap[W.heap.size + 1 + 1]? = some P0 := by
  have := heap_alloc_new ((W.alloc P2).alloc P1) P0
  rw [World.size_alloc, World.size_alloc] at this
  exact this

/-- The two cells that are told stay. -/
def Tw (b : Nat) (x y : Int) (w : World) : Prop := w.cell? ⟨b + 1, 0, none⟩ = some (.int .i64 x) ∧ w.cell? ⟨b + 1 + 1, 0, none⟩ = some (.int .i64 y)
theorem tw0 {b : Nat} {x y : Int} {w : World} {u v : Value} (h : Tw b x y w) : Tw b x y ((w.setCell ⟨b, 0, none⟩ u).setCell ⟨b, 1, none⟩ v) :=
  ⟨(World.cell?_setCell_far _ _ _ _ (by simp)).trans ((World.cell?_setCell_far _ _ _ _ (by simp)).trans h.1), (World.cell?_setCell_far _ _ _ _ (by simp; omega)).trans ((World.cell?_setCell_far _ _ _ _ (by simp; omega)).trans h.2)⟩
theorem tw1 {b : Nat} {x y : Int} {w : World} (h : Tw b x y w) : Tw b x y (w.setCell ⟨b + 1, 0, none⟩ (.int .i64 x)) :=
  ⟨World.cell?_setCell_same _ _ _ h.1, (World.cell?_setCell_far _ _ _ _ (by simp)).trans h.2⟩
theorem tw2 {b : Nat} {x y : Int} {w : World} (h : Tw b x y w) : Tw b x y (w.setCell ⟨b + 1 + 1, 0, none⟩ (.int .i64 y)) :=
  ⟨(World.cell?_setCell_far _ _ _ _ (by simp)).trans h.1, World.cell?_setCell_same _ _ _ h.2⟩

/-- Which operations have come up. -/
def lq (a : Array Bool) (j : Nat) : Bool := a.getD j false
theorem lq_false {a : Array Bool} {j : Nat} (h : a.getD j true = false) : j < a.size := by
  rcases Nat.lt_or_ge j a.size with hl | hl
  · exact hl
  · rw [Array.getD_eq_getD_getElem?, Array.getElem?_eq_none hl] at h
    simp at h
theorem lq_set {a : Array Bool} {i j : Nat} (_ : i < a.size) (h : lq (a.setIfInBounds i true) j = true) : j = i ∨ lq a j = true := by
  by_cases e : i = j
  · exact .inl e.symm
  · refine .inr ?_
    unfold lq at h ⊢
    rw [Array.getD_eq_getD_getElem?, Array.getElem?_setIfInBounds_ne e] at h
    rw [Array.getD_eq_getD_getElem?]
    exact h
/-- The three that are told, and what is as it was. -/
structure Tell3 (b : Nat) (x y : Int) (W w : World) : Prop where
  tw : Tw b x y w
  a0 : w.cell? ⟨b, 0, none⟩ = some (.slice none 0 0)
  a1 : w.cell? ⟨b, 1, none⟩ = some (.slice none 0 0)
  f : ∀ k j, b ≤ k → k ≤ b + 2 → w.frozen? ⟨k, j, none⟩ = false
  bel : Below W.heap.size W w
theorem Tell3.s0 {b : Nat} {x y : Int} {W w : World} (h : Tell3 b x y W w) (hW : W.heap.size ≤ b) : Tell3 b x y W ((w.setCell ⟨b, 0, none⟩ (.slice none 0 0)).setCell ⟨b, 1, none⟩ (.slice none 0 0)) :=
  ⟨tw0 h.tw, (World.cell?_setCell_other _ _ _ _ (by simp)).trans (World.cell?_setCell_same _ _ _ h.a0), World.cell?_setCell_same _ _ _ ((World.cell?_setCell_other _ _ _ _ (by simp)).trans h.a1), fun k j h1 h2 => (World.frozen?_setCell _ _ _ _).trans ((World.frozen?_setCell _ _ _ _).trans (h.f k j h1 h2)), (h.bel.setCell (p := ⟨b, 0, none⟩) hW _).setCell (p := ⟨b, 1, none⟩) hW _⟩
theorem Tell3.s1 {b : Nat} {x y : Int} {W w : World} (h : Tell3 b x y W w) (hW : W.heap.size ≤ b) : Tell3 b x y W (w.setCell ⟨b + 1, 0, none⟩ (.int .i64 x)) :=
  ⟨tw1 h.tw, (World.cell?_setCell_far _ _ _ _ (by simp)).trans h.a0, (World.cell?_setCell_far _ _ _ _ (by simp)).trans h.a1, fun k j h1 h2 => (World.frozen?_setCell _ _ _ _).trans (h.f k j h1 h2), h.bel.setCell (p := ⟨b + 1, 0, none⟩) (by simp; omega) _⟩
theorem Tell3.s2 {b : Nat} {x y : Int} {W w : World} (h : Tell3 b x y W w) (hW : W.heap.size ≤ b) : Tell3 b x y W (w.setCell ⟨b + 1 + 1, 0, none⟩ (.int .i64 y)) :=
  ⟨tw2 h.tw, (World.cell?_setCell_far _ _ _ _ (by simp; omega)).trans h.a0, (World.cell?_setCell_far _ _ _ _ (by simp; omega)).trans h.a1, fun k j h1 h2 => (World.frozen?_setCell _ _ _ _).trans (h.f k j h1 h2), h.bel.setCell (p := ⟨b + 1 + 1, 0, none⟩) (by simp; omega) _⟩

set_option maxRecDepth 100000 in
theorem parse_err (A : Option Addr) (n cap p c : Nat) (W : World) (hc : c ≠ 0)
    (HL : Calls Tryd.prog 39 #[.slice A n cap] (((W.alloc P2).alloc P1).alloc P0) fun e w' => e = .returned (.tuple #[.slice none 0 0, .int .i64 p, .int .i64 c]) ∧ Below (((W.alloc P2).alloc P1).alloc P0).heap.size (((W.alloc P2).alloc P1).alloc P0) w') :
    Calls Tryd.prog 25 #[.slice A n cap] W fun e W' => Below W.heap.size W W' ∧ e = .returned (.tuple #[.agg #[.slice none 0 0, .slice none 0 0], .int .i64 p, .int .i64 c]) := by
  have hmf : ∀ (fn : Go.Fn) (first cap : Array Value) (w : World), (Instr.makeFunc fn first cap).run Tryd.prog w = .ok (.func fn first cap) w := fun _ _ _ _ => rfl
  have k1 : ((c : Int) == 0) = false := by rw [beq_eq_false_iff_ne]; omega
  have k2 : ((c : Int) != 0) = true := by rw [bne, k1]; rfl
  go_enter_defers Tryd.func25, Tryd.ntmps25
  go_upto_region 1 with fail
  have B0 := three0 W
  have B1 := three1 W
  have B2 := three2 W
  have g0 := three_below W
  have z0 := three_size W
  have HL := Lib.hid HL
  obtain ⟨w0, hw0⟩ : ∃ w0, ((W.alloc P2).alloc P1).alloc P0 = w0 := ⟨_, rfl⟩
  rw [hw0] at HL B0 B1 B2 g0 z0 ⊢
  clear hw0
  obtain ⟨b0, hb0⟩ : ∃ b0, W.heap.size = b0 := ⟨_, rfl⟩
  rw [hb0] at B0 B1 B2 g0 z0 ⊢
  have HB0 := Lib.hid (fun w1 (e1 : Below w0.heap.size w0 w1) => (e1.block b0 (by omega)).trans B0)
  have HB1 := Lib.hid (fun w1 (e1 : Below w0.heap.size w0 w1) => (e1.block (b0 + 1) (by omega)).trans B1)
  have HB2 := Lib.hid (fun w1 (e1 : Below w0.heap.size w0 w1) => (e1.block (b0 + 1 + 1) (by omega)).trans B2)
  go_upto_region 2 with (go_at_call 39; ((with_reducible refine HL.out.mono ?_); rintro e1 w1 ⟨rfl, e1⟩; have c1 := box_cell (HB1.out w1 e1) 0; have f1 := box_frozen (HB1.out w1 e1) 0; have c2 := box_cell (HB2.out w1 e1) 0; have f2 := box_frozen (HB2.out w1 e1) 0; have c2' := (World.cell?_setCell_far w1 ⟨b0 + 1, 0, none⟩ ⟨b0 + 1 + 1, 0, none⟩ (.int .i64 p) (by simp)).trans c2; simp at c1 c2 c2'))
  have g1 : Below b0 W ((w1.setCell ⟨b0 + 1, 0, none⟩ (.int .i64 p)).setCell ⟨b0 + 1 + 1, 0, none⟩ (.int .i64 c)) := ((g0.trans (e1.mono (by omega))).setCell (p := ⟨b0 + 1, 0, none⟩) (by simp) _).setCell (p := ⟨b0 + 1 + 1, 0, none⟩) (by simp; omega) _
  have t2 : Tw b0 p c ((w1.setCell ⟨b0 + 1, 0, none⟩ (.int .i64 p)).setCell ⟨b0 + 1 + 1, 0, none⟩ (.int .i64 c)) :=
    ⟨(World.cell?_setCell_far _ _ _ _ (by simp)).trans (World.cell?_setCell_same _ _ _ c1), World.cell?_setCell_same _ _ _ c2'⟩
  have B3 : ((w1.setCell ⟨b0 + 1, 0, none⟩ (.int .i64 p)).setCell ⟨b0 + 1 + 1, 0, none⟩ (.int .i64 c)).heap[b0]? = some P2 := (Below.heap_setCell _ _ _ _ (by simp; omega)).trans ((Below.heap_setCell _ _ _ _ (by simp)).trans (HB0.out w1 e1))
  have F1 : ∀ j, ((w1.setCell ⟨b0 + 1, 0, none⟩ (.int .i64 p)).setCell ⟨b0 + 1 + 1, 0, none⟩ (.int .i64 c)).frozen? ⟨b0 + 1, j, none⟩ = false := fun j => (World.frozen?_setCell _ _ _ _).trans ((World.frozen?_setCell _ _ _ _).trans (box_frozen (HB1.out w1 e1) j))
  have F2 : ∀ j, ((w1.setCell ⟨b0 + 1, 0, none⟩ (.int .i64 p)).setCell ⟨b0 + 1 + 1, 0, none⟩ (.int .i64 c)).frozen? ⟨b0 + 1 + 1, j, none⟩ = false := fun j => (World.frozen?_setCell _ _ _ _).trans ((World.frozen?_setCell _ _ _ _).trans (box_frozen (HB2.out w1 e1) j))
  obtain ⟨w2, hw2⟩ : ∃ w2, (w1.setCell ⟨b0 + 1, 0, none⟩ (.int .i64 p)).setCell ⟨b0 + 1 + 1, 0, none⟩ (.int .i64 c) = w2 := ⟨_, rfl⟩
  rw [hw2] at g1 t2 B3 F1 F2 ⊢
  clear hw2 c1 c2 c2' f1 f2 HB0 HB1 HB2 e1 B0 B1 B2 g0
  have q1 := t2.1
  have q2 := t2.2
  go_upto_region 3 with fail
  have a0 := box_cell B3 0
  have a1 := box_cell B3 1
  simp only [List.getElem?_toArray, List.getElem?_cons_succ, List.getElem?_cons_zero] at a0 a1
  have hT : Tell3 b0 p c W w2.drew := ⟨t2, a0, a1, fun k j h1 h2 => by
    rcases (show k = b0 ∨ k = b0 + 1 ∨ k = b0 + 1 + 1 by omega) with rfl | rfl | rfl
    · exact box_frozen B3 j
    · exact F1 j
    · exact F2 j, by rw [hb0]; exact Below.trans g1 ⟨rfl, rfl, rfl, Nat.le_refl _, fun _ _ => rfl⟩⟩
  have hW0 : W.heap.size ≤ b0 := by omega
  clear hmf HL k1 k2 a0 a1 q1 q2 t2 B3 F1 F2 g1
  refine wp_region_inv (fun up a w' => ∃ s15 s16 s17 : Value, a = { tmps := #[.slice A n cap, undef, .pointer (some ⟨b0, 0, none⟩), .pointer (some ⟨b0 + 1, 0, none⟩), .pointer (some ⟨b0 + 1 + 1, 0, none⟩), .slice none 0 0, undef, .tuple #[.slice none 0 0, .int .i64 p, .int .i64 c], .slice A n cap, .tuple #[.slice none 0 0, .int .i64 p, .int .i64 c], .slice none 0 0, .int .i64 p, .int .i64 c, .int .i64 c, .bool true, s15, s16, s17, undef, undef, undef, undef], defers := [] } ∧ (lq up 0 = true → s15 = .agg #[.slice none 0 0, .slice none 0 0]) ∧ (lq up 1 = true → s16 = .int .i64 p) ∧ (lq up 2 = true → s17 = .int .i64 c) ∧ Tell3 b0 p c W w') (by kernel_rfl) ?start ?step ?done
  case start => exact ⟨_, _, _, rfl, fun e => by simp [lq] at e, fun e => by simp [lq] at e, fun e => by simp [lq] at e, hT⟩
  case step =>
    intro up a w' hs hI i o ho hli hd K hK
    obtain ⟨s15, s16, s17, rfl, h15, h16, h17, hT⟩ := hI
    have hl := lq_false hli
    have hi6 : i < 6 := by have := (Array.getElem?_eq_some_iff.1 ho).1; simpa using this
    have hcase : i = 0 ∨ i = 1 ∨ i = 2 ∨ i = 3 ∨ i = 4 ∨ i = 5 := by omega
    have q1 := hT.tw.1
    have q2 := hT.tw.2
    have a0 := hT.a0
    have a1 := hT.a1
    have f0 := hT.f b0 0 (Nat.le_refl _) (by omega)
    have f1 := hT.f b0 1 (Nat.le_refl _) (by omega)
    have f2 := hT.f (b0 + 1) 0 (by omega) (by omega)
    have f3 := hT.f (b0 + 1 + 1) 0 (by omega) (by omega)
    clear hi6 hli
    rcases hcase with rfl | rfl | rfl | rfl | rfl | rfl
    all_goals
      simp only [List.getElem?_toArray, List.getElem?_cons_zero, List.getElem?_cons_succ, Option.some.injEq] at ho
      subst ho
      simp only [Region.binds, Bool.not_true, Bool.false_or, List.all_toArray, List.all_cons, List.all_nil, Bool.and_true, Bool.and_eq_true] at hd
    · go_simp
      exact hK.out _ _ ⟨_, _, _, rfl, fun _ => rfl, fun e => (lq_set hl e).elim (fun e => absurd e (by decide)) h16, fun e => (lq_set hl e).elim (fun e => absurd e (by decide)) h17, hT⟩
    · go_simp
      exact hK.out _ _ ⟨_, _, _, rfl, fun e => (lq_set hl e).elim (fun e => absurd e (by decide)) h15, fun _ => rfl, fun e => (lq_set hl e).elim (fun e => absurd e (by decide)) h17, hT⟩
    · go_simp
      exact hK.out _ _ ⟨_, _, _, rfl, fun e => (lq_set hl e).elim (fun e => absurd e (by decide)) h15, fun e => (lq_set hl e).elim (fun e => absurd e (by decide)) h16, fun _ => rfl, hT⟩
    · obtain rfl := h15 hd.1
      go_simp
      exact hK.out _ _ ⟨_, _, _, rfl, fun e => (lq_set hl e).elim (fun e => absurd e (by decide)) h15, fun e => (lq_set hl e).elim (fun e => absurd e (by decide)) h16, fun e => (lq_set hl e).elim (fun e => absurd e (by decide)) h17, hT.s0 hW0⟩
    · obtain rfl := h16 hd.1
      go_simp
      exact hK.out _ _ ⟨_, _, _, rfl, fun e => (lq_set hl e).elim (fun e => absurd e (by decide)) h15, fun e => (lq_set hl e).elim (fun e => absurd e (by decide)) h16, fun e => (lq_set hl e).elim (fun e => absurd e (by decide)) h17, hT.s1 hW0⟩
    · obtain rfl := h17 hd.1
      go_simp
      exact hK.out _ _ ⟨_, _, _, rfl, fun e => (lq_set hl e).elim (fun e => absurd e (by decide)) h15, fun e => (lq_set hl e).elim (fun e => absurd e (by decide)) h16, fun e => (lq_set hl e).elim (fun e => absurd e (by decide)) h17, hT.s2 hW0⟩
  case done =>
    intro up a w' hs hI hr
    obtain ⟨s15, s16, s17, rfl, h15, h16, h17, hT⟩ := hI
    have q1 := hT.tw.1
    have q2 := hT.tw.2
    have a0 := hT.a0
    have a1 := hT.a1
    go_wp2
    exact ⟨.tuple #[.agg #[.slice none 0 0, .slice none 0 0], .int .i64 p, .int .i64 c], by simp [results, Tryd.results25, go_sem, q1, q2, a0, a1], hT.bel, rfl⟩
end Go.Proofs.YtaajolemjgdfnaaDoor
