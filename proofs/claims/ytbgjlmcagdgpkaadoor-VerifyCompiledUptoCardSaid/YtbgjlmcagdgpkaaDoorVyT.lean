/-
  runs.
-/
import Derived.Test.YtbgjlmcagdgpkaaDoorVyS
import Derived.Carry
import Derived.Conc.SmallLaws
namespace Go.Proofs.YtbgjlmcagdgpkaaDoor
open Go Go.RowKit Go.Lib Go.Conc

theorem wp_cut {P : Program} {c : Code} {Q : Exit → Act → World → Prop} {a : Act} {w : World} (R : Act → World → Prop) (h1 : c.wp P (fun e a w => e = .normal ∧ R a w) a w) (h2 : ∀ a w, R a w → Q .normal a w) : c.wp P Q a w :=
  wp_mono h1 (by rintro e a w ⟨rfl, h⟩; exact h2 _ _ h)
theorem heap_set8 {W : World} {b c o : Nat} {u : Value} (h : b ≠ c) : (W.setCell ⟨b, o, none⟩ u).heap[c]? = W.heap[c]? := Below.heap_setCell _ _ _ _ (Ne.symm h)
def set8 (W : World) (b : Nat) (x0 x1 x2 x3 x4 x5 x6 x7 : Value) : World := (((((((W.setCell ⟨b, 0, none⟩ x0).setCell ⟨b, 1, none⟩ x1).setCell ⟨b, 2, none⟩ x2).setCell ⟨b, 3, none⟩ x3).setCell ⟨b, 4, none⟩ x4).setCell ⟨b, 5, none⟩ x5).setCell ⟨b, 6, none⟩ x6).setCell ⟨b, 7, none⟩ x7
theorem set8_same {W : World} {b : Nat} {c0 c1 c2 c3 c4 c5 c6 c7 : Value} {T : TypeId} (x0 x1 x2 x3 x4 x5 x6 x7 : Value) (h : W.heap[b]? = some (.cells #[c0, c1, c2, c3, c4, c5, c6, c7] T)) : (set8 W b x0 x1 x2 x3 x4 x5 x6 x7).heap[b]? = some (.cells #[x0, x1, x2, x3, x4, x5, x6, x7] T) := by
  have h0 := (blk_set h 0 x0).trans rfl
  have h1 := (blk_set h0 1 x1).trans rfl
  have h2 := (blk_set h1 2 x2).trans rfl
  have h3 := (blk_set h2 3 x3).trans rfl
  have h4 := (blk_set h3 4 x4).trans rfl
  have h5 := (blk_set h4 5 x5).trans rfl
  have h6 := (blk_set h5 6 x6).trans rfl
  have h7 := (blk_set h6 7 x7).trans rfl
  unfold set8
  rw [h7]
  simp
theorem set8_other {W : World} {b c : Nat} (x0 x1 x2 x3 x4 x5 x6 x7 : Value) (h : b ≠ c) : (set8 W b x0 x1 x2 x3 x4 x5 x6 x7).heap[c]? = W.heap[c]? := by
  unfold set8
  rw [heap_set8 h, heap_set8 h, heap_set8 h, heap_set8 h, heap_set8 h, heap_set8 h, heap_set8 h, heap_set8 h]
theorem set8_below {B : Nat} {w0 W : World} {b : Nat} (x0 x1 x2 x3 x4 x5 x6 x7 : Value) (h : Below B w0 W) (hb : B ≤ b) : Below B w0 (set8 W b x0 x1 x2 x3 x4 x5 x6 x7) := by
  unfold set8
  exact (((((((h.setCell hb _).setCell hb _).setCell hb _).setCell hb _).setCell hb _).setCell hb _).setCell hb _).setCell hb _
theorem bytesI : ∃ i, Tryd.prog.info? 3 = some i ∧ i.bytes = 8 := by
  have h : (Tryd.prog.info? 3).map (·.bytes) = some 8 := by kernel_rfl
  obtain ⟨i, hi, hb⟩ := Option.map_eq_some_iff.1 h
  exact ⟨i, hi, hb⟩
section
variable {all : List Fv} {f : Fv}
/-- What lies there when the walker is made. -/
def Made1 (W : World) (bx : Nat) (f : Fv) (Al Aa : Option Addr) (len cl na ca : Nat) (a : Act) (W' : World) : Prop :=
  ∃ O M C : Nat, a = { tmps := #[.agg #[.string f.s, .int .i64 f.n, .int .i64 f.v, .int .i64 f.x, .slice Al len cl], .slice Aa na ca, .pointer (some ⟨bx, 0, none⟩), undef, .bool false, .pointer (some ⟨O, 0, none⟩), undef, .agg #[.string f.s, .int .i64 f.n, .int .i64 f.v, .int .i64 f.x, .slice Al len cl], .slice Aa na ca, .map (some M), .pointer (some ⟨bx, 4, none⟩), .slice Al len cl, .int .i64 (len : Int), .chan (some C), .agg #[.string f.s, .int .i64 f.n, .int .i64 f.v, .int .i64 f.x, .slice Al len cl, .slice Aa na ca, .map (some M), .chan (some C)], undef, undef, undef, undef, undef, undef, undef, undef, undef, undef, undef], defers := [] } ∧
    W'.heap[O]? = some (wkO f.s f.n f.v f.x (.slice Al len cl) (.slice Aa na ca) M C) ∧ W'.heap[M]? = some (.map #[] 0) ∧ W'.heap[C]? = some (.chan len #[] false 0 0 false) ∧ W.heap.size ≤ O ∧ W.heap.size ≤ M ∧ W.heap.size ≤ C ∧ O ≠ M ∧ O ≠ C ∧ M ≠ C ∧ Below W.heap.size W W'
/-- The loop's state: k places were taken. -/
def RnI (w : World) (bx O M C : Nat) (all : List Fv) (f : Fv) (Al Aa : Option Addr) (len cl na ca : Nat) (a : Act) (W : World) : Prop :=
  ∃ (k : Nat) (st : Vs) (u6 u15 u16 u17 u18 u19 u20 u21 u22 u23 u24 u25 : Value), a = { tmps := #[.agg #[.string f.s, .int .i64 f.n, .int .i64 f.v, .int .i64 f.x, .slice Al len cl], .slice Aa na ca, .pointer (some ⟨bx, 0, none⟩), undef, .bool false, .pointer (some ⟨O, 0, none⟩), u6, .agg #[.string f.s, .int .i64 f.n, .int .i64 f.v, .int .i64 f.x, .slice Al len cl], .slice Aa na ca, .map (some M), .pointer (some ⟨bx, 4, none⟩), .slice Al len cl, .int .i64 (len : Int), .chan (some C), .agg #[.string f.s, .int .i64 f.n, .int .i64 f.v, .int .i64 f.x, .slice Al len cl, .slice Aa na ca, .map (some M), .chan (some C)], u15, u16, u17, u18, u19, u20, u21, u22, u23, u24, u25], defers := [] } ∧ Wk w.heap.size O M C w f.s f.n f.v f.x (.slice Al len cl) (.slice Aa na ca) len k st W ∧ runL all f (len + 1 - k) st = runsB all f
/-- How many places may still be taken. -/
def takenOf (C len : Nat) (W : World) : Nat :=
  match W.heap[C]? with
  | some (.chan _ _ _ _ r _) => len + 1 - r
  | _ => 0
theorem taken_at {C len cap s r : Nat} {buf : Array Value} {cl tm : Bool} {W : World} (h : W.heap[C]? = some (.chan cap buf cl s r tm)) : takenOf C len W = len + 1 - r := by
  unfold takenOf; rw [h]
theorem map_new {W : World} {M : Nat} (h : W.heap[M]? = some (.map #[] 0)) : DMap M 0 [] W :=
  ⟨.map [], ⟨#[], 0, h, ⟨by simp, MapKept.stamped_empty 0, by simp⟩, Nat.le_refl _, rfl⟩, fun _ _ => ⟨rfl, rfl⟩⟩
theorem Wk.taken {B O M C : Nat} {w0 W : World} {s : ByteArray} {n v x : Int} {vl va : Value} {len k q : Nat} {D : List (Nat × Int)} {Q : List Nat} (h : Wk B O M C w0 s n v x vl va len k ⟨D, q :: Q⟩ W) (buf : Array Value) (hb : buf = (Q.map fun (q : Nat) => Value.int .i64 (q : Int)).toArray) : Wk B O M C w0 s n v x vl va len (k + 1) ⟨D, Q⟩ (W.setChan C len buf false D.length (k + 1) false) := by
  subst hb
  exact ⟨(chan_other _ _ _ _ _ _ _ _ _ (Ne.symm h.ne2)).trans h.box, h.map.kept (chan_grown _ _ _ _ _ _ _ _) (by simpa using h.ne3), chan_same h.chan, h.bO, h.bM, h.bC, h.ne1, h.ne2, h.ne3, chan_below h.bel h.bC, h.ok.pop.1⟩
set_option maxRecDepth 100000 in
set_option maxHeartbeats 8000000 in
theorem runs_any (Al Aa : Option Addr) (len cl na ca lo : Nat) (w : World) (hlen : f.L.length = len) (hl : len ≤ 1000000000) (hL : InV w.heap.size w (.slice Al len cl) f.L) (hall : FvV w.heap.size w (.slice Aa na ca) all) (hn : all.length = na) (hA : AllOk all) (hv : 0 ≤ f.v ∧ f.v ≤ 64) (hx : 0 ≤ f.x ∧ f.x ≤ 64) (ht : CT lo w) :
    Calls Tryd.prog 12 #[.agg #[.string f.s, .int .i64 f.n, .int .i64 f.v, .int .i64 f.x, .slice Al len cl], .slice Aa na ca] w fun e W' => e = .returned (.bool (runsB all f)) ∧ Below w.heap.size w W' := by
  have hcap : len ≤ cl := by obtain ⟨A1, c1, e1, h1, _⟩ := hL; injection e1 with _ e2 e3; omega
  have HL := Lib.hid hL
  have HALL := Lib.hid hall
  have HT := Lib.hid ht
  clear hL hall ht
  obtain ⟨ii, hii, hib⟩ := bytesI
  have hmc := fun (w : World) => run_makeChan (P := Tryd.prog) (w := w) Tryd.underlying70 hii .i64 len (by omega) (by rw [hib]; omega)
  have hmm := @run_makeMap Tryd.prog
  refine calls_of_at Tryd.func12 rfl ?_
  simp only [Tryd.ntmps12, List.size_toArray, List.length_cons, List.length_nil, Nat.reduceAdd, Nat.reduceSub, Array.replicate_succ,
     Array.replicate_zero, List.push_toArray, List.append_toArray, List.nil_append, List.cons_append]
  refine at_seq (at_wp ?_)
  go_wp2
  obtain ⟨W, hW⟩ : ∃ W, w.alloc (.cells #[.string f.s, .int .i64 f.n, .int .i64 f.v, .int .i64 f.x, .slice Al len cl] 45) = W := ⟨_, rfl⟩
  have hbx : W.heap[w.heap.size]? = some (.cells #[.string f.s, .int .i64 f.n, .int .i64 f.v, .int .i64 f.x, .slice Al len cl] 45) := by rw [← hW]; exact heap_alloc_new _ _
  have hbw : Below w.heap.size w W := by rw [← hW]; exact (Below.refl _ _).alloc (Nat.le_refl _) _
  rw [hW]
  clear hW
  have lbx := blk_lt hbx
  have KC := Lib.hid (fun (W' : World) (hb : Below W.heap.size W W') => (⟨(hb.cell (p := ⟨w.heap.size, 0, none⟩) lbx).trans ((blk_cell hbx 0).trans rfl), (hb.cell (p := ⟨w.heap.size, 1, none⟩) lbx).trans ((blk_cell hbx 1).trans rfl), (hb.cell (p := ⟨w.heap.size, 2, none⟩) lbx).trans ((blk_cell hbx 2).trans rfl), (hb.cell (p := ⟨w.heap.size, 3, none⟩) lbx).trans ((blk_cell hbx 3).trans rfl), (hb.cell (p := ⟨w.heap.size, 4, none⟩) lbx).trans ((blk_cell hbx 4).trans rfl)⟩ :
    W'.cell? ⟨w.heap.size, 0, none⟩ = some (.string f.s) ∧ W'.cell? ⟨w.heap.size, 1, none⟩ = some (.int .i64 f.n) ∧ W'.cell? ⟨w.heap.size, 2, none⟩ = some (.int .i64 f.v) ∧ W'.cell? ⟨w.heap.size, 3, none⟩ = some (.int .i64 f.x) ∧ W'.cell? ⟨w.heap.size, 4, none⟩ = some (.slice Al len cl)))
  clear hbx
  refine at_seq (at_wp ?_)
  refine wp_cut (Made1 W w.heap.size f Al Aa len cl na ca) ?_ ?_
  · refine wp_region_held_drew (S := fun W' => Below W.heap.size W W') (by kernel_rfl) (belowD (Below.refl _ _)) (fun hS0 => ?_)
    obtain ⟨W0, hW0⟩ : ∃ x, W.drew = x := ⟨_, rfl⟩
    rw [hW0] at hS0 ⊢
    clear hW0
    have hz0 := hS0.size
    refine wpAnyH_take (i := 0) (v := .agg #[.string f.s, .int .i64 f.n, .int .i64 f.v, .int .i64 f.x, .slice Al len cl]) rfl (by kernel_rfl) (by kernel_rfl) (by kernel_rfl) (fun _ _ _ h => by cases h.1) (Or.inl ⟨by rfl, ?_⟩) (by assumption) ?_
    · intro W' hSw
      obtain ⟨l0, l1, l2, l3, l4⟩ := KC.out W' hSw
      go_simp
    try simp only [Act.put, List.getElem_toArray, List.getElem_cons_zero, List.setIfInBounds_toArray, List.set_cons_zero, List.set_cons_succ]
    refine wpAnyH_take (i := 1) (v := .slice Aa na ca) rfl (by kernel_rfl) (by kernel_rfl) (by kernel_rfl) (fun _ _ _ h => by cases h.1) (Or.inl ⟨by rfl, ?_⟩) (by assumption) ?_
    · intro W' hSw
      obtain ⟨l0, l1, l2, l3, l4⟩ := KC.out W' hSw
      go_simp
    try simp only [Act.put, List.getElem_toArray, List.getElem_cons_zero, List.getElem_cons_succ, List.setIfInBounds_toArray, List.set_cons_zero, List.set_cons_succ]
    refine wpAnyH_take (i := 3) (v := .pointer (some ⟨w.heap.size, 4, none⟩)) rfl (by kernel_rfl) (by kernel_rfl) (by kernel_rfl) (fun _ _ _ h => by cases h.1) (Or.inl ⟨by rfl, ?_⟩) (by assumption) ?_
    · intro W' hSw
      obtain ⟨l0, l1, l2, l3, l4⟩ := KC.out W' hSw
      go_simp
    try simp only [Act.put, List.getElem_toArray, List.getElem_cons_zero, List.getElem_cons_succ, List.setIfInBounds_toArray, List.set_cons_zero, List.set_cons_succ]
    refine wpAnyH_take (i := 4) (v := .slice Al len cl) rfl (by kernel_rfl) (by kernel_rfl) (by kernel_rfl) (fun _ _ _ h => by cases h.1) (Or.inl ⟨by rfl, ?_⟩) (by assumption) ?_
    · intro W' hSw
      obtain ⟨l0, l1, l2, l3, l4⟩ := KC.out W' hSw
      go_simp
    try simp only [Act.put, List.getElem_toArray, List.getElem_cons_zero, List.getElem_cons_succ, List.setIfInBounds_toArray, List.set_cons_zero, List.set_cons_succ]
    refine wpAnyH_take (i := 5) (v := .int .i64 (len : Int)) rfl (by kernel_rfl) (by kernel_rfl) (by kernel_rfl) (fun _ _ _ h => by cases h.1) (Or.inl ⟨by rfl, ?_⟩) (by assumption) ?_
    · intro W' hSw
      obtain ⟨l0, l1, l2, l3, l4⟩ := KC.out W' hSw
      go_simp
    try simp only [Act.put, List.getElem_toArray, List.getElem_cons_zero, List.getElem_cons_succ, List.setIfInBounds_toArray, List.set_cons_zero, List.set_cons_succ]
    refine wpAnyH_ready (rs := [2, 6, 8]) (by kernel_rfl) (by simp) ?_
    refine AllReadyH.cons rfl (fun K hK => ?_) (AllReadyH.cons rfl (fun K hK => ?_) (AllReadyH.cons rfl (fun K hK => ?_) (AllReadyH.nil)))
    · go_simp
      obtain ⟨W1, hW1⟩ : ∃ x, W0.alloc (.map #[] 0) = x := ⟨_, rfl⟩
      have nM : W1.heap[W0.heap.size]? = some (.map #[] 0) := by rw [← hW1]; exact heap_alloc_new _ _
      have z1 : Hid (W1.heap.size = W0.heap.size + 1) := hid (by rw [← hW1, World.size_alloc])
      have hS1 : Below W.heap.size W W1 := by rw [← hW1]; exact hS0.alloc hS0.size _
      rw [hW1]
      refine hK.out _ _ hS1 (fun _ => ?_)
      clear hK K hW1
      try simp only [Act.put, List.getElem_toArray, List.getElem_cons_zero, List.getElem_cons_succ, List.setIfInBounds_toArray, List.set_cons_zero, List.set_cons_succ]
      refine wpAnyH_ready (rs := [6, 8]) (by kernel_rfl) (by simp) ?_
      refine AllReadyH.cons rfl (fun K hK => ?_) (AllReadyH.cons rfl (fun K hK => ?_) (AllReadyH.nil))
      · go_simp
        obtain ⟨W2, hW2⟩ : ∃ x, W1.alloc (.chan len #[] false 0 0 false) = x := ⟨_, rfl⟩
        have nC : W2.heap[W1.heap.size]? = some (.chan len #[] false 0 0 false) := by rw [← hW2]; exact heap_alloc_new _ _
        have z2 : Hid (W2.heap.size = W1.heap.size + 1) := hid (by rw [← hW2, World.size_alloc])
        have hS2 : Below W.heap.size W W2 := by rw [← hW2]; exact hS1.alloc hS1.size _
        have nM : W2.heap[W0.heap.size]? = some (.map #[] 0) := by rw [← hW2]; exact blk_alloc nM _
        rw [hW2]
        refine hK.out _ _ hS2 (fun _ => ?_)
        clear hK K hW2
        try simp only [Act.put, List.getElem_toArray, List.getElem_cons_zero, List.getElem_cons_succ, List.setIfInBounds_toArray, List.set_cons_zero, List.set_cons_succ]
        refine wpAnyH_take (i := 7) (v := .agg #[.string f.s, .int .i64 f.n, .int .i64 f.v, .int .i64 f.x, .slice Al len cl, .slice Aa na ca, .map (some W0.heap.size), .chan (some W1.heap.size)]) rfl (by kernel_rfl) (by kernel_rfl) (by kernel_rfl) (fun _ _ _ h => by cases h.1) (Or.inl ⟨by rfl, ?_⟩) (by assumption) ?_
        · intro W' hSw
          obtain ⟨l0, l1, l2, l3, l4⟩ := KC.out W' hSw
          go_simp
        try simp only [Act.put, List.getElem_toArray, List.getElem_cons_zero, List.getElem_cons_succ, List.setIfInBounds_toArray, List.set_cons_zero, List.set_cons_succ]
        refine wpAnyH_ready (rs := [8]) (by kernel_rfl) (by simp) ?_
        refine AllReadyH.cons rfl (fun K hK => ?_) (AllReadyH.nil)
        · go_simp
          obtain ⟨W3, hW3⟩ : ∃ x, W2.alloc (.cells #[.string ⟨#[]⟩, .int .i64 0, .int .i64 0, .int .i64 0, .slice none 0 0, .slice none 0 0, .map none, .chan none] 72) = x := ⟨_, rfl⟩
          have nO : W3.heap[W2.heap.size]? = some (.cells #[.string ⟨#[]⟩, .int .i64 0, .int .i64 0, .int .i64 0, .slice none 0 0, .slice none 0 0, .map none, .chan none] 72) := by rw [← hW3]; exact heap_alloc_new _ _
          have z3 : Hid (W3.heap.size = W2.heap.size + 1) := hid (by rw [← hW3, World.size_alloc])
          have hS3 : Below W.heap.size W W3 := by rw [← hW3]; exact hS2.alloc hS2.size _
          have nM : W3.heap[W0.heap.size]? = some (.map #[] 0) := by rw [← hW3]; exact blk_alloc nM _
          have nC : W3.heap[W1.heap.size]? = some (.chan len #[] false 0 0 false) := by rw [← hW3]; exact blk_alloc nC _
          have hzO : W.heap.size ≤ W2.heap.size := hS2.size
          rw [hW3]
          refine hK.out _ _ hS3 (fun _ => ?_)
          clear hK K hW3
          try simp only [Act.put, List.getElem_toArray, List.getElem_cons_zero, List.getElem_cons_succ, List.setIfInBounds_toArray, List.set_cons_zero, List.set_cons_succ]
          refine wpAnyH_ready (rs := [9]) (by kernel_rfl) (by simp) ?_
          refine AllReadyH.cons rfl (fun K hK => ?_) AllReadyH.nil
          have y0 : W3.cell? ⟨W2.heap.size, 0, none⟩ = some (.string ⟨#[]⟩) := (blk_cell nO 0).trans rfl
          have f0 := blk_frozen nO 0
          have y1 : W3.cell? ⟨W2.heap.size, 1, none⟩ = some (.int .i64 0) := (blk_cell nO 1).trans rfl
          have f1 := blk_frozen nO 1
          have y2 : W3.cell? ⟨W2.heap.size, 2, none⟩ = some (.int .i64 0) := (blk_cell nO 2).trans rfl
          have f2 := blk_frozen nO 2
          have y3 : W3.cell? ⟨W2.heap.size, 3, none⟩ = some (.int .i64 0) := (blk_cell nO 3).trans rfl
          have f3 := blk_frozen nO 3
          have y4 : W3.cell? ⟨W2.heap.size, 4, none⟩ = some (.slice none 0 0) := (blk_cell nO 4).trans rfl
          have f4 := blk_frozen nO 4
          have y5 : W3.cell? ⟨W2.heap.size, 5, none⟩ = some (.slice none 0 0) := (blk_cell nO 5).trans rfl
          have f5 := blk_frozen nO 5
          have y6 : W3.cell? ⟨W2.heap.size, 6, none⟩ = some (.map none) := (blk_cell nO 6).trans rfl
          have f6 := blk_frozen nO 6
          have y7 : W3.cell? ⟨W2.heap.size, 7, none⟩ = some (.chan none) := (blk_cell nO 7).trans rfl
          have f7 := blk_frozen nO 7
          have lt1 := blk_lt nO
          go_simp
          obtain ⟨W4, hW4⟩ : ∃ x, ((((((((W3.setCell ⟨W2.heap.size, 0, none⟩ (.string f.s)).setCell ⟨W2.heap.size, 1, none⟩ (.int .i64 f.n)).setCell ⟨W2.heap.size, 2, none⟩ (.int .i64 f.v)).setCell ⟨W2.heap.size, 3, none⟩ (.int .i64 f.x)).setCell ⟨W2.heap.size, 4, none⟩ (.slice Al len cl)).setCell ⟨W2.heap.size, 5, none⟩ (.slice Aa na ca)).setCell ⟨W2.heap.size, 6, none⟩ (.map (some W0.heap.size))).setCell ⟨W2.heap.size, 7, none⟩ (.chan (some W1.heap.size))) = x := ⟨_, rfl⟩
          have hW4 : set8 W3 W2.heap.size (.string f.s) (.int .i64 f.n) (.int .i64 f.v) (.int .i64 f.x) (.slice Al len cl) (.slice Aa na ca) (.map (some W0.heap.size)) (.chan (some W1.heap.size)) = W4 := hW4
          have nO4 : W4.heap[W2.heap.size]? = some (wkO f.s f.n f.v f.x (.slice Al len cl) (.slice Aa na ca) W0.heap.size W1.heap.size) := by rw [← hW4]; exact set8_same _ _ _ _ _ _ _ _ nO
          have z1 := z1.out
          have z2 := z2.out
          have z3 := z3.out
          have nM4 : W4.heap[W0.heap.size]? = some (.map #[] 0) := by rw [← hW4]; exact (set8_other _ _ _ _ _ _ _ _ (by omega)).trans nM
          have nC4 : W4.heap[W1.heap.size]? = some (.chan len #[] false 0 0 false) := by rw [← hW4]; exact (set8_other _ _ _ _ _ _ _ _ (by omega)).trans nC
          have hS4 : Below W.heap.size W W4 := by rw [← hW4]; exact set8_below _ _ _ _ _ _ _ _ hS3 hzO
          unfold set8 at hW4
          rw [hW4]
          refine hK.out _ _ hS4 (fun _ => ?_)
          clear hK K hW4
          try simp only [Act.put, List.getElem_toArray, List.getElem_cons_zero, List.getElem_cons_succ, List.setIfInBounds_toArray, List.set_cons_zero, List.set_cons_succ]
          refine wpAnyH_done (by kernel_rfl) ?_ _
          exact ⟨rfl, W2.heap.size, W0.heap.size, W1.heap.size, rfl, nO4, nM4, nC4, by omega, by omega, by omega, by omega, by omega, by omega, hS4⟩
      · go_simp
        obtain ⟨W2, hW2⟩ : ∃ x, W1.alloc (.cells #[.string ⟨#[]⟩, .int .i64 0, .int .i64 0, .int .i64 0, .slice none 0 0, .slice none 0 0, .map none, .chan none] 72) = x := ⟨_, rfl⟩
        have nO : W2.heap[W1.heap.size]? = some (.cells #[.string ⟨#[]⟩, .int .i64 0, .int .i64 0, .int .i64 0, .slice none 0 0, .slice none 0 0, .map none, .chan none] 72) := by rw [← hW2]; exact heap_alloc_new _ _
        have z2 : Hid (W2.heap.size = W1.heap.size + 1) := hid (by rw [← hW2, World.size_alloc])
        have hS2 : Below W.heap.size W W2 := by rw [← hW2]; exact hS1.alloc hS1.size _
        have nM : W2.heap[W0.heap.size]? = some (.map #[] 0) := by rw [← hW2]; exact blk_alloc nM _
        have hzO : W.heap.size ≤ W1.heap.size := hS1.size
        rw [hW2]
        refine hK.out _ _ hS2 (fun _ => ?_)
        clear hK K hW2
        try simp only [Act.put, List.getElem_toArray, List.getElem_cons_zero, List.getElem_cons_succ, List.setIfInBounds_toArray, List.set_cons_zero, List.set_cons_succ]
        refine wpAnyH_ready (rs := [6]) (by kernel_rfl) (by simp) ?_
        refine AllReadyH.cons rfl (fun K hK => ?_) (AllReadyH.nil)
        · go_simp
          obtain ⟨W3, hW3⟩ : ∃ x, W2.alloc (.chan len #[] false 0 0 false) = x := ⟨_, rfl⟩
          have nC : W3.heap[W2.heap.size]? = some (.chan len #[] false 0 0 false) := by rw [← hW3]; exact heap_alloc_new _ _
          have z3 : Hid (W3.heap.size = W2.heap.size + 1) := hid (by rw [← hW3, World.size_alloc])
          have hS3 : Below W.heap.size W W3 := by rw [← hW3]; exact hS2.alloc hS2.size _
          have nM : W3.heap[W0.heap.size]? = some (.map #[] 0) := by rw [← hW3]; exact blk_alloc nM _
          have nO : W3.heap[W1.heap.size]? = some (.cells #[.string ⟨#[]⟩, .int .i64 0, .int .i64 0, .int .i64 0, .slice none 0 0, .slice none 0 0, .map none, .chan none] 72) := by rw [← hW3]; exact blk_alloc nO _
          rw [hW3]
          refine hK.out _ _ hS3 (fun _ => ?_)
          clear hK K hW3
          try simp only [Act.put, List.getElem_toArray, List.getElem_cons_zero, List.getElem_cons_succ, List.setIfInBounds_toArray, List.set_cons_zero, List.set_cons_succ]
          refine wpAnyH_take (i := 7) (v := .agg #[.string f.s, .int .i64 f.n, .int .i64 f.v, .int .i64 f.x, .slice Al len cl, .slice Aa na ca, .map (some W0.heap.size), .chan (some W2.heap.size)]) rfl (by kernel_rfl) (by kernel_rfl) (by kernel_rfl) (fun _ _ _ h => by cases h.1) (Or.inl ⟨by rfl, ?_⟩) (by assumption) ?_
          · intro W' hSw
            obtain ⟨l0, l1, l2, l3, l4⟩ := KC.out W' hSw
            go_simp
          try simp only [Act.put, List.getElem_toArray, List.getElem_cons_zero, List.getElem_cons_succ, List.setIfInBounds_toArray, List.set_cons_zero, List.set_cons_succ]
          refine wpAnyH_ready (rs := [9]) (by kernel_rfl) (by simp) ?_
          refine AllReadyH.cons rfl (fun K hK => ?_) AllReadyH.nil
          have y0 : W3.cell? ⟨W1.heap.size, 0, none⟩ = some (.string ⟨#[]⟩) := (blk_cell nO 0).trans rfl
          have f0 := blk_frozen nO 0
          have y1 : W3.cell? ⟨W1.heap.size, 1, none⟩ = some (.int .i64 0) := (blk_cell nO 1).trans rfl
          have f1 := blk_frozen nO 1
          have y2 : W3.cell? ⟨W1.heap.size, 2, none⟩ = some (.int .i64 0) := (blk_cell nO 2).trans rfl
          have f2 := blk_frozen nO 2
          have y3 : W3.cell? ⟨W1.heap.size, 3, none⟩ = some (.int .i64 0) := (blk_cell nO 3).trans rfl
          have f3 := blk_frozen nO 3
          have y4 : W3.cell? ⟨W1.heap.size, 4, none⟩ = some (.slice none 0 0) := (blk_cell nO 4).trans rfl
          have f4 := blk_frozen nO 4
          have y5 : W3.cell? ⟨W1.heap.size, 5, none⟩ = some (.slice none 0 0) := (blk_cell nO 5).trans rfl
          have f5 := blk_frozen nO 5
          have y6 : W3.cell? ⟨W1.heap.size, 6, none⟩ = some (.map none) := (blk_cell nO 6).trans rfl
          have f6 := blk_frozen nO 6
          have y7 : W3.cell? ⟨W1.heap.size, 7, none⟩ = some (.chan none) := (blk_cell nO 7).trans rfl
          have f7 := blk_frozen nO 7
          have lt1 := blk_lt nO
          go_simp
          obtain ⟨W4, hW4⟩ : ∃ x, ((((((((W3.setCell ⟨W1.heap.size, 0, none⟩ (.string f.s)).setCell ⟨W1.heap.size, 1, none⟩ (.int .i64 f.n)).setCell ⟨W1.heap.size, 2, none⟩ (.int .i64 f.v)).setCell ⟨W1.heap.size, 3, none⟩ (.int .i64 f.x)).setCell ⟨W1.heap.size, 4, none⟩ (.slice Al len cl)).setCell ⟨W1.heap.size, 5, none⟩ (.slice Aa na ca)).setCell ⟨W1.heap.size, 6, none⟩ (.map (some W0.heap.size))).setCell ⟨W1.heap.size, 7, none⟩ (.chan (some W2.heap.size))) = x := ⟨_, rfl⟩
          have hW4 : set8 W3 W1.heap.size (.string f.s) (.int .i64 f.n) (.int .i64 f.v) (.int .i64 f.x) (.slice Al len cl) (.slice Aa na ca) (.map (some W0.heap.size)) (.chan (some W2.heap.size)) = W4 := hW4
          have nO4 : W4.heap[W1.heap.size]? = some (wkO f.s f.n f.v f.x (.slice Al len cl) (.slice Aa na ca) W0.heap.size W2.heap.size) := by rw [← hW4]; exact set8_same _ _ _ _ _ _ _ _ nO
          have z1 := z1.out
          have z2 := z2.out
          have z3 := z3.out
          have nM4 : W4.heap[W0.heap.size]? = some (.map #[] 0) := by rw [← hW4]; exact (set8_other _ _ _ _ _ _ _ _ (by omega)).trans nM
          have nC4 : W4.heap[W2.heap.size]? = some (.chan len #[] false 0 0 false) := by rw [← hW4]; exact (set8_other _ _ _ _ _ _ _ _ (by omega)).trans nC
          have hS4 : Below W.heap.size W W4 := by rw [← hW4]; exact set8_below _ _ _ _ _ _ _ _ hS3 hzO
          unfold set8 at hW4
          rw [hW4]
          refine hK.out _ _ hS4 (fun _ => ?_)
          clear hK K hW4
          try simp only [Act.put, List.getElem_toArray, List.getElem_cons_zero, List.getElem_cons_succ, List.setIfInBounds_toArray, List.set_cons_zero, List.set_cons_succ]
          refine wpAnyH_done (by kernel_rfl) ?_ _
          exact ⟨rfl, W1.heap.size, W0.heap.size, W2.heap.size, rfl, nO4, nM4, nC4, by omega, by omega, by omega, by omega, by omega, by omega, hS4⟩
    · go_simp
      obtain ⟨W1, hW1⟩ : ∃ x, W0.alloc (.chan len #[] false 0 0 false) = x := ⟨_, rfl⟩
      have nC : W1.heap[W0.heap.size]? = some (.chan len #[] false 0 0 false) := by rw [← hW1]; exact heap_alloc_new _ _
      have z1 : Hid (W1.heap.size = W0.heap.size + 1) := hid (by rw [← hW1, World.size_alloc])
      have hS1 : Below W.heap.size W W1 := by rw [← hW1]; exact hS0.alloc hS0.size _
      rw [hW1]
      refine hK.out _ _ hS1 (fun _ => ?_)
      clear hK K hW1
      try simp only [Act.put, List.getElem_toArray, List.getElem_cons_zero, List.getElem_cons_succ, List.setIfInBounds_toArray, List.set_cons_zero, List.set_cons_succ]
      refine wpAnyH_ready (rs := [2, 8]) (by kernel_rfl) (by simp) ?_
      refine AllReadyH.cons rfl (fun K hK => ?_) (AllReadyH.cons rfl (fun K hK => ?_) (AllReadyH.nil))
      · go_simp
        obtain ⟨W2, hW2⟩ : ∃ x, W1.alloc (.map #[] 0) = x := ⟨_, rfl⟩
        have nM : W2.heap[W1.heap.size]? = some (.map #[] 0) := by rw [← hW2]; exact heap_alloc_new _ _
        have z2 : Hid (W2.heap.size = W1.heap.size + 1) := hid (by rw [← hW2, World.size_alloc])
        have hS2 : Below W.heap.size W W2 := by rw [← hW2]; exact hS1.alloc hS1.size _
        have nC : W2.heap[W0.heap.size]? = some (.chan len #[] false 0 0 false) := by rw [← hW2]; exact blk_alloc nC _
        rw [hW2]
        refine hK.out _ _ hS2 (fun _ => ?_)
        clear hK K hW2
        try simp only [Act.put, List.getElem_toArray, List.getElem_cons_zero, List.getElem_cons_succ, List.setIfInBounds_toArray, List.set_cons_zero, List.set_cons_succ]
        refine wpAnyH_take (i := 7) (v := .agg #[.string f.s, .int .i64 f.n, .int .i64 f.v, .int .i64 f.x, .slice Al len cl, .slice Aa na ca, .map (some W1.heap.size), .chan (some W0.heap.size)]) rfl (by kernel_rfl) (by kernel_rfl) (by kernel_rfl) (fun _ _ _ h => by cases h.1) (Or.inl ⟨by rfl, ?_⟩) (by assumption) ?_
        · intro W' hSw
          obtain ⟨l0, l1, l2, l3, l4⟩ := KC.out W' hSw
          go_simp
        try simp only [Act.put, List.getElem_toArray, List.getElem_cons_zero, List.getElem_cons_succ, List.setIfInBounds_toArray, List.set_cons_zero, List.set_cons_succ]
        refine wpAnyH_ready (rs := [8]) (by kernel_rfl) (by simp) ?_
        refine AllReadyH.cons rfl (fun K hK => ?_) (AllReadyH.nil)
        · go_simp
          obtain ⟨W3, hW3⟩ : ∃ x, W2.alloc (.cells #[.string ⟨#[]⟩, .int .i64 0, .int .i64 0, .int .i64 0, .slice none 0 0, .slice none 0 0, .map none, .chan none] 72) = x := ⟨_, rfl⟩
          have nO : W3.heap[W2.heap.size]? = some (.cells #[.string ⟨#[]⟩, .int .i64 0, .int .i64 0, .int .i64 0, .slice none 0 0, .slice none 0 0, .map none, .chan none] 72) := by rw [← hW3]; exact heap_alloc_new _ _
          have z3 : Hid (W3.heap.size = W2.heap.size + 1) := hid (by rw [← hW3, World.size_alloc])
          have hS3 : Below W.heap.size W W3 := by rw [← hW3]; exact hS2.alloc hS2.size _
          have nC : W3.heap[W0.heap.size]? = some (.chan len #[] false 0 0 false) := by rw [← hW3]; exact blk_alloc nC _
          have nM : W3.heap[W1.heap.size]? = some (.map #[] 0) := by rw [← hW3]; exact blk_alloc nM _
          have hzO : W.heap.size ≤ W2.heap.size := hS2.size
          rw [hW3]
          refine hK.out _ _ hS3 (fun _ => ?_)
          clear hK K hW3
          try simp only [Act.put, List.getElem_toArray, List.getElem_cons_zero, List.getElem_cons_succ, List.setIfInBounds_toArray, List.set_cons_zero, List.set_cons_succ]
          refine wpAnyH_ready (rs := [9]) (by kernel_rfl) (by simp) ?_
          refine AllReadyH.cons rfl (fun K hK => ?_) AllReadyH.nil
          have y0 : W3.cell? ⟨W2.heap.size, 0, none⟩ = some (.string ⟨#[]⟩) := (blk_cell nO 0).trans rfl
          have f0 := blk_frozen nO 0
          have y1 : W3.cell? ⟨W2.heap.size, 1, none⟩ = some (.int .i64 0) := (blk_cell nO 1).trans rfl
          have f1 := blk_frozen nO 1
          have y2 : W3.cell? ⟨W2.heap.size, 2, none⟩ = some (.int .i64 0) := (blk_cell nO 2).trans rfl
          have f2 := blk_frozen nO 2
          have y3 : W3.cell? ⟨W2.heap.size, 3, none⟩ = some (.int .i64 0) := (blk_cell nO 3).trans rfl
          have f3 := blk_frozen nO 3
          have y4 : W3.cell? ⟨W2.heap.size, 4, none⟩ = some (.slice none 0 0) := (blk_cell nO 4).trans rfl
          have f4 := blk_frozen nO 4
          have y5 : W3.cell? ⟨W2.heap.size, 5, none⟩ = some (.slice none 0 0) := (blk_cell nO 5).trans rfl
          have f5 := blk_frozen nO 5
          have y6 : W3.cell? ⟨W2.heap.size, 6, none⟩ = some (.map none) := (blk_cell nO 6).trans rfl
          have f6 := blk_frozen nO 6
          have y7 : W3.cell? ⟨W2.heap.size, 7, none⟩ = some (.chan none) := (blk_cell nO 7).trans rfl
          have f7 := blk_frozen nO 7
          have lt1 := blk_lt nO
          go_simp
          obtain ⟨W4, hW4⟩ : ∃ x, ((((((((W3.setCell ⟨W2.heap.size, 0, none⟩ (.string f.s)).setCell ⟨W2.heap.size, 1, none⟩ (.int .i64 f.n)).setCell ⟨W2.heap.size, 2, none⟩ (.int .i64 f.v)).setCell ⟨W2.heap.size, 3, none⟩ (.int .i64 f.x)).setCell ⟨W2.heap.size, 4, none⟩ (.slice Al len cl)).setCell ⟨W2.heap.size, 5, none⟩ (.slice Aa na ca)).setCell ⟨W2.heap.size, 6, none⟩ (.map (some W1.heap.size))).setCell ⟨W2.heap.size, 7, none⟩ (.chan (some W0.heap.size))) = x := ⟨_, rfl⟩
          have hW4 : set8 W3 W2.heap.size (.string f.s) (.int .i64 f.n) (.int .i64 f.v) (.int .i64 f.x) (.slice Al len cl) (.slice Aa na ca) (.map (some W1.heap.size)) (.chan (some W0.heap.size)) = W4 := hW4
          have nO4 : W4.heap[W2.heap.size]? = some (wkO f.s f.n f.v f.x (.slice Al len cl) (.slice Aa na ca) W1.heap.size W0.heap.size) := by rw [← hW4]; exact set8_same _ _ _ _ _ _ _ _ nO
          have z1 := z1.out
          have z2 := z2.out
          have z3 := z3.out
          have nM4 : W4.heap[W1.heap.size]? = some (.map #[] 0) := by rw [← hW4]; exact (set8_other _ _ _ _ _ _ _ _ (by omega)).trans nM
          have nC4 : W4.heap[W0.heap.size]? = some (.chan len #[] false 0 0 false) := by rw [← hW4]; exact (set8_other _ _ _ _ _ _ _ _ (by omega)).trans nC
          have hS4 : Below W.heap.size W W4 := by rw [← hW4]; exact set8_below _ _ _ _ _ _ _ _ hS3 hzO
          unfold set8 at hW4
          rw [hW4]
          refine hK.out _ _ hS4 (fun _ => ?_)
          clear hK K hW4
          try simp only [Act.put, List.getElem_toArray, List.getElem_cons_zero, List.getElem_cons_succ, List.setIfInBounds_toArray, List.set_cons_zero, List.set_cons_succ]
          refine wpAnyH_done (by kernel_rfl) ?_ _
          exact ⟨rfl, W2.heap.size, W1.heap.size, W0.heap.size, rfl, nO4, nM4, nC4, by omega, by omega, by omega, by omega, by omega, by omega, hS4⟩
      · go_simp
        obtain ⟨W2, hW2⟩ : ∃ x, W1.alloc (.cells #[.string ⟨#[]⟩, .int .i64 0, .int .i64 0, .int .i64 0, .slice none 0 0, .slice none 0 0, .map none, .chan none] 72) = x := ⟨_, rfl⟩
        have nO : W2.heap[W1.heap.size]? = some (.cells #[.string ⟨#[]⟩, .int .i64 0, .int .i64 0, .int .i64 0, .slice none 0 0, .slice none 0 0, .map none, .chan none] 72) := by rw [← hW2]; exact heap_alloc_new _ _
        have z2 : Hid (W2.heap.size = W1.heap.size + 1) := hid (by rw [← hW2, World.size_alloc])
        have hS2 : Below W.heap.size W W2 := by rw [← hW2]; exact hS1.alloc hS1.size _
        have nC : W2.heap[W0.heap.size]? = some (.chan len #[] false 0 0 false) := by rw [← hW2]; exact blk_alloc nC _
        have hzO : W.heap.size ≤ W1.heap.size := hS1.size
        rw [hW2]
        refine hK.out _ _ hS2 (fun _ => ?_)
        clear hK K hW2
        try simp only [Act.put, List.getElem_toArray, List.getElem_cons_zero, List.getElem_cons_succ, List.setIfInBounds_toArray, List.set_cons_zero, List.set_cons_succ]
        refine wpAnyH_ready (rs := [2]) (by kernel_rfl) (by simp) ?_
        refine AllReadyH.cons rfl (fun K hK => ?_) (AllReadyH.nil)
        · go_simp
          obtain ⟨W3, hW3⟩ : ∃ x, W2.alloc (.map #[] 0) = x := ⟨_, rfl⟩
          have nM : W3.heap[W2.heap.size]? = some (.map #[] 0) := by rw [← hW3]; exact heap_alloc_new _ _
          have z3 : Hid (W3.heap.size = W2.heap.size + 1) := hid (by rw [← hW3, World.size_alloc])
          have hS3 : Below W.heap.size W W3 := by rw [← hW3]; exact hS2.alloc hS2.size _
          have nC : W3.heap[W0.heap.size]? = some (.chan len #[] false 0 0 false) := by rw [← hW3]; exact blk_alloc nC _
          have nO : W3.heap[W1.heap.size]? = some (.cells #[.string ⟨#[]⟩, .int .i64 0, .int .i64 0, .int .i64 0, .slice none 0 0, .slice none 0 0, .map none, .chan none] 72) := by rw [← hW3]; exact blk_alloc nO _
          rw [hW3]
          refine hK.out _ _ hS3 (fun _ => ?_)
          clear hK K hW3
          try simp only [Act.put, List.getElem_toArray, List.getElem_cons_zero, List.getElem_cons_succ, List.setIfInBounds_toArray, List.set_cons_zero, List.set_cons_succ]
          refine wpAnyH_take (i := 7) (v := .agg #[.string f.s, .int .i64 f.n, .int .i64 f.v, .int .i64 f.x, .slice Al len cl, .slice Aa na ca, .map (some W2.heap.size), .chan (some W0.heap.size)]) rfl (by kernel_rfl) (by kernel_rfl) (by kernel_rfl) (fun _ _ _ h => by cases h.1) (Or.inl ⟨by rfl, ?_⟩) (by assumption) ?_
          · intro W' hSw
            obtain ⟨l0, l1, l2, l3, l4⟩ := KC.out W' hSw
            go_simp
          try simp only [Act.put, List.getElem_toArray, List.getElem_cons_zero, List.getElem_cons_succ, List.setIfInBounds_toArray, List.set_cons_zero, List.set_cons_succ]
          refine wpAnyH_ready (rs := [9]) (by kernel_rfl) (by simp) ?_
          refine AllReadyH.cons rfl (fun K hK => ?_) AllReadyH.nil
          have y0 : W3.cell? ⟨W1.heap.size, 0, none⟩ = some (.string ⟨#[]⟩) := (blk_cell nO 0).trans rfl
          have f0 := blk_frozen nO 0
          have y1 : W3.cell? ⟨W1.heap.size, 1, none⟩ = some (.int .i64 0) := (blk_cell nO 1).trans rfl
          have f1 := blk_frozen nO 1
          have y2 : W3.cell? ⟨W1.heap.size, 2, none⟩ = some (.int .i64 0) := (blk_cell nO 2).trans rfl
          have f2 := blk_frozen nO 2
          have y3 : W3.cell? ⟨W1.heap.size, 3, none⟩ = some (.int .i64 0) := (blk_cell nO 3).trans rfl
          have f3 := blk_frozen nO 3
          have y4 : W3.cell? ⟨W1.heap.size, 4, none⟩ = some (.slice none 0 0) := (blk_cell nO 4).trans rfl
          have f4 := blk_frozen nO 4
          have y5 : W3.cell? ⟨W1.heap.size, 5, none⟩ = some (.slice none 0 0) := (blk_cell nO 5).trans rfl
          have f5 := blk_frozen nO 5
          have y6 : W3.cell? ⟨W1.heap.size, 6, none⟩ = some (.map none) := (blk_cell nO 6).trans rfl
          have f6 := blk_frozen nO 6
          have y7 : W3.cell? ⟨W1.heap.size, 7, none⟩ = some (.chan none) := (blk_cell nO 7).trans rfl
          have f7 := blk_frozen nO 7
          have lt1 := blk_lt nO
          go_simp
          obtain ⟨W4, hW4⟩ : ∃ x, ((((((((W3.setCell ⟨W1.heap.size, 0, none⟩ (.string f.s)).setCell ⟨W1.heap.size, 1, none⟩ (.int .i64 f.n)).setCell ⟨W1.heap.size, 2, none⟩ (.int .i64 f.v)).setCell ⟨W1.heap.size, 3, none⟩ (.int .i64 f.x)).setCell ⟨W1.heap.size, 4, none⟩ (.slice Al len cl)).setCell ⟨W1.heap.size, 5, none⟩ (.slice Aa na ca)).setCell ⟨W1.heap.size, 6, none⟩ (.map (some W2.heap.size))).setCell ⟨W1.heap.size, 7, none⟩ (.chan (some W0.heap.size))) = x := ⟨_, rfl⟩
          have hW4 : set8 W3 W1.heap.size (.string f.s) (.int .i64 f.n) (.int .i64 f.v) (.int .i64 f.x) (.slice Al len cl) (.slice Aa na ca) (.map (some W2.heap.size)) (.chan (some W0.heap.size)) = W4 := hW4
          have nO4 : W4.heap[W1.heap.size]? = some (wkO f.s f.n f.v f.x (.slice Al len cl) (.slice Aa na ca) W2.heap.size W0.heap.size) := by rw [← hW4]; exact set8_same _ _ _ _ _ _ _ _ nO
          have z1 := z1.out
          have z2 := z2.out
          have z3 := z3.out
          have nM4 : W4.heap[W2.heap.size]? = some (.map #[] 0) := by rw [← hW4]; exact (set8_other _ _ _ _ _ _ _ _ (by omega)).trans nM
          have nC4 : W4.heap[W0.heap.size]? = some (.chan len #[] false 0 0 false) := by rw [← hW4]; exact (set8_other _ _ _ _ _ _ _ _ (by omega)).trans nC
          have hS4 : Below W.heap.size W W4 := by rw [← hW4]; exact set8_below _ _ _ _ _ _ _ _ hS3 hzO
          unfold set8 at hW4
          rw [hW4]
          refine hK.out _ _ hS4 (fun _ => ?_)
          clear hK K hW4
          try simp only [Act.put, List.getElem_toArray, List.getElem_cons_zero, List.getElem_cons_succ, List.setIfInBounds_toArray, List.set_cons_zero, List.set_cons_succ]
          refine wpAnyH_done (by kernel_rfl) ?_ _
          exact ⟨rfl, W1.heap.size, W2.heap.size, W0.heap.size, rfl, nO4, nM4, nC4, by omega, by omega, by omega, by omega, by omega, by omega, hS4⟩
    · go_simp
      obtain ⟨W1, hW1⟩ : ∃ x, W0.alloc (.cells #[.string ⟨#[]⟩, .int .i64 0, .int .i64 0, .int .i64 0, .slice none 0 0, .slice none 0 0, .map none, .chan none] 72) = x := ⟨_, rfl⟩
      have nO : W1.heap[W0.heap.size]? = some (.cells #[.string ⟨#[]⟩, .int .i64 0, .int .i64 0, .int .i64 0, .slice none 0 0, .slice none 0 0, .map none, .chan none] 72) := by rw [← hW1]; exact heap_alloc_new _ _
      have z1 : Hid (W1.heap.size = W0.heap.size + 1) := hid (by rw [← hW1, World.size_alloc])
      have hS1 : Below W.heap.size W W1 := by rw [← hW1]; exact hS0.alloc hS0.size _
      have hzO : W.heap.size ≤ W0.heap.size := hS0.size
      rw [hW1]
      refine hK.out _ _ hS1 (fun _ => ?_)
      clear hK K hW1
      try simp only [Act.put, List.getElem_toArray, List.getElem_cons_zero, List.getElem_cons_succ, List.setIfInBounds_toArray, List.set_cons_zero, List.set_cons_succ]
      refine wpAnyH_ready (rs := [2, 6]) (by kernel_rfl) (by simp) ?_
      refine AllReadyH.cons rfl (fun K hK => ?_) (AllReadyH.cons rfl (fun K hK => ?_) (AllReadyH.nil))
      · go_simp
        obtain ⟨W2, hW2⟩ : ∃ x, W1.alloc (.map #[] 0) = x := ⟨_, rfl⟩
        have nM : W2.heap[W1.heap.size]? = some (.map #[] 0) := by rw [← hW2]; exact heap_alloc_new _ _
        have z2 : Hid (W2.heap.size = W1.heap.size + 1) := hid (by rw [← hW2, World.size_alloc])
        have hS2 : Below W.heap.size W W2 := by rw [← hW2]; exact hS1.alloc hS1.size _
        have nO : W2.heap[W0.heap.size]? = some (.cells #[.string ⟨#[]⟩, .int .i64 0, .int .i64 0, .int .i64 0, .slice none 0 0, .slice none 0 0, .map none, .chan none] 72) := by rw [← hW2]; exact blk_alloc nO _
        rw [hW2]
        refine hK.out _ _ hS2 (fun _ => ?_)
        clear hK K hW2
        try simp only [Act.put, List.getElem_toArray, List.getElem_cons_zero, List.getElem_cons_succ, List.setIfInBounds_toArray, List.set_cons_zero, List.set_cons_succ]
        refine wpAnyH_ready (rs := [6]) (by kernel_rfl) (by simp) ?_
        refine AllReadyH.cons rfl (fun K hK => ?_) (AllReadyH.nil)
        · go_simp
          obtain ⟨W3, hW3⟩ : ∃ x, W2.alloc (.chan len #[] false 0 0 false) = x := ⟨_, rfl⟩
          have nC : W3.heap[W2.heap.size]? = some (.chan len #[] false 0 0 false) := by rw [← hW3]; exact heap_alloc_new _ _
          have z3 : Hid (W3.heap.size = W2.heap.size + 1) := hid (by rw [← hW3, World.size_alloc])
          have hS3 : Below W.heap.size W W3 := by rw [← hW3]; exact hS2.alloc hS2.size _
          have nO : W3.heap[W0.heap.size]? = some (.cells #[.string ⟨#[]⟩, .int .i64 0, .int .i64 0, .int .i64 0, .slice none 0 0, .slice none 0 0, .map none, .chan none] 72) := by rw [← hW3]; exact blk_alloc nO _
          have nM : W3.heap[W1.heap.size]? = some (.map #[] 0) := by rw [← hW3]; exact blk_alloc nM _
          rw [hW3]
          refine hK.out _ _ hS3 (fun _ => ?_)
          clear hK K hW3
          try simp only [Act.put, List.getElem_toArray, List.getElem_cons_zero, List.getElem_cons_succ, List.setIfInBounds_toArray, List.set_cons_zero, List.set_cons_succ]
          refine wpAnyH_take (i := 7) (v := .agg #[.string f.s, .int .i64 f.n, .int .i64 f.v, .int .i64 f.x, .slice Al len cl, .slice Aa na ca, .map (some W1.heap.size), .chan (some W2.heap.size)]) rfl (by kernel_rfl) (by kernel_rfl) (by kernel_rfl) (fun _ _ _ h => by cases h.1) (Or.inl ⟨by rfl, ?_⟩) (by assumption) ?_
          · intro W' hSw
            obtain ⟨l0, l1, l2, l3, l4⟩ := KC.out W' hSw
            go_simp
          try simp only [Act.put, List.getElem_toArray, List.getElem_cons_zero, List.getElem_cons_succ, List.setIfInBounds_toArray, List.set_cons_zero, List.set_cons_succ]
          refine wpAnyH_ready (rs := [9]) (by kernel_rfl) (by simp) ?_
          refine AllReadyH.cons rfl (fun K hK => ?_) AllReadyH.nil
          have y0 : W3.cell? ⟨W0.heap.size, 0, none⟩ = some (.string ⟨#[]⟩) := (blk_cell nO 0).trans rfl
          have f0 := blk_frozen nO 0
          have y1 : W3.cell? ⟨W0.heap.size, 1, none⟩ = some (.int .i64 0) := (blk_cell nO 1).trans rfl
          have f1 := blk_frozen nO 1
          have y2 : W3.cell? ⟨W0.heap.size, 2, none⟩ = some (.int .i64 0) := (blk_cell nO 2).trans rfl
          have f2 := blk_frozen nO 2
          have y3 : W3.cell? ⟨W0.heap.size, 3, none⟩ = some (.int .i64 0) := (blk_cell nO 3).trans rfl
          have f3 := blk_frozen nO 3
          have y4 : W3.cell? ⟨W0.heap.size, 4, none⟩ = some (.slice none 0 0) := (blk_cell nO 4).trans rfl
          have f4 := blk_frozen nO 4
          have y5 : W3.cell? ⟨W0.heap.size, 5, none⟩ = some (.slice none 0 0) := (blk_cell nO 5).trans rfl
          have f5 := blk_frozen nO 5
          have y6 : W3.cell? ⟨W0.heap.size, 6, none⟩ = some (.map none) := (blk_cell nO 6).trans rfl
          have f6 := blk_frozen nO 6
          have y7 : W3.cell? ⟨W0.heap.size, 7, none⟩ = some (.chan none) := (blk_cell nO 7).trans rfl
          have f7 := blk_frozen nO 7
          have lt1 := blk_lt nO
          go_simp
          obtain ⟨W4, hW4⟩ : ∃ x, ((((((((W3.setCell ⟨W0.heap.size, 0, none⟩ (.string f.s)).setCell ⟨W0.heap.size, 1, none⟩ (.int .i64 f.n)).setCell ⟨W0.heap.size, 2, none⟩ (.int .i64 f.v)).setCell ⟨W0.heap.size, 3, none⟩ (.int .i64 f.x)).setCell ⟨W0.heap.size, 4, none⟩ (.slice Al len cl)).setCell ⟨W0.heap.size, 5, none⟩ (.slice Aa na ca)).setCell ⟨W0.heap.size, 6, none⟩ (.map (some W1.heap.size))).setCell ⟨W0.heap.size, 7, none⟩ (.chan (some W2.heap.size))) = x := ⟨_, rfl⟩
          have hW4 : set8 W3 W0.heap.size (.string f.s) (.int .i64 f.n) (.int .i64 f.v) (.int .i64 f.x) (.slice Al len cl) (.slice Aa na ca) (.map (some W1.heap.size)) (.chan (some W2.heap.size)) = W4 := hW4
          have nO4 : W4.heap[W0.heap.size]? = some (wkO f.s f.n f.v f.x (.slice Al len cl) (.slice Aa na ca) W1.heap.size W2.heap.size) := by rw [← hW4]; exact set8_same _ _ _ _ _ _ _ _ nO
          have z1 := z1.out
          have z2 := z2.out
          have z3 := z3.out
          have nM4 : W4.heap[W1.heap.size]? = some (.map #[] 0) := by rw [← hW4]; exact (set8_other _ _ _ _ _ _ _ _ (by omega)).trans nM
          have nC4 : W4.heap[W2.heap.size]? = some (.chan len #[] false 0 0 false) := by rw [← hW4]; exact (set8_other _ _ _ _ _ _ _ _ (by omega)).trans nC
          have hS4 : Below W.heap.size W W4 := by rw [← hW4]; exact set8_below _ _ _ _ _ _ _ _ hS3 hzO
          unfold set8 at hW4
          rw [hW4]
          refine hK.out _ _ hS4 (fun _ => ?_)
          clear hK K hW4
          try simp only [Act.put, List.getElem_toArray, List.getElem_cons_zero, List.getElem_cons_succ, List.setIfInBounds_toArray, List.set_cons_zero, List.set_cons_succ]
          refine wpAnyH_done (by kernel_rfl) ?_ _
          exact ⟨rfl, W0.heap.size, W1.heap.size, W2.heap.size, rfl, nO4, nM4, nC4, by omega, by omega, by omega, by omega, by omega, by omega, hS4⟩
      · go_simp
        obtain ⟨W2, hW2⟩ : ∃ x, W1.alloc (.chan len #[] false 0 0 false) = x := ⟨_, rfl⟩
        have nC : W2.heap[W1.heap.size]? = some (.chan len #[] false 0 0 false) := by rw [← hW2]; exact heap_alloc_new _ _
        have z2 : Hid (W2.heap.size = W1.heap.size + 1) := hid (by rw [← hW2, World.size_alloc])
        have hS2 : Below W.heap.size W W2 := by rw [← hW2]; exact hS1.alloc hS1.size _
        have nO : W2.heap[W0.heap.size]? = some (.cells #[.string ⟨#[]⟩, .int .i64 0, .int .i64 0, .int .i64 0, .slice none 0 0, .slice none 0 0, .map none, .chan none] 72) := by rw [← hW2]; exact blk_alloc nO _
        rw [hW2]
        refine hK.out _ _ hS2 (fun _ => ?_)
        clear hK K hW2
        try simp only [Act.put, List.getElem_toArray, List.getElem_cons_zero, List.getElem_cons_succ, List.setIfInBounds_toArray, List.set_cons_zero, List.set_cons_succ]
        refine wpAnyH_ready (rs := [2]) (by kernel_rfl) (by simp) ?_
        refine AllReadyH.cons rfl (fun K hK => ?_) (AllReadyH.nil)
        · go_simp
          obtain ⟨W3, hW3⟩ : ∃ x, W2.alloc (.map #[] 0) = x := ⟨_, rfl⟩
          have nM : W3.heap[W2.heap.size]? = some (.map #[] 0) := by rw [← hW3]; exact heap_alloc_new _ _
          have z3 : Hid (W3.heap.size = W2.heap.size + 1) := hid (by rw [← hW3, World.size_alloc])
          have hS3 : Below W.heap.size W W3 := by rw [← hW3]; exact hS2.alloc hS2.size _
          have nO : W3.heap[W0.heap.size]? = some (.cells #[.string ⟨#[]⟩, .int .i64 0, .int .i64 0, .int .i64 0, .slice none 0 0, .slice none 0 0, .map none, .chan none] 72) := by rw [← hW3]; exact blk_alloc nO _
          have nC : W3.heap[W1.heap.size]? = some (.chan len #[] false 0 0 false) := by rw [← hW3]; exact blk_alloc nC _
          rw [hW3]
          refine hK.out _ _ hS3 (fun _ => ?_)
          clear hK K hW3
          try simp only [Act.put, List.getElem_toArray, List.getElem_cons_zero, List.getElem_cons_succ, List.setIfInBounds_toArray, List.set_cons_zero, List.set_cons_succ]
          refine wpAnyH_take (i := 7) (v := .agg #[.string f.s, .int .i64 f.n, .int .i64 f.v, .int .i64 f.x, .slice Al len cl, .slice Aa na ca, .map (some W2.heap.size), .chan (some W1.heap.size)]) rfl (by kernel_rfl) (by kernel_rfl) (by kernel_rfl) (fun _ _ _ h => by cases h.1) (Or.inl ⟨by rfl, ?_⟩) (by assumption) ?_
          · intro W' hSw
            obtain ⟨l0, l1, l2, l3, l4⟩ := KC.out W' hSw
            go_simp
          try simp only [Act.put, List.getElem_toArray, List.getElem_cons_zero, List.getElem_cons_succ, List.setIfInBounds_toArray, List.set_cons_zero, List.set_cons_succ]
          refine wpAnyH_ready (rs := [9]) (by kernel_rfl) (by simp) ?_
          refine AllReadyH.cons rfl (fun K hK => ?_) AllReadyH.nil
          have y0 : W3.cell? ⟨W0.heap.size, 0, none⟩ = some (.string ⟨#[]⟩) := (blk_cell nO 0).trans rfl
          have f0 := blk_frozen nO 0
          have y1 : W3.cell? ⟨W0.heap.size, 1, none⟩ = some (.int .i64 0) := (blk_cell nO 1).trans rfl
          have f1 := blk_frozen nO 1
          have y2 : W3.cell? ⟨W0.heap.size, 2, none⟩ = some (.int .i64 0) := (blk_cell nO 2).trans rfl
          have f2 := blk_frozen nO 2
          have y3 : W3.cell? ⟨W0.heap.size, 3, none⟩ = some (.int .i64 0) := (blk_cell nO 3).trans rfl
          have f3 := blk_frozen nO 3
          have y4 : W3.cell? ⟨W0.heap.size, 4, none⟩ = some (.slice none 0 0) := (blk_cell nO 4).trans rfl
          have f4 := blk_frozen nO 4
          have y5 : W3.cell? ⟨W0.heap.size, 5, none⟩ = some (.slice none 0 0) := (blk_cell nO 5).trans rfl
          have f5 := blk_frozen nO 5
          have y6 : W3.cell? ⟨W0.heap.size, 6, none⟩ = some (.map none) := (blk_cell nO 6).trans rfl
          have f6 := blk_frozen nO 6
          have y7 : W3.cell? ⟨W0.heap.size, 7, none⟩ = some (.chan none) := (blk_cell nO 7).trans rfl
          have f7 := blk_frozen nO 7
          have lt1 := blk_lt nO
          go_simp
          obtain ⟨W4, hW4⟩ : ∃ x, ((((((((W3.setCell ⟨W0.heap.size, 0, none⟩ (.string f.s)).setCell ⟨W0.heap.size, 1, none⟩ (.int .i64 f.n)).setCell ⟨W0.heap.size, 2, none⟩ (.int .i64 f.v)).setCell ⟨W0.heap.size, 3, none⟩ (.int .i64 f.x)).setCell ⟨W0.heap.size, 4, none⟩ (.slice Al len cl)).setCell ⟨W0.heap.size, 5, none⟩ (.slice Aa na ca)).setCell ⟨W0.heap.size, 6, none⟩ (.map (some W2.heap.size))).setCell ⟨W0.heap.size, 7, none⟩ (.chan (some W1.heap.size))) = x := ⟨_, rfl⟩
          have hW4 : set8 W3 W0.heap.size (.string f.s) (.int .i64 f.n) (.int .i64 f.v) (.int .i64 f.x) (.slice Al len cl) (.slice Aa na ca) (.map (some W2.heap.size)) (.chan (some W1.heap.size)) = W4 := hW4
          have nO4 : W4.heap[W0.heap.size]? = some (wkO f.s f.n f.v f.x (.slice Al len cl) (.slice Aa na ca) W2.heap.size W1.heap.size) := by rw [← hW4]; exact set8_same _ _ _ _ _ _ _ _ nO
          have z1 := z1.out
          have z2 := z2.out
          have z3 := z3.out
          have nM4 : W4.heap[W2.heap.size]? = some (.map #[] 0) := by rw [← hW4]; exact (set8_other _ _ _ _ _ _ _ _ (by omega)).trans nM
          have nC4 : W4.heap[W1.heap.size]? = some (.chan len #[] false 0 0 false) := by rw [← hW4]; exact (set8_other _ _ _ _ _ _ _ _ (by omega)).trans nC
          have hS4 : Below W.heap.size W W4 := by rw [← hW4]; exact set8_below _ _ _ _ _ _ _ _ hS3 hzO
          unfold set8 at hW4
          rw [hW4]
          refine hK.out _ _ hS4 (fun _ => ?_)
          clear hK K hW4
          try simp only [Act.put, List.getElem_toArray, List.getElem_cons_zero, List.getElem_cons_succ, List.setIfInBounds_toArray, List.set_cons_zero, List.set_cons_succ]
          refine wpAnyH_done (by kernel_rfl) ?_ _
          exact ⟨rfl, W0.heap.size, W2.heap.size, W1.heap.size, rfl, nO4, nM4, nC4, by omega, by omega, by omega, by omega, by omega, by omega, hS4⟩
  · rintro _ W1 ⟨O, M, C, rfl, nO, nM, nC, bO, bM, bC, d1, d2, d3, hS1⟩
    simp only [Exit.then]
    have hwz := hbw.size
    have hwk0 : Wk w.heap.size O M C w f.s f.n f.v f.x (.slice Al len cl) (.slice Aa na ca) len 0 ⟨[], []⟩ W1 := ⟨nO, map_new nM, nC, by omega, by omega, by omega, d1, d2, d3, hbw.trans (hS1.mono hbw.size), VOk.nil len⟩
    have HW0 := Lib.hid hwk0
    clear hwk0 nO nM nC d1 d2 d3 hS1 hbw bO bM bC hmc
    refine at_seq (at_wp ?_)
    cases hr : Vs.reach len ⟨[], []⟩ 0 0 with
    | none =>
      have hs : runsB all f = false := by unfold runsB; rw [hlen, hr]
      have HS := Lib.hid hs
      have HR := Lib.hid hr
      clear hs hr
      go_wp2_with (go_at_call 24; ((with_reducible refine (reach_any 0 0 HW0.out (by omega) (Int.le_refl _) (by simp)).mono ?_); rintro e w2 ⟨rfl, r1, r2⟩; rw [HR.out]))
      go_ret
      exact ⟨by rw [HS.out]; rfl, r1⟩
    | some st1 =>
      have hs : runL all f (len + 1) st1 = runsB all f := by unfold runsB; rw [hlen, hr]
      have HS := Lib.hid hs
      have HR := Lib.hid hr
      clear hs hr
      go_wp2_with (go_at_call 24; ((with_reducible refine (reach_any 0 0 HW0.out (by omega) (Int.le_refl _) (by simp)).mono ?_); rintro e w2 ⟨rfl, r1, r2⟩; rw [HR.out]; have H2 := Lib.hid (r2 st1 HR.out); clear r1 r2))
      refine at_block ?_
      refine at_loop (RnI w w.heap.size O M C all f Al Aa len cl na ca) (fun _ W => takenOf C len W) ⟨0, st1, _, _, _, _, _, _, _, _, _, _, _, _, rfl, H2.out, HS.out⟩ ?_
      rintro _ W2 ⟨k, ⟨D, Q⟩, u6, u15, u16, u17, u18, u19, u20, u21, u22, u23, u24, u25, rfl, hwk, hrun⟩
      have HWK := Lib.hid hwk
      have HRUN := Lib.hid hrun
      have hch := hwk.chan
      have hcnt := hwk.ok.cnt
      have hsum := hwk.ok.sum
      have c7 : W2.cell? ⟨O, 7, none⟩ = some (.chan (some C)) := (blk_cell hwk.box 7).trans rfl
      simp only at hcnt hsum
      clear hwk hrun H2 HS HR
      refine at_block ?_
      refine at_seq (at_wp ?_)
      go_wp2
      refine at_seq ?_
      refine at_region ?_
      refine (show Ops Tryd.prog _ _ _ [0, 1, 2] _ _ from ?_)
      cases Q with
      | nil =>
        have hch : W2.heap[C]? = some (.chan len #[] false D.length k false) := hch
        refine ops_sel_none (callB_kind _) (z := .int .i64 0) (w' := W2) rfl rfl (by simp [go_sem, execOp, rcase, Act.eval]) hch ?_
        refine ops_val (v := .int .i64 (-1)) (w' := W2) rfl rfl (by go_simp) ?_
        refine ops_val (v := .bool false) (w' := W2) rfl rfl (by go_simp) ?_
        refine ops_nil ?_
        simp only [Exit.then]
        refine at_block ?_
        refine at_cond (t := false) rfl ?_
        simp only [Bool.false_eq_true, if_false]
        refine at_wp ?_
        go_wp2
        go_ret
        refine ⟨?_, HWK.out.bel⟩
        rw [← HRUN.out, show len + 1 - k = (len - k) + 1 by simp at hcnt; omega]
        rfl
      | cons q Q =>
        obtain ⟨j, hj⟩ : ∃ j, len + 1 - k = j + 1 := ⟨len - k, by simp at hcnt; omega⟩
        have hrun := HRUN.out
        rw [hj] at hrun
        obtain ⟨buf, hbuf⟩ : ∃ buf, (((q :: Q).map fun (q : Nat) => Value.int .i64 (q : Int)).toArray) = buf := ⟨_, rfl⟩
        have hb0 : buf.getD 0 undef = .int .i64 (q : Int) := by rw [← hbuf]; simp
        have hb1 : buf.extract 1 buf.size = (Q.map fun (q : Nat) => Value.int .i64 (q : Int)).toArray := by rw [← hbuf]; simp; exact List.take_of_length_le (by simp)
        have hb2 : 0 < buf.size := by rw [← hbuf]; simp
        have hch : W2.heap[C]? = some (.chan len buf false D.length k false) := by rw [← hbuf]; exact hch
        refine ops_sel_some (callB_kind _) (z := .int .i64 0) (w' := W2) rfl rfl (by simp [go_sem, execOp, rcase, Act.eval]) hch hb2 ?_
        rw [hb0]
        have hw3 := HWK.out.taken (buf.extract 1 buf.size) hb1
        obtain ⟨W3, hW3⟩ : ∃ W, W2.setChan C len (buf.extract 1 buf.size) false D.length (k + 1) false = W := ⟨_, rfl⟩
        rw [hW3] at hw3 ⊢
        refine ops_val (v := .int .i64 0) (w' := W3) rfl rfl (by go_simp) ?_
        refine ops_val (v := .bool true) (w' := W3) rfl rfl (by go_simp) ?_
        refine ops_nil ?_
        simp only [Exit.then]
        refine at_block ?_
        refine at_cond (t := true) rfl ?_
        simp only [if_true]
        obtain ⟨hok, d, p1, p2, p3, p4⟩ := HWK.out.ok.pop
        have HST := Lib.hid (step_any Al len q hw3 hlen p2 ⟨d, p1, p3, p4⟩ (by omega) HL.out HALL.out hn hA hv hx HT.out HT.out.lw (Nat.le_refl _))
        have htk : takenOf C len W2 = j + 1 := by rw [taken_at hch, hj]
        have HTK := Lib.hid htk
        clear hbuf hb0 hb1 hb2 hch hW3 hw3 hok p1 p2 p3 p4 htk c7 hsum
        refine at_wp ?_
        cases hst : Vs.step all f ⟨D, Q⟩ q with
        | none =>
          have hs : runsB all f = false := by rw [← hrun]; simp only [runL, hst]
          have HS := Lib.hid hs
          have HSS := Lib.hid hst
          clear hs hst hrun hcnt hj
          go_wp2_with (go_at_call 25; ((with_reducible refine HST.out.mono ?_); rintro e w4 ⟨rfl, s1, s2⟩; rw [HSS.out]))
          go_ret
          exact ⟨by rw [HS.out]; rfl, s1⟩
        | some st' =>
          have hs : runL all f j st' = runsB all f := by rw [← hrun]; simp only [runL, hst]
          have HS := Lib.hid hs
          have HSS := Lib.hid hst
          have HJ := Lib.hid hj
          clear hs hst hrun hcnt hj
          go_wp2_with (go_at_call 25; ((with_reducible refine HST.out.mono ?_); rintro e w4 ⟨rfl, s1, s2⟩; rw [HSS.out]; have H4 := Lib.hid (s2 st' HSS.out); clear s1 s2))
          have hj := HJ.out
          refine ⟨⟨k + 1, st', _, _, _, _, _, _, _, _, _, _, _, _, rfl, H4.out, by rw [show len + 1 - (k + 1) = j by omega]; exact HS.out⟩, ?_⟩
          have e4 := taken_at (len := len) H4.out.chan
          have e2 := HTK.out
          show takenOf C len w4 < takenOf C len W2
          rw [e4, e2]
          omega
end
end Go.Proofs.YtbgjlmcagdgpkaaDoor
