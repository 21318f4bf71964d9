/-
  Steps that came in; two heaps beside each other.
-/
import Derived.Test.YtimpobfilihhmaaHqP
namespace Go.Proofs.Ytimpobfilihhmaa
open Go Go.RowKit Go.Lib

/-- A step: kind, id, place, number. -/
abbrev Stp := Int × Int × Int × Int
/-- Steps that came in. -/
def SRow (W : World) (X : Option Addr) (l : List Stp) : Prop := 0 < l.length → ∃ b o, X = some ⟨b, o, none⟩ ∧ b < W.heap.size ∧ ∀ i k d p v, l[i]? = some (k, d, p, v) →
  W.cell? ⟨b, o + i * 4, none⟩ = some (.int .i64 k) ∧ W.cell? ⟨b, o + i * 4 + 1, none⟩ = some (.int .i64 d) ∧ W.cell? ⟨b, o + i * 4 + 2, none⟩ = some (.int .i64 p) ∧ W.cell? ⟨b, o + i * 4 + 3, none⟩ = some (.int .i64 v)
theorem SRow.at_ {W w : World} {X : Option Addr} {l : List Stp} (h : SRow W X l) (hb : Below W.heap.size W w) {i : Nat} {k d p v : Int} (hi : l[i]? = some (k, d, p, v)) :
    ∃ b o, X = some ⟨b, o, none⟩ ∧ w.cell? ⟨b, o + i * 4, none⟩ = some (.int .i64 k) ∧ w.cell? ⟨b, o + i * 4 + 1, none⟩ = some (.int .i64 d) ∧ w.cell? ⟨b, o + i * 4 + 2, none⟩ = some (.int .i64 p) ∧ w.cell? ⟨b, o + i * 4 + 3, none⟩ = some (.int .i64 v) := by
  have hl : i < l.length := by
    rcases Nat.lt_or_ge i l.length with h' | h'
    · exact h'
    · rw [List.getElem?_eq_none h'] at hi; cases hi
  obtain ⟨b, o, rfl, hlt, hc⟩ := h (by omega)
  obtain ⟨c0, c1, c2, c3⟩ := hc i k d p v hi
  exact ⟨b, o, rfl, (hb.cell (p := ⟨b, _, none⟩) hlt).trans c0, (hb.cell (p := ⟨b, _, none⟩) hlt).trans c1, (hb.cell (p := ⟨b, _, none⟩) hlt).trans c2, (hb.cell (p := ⟨b, _, none⟩) hlt).trans c3⟩

/-- Two heaps of the call's own, and a box beside them. -/
def Tw (W : World) (q g g' : Nat) (A A' : List (List Int)) (c : Nat) (o : Obj) (w : World) : Prop :=
  ∃ F F', HpI F g q A w ∧ HpI F' g' q A' w ∧ (∀ k ∈ F, k ∉ F' ∧ k ≠ c ∧ W.heap.size ≤ k) ∧ (∀ k ∈ F', k ∉ F ∧ k ≠ c ∧ W.heap.size ≤ k) ∧ w.heap[c]? = some o ∧ Below W.heap.size W w
section
variable {W : World} {q g g' : Nat} {A A' : List (List Int)} {c : Nat} {o : Obj} {w : World}
theorem Tw.swap (h : Tw W q g g' A A' c o w) : Tw W q g' g A' A c o w := by
  obtain ⟨F, F', h1, h2, h3, h4, h5, h6⟩ := h
  exact ⟨F', F, h2, h1, h4, h3, h5, h6⟩
theorem Tw.below (h : Tw W q g g' A A' c o w) : Below W.heap.size W w := by
  obtain ⟨F, F', h1, h2, h3, h4, h5, h6⟩ := h
  exact h6
theorem Tw.box (h : Tw W q g g' A A' c o w) : w.heap[c]? = some o := by
  obtain ⟨F, F', h1, h2, h3, h4, h5, h6⟩ := h
  exact h5
theorem Tw.drewN (h : Tw W q g g' A A' c o w) (n : Nat) : Tw W q g g' A A' c o (w.drewN n) := by
  obtain ⟨F, F', h1, h2, h3, h4, h5, h6⟩ := h
  exact ⟨F, F', h1.drewN n, h2.drewN n, h3, h4, h5, h6.trans ⟨rfl, rfl, rfl, Nat.le_refl _, fun _ _ => rfl⟩⟩
theorem Tw.step {A2 : List (List Int)} {F F' F2 : List Nat} {w' : World} (h2 : HpI F' g' q A' w) (h3 : ∀ k ∈ F, k ∉ F' ∧ k ≠ c ∧ W.heap.size ≤ k) (h4 : ∀ k ∈ F', k ∉ F ∧ k ≠ c ∧ W.heap.size ≤ k) (h5 : w.heap[c]? = some o) (h6 : Below W.heap.size W w)
    (k1 : HpI F2 g q A2 w') (k2 : Kf F w w') (k3 : ∀ k ∈ F2, k ∈ F ∨ w.heap.size ≤ k) : Tw W q g g' A2 A' c o w' := by
  refine ⟨F2, F', k1, h2.keep k2 fun k hk => (h4 k hk).1, fun k hk => ?_, fun k hk => ⟨fun hm => ?_, (h4 k hk).2⟩, (k2.block c (blk_lt h5) fun hm => (h3 c hm).2.1 rfl).trans h5, h6.trans (k2.below (fun k hk => (h3 k hk).2.2) h6.size)⟩
  · rcases k3 k hk with h | h
    · exact h3 k h
    · exact ⟨fun hm => by have := h2.lt k hm; omega, fun e => by have := blk_lt h5; omega, Nat.le_trans h6.size h⟩
  · rcases k3 k hm with h | h
    · exact (h4 k hk).1 h
    · have := h2.lt k hk; omega
theorem Tw.make (h : Tw W q g g' A A' c o w) (x : Int) : Calls Try.prog 11 #[.pointer (some ⟨g, 0, none⟩), .int .i64 x] w fun e w' => e = .returned (.tuple #[.int .i64 (mkI q A x), .int .i64 (mkE q A x)]) ∧ Tw W q g g' (mkA q A x) A' c o w' := by
  obtain ⟨F, F', h1, h2, h3, h4, h5, h6⟩ := h
  exact (make_w h1 x).mono fun _ _ ⟨e, F2, k1, k2, k3⟩ => ⟨e, Tw.step h2 h3 h4 h5 h6 k1 k2 k3⟩
theorem Tw.set (h : Tw W q g g' A A' c o w) (id i v : Int) : Calls Try.prog 13 #[.pointer (some ⟨g, 0, none⟩), .int .i64 id, .int .i64 i, .int .i64 v] w fun e w' => e = .returned (.bool (inR A id i)) ∧ Tw W q g g' (stA A id i v) A' c o w' := by
  obtain ⟨F, F', h1, h2, h3, h4, h5, h6⟩ := h
  exact (set_w h1 id i v).mono fun _ _ ⟨e, k1, k2⟩ => ⟨e, Tw.step h2 h3 h4 h5 h6 k1 k2 fun k hk => .inl hk⟩
theorem Tw.get (h : Tw W q g g' A A' c o w) (id i : Int) : Calls Try.prog 15 #[.pointer (some ⟨g, 0, none⟩), .int .i64 id, .int .i64 i] w fun e w' => e = .returned (.tuple #[.int .i64 (gtV A id i), .bool (inR A id i)]) ∧ ∃ m, w' = w.drewN m := by
  obtain ⟨F, F', h1, -⟩ := h
  exact get_w h1 id i
theorem Tw.len (h : Tw W q g g' A A' c o w) (id : Int) : Calls Try.prog 19 #[.pointer (some ⟨g, 0, none⟩), .int .i64 id] w fun e w' => e = .returned (.int .i64 ((arr A id).length : Int)) ∧ ∃ m, w' = w.drewN m := by
  obtain ⟨F, F', h1, -⟩ := h
  exact len_w h1 id
theorem Tw.used (h : Tw W q g g' A A' c o w) : Calls Try.prog 17 #[.pointer (some ⟨g, 0, none⟩)] w fun e w' => e = .returned (.int .i64 (A.flatten.length : Int)) ∧ w' = w := by
  obtain ⟨F, F', h1, -⟩ := h
  exact used_w h1
end
/-- Two heaps alike. -/
def T0 (W : World) (q g g' : Nat) (A : List (List Int)) (w : World) : Prop :=
  ∃ F F', HpI F g q A w ∧ HpI F' g' q A w ∧ (∀ k ∈ F, k ∉ F' ∧ W.heap.size ≤ k) ∧ (∀ k ∈ F', k ∉ F ∧ W.heap.size ≤ k) ∧ Below W.heap.size W w
theorem T0.below {W : World} {q g g' : Nat} {A : List (List Int)} {w : World} (h : T0 W q g g' A w) : Below W.heap.size W w := by
  obtain ⟨F, F', h1, h2, h3, h4, h5⟩ := h
  exact h5
theorem Tw.t0 {W : World} {q g g' : Nat} {A : List (List Int)} {c : Nat} {o : Obj} {w : World} (h : Tw W q g g' A A c o w) : T0 W q g g' A w := by
  obtain ⟨F, F', h1, h2, h3, h4, h5, h6⟩ := h
  exact ⟨F, F', h1, h2, fun k hk => ⟨(h3 k hk).1, (h3 k hk).2.2⟩, fun k hk => ⟨(h4 k hk).1, (h4 k hk).2.2⟩, h6⟩
/-- A box beside two heaps. -/
theorem T0.box {W : World} {q g g' : Nat} {A : List (List Int)} {w w' : World} (h : T0 W q g g' A w) (o : Obj) (hb : Below w.heap.size w w') (hc : w'.heap[w.heap.size]? = some o) : Tw W q g g' A A w.heap.size o w' := by
  obtain ⟨F, F', h1, h2, h3, h4, h5⟩ := h
  refine ⟨F, F', h1.below hb, h2.below hb, fun k hk => ⟨(h3 k hk).1, fun e => ?_, (h3 k hk).2⟩, fun k hk => ⟨(h4 k hk).1, fun e => ?_, (h4 k hk).2⟩, hc, h5.trans (hb.mono h5.size)⟩
  · have := h1.lt k hk; omega
  · have := h2.lt k hk; omega
theorem t0_new {W : World} {q g : Nat} {w w' : World} {x : Int} (hq : (min (max x 0) 1048576).toNat = q) (h : Hs W q g [] w) (h1 : HpI [w.heap.size] w.heap.size (min (max x 0) 1048576).toNat [] w') (hb : Below w.heap.size w w') : T0 W q g w.heap.size [] w' := by
  obtain ⟨F, h2, h3, h4⟩ := h
  rw [hq] at h1
  refine ⟨F, [w.heap.size], h2.below hb, h1, fun k hk => ⟨fun hm => ?_, h3 k hk⟩, fun k hk => ⟨fun hm => ?_, ?_⟩, h4.trans (hb.mono h4.size)⟩
  · rw [List.mem_singleton] at hm; have := h2.lt k hk; omega
  · rw [List.mem_singleton] at hk; have := h2.lt k hm; omega
  · rw [List.mem_singleton] at hk; have := h4.size; omega
abbrev stO (k d p v : Int) : Obj := .cells #[.int .i64 k, .int .i64 d, .int .i64 p, .int .i64 v] 32
theorem st_cells {w : World} {c : Nat} {k d p v : Int} (h : w.heap[c]? = some (stO k d p v)) : w.cell? ⟨c, 0, none⟩ = some (.int .i64 k) ∧ w.cell? ⟨c, 1, none⟩ = some (.int .i64 d) ∧ w.cell? ⟨c, 2, none⟩ = some (.int .i64 p) ∧ w.cell? ⟨c, 3, none⟩ = some (.int .i64 v) :=
  ⟨(blk_cell h 0).trans rfl, (blk_cell h 1).trans rfl, (blk_cell h 2).trans rfl, (blk_cell h 3).trans rfl⟩
end Go.Proofs.Ytimpobfilihhmaa
