/-
  A heap beside the document's own.
-/
import Derived.Test.YtimpobfilihhmaaHqY
namespace Go.Proofs.Ytimpobfilihhmaa
open Go Go.RowKit Go.Lib

/-- A heap, the document's own, and a box beside them. -/
def Pw (W : World) (q : Nat) (x : Int) (g g' N : Nat) (A A' : List (List Int)) (c : Nat) (o : Obj) (w : World) : Prop :=
  ∃ F F', HpI F g q A w ∧ RpI F' g' x N A' w ∧ (∀ k ∈ F, k ∉ F' ∧ k ≠ c ∧ W.heap.size ≤ k) ∧ (∀ k ∈ F', k ∉ F ∧ k ≠ c ∧ W.heap.size ≤ k) ∧ w.heap[c]? = some o ∧ Below W.heap.size W w
section
variable {W : World} {q : Nat} {x : Int} {g g' N : Nat} {A A' : List (List Int)} {c : Nat} {o : Obj} {w : World}
theorem Pw.below (h : Pw W q x g g' N A A' c o w) : Below W.heap.size W w := by
  obtain ⟨F, F', h1, h2, h3, h4, h5, h6⟩ := h
  exact h6
theorem Pw.box (h : Pw W q x g g' N A A' c o w) : w.heap[c]? = some o := by
  obtain ⟨F, F', h1, h2, h3, h4, h5, h6⟩ := h
  exact h5
theorem Pw.drewN (h : Pw W q x g g' N A A' c o w) (n : Nat) : Pw W q x g g' N A A' c o (w.drewN n) := by
  obtain ⟨F, F', h1, h2, h3, h4, h5, h6⟩ := h
  exact ⟨F, F', h1.drewN n, h2.drewN n, h3, h4, h5, h6.trans ⟨rfl, rfl, rfl, Nat.le_refl _, fun _ _ => rfl⟩⟩
theorem Pw.grow (h : Pw W q x g g' N A A' c o w) {w' : World} (hb : Below w.heap.size w w') : Pw W q x g g' N A A' c o w' := by
  obtain ⟨F, F', h1, h2, h3, h4, h5, h6⟩ := h
  exact ⟨F, F', h1.below hb, h2.below hb, h3, h4, (hb.block c (blk_lt h5)).trans h5, h6.trans (hb.mono h6.size)⟩
theorem Pw.more (h : Pw W q x g g' N A A' c o w) {N' : Nat} (hN : N ≤ N') : Pw W q x g g' N' A A' c o w := by
  obtain ⟨F, F', h1, h2, h3, h4, h5, h6⟩ := h
  obtain ⟨vz, vp, P, g1, g2, g3, g4, g5, hP, hf⟩ := h2.row
  exact ⟨F, F', h1, ⟨h2.pos, h2.tot, h2.gF, h2.lt, vz, vp, P, g1, g2, g3, g4, g5, Nat.le_trans hP hN, hf⟩, h3, h4, h5, h6⟩
theorem fr_step {F F' F2 : List Nat} {w' : World} (hlt' : ∀ k ∈ F', k < w.heap.size) (hc : c < w.heap.size) (hW : W.heap.size ≤ w.heap.size) (h3 : ∀ k ∈ F, k ∉ F' ∧ k ≠ c ∧ W.heap.size ≤ k) (h4 : ∀ k ∈ F', k ∉ F ∧ k ≠ c ∧ W.heap.size ≤ k)
    (_ : Kf F w w') (k3 : ∀ k ∈ F2, k ∈ F ∨ w.heap.size ≤ k) : (∀ k ∈ F2, k ∉ F' ∧ k ≠ c ∧ W.heap.size ≤ k) ∧ (∀ k ∈ F', k ∉ F2 ∧ k ≠ c ∧ W.heap.size ≤ k) := by
  refine ⟨fun k hk => ?_, fun k hk => ⟨fun hm => ?_, (h4 k hk).2⟩⟩
  · rcases k3 k hk with h | h
    · exact h3 k h
    · exact ⟨fun hm => by have := hlt' k hm; omega, fun e => by omega, Nat.le_trans hW h⟩
  · rcases k3 k hm with h | h
    · exact (h4 k hk).1 h
    · have := hlt' k hk; omega
theorem Pw.make (h : Pw W q x g g' N A A' c o w) (n : Int) : Calls Try.prog 11 #[.pointer (some ⟨g, 0, none⟩), .int .i64 n] w fun e w' => e = .returned (.tuple #[.int .i64 (mkI q A n), .int .i64 (mkE q A n)]) ∧ Pw W q x g g' N (mkA q A n) A' c o w' := by
  obtain ⟨F, F', h1, h2, h3, h4, h5, h6⟩ := h
  refine (make_w h1 n).mono fun _ _ ⟨e, F2, k1, k2, k3⟩ => ⟨e, ?_⟩
  obtain ⟨j1, j2⟩ := fr_step h2.lt (blk_lt h5) h6.size h3 h4 k2 k3
  exact ⟨F2, F', k1, h2.keep k2 fun k hk => (h4 k hk).1, j1, j2, (k2.block c (blk_lt h5) fun hm => (h3 c hm).2.1 rfl).trans h5, h6.trans (k2.below (fun k hk => (h3 k hk).2.2) h6.size)⟩
theorem Pw.set (h : Pw W q x g g' N A A' c o w) (d i v : Int) : Calls Try.prog 13 #[.pointer (some ⟨g, 0, none⟩), .int .i64 d, .int .i64 i, .int .i64 v] w fun e w' => e = .returned (.bool (inR A d i)) ∧ Pw W q x g g' N (stA A d i v) A' c o w' := by
  obtain ⟨F, F', h1, h2, h3, h4, h5, h6⟩ := h
  refine (set_w h1 d i v).mono fun _ _ ⟨e, k1, k2⟩ => ⟨e, ?_⟩
  exact ⟨F, F', k1, h2.keep k2 fun k hk => (h4 k hk).1, h3, h4, (k2.block c (blk_lt h5) fun hm => (h3 c hm).2.1 rfl).trans h5, h6.trans (k2.below (fun k hk => (h3 k hk).2.2) h6.size)⟩
theorem Pw.rmake (h : Pw W q x g g' N A A' c o w) (hq : (min (max x 0) 1048576).toNat = q) (n : Int) : Calls Try.prog 12 #[.pointer (some ⟨g', 0, none⟩), .int .i64 n] w fun e w' => e = .returned (.tuple #[.int .i64 (mkI q A' n), .int .i64 (mkE q A' n)]) ∧ Pw W q x g g' N A (mkA q A' n) c o w' := by
  obtain ⟨F, F', h1, h2, h3, h4, h5, h6⟩ := h
  refine (rmake_w h2 hq n).mono fun _ _ ⟨e, F2, k1, k2, k3⟩ => ⟨e, ?_⟩
  obtain ⟨j1, j2⟩ := fr_step h1.lt (blk_lt h5) h6.size h4 h3 k2 k3
  exact ⟨F, F2, h1.keep k2 fun k hk => (h3 k hk).1, k1, j2, j1, (k2.block c (blk_lt h5) fun hm => (h4 c hm).2.1 rfl).trans h5, h6.trans (k2.below (fun k hk => (h4 k hk).2.2) h6.size)⟩
theorem Pw.rset (h : Pw W q x g g' N A A' c o w) (hN : N ≤ 1000) (d i v : Int) : Calls Try.prog 14 #[.pointer (some ⟨g', 0, none⟩), .int .i64 d, .int .i64 i, .int .i64 v] w fun e w' => e = .returned (.bool (inR A' d i)) ∧ Pw W q x g g' (N + 1) A (stA A' d i v) c o w' := by
  obtain ⟨F, F', h1, h2, h3, h4, h5, h6⟩ := h
  refine (rset_w h2 hN d i v).mono fun _ _ ⟨e, F2, k1, k2, k3⟩ => ⟨e, ?_⟩
  obtain ⟨j1, j2⟩ := fr_step h1.lt (blk_lt h5) h6.size h4 h3 k2 k3
  exact ⟨F, F2, h1.keep k2 fun k hk => (h3 k hk).1, k1, j2, j1, (k2.block c (blk_lt h5) fun hm => (h4 c hm).2.1 rfl).trans h5, h6.trans (k2.below (fun k hk => (h4 k hk).2.2) h6.size)⟩
theorem Pw.get (h : Pw W q x g g' N A A' c o w) (d i : Int) : Calls Try.prog 15 #[.pointer (some ⟨g, 0, none⟩), .int .i64 d, .int .i64 i] w fun e w' => e = .returned (.tuple #[.int .i64 (gtV A d i), .bool (inR A d i)]) ∧ Pw W q x g g' N A A' c o w' := by
  have h' := h
  obtain ⟨F, F', h1, -⟩ := h
  exact (get_w h1 d i).mono fun _ _ ⟨e, m, k⟩ => ⟨e, by rw [k]; exact h'.drewN m⟩
theorem Pw.rget (h : Pw W q x g g' N A A' c o w) (hN : N ≤ 1000) (d i : Int) : Calls Try.prog 16 #[.pointer (some ⟨g', 0, none⟩), .int .i64 d, .int .i64 i] w fun e w' => e = .returned (.tuple #[.int .i64 (gtV A' d i), .bool (inR A' d i)]) ∧ Pw W q x g g' N A A' c o w' := by
  have h' := h
  obtain ⟨F, F', h1, h2, -⟩ := h
  exact (rget_w h2 hN d i).mono fun _ _ ⟨e, k⟩ => ⟨e, h'.grow k⟩
theorem Pw.len (h : Pw W q x g g' N A A' c o w) (d : Int) : Calls Try.prog 19 #[.pointer (some ⟨g, 0, none⟩), .int .i64 d] w fun e w' => e = .returned (.int .i64 ((arr A d).length : Int)) ∧ ∃ m, w' = w.drewN m := by
  obtain ⟨F, F', h1, -⟩ := h
  exact len_w h1 d
theorem Pw.used (h : Pw W q x g g' N A A' c o w) : Calls Try.prog 17 #[.pointer (some ⟨g, 0, none⟩)] w fun e w' => e = .returned (.int .i64 (A.flatten.length : Int)) ∧ w' = w := by
  obtain ⟨F, F', h1, -⟩ := h
  exact used_w h1
theorem Pw.rlen (h : Pw W q x g g' N A A' c o w) (d : Int) : Calls Try.prog 20 #[.pointer (some ⟨g', 0, none⟩), .int .i64 d] w fun e w' => e = .returned (.int .i64 ((arr A' d).length : Int)) ∧ w' = w := by
  obtain ⟨F, F', h1, h2, -⟩ := h
  exact rlen_w h2 d
theorem Pw.rused (h : Pw W q x g g' N A A' c o w) : Calls Try.prog 18 #[.pointer (some ⟨g', 0, none⟩)] w fun e w' => e = .returned (.int .i64 (A'.flatten.length : Int)) ∧ w' = w := by
  obtain ⟨F, F', h1, h2, -⟩ := h
  exact rused_w h2
end
/-- Both have the same. -/
def P0 (W : World) (q : Nat) (x : Int) (g g' N : Nat) (A : List (List Int)) (w : World) : Prop :=
  ∃ F F', HpI F g q A w ∧ RpI F' g' x N A w ∧ (∀ k ∈ F, k ∉ F' ∧ W.heap.size ≤ k) ∧ (∀ k ∈ F', k ∉ F ∧ W.heap.size ≤ k) ∧ Below W.heap.size W w
theorem P0.below {W : World} {q : Nat} {x : Int} {g g' N : Nat} {A : List (List Int)} {w : World} (h : P0 W q x g g' N A w) : Below W.heap.size W w := by
  obtain ⟨F, F', h1, h2, h3, h4, h5⟩ := h
  exact h5
theorem Pw.p0 {W : World} {q : Nat} {x : Int} {g g' N : Nat} {A : List (List Int)} {c : Nat} {o : Obj} {w : World} (h : Pw W q x g g' N A A c o w) : P0 W q x g g' N A w := by
  obtain ⟨F, F', h1, h2, h3, h4, h5, h6⟩ := h
  exact ⟨F, F', h1, h2, fun k hk => ⟨(h3 k hk).1, (h3 k hk).2.2⟩, fun k hk => ⟨(h4 k hk).1, (h4 k hk).2.2⟩, h6⟩
theorem P0.box {W : World} {q : Nat} {x : Int} {g g' N : Nat} {A : List (List Int)} {w w' : World} (h : P0 W q x g g' N A w) (o : Obj) (hb : Below w.heap.size w w') (hc : w'.heap[w.heap.size]? = some o) : Pw W q x g g' N A A w.heap.size o w' := by
  obtain ⟨F, F', h1, h2, h3, h4, h5⟩ := h
  refine ⟨F, F', h1.below hb, h2.below hb, fun k hk => ⟨(h3 k hk).1, fun e => ?_, (h3 k hk).2⟩, fun k hk => ⟨(h4 k hk).1, fun e => ?_, (h4 k hk).2⟩, hc, h5.trans (hb.mono h5.size)⟩
  · have := h1.lt k hk; omega
  · have := h2.lt k hk; omega
theorem p0_new {W : World} {q g : Nat} {w : World} {x : Int} (h : Hs W q g [] w) : P0 W q x g w.heap.size 0 [] (w.alloc (rfO x (.slice none 0 0) (.slice none 0 0))) := by
  obtain ⟨F, h2, h3, h4⟩ := h
  have hb : Below w.heap.size w (w.alloc (rfO x (.slice none 0 0) (.slice none 0 0))) := (Below.refl _ _).alloc (Nat.le_refl _) _
  refine ⟨F, [w.heap.size], h2.below hb, ⟨fun a ha => (by cases ha), by simp, by simp, fun k hk => ?_, .slice none 0 0, .slice none 0 0, [], heap_alloc_new w _, World.ownsRow_nil _ 0 _ 1, World.ownsRow_nil _ 0 _ 3, fun _ h => (by cases h), fun _ h => (by cases h), Nat.le_refl _, fun _ _ _ => rfl, fun d i h0 h1 => ?_⟩, fun k hk => ⟨fun hm => ?_, h3 k hk⟩, fun k hk => ⟨fun hm => ?_, ?_⟩, h4.trans (hb.mono h4.size)⟩
  · rw [List.mem_singleton] at hk; subst hk; simp
  · rw [arr_out (fun h => absurd (Int.lt_of_le_of_lt h.1 h.2) (by decide))] at h1; exact absurd (Int.lt_of_le_of_lt h0 h1) (by decide)
  · rw [List.mem_singleton] at hm; have := h2.lt k hk; omega
  · rw [List.mem_singleton] at hk; have := h2.lt k hm; omega
  · rw [List.mem_singleton] at hk; have := h4.size; omega
end Go.Proofs.Ytimpobfilihhmaa
