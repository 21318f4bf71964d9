/-
  A heap, plainly and in memory.
-/
import Derived.Test.YtimpobfilihhmaaHpZ
import Derived.Test.YtimpobfilihhmaaReg
import Derived.WalkKit
import Derived.Lib.Hide
import Derived.Lib.MinMax
import Derived.Shelf.RegionOpen
import Derived.StillTailTactics
import Derived.OneCell
import Derived.Deep.CutBlock
import Derived.BigQuiet
import Derived.Deep.QuietTactic
import Derived.Deep.DeepCutAuto
import Derived.Sort.EveryDepth
import Derived.Maps.AppendAt
namespace Go.Proofs.Ytimpobfilihhmaa
open Go Go.RowKit Go.Lib

/- What an array is, and where it lies in the row of all cells. -/
def off (A : List (List Int)) (i : Nat) : Nat := (A.take i).flatten.length
def ens : Nat → List (List Int) → List Int
  | _, [] => []
  | s, a :: r => ((s + a.length : Nat) : Int) :: ens (s + a.length) r
theorem ens_len : ∀ (s : Nat) (A : List (List Int)), (ens s A).length = A.length
  | _, [] => rfl
  | s, a :: r => by simp [ens, ens_len _ r]
theorem off_zero (A : List (List Int)) : off A 0 = 0 := by simp [off]
theorem off_succ : ∀ (A : List (List Int)) (i : Nat) (a : List Int), A[i]? = some a → off A (i + 1) = off A i + a.length
  | [], i, a, h => by simp at h
  | b :: r, 0, a, h => by
    simp at h
    subst h
    simp [off]
  | b :: r, i + 1, a, h => by
    have := off_succ r i a (by simpa using h)
    simp only [off, List.take_succ_cons, List.flatten_cons, List.length_append] at this ⊢
    omega
theorem ens_at : ∀ (A : List (List Int)) (s i : Nat), i < A.length → (ens s A)[i]? = some ((s + off A (i + 1) : Nat) : Int)
  | [], _, _, h => by simp at h
  | a :: r, s, 0, _ => by simp [ens, off]
  | a :: r, s, i + 1, h => by
    have := ens_at r (s + a.length) i (by simpa using h)
    simp only [ens, List.getElem?_cons_succ, this, off, List.take_succ_cons, List.flatten_cons, List.length_append]
    congr 2
    omega
theorem off_le (A : List (List Int)) (i : Nat) : off A i ≤ A.flatten.length := by
  unfold off
  conv => rhs; rw [← List.take_append_drop i A, List.flatten_append, List.length_append]
  omega
theorem cel_at : ∀ (A : List (List Int)) (i j : Nat) (a : List Int), A[i]? = some a → j < a.length → A.flatten[off A i + j]? = a[j]?
  | [], i, j, a, h, _ => by simp at h
  | b :: r, 0, j, a, h, hj => by
    simp at h
    subst h
    rw [off_zero, Nat.zero_add, List.flatten_cons, List.getElem?_append_left hj]
  | b :: r, i + 1, j, a, h, hj => by
    have := cel_at r i j a (by simpa using h) hj
    have e : off (b :: r) (i + 1) + j = b.length + (off r i + j) := by simp [off]; omega
    rw [e, List.flatten_cons, List.getElem?_append_right (by omega), Nat.add_sub_cancel_left]
    exact this
theorem cel_set : ∀ (A : List (List Int)) (i j : Nat) (a : List Int) (v : Int), A[i]? = some a → j < a.length → A.flatten.set (off A i + j) v = (A.set i (a.set j v)).flatten
  | [], i, j, a, v, h, _ => by simp at h
  | b :: r, 0, j, a, v, h, hj => by
    simp at h
    subst h
    rw [off_zero, Nat.zero_add, List.flatten_cons, List.set_cons_zero, List.flatten_cons, List.set_append, if_pos hj]
  | b :: r, i + 1, j, a, v, h, hj => by
    have := cel_set r i j a v (by simpa using h) hj
    have e : off (b :: r) (i + 1) + j = b.length + (off r i + j) := by simp [off]; omega
    rw [e, List.flatten_cons, List.set_cons_succ, List.flatten_cons, List.set_append, if_neg (by omega), Nat.add_sub_cancel_left, this]
theorem ens_set : ∀ (A : List (List Int)) (s i : Nat) (a b : List Int), A[i]? = some a → b.length = a.length → ens s (A.set i b) = ens s A
  | [], _, _, _, _, h, _ => by simp at h
  | c :: r, s, 0, a, b, h, hl => by
    simp at h
    subst h
    simp [ens, hl]
  | c :: r, s, i + 1, a, b, h, hl => by
    simp only [ens, List.set_cons_succ]
    rw [ens_set r _ i a b (by simpa using h) hl]
theorem ens_app : ∀ (A : List (List Int)) (s : Nat) (b : List Int), ens s (A ++ [b]) = ens s A ++ [((s + A.flatten.length + b.length : Nat) : Int)]
  | [], s, b => by simp [ens]
  | a :: r, s, b => by
    simp only [List.cons_append, ens, ens_app r]
    simp only [List.flatten_cons, List.length_append]
    rw [Nat.add_assoc s]
theorem len_tot : ∀ (A : List (List Int)), (∀ a ∈ A, 1 ≤ a.length) → A.length ≤ A.flatten.length
  | [], _ => by simp
  | a :: r, h => by
    have h1 := h a (by simp)
    have h2 := len_tot r fun b hb => h b (by simp [hb])
    simp only [List.length_cons, List.flatten_cons, List.length_append]
    omega

/- The calls, plainly. -/
def arr (A : List (List Int)) (id : Int) : List Int := if 0 ≤ id then A.getD id.toNat [] else []
def inR (A : List (List Int)) (id i : Int) : Bool := decide (0 ≤ i ∧ i < ((arr A id).length : Int))
def gtV (A : List (List Int)) (id i : Int) : Int := if inR A id i then (arr A id).getD i.toNat 0 else 0
def stA (A : List (List Int)) (id i v : Int) : List (List Int) := if inR A id i then A.set id.toNat ((arr A id).set i.toNat v) else A
def mkE (q : Nat) (A : List (List Int)) (n : Int) : Int := if n < 1 ∨ 4096 < n then 1 else if (q : Int) < (A.flatten.length : Int) + n then 9 else 0
def mkI (q : Nat) (A : List (List Int)) (n : Int) : Int := if mkE q A n = 0 then (A.length : Int) else 0
def mkA (q : Nat) (A : List (List Int)) (n : Int) : List (List Int) := if mkE q A n = 0 then A ++ [List.replicate n.toNat 0] else A
theorem arr_nat {A : List (List Int)} {k : Nat} {a : List Int} (h : A[k]? = some a) : arr A (k : Int) = a := by
  unfold arr
  rw [if_pos (by omega), Int.toNat_natCast, List.getD_eq_getElem?_getD, h]
  rfl
theorem arr_out {A : List (List Int)} {id : Int} (h : ¬ (0 ≤ id ∧ id < (A.length : Int))) : arr A id = [] := by
  unfold arr
  split
  · rw [List.getD_eq_getElem?_getD, List.getElem?_eq_none (by omega)]; rfl
  · rfl

/- The heap in memory. -/
def i64V (l : List Int) : List Value := l.map fun x => .int .i64 x
theorem i64V_len (l : List Int) : (i64V l).length = l.length := by simp [i64V]
theorem i64V_one (l : List Int) : ∀ u ∈ i64V l, u.oneCell' = true := by
  intro u hu
  obtain ⟨x, _, rfl⟩ := List.mem_map.1 hu
  rfl
theorem i64V_app (a b : List Int) : i64V (a ++ b) = i64V a ++ i64V b := by simp [i64V]
theorem i64V_set (l : List Int) (j : Nat) (v : Int) : (i64V l).set j (.int .i64 v) = i64V (l.set j v) := by simp [i64V, List.map_set]
theorem i64V_at {l : List Int} {j : Nat} {x : Int} (h : l[j]? = some x) : (i64V l)[j]? = some (.int .i64 x) := by simp [i64V, h]

abbrev hpO (q : Nat) (vc ve : Value) : Obj := .cells #[.int .i64 (q : Int), vc, ve] 53
/-- What stands but in the blocks F. -/
structure Kf (F : List Nat) (W W' : World) : Prop where
  os : W'.os = W.os
  tape : W'.tape = W.tape
  output : W'.output = W.output
  size : W.heap.size ≤ W'.heap.size
  block : ∀ k, k < W.heap.size → k ∉ F → W'.heap[k]? = W.heap[k]?
theorem Kf.refl (F : List Nat) (W : World) : Kf F W W := ⟨rfl, rfl, rfl, Nat.le_refl _, fun _ _ _ => rfl⟩
theorem Kf.drewN (F : List Nat) (W : World) (m : Nat) : Kf F W (W.drewN m) := ⟨rfl, rfl, rfl, Nat.le_refl _, fun _ _ _ => rfl⟩
theorem Kf.trans {F F' : List Nat} {W W' W'' : World} (h : Kf F W W') (h' : Kf F' W' W'') (hF : ∀ k ∈ F', k ∈ F ∨ W.heap.size ≤ k) : Kf F W W'' :=
  ⟨h'.os.trans h.os, h'.tape.trans h.tape, h'.output.trans h.output, Nat.le_trans h.size h'.size, fun k hk hn =>
    (h'.block k (Nat.lt_of_lt_of_le hk h.size) fun hm => (hF k hm).elim hn fun e => by omega).trans (h.block k hk hn)⟩
theorem Kf.of_below {W W' : World} (h : Below W.heap.size W W') (F : List Nat) : Kf F W W' := ⟨h.os, h.tape, h.output, h.size, fun k hk _ => h.block k hk⟩
theorem Kf.below {F : List Nat} {W W' : World} {n : Nat} (h : Kf F W W') (hF : ∀ k ∈ F, n ≤ k) (hn : n ≤ W.heap.size) : Below n W W' :=
  ⟨h.os, h.tape, h.output, h.size, fun k hk => h.block k (Nat.lt_of_lt_of_le hk hn) fun hm => by have := hF k hm; omega⟩
/-- The heap lies in the blocks F. -/
structure HpI (F : List Nat) (g q : Nat) (A : List (List Int)) (W : World) : Prop where
  q1 : q ≤ 1048576
  pos : ∀ a ∈ A, 1 ≤ a.length
  fit : A.flatten.length ≤ q
  gF : g ∈ F
  lt : ∀ k ∈ F, k < W.heap.size
  row : ∃ vc ve, W.heap[g]? = some (hpO q vc ve) ∧ W.ownsRow 0 2 1 vc A.flatten.length (i64V A.flatten) ∧ W.ownsRow 0 3 1 ve A.length (i64V (ens 0 A)) ∧ (∀ k, vc.ownBlock = some k → k ∈ F) ∧ (∀ k, ve.ownBlock = some k → k ∈ F)
theorem own_kf {F G : List Nat} {W W' : World} {base : Nat} {e : TypeId} {size n : Nat} {v : Value} {xs : List Value} (h : W.ownsRow base e size v n xs) (hF : ∀ k, v.ownBlock = some k → k ∈ F) (hk : Kf G W W') (hd : ∀ k ∈ F, k ∉ G) : W'.ownsRow base e size v n xs := by
  refine ⟨h.1, ?_⟩
  rcases h.2 with h2 | ⟨g, cap, cur, rfl, hb, hg, hr⟩
  · exact .inl h2
  · have hlt := (Array.getElem?_eq_some_iff.1 hg).1
    exact .inr ⟨g, cap, cur, rfl, hb, (hk.block g hlt (hd g (hF g rfl))).trans hg, hr⟩
theorem HpI.keep {F G : List Nat} {g q : Nat} {A : List (List Int)} {W W' : World} (h : HpI F g q A W) (hk : Kf G W W') (hd : ∀ k ∈ F, k ∉ G) : HpI F g q A W' := by
  obtain ⟨vc, ve, h1, h2, h3, h4, h5⟩ := h.row
  exact ⟨h.q1, h.pos, h.fit, h.gF, fun k hk' => Nat.lt_of_lt_of_le (h.lt k hk') hk.size, vc, ve, (hk.block g (h.lt g h.gF) (hd g h.gF)).trans h1, own_kf h2 h4 hk hd, own_kf h3 h5 hk hd, h4, h5⟩
theorem HpI.below {F : List Nat} {g q : Nat} {A : List (List Int)} {W W' : World} (h : HpI F g q A W) (hk : Below W.heap.size W W') : HpI F g q A W' := h.keep (Kf.of_below hk []) (fun _ _ => by simp)
theorem HpI.drewN {F : List Nat} {g q : Nat} {A : List (List Int)} {W : World} (h : HpI F g q A W) (m : Nat) : HpI F g q A (W.drewN m) := h.keep (Kf.drewN [] W m) (fun _ _ => by simp)

/- Blocks. -/
theorem blk_lt {W : World} {k : Nat} {o : Obj} (h : W.heap[k]? = some o) : k < W.heap.size := by
  rcases Nat.lt_or_ge k W.heap.size with h' | h'
  · exact h'
  · rw [Array.getElem?_eq_none h'] at h; cases h
theorem blk_cell {W : World} {k : Nat} {cs : Array Value} {t : TypeId} {fz : Nat × Nat} (h : W.heap[k]? = some (.cells cs t fz)) (i : Nat) : W.cell? ⟨k, i, none⟩ = cs[i]? := by
  simp [World.cell?, h]
theorem blk_frozen {W : World} {k : Nat} {cs : Array Value} {t : TypeId} (h : W.heap[k]? = some (.cells cs t)) (i : Nat) : W.frozen? ⟨k, i, none⟩ = false := by
  simp [World.frozen?, h]
theorem blk_set {w : World} {b : Nat} {cs : Array Value} {T : TypeId} {fr : Nat × Nat} (hb : w.heap[b]? = some (.cells cs T fr)) (o : Nat) (x : Value) : (w.setCell ⟨b, o, none⟩ x).heap[b]? = some (.cells (cs.setIfInBounds o x) T fr) := by
  simp [World.setCell, Array.getElem?_modify, hb]
theorem blk_alloc {W : World} {k : Nat} {o : Obj} (h : W.heap[k]? = some o) (o' : Obj) : (W.alloc o').heap[k]? = some o := (Below.heap_alloc W o' k (blk_lt h)).trans h
theorem blk_grown {W W' : World} {k : Nat} {o : Obj} {row : Option Nat} (h : W.heap[k]? = some o) (hg : W.grownBy W' row) (hne : some k ≠ row) : W'.heap[k]? = some o := (hg.block k (blk_lt h) hne).trans h
theorem own_form {w : World} {base : Nat} {e : TypeId} {size : Nat} {v : Value} {n : Nat} {xs : List Value} (h : w.ownsRow base e size v n xs) : ∃ A cap, v = .slice A n cap := by
  rcases h.2 with ⟨rfl, rfl⟩ | ⟨g, cap, _, rfl, _⟩
  · exact ⟨none, 0, rfl⟩
  · exact ⟨_, cap, rfl⟩
theorem own_cells {w : World} {base e size n : Nat} {v : Value} {xs : List Value} (h : w.ownsRow base e size v n xs) (hn : 0 < n) : ∃ g cap, v = .slice (some ⟨g, 0, none⟩) n cap ∧ n ≤ cap ∧ cap ≤ 9223372036854775807 ∧ g < w.heap.size ∧ ∀ m u, xs[m]? = some u → w.cell? ⟨g, m, none⟩ = some u := by
  rcases h.2 with ⟨rfl, rfl⟩ | ⟨g, cap, cur, rfl, hg, hh, hnc, hcm, hrest⟩
  · omega
  · refine ⟨g, cap, rfl, hnc, by unfold maxLen at hcm; omega, (h.lt g rfl).2, fun m u hu => ?_⟩
    have hc := h.cells (g := g) rfl m u hu
    rwa [show (⟨g, 0, none⟩ : Addr).add m = ⟨g, m, none⟩ by unfold Addr.add; split <;> simp_all] at hc
theorem own_ne {W : World} {base : Nat} {e t : TypeId} {size n k : Nat} {v : Value} {xs : List Value} {cs : Array Value} (h : W.ownsRow base e size v n xs) (hk : W.heap[k]? = some (.cells cs t)) (hne : e ≠ t) : some k ≠ v.ownBlock := by
  rcases h.2 with ⟨rfl, _⟩ | ⟨g, cap, cur, rfl, _, hg, _⟩
  · simp [Value.ownBlock]
  · intro hq
    simp only [Value.ownBlock, Option.some.injEq] at hq
    subst hq
    rw [hk] at hg
    injection hg with hg
    injection hg with _ h2 _
    exact hne h2.symm
theorem own_disj {W : World} {b1 b2 : Nat} {e1 e2 : TypeId} {s1 s2 n1 n2 : Nat} {v1 v2 : Value} {x1 x2 : List Value} (h1 : W.ownsRow b1 e1 s1 v1 n1 x1) (h2 : W.ownsRow b2 e2 s2 v2 n2 x2) (hne : e2 ≠ e1) : v1.ownBlock = none ∨ v1.ownBlock ≠ v2.ownBlock := by
  rcases h1.2 with ⟨rfl, _⟩ | ⟨g, cap, cur, rfl, _, hg, _⟩
  · exact .inl rfl
  · exact .inr (own_ne h2 hg hne)
theorem own_set {W : World} {base : Nat} {e : TypeId} {size n : Nat} {v : Value} {xs : List Value} (h : W.ownsRow base e size v n xs) {a : Addr} (hne : some a.block ≠ v.ownBlock) (u : Value) : (W.setCell a u).ownsRow base e size v n xs :=
  h.kept (row := some a.block) ⟨rfl, rfl, rfl, by simp, fun k _ hk => Below.heap_setCell W a u k (fun e => hk (by rw [e]))⟩ (.inr (Ne.symm hne))
theorem i64Info : (Try.prog.info? 2).map (fun i => (i.zero, i.size, i.bytes)) = some (some (.int .i64 0), 1, 8) := by kernel_rfl
theorem intInfo : (Try.prog.info? 3).map (fun i => (i.zero, i.size, i.bytes)) = some (some (.int .i64 0), 1, 8) := by kernel_rfl

set_option maxRecDepth 100000 in
set_option maxHeartbeats 1000000 in
/-- New. -/
theorem new_w (x : Int) (W : World) : Calls Try.prog 10 #[.int .i64 x] W fun e W' => e = .returned (.pointer (some ⟨W.heap.size, 0, none⟩)) ∧ HpI [W.heap.size] W.heap.size (min (max x 0) 1048576).toNat [] W' ∧ Below W.heap.size W W' := by
  go_enter Try.func10, Try.ntmps10
  go_wp2
  go_ret
  have hx : (((min (max x 0) 1048576).toNat : Nat) : Int) = min (max x 0) 1048576 := by omega
  refine ⟨rfl, ⟨by omega, fun _ h => (by cases h), Nat.zero_le _, by simp, fun k hk => (by simp at hk; subst hk; simp), .slice none 0 0, .slice none 0 0, ?_, ?_, ?_, fun _ h => (by cases h), fun _ h => (by cases h)⟩, (Below.refl _ _).alloc (Nat.le_refl _) _⟩
  · rw [hpO, hx]; exact heap_alloc_new W _
  · exact World.ownsRow_nil _ 0 _ 1
  · exact World.ownsRow_nil _ 0 _ 1
set_option maxRecDepth 100000 in
set_option maxHeartbeats 1000000 in
/-- Used. -/
theorem used_w {F : List Nat} {g q : Nat} {A : List (List Int)} {W : World} (h : HpI F g q A W) : Calls Try.prog 17 #[.pointer (some ⟨g, 0, none⟩)] W fun e W' => e = .returned (.int .i64 (A.flatten.length : Int)) ∧ W' = W := by
  obtain ⟨vc, ve, h1, h2, h3, -, -⟩ := h.row
  obtain ⟨Xc, cc, rfl⟩ := own_form h2
  have c1 : W.cell? ⟨g, 1, none⟩ = some (.slice Xc A.flatten.length cc) := (blk_cell h1 1).trans rfl
  clear h1 h2 h3 h
  generalize A.flatten.length = N at c1 ⊢
  go_enter Try.func17, Try.ntmps17
  go_wp2
  go_ret
  exact ⟨rfl, rfl⟩
end Go.Proofs.Ytimpobfilihhmaa
