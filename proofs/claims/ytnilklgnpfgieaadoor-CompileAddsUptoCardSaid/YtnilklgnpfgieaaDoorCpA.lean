/-
  compile's writer in memory; add, land.
-/
import Derived.Test.YtnilklgnpfgieaaDoorSpL
import Derived.Test.YtnilklgnpfgieaaDoorReg
import Derived.StillTailTactics
import Derived.OneCell
import Derived.Deep.CutBlock
namespace Go.Proofs.YtnilklgnpfgieaaDoor
open Go Go.RowKit Go.Lib

/-- An instruction: op, a, n. -/
abbrev In3 := Int × Int × Int
def insV : List In3 → List Value
  | [] => []
  | (op, a, n) :: r => .int .i64 op :: .int .i64 a :: .int .i64 n :: insV r
theorem insV_len : ∀ l : List In3, (insV l).length = l.length * 3
  | [] => rfl
  | (_, _, _) :: r => by simp [insV, insV_len r]; omega
theorem insV_app : ∀ a b : List In3, insV (a ++ b) = insV a ++ insV b
  | [], _ => rfl
  | (_, _, _) :: r, b => by simp [insV, insV_app r b]
theorem insV_at : ∀ (l : List In3) (i : Nat) (op a n : Int), l[i]? = some (op, a, n) → (insV l)[i * 3]? = some (.int .i64 op) ∧ (insV l)[i * 3 + 1]? = some (.int .i64 a) ∧ (insV l)[i * 3 + 2]? = some (.int .i64 n)
  | [], i, _, _, _, h => by simp at h
  | (op', a', n') :: r, 0, op, a, n, h => by
    simp at h
    obtain ⟨rfl, rfl, rfl⟩ := h
    exact ⟨rfl, rfl, rfl⟩
  | (op', a', n') :: r, i + 1, op, a, n, h => by
    have := insV_at r i op a n (by simpa using h)
    rw [show (i + 1) * 3 = i * 3 + 3 by omega]
    simpa [insV] using this
theorem insV_set : ∀ (l : List In3) (i : Nat) (op a n z : Int), l[i]? = some (op, a, n) → (insV l).set (i * 3 + 1) (.int .i64 z) = insV (l.set i (op, z, n))
  | [], i, _, _, _, _, h => by simp at h
  | (op', a', n') :: r, 0, op, a, n, z, h => by
    simp at h
    obtain ⟨rfl, rfl, rfl⟩ := h
    rfl
  | (op', a', n') :: r, i + 1, op, a, n, z, h => by
    have := insV_set r i op a n z (by simpa using h)
    rw [show (i + 1) * 3 + 1 = i * 3 + 1 + 3 by omega]
    simpa [insV] using this
theorem insV_one : ∀ (l : List In3), ∀ u ∈ insV l, u.oneCell' = true
  | [], u, h => by cases h
  | (op, a, n) :: r, u, h => by
    simp only [insV, List.mem_cons] at h
    rcases h with rfl | rfl | rfl | h
    · rfl
    · rfl
    · rfl
    · exact insV_one r u h
theorem insInfo : (Tryd.prog.info? 43).map (fun i => (i.zero, i.size, i.bytes)) = some (some (.agg #[.int .i64 0, .int .i64 0, .int .i64 0]), 3, 24) := by kernel_rfl

abbrev wrO (s : Sp) (vv va : Value) (M : Nat) (vl : Value) : Obj := .cells #[.string s.s, .int .i64 s.n, vv, va, .map (some M), vl] 78
abbrev insO (op a n : Int) : Obj := .cells #[.int .i64 op, .int .i64 a, .int .i64 n] 43
/-- The writer that has written L. -/
structure WI (n N O : Nat) (w0 : World) (s : Sp) (vv va : Value) (M : Nat) (L : List In3) (W : World) : Prop where
  base : Below n w0 W
  n0 : n ≤ w0.heap.size
  hO : n ≤ O
  hN : O < N
  sz : N ≤ W.heap.size
  row : ∃ vl, W.heap[O]? = some (wrO s vv va M vl) ∧ W.ownsRow N 43 3 vl L.length (insV L)
/-- All that was there stays, but for the writer's box and instructions. -/
def Kw (O : Nat) (W W' : World) : Prop := W.heap.size ≤ W'.heap.size ∧ ∀ k cs t, t ≠ 43 → k ≠ O → W.heap[k]? = some (.cells cs t) → W'.heap[k]? = some (.cells cs t)
theorem Kw.refl (O : Nat) (W : World) : Kw O W W := ⟨Nat.le_refl _, fun _ _ _ _ _ h => h⟩
theorem Kw.trans {O : Nat} {W W' W'' : World} (h : Kw O W W') (h' : Kw O W' W'') : Kw O W W'' := ⟨Nat.le_trans h.1 h'.1, fun k cs t ht ho hk => h'.2 k cs t ht ho (h.2 k cs t ht ho hk)⟩
theorem Kw.below {O : Nat} {W W' : World} (hb : Below W.heap.size W W') : Kw O W W' := ⟨hb.size, fun k _ _ _ _ hk => (hb.block k (blk_lt hk)).trans hk⟩
section
variable {n N O : Nat} {w0 W W' : World} {s : Sp} {vv va : Value} {M : Nat} {L : List In3}
theorem WI.below (h : WI n N O w0 s vv va M L W) (hb : Below W.heap.size W W') : WI n N O w0 s vv va M L W' := by
  obtain ⟨vl, h1, h2⟩ := h.row
  exact ⟨h.base.trans (hb.mono (by have := h.sz; have := h.hO; have := h.hN; omega)), h.n0, h.hO, h.hN, Nat.le_trans h.sz hb.size, vl, blk_grown h1 (grown_none hb) (by simp), h2.kept (grown_none hb) (Classical.em _)⟩
theorem WI.alloc (h : WI n N O w0 s vv va M L W) (o : Obj) : WI n N O w0 s vv va M L (W.alloc o) := h.below ((Below.refl _ _).alloc (Nat.le_refl _) _)
end
theorem ins_ne {W : World} {base n k : Nat} {v : Value} {xs : List Value} {cs : Array Value} {t : TypeId} (h : W.ownsRow base 43 3 v n xs) (hk : W.heap[k]? = some (.cells cs t)) (ht : t ≠ 43) : some k ≠ v.ownBlock := own_ne h hk (Ne.symm ht)

set_option maxRecDepth 100000 in
set_option maxHeartbeats 4000000 in
/-- add. -/
theorem add_w {n N O : Nat} {w0 w : World} {s : Sp} {vv va : Value} {M : Nat} {L : List In3} (op a m : Int) (h : WI n N O w0 s vv va M L w) (hl : L.length ≤ 100000000) :
    Calls Tryd.prog 23 #[.pointer (some ⟨O, 0, none⟩), .agg #[.int .i64 op, .int .i64 a, .int .i64 m]] w fun e w' => e = .returned (.int .i64 L.length) ∧ WI n N O w0 s vv va M (L ++ [(op, a, m)]) w' ∧ Kw O w w' := by
  obtain ⟨i0, hi, hz0, hz1, hz2⟩ := info_parts insInfo
  obtain ⟨wa, hwa⟩ : ∃ wa, w.alloc (insO op a m) = wa := ⟨_, rfl⟩
  have hWa : WI n N O w0 s vv va M L wa := by rw [← hwa]; exact h.alloc _
  have hka : Kw O w wa := by rw [← hwa]; exact Kw.below ((Below.refl _ _).alloc (Nat.le_refl _) _)
  have hxa : wa.heap[w.heap.size]? = some (insO op a m) := by rw [← hwa]; exact heap_alloc_new _ _
  have hsw := h.sz
  have hNO := h.hN
  have hnO := h.hO
  have hza : wa.heap.size = w.heap.size + 1 := by rw [← hwa, World.size_alloc]
  obtain ⟨vl, hbx0, hown0⟩ := h.row
  have hglt : ∀ k, vl.ownBlock = some k → N ≤ k ∧ k < w.heap.size := fun k e => hown0.lt k e
  have hbx : wa.heap[O]? = some (wrO s vv va M vl) := by rw [← hwa]; exact blk_alloc hbx0 _
  have hown : wa.ownsRow N 43 3 vl L.length (insV L) := by rw [← hwa]; exact hown0.kept (World.grownBy_alloc w _ none) (Classical.em _)
  clear hbx0 hown0
  obtain ⟨len, hlen⟩ : ∃ len, L.length = len := ⟨_, rfl⟩
  rw [hlen] at hl hown ⊢
  obtain ⟨X, c, rfl⟩ := own_form hown
  have HI := Lib.hid hi
  have HZ0 := Lib.hid hz0
  have HWA := Lib.hid hWa
  have HK := Lib.hid hka
  have HL := Lib.hid hlen
  have KC := Lib.hid (fun (W' : World) (hs : W'.heap[O]? = some (wrO s vv va M (.slice X len c)) ∧ W'.heap[w.heap.size]? = some (insO op a m)) => (show W'.cell? ⟨O, 5, none⟩ = some (.slice X len c) ∧ W'.cell? ⟨w.heap.size, 0, none⟩ = some (.int .i64 op) ∧ W'.cell? ⟨w.heap.size, 1, none⟩ = some (.int .i64 a) ∧ W'.cell? ⟨w.heap.size, 2, none⟩ = some (.int .i64 m) from
    ⟨(blk_cell hs.1 5).trans rfl, (blk_cell hs.2 0).trans rfl, (blk_cell hs.2 1).trans rfl, (blk_cell hs.2 2).trans rfl⟩))
  have hmx : Tryd.prog.follows .mixedOrders = true := by kernel_rfl
  go_enter Tryd.func23, Tryd.ntmps23
  go_upto_region 1 with fail
  have hS0 : wa.drew.heap[O]? = some (wrO s vv va M (.slice X len c)) ∧ wa.drew.heap[w.heap.size]? = some (insO op a m) := ⟨hbx, hxa⟩
  have HO0 : Hid (wa.drew.ownsRow N 43 3 (.slice X len c) len (insV L)) := hid (own_drew hown)
  have hB0 : Below wa.heap.size wa wa.drew := belowD (Below.refl _ _)
  have hz0' : wa.drew.heap.size = w.heap.size + 1 := hza
  clear hwa hWa hka hi hz0 hown hlen h
  refine wp_region_late (fun W' => W'.heap[O]? = some (wrO s vv va M (.slice X len c)) ∧ W'.heap[w.heap.size]? = some (insO op a m)) 10 hmx ?_
  obtain ⟨W0, hW0⟩ : ∃ x, wa.drew = x := ⟨_, rfl⟩
  rw [hW0] at hS0 HO0 hB0 hz0' ⊢
  clear hW0
  refine AnyL.take 0 (.pointer (some ⟨O, 0, none⟩)) rfl (by kernel_rfl) (by kernel_rfl) (by kernel_rfl) (by kernel_rfl) (fun _ _ _ h => h) (Or.inl ⟨by rfl, ?_⟩) (by assumption) ?_
  · intro W' hSw
    obtain ⟨l0, l1, l2, l3⟩ := KC.out W' hSw
    go_simp
  try simp only [Act.put, List.getElem_toArray, List.getElem_cons_zero, List.setIfInBounds_toArray, List.set_cons_zero, List.set_cons_succ]
  refine AnyL.take 1 (.pointer (some ⟨O, 0, none⟩)) rfl (by kernel_rfl) (by kernel_rfl) (by kernel_rfl) (by kernel_rfl) (fun _ _ _ h => h) (Or.inl ⟨by rfl, ?_⟩) (by assumption) ?_
  · intro W' hSw
    obtain ⟨l0, l1, l2, l3⟩ := KC.out W' hSw
    go_simp
  try simp only [Act.put, List.getElem_toArray, List.getElem_cons_zero, List.getElem_cons_succ, List.setIfInBounds_toArray, List.set_cons_zero, List.set_cons_succ]
  refine AnyL.take 2 (.pointer (some ⟨O, 0, none⟩)) rfl (by kernel_rfl) (by kernel_rfl) (by kernel_rfl) (by kernel_rfl) (fun _ _ _ h => h) (Or.inl ⟨by rfl, ?_⟩) (by assumption) ?_
  · intro W' hSw
    obtain ⟨l0, l1, l2, l3⟩ := KC.out W' hSw
    go_simp
  try simp only [Act.put, List.getElem_toArray, List.getElem_cons_zero, List.getElem_cons_succ, List.setIfInBounds_toArray, List.set_cons_zero, List.set_cons_succ]
  refine AnyL.take 3 (.pointer (some ⟨O, 5, none⟩)) rfl (by kernel_rfl) (by kernel_rfl) (by kernel_rfl) (by kernel_rfl) (fun _ _ _ h => h) (Or.inl ⟨by rfl, ?_⟩) (by assumption) ?_
  · intro W' hSw
    obtain ⟨l0, l1, l2, l3⟩ := KC.out W' hSw
    go_simp
  try simp only [Act.put, List.getElem_toArray, List.getElem_cons_zero, List.getElem_cons_succ, List.setIfInBounds_toArray, List.set_cons_zero, List.set_cons_succ]
  refine AnyL.take 4 (.slice X len c) rfl (by kernel_rfl) (by kernel_rfl) (by kernel_rfl) (by kernel_rfl) (fun _ _ _ h => h) (Or.inl ⟨by rfl, ?_⟩) (by assumption) ?_
  · intro W' hSw
    obtain ⟨l0, l1, l2, l3⟩ := KC.out W' hSw
    go_simp
  try simp only [Act.put, List.getElem_toArray, List.getElem_cons_zero, List.getElem_cons_succ, List.setIfInBounds_toArray, List.set_cons_zero, List.set_cons_succ]
  refine AnyL.take 5 (.agg #[.int .i64 op, .int .i64 a, .int .i64 m]) rfl (by kernel_rfl) (by kernel_rfl) (by kernel_rfl) (by kernel_rfl) (fun _ _ _ h => h) (Or.inl ⟨by rfl, ?_⟩) (by assumption) ?_
  · intro W' hSw
    obtain ⟨l0, l1, l2, l3⟩ := KC.out W' hSw
    go_simp
  try simp only [Act.put, List.getElem_toArray, List.getElem_cons_zero, List.getElem_cons_succ, List.setIfInBounds_toArray, List.set_cons_zero, List.set_cons_succ]
  refine AnyL.next 6 (by kernel_rfl) rfl (fun K hK => ?_)
  go_simp
  have e1 := hB0.alloc hB0.size (insO op a m)
  have n1 := heap_alloc_new W0 (insO op a m)
  rw [hz0'] at n1
  have hS1 : (W0.alloc (insO op a m)).heap[O]? = some (wrO s vv va M (.slice X len c)) ∧ (W0.alloc (insO op a m)).heap[w.heap.size]? = some (insO op a m) := ⟨blk_alloc hS0.1 _, blk_alloc hS0.2 _⟩
  have HO1 : Hid ((W0.alloc (insO op a m)).ownsRow N 43 3 (.slice X len c) len (insV L)) := hid (HO0.out.kept (grown_none ((Below.refl _ _).alloc (Nat.le_refl _) _)) (Classical.em _))
  have s1 : (W0.alloc (insO op a m)).heap.size = w.heap.size + 2 := by rw [World.size_alloc, hz0']
  obtain ⟨W1, hw1⟩ : ∃ x, W0.alloc (insO op a m) = x := ⟨_, rfl⟩
  rw [hw1] at e1 n1 hS1 HO1 s1 ⊢
  clear hw1
  refine hK.out _ _ (fun _ => hS1) ?_
  clear hK K
  try simp only [Act.put, List.getElem_toArray, List.getElem_cons_zero, List.getElem_cons_succ, List.setIfInBounds_toArray, List.set_cons_zero, List.set_cons_succ]
  refine AnyL.next 7 (by kernel_rfl) rfl (fun K hK => ?_)
  refine step_append_own (E := _) rfl _ _ 38 rfl N 43 i0 _ 3 24 Tryd.underlying38 HI.out HZ0.out hz1 hz2 rfl (by decide) (.slice X len c) len (insV L) rfl HO1.out (some ⟨w.heap.size + 1, 0, none⟩) 1 1 (insV [(op, a, m)]) rfl (fun h => by cases h) rfl (blk_news n1) (insV_one _) (by unfold maxLen; omega) (by omega) (by omega) ?_
  intro v2 w2 hown2 hg2
  have hS2 : w2.heap[O]? = some (wrO s vv va M (.slice X len c)) ∧ w2.heap[w.heap.size]? = some (insO op a m) := ⟨blk_grown hS1.1 hg2 (ins_ne HO1.out hS1.1 (by decide)), blk_grown hS1.2 hg2 (fun e => by have := (hglt _ e.symm).2; omega)⟩
  obtain ⟨X2, c2, rfl⟩ := own_form hown2
  have HO2 := Lib.hid hown2
  have s2 := World.grownBy.size hg2
  have HG2 := Lib.hid hg2
  clear hown2 hg2
  refine hK.out _ _ (fun _ => hS2) ?_
  clear hK K
  try simp only [Act.put, List.getElem_toArray, List.getElem_cons_zero, List.getElem_cons_succ, List.setIfInBounds_toArray, List.set_cons_zero, List.set_cons_succ]
  refine AnyL.next 8 (by kernel_rfl) rfl (fun K hK => ?_)
  go_simp
  refine hK.out _ _ (fun _ => hS2) ?_
  clear hK K
  try simp only [Act.put, List.getElem_toArray, List.getElem_cons_zero, List.getElem_cons_succ, List.setIfInBounds_toArray, List.set_cons_zero, List.set_cons_succ]
  refine AnyL.next 9 (by kernel_rfl) rfl (fun K hK => ?_)
  go_simp
  refine hK.out _ _ (fun _ => hS2) ?_
  clear hK K
  try simp only [Act.put, List.getElem_toArray, List.getElem_cons_zero, List.getElem_cons_succ, List.setIfInBounds_toArray, List.set_cons_zero, List.set_cons_succ]
  refine AnyL.next 10 (by kernel_rfl) rfl (fun K hK => ?_)
  have y5 : w2.cell? ⟨O, 5, none⟩ = some (.slice X len c) := (blk_cell hS2.1 5).trans rfl
  have f5 := blk_frozen hS2.1 5
  have lt5 := blk_lt hS2.1
  go_simp
  refine hK.out _ _ (fun h => absurd rfl h) ?_
  clear hK K
  try simp only [Act.put, List.getElem_toArray, List.getElem_cons_zero, List.getElem_cons_succ, List.setIfInBounds_toArray, List.set_cons_zero, List.set_cons_succ]
  refine AnyL.done (by kernel_rfl) ?_
  obtain ⟨W3, hW3⟩ : ∃ x, w2.setCell ⟨O, 5, none⟩ (.slice X2 (len + 1) c2) = x := ⟨_, rfl⟩
  have hb3 : W3.heap[O]? = some (wrO s vv va M (.slice X2 (len + 1) c2)) := by rw [← hW3]; exact (blk_set hS2.1 5 _).trans rfl
  have z5 : W3.cell? ⟨O, 5, none⟩ = some (.slice X2 (len + 1) c2) := (blk_cell hb3 5).trans rfl
  rw [hW3]
  have HW3 := Lib.hid hW3
  have hsub : ((len + 1 : Nat) : Int) - 1 = (len : Int) := by omega
  clear hW3
  go_wp2
  go_ret
  have hwa1 : Below wa.heap.size wa W1 := e1
  have b1 : Below n w0 W1 := HWA.out.base.trans (hwa1.mono (by omega))
  have b2 : Below n w0 w2 := b1.grown HG2.out (by omega) (fun k hk => by have := (hglt k hk).1; omega)
  refine ⟨rfl, ⟨by rw [← HW3.out]; exact b2.setCell (p := ⟨O, 5, none⟩) (by simp only; omega) _, HWA.out.n0, hnO, hNO, ?_, _, hb3, ?_⟩, ?_, ?_⟩
  · rw [← HW3.out]; simp only [World.size_setCell]; omega
  · have h1 := own_set (a := ⟨O, 5, none⟩) HO2.out (ins_ne HO2.out hS2.1 (by decide)) (.slice X2 (len + 1) c2)
    rw [HW3.out, ← insV_app] at h1
    rw [List.length_append, HL.out]
    exact h1
  · rw [← HW3.out]; simp only [World.size_setCell]; omega
  · intro k cs t ht ho hk
    have k1 := HK.out.2 k cs t ht ho hk
    have k2 := (hwa1.block k (blk_lt k1)).trans k1
    have k3 := blk_grown k2 HG2.out (ins_ne HO1.out k2 ht)
    rw [← HW3.out]
    exact (Below.heap_setCell _ _ _ _ (by simpa using ho)).trans k3
end Go.Proofs.YtnilklgnpfgieaaDoor
